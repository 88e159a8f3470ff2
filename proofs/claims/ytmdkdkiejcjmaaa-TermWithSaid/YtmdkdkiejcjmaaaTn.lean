import Derived.Test.YtmdkdkiejcjmaaaTm
/- The law TermVotes. -/
namespace Go.Proofs.Ytmdkdkiejcjmaaa
open Go.Joins Go.Deep Go.ChangeShapes Go.WideShapes Go.ChangeAt Go.RowKit
set_option maxRecDepth 100000 in
theorem vote_cells {H : Type} {enc : TypeId × Value → H} {w : World} {n : Nat} {c0 c1 : Value} {y : DataW H × List MemPlace} (h : DataW.trod enc Try.prog w 0 (fun _ => true) true n 59 [c0, c1] = some y) :
    ∃ (a : Int) (b : Bool), c0 = .int .i64 a ∧ c1 = .bool b := by
  obtain ⟨y0, y1, n2, _, _, h0, h1⟩ := trod_struct2 Try.underlying59 h
  have k : Try.prog.cellsOf 3 = 1 := by kernel_rfl
  have k4 : Try.prog.cellsOf 4 = 1 := by kernel_rfl
  dsimp only at h0 h1
  rw [k4] at h1
  obtain ⟨a, ha, _, wa⟩ := DataW.trod_int (cs := [c0]) Try.underlying3 h0
  obtain ⟨b, hb, _⟩ := DataW.trod_bool (cs := [c1]) Try.underlying4 h1
  simp only [List.cons.injEq, and_true] at ha hb
  exact ⟨a, b, ha, hb⟩
set_option maxRecDepth 100000 in
/-- An argument that is a slice of votes. -/
theorem open_votes {H : Type} {enc : TypeId × Value → H} {w : World} {v : Value} {d : DataW H} {p : List MemPlace} (hv : Value.okWide Try.prog w .any 0 55 v)
    (h : DataW.Trod enc Try.prog w 0 (fun _ => true) true 55 v d p) :
    ∃ (ao : Option Addr) (len cap : Nat) (l : List (Int × Bool)), v = .slice ao len cap ∧ len = l.length ∧ len ≤ cap ∧ Vts w ao l := by
  obtain ⟨a0, n0, c0', rfl⟩ := okWide_slice Try.underlying55 hv
  obtain ⟨fuel, hf⟩ := h
  rcases open_slice Try.underlying55 (by simpa [Value.cells] using hf) with ⟨h0, _⟩ | ⟨a, len, cap, m, n, D, Pl, hcs, hb, hl, hm, hmm, hx, hi⟩
  · simp only [List.cons.injEq, and_true] at h0
    exact ⟨none, 0, 0, [], h0, rfl, Nat.le_refl _, ⟨fun h => by simp at h⟩⟩
  · simp only [List.cons.injEq, and_true] at hcs
    have hC : Try.prog.cellsOf 59 = 2 := by kernel_rfl
    simp only [if_true] at hmm
    have key : ∀ i, ∃ q : Int × Bool, i < len → w.cell? (a.add (i * 2 + 0)) = some (.int .i64 q.1) ∧ w.cell? (a.add (i * 2 + 1)) = some (.bool q.2) := by
      intro i
      by_cases hin : i < len
      · obtain ⟨cs', hc, ht⟩ := hi i (by omega)
        rw [hC] at hc
        obtain ⟨v0, v1, rfl, e0, e1⟩ := cells_two hc
        obtain ⟨x, y, rfl, rfl⟩ := vote_cells ht
        rw [Go.Deep.add_add] at e0 e1
        exact ⟨(x, y), fun _ => ⟨e0, e1⟩⟩
      · exact ⟨(0, false), fun h => absurd h hin⟩
    obtain ⟨f, hf2⟩ := Classical.axiomOfChoice key
    refine ⟨some a, len, cap, (List.range len).map f, hcs, by simp, hl, ⟨fun h0 => ?_⟩⟩
    have h00 : 0 < len := by simpa using h0
    have hs := spot_none (hf2 0 h00).1
    have ha : a.add (0 * 2 + 0) = a := by simp [Addr.add]
    rw [ha] at hs
    obtain ⟨b, off, sp⟩ := a
    obtain ⟨rfl, hbs⟩ := hs
    refine ⟨b, off, rfl, hbs, fun i hil => ?_⟩
    have hil : i < len := by simpa using hil
    obtain ⟨k1, k2⟩ := hf2 i hil
    have eg : ((List.range len).map f).getD i (0, false) = f i := by simp [List.getD_eq_getElem?_getD, hil]
    rw [eg]
    rw [add_none] at k1 k2
    exact ⟨k1, k2⟩
theorem infoVtAll : (Try.prog.info? 59).map (fun i => (i.zero, i.size, i.bytes)) = some (some (.agg #[.int .i64 0, .bool false]), 2, 16) := by kernel_rfl
theorem info_vt : ∃ i, Try.prog.info? 59 = some i ∧ i.zero = some (.agg #[.int .i64 0, .bool false]) ∧ i.size = 2 ∧ i.bytes = 16 := by
  have h := infoVtAll
  cases hi : Try.prog.info? 59 with
  | none => rw [hi] at h; cases h
  | some i =>
    rw [hi] at h
    simp only [Option.map_some, Option.some.injEq, Prod.mk.injEq] at h
    exact ⟨i, rfl, h.1, h.2.1, h.2.2⟩
theorem vflat_one (L : List (Int × Bool)) : ∀ v ∈ vflat L, v.oneCell' = true := by
  intro v hv
  simp only [vflat, List.mem_flatMap] at hv
  obtain ⟨x, -, hv⟩ := hv
  simp only [List.mem_cons, List.not_mem_nil, or_false] at hv
  rcases hv with rfl | rfl <;> simp [Value.oneCell']
theorem vflat_get {L : List (Int × Bool)} {j : Nat} {u : Value} (h : (vflat L)[j]? = some u) : ∃ k, k < L.length ∧ ((j = k * 2 ∧ u = .int .i64 (L.getD k (0, false)).1) ∨ (j = k * 2 + 1 ∧ u = .bool (L.getD k (0, false)).2)) := by
  have hj := (List.getElem?_eq_some_iff.1 h).1
  rw [vflat_length] at hj
  have hk : j / 2 < L.length := by omega
  have ha := vflat_at hk
  refine ⟨j / 2, hk, ?_⟩
  rw [List.getD_eq_getElem?_getD, List.getElem?_eq_getElem hk]
  rcases Nat.mod_two_eq_zero_or_one j with e | e
  · have : j = j / 2 * 2 := by omega
    left
    refine ⟨this, ?_⟩
    rw [this, ha.1] at h
    simpa using h.symm
  · have : j = j / 2 * 2 + 1 := by omega
    right
    refine ⟨this, ?_⟩
    rw [this, ha.2] at h
    simpa using h.symm
theorem vts_flat {w : World} {ad : Addr} {l : List (Int × Bool)} (h : Vts w (some ad) l) : ∀ j u, (vflat l)[j]? = some u → w.cell? (ad.add j) = some u := by
  intro j u hj
  obtain ⟨k, hk, hc⟩ := vflat_get hj
  obtain ⟨b, off, e, hb, hcc⟩ := h.cells (by omega)
  cases e
  rw [add_off]
  rcases hc with ⟨rfl, rfl⟩ | ⟨rfl, rfl⟩
  · exact (hcc k hk).1
  · have := (hcc k hk).2
    rw [Nat.add_assoc] at this
    exact this
/-- Votes of one's own: each Yes can be written. -/
theorem own_vts {w : World} {base n : Nat} {e : TypeId} {v : Value} {l : List (Int × Bool)} (h : w.ownsRow base e 2 v n (vflat l)) (hn : n = l.length) (h0 : 0 < n) :
    ∃ g cap, v = .slice (some ⟨g, 0, none⟩) n cap ∧ base ≤ g ∧ g < w.heap.size ∧ n ≤ cap ∧ Vts w (some ⟨g, 0, none⟩) l ∧ ∀ i, i < n → w.cell? ⟨g, i * 2 + 1, none⟩ = some (.bool (l.getD i (0, false)).2) ∧ w.frozen? ⟨g, i * 2 + 1, none⟩ = false ∧
      ∀ b : Bool, Vts (w.setCell ⟨g, i * 2 + 1, none⟩ (.bool b)) (some ⟨g, 0, none⟩) (l.set i ((l.getD i (0, false)).1, b)) := by
  obtain ⟨h1, ⟨_, h2⟩ | ⟨g, cap, cur, rfl, hb, hg, hnc, hcm, hcs, htk⟩⟩ := h
  · omega
  · have hat : ∀ (j : Nat) (u : Value), (vflat l)[j]? = some u → cur[j]? = some u := by
      intro j u hu
      rw [← htk] at hu
      have hj : j < n * 2 := by
        have := (List.getElem?_eq_some_iff.1 hu).1
        rw [List.length_take] at this; omega
      rw [List.getElem?_take, if_pos hj] at hu
      simpa using hu
    have hV : ∀ i, i < l.length → cur[i * 2]? = some (.int .i64 (l.getD i (0, false)).1) ∧ cur[i * 2 + 1]? = some (.bool (l.getD i (0, false)).2) := fun i hi => by
      have hf := vflat_at hi
      rw [List.getD_eq_getElem?_getD, List.getElem?_eq_getElem hi]
      exact ⟨hat _ _ hf.1, hat _ _ hf.2⟩
    refine ⟨g, cap, rfl, hb, heap_lt hg, hnc, ⟨fun _ => ⟨g, 0, rfl, heap_lt hg, fun i hi => ?_⟩⟩, fun i hi => ⟨?_, frozen_of_row w g _ cur _ hg, fun b => ⟨fun _ => ?_⟩⟩⟩
    · rw [Nat.zero_add, cell_of_row w g _ _ _ _ hg, cell_of_row w g _ _ _ _ hg]
      exact hV i hi
    · rw [cell_of_row w g _ _ _ _ hg]
      exact (hV i (by omega)).2
    · have hg2 := heap_setCell_same w g (i * 2 + 1) cur e (.bool b) hg
      refine ⟨g, 0, rfl, heap_lt hg2, fun j hj => ?_⟩
      rw [List.length_set] at hj
      rw [Nat.zero_add, cell_of_row _ g _ _ _ _ hg2, cell_of_row _ g _ _ _ _ hg2, Array.getElem?_setIfInBounds, Array.getElem?_setIfInBounds]
      have hsz : i * 2 + 1 < cur.size := by
        have := (hV i (by omega)).2
        exact (Array.getElem?_eq_some_iff.1 this).1
      by_cases hij : i = j
      · subst hij
        rw [if_neg (by omega), if_pos rfl, if_pos hsz]
        rw [List.getD_eq_getElem?_getD (l := l.set i _), List.getElem?_set_self (by omega)]
        exact ⟨(hV i hj).1, rfl⟩
      · rw [if_neg (by omega), if_neg (by omega)]
        rw [List.getD_eq_getElem?_getD (l := l.set i _), List.getElem?_set_ne hij, ← List.getD_eq_getElem?_getD]
        exact hV j hj
namespace Ve
theorem code_of {l : List (Int × Bool)} (h1 : l.length ≤ 20) (h2 : ∀ k, k < l.length → 0 ≤ (l.getD k (0, false)).1 ∧ (l.getD k (0, false)).1 ≤ 10000) : code l = 0 := by
  unfold code
  rw [if_neg (by omega), if_pos]
  rw [List.all_eq_true]
  intro x hx
  obtain ⟨k, hk, rfl⟩ := List.getElem_of_mem hx
  have := h2 k hk
  rw [List.getD_eq_getElem?_getD, List.getElem?_eq_getElem hk] at this
  unfold okv Tm.upTo
  simpa using this
theorem getD_more (l : List (Int × Bool)) (i j : Nat) (hi : i < l.length) : (l.set i ((l.getD i (0, false)).1, true)).getD j (0, false) = if i = j then ((l.getD j (0, false)).1, true) else l.getD j (0, false) := by
  by_cases h : i = j
  · subst h
    rw [if_pos rfl, List.getD_eq_getElem?_getD, List.getElem?_set_self hi]; rfl
  · rw [if_neg h, List.getD_eq_getElem?_getD, List.getElem?_set_ne h, ← List.getD_eq_getElem?_getD]
theorem more_code {l : List (Int × Bool)} (h : code l = 0) {i : Nat} (hi : i < l.length) : code (l.set i ((l.getD i (0, false)).1, true)) = 0 := by
  obtain ⟨h1, h2⟩ := code_ok h
  refine code_of (by rw [List.length_set]; exact h1) fun k hk => ?_
  rw [List.length_set] at hk
  rw [getD_more l i k hi]
  have := h2 k hk
  split <;> exact this
theorem more_le {l : List (Int × Bool)} (h : code l = 0) {i : Nat} (hi : i < l.length) (k : Nat) (hk : k ≤ l.length) :
    hd l (-1) k ≤ hd (l.set i ((l.getD i (0, false)).1, true)) (-1) k ∧ ld l (-1) k ≤ ld (l.set i ((l.getD i (0, false)).1, true)) (-1) k ∧ al (l.set i ((l.getD i (0, false)).1, true)) k = al l k := by
  obtain ⟨h1, h2⟩ := code_ok h
  induction k with
  | zero => exact ⟨Int.le_refl _, Int.le_refl _, rfl⟩
  | succ k ih =>
    obtain ⟨a, b, c⟩ := ih (by omega)
    have h3 := h2 k (by omega)
    simp only [hd, ld, al, Ve_yes, getD_more l i k hi]
    by_cases hik : i = k
    · subst hik
      simp only [if_true]
      refine ⟨?_, ?_, by omega⟩
      · split <;> omega
      · split <;> omega
    · rw [if_neg hik]
      refine ⟨by omega, by omega, by omega⟩
theorem more_ph {l : List (Int × Bool)} (h : code l = 0) {i : Nat} (hi : i < l.length) : (ph l = true → ph (l.set i ((l.getD i (0, false)).1, true)) = true) ∧ (pl l = true → pl (l.set i ((l.getD i (0, false)).1, true)) = true) := by
  obtain ⟨a, b, c⟩ := more_le h hi l.length (Nat.le_refl _)
  unfold ph pl heads land
  rw [if_pos h, if_pos h, if_pos (more_code h hi), if_pos (more_code h hi), List.length_set]
  simp only [decide_eq_true_eq]
  exact ⟨fun _ => by omega, fun _ => by omega⟩
end Ve

set_option maxRecDepth 100000 in
set_option maxHeartbeats 8000000 in
theorem termVotes_any (l : List (Int × Bool)) (ao : Option Addr) (n cap : Nat) (i : Int) (w : World) (hI : Vts w ao l) (hn : n = l.length) :
    Calls Try.prog 13 #[.slice ao n cap, .int .i64 i] w fun e w' => e = .returned (.bool true) ∧ Below w.heap.size w w' := by
  have Hn := Lib.hid hn
  clear hn
  have hA := Below.refl w.heap.size w
  go_enter Try.func13, Try.ntmps13
  by_cases h100 : 100 < n
  · have h100i : (100 : Int) < (n : Int) := by omega
    go_wp2_with fail
    refine ((tknown_any w)).mono ?_
    rintro e w1 ⟨rfl, hbb⟩
    replace hI := hI.below hbb
    replace hA := hA.trans (hbb.mono hA.size)
    clear hbb
    go_wp2_with fail
    go_ret
    exact ⟨rfl, hA⟩
  · have h100i : ¬ (100 : Int) < (n : Int) := by omega
    have hX := Passes_any l ao n cap w hI Hn.out (by omega)
    obtain ⟨C, hC⟩ : ∃ r, r = Ve.code l := ⟨_, rfl⟩
    obtain ⟨p1, hp1⟩ : ∃ r, r = Ve.ph l := ⟨_, rfl⟩
    obtain ⟨p2, hp2⟩ : ∃ r, r = Ve.pl l := ⟨_, rfl⟩
    rw [← hC, ← hp1, ← hp2] at hX
    have HC := Lib.hid hC
    have H1 := Lib.hid hp1
    have H2 := Lib.hid hp2
    clear hC hp1 hp2
    go_wp2_with fail
    refine hX.mono ?_
    clear hX
    rintro e w1 ⟨rfl, hbb⟩
    replace hI := hI.below hbb
    replace hA := hA.trans (hbb.mono hA.size)
    clear hbb
    have hX := refPasses_any l ao n cap w1 hI Hn.out (by omega)
    rw [← HC.out, ← H1.out, ← H2.out] at hX
    go_wp2_with fail
    refine hX.mono ?_
    clear hX
    rintro e w2 ⟨rfl, rfl⟩
    by_cases hz : C = 0
    · have hc := Lib.hid (HC.out.symm.trans hz)
      subst hz
      by_cases hi0 : i < 0
      · go_wp2_with fail
        refine ((tknown_any w2)).mono ?_
        rintro e w2 ⟨rfl, hbb⟩
        replace hI := hI.below hbb
        replace hA := hA.trans (hbb.mono hA.size)
        clear hbb
        go_wp2_with fail
        go_ret
        exact ⟨rfl, hA⟩
      · by_cases hin : (n : Int) ≤ i
        · go_wp2_with fail
          refine ((tknown_any w2)).mono ?_
          rintro e w3 ⟨rfl, hbb⟩
          replace hI := hI.below hbb
          replace hA := hA.trans (hbb.mono hA.size)
          clear hbb
          go_wp2_with fail
          go_ret
          exact ⟨rfl, hA⟩
        · obtain ⟨k, rfl⟩ := Int.eq_ofNat_of_zero_le (show 0 ≤ i by omega)
          have hkn : k < n := by omega
          have hkl : Hid (k < l.length) := Lib.hid (by rw [← Hn.out]; exact hkn)
          have hn0 : 0 < n := by omega
          obtain ⟨ib, hib, hz0, hz1, hz2⟩ := info_vt
          obtain ⟨b, off, rfl, hbs, -⟩ := hI.cells (by rw [← Hn.out]; omega)
          have hal := (Below.refl w2.heap.size w2).alloc (Nat.le_refl _) (.cells #[] 59)
          have Hs := Lib.hid (vts_flat (hI.below hal))
          clear hal
          go_upto_region 10 with (first | (at_builtin; refine wpList_append_own _ rfl _ _ 55 rfl w2.heap.size 59 ib (.agg #[.int .i64 0, .bool false]) 2 16 Try.underlying55 hib hz0 hz1 hz2 rfl (by decide) _ 0 [] rfl (own_new2 w2 _) ⟨b, off, none⟩ n cap (vflat l) rfl (by rw [vflat_length, Hn.out]) Hs.out (vflat_one l) (by unfold maxLen; omega) (by omega) (by simp) ?_; intro v' w3 hown' hgrow3 hnil3))
          have hgb : Below w2.heap.size w2 w3 := ((Below.refl _ w2).alloc (Nat.le_refl _) _).grown hgrow3 (by simp) (fun x hx => by cases hx; exact Nat.le_refl _)
          have hown2 : w3.ownsRow w2.heap.size 59 2 v' n (vflat l) := by
            have h := hown'
            rw [Nat.zero_add, List.nil_append] at h
            exact h
          clear hown' hgrow3 hnil3 Hs
          have hs2 := hA.size
          replace hA := hA.trans (hgb.mono hA.size)
          obtain ⟨g, cap5, rfl, hgb0, hgl, hcap, -, hat⟩ := own_vts hown2 Hn.out hn0
          obtain ⟨c1, f1, hset⟩ := hat k hkn
          have hV2 := hset true
          clear hset hat hown2 hgb
          go_upto_region 11 with fail
          have hB2 : Below w.heap.size w (w3.setCell ⟨g, k * 2 + 1, none⟩ (.bool true)) := below_setCell hA (by omega) _
          generalize w3.setCell ⟨g, k * 2 + 1, none⟩ (.bool true) = W4 at hB2 hV2 ⊢
          have hX := Passes_any _ (some ⟨g, 0, none⟩) n cap5 W4 hV2 (by rw [List.length_set]; exact Hn.out) (by omega)
          rw [Ve.more_code hc.out hkl.out] at hX
          obtain ⟨m1, m2⟩ := Ve.more_ph hc.out hkl.out
          rw [← H1.out] at m1
          rw [← H2.out] at m2
          obtain ⟨q1, hq1⟩ : ∃ r, r = Ve.ph (l.set k ((l.getD k (0, false)).1, true)) := ⟨_, rfl⟩
          obtain ⟨q2, hq2⟩ : ∃ r, r = Ve.pl (l.set k ((l.getD k (0, false)).1, true)) := ⟨_, rfl⟩
          rw [← hq1, ← hq2] at hX
          rw [← hq1] at m1
          rw [← hq2] at m2
          clear hq1 hq2 c1 f1 hV2 H1 H2 HC
          have h1' : p1 = false ∨ (p1 = true ∧ q1 = true) := by cases p1 <;> simp_all
          have h2' : p2 = false ∨ (p2 = true ∧ q2 = true) := by cases p2 <;> simp_all
          clear m1 m2
          go_wp2_with fail
          refine hX.mono ?_
          clear hX
          rintro e w5 ⟨rfl, hbb⟩
          replace hA := hB2.trans (hbb.mono hB2.size)
          clear hbb hB2
          rcases h1' with rfl | ⟨rfl, rfl⟩ <;> rcases h2' with rfl | ⟨rfl, rfl⟩
          all_goals
            go_wp2_with fail
            refine (tknown_any w5).mono ?_
            rintro e w6 ⟨rfl, hbb⟩
            go_wp2_with fail
            go_ret
            exact ⟨rfl, hA.trans (hbb.mono hA.size)⟩
    · have hne : (C != 0) = true := by simp [hz]
      go_wp2_with fail
      refine ((tknown_any w2)).mono ?_
      rintro e w4 ⟨rfl, hbb⟩
      replace hI := hI.below hbb
      replace hA := hA.trans (hbb.mono hA.size)
      clear hbb
      go_wp2_with fail
      go_ret
      exact ⟨rfl, hA⟩
end Go.Proofs.Ytmdkdkiejcjmaaa
