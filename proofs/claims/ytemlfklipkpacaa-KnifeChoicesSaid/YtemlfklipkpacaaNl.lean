import Derived.Test.YtemlfklipkpacaaNk
/- Package knife: Envy where nobody envies. -/
namespace Go.Proofs.Ytemlfklipkpacaa
open Go.RowKit

theorem flat5_set (xs : List Pc) (p : Pc) : ∀ j, (((((flat5 xs).set (j * 5) (.int .i64 p.1)).set (j * 5 + 1) (.int .i64 p.2.1.1)).set (j * 5 + 2) (.int .i64 p.2.1.2)).set (j * 5 + 3) (.int .i64 p.2.2.1)).set (j * 5 + 4) (.int .i64 p.2.2.2) = flat5 (xs.set j p) := by
  induction xs with
  | nil => intro j; rfl
  | cons z r ih =>
    intro j
    cases j with
    | zero => rfl
    | succ j =>
      have := ih j
      rw [show (j + 1) * 5 = j * 5 + 5 by omega, show j * 5 + 5 + 1 = j * 5 + 1 + 5 by omega, show j * 5 + 5 + 2 = j * 5 + 2 + 5 by omega, show j * 5 + 5 + 3 = j * 5 + 3 + 5 by omega, show j * 5 + 5 + 4 = j * 5 + 4 + 5 by omega]
      simp only [flat5, List.flatMap_cons, List.set_cons_succ] at this ⊢
      show _ :: _ :: _ :: _ :: _ :: _ = _ :: _ :: _ :: _ :: _ :: _
      rw [← this]
      rfl
/-- A piece is stored into an own row of pieces. -/
theorem own_slot5 {w : World} {base n : Nat} {e : TypeId} {v : Value} {xs : List Pc} (h : w.ownsRow base e 5 v n (flat5 xs)) {j : Nat} (hj : j < xs.length) :
    ∃ g cap, v = .slice (some ⟨g, 0, none⟩) n cap ∧ base ≤ g ∧ g < w.heap.size ∧ (∀ c, c < 5 → w.frozen? ⟨g, j * 5 + c, none⟩ = false ∧ ∃ u, w.cell? ⟨g, j * 5 + c, none⟩ = some u) ∧
      ∀ p : Pc, (((((w.setCell ⟨g, j * 5, none⟩ (.int .i64 p.1)).setCell ⟨g, j * 5 + 1, none⟩ (.int .i64 p.2.1.1)).setCell ⟨g, j * 5 + 2, none⟩ (.int .i64 p.2.1.2)).setCell ⟨g, j * 5 + 3, none⟩ (.int .i64 p.2.2.1)).setCell ⟨g, j * 5 + 4, none⟩ (.int .i64 p.2.2.2)).ownsRow base e 5 v n (flat5 (xs.set j p)) := by
  have hl := flat5_length xs
  obtain ⟨g, cap, rfl, hb, -, -, ⟨cs, hh⟩, s0⟩ := own_slot h (k := j * 5) (by omega)
  refine ⟨g, cap, rfl, hb, heap_lt hh, fun c hc => ?_, fun p => ?_⟩
  · obtain ⟨g', cap', he, -, f1, c1, -, -⟩ := own_slot h (k := j * 5 + c) (by omega)
    cases he
    exact ⟨f1, _, c1⟩
  · obtain ⟨g1, c1, e1, -, -, -, -, s1⟩ := own_slot (s0 (.int .i64 p.1)) (k := j * 5 + 1) (by simp; omega)
    cases e1
    obtain ⟨g2, c2, e2, -, -, -, -, s2⟩ := own_slot (s1 (.int .i64 p.2.1.1)) (k := j * 5 + 2) (by simp; omega)
    cases e2
    obtain ⟨g3, c3, e3, -, -, -, -, s3⟩ := own_slot (s2 (.int .i64 p.2.1.2)) (k := j * 5 + 3) (by simp; omega)
    cases e3
    obtain ⟨g4, c4, e4, -, -, -, -, s4⟩ := own_slot (s3 (.int .i64 p.2.2.1)) (k := j * 5 + 4) (by simp; omega)
    cases e4
    rw [← flat5_set]
    exact s4 _
def Kn.setH (s : List Pc) (p : Pc) : List Pc := s.set p.1.toNat p
/-- The pieces by their owners. -/
def Kn.hasL (ps : List Pc) : List Pc := ps.foldl Kn.setH (List.replicate ps.length (0, (0, 0), (0, 0)))
theorem hasF_len {ps : List Pc} : ∀ {s : List Pc}, (ps.foldl Kn.setH s).length = s.length := by
  induction ps with
  | nil => intro s; rfl
  | cons p r ih =>
    intro s
    show (r.foldl Kn.setH (Kn.setH s p)).length = _
    rw [ih]
    unfold Kn.setH
    rw [List.length_set]
theorem hasL_len {ps : List Pc} : (Kn.hasL ps).length = ps.length := by
  unfold Kn.hasL
  rw [hasF_len, List.length_replicate]
theorem made5 : ∀ n, n ≤ 5 → (madeCells (Value.agg #[.int .i64 0, .int .i64 0, .int .i64 0, .int .i64 0, .int .i64 0]).cells (n * 5)).toList = flat5 (List.replicate n (((0 : Int), ((0 : Int), (0 : Int)), ((0 : Int), (0 : Int))) : Pc)) := by
  intro n hn
  have h : n = 0 ∨ n = 1 ∨ n = 2 ∨ n = 3 ∨ n = 4 ∨ n = 5 := by omega
  rcases h with rfl | rfl | rfl | rfl | rfl | rfl <;> simp [madeCells, flat5, List.range, List.range.loop, List.replicate, Value.cells]
theorem own_made5 {w : World} {base g n : Nat} {cs : Array Value} {t : TypeId} {xs : List Pc} (h : w.heap[g]? = some (.cells cs t (0, 0))) (hc : cs.toList = flat5 xs) (hb : base ≤ g) (hn : xs.length = n) (h5 : n ≤ 1000) : w.ownsRow base t 5 (.slice (some ⟨g, 0, none⟩) n n) n (flat5 xs) := by
  have hl := flat5_length xs
  have hs : cs.size = n * 5 := by rw [← Array.length_toList, hc, hl, hn]
  refine ⟨by rw [hl, hn], .inr ⟨g, n, cs, rfl, hb, h, Nat.le_refl _, by unfold maxLen; omega, hs, ?_⟩⟩
  rw [hc, List.take_of_length_le (by rw [hl, hn]; exact Nat.le_refl _)]
/-- Nobody finds the piece of another one worth more than his own one. -/
def Kn.calm (L : List Int) (V : List (List Int)) (H : List Pc) : Prop := ∀ i j (hi : i < H.length) (hj : j < H.length), ∃ (a b c d : Rat), (H[j]).2.1 = pr a ∧ (H[j]).2.2 = pr b ∧ (H[i]).2.1 = pr c ∧ (H[i]).2.2 = pr d ∧ KPl a b 20 ∧ KPl c d 20 ∧
  CmpOk (Fl.worth (Kn.Z L V i) a b) (Fl.worth (Kn.Z L V i) c d) ∧ ¬ Fl.worth (Kn.Z L V i) c d < Fl.worth (Kn.Z L V i) a b
theorem cmp_calm {x y : Rat} (h : ¬ y < x) : decide (0 < Fl.cmpR x y) = false := by
  rw [decide_eq_false_iff_not]
  unfold Fl.cmpR
  by_cases h1 : x < y
  · rw [if_pos h1]; omega
  · rw [if_neg h1, if_neg h]; omega

set_option maxRecDepth 100000 in
set_option maxHeartbeats 8000000 in
theorem kEnvy_none (L : List Int) (V : List (List Int)) (ps : List Pc) (aoL : Option Addr) (nL cL : Nat) (aoV : Option Addr) (nV cV : Nat) (aop : Option Addr) (n cp : Nat) (w : World) (hf : Fld w aoL nL aoV nV L V) (hl : nL ≤ 100) (hv : nV ≤ 100) (hr : ∀ r ∈ V, r.length ≤ 100) (hp : Pcs w aop ps) (hn : n = ps.length) (hpr : ∀ p ∈ ps, p.2.1.1 ≤ 9223372036854775807 ∧ p.2.2.1 ≤ 9223372036854775807) (hz : Kn.pcode L V ps = 0) (hc : Kn.calm L V (Kn.hasL ps)) :
    Calls Try.prog 50 #[.agg #[.slice aoL nL cL, .slice aoV nV cV], .slice aop n cp] w fun e w' => e = .returned (.tuple #[.slice none 0 0, .int .i64 0]) ∧ Below w.heap.size w w' := by
  obtain ⟨D, hD⟩ := pcode_ok hz
  have hok := hD.ok
  have hlen := own_len hD
  have v5 := hok.v5
  have hn5 : n ≤ 5 := by omega
  have HF := Lib.hid (fun (k : Nat) (hk : k < ps.length) => part_facts hD hk)
  have Hn := Lib.hid hn
  have HLen := Lib.hid hlen
  have hHl : (Kn.hasL ps).length = n := by rw [hasL_len, hn]
  have HHl := Lib.hid hHl
  have HC := Lib.hid hc
  clear hn hD hlen hHl hc
  have hA := (Below.refl _ w).alloc (Nat.le_refl _) (.cells #[.slice aoL nL cL, .slice aoV nV cV] 57)
  have rf := heap_alloc_new w (.cells #[.slice aoL nL cL, .slice aoV nV cV] 57)
  go_enter Try.func50, Try.ntmps50
  go_upto_region 1 with fail
  generalize w.alloc (.cells #[.slice aoL nL cL, .slice aoV nV cV] 57) = W0 at hA rf ⊢
  obtain ⟨G, hG⟩ : ∃ g, g = w.heap.size := ⟨_, rfl⟩
  rw [← hG] at rf ⊢
  have HG := Lib.hid hG
  clear hG
  replace hf := hf.below hA
  replace hp := hp.below hA
  obtain ⟨⟨x0, x1⟩, -, -⟩ := row_fr rf
  have hCk := kCheckPieces_any L V ps aoL nL cL aoV nV cV aop n cp W0 hf hl hv hr hp Hn.out (by omega) hpr
  rw [hz] at hCk
  clear hz
  go_wp2_with fail
  refine hCk.mono ?_
  rintro e w1 ⟨rfl, hbb⟩
  replace hf := hf.below hbb
  replace hp := hp.below hbb
  replace rf := heap_keep hbb rf
  replace hA := hA.trans (hbb.mono hA.size)
  clear hbb x0 x1 hCk
  obtain ⟨i0, hi0, hz0, hz1, hz2⟩ := info_pc
  have hmk : ∀ w0 : World, (Instr.makeSlice 59 (.int .i64 n) (.int .i64 n)).run Try.prog w0 = .ok (.slice (some ⟨w0.heap.size, 0, none⟩) n n) (w0.alloc (.cells (madeCells (Value.agg #[.int .i64 0, .int .i64 0, .int .i64 0, .int .i64 0, .int .i64 0]).cells (n * 5)) 86)) := fun w0 => by
    have h := run_make (P := Try.prog) w0 59 86 i0 _ Try.underlying59 hi0 hz0 .i64 .i64 n n (by omega) (Int.le_refl _) (by rw [hz2]; omega) (by omega)
    rw [Int.toNat_natCast, hz1] at h
    exact h
  have hmd := made5 n hn5
  generalize madeCells (Value.agg #[.int .i64 0, .int .i64 0, .int .i64 0, .int .i64 0, .int .i64 0]).cells (n * 5) = cur0 at hmk hmd
  have hown0 := own_made5 (base := w1.heap.size) (n := n) (xs := List.replicate n ((0, (0, 0), (0, 0)) : Pc)) (heap_alloc_new w1 (.cells cur0 86)) hmd (Nat.le_refl _) (by simp) (by omega)
  have hal := (Below.refl w1.heap.size w1).alloc (Nat.le_refl _) (.cells cur0 86)
  go_upto_region 5 with (first | (at_make; refine wpList_make rfl _ _ _ rfl (.int .i64 n) (.int .i64 n) rfl rfl _ _ (hmk _) ?_))
  generalize w1.alloc (.cells cur0 86) = W2 at hown0 hal ⊢
  obtain ⟨Gv, hGv⟩ : ∃ g, g = w1.heap.size := ⟨_, rfl⟩
  rw [← hGv] at hown0 ⊢
  have HGv := Lib.hid hGv
  clear hGv hmk hmd hi0 hz0 hz1 hz2
  go_wp2_with fail
  go_loopw [25] (fun i wr => ∃ k : Nat, k ≤ n ∧ i = .int .i64 k ∧ Hid (wr.ownsRow Gv 86 5 (.slice (some ⟨Gv, 0, none⟩) n n) n (flat5 ((ps.take k).foldl Kn.setH (List.replicate n (0, (0, 0), (0, 0)))))) ∧ Below w1.heap.size w1 wr) (fun i _ => n - (intOf i).toNat)
  case atStart => exact ⟨0, Nat.zero_le _, rfl, Lib.hid hown0, hal⟩
  case round =>
    clear hown0 hal
    obtain ⟨k, hk, rfl, hown, hb⟩ := hrel
    by_cases hlt : k < n
    · have hkl : k < ps.length := by have := Hn.out; omega
      have hsn := Lib.hid (foldl_snoc hkl Kn.setH (List.replicate n ((0, (0, 0), (0, 0)) : Pc)))
      obtain ⟨j, a, b, he, hj, -, -, -⟩ := HF.out k hkl
      obtain ⟨bp, off, rfl, hbs, z0, z1, z2, z3, z4⟩ := pcs_at (hp.below hb) hkl
      rw [he] at z0 z1 z2 z3 z4
      have hst : Hid (∀ s, Kn.setH s ps[k] = s.set j ((j : Int), pr a, pr b)) := Lib.hid (fun s => by
        unfold Kn.setH
        rw [he]
        simp only [Int.toNat_natCast])
      simp only [pr] at z0 z1 z2 z3 z4
      clear he
      have i1 : (k : Int) < (n : Int) := by omega
      have hjn : j < n := by have := HLen.out; have := Hn.out; omega
      have hji : (j : Int) < (n : Int) := by omega
      obtain ⟨xs, hxs⟩ : ∃ l, l = (ps.take k).foldl Kn.setH (List.replicate n ((0, (0, 0), (0, 0)) : Pc)) := ⟨_, rfl⟩
      have hxl : xs.length = n := by rw [hxs, hasF_len, List.length_replicate]
      rw [← hxs] at hown hsn
      have HX := Lib.hid hxl
      clear hxs hxl
      go_upto_region 8 with fail
      have r7 := heap_alloc_new wr (.cells #[.int .i64 j, .int .i64 a.num, .int .i64 a.den, .int .i64 b.num, .int .i64 b.den] 86)
      have hal := (Below.refl wr.heap.size wr).alloc (Nat.le_refl _) (.cells #[.int .i64 j, .int .i64 a.num, .int .i64 a.den, .int .i64 b.num, .int .i64 b.den] 86)
      replace hb := hb.trans (hal.mono hb.size)
      replace hown := Lib.hid (own_below hown.out hal)
      clear hal z0 z1 z2 z3 z4 hbs
      generalize wr.alloc (.cells #[.int .i64 j, .int .i64 a.num, .int .i64 a.den, .int .i64 b.num, .int .i64 b.den] 86) = W7 at hb hown r7 ⊢
      obtain ⟨G7, hg7⟩ : ∃ g, g = wr.heap.size := ⟨_, rfl⟩
      rw [← hg7] at r7 ⊢
      clear hg7
      have q0 := cell_of_row W7 G7 0 _ _ _ r7
      have q1 := cell_of_row W7 G7 1 _ _ _ r7
      have q2 := cell_of_row W7 G7 2 _ _ _ r7
      have q3 := cell_of_row W7 G7 3 _ _ _ r7
      have q4 := cell_of_row W7 G7 4 _ _ _ r7
      simp at q0 q1 q2 q3 q4
      obtain ⟨g, cap, he, -, -, hfc, hset⟩ := own_slot5 hown.out (j := j) (by rw [HX.out]; exact hjn)
      cases he
      obtain ⟨f0, _, c0⟩ := hfc 0 (by omega)
      obtain ⟨f1, _, c1⟩ := hfc 1 (by omega)
      obtain ⟨f2, _, c2⟩ := hfc 2 (by omega)
      obtain ⟨f3, _, c3⟩ := hfc 3 (by omega)
      obtain ⟨f4, _, c4⟩ := hfc 4 (by omega)
      rw [Nat.add_zero] at f0 c0
      have hset2 := hset ((j : Int), pr a, pr b)
      simp only [pr] at hset2
      have hN0 : w1.heap.size ≤ Gv := by have := HGv.out; omega
      have hB9 := below_setCell (g := Gv) (o := j * 5 + 4) (below_setCell (g := Gv) (o := j * 5 + 3) (below_setCell (g := Gv) (o := j * 5 + 2) (below_setCell (g := Gv) (o := j * 5 + 1) (below_setCell (g := Gv) (o := j * 5) hb hN0 (.int .i64 (j : Int))) hN0 (.int .i64 a.num)) hN0 (.int .i64 (a.den : Int))) hN0 (.int .i64 b.num)) hN0 (.int .i64 (b.den : Int))
      clear hset hfc
      go_wp2_with fail
      go_roundw
      case rel =>
        refine ⟨k + 1, by omega, by go_num, Lib.hid ?_, hB9⟩
        rw [hsn.out, hst.out]
        simp only [pr]
        exact hset2
      case measure => simp [intOf]; omega
    · have hk2 : k = n := by omega
      have hownF := hown.out
      rw [hk2, Hn.out, List.take_length, ← Hn.out] at hownF
      have hownH : wr.ownsRow Gv 86 5 (.slice (some ⟨Gv, 0, none⟩) n n) n (flat5 (Kn.hasL ps)) := by
        unfold Kn.hasL
        rw [← Hn.out]; exact hownF
      obtain ⟨ao', cap', he, PH⟩ := own_pcs hownH HHl.out.symm
      cases he
      have Hk := Lib.hid hk2
      replace hf := hf.below hb
      replace rf := heap_keep hb rf
      replace hA := hA.trans (hb.mono hA.size)
      clear hk2 hown hownF hownH hp hb HF
      generalize Kn.hasL ps = H at HHl HC PH
      rename World => WA
      go_wp2_with fail
      go_loopw [10, 37] (fun v i wr => ∃ k : Nat, k ≤ n ∧ i = .int .i64 k ∧ v = .slice none 0 0 ∧ Below WA.heap.size WA wr) (fun _ i _ => n - (intOf i).toNat)
      case atStart => exact ⟨0, Nat.zero_le _, rfl, rfl, Below.refl _ _⟩
      case round =>
        obtain ⟨k, hk, rfl, rfl, hb⟩ := hrel
        have hbw := hA.trans (hb.mono hA.size)
        by_cases hlt : k < n
        · have hkV : k < V.length := by have := HLen.out; have := Hn.out; omega
          have i1 : (k : Int) < (n : Int) := by omega
          obtain ⟨⟨x0, x1⟩, -, -⟩ := row_fr (heap_keep hb rf)
          have hfr := hf.below hb
          go_wp2_with fail
          refine (kown_any L V k _ _ _ _ _ _ wr hfr.hL hfr.hV hfr.nl hfr.nv hok hkV).mono ?_
          rintro e z3 ⟨ao2, cap2, rfl, hl2, hbb⟩
          replace hb := hb.trans (hbb.mono hb.size)
          have hzl := hok.zLen hkV
          have hK := fun (o : Int) (a b : Rat) (hab : KPl a b 20) w' (hp : Lnd w' ao2 (Fl.strips 0 (Kn.Z L V k))) => kworthOf_any (Kn.Z L V k) o a b ao2 nL cap2 w' hp (by rw [hzl]; exact hf.nl) (hok.zOk hkV) (by rw [hzl]; exact hok.l6) hab
          have HCk := Lib.hid (fun j (hj : j < H.length) => HC.out k j (by rw [HHl.out]; exact hlt) hj)
          have HK := Lib.hid hK
          generalize Kn.Z L V k = Zk at hl2 HCk HK
          clear hbb x0 x1 hfr hzl hK hbw
          go_wp2_with fail
          go_loopw [10, 45] (fun v i wr => ∃ m : Nat, m ≤ n ∧ i = .int .i64 m ∧ v = .slice none 0 0 ∧ Below z3.heap.size z3 wr) (fun _ i _ => n - (intOf i).toNat)
          case atStart => exact ⟨0, Nat.zero_le _, rfl, rfl, Below.refl _ _⟩
          case round =>
            obtain ⟨m, hm, rfl, rfl, hq⟩ := hrel
            by_cases hmt : m < n
            · have hmH : m < H.length := by rw [HHl.out]; exact hmt
              have hkH : k < H.length := by rw [HHl.out]; exact hlt
              obtain ⟨a, b, c, d, e1, e2, e3, e4, kp1, kp2, hcm, hnl⟩ := HCk.out m hmH
              have PHr := (PH.below hb).below hq
              obtain ⟨g', off', he, -, y0, y1, y2, y3, y4⟩ := pcs_at PHr hmH
              cases he
              obtain ⟨g', off', he, -, v0, v1, v2, v3, v4⟩ := pcs_at PHr hkH
              cases he
              rw [e1] at y1 y2
              rw [e2] at y3 y4
              rw [e3] at v1 v2
              rw [e4] at v3 v4
              simp only [pr, Nat.zero_add] at y0 y1 y2 y3 y4 v0 v1 v2 v3 v4
              generalize (H[m]).1 = oj at y0
              generalize (H[k]).1 = oi at v0
              clear e1 e2 e3 e4 PHr
              have hlw := hl2.below hq
              have hK1 := fun w' hp => HK.out oj a b kp1 w' hp
              have hK2 := fun w' hp => HK.out oi c d kp2 w' hp
              have hcc := cmp_calm hnl
              generalize Fl.worth Zk a b = Wa at hK1 hcm hcc
              generalize Fl.worth Zk c d = Wb at hK2 hcm hcc
              have HK1 := Lib.hid hK1
              have HK2 := Lib.hid hK2
              clear hK1 hK2 hnl kp1 kp2
              have i2 : (m : Int) < (n : Int) := by omega
              go_upto_region 18 with fail
              have hdr : Below wr.heap.size wr wr.drew := below_drewN (Below.refl wr.heap.size wr) 1
              have hS0 := And.intro y0 (And.intro y1 (And.intro y2 (And.intro y3 (And.intro y4 (And.intro v0 (And.intro v1 (And.intro v2 (And.intro v3 (v4)))))))))
              have keepS : ∀ {W : World}, Below wr.heap.size wr W → (wr.cell? ⟨Gv, m * 5, none⟩ = some (.int .i64 oj) ∧ wr.cell? ⟨Gv, m * 5 + 1, none⟩ = some (.int .i64 a.num) ∧ wr.cell? ⟨Gv, m * 5 + 2, none⟩ = some (.int .i64 a.den) ∧ wr.cell? ⟨Gv, m * 5 + 3, none⟩ = some (.int .i64 b.num) ∧ wr.cell? ⟨Gv, m * 5 + 4, none⟩ = some (.int .i64 b.den) ∧ wr.cell? ⟨Gv, k * 5, none⟩ = some (.int .i64 oi) ∧ wr.cell? ⟨Gv, k * 5 + 1, none⟩ = some (.int .i64 c.num) ∧ wr.cell? ⟨Gv, k * 5 + 2, none⟩ = some (.int .i64 c.den) ∧ wr.cell? ⟨Gv, k * 5 + 3, none⟩ = some (.int .i64 d.num) ∧ wr.cell? ⟨Gv, k * 5 + 4, none⟩ = some (.int .i64 d.den)) → (W.cell? ⟨Gv, m * 5, none⟩ = some (.int .i64 oj) ∧ W.cell? ⟨Gv, m * 5 + 1, none⟩ = some (.int .i64 a.num) ∧ W.cell? ⟨Gv, m * 5 + 2, none⟩ = some (.int .i64 a.den) ∧ W.cell? ⟨Gv, m * 5 + 3, none⟩ = some (.int .i64 b.num) ∧ W.cell? ⟨Gv, m * 5 + 4, none⟩ = some (.int .i64 b.den) ∧ W.cell? ⟨Gv, k * 5, none⟩ = some (.int .i64 oi) ∧ W.cell? ⟨Gv, k * 5 + 1, none⟩ = some (.int .i64 c.num) ∧ W.cell? ⟨Gv, k * 5 + 2, none⟩ = some (.int .i64 c.den) ∧ W.cell? ⟨Gv, k * 5 + 3, none⟩ = some (.int .i64 d.num) ∧ W.cell? ⟨Gv, k * 5 + 4, none⟩ = some (.int .i64 d.den)) :=
                fun hb h => ⟨keep_cell hb h.1, keep_cell hb h.2.1, keep_cell hb h.2.2.1, keep_cell hb h.2.2.2.1, keep_cell hb h.2.2.2.2.1, keep_cell hb h.2.2.2.2.2.1, keep_cell hb h.2.2.2.2.2.2.1, keep_cell hb h.2.2.2.2.2.2.2.1, keep_cell hb h.2.2.2.2.2.2.2.2.1, keep_cell hb h.2.2.2.2.2.2.2.2.2⟩
              refine wp_region_held_drew (S := fun w' => w'.cell? ⟨Gv, m * 5, none⟩ = some (.int .i64 oj) ∧ w'.cell? ⟨Gv, m * 5 + 1, none⟩ = some (.int .i64 a.num) ∧ w'.cell? ⟨Gv, m * 5 + 2, none⟩ = some (.int .i64 a.den) ∧ w'.cell? ⟨Gv, m * 5 + 3, none⟩ = some (.int .i64 b.num) ∧ w'.cell? ⟨Gv, m * 5 + 4, none⟩ = some (.int .i64 b.den) ∧ w'.cell? ⟨Gv, k * 5, none⟩ = some (.int .i64 oi) ∧ w'.cell? ⟨Gv, k * 5 + 1, none⟩ = some (.int .i64 c.num) ∧ w'.cell? ⟨Gv, k * 5 + 2, none⟩ = some (.int .i64 c.den) ∧ w'.cell? ⟨Gv, k * 5 + 3, none⟩ = some (.int .i64 d.num) ∧ w'.cell? ⟨Gv, k * 5 + 4, none⟩ = some (.int .i64 d.den)) (by kernel_rfl) (keepS hdr hS0) (fun hHeld => ?_)
              refine wpAnyH_take (i := 0) (v := .slice ao2 nL cap2) rfl (by kernel_rfl) (by kernel_rfl) (by kernel_rfl) (fun _ _ _ h => h) (Or.inl ⟨by rfl, fun w hSw => ?_⟩) (by assumption) ?_
              · obtain ⟨s0, s1, s2, s3, s4, s5, s6, s7, s8, s9⟩ := hSw
                (go_simp <;> omega)
              try simp only [List.getElem_toArray, List.getElem_cons_zero, Act.put, List.setIfInBounds_toArray, List.set_cons_zero, List.set_cons_succ]
              refine wpAnyH_take (i := 1) (v := .slice (some ⟨Gv, 0, none⟩) n n) rfl (by kernel_rfl) (by kernel_rfl) (by kernel_rfl) (fun _ _ _ h => h) (Or.inl ⟨by rfl, fun w hSw => ?_⟩) (by assumption) ?_
              · obtain ⟨s0, s1, s2, s3, s4, s5, s6, s7, s8, s9⟩ := hSw
                (go_simp <;> omega)
              try simp only [List.getElem_toArray, List.getElem_cons_zero, List.getElem_cons_succ, Act.put, List.setIfInBounds_toArray, List.set_cons_zero, List.set_cons_succ]
              refine wpAnyH_take (i := 2) (v := .int .i64 m) rfl (by kernel_rfl) (by kernel_rfl) (by kernel_rfl) (fun _ _ _ h => h) (Or.inl ⟨by rfl, fun w hSw => ?_⟩) (by assumption) ?_
              · obtain ⟨s0, s1, s2, s3, s4, s5, s6, s7, s8, s9⟩ := hSw
                (go_simp <;> omega)
              try simp only [List.getElem_toArray, List.getElem_cons_zero, List.getElem_cons_succ, Act.put, List.setIfInBounds_toArray, List.set_cons_zero, List.set_cons_succ]
              refine wpAnyH_take (i := 3) (v := .pointer (some ⟨Gv, m * 5, none⟩)) rfl (by kernel_rfl) (by kernel_rfl) (by kernel_rfl) (fun _ _ _ h => h) (Or.inl ⟨by rfl, fun w hSw => ?_⟩) (by assumption) ?_
              · obtain ⟨s0, s1, s2, s3, s4, s5, s6, s7, s8, s9⟩ := hSw
                (go_simp <;> omega)
              try simp only [List.getElem_toArray, List.getElem_cons_zero, List.getElem_cons_succ, Act.put, List.setIfInBounds_toArray, List.set_cons_zero, List.set_cons_succ]
              refine wpAnyH_take (i := 4) (v := .agg #[.int .i64 oj, .int .i64 a.num, .int .i64 a.den, .int .i64 b.num, .int .i64 b.den]) rfl (by kernel_rfl) (by kernel_rfl) (by kernel_rfl) (fun _ _ _ h => h) (Or.inl ⟨by rfl, fun w hSw => ?_⟩) (by assumption) ?_
              · obtain ⟨s0, s1, s2, s3, s4, s5, s6, s7, s8, s9⟩ := hSw
                (go_simp <;> omega)
              try simp only [List.getElem_toArray, List.getElem_cons_zero, List.getElem_cons_succ, Act.put, List.setIfInBounds_toArray, List.set_cons_zero, List.set_cons_succ]
              refine wpAnyH_take (i := 6) (v := .slice ao2 nL cap2) rfl (by kernel_rfl) (by kernel_rfl) (by kernel_rfl) (fun _ _ _ h => h) (Or.inl ⟨by rfl, fun w hSw => ?_⟩) (by assumption) ?_
              · obtain ⟨s0, s1, s2, s3, s4, s5, s6, s7, s8, s9⟩ := hSw
                (go_simp <;> omega)
              try simp only [List.getElem_toArray, List.getElem_cons_zero, List.getElem_cons_succ, Act.put, List.setIfInBounds_toArray, List.set_cons_zero, List.set_cons_succ]
              refine wpAnyH_take (i := 7) (v := .slice (some ⟨Gv, 0, none⟩) n n) rfl (by kernel_rfl) (by kernel_rfl) (by kernel_rfl) (fun _ _ _ h => h) (Or.inl ⟨by rfl, fun w hSw => ?_⟩) (by assumption) ?_
              · obtain ⟨s0, s1, s2, s3, s4, s5, s6, s7, s8, s9⟩ := hSw
                (go_simp <;> omega)
              try simp only [List.getElem_toArray, List.getElem_cons_zero, List.getElem_cons_succ, Act.put, List.setIfInBounds_toArray, List.set_cons_zero, List.set_cons_succ]
              refine wpAnyH_take (i := 8) (v := .int .i64 k) rfl (by kernel_rfl) (by kernel_rfl) (by kernel_rfl) (fun _ _ _ h => h) (Or.inl ⟨by rfl, fun w hSw => ?_⟩) (by assumption) ?_
              · obtain ⟨s0, s1, s2, s3, s4, s5, s6, s7, s8, s9⟩ := hSw
                (go_simp <;> omega)
              try simp only [List.getElem_toArray, List.getElem_cons_zero, List.getElem_cons_succ, Act.put, List.setIfInBounds_toArray, List.set_cons_zero, List.set_cons_succ]
              refine wpAnyH_take (i := 9) (v := .pointer (some ⟨Gv, k * 5, none⟩)) rfl (by kernel_rfl) (by kernel_rfl) (by kernel_rfl) (fun _ _ _ h => h) (Or.inl ⟨by rfl, fun w hSw => ?_⟩) (by assumption) ?_
              · obtain ⟨s0, s1, s2, s3, s4, s5, s6, s7, s8, s9⟩ := hSw
                (go_simp <;> omega)
              try simp only [List.getElem_toArray, List.getElem_cons_zero, List.getElem_cons_succ, Act.put, List.setIfInBounds_toArray, List.set_cons_zero, List.set_cons_succ]
              refine wpAnyH_take (i := 10) (v := .agg #[.int .i64 oi, .int .i64 c.num, .int .i64 c.den, .int .i64 d.num, .int .i64 d.den]) rfl (by kernel_rfl) (by kernel_rfl) (by kernel_rfl) (fun _ _ _ h => h) (Or.inl ⟨by rfl, fun w hSw => ?_⟩) (by assumption) ?_
              · obtain ⟨s0, s1, s2, s3, s4, s5, s6, s7, s8, s9⟩ := hSw
                (go_simp <;> omega)
              try simp only [List.getElem_toArray, List.getElem_cons_zero, List.getElem_cons_succ, Act.put, List.setIfInBounds_toArray, List.set_cons_zero, List.set_cons_succ]
              refine wpAnyH_ready (rs := [5]) (by kernel_rfl) (by simp) ?_
              refine AllReadyH.cons rfl (fun K hK => ?_) AllReadyH.nil
              go_simp
              go_at_call 109
              refine (HK1.out _ (hlw.below hdr)).mono ?_
              rintro e u1 ⟨rfl, hb1⟩
              have hb1' := hdr.trans (hb1.mono hdr.size)
              (try dsimp only)
              refine hK.out _ _ (keepS hb1' hS0) (fun hHeld => ?_)
              clear hK K
              try simp only [List.getElem_toArray, List.getElem_cons_zero, List.getElem_cons_succ, Act.put, List.setIfInBounds_toArray, List.set_cons_zero, List.set_cons_succ]
              refine wpAnyH_ready (rs := [11]) (by kernel_rfl) (by simp) ?_
              refine AllReadyH.cons rfl (fun K hK => ?_) AllReadyH.nil
              go_simp
              go_at_call 109
              refine (HK2.out _ (hlw.below hb1')).mono ?_
              rintro e u2 ⟨rfl, hb2⟩
              have hb2' := hb1'.trans (hb2.mono hb1'.size)
              (try dsimp only)
              refine hK.out _ _ (keepS hb2' hS0) (fun hHeld => ?_)
              clear hK K
              try simp only [List.getElem_toArray, List.getElem_cons_zero, List.getElem_cons_succ, Act.put, List.setIfInBounds_toArray, List.set_cons_zero, List.set_cons_succ]
              refine wpAnyH_ready (rs := [12]) (by kernel_rfl) (by simp) ?_
              refine AllReadyH.cons rfl (fun K hK => ?_) AllReadyH.nil
              go_simp
              go_at_call 108
              refine (kcompare_any Wa Wb u2 hcm).mono ?_
              rintro e u3 ⟨rfl, hb3⟩
              have hb3' := hb2'.trans (hb3.mono hb2'.size)
              (try dsimp only)
              refine hK.out _ _ (keepS hb3' hS0) (fun hHeld => ?_)
              clear hK K
              try simp only [List.getElem_toArray, List.getElem_cons_zero, List.getElem_cons_succ, Act.put, List.setIfInBounds_toArray, List.set_cons_zero, List.set_cons_succ]
              generalize Fl.cmpR Wa Wb = cv at hcc ⊢
              refine wpAnyH_take (i := 13) (v := .bool false) rfl (by kernel_rfl) (by kernel_rfl) (by kernel_rfl) (fun _ _ _ h => h) (Or.inl ⟨by rfl, fun w hSw => ?_⟩) (by assumption) ?_
              · obtain ⟨s0, s1, s2, s3, s4, s5, s6, s7, s8, s9⟩ := hSw
                (go_simp <;> omega)
              try simp only [List.getElem_toArray, List.getElem_cons_zero, List.getElem_cons_succ, Act.put, List.setIfInBounds_toArray, List.set_cons_zero, List.set_cons_succ]
              refine wpAnyH_done (by kernel_rfl) ?_ _
              replace hq := hq.trans (hb3'.mono hq.size)
              clear hdr hS0 keepS hb1 hb2 hb3 hb1' hb2' hb3' y0 y1 y2 y3 y4 v0 v1 v2 v3 v4
              go_wp2_with fail
              go_roundw
              case rel => exact ⟨m + 1, by omega, by go_num, rfl, hq⟩
              case measure => simp [intOf]; omega
            · have hm2 : m = n := by omega
              have Hm := Lib.hid hm2
              clear hm2
              replace hb := hb.trans (hq.mono hb.size)
              go_wp2_with fail
              go_roundw
              case rel => exact ⟨k + 1, by omega, by go_num, rfl, hb⟩
              case measure => simp [intOf]; omega
        · have hk3 : k = n := by omega
          have Hk3 := Lib.hid hk3
          clear hk3
          go_wp2_with fail
          go_ret2
          exact ⟨by simp, hbw⟩
end Go.Proofs.Ytemlfklipkpacaa
