import Derived.Test.YtemlfklipkpacaaNa
/- Package knife: the part that an owner has; Parts. -/
namespace Go.Proofs.Ytemlfklipkpacaa
open Go.RowKit

theorem own_slot {w : World} {base n size : Nat} {e : TypeId} {v : Value} {xs : List Value} (h : w.ownsRow base e size v n xs) {k : Nat} (hk : k < xs.length) :
    ∃ g cap, v = .slice (some ⟨g, 0, none⟩) n cap ∧ base ≤ g ∧ w.frozen? ⟨g, k, none⟩ = false ∧ w.cell? ⟨g, k, none⟩ = some xs[k] ∧ (∃ cs, w.heap[g]? = some (.cells cs e (0, 0))) ∧ ∀ u, (w.setCell ⟨g, k, none⟩ u).ownsRow base e size v n (xs.set k u) := by
  rcases h.2 with ⟨_, h0⟩ | ⟨g, cap, cur, rfl, hb, hg, hnc, hcm, hcs, htk⟩
  · have := h.1
    subst h0
    simp at this
    rw [this] at hk
    simp at hk
  · refine ⟨g, cap, rfl, hb, frozen_of_row w g k _ _ hg, ?_, ⟨cur, hg⟩, fun u => ⟨by rw [List.length_set]; exact h.1, .inr ⟨g, cap, _, rfl, hb, heap_setCell_same w g k _ _ u hg, hnc, hcm, by simpa using hcs, ?_⟩⟩⟩
    · rw [cell_of_row w g k _ _ _ hg]
      have hl := h.1
      have hu : xs[k]? = some xs[k] := List.getElem?_eq_getElem hk
      generalize xs[k] = q at hu ⊢
      rw [← htk, List.getElem?_take, if_pos (by omega)] at hu
      simpa using hu
    · simp only [Array.toList_setIfInBounds]
      rw [List.take_set, htk]
theorem flat2_set (xs : List (Int × Int)) (p : Int × Int) : ∀ j, ((flat2 xs).set (j * 2) (.int .i64 p.1)).set (j * 2 + 1) (.int .i64 p.2) = flat2 (xs.set j p) := by
  induction xs with
  | nil => intro j; rfl
  | cons z r ih =>
    intro j
    cases j with
    | zero => rfl
    | succ j =>
      have := ih j
      rw [show (j + 1) * 2 = j * 2 + 2 by omega, show j * 2 + 2 + 1 = j * 2 + 1 + 2 by omega]
      simp only [flat2, List.flatMap_cons, List.set_cons_succ] at this ⊢
      show _ :: _ :: _ = _ :: _ :: _
      rw [← this]
      rfl
/-- A fraction is stored into an own row of fractions. -/
theorem own_slot2 {w : World} {base n : Nat} {e : TypeId} {v : Value} {xs : List (Int × Int)} (h : w.ownsRow base e 2 v n (flat2 xs)) {j : Nat} (hj : j < xs.length) :
    ∃ g cap, v = .slice (some ⟨g, 0, none⟩) n cap ∧ base ≤ g ∧ g < w.heap.size ∧ w.frozen? ⟨g, j * 2, none⟩ = false ∧ w.frozen? ⟨g, j * 2 + 1, none⟩ = false ∧ (∃ u, w.cell? ⟨g, j * 2, none⟩ = some u) ∧ (∃ u, w.cell? ⟨g, j * 2 + 1, none⟩ = some u) ∧
      ∀ p : Int × Int, ((w.setCell ⟨g, j * 2, none⟩ (.int .i64 p.1)).setCell ⟨g, j * 2 + 1, none⟩ (.int .i64 p.2)).ownsRow base e 2 v n (flat2 (xs.set j p)) := by
  have hl := flat2_length xs
  obtain ⟨g, cap, rfl, hb, f0, c0, ⟨cs, hh⟩, s0⟩ := own_slot h (k := j * 2) (by omega)
  obtain ⟨g', cap', he, -, f1, c1, -, -⟩ := own_slot h (k := j * 2 + 1) (by omega)
  cases he
  refine ⟨g, cap, rfl, hb, heap_lt hh, f0, f1, ⟨_, c0⟩, ⟨_, c1⟩, fun p => ?_⟩
  obtain ⟨g2, cap2, he2, -, -, -, -, s1⟩ := own_slot (s0 (.int .i64 p.1)) (k := j * 2 + 1) (by rw [List.length_set]; omega)
  cases he2
  rw [← flat2_set]
  exact s1 _

set_option maxRecDepth 100000 in
set_option maxHeartbeats 2000000 in
theorem kworthOf_any (z : List (Int × Int)) (o : Int) (a b : Rat) (ao : Option Addr) (n cap : Nat) (w : World) (hp : Lnd w ao (Fl.strips 0 z)) (hn : n = z.length) (hok : Fl.Ok z) (h6 : z.length ≤ 6) (hab : KPl a b 20) :
    Calls Try.prog 109 #[.slice ao n cap, .agg #[.int .i64 o, .int .i64 a.num, .int .i64 a.den, .int .i64 b.num, .int .i64 b.den]] w fun e w' => e = .returned (Fr (Fl.worth z a b)) ∧ Below w.heap.size w w' := by
  have Hn := Lib.hid hn
  clear hn
  obtain ⟨S, hS⟩ : ∃ s, s = Fl.worth z a b := ⟨_, rfl⟩
  rw [← hS]
  have HS := Lib.hid hS
  clear hS
  have hA := below_alloc2 w (.cells #[.int .i64 o, .int .i64 a.num, .int .i64 a.den, .int .i64 b.num, .int .i64 b.den] 86) (.cells #[.int .i64 0, .int .i64 0] 124)
  have rp := heap_alloc2_old w (.cells #[.int .i64 o, .int .i64 a.num, .int .i64 a.den, .int .i64 b.num, .int .i64 b.den] 86) (.cells #[.int .i64 0, .int .i64 0] 124)
  have rr := heap_alloc2_new w (.cells #[.int .i64 o, .int .i64 a.num, .int .i64 a.den, .int .i64 b.num, .int .i64 b.den] 86) (.cells #[.int .i64 0, .int .i64 0] 124)
  go_enter Try.func109, Try.ntmps109
  go_upto_region 1 with fail
  generalize (w.alloc (.cells #[.int .i64 o, .int .i64 a.num, .int .i64 a.den, .int .i64 b.num, .int .i64 b.den] 86)).alloc (.cells #[.int .i64 0, .int .i64 0] 124) = W0 at hA rp rr ⊢
  obtain ⟨G, hG⟩ : ∃ g, g = w.heap.size := ⟨_, rfl⟩
  rw [← hG] at rp rr ⊢
  have HG := Lib.hid hG
  clear hG
  have q1 := cell_of_row W0 G 1 _ _ _ rp
  have q2 := cell_of_row W0 G 2 _ _ _ rp
  have q3 := cell_of_row W0 G 3 _ _ _ rp
  have q4 := cell_of_row W0 G 4 _ _ _ rp
  simp at q1 q2 q3 q4
  replace hp := hp.below hA
  go_wp2_with fail
  refine (kworth_any z a b ao n cap W0 hp Hn.out hok h6 hab).mono ?_
  rintro e w1 ⟨rfl, hb1⟩
  replace rr := heap_keep hb1 rr
  replace hA := hA.trans (hb1.mono hA.size)
  clear hb1 q1 q2 q3 q4 rp
  rw [← HS.out]
  obtain ⟨⟨r0, r1⟩, s0, s1⟩ := row_fr rr
  go_wp2_with fail
  exact bodyPost_ret (results_cell_row rfl _ _ _ _ _ _ _ rfl (two_cells rr (.int .i64 S.num) (.int .i64 S.den)) Try.underlying124 rfl kinfoFr2) rfl ⟨rfl, below_setCell (below_setCell hA (by have := HG.out; omega) _) (by have := HG.out; omega) _⟩

set_option maxRecDepth 100000 in
set_option maxHeartbeats 2000000 in
theorem kpart_any (z : List (Int × Int)) (o : Int) (a b : Rat) (ao : Option Addr) (n cap : Nat) (w : World) (hp : Lnd w ao (Fl.strips 0 z)) (hn : n = z.length) (hok : Fl.Ok z) (h6 : z.length ≤ 6) (hab : KPl a b 20) (hT : 0 < Fl.tot z) (hN : 0 ≤ (Fl.worth z a b).num ∧ (Fl.worth z a b).num ≤ 4000000000000000 ∧ (Fl.worth z a b).den ≤ 1000000000000) :
    Calls Try.prog 111 #[.slice ao n cap, .agg #[.int .i64 o, .int .i64 a.num, .int .i64 a.den, .int .i64 b.num, .int .i64 b.den]] w fun e w' => e = .returned (Fr (Fl.worth z a b / (Fl.tot z : Rat))) ∧ Below w.heap.size w w' := by
  have Hn := Lib.hid hn
  clear hn
  have hT2 := (Fl.tot_bound hok).2
  have hT3 : Fl.tot z ≤ 2400 := by omega
  obtain ⟨S, hS⟩ : ∃ s, s = Fl.worth z a b := ⟨_, rfl⟩
  obtain ⟨T, hTe⟩ : ∃ s, s = Fl.tot z := ⟨_, rfl⟩
  rw [← hS] at hN
  rw [← hTe] at hT hT3
  rw [← hS, ← hTe]
  obtain ⟨Q, hQ⟩ : ∃ s, s = S / (T : Rat) := ⟨_, rfl⟩
  rw [← hQ]
  have HS := Lib.hid hS
  have HT := Lib.hid hTe
  have HQ := Lib.hid hQ
  clear hS hTe hQ hT2
  have hA := below_alloc2 w (.cells #[.int .i64 o, .int .i64 a.num, .int .i64 a.den, .int .i64 b.num, .int .i64 b.den] 86) (.cells #[.int .i64 0, .int .i64 0] 124)
  have rp := heap_alloc2_old w (.cells #[.int .i64 o, .int .i64 a.num, .int .i64 a.den, .int .i64 b.num, .int .i64 b.den] 86) (.cells #[.int .i64 0, .int .i64 0] 124)
  have rr := heap_alloc2_new w (.cells #[.int .i64 o, .int .i64 a.num, .int .i64 a.den, .int .i64 b.num, .int .i64 b.den] 86) (.cells #[.int .i64 0, .int .i64 0] 124)
  go_enter Try.func111, Try.ntmps111
  go_upto_region 1 with fail
  generalize (w.alloc (.cells #[.int .i64 o, .int .i64 a.num, .int .i64 a.den, .int .i64 b.num, .int .i64 b.den] 86)).alloc (.cells #[.int .i64 0, .int .i64 0] 124) = W0 at hA rp rr ⊢
  obtain ⟨G, hG⟩ : ∃ g, g = w.heap.size := ⟨_, rfl⟩
  rw [← hG] at rp rr ⊢
  have HG := Lib.hid hG
  clear hG
  have q0 := cell_of_row W0 G 0 _ _ _ rp
  have q1 := cell_of_row W0 G 1 _ _ _ rp
  have q2 := cell_of_row W0 G 2 _ _ _ rp
  have q3 := cell_of_row W0 G 3 _ _ _ rp
  have q4 := cell_of_row W0 G 4 _ _ _ rp
  simp at q0 q1 q2 q3 q4
  replace hp := hp.below hA
  go_wp2_with fail
  refine (kworthOf_any z o a b ao n cap W0 hp Hn.out hok h6 hab).mono ?_
  rintro e w1 ⟨rfl, hb1⟩
  replace rr := heap_keep hb1 rr
  replace hA := hA.trans (hb1.mono hA.size)
  replace hp := hp.below hb1
  clear hb1 q0 q1 q2 q3 q4 rp
  have hAl := kall_any z ao n cap w1 hp Hn.out hok h6
  rw [← HT.out] at hAl
  rw [← HS.out]
  go_wp2_with fail
  refine hAl.mono ?_
  rintro e w2 ⟨rfl, hb2⟩
  replace rr := heap_keep hb2 rr
  replace hA := hA.trans (hb2.mono hA.size)
  clear hb2 hAl
  have hden : (S.den : Int) * T ≤ 1000000000000 * 2400 := Int.mul_le_mul (by omega) hT3 (by omega) (by omega)
  go_wp2_with fail
  refine (kover_any S T w2 hN.1 hT (by omega) (by omega)).mono ?_
  rintro e w3 ⟨rfl, hb3⟩
  replace rr := heap_keep hb3 rr
  replace hA := hA.trans (hb3.mono hA.size)
  clear hb3
  rw [← HQ.out]
  obtain ⟨⟨r0, r1⟩, s0, s1⟩ := row_fr rr
  go_wp2_with fail
  exact bodyPost_ret (results_cell_row rfl _ _ _ _ _ _ _ rfl (two_cells rr (.int .i64 Q.num) (.int .i64 Q.den)) Try.underlying124 rfl kinfoFr2) rfl ⟨rfl, below_setCell (below_setCell hA (by have := HG.out; omega) _) (by have := HG.out; omega) _⟩

theorem cell_two_at {w : World} {g h o p r : Nat} {x : Value} (u v : Value) (hne : h ≠ g) (hx : w.cell? ⟨h, o, none⟩ = some x) : ((w.setCell ⟨g, p, none⟩ u).setCell ⟨g, r, none⟩ v).cell? ⟨h, o, none⟩ = some x := by
  rw [← hx]
  unfold World.cell?
  rw [heap_setCell_other _ _ _ _ (by show h ≠ g; exact hne), heap_setCell_other _ _ _ _ (by show h ≠ g; exact hne)]
theorem made2 : ∀ n, n ≤ 5 → (madeCells (Value.agg #[.int .i64 0, .int .i64 0]).cells (n * 2)).toList = flat2 (List.replicate n ((0 : Int), (0 : Int))) := by
  intro n hn
  have h : n = 0 ∨ n = 1 ∨ n = 2 ∨ n = 3 ∨ n = 4 ∨ n = 5 := by omega
  rcases h with rfl | rfl | rfl | rfl | rfl | rfl <;> simp [madeCells, flat2, List.range, List.range.loop, List.replicate, Value.cells]
theorem own_made {w : World} {base g n : Nat} {cs : Array Value} {t : TypeId} {xs : List (Int × Int)} (h : w.heap[g]? = some (.cells cs t (0, 0))) (hc : cs.toList = flat2 xs) (hb : base ≤ g) (hn : xs.length = n) (h5 : n ≤ 1000) : w.ownsRow base t 2 (.slice (some ⟨g, 0, none⟩) n n) n (flat2 xs) := by
  have hl := flat2_length xs
  have hs : cs.size = n * 2 := by rw [← Array.length_toList, hc, hl, hn]
  refine ⟨by rw [hl, hn], .inr ⟨g, n, cs, rfl, hb, h, Nat.le_refl _, by unfold maxLen; omega, hs, ?_⟩⟩
  rw [hc, List.take_of_length_le (by rw [hl, hn]; exact Nat.le_refl _)]
/-- What Parts answers. -/
def Kn.prL (L : List Int) (V : List (List Int)) (ps : List Pc) : List (Int × Int) := if Kn.pcode L V ps = 0 then Kn.partsL L V ps else []
/-- What Parts looks at, for each piece. -/
theorem part_facts {L : List Int} {V : List (List Int)} {ps : List Pc} {D : Nat} (hD : Kn.PcsOk L V ps D) {k : Nat} (hk : k < ps.length) :
    ∃ (j : Nat) (a b : Rat), ps[k] = ((j : Int), pr a, pr b) ∧ j < V.length ∧ KPl a b 20 ∧ (0 ≤ (Fl.worth (Kn.Z L V j) a b).num ∧ (Fl.worth (Kn.Z L V j) a b).num ≤ 4000000000000000 ∧ (Fl.worth (Kn.Z L V j) a b).den ≤ 1000000000000) ∧
      Kn.partQ L V ps[k] = Fl.worth (Kn.Z L V j) a b / (Fl.tot (Kn.Z L V j) : Rat) := by
  obtain ⟨e1, e2, a0, ab, b1, da, db⟩ := hD.at_ k hk
  have hst := hD.ok.stopB
  have hd1 := hD.d1
  have hd2 := hD.d2
  have d1 := Nat.le_of_dvd (by omega) da
  have d2 := Nat.le_of_dvd (by omega) db
  have hown := hD.own
  unfold Kn.okOwn at hown
  rw [Bool.and_eq_true, List.all_eq_true] at hown
  have hio := hown.1 _ (List.getElem_mem hk)
  generalize Kn.begins ps k = a at *
  generalize Kn.begins ps (k + 1) = b at *
  obtain ⟨⟨o, x1, x2⟩, hz⟩ : ∃ z, z = ps[k] := ⟨_, rfl⟩
  rw [← hz] at e1 e2 hio ⊢
  simp only at e1 e2 hio
  subst e1 e2
  unfold Kn.isO at hio
  simp only [Bool.and_eq_true, decide_eq_true_eq] at hio
  obtain ⟨j, rfl⟩ := Int.eq_ofNat_of_zero_le hio.1
  have hj : j < V.length := by omega
  have hzo := hD.ok.zOk hj
  have hzl := hD.ok.zLen hj
  have hl6 := hD.ok.l6
  obtain ⟨w0, w1, w2⟩ := worth_facts hzo (by omega) a0 ab da db
  have w3 := Nat.le_of_dvd (by omega) w2
  have hE : (Kn.stop L : Rat) ≤ ((1000 : Int) : Rat) := Rat.intCast_le_intCast.2 (by omega)
  have hE2 : ((1000 : Int) : Rat) = ((1000 : Nat) : Rat) := rfl
  have hm : (a.den : Int) * (b.den : Int) ≤ 1000000 * 1000000 := Int.mul_le_mul (by omega) (by omega) (by omega) (by omega)
  have hn := Fl.num_le w1
  refine ⟨j, a, b, rfl, hj, ⟨a0, Rat.le_trans a0 ab, by grind, by grind, by omega, by omega⟩, ⟨Fl.num_nonneg w0, by omega, by omega⟩, ?_⟩
  unfold Kn.partQ
  simp only [Int.toNat_natCast]
  rw [pr_rat, pr_rat]
theorem own_len {L : List Int} {V : List (List Int)} {ps : List Pc} {D : Nat} (hD : Kn.PcsOk L V ps D) : ps.length = V.length := by
  have hown := hD.own
  unfold Kn.okOwn at hown
  rw [Bool.and_eq_true, Bool.and_eq_true] at hown
  exact of_decide_eq_true hown.2.2

set_option maxRecDepth 100000 in
set_option maxHeartbeats 8000000 in
theorem kParts_any (L : List Int) (V : List (List Int)) (ps : List Pc) (aoL : Option Addr) (nL cL : Nat) (aoV : Option Addr) (nV cV : Nat) (aop : Option Addr) (n cp : Nat) (w : World) (hf : Fld w aoL nL aoV nV L V) (hl : nL ≤ 100) (hv : nV ≤ 100) (hr : ∀ r ∈ V, r.length ≤ 100) (hp : Pcs w aop ps) (hn : n = ps.length) (hn9 : n ≤ 100000) (hpr : ∀ p ∈ ps, p.2.1.1 ≤ 9223372036854775807 ∧ p.2.2.1 ≤ 9223372036854775807) :
    Calls Try.prog 53 #[.agg #[.slice aoL nL cL, .slice aoV nV cV], .slice aop n cp] w fun e w' => ∃ v, e = .returned (.tuple #[v, .int .i64 (Kn.pcode L V ps)]) ∧ w'.ownsRow w.heap.size 29 2 v (Kn.prL L V ps).length (flat2 (Kn.prL L V ps)) ∧ Below w.heap.size w w' := by
  have Hn := Lib.hid hn
  clear hn
  have hA := (Below.refl _ w).alloc (Nat.le_refl _) (.cells #[.slice aoL nL cL, .slice aoV nV cV] 57)
  have rf := heap_alloc_new w (.cells #[.slice aoL nL cL, .slice aoV nV cV] 57)
  go_enter Try.func53, Try.ntmps53
  go_upto_region 1 with fail
  generalize w.alloc (.cells #[.slice aoL nL cL, .slice aoV nV cV] 57) = W0 at hA rf ⊢
  obtain ⟨G, hG⟩ : ∃ g, g = w.heap.size := ⟨_, rfl⟩
  rw [← hG] at rf ⊢
  have HG := Lib.hid hG
  clear hG
  replace hf := hf.below hA
  replace hp := hp.below hA
  obtain ⟨⟨x0, x1⟩, -, -⟩ := row_fr rf
  go_wp2_with fail
  refine ((kCheckPieces_any L V ps _ _ _ _ _ _ _ _ _ W0 hf hl hv hr hp Hn.out hn9 hpr)).mono ?_
  rintro e w1 ⟨rfl, hbb⟩
  replace hf := hf.below hbb
  replace hp := hp.below hbb
  replace rf := heap_keep hbb rf
  replace hA := hA.trans (hbb.mono hA.size)
  clear hbb
  clear x0 x1
  by_cases hz : Kn.pcode L V ps = 0
  · obtain ⟨D, hD⟩ := pcode_ok hz
    have hok := hD.ok
    have hPL : Hid (Kn.prL L V ps = Kn.partsL L V ps) := Lib.hid (by unfold Kn.prL; rw [if_pos hz])
    have hlen := own_len hD
    have HF := Lib.hid (fun (k : Nat) (hk : k < ps.length) => part_facts hD hk)
    have hn5 : n ≤ 5 := by have := Hn.out; have := hok.v5; omega
    have HLen := Lib.hid hlen
    rw [hz]
    have Hz := Lib.hid hz
    clear hz hD hlen
    obtain ⟨i0, hi0, hz0, hz1, hz2⟩ := info_rt
    have hmk : ∀ w0 : World, (Instr.makeSlice 40 (.int .i64 n) (.int .i64 n)).run Try.prog w0 = .ok (.slice (some ⟨w0.heap.size, 0, none⟩) n n) (w0.alloc (.cells (madeCells (Value.agg #[.int .i64 0, .int .i64 0]).cells (n * 2)) 29)) := fun w0 => by
      have h := run_make (P := Try.prog) w0 40 29 i0 _ Try.underlying40 hi0 hz0 .i64 .i64 n n (by omega) (Int.le_refl _) (by rw [hz2]; omega) (by omega)
      rw [Int.toNat_natCast, hz1] at h
      exact h
    have hmd := made2 n hn5
    generalize madeCells (Value.agg #[.int .i64 0, .int .i64 0]).cells (n * 2) = cur0 at hmk hmd
    have hown0 := own_made (base := w1.heap.size) (n := n) (xs := List.replicate n ((0 : Int), (0 : Int))) (heap_alloc_new w1 (.cells cur0 29)) hmd (Nat.le_refl _) (by simp) (by omega)
    have hal := (Below.refl w1.heap.size w1).alloc (Nat.le_refl _) (.cells cur0 29)
    go_upto_region 5 with (first | (at_make; refine wpList_make rfl _ _ _ rfl (.int .i64 n) (.int .i64 n) rfl rfl _ _ (hmk _) ?_))
    generalize w1.alloc (.cells cur0 29) = W2 at hown0 hal ⊢
    obtain ⟨Gv, hGv⟩ : ∃ g, g = w1.heap.size := ⟨_, rfl⟩
    rw [← hGv] at hown0 ⊢
    have HGv := Lib.hid hGv
    have hGG : G < Gv := by have := heap_lt rf; omega
    clear hGv
    clear hmk hmd hi0 hz0 hz1 hz2
    go_wp2_with fail
    go_loopw [21] (fun i wr => ∃ k : Nat, k ≤ n ∧ i = .int .i64 k ∧ Hid (wr.ownsRow Gv 29 2 (.slice (some ⟨Gv, 0, none⟩) n n) n (flat2 ((ps.take k).foldl (Kn.setP L V) (List.replicate n (0, 0))))) ∧ Below w1.heap.size w1 wr) (fun i _ => n - (intOf i).toNat)
    case atStart => exact ⟨0, Nat.zero_le _, rfl, Lib.hid hown0, hal⟩
    case round =>
      clear hown0 hal
      obtain ⟨k, hk, rfl, hown, hb⟩ := hrel
      by_cases hlt : k < n
      · have hkl : k < ps.length := by have := Hn.out; omega
        have hsn := Lib.hid (foldl_snoc hkl (Kn.setP L V) (List.replicate n ((0 : Int), (0 : Int))))
        obtain ⟨j, a, b, he, hj, hKP, hNN, hPQ⟩ := HF.out k hkl
        obtain ⟨bp, off, rfl, hbs, z0, z1, z2, z3, z4⟩ := pcs_at (hp.below hb) hkl
        rw [he] at z0 z1 z2 z3 z4
        have hst : Hid (∀ s, Kn.setP L V s ps[k] = s.set j (pr (Fl.worth (Kn.Z L V j) a b / (Fl.tot (Kn.Z L V j) : Rat)))) := Lib.hid (fun s => by
          unfold Kn.setP
          rw [hPQ, he]
          simp only [Int.toNat_natCast])
        simp only [pr] at z0 z1 z2 z3 z4
        clear hPQ he
        have i1 : (k : Int) < (n : Int) := by omega
        have hfr := hf.below hb
        have rfr := heap_keep hb rf
        have hjn : j < n := by have := HLen.out; have := Hn.out; omega
        have hzl := hok.zLen hj
        have hKo := fun w' (hf' : Fld w' aoL nL aoV nV L V) => kown_any L V j aoL nL cL aoV nV cV w' hf'.hL hf'.hV hf'.nl hf'.nv hok hj
        have hKp := fun w' ao cap (hp' : Lnd w' ao (Fl.strips 0 (Kn.Z L V j))) => kpart_any (Kn.Z L V j) (j : Int) a b ao nL cap w' hp' (by rw [hzl]; exact hf.nl) (hok.zOk hj) (by rw [hzl]; exact hok.l6) hKP (hok.zTot hj).1 hNN
        obtain ⟨Q, hQ⟩ : ∃ x, x = Fl.worth (Kn.Z L V j) a b / (Fl.tot (Kn.Z L V j) : Rat) := ⟨_, rfl⟩
        rw [← hQ] at hst hKp
        generalize Kn.Z L V j = Zj at hKo hKp
        have HKo := Lib.hid hKo
        have HKp := Lib.hid hKp
        clear hKo hKp hQ hKP hNN hzl hj
        obtain ⟨xs, hxs⟩ : ∃ l, l = (ps.take k).foldl (Kn.setP L V) (List.replicate n ((0 : Int), (0 : Int))) := ⟨_, rfl⟩
        have hxl : xs.length = n := by rw [hxs, partsF_len, List.length_replicate]
        rw [← hxs] at hown hsn
        have HX := Lib.hid hxl
        clear hxs hxl
        go_upto_region 8 with fail
        have r7 := heap_alloc_new wr (.cells #[.int .i64 j, .int .i64 a.num, .int .i64 a.den, .int .i64 b.num, .int .i64 b.den] 86)
        have hal := (Below.refl wr.heap.size wr).alloc (Nat.le_refl _) (.cells #[.int .i64 j, .int .i64 a.num, .int .i64 a.den, .int .i64 b.num, .int .i64 b.den] 86)
        have hGw : Gv < wr.heap.size := by
          have h2 := own_slot2 hown.out (j := j) (by rw [HX.out]; exact hjn)
          obtain ⟨g, cap, he, -, h3, -⟩ := h2
          cases he
          exact h3
        replace hfr := hfr.below hal
        replace rfr := heap_keep hal rfr
        replace hb := hb.trans (hal.mono hb.size)
        replace hown := Lib.hid (own_below hown.out hal)
        clear hal z0 z1 z2 z3 z4 hbs
        generalize wr.alloc (.cells #[.int .i64 j, .int .i64 a.num, .int .i64 a.den, .int .i64 b.num, .int .i64 b.den] 86) = W7 at hfr rfr hb hown r7 ⊢
        obtain ⟨G7, hg7⟩ : ∃ g, g = wr.heap.size := ⟨_, rfl⟩
        rw [← hg7] at r7 hGw ⊢
        clear hg7
        obtain ⟨⟨x0, x1⟩, -, -⟩ := row_fr rfr
        have q0 := cell_of_row W7 G7 0 _ _ _ r7
        have q1 := cell_of_row W7 G7 1 _ _ _ r7
        have q2 := cell_of_row W7 G7 2 _ _ _ r7
        have q3 := cell_of_row W7 G7 3 _ _ _ r7
        have q4 := cell_of_row W7 G7 4 _ _ _ r7
        simp at q0 q1 q2 q3 q4
        have hdr : Below W7.heap.size W7 W7.drew := below_drewN (Below.refl W7.heap.size W7) 1
        have hS0 := And.intro x0 (And.intro x1 (And.intro q0 (And.intro q1 (And.intro q2 (And.intro q3 q4)))))
        have keepS : ∀ {W : World}, Below W7.heap.size W7 W → (W7.cell? ⟨G, 0, none⟩ = some (.slice aoL nL cL) ∧ W7.cell? ⟨G, 1, none⟩ = some (.slice aoV nV cV) ∧ W7.cell? ⟨G7, 0, none⟩ = some (.int .i64 j) ∧ W7.cell? ⟨G7, 1, none⟩ = some (.int .i64 a.num) ∧ W7.cell? ⟨G7, 2, none⟩ = some (.int .i64 a.den) ∧ W7.cell? ⟨G7, 3, none⟩ = some (.int .i64 b.num) ∧ W7.cell? ⟨G7, 4, none⟩ = some (.int .i64 b.den)) → (W.cell? ⟨G, 0, none⟩ = some (.slice aoL nL cL) ∧ W.cell? ⟨G, 1, none⟩ = some (.slice aoV nV cV) ∧ W.cell? ⟨G7, 0, none⟩ = some (.int .i64 j) ∧ W.cell? ⟨G7, 1, none⟩ = some (.int .i64 a.num) ∧ W.cell? ⟨G7, 2, none⟩ = some (.int .i64 a.den) ∧ W.cell? ⟨G7, 3, none⟩ = some (.int .i64 b.num) ∧ W.cell? ⟨G7, 4, none⟩ = some (.int .i64 b.den)) :=
          fun hb h => ⟨keep_cell hb h.1, keep_cell hb h.2.1, keep_cell hb h.2.2.1, keep_cell hb h.2.2.2.1, keep_cell hb h.2.2.2.2.1, keep_cell hb h.2.2.2.2.2.1, keep_cell hb h.2.2.2.2.2.2⟩
        refine wp_region_held_drew (S := fun w' => w'.cell? ⟨G, 0, none⟩ = some (.slice aoL nL cL) ∧ w'.cell? ⟨G, 1, none⟩ = some (.slice aoV nV cV) ∧ w'.cell? ⟨G7, 0, none⟩ = some (.int .i64 j) ∧ w'.cell? ⟨G7, 1, none⟩ = some (.int .i64 a.num) ∧ w'.cell? ⟨G7, 2, none⟩ = some (.int .i64 a.den) ∧ w'.cell? ⟨G7, 3, none⟩ = some (.int .i64 b.num) ∧ w'.cell? ⟨G7, 4, none⟩ = some (.int .i64 b.den)) (by kernel_rfl) (keepS hdr hS0) (fun hHeld => ?_)
        refine wpAnyH_take (i := 0) (v := .slice (some ⟨Gv, 0, none⟩) n n) rfl (by kernel_rfl) (by kernel_rfl) (by kernel_rfl) (fun _ _ _ h => h) (Or.inl ⟨by rfl, fun w hSw => ?_⟩) (by assumption) ?_
        · obtain ⟨s0, s1, s2, s3, s4, s5, s6⟩ := hSw
          (go_simp <;> omega)
        try simp only [List.getElem_toArray, List.getElem_cons_zero, Act.put, List.setIfInBounds_toArray, List.set_cons_zero, List.set_cons_succ]
        refine wpAnyH_take (i := 1) (v := .pointer (some ⟨G7, 0, none⟩)) rfl (by kernel_rfl) (by kernel_rfl) (by kernel_rfl) (fun _ _ _ h => h) (Or.inl ⟨by rfl, fun w hSw => ?_⟩) (by assumption) ?_
        · obtain ⟨s0, s1, s2, s3, s4, s5, s6⟩ := hSw
          (go_simp <;> omega)
        try simp only [List.getElem_toArray, List.getElem_cons_zero, List.getElem_cons_succ, Act.put, List.setIfInBounds_toArray, List.set_cons_zero, List.set_cons_succ]
        refine wpAnyH_take (i := 2) (v := .int .i64 j) rfl (by kernel_rfl) (by kernel_rfl) (by kernel_rfl) (fun _ _ _ h => h) (Or.inl ⟨by rfl, fun w hSw => ?_⟩) (by assumption) ?_
        · obtain ⟨s0, s1, s2, s3, s4, s5, s6⟩ := hSw
          (go_simp <;> omega)
        try simp only [List.getElem_toArray, List.getElem_cons_zero, List.getElem_cons_succ, Act.put, List.setIfInBounds_toArray, List.set_cons_zero, List.set_cons_succ]
        refine wpAnyH_take (i := 3) (v := .agg #[.slice aoL nL cL, .slice aoV nV cV]) rfl (by kernel_rfl) (by kernel_rfl) (by kernel_rfl) (fun _ _ _ h => h) (Or.inl ⟨by rfl, fun w hSw => ?_⟩) (by assumption) ?_
        · obtain ⟨s0, s1, s2, s3, s4, s5, s6⟩ := hSw
          (go_simp <;> omega)
        try simp only [List.getElem_toArray, List.getElem_cons_zero, List.getElem_cons_succ, Act.put, List.setIfInBounds_toArray, List.set_cons_zero, List.set_cons_succ]
        refine wpAnyH_take (i := 4) (v := .pointer (some ⟨G7, 0, none⟩)) rfl (by kernel_rfl) (by kernel_rfl) (by kernel_rfl) (fun _ _ _ h => h) (Or.inl ⟨by rfl, fun w hSw => ?_⟩) (by assumption) ?_
        · obtain ⟨s0, s1, s2, s3, s4, s5, s6⟩ := hSw
          (go_simp <;> omega)
        try simp only [List.getElem_toArray, List.getElem_cons_zero, List.getElem_cons_succ, Act.put, List.setIfInBounds_toArray, List.set_cons_zero, List.set_cons_succ]
        refine wpAnyH_take (i := 5) (v := .int .i64 j) rfl (by kernel_rfl) (by kernel_rfl) (by kernel_rfl) (fun _ _ _ h => h) (Or.inl ⟨by rfl, fun w hSw => ?_⟩) (by assumption) ?_
        · obtain ⟨s0, s1, s2, s3, s4, s5, s6⟩ := hSw
          (go_simp <;> omega)
        try simp only [List.getElem_toArray, List.getElem_cons_zero, List.getElem_cons_succ, Act.put, List.setIfInBounds_toArray, List.set_cons_zero, List.set_cons_succ]
        refine wpAnyH_take (i := 7) (v := .agg #[.int .i64 j, .int .i64 a.num, .int .i64 a.den, .int .i64 b.num, .int .i64 b.den]) rfl (by kernel_rfl) (by kernel_rfl) (by kernel_rfl) (fun _ _ _ h => h) (Or.inl ⟨by rfl, fun w hSw => ?_⟩) (by assumption) ?_
        · obtain ⟨s0, s1, s2, s3, s4, s5, s6⟩ := hSw
          (go_simp <;> omega)
        try simp only [List.getElem_toArray, List.getElem_cons_zero, List.getElem_cons_succ, Act.put, List.setIfInBounds_toArray, List.set_cons_zero, List.set_cons_succ]
        refine wpAnyH_ready (rs := [6]) (by kernel_rfl) (by simp) ?_
        refine AllReadyH.cons rfl (fun K hK => ?_) AllReadyH.nil
        go_simp
        go_at_call 107
        refine (HKo.out _ (hfr.below hdr)).mono ?_
        rintro e u1 ⟨ao3, cap3, rfl, hl3, hb1⟩
        have hb1' := hdr.trans (hb1.mono hdr.size)
        (try dsimp only)
        refine hK.out _ _ (keepS hb1' hS0) (fun hHeld => ?_)
        clear hK K
        try simp only [List.getElem_toArray, List.getElem_cons_zero, List.getElem_cons_succ, Act.put, List.setIfInBounds_toArray, List.set_cons_zero, List.set_cons_succ]
        refine wpAnyH_ready (rs := [8]) (by kernel_rfl) (by simp) ?_
        refine AllReadyH.cons rfl (fun K hK => ?_) AllReadyH.nil
        go_simp
        go_at_call 111
        refine (HKp.out _ _ _ hl3).mono ?_
        rintro e u2 ⟨rfl, hb2⟩
        have hb2' := hb1'.trans (hb2.mono hb1'.size)
        (try dsimp only)
        refine hK.out _ _ (keepS hb2' hS0) (fun hHeld => ?_)
        clear hK K
        try simp only [List.getElem_toArray, List.getElem_cons_zero, List.getElem_cons_succ, Act.put, List.setIfInBounds_toArray, List.set_cons_zero, List.set_cons_succ]
        have hown2 := own_below hown.out hb2'
        obtain ⟨g, cap, he, -, hgl, f0, f1, ⟨v0, c0⟩, ⟨v1, c1⟩, hset⟩ := own_slot2 hown2 (j := j) (by rw [HX.out]; exact hjn)
        cases he
        refine wpAnyH_take (i := 9) (v := .pointer (some ⟨Gv, j * 2, none⟩)) rfl (by kernel_rfl) (by kernel_rfl) (by kernel_rfl) (fun _ _ _ h => h) (Or.inl ⟨by rfl, fun w hSw => ?_⟩) (by assumption) ?_
        · obtain ⟨s0, s1, s2, s3, s4, s5, s6⟩ := hSw
          (go_simp <;> omega)
        try simp only [List.getElem_toArray, List.getElem_cons_zero, List.getElem_cons_succ, Act.put, List.setIfInBounds_toArray, List.set_cons_zero, List.set_cons_succ]
        refine wpAnyH_ready (rs := [10]) (by kernel_rfl) (by simp) ?_
        refine AllReadyH.cons rfl (fun K hK => ?_) AllReadyH.nil
        go_simp
        have hset2 := hset (pr Q)
        simp only [pr] at hset2
        have hN0 : w1.heap.size ≤ Gv := by have := HGv.out; omega
        have hB9 : Below w1.heap.size w1 ((u2.setCell ⟨Gv, j * 2, none⟩ (.int .i64 Q.num)).setCell ⟨Gv, j * 2 + 1, none⟩ (.int .i64 (Q.den : Int))) := below_setCell (below_setCell (hb.trans (hb2'.mono hb.size)) hN0 _) hN0 _
        have hG7v : G7 ≠ Gv := by omega
        have hGv7 : G ≠ Gv := by omega
        (try dsimp only)
        refine hK.out _ _ ⟨cell_two_at _ _ hGv7 (keepS hb2' hS0).1, cell_two_at _ _ hGv7 (keepS hb2' hS0).2.1, cell_two_at _ _ hG7v (keepS hb2' hS0).2.2.1, cell_two_at _ _ hG7v (keepS hb2' hS0).2.2.2.1, cell_two_at _ _ hG7v (keepS hb2' hS0).2.2.2.2.1, cell_two_at _ _ hG7v (keepS hb2' hS0).2.2.2.2.2.1, cell_two_at _ _ hG7v (keepS hb2' hS0).2.2.2.2.2.2⟩ (fun hHeld => ?_)
        clear hK K
        try simp only [List.getElem_toArray, List.getElem_cons_zero, List.getElem_cons_succ, Act.put, List.setIfInBounds_toArray, List.set_cons_zero, List.set_cons_succ]
        refine wpAnyH_done (by kernel_rfl) ?_ _
        go_wp2_with fail
        go_roundw
        case rel =>
          refine ⟨k + 1, by omega, by go_num, Lib.hid ?_, hB9⟩
          rw [hsn.out, hst.out]
          simp only [pr]
          exact hset2
        case measure => simp [intOf]; omega
      · have hk2 : k = n := by omega
        have hownF := hown.out
        rw [hk2, Hn.out, List.take_length] at hownF
        have Hk := Lib.hid hk2
        have hbw := hA.trans (hb.mono hA.size)
        have hpl : (Kn.prL L V ps).length = n := by rw [hPL.out, partsL_len]; exact Hn.out.symm
        clear hk2 hown
        go_wp2_with fail
        go_ret2
        refine ⟨.slice (some ⟨Gv, 0, none⟩) n n, by simp [Hz.out], ?_, hbw⟩
        rw [hpl, hPL.out]
        unfold Kn.partsL
        rw [← Hn.out] at hownF ⊢
        exact own_mono hownF (by have := hA.size; have := HGv.out; omega)
  · have hne : (Kn.pcode L V ps != 0) = true := by simp [hz]
    have hPL : Hid (Kn.prL L V ps = []) := Lib.hid (by unfold Kn.prL; rw [if_neg hz])
    obtain ⟨C, hC⟩ : ∃ C, Kn.pcode L V ps = C := ⟨_, rfl⟩
    rw [hC] at hz hne ⊢
    have HC := Lib.hid hC
    clear hC
    go_wp2_with fail
    go_ret2
    refine ⟨.slice none 0 0, by simp [HC.out], ?_, hA⟩
    rw [hPL.out]
    exact own_none
end Go.Proofs.Ytemlfklipkpacaa
