import Derived.Test.YtmdkdkiejcjmaaaWc
import Derived.Test.YtmdkdkiejcjmaaaTr
import Derived.Test.YtmdkdkiejcjmaaaTp
/- The law TermObjections. -/
namespace Go.Proofs.Ytmdkdkiejcjmaaa
open Go.Joins Go.Deep Go.ChangeShapes Go.WideShapes Go.ChangeAt Go.RowKit
set_option maxRecDepth 100000 in
theorem pair_cells {H : Type} {enc : TypeId × Value → H} {w : World} {n : Nat} {c0 c1 : Value} {y : DataW H × List MemPlace} (h : DataW.trod enc Try.prog w 0 (fun _ => true) true n 95 [c0, c1] = some y) :
    ∃ a b : Int, c0 = .int .i64 a ∧ c1 = .int .i64 b ∧ Rng a ∧ Rng b := by
  obtain ⟨y0, y1, n2, _, _, h0, h1⟩ := trod_struct2 Try.underlying95 h
  have k : Try.prog.cellsOf 3 = 1 := by kernel_rfl
  dsimp only at h0 h1
  rw [k] at h0 h1
  obtain ⟨a, ha, _, wa⟩ := DataW.trod_int (cs := [c0]) Try.underlying3 h0
  obtain ⟨b, hb, _, wb⟩ := DataW.trod_int (cs := [c1]) Try.underlying3 h1
  simp only [List.cons.injEq, and_true] at ha hb
  exact ⟨a, b, ha, hb, rng_of wa, rng_of wb⟩
set_option maxRecDepth 100000 in
theorem pairs_of {H : Type} {enc : TypeId × Value → H} {w : World} {n : Nat} {c0 : Value} {y : DataW H × List MemPlace} (h : DataW.trod enc Try.prog w 0 (fun _ => true) true n 47 [c0] = some y) :
    ∃ (ao : Option Addr) (len cap : Nat) (l : List (Int × Int)), c0 = .slice ao len cap ∧ len = l.length ∧ len ≤ cap ∧ Pts w ao l ∧ ∀ x ∈ l, Rng x.1 ∧ Rng x.2 := by
  rcases open_slice Try.underlying47 h with ⟨h0, _⟩ | ⟨a, len, cap, m, n, D, Pl, hcs, hb, hl, hm, hmm, hx, hi⟩
  · simp only [List.cons.injEq, and_true] at h0
    exact ⟨none, 0, 0, [], h0, rfl, Nat.le_refl _, ⟨fun h => by simp at h⟩, fun x hx => by simp at hx⟩
  · simp only [List.cons.injEq, and_true] at hcs
    have hC : Try.prog.cellsOf 95 = 2 := by kernel_rfl
    simp only [if_true] at hmm
    have key : ∀ i, ∃ q : Int × Int, i < len → w.cell? (a.add (i * 2 + 0)) = some (.int .i64 q.1) ∧ w.cell? (a.add (i * 2 + 1)) = some (.int .i64 q.2) ∧ Rng q.1 ∧ Rng q.2 := by
      intro i
      by_cases hin : i < len
      · obtain ⟨cs', hc, ht⟩ := hi i (by omega)
        rw [hC] at hc
        obtain ⟨v0, v1, rfl, e0, e1⟩ := cells_two hc
        obtain ⟨x, y, rfl, rfl, rx, ry⟩ := pair_cells ht
        rw [Go.Deep.add_add] at e0 e1
        exact ⟨(x, y), fun _ => ⟨e0, e1, rx, ry⟩⟩
      · exact ⟨(0, 0), fun h => absurd h hin⟩
    obtain ⟨f, hf2⟩ := Classical.axiomOfChoice key
    refine ⟨some a, len, cap, (List.range len).map f, hcs, by simp, hl, ⟨fun h0 => ?_⟩, fun x hx => ?_⟩
    · have h00 : 0 < len := by simpa using h0
      have hs := spot_none (hf2 0 h00).1
      have ha : a.add (0 * 2 + 0) = a := by simp [Addr.add]
      rw [ha] at hs
      obtain ⟨b, off, sp⟩ := a
      obtain ⟨rfl, hbs⟩ := hs
      refine ⟨b, off, rfl, hbs, fun i hil => ?_⟩
      have hil : i < len := by simpa using hil
      obtain ⟨k1, k2, -, -⟩ := hf2 i hil
      have eg : ((List.range len).map f).getD i (0, 0) = f i := by simp [List.getD_eq_getElem?_getD, hil]
      rw [eg]
      rw [add_none] at k1 k2
      exact ⟨k1, k2⟩
    · simp only [List.mem_map, List.mem_range] at hx
      obtain ⟨i, hi, rfl⟩ := hx
      exact (hf2 i hi).2.2
set_option maxRecDepth 100000 in
theorem open_pairs {H : Type} {enc : TypeId × Value → H} {w : World} {v : Value} {d : DataW H} {p : List MemPlace} (hv : Value.okWide Try.prog w .any 0 47 v)
    (h : DataW.Trod enc Try.prog w 0 (fun _ => true) true 47 v d p) :
    ∃ (ao : Option Addr) (len cap : Nat) (l : List (Int × Int)), v = .slice ao len cap ∧ len = l.length ∧ len ≤ cap ∧ Pts w ao l ∧ ∀ x ∈ l, Rng x.1 ∧ Rng x.2 := by
  obtain ⟨a0, n0, c0, rfl⟩ := okWide_slice Try.underlying47 hv
  obtain ⟨fuel, hf⟩ := h
  exact pairs_of (c0 := .slice a0 n0 c0) (by simpa [Value.cells] using hf)
set_option maxRecDepth 100000 in
theorem open_term {H : Type} {enc : TypeId × Value → H} {w : World} {v : Value} {d : DataW H} {p : List MemPlace} (hv : Value.okWide Try.prog w .any 0 46 v)
    (h : DataW.Trod enc Try.prog w 0 (fun _ => true) true 46 v d p) : ∃ x y z : Int, v = .agg #[.int .i64 x, .int .i64 y, .int .i64 z] ∧ Rng x ∧ Rng y ∧ Rng z := by
  obtain ⟨cs, rfl, hsz⟩ := okWide_struct Try.underlying46 hv
  obtain ⟨c0, c1, c2, rfl⟩ := array3 (hsz.trans (by kernel_rfl))
  obtain ⟨fuel, hf⟩ := h
  obtain ⟨y0, y1, y2, n2, _, _, h0, h1, h2⟩ := trod_struct3 Try.underlying46 hf
  have hD : Try.prog.cellsOf 3 = 1 := by kernel_rfl
  dsimp only at h0 h1 h2
  try rw [hD] at h0
  try rw [hD] at h1
  try rw [hD] at h2
  obtain ⟨a, ha, _, wa⟩ := DataW.trod_int (cs := [c0]) Try.underlying3 (by simpa [Value.cells] using h0)
  obtain ⟨b, hb, _, wb⟩ := DataW.trod_int (cs := [c1]) Try.underlying3 (by simpa [Value.cells] using h1)
  obtain ⟨c, hc, _, wc⟩ := DataW.trod_int (cs := [c2]) Try.underlying3 (by simpa [Value.cells] using h2)
  simp only [List.cons.injEq, and_true] at ha hb hc
  exact ⟨a, b, c, by rw [ha, hb, hc], rng_of wa, rng_of wb, rng_of wc⟩

namespace Tm
theorem nodup_len : ∀ (v m : List Int), v.Nodup → (∀ x ∈ v, x ∈ m) → v.length ≤ m.length
  | [], _, _, _ => Nat.zero_le _
  | a :: v, m, hn, hs => by
    have ha := hs a (by simp)
    have hn2 := List.nodup_cons.1 hn
    have h1 := nodup_len v (m.erase a) hn2.2 (fun x hx => (List.mem_erase_of_ne (fun e => hn2.1 (by rw [← e]; exact hx))).2 (hs x (by simp [hx])))
    rw [List.length_erase_of_mem ha] at h1
    have h2 := List.length_pos_of_mem ha
    simp
    omega
theorem ob_len {f d t e : Int} {F : List Int} {S : List (Int × Int)} {l : List (Int × Int)} {v : List Int} (h : Ob f F S d t l v e) (hl : l.length ≤ 100) : v.length ≤ 100 := by
  rcases h with ⟨-, -, rfl⟩ | ⟨-, ⟨-, -, rfl⟩ | ⟨-, -, x, -, h4⟩⟩
  · simp
  · simp
  · have h5 : v.Nodup := h4.1.imp fun a => Int.ne_of_lt a
    have h7 := nodup_len v (obsF d x l) h5 fun a ha => (obs_mem d x l a).2 ((h4.2 a).1 ha)
    have := obsF_len d x l
    omega
end Tm

set_option maxRecDepth 100000 in
set_option maxHeartbeats 8000000 in
theorem termObjections_any (f : Int) (F : List Int) (S : List (Int × Int)) (aoF : Option Addr) (nF cF : Nat) (aoS : Option Addr) (nS cS : Nat) (d t o : Int) (l : List (Int × Int)) (ao : Option Addr) (n cap : Nat) (w : World) (hcl : Cl w aoF nF aoS nS F S) (hI : Pts w ao l) (hn : n = l.length) :
    Calls Try.prog 11 #[.agg #[.int .i64 f, .slice aoF nF cF, .slice aoS nS cS], .agg #[.int .i64 d, .int .i64 t, .int .i64 o], .slice ao n cap] w fun e w' => e = .returned (.bool true) ∧ Below w.heap.size w w' := by
  have Hn := Lib.hid hn
  clear hn
  have hA := below_alloc2 w (.cells #[.int .i64 f, .slice aoF nF cF, .slice aoS nS cS] 25) (.cells #[.int .i64 d, .int .i64 t, .int .i64 o] 46)
  have rc := heap_alloc2_old w (.cells #[.int .i64 f, .slice aoF nF cF, .slice aoS nS cS] 25) (.cells #[.int .i64 d, .int .i64 t, .int .i64 o] 46)
  have rx := heap_alloc2_new w (.cells #[.int .i64 f, .slice aoF nF cF, .slice aoS nS cS] 25) (.cells #[.int .i64 d, .int .i64 t, .int .i64 o] 46)
  go_enter Try.func11, Try.ntmps11
  go_upto_region 1 with fail
  generalize (w.alloc (.cells #[.int .i64 f, .slice aoF nF cF, .slice aoS nS cS] 25)).alloc (.cells #[.int .i64 d, .int .i64 t, .int .i64 o] 46) = W0 at hA rc rx ⊢
  obtain ⟨G, hG⟩ : ∃ g, g = w.heap.size := ⟨_, rfl⟩
  rw [← hG] at rc rx ⊢
  have HG := Lib.hid hG
  clear hG
  replace hcl := hcl.below hA
  replace hI := hI.below hA
  have c0 := cell_of_row W0 G 0 _ _ _ rc
  have c1 := cell_of_row W0 G 1 _ _ _ rc
  have c2 := cell_of_row W0 G 2 _ _ _ rc
  have d0 := cell_of_row W0 (G + 1) 0 _ _ _ rx
  have d1 := cell_of_row W0 (G + 1) 1 _ _ _ rx
  have d2 := cell_of_row W0 (G + 1) 2 _ _ _ rx
  simp at c0 c1 c2 d0 d1 d2
  clear rc rx
  go_wp2_with fail
  refine ((tlong_any f F S aoF nF cF aoS nS cS W0)).mono ?_
  rintro e w1 ⟨rfl, hbb⟩
  replace hcl := hcl.below hbb
  replace hI := hI.below hbb
  replace hA := hA.trans (hbb.mono hA.size)
  replace c0 := keep_cell hbb c0
  replace c1 := keep_cell hbb c1
  replace c2 := keep_cell hbb c2
  replace d0 := keep_cell hbb d0
  replace d1 := keep_cell hbb d1
  replace d2 := keep_cell hbb d2
  clear hbb
  obtain ⟨B, hB⟩ : ∃ t, (decide (100 < nF) || decide (100 < nS)) = t := ⟨_, rfl⟩
  rw [hB]
  cases B with
  | true =>
    clear hB
    go_wp2_with fail
    refine (tknown_any w1).mono ?_
    rintro e w9 ⟨rfl, hbb⟩
    go_wp2_with fail
    go_ret
    exact ⟨rfl, hA.trans (hbb.mono hA.size)⟩
  | false =>
    rw [Bool.or_eq_false_iff, decide_eq_false_iff_not, decide_eq_false_iff_not] at hB
    obtain ⟨h9a, h8a⟩ := hB
    have h9 : nF ≤ 100000 := by omega
    have h8 : nS ≤ 100000 := by omega
    clear h9a h8a
    by_cases h100 : 100 < n
    · have i1 : (100 : Int) < (n : Int) := by omega
      go_wp2_with fail
      refine (tknown_any w1).mono ?_
      rintro e w9 ⟨rfl, hbb⟩
      go_wp2_with fail
      go_ret
      exact ⟨rfl, hA.trans (hbb.mono hA.size)⟩
    · have i1 : ¬ (100 : Int) < (n : Int) := by omega
      obtain ⟨R, hR⟩ : ∃ c, c = Tm.icode f F S d t o := ⟨_, rfl⟩
      have hX1 := InTime_any f F S aoF nF cF aoS nS cS d t o w1 hcl h9 h8
      rw [← hR] at hX1
      go_wp2_with fail
      refine hX1.mono ?_
      clear hX1
      rintro e w2 ⟨⟨b, rfl, hb⟩, hbb⟩
      replace hcl := hcl.below hbb
      replace hI := hI.below hbb
      replace hA := hA.trans (hbb.mono hA.size)
      replace c0 := keep_cell hbb c0
      replace c1 := keep_cell hbb c1
      replace c2 := keep_cell hbb c2
      replace d0 := keep_cell hbb d0
      replace d1 := keep_cell hbb d1
      replace d2 := keep_cell hbb d2
      clear hbb
      have hX1 := refInTime_any f F S aoF nF cF aoS nS cS d t o w2 hcl h9 h8
      rw [← hR] at hX1
      have HR := Lib.hid hR
      clear hR
      go_wp2_with fail
      refine hX1.mono ?_
      clear hX1
      rintro e w3 ⟨⟨b2, rfl, hb2⟩, hbb⟩
      replace hcl := hcl.below hbb
      replace hI := hI.below hbb
      replace hA := hA.trans (hbb.mono hA.size)
      replace c0 := keep_cell hbb c0
      replace c1 := keep_cell hbb c1
      replace c2 := keep_cell hbb c2
      replace d0 := keep_cell hbb d0
      replace d1 := keep_cell hbb d1
      replace d2 := keep_cell hbb d2
      clear hbb
      obtain rfl := hb.unique hb2
      clear hb hb2
      go_wp2_with fail
      refine (Objectors_any f F S aoF nF cF aoS nS cS d t l ao n cap w3 hcl h9 h8 hI Hn.out (by omega)).mono ?_
      rintro e w4 ⟨⟨ao2, m2, cap2, v, C, rfl, hm2, hI2, hch⟩, hbb⟩
      replace hcl := hcl.below hbb
      replace hI := hI.below hbb
      replace hA := hA.trans (hbb.mono hA.size)
      replace c0 := keep_cell hbb c0
      replace c1 := keep_cell hbb c1
      replace c2 := keep_cell hbb c2
      replace d0 := keep_cell hbb d0
      replace d1 := keep_cell hbb d1
      replace d2 := keep_cell hbb d2
      clear hbb
      have HM2 := Lib.hid hm2
      clear hm2
      go_wp2_with fail
      refine (refObjectors_any f F S aoF nF cF aoS nS cS d t l ao n cap w4 hcl h9 h8 hI Hn.out (by omega)).mono ?_
      rintro e w5 ⟨⟨ao3, m3, cap3, v3, C3, rfl, hm3, hI3, hch3⟩, hbb⟩
      replace hcl := hcl.below hbb
      replace hI := hI.below hbb
      replace hA := hA.trans (hbb.mono hA.size)
      replace c0 := keep_cell hbb c0
      replace c1 := keep_cell hbb c1
      replace c2 := keep_cell hbb c2
      replace d0 := keep_cell hbb d0
      replace d1 := keep_cell hbb d1
      replace d2 := keep_cell hbb d2
      replace hI2 := hI2.below hbb
      clear hbb
      obtain ⟨rfl, rfl⟩ := hch.unique hch3
      have HM3 := Lib.hid hm3
      have hl := Tm.ob_len hch (by rw [← Hn.out]; omega)
      clear hm3 hch hch3
      have hX := sameInts_any v v ao2 m2 cap2 ao3 m3 cap3 w5 hI2 HM2.out hI3 HM3.out (by have := HM2.out; omega) (by have := HM3.out; omega)
      rw [decide_eq_true rfl] at hX
      cases b
      all_goals
        go_wp2_with fail
        refine hX.mono ?_
        clear hX
        rintro e w6 ⟨rfl, hbb⟩
        replace hcl := hcl.below hbb
        replace hI := hI.below hbb
        replace hA := hA.trans (hbb.mono hA.size)
        replace c0 := keep_cell hbb c0
        replace c1 := keep_cell hbb c1
        replace c2 := keep_cell hbb c2
        replace d0 := keep_cell hbb d0
        replace d1 := keep_cell hbb d1
        replace d2 := keep_cell hbb d2
        clear hbb hI3 HM3 hI2
        go_wp2_with fail
        refine (tknown_any w6).mono ?_
        rintro e w9 ⟨rfl, hbb⟩
        go_wp2_with fail
        go_ret
        exact ⟨rfl, hA.trans (hbb.mono hA.size)⟩
end Go.Proofs.Ytmdkdkiejcjmaaa
