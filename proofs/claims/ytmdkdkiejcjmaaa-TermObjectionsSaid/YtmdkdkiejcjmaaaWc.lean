import Derived.Test.YtmdkdkiejcjmaaaWb
import Derived.Test.YtmdkdkiejcjmaaaSd
/- Package selionref08: InTime, Objectors. -/
namespace Go.Proofs.Ytmdkdkiejcjmaaa
open Go.RowKit Go.Shelf

set_option maxRecDepth 100000 in
set_option maxHeartbeats 4000000 in
theorem refInTime_any (f : Int) (F : List Int) (S : List (Int × Int)) (aoF : Option Addr) (nF cF : Nat) (aoS : Option Addr) (nS cS : Nat) (d t o : Int) (w : World) (hcl : Cl w aoF nF aoS nS F S) (h9 : nF ≤ 100000) (h8 : nS ≤ 100000) :
    Calls Try.prog 42 #[.agg #[.int .i64 f, .slice aoF nF cF, .slice aoS nS cS], .int .i64 d, .int .i64 t, .int .i64 o] w fun e w' => (∃ b, e = .returned (.tuple #[.bool b, .int .i64 (Tm.icode f F S d t o)]) ∧ Tm.It f F S d t o b) ∧ Below w.heap.size w w' := by
  obtain ⟨C, hC⟩ : ∃ c, c = Tm.icode f F S d t o := ⟨_, rfl⟩
  rw [← hC]
  have HC := Lib.hid hC
  clear hC
  have hA := (Below.refl _ w).alloc (Nat.le_refl _) (.cells #[.int .i64 f, .slice aoF nF cF, .slice aoS nS cS] 25)
  have rc := heap_alloc_new w (.cells #[.int .i64 f, .slice aoF nF cF, .slice aoS nS cS] 25)
  replace hcl := hcl.below hA
  go_enter Try.func42, Try.ntmps42
  go_upto_region 1 with fail
  generalize w.alloc (.cells #[.int .i64 f, .slice aoF nF cF, .slice aoS nS cS] 25) = W0 at hA rc hcl ⊢
  obtain ⟨G, hG⟩ : ∃ g, g = w.heap.size := ⟨_, rfl⟩
  rw [← hG] at rc ⊢
  have HG := Lib.hid hG
  clear hG
  have c0 := cell_of_row W0 G 0 _ _ _ rc
  have c1 := cell_of_row W0 G 1 _ _ _ rc
  have c2 := cell_of_row W0 G 2 _ _ _ rc
  simp at c0 c1 c2
  clear rc
  go_wp2_with fail
  have hal := ((Below.refl W0.heap.size W0).alloc (Nat.le_refl _) (.cells #[.int .i64 d, .int .i64 o] 3)).alloc (by simp) (.cells #[.int .i64 t] 3)
  have hX := asked_any f F S aoF nF cF aoS nS cS [d, o] (some ⟨W0.heap.size, 0, none⟩) 2 2 [t] (some ⟨W0.heap.size + 1, 0, none⟩) 1 1 _ (hcl.below hal) h9 h8 ((ints_new2 W0 d o).below ((Below.refl _ _).alloc (Nat.le_refl _) _)) rfl (by omega) (by simpa using ints_new1 (W0.alloc (.cells #[.int .i64 d, .int .i64 o] 3)) t) rfl (by omega)
  rw [Tm.icode_asked, ← HC.out] at hX
  refine hX.mono ?_
  clear hX
  rintro e w1 ⟨rfl, hbb⟩
  replace hcl := hcl.below hal
  replace c0 := keep_cell hal c0
  replace c1 := keep_cell hal c1
  replace c2 := keep_cell hal c2
  replace hA := hA.trans (hal.mono hA.size)
  replace hcl := hcl.below hbb
  replace c0 := keep_cell hbb c0
  replace c1 := keep_cell hbb c1
  replace c2 := keep_cell hbb c2
  replace hA := hA.trans (hbb.mono hA.size)
  clear hal hbb
  by_cases hz : C = 0
  · have hz2 := Lib.hid (HC.out.symm.trans hz)
    obtain ⟨hz3, ho⟩ := Tm.icode_ok hz2.out
    obtain ⟨hv, hd, hts⟩ := Tm.tcode_ok hz3
    have ht := hts t (by simp)
    obtain ⟨hok, -, -⟩ := Tm.vcode_ok hv
    subst hz
    obtain ⟨d0, rfl⟩ := Int.eq_ofNat_of_zero_le hd.1
    obtain ⟨t0, rfl⟩ := Int.eq_ofNat_of_zero_le ht.1
    have hE := rends_any d0 t0 f F S aoF nF cF aoS nS cS w1 hcl h9 h8 hok (by omega) (by omega)
    clear HC hv hts hd ht hz3
    go_wp2_with fail
    refine hE.mono ?_
    clear hE
    rintro e w3 ⟨⟨x, rfl, hx, hxb⟩, hbb⟩
    replace hcl := hcl.below hbb
    replace c0 := keep_cell hbb c0
    replace c1 := keep_cell hbb c1
    replace c2 := keep_cell hbb c2
    replace hA := hA.trans (hbb.mono hA.size)
    have hq : Hid (Tm.It f F S (d0 : Int) (t0 : Int) o (decide ((d0 : Int) ≤ o) && decide (o ≤ (x : Int)))) := Lib.hid (.inr ⟨hz2.out, x, by rw [Int.toNat_natCast, Int.toNat_natCast]; exact hx, rfl⟩)
    clear hbb hx
    go_wp2_with fail
    by_cases hw : (d0 : Int) ≤ o ∧ o ≤ (x : Int)
    · have hqt : Hid (Tm.It f F S (d0 : Int) (t0 : Int) o true) := Lib.hid (by have := hq.out; rw [decide_eq_true hw.1, decide_eq_true hw.2] at this; exact this)
      refine (withinT w3 hw.1 hw.2).mono ?_
      rintro e w4 ⟨rfl, rfl⟩
      clear hq hw
      go_wp2_with fail
      go_ret2
      exact ⟨⟨true, rfl, hqt.out⟩, hA⟩
    · have hqt : Hid (Tm.It f F S (d0 : Int) (t0 : Int) o false) := Lib.hid (by
        have := hq.out
        have h2 : (decide ((d0 : Int) ≤ o) && decide (o ≤ (x : Int))) = false := by
          rw [Bool.and_eq_false_iff, decide_eq_false_iff_not, decide_eq_false_iff_not]
          omega
        rw [h2] at this
        exact this)
      refine (withinF w3 hw).mono ?_
      rintro e w4 ⟨rfl, rfl⟩
      clear hq hw
      go_wp2_with fail
      go_ret2
      exact ⟨⟨false, rfl, hqt.out⟩, hA⟩
  · have hne : (C != 0) = true := by simp [hz]
    have hq : Hid (Tm.It f F S d t o false) := Lib.hid (.inl ⟨by rw [← HC.out]; exact hz, rfl⟩)
    go_wp2_with fail
    go_ret2
    exact ⟨⟨false, rfl, hq.out⟩, hA⟩

namespace Tm
def oin (d x : Int) (l : List (Int × Int)) (a : Nat) : Bool := l.any fun o => decide (o.1 = (a : Int)) && (decide (d ≤ o.2) && decide (o.2 ≤ x))
theorem any_take (p : Int × Int → Bool) {l : List (Int × Int)} {k : Nat} (hk : k < l.length) : (l.take (k + 1)).any p = ((l.take k).any p || p (l.getD k (0, 0))) := by
  rw [List.take_succ_eq_append_getElem hk, List.any_append, List.getD_eq_getElem?_getD, List.getElem?_eq_getElem hk]
  simp
def oset (d x : Int) (l : List (Int × Int)) (k : Nat) : List Int := ((List.range k).filter (oin d x l)).map Int.ofNat
theorem oset_succ (d x : Int) (l : List (Int × Int)) (k : Nat) : oset d x l (k + 1) = oset d x l k ++ if oin d x l k then [(k : Int)] else [] := by
  unfold oset
  rw [List.range_succ, List.filter_append, List.map_append]
  congr 1
  cases h : oin d x l k <;> simp [h]
theorem oset_len (d x : Int) (l : List (Int × Int)) (k : Nat) : (oset d x l k).length ≤ k := by
  unfold oset
  rw [List.length_map]
  exact Nat.le_trans (List.length_filter_le _ _) (by simp)
theorem oset_set {d x : Int} {l : List (Int × Int)} (h : ocode l = 0) : IsSet (oset d x l 10001) (Obs d x l) := by
  refine ⟨?_, fun a => ?_⟩
  · unfold oset
    rw [List.pairwise_map]
    exact (List.pairwise_lt_range.sublist List.filter_sublist).imp fun h => by simpa using h
  · unfold oset Obs
    rw [List.mem_map]
    constructor
    · rintro ⟨k, hk, rfl⟩
      rw [List.mem_filter] at hk
      have h2 := hk.2
      unfold oin at h2
      rw [List.any_eq_true] at h2
      obtain ⟨o, ho, h3⟩ := h2
      simp at h3
      exact ⟨o, ho, h3.1, h3.2.1, h3.2.2⟩
    · rintro ⟨o, ho, rfl, h1, h2⟩
      have h3 : 0 ≤ o.1 ∧ o.1 ≤ 10000 := by
        unfold ocode at h
        split at h
        · cases h
        · split at h
          · rename_i h4
            have := (List.all_eq_true.1 h4) o ho
            unfold upTo at this
            simp at this
            exact this.1
          · cases h
      refine ⟨o.1.toNat, List.mem_filter.2 ⟨List.mem_range.2 (by omega), ?_⟩, by simp; omega⟩
      unfold oin
      rw [List.any_eq_true]
      exact ⟨o, ho, by simp [h1, h2]; omega⟩
end Tm

set_option maxRecDepth 100000 in
set_option maxHeartbeats 8000000 in
theorem refObjectors_any (f : Int) (F : List Int) (S : List (Int × Int)) (aoF : Option Addr) (nF cF : Nat) (aoS : Option Addr) (nS cS : Nat) (d t : Int) (l : List (Int × Int)) (ao : Option Addr) (n cap : Nat) (w : World) (hcl : Cl w aoF nF aoS nS F S) (h9 : nF ≤ 100000) (h8 : nS ≤ 100000) (hI : Pts w ao l) (hn : n = l.length) (hn9 : n ≤ 100000) :
    Calls Try.prog 44 #[.agg #[.int .i64 f, .slice aoF nF cF, .slice aoS nS cS], .int .i64 d, .int .i64 t, .slice ao n cap] w fun e w' => (∃ ao2 m cap2 v C, e = .returned (.tuple #[.slice ao2 m cap2, .int .i64 C]) ∧ m = v.length ∧ Ints w' ao2 v ∧ Tm.Ob f F S d t l v C) ∧ Below w.heap.size w w' := by
  have Hn := Lib.hid hn
  clear hn
  obtain ⟨i0, hi0, hz0, hz1, hz2⟩ := info_in
  obtain ⟨C, hC⟩ : ∃ c, c = Tm.tcode f F S d [t] := ⟨_, rfl⟩
  have HC := Lib.hid hC
  clear hC
  have hA := (Below.refl _ w).alloc (Nat.le_refl _) (.cells #[.int .i64 f, .slice aoF nF cF, .slice aoS nS cS] 25)
  have rc := heap_alloc_new w (.cells #[.int .i64 f, .slice aoF nF cF, .slice aoS nS cS] 25)
  replace hcl := hcl.below hA
  replace hI := hI.below hA
  go_enter Try.func44, Try.ntmps44
  go_upto_region 1 with fail
  generalize w.alloc (.cells #[.int .i64 f, .slice aoF nF cF, .slice aoS nS cS] 25) = W0 at hA rc hcl hI ⊢
  obtain ⟨G, hG⟩ : ∃ g, g = w.heap.size := ⟨_, rfl⟩
  rw [← hG] at rc ⊢
  have HG := Lib.hid hG
  clear hG
  have c0 := cell_of_row W0 G 0 _ _ _ rc
  have c1 := cell_of_row W0 G 1 _ _ _ rc
  have c2 := cell_of_row W0 G 2 _ _ _ rc
  simp at c0 c1 c2
  clear rc
  go_wp2_with fail
  have hal := ((Below.refl W0.heap.size W0).alloc (Nat.le_refl _) (.cells #[.int .i64 d] 3)).alloc (by simp) (.cells #[.int .i64 t] 3)
  have hX := asked_any f F S aoF nF cF aoS nS cS [d] (some ⟨W0.heap.size, 0, none⟩) 1 1 [t] (some ⟨W0.heap.size + 1, 0, none⟩) 1 1 _ (hcl.below hal) h9 h8 ((ints_new1 W0 d).below ((Below.refl _ _).alloc (Nat.le_refl _) _)) rfl (by omega) (by simpa using ints_new1 (W0.alloc (.cells #[.int .i64 d] 3)) t) rfl (by omega)
  rw [Tm.acode_terms, ← HC.out] at hX
  refine hX.mono ?_
  clear hX
  rintro e w1 ⟨rfl, hbb⟩
  replace hcl := hcl.below hal
  replace hI := hI.below hal
  replace c0 := keep_cell hal c0
  replace c1 := keep_cell hal c1
  replace c2 := keep_cell hal c2
  replace hA := hA.trans (hal.mono hA.size)
  replace hcl := hcl.below hbb
  replace hI := hI.below hbb
  replace c0 := keep_cell hbb c0
  replace c1 := keep_cell hbb c1
  replace c2 := keep_cell hbb c2
  replace hA := hA.trans (hbb.mono hA.size)
  clear hal hbb
  by_cases hz : C = 0
  · have hz3 := Lib.hid (HC.out.symm.trans hz)
    obtain ⟨hv, hd, hts⟩ := Tm.tcode_ok hz3.out
    have ht := hts t (by simp)
    obtain ⟨hok, -, -⟩ := Tm.vcode_ok hv
    subst hz
    obtain ⟨d0, rfl⟩ := Int.eq_ofNat_of_zero_le hd.1
    obtain ⟨t0, rfl⟩ := Int.eq_ofNat_of_zero_le ht.1
    have hd4 : d0 ≤ 10000 := by omega
    have ht4 : t0 ≤ 400 := by omega
    clear HC hv hts hd ht
    by_cases h20 : 20 < n
    · have i0 : (20 : Int) < (n : Int) := by omega
      have hr : Hid (Tm.ocode l = 3) := Lib.hid (by unfold Tm.ocode; rw [if_pos (by rw [← Hn.out]; exact h20)])
      have hq : Hid (Tm.Ob f F S (d0 : Int) (t0 : Int) l [] 3) := Lib.hid (.inr ⟨hz3.out, .inl ⟨by rw [hr.out]; decide, hr.out.symm, rfl⟩⟩)
      go_wp2_with fail
      go_ret2
      exact ⟨⟨none, 0, 0, [], 3, rfl, rfl, ints_none _ _, hq.out⟩, hA⟩
    · have i0 : ¬ (20 : Int) < (n : Int) := by omega
      obtain ⟨C2, hC2⟩ : ∃ c, c = Tm.ocode l := ⟨_, rfl⟩
      have HC2 := Lib.hid hC2
      clear hC2
      have hr0 : Hid (C2 = if (l.drop 0).all (fun o => Tm.upTo 10000 [o.1, o.2]) then 0 else 1) := Lib.hid (by rw [HC2.out]; unfold Tm.ocode; rw [if_neg (by rw [← Hn.out]; exact h20)]; rfl)
      go_wp2_with fail
      go_loopw [11] (fun i wr => ∃ k : Nat, k ≤ n ∧ i = .int .i64 k ∧ Hid (C2 = if (l.drop k).all (fun o => Tm.upTo 10000 [o.1, o.2]) then 0 else 1) ∧ Below w1.heap.size w1 wr) (fun i _ => n - (intOf i).toNat)
      case atStart => exact ⟨0, Nat.zero_le _, rfl, hr0, Below.refl _ _⟩
      case round =>
        obtain ⟨k, hk, rfl, HK, hb⟩ := hrel
        by_cases hlt : k < n
        · have hkl : k < l.length := by have := Hn.out; omega
          obtain ⟨b, off, rfl, hbs, hcc⟩ := (hI.below hb).cells (by omega)
          obtain ⟨z0, z1⟩ := hcc k hkl
          have hst := Lib.hid (Tm.all_drop2 (fun o => Tm.upTo 10000 [o.1, o.2]) hkl)
          obtain ⟨s, hs⟩ : ∃ s, s = l.getD k (0, 0) := ⟨_, rfl⟩
          rw [← hs] at z0 z1 hst
          obtain ⟨x, y⟩ := s
          simp only at z0 z1 hst
          clear hs hcc
          have i1 : (k : Int) < (n : Int) := by omega
          have hbad : ∀ (_ : Tm.upTo 10000 [x, y] = false), Tm.Ob f F S (d0 : Int) (t0 : Int) l [] 1 := fun h => by
            have hr : Tm.ocode l = 1 := by rw [← HC2.out, HK.out, hst.out, h]; rfl
            exact .inr ⟨hz3.out, .inl ⟨by rw [hr]; decide, hr.symm, rfl⟩⟩
          have hup : Tm.upTo 10000 [x, y] = ((decide (0 ≤ x) && decide (x ≤ 10000)) && (decide (0 ≤ y) && decide (y ≤ 10000))) := by unfold Tm.upTo; simp
          have Hbad := Lib.hid hbad
          have Hup := Lib.hid hup
          clear hbad hup
          go_wp2_with fail
          by_cases hx : 0 ≤ x ∧ x ≤ 10000
          · refine (withinT wr hx.1 hx.2).mono ?_
            rintro e w4 ⟨rfl, rfl⟩
            go_wp2_with fail
            by_cases hy : 0 ≤ y ∧ y ≤ 10000
            · refine (withinT w4 hy.1 hy.2).mono ?_
              rintro e w5 ⟨rfl, rfl⟩
              have hr : Hid (C2 = if (l.drop (k + 1)).all (fun o => Tm.upTo 10000 [o.1, o.2]) then 0 else 1) := Lib.hid (by rw [HK.out, hst.out, Hup.out, decide_eq_true hx.1, decide_eq_true hx.2, decide_eq_true hy.1, decide_eq_true hy.2]; rfl)
              clear hst HK Hup Hbad hx hy
              go_wp2_with fail
              go_roundw
              case rel => exact ⟨k + 1, by omega, by go_num, hr, hb⟩
              case measure => simp [intOf]; omega
            · refine (withinF w4 hy).mono ?_
              rintro e w5 ⟨rfl, rfl⟩
              have hq : Hid (Tm.Ob f F S (d0 : Int) (t0 : Int) l [] 1) := Lib.hid (Hbad.out (by rw [Hup.out, Bool.and_eq_false_iff]; right; rw [Bool.and_eq_false_iff, decide_eq_false_iff_not, decide_eq_false_iff_not]; omega))
              clear hst HK Hup Hbad hx hy
              go_wp2_with fail
              go_ret2
              exact ⟨⟨none, 0, 0, [], 1, rfl, rfl, ints_none _ _, hq.out⟩, hA.trans (hb.mono hA.size)⟩
          · refine (withinF wr hx).mono ?_
            rintro e w4 ⟨rfl, rfl⟩
            have hq : Hid (Tm.Ob f F S (d0 : Int) (t0 : Int) l [] 1) := Lib.hid (Hbad.out (by rw [Hup.out, Bool.and_eq_false_iff]; left; rw [Bool.and_eq_false_iff, decide_eq_false_iff_not, decide_eq_false_iff_not]; omega))
            clear hst HK Hup Hbad hx
            go_wp2_with fail
            go_ret2
            exact ⟨⟨none, 0, 0, [], 1, rfl, rfl, ints_none _ _, hq.out⟩, hA.trans (hb.mono hA.size)⟩
        · have hr : Hid (Tm.ocode l = 0) := Lib.hid (by rw [← HC2.out, HK.out, List.drop_eq_nil_of_le (by have := Hn.out; omega)]; rfl)
          have i1 : ¬ (k : Int) < (n : Int) := by omega
          have hn20 : n ≤ 20 := by omega
          replace hcl := hcl.below hb
          replace hI := hI.below hb
          replace hA := hA.trans (hb.mono hA.size)
          replace c0 := keep_cell hb c0
          replace c1 := keep_cell hb c1
          replace c2 := keep_cell hb c2
          have hE := rends_any d0 t0 f F S aoF nF cF aoS nS cS wr hcl h9 h8 hok (by omega) (by omega)
          clear HK HC2 hr0 hb h20 i0
          go_wp2_with fail
          refine hE.mono ?_
          clear hE
          rintro e w3 ⟨⟨x, rfl, hx, hxb⟩, hbb⟩
          replace hcl := hcl.below hbb
          replace hI := hI.below hbb
          replace c0 := keep_cell hbb c0
          replace c1 := keep_cell hbb c1
          replace c2 := keep_cell hbb c2
          replace hA := hA.trans (hbb.mono hA.size)
          have HX := Lib.hid hx
          clear hbb hx
          go_wp2_with fail
          go_loopw [13, 14, 15, 16] (fun v i _ _ wr => ∃ k m : Nat, k ≤ 10001 ∧ i = .int .i64 k ∧ m ≤ k ∧ Hid (m = (Tm.oset d0 x l k).length) ∧ Hid (wr.ownsRow w3.heap.size 3 1 v m ((Tm.oset d0 x l k).map (Value.int .i64))) ∧ Below w3.heap.size w3 wr) (fun _ i _ _ _ => 10001 - (intOf i).toNat)
          case atStart => exact ⟨0, 0, Nat.zero_le _, rfl, Nat.le_refl _, Lib.hid rfl, Lib.hid ⟨rfl, .inl ⟨rfl, rfl⟩⟩, Below.refl _ _⟩
          case round =>
            rename World => W2
            obtain ⟨k, m, hk, rfl, hmk, Hm, hown, hb⟩ := hrel
            by_cases hlt : k < 10001
            · have i2 : (k : Int) ≤ 10000 := by omega
              have hI2 := hI.below hb
              go_wp2_with fail
              go_loopw [15, 16] (fun u i W4 => ∃ (j : Nat) (bb : Bool), j ≤ n ∧ i = .int .i64 j ∧ u = .bool bb ∧ Hid (bb = (l.take j).any (fun o => decide (o.1 = (k : Int)) && (decide ((d0 : Int) ≤ o.2) && decide (o.2 ≤ (x : Int))))) ∧ W4 = W2) (fun _ i _ => n - (intOf i).toNat)
              case atStart => exact ⟨0, false, Nat.zero_le _, rfl, rfl, Lib.hid rfl, rfl⟩
              case round =>
                rename World => W4
                obtain ⟨j, bb, hj, rfl, rfl, HB, rfl⟩ := hrel
                by_cases hlj : j < n
                · have hjl : j < l.length := by have := Hn.out; omega
                  obtain ⟨b, off, rfl, hbs, hcc⟩ := hI2.cells (by omega)
                  obtain ⟨z0, z1⟩ := hcc j hjl
                  have hst := Lib.hid (Tm.any_take (fun o => decide (o.1 = (k : Int)) && (decide ((d0 : Int) ≤ o.2) && decide (o.2 ≤ (x : Int)))) hjl)
                  obtain ⟨s, hs⟩ : ∃ s, s = l.getD j (0, 0) := ⟨_, rfl⟩
                  rw [← hs] at z0 z1 hst
                  obtain ⟨p, q⟩ := s
                  simp only at z0 z1 hst
                  rw [← HB.out] at hst
                  clear hs hcc
                  have i3 : (j : Int) < (n : Int) := by omega
                  cases bb with
                  | true =>
                    have hq : Hid (true = (l.take (j + 1)).any (fun o => decide (o.1 = (k : Int)) && (decide ((d0 : Int) ≤ o.2) && decide (o.2 ≤ (x : Int))))) := Lib.hid (by rw [hst.out]; rfl)
                    clear hst HB
                    go_wp2_with fail
                    go_roundw
                    case rel => exact ⟨j + 1, true, by omega, by go_num, rfl, hq, trivial⟩
                    case measure => simp [intOf]; omega
                  | false =>
                    by_cases hp : p = (k : Int)
                    · have i4 : (p == (k : Int)) = true := by simp [hp]
                      by_cases hw : (d0 : Int) ≤ q ∧ q ≤ (x : Int)
                      · have hq : Hid (true = (l.take (j + 1)).any (fun o => decide (o.1 = (k : Int)) && (decide ((d0 : Int) ≤ o.2) && decide (o.2 ≤ (x : Int))))) := Lib.hid (by rw [hst.out, decide_eq_true hp, decide_eq_true hw.1, decide_eq_true hw.2]; rfl)
                        clear hst HB
                        go_wp2_with fail
                        refine (withinT _ hw.1 hw.2).mono ?_
                        rintro e w5 ⟨rfl, rfl⟩
                        clear hw hp
                        go_wp2_with fail
                        go_roundw
                        case rel => exact ⟨j + 1, true, by omega, by go_num, rfl, hq, trivial⟩
                        case measure => simp [intOf]; omega
                      · have hq : Hid (false = (l.take (j + 1)).any (fun o => decide (o.1 = (k : Int)) && (decide ((d0 : Int) ≤ o.2) && decide (o.2 ≤ (x : Int))))) := Lib.hid (by
                          rw [hst.out, Bool.false_or, eq_comm, Bool.and_eq_false_iff]; right
                          rw [Bool.and_eq_false_iff, decide_eq_false_iff_not, decide_eq_false_iff_not]; omega)
                        clear hst HB
                        go_wp2_with fail
                        refine (withinF _ hw).mono ?_
                        rintro e w5 ⟨rfl, rfl⟩
                        clear hw hp
                        go_wp2_with fail
                        go_roundw
                        case rel => exact ⟨j + 1, false, by omega, by go_num, rfl, hq, trivial⟩
                        case measure => simp [intOf]; omega
                    · have i4 : (p == (k : Int)) = false := by simp [hp]
                      have hq : Hid (false = (l.take (j + 1)).any (fun o => decide (o.1 = (k : Int)) && (decide ((d0 : Int) ≤ o.2) && decide (o.2 ≤ (x : Int))))) := Lib.hid (by rw [hst.out, decide_eq_false hp]; rfl)
                      clear hst HB hp
                      go_wp2_with fail
                      go_roundw
                      case rel => exact ⟨j + 1, false, by omega, by go_num, rfl, hq, trivial⟩
                      case measure => simp [intOf]; omega
                · have hjn : (l.take j) = l := List.take_of_length_le (by have := Hn.out; omega)
                  have i3 : ¬ (j : Int) < (n : Int) := by omega
                  have hbb : Hid (Tm.oin d0 x l k = bb) := Lib.hid (by rw [HB.out, hjn]; rfl)
                  have hst := Lib.hid (Tm.oset_succ d0 x l k)
                  rw [hbb.out] at hst
                  have hs := hb.size
                  have hown4 := hown
                  clear HB hjn hbb
                  cases bb with
                  | true =>
                    go_wp2_with (first | (at_builtin; refine wpList_append_own _ rfl _ _ 22 rfl w3.heap.size 3 i0 (.int .i64 0) 1 8 Try.underlying22 hi0 hz0 hz1 hz2 rfl (by decide) _ m _ rfl (hown4.out.alloc _) ⟨W4.heap.size, 0, none⟩ 1 1 [.int .i64 (k : Nat)] rfl rfl (World.news_of_block (cs := #[.int .i64 (k : Nat)]) (t := 3) (fr := (0, 0)) (heap_alloc_new W4 _)) (by simp [Value.oneCell']) (by unfold maxLen; omega) (by omega) (by simp; omega) ?_; intro v' w5 hown5 hgrow5 hnil5; have hb5 : Below w3.heap.size w3 w5 := (hb.alloc hs _).grown hgrow5 (by simp; omega) (fun q hq => (hown4.out.lt _ hq).1); clear hgrow5 hnil5))
                    go_roundw
                    case rel => exact ⟨k + 1, m + 1, by omega, by go_num, by omega, Lib.hid (by rw [hst.out, List.length_append, Hm.out]; rfl), Lib.hid (by rw [hst.out, List.map_append]; exact hown5), hb5⟩
                    case measure => simp [intOf]; omega
                  | false =>
                    go_wp2_with fail
                    go_roundw
                    case rel => exact ⟨k + 1, m, by omega, by go_num, by omega, Lib.hid (by rw [hst.out, Hm.out]; simp), Lib.hid (by rw [hst.out]; simpa using hown4.out), hb⟩
                    case measure => simp [intOf]; omega
            · have hk2 : k = 10001 := by omega
              subst hk2
              obtain ⟨ao2, cap2, rfl, -, hI3⟩ := own_ints hown.out Hm.out
              have HI := Lib.hid hI3
              have hq : Hid (Tm.Ob f F S (d0 : Int) (t0 : Int) l (Tm.oset d0 x l 10001) 0) := Lib.hid (.inr ⟨hz3.out, .inr ⟨hr.out, rfl, x, by rw [Int.toNat_natCast, Int.toNat_natCast]; exact HX.out, Tm.oset_set hr.out⟩⟩)
              clear hown hI3
              go_wp2_with fail
              go_ret2
              exact ⟨⟨ao2, m, cap2, _, 0, rfl, Hm.out, HI.out, hq.out⟩, hA.trans (hb.mono hA.size)⟩
  · have hne : (C != 0) = true := by simp [hz]
    have hq : Hid (Tm.Ob f F S d t l [] C) := Lib.hid (.inl ⟨by rw [← HC.out]; exact hz, HC.out, rfl⟩)
    go_wp2_with fail
    go_ret2
    exact ⟨⟨none, 0, 0, [], C, rfl, rfl, ints_none _ _, hq.out⟩, hA⟩
end Go.Proofs.Ytmdkdkiejcjmaaa
