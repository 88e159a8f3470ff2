import Derived.Test.YtmdkdkiejcjmaaaRb
/- Package selionref08: isFree, isStill. -/
namespace Go.Proofs.Ytmdkdkiejcjmaaa
open Go.RowKit
theorem mem_drop {l : List Int} {k : Nat} (hk : k < l.length) (d : Int) : decide (d ∈ l.drop k) = (decide (l.getD k 0 = d) || decide (d ∈ l.drop (k + 1))) := by
  rw [List.drop_eq_getElem_cons hk, List.getD_eq_getElem?_getD, List.getElem?_eq_getElem hk, ← Bool.decide_or]
  refine decide_eq_decide.2 ?_
  rw [List.mem_cons]
  exact ⟨fun h => h.imp Eq.symm id, fun h => h.imp Eq.symm id⟩
theorem still_drop {l : List (Int × Int)} {k : Nat} (hk : k < l.length) (d : Int) : Tm.still (l.drop k) d = ((decide ((l.getD k (0, 0)).1 ≤ d) && decide (d ≤ (l.getD k (0, 0)).2)) || Tm.still (l.drop (k + 1)) d) := by
  rw [List.drop_eq_getElem_cons hk, List.getD_eq_getElem?_getD, List.getElem?_eq_getElem hk]; rfl

set_option maxRecDepth 100000 in
set_option maxHeartbeats 4000000 in
theorem rIsFree_any (f : Int) (F : List Int) (S : List (Int × Int)) (d : Int) (aoF : Option Addr) (nF cF : Nat) (aoS : Option Addr) (nS cS : Nat) (w : World) (hcl : Cl w aoF nF aoS nS F S) (h9 : nF ≤ 100000) :
    Calls Try.prog 59 #[.agg #[.int .i64 f, .slice aoF nF cF, .slice aoS nS cS], .int .i64 d] w fun e w' => e = .returned (.bool (Tm.free f F d)) ∧ Below w.heap.size w w' := by
  obtain ⟨R, hR⟩ : ∃ r, r = Tm.free f F d := ⟨_, rfl⟩
  rw [← hR]
  have HR := Lib.hid hR
  clear hR
  have hnf := Lib.hid hcl.nf
  have hns := Lib.hid hcl.ns
  have hA := (Below.refl _ w).alloc (Nat.le_refl _) (.cells #[.int .i64 f, .slice aoF nF cF, .slice aoS nS cS] 25)
  have rc := heap_alloc_new w (.cells #[.int .i64 f, .slice aoF nF cF, .slice aoS nS cS] 25)
  replace hcl := hcl.below hA
  go_enter Try.func59, Try.ntmps59
  go_upto_region 1 with fail
  generalize w.alloc (.cells #[.int .i64 f, .slice aoF nF cF, .slice aoS nS cS] 25) = W0 at hA rc hcl ⊢
  obtain ⟨G, hG⟩ : ∃ g, g = w.heap.size := ⟨_, rfl⟩
  rw [← hG] at rc ⊢
  have HG := Lib.hid hG
  clear hG
  have c0 := cell_of_row W0 G 0 _ _ _ rc
  have c1 := cell_of_row W0 G 1 _ _ _ rc
  have c2 := cell_of_row W0 G 2 _ _ _ rc
  simp at c0 c1 c2
  clear rc
  by_cases h6 : Tm.wk f d = 6
  · have hr : Hid (R = true) := Lib.hid (by rw [HR.out]; unfold Tm.free; rw [decide_eq_true h6]; rfl)
    unfold Tm.wk at h6
    go_wp2_with fail
    go_ret
    exact ⟨ret_bool hr.out.symm, hA⟩
  · have hr : Hid (R = decide (d ∈ F.drop 0)) := Lib.hid (by rw [HR.out]; unfold Tm.free; rw [decide_eq_false h6]; rfl)
    unfold Tm.wk at h6
    clear HR
    go_wp2_with fail
    go_loopw [5] (fun i wr => ∃ k : Nat, k ≤ nF ∧ i = .int .i64 k ∧ Hid (R = decide (d ∈ F.drop k)) ∧ wr = W0) (fun i _ => nF - (intOf i).toNat)
    case atStart => exact ⟨0, Nat.zero_le _, rfl, hr, rfl⟩
    case round =>
      obtain ⟨k, hk, rfl, HK, hwr⟩ := hrel
      subst hwr
      by_cases hlt : k < nF
      · have hkl : k < F.length := by have := hnf.out; omega
        obtain ⟨b, off, hao, hbs, z0⟩ := hcl.hF.at hkl
        have hst := Lib.hid (mem_drop hkl d)
        obtain ⟨x, hx⟩ : ∃ x, x = F.getD k 0 := ⟨_, rfl⟩
        rw [← hx] at z0 hst
        subst hao
        clear hx
        have i1 : (k : Int) < (nF : Int) := by omega
        by_cases he : x = d
        · have hq : Hid (R = true) := Lib.hid (by rw [HK.out, hst.out, decide_eq_true he]; rfl)
          have h1 : (x == d) = true := by simp [he]
          clear HK hst he hr
          go_wp2_with fail
          go_ret
          exact ⟨ret_bool hq.out.symm, hA⟩
        · have hq : Hid (R = decide (d ∈ F.drop (k + 1))) := Lib.hid (by rw [HK.out, hst.out, decide_eq_false he]; rfl)
          have h1 : (x == d) = false := by simp [he]
          clear HK hst he hr
          go_wp2_with fail
          go_roundw
          case rel => exact ⟨k + 1, by omega, by go_num, hq, trivial⟩
          case measure => simp [intOf]; omega
      · have hq : Hid (R = false) := Lib.hid (by rw [HK.out, List.drop_eq_nil_of_le (by have := hnf.out; omega)]; simp)
        go_wp2_with fail
        go_ret
        exact ⟨ret_bool hq.out.symm, hA⟩

set_option maxRecDepth 100000 in
set_option maxHeartbeats 4000000 in
theorem rIsStill_any (f : Int) (F : List Int) (S : List (Int × Int)) (d : Int) (aoF : Option Addr) (nF cF : Nat) (aoS : Option Addr) (nS cS : Nat) (w : World) (hcl : Cl w aoF nF aoS nS F S) (h8 : nS ≤ 100000) :
    Calls Try.prog 61 #[.agg #[.int .i64 f, .slice aoF nF cF, .slice aoS nS cS], .int .i64 d] w fun e w' => e = .returned (.bool (Tm.still S d)) ∧ Below w.heap.size w w' := by
  obtain ⟨R, hR⟩ : ∃ r, r = Tm.still (S.drop 0) d := ⟨_, rfl⟩
  rw [show Tm.still S d = R from hR.symm]
  have HR := Lib.hid hR
  clear hR
  have hnf := Lib.hid hcl.nf
  have hns := Lib.hid hcl.ns
  have hA := (Below.refl _ w).alloc (Nat.le_refl _) (.cells #[.int .i64 f, .slice aoF nF cF, .slice aoS nS cS] 25)
  have rc := heap_alloc_new w (.cells #[.int .i64 f, .slice aoF nF cF, .slice aoS nS cS] 25)
  replace hcl := hcl.below hA
  go_enter Try.func61, Try.ntmps61
  go_upto_region 1 with fail
  generalize w.alloc (.cells #[.int .i64 f, .slice aoF nF cF, .slice aoS nS cS] 25) = W0 at hA rc hcl ⊢
  obtain ⟨G, hG⟩ : ∃ g, g = w.heap.size := ⟨_, rfl⟩
  rw [← hG] at rc ⊢
  have HG := Lib.hid hG
  clear hG
  have c0 := cell_of_row W0 G 0 _ _ _ rc
  have c1 := cell_of_row W0 G 1 _ _ _ rc
  have c2 := cell_of_row W0 G 2 _ _ _ rc
  simp at c0 c1 c2
  clear rc
  go_wp2_with fail
  go_loopw [5] (fun i wr => ∃ k : Nat, k ≤ nS ∧ i = .int .i64 k ∧ Hid (R = Tm.still (S.drop k) d) ∧ Below W0.heap.size W0 wr) (fun i _ => nS - (intOf i).toNat)
  case atStart => exact ⟨0, Nat.zero_le _, rfl, HR, Below.refl _ _⟩
  case round =>
    obtain ⟨k, hk, rfl, HK, hb⟩ := hrel
    have d2 := keep_cell hb c2
    by_cases hlt : k < nS
    · have hkl : k < S.length := by have := hns.out; omega
      obtain ⟨b, off, hao, hbs, hcc⟩ := (hcl.hS.below hb).cells (by omega)
      obtain ⟨z0, z1⟩ := hcc k hkl
      have hst := Lib.hid (still_drop hkl d)
      obtain ⟨s, hs⟩ : ∃ s, s = S.getD k (0, 0) := ⟨_, rfl⟩
      rw [← hs] at z0 z1 hst
      obtain ⟨x, y⟩ := s
      simp only at z0 z1 hst
      subst hao
      clear hs hcc
      have i1 : (k : Int) < (nS : Int) := by omega
      by_cases hw : x ≤ d ∧ d ≤ y
      · have hX := Lib.hid (fun w9 => withinT w9 hw.1 hw.2)
        have hq : Hid (R = true) := Lib.hid (by rw [HK.out, hst.out, decide_eq_true hw.1, decide_eq_true hw.2]; rfl)
        clear HK hst hw HR
        go_wp2_with fail
        go_quiet ((go_at_call 65; exact Calls.quiet_of_same (hX.out _)))
        go_wp2_with fail
        go_ret
        exact ⟨ret_bool hq.out.symm, hA.trans ((below_drewN hb _).mono hA.size)⟩
      · have hX := Lib.hid (fun w9 => withinF w9 hw)
        have hq : Hid (R = Tm.still (S.drop (k + 1)) d) := Lib.hid (by rw [HK.out, hst.out, show (decide (x ≤ d) && decide (d ≤ y)) = false by rw [← Bool.decide_and]; exact decide_eq_false hw, Bool.false_or])
        clear HK hst hw HR
        go_wp2_with fail
        go_quiet ((go_at_call 65; exact Calls.quiet_of_same (hX.out _)))
        go_wp2_with fail
        go_roundw
        case rel => exact ⟨k + 1, by omega, by go_num, hq, below_drewN hb _⟩
        case measure => simp [intOf]; omega
    · have hq : Hid (R = false) := Lib.hid (by rw [HK.out, List.drop_eq_nil_of_le (by have := hns.out; omega)]; rfl)
      go_wp2_with fail
      go_ret
      exact ⟨ret_bool hq.out.symm, hA.trans (hb.mono hA.size)⟩
end Go.Proofs.Ytmdkdkiejcjmaaa
