import Derived.Test.YtkpabehjehbidaaJnb
import Derived.Test.YtkpabehjehbidaaSfd
namespace Go.Proofs.Ytkpabehjehbidaa
open Go.RowKit

set_option maxRecDepth 100000 in
set_option maxHeartbeats 4000000 in
theorem Join_any (l l2 : List (Int × Int)) (ao : Option Addr) (n cap : Nat) (ao2 : Option Addr) (m cap2 : Nat) (w : World) (hp : Pts w ao l) (hln : n = l.length) (hn : n ≤ 100000) (hp2 : Pts w ao2 l2) (hlm : m = l2.length) (hm : m ≤ 100000) :
    Calls Try.prog 51 #[.slice ao n cap, .slice ao2 m cap2] w fun e w' => (∃ v, e = .returned (.tuple #[v, .int .i64 (Fl.joinC l l2)]) ∧ FieldMade w' v (Fl.joinC l l2) (l ++ l2)) ∧ Below w.heap.size w w' := by
  have Hn := Lib.hid hln
  have Hm := Lib.hid hlm
  clear hln hlm
  obtain ⟨C, hC⟩ : ∃ c, Fl.joinC l l2 = c := ⟨_, rfl⟩
  rw [hC]
  have HC := Lib.hid hC
  clear hC
  obtain ⟨v, hv⟩ : ∃ v, v = Fl.bothC l l2 := ⟨_, rfl⟩
  have hv0 : v = 0 ∨ (v != 0) = true := by by_cases h : v = 0 <;> simp [h]
  have Hv := Lib.hid hv
  clear hv
  have hB := Below.refl w.heap.size w
  go_enter Try.func51, Try.ntmps51
  go_wp2_with fail
  refine (validateBoth_any l l2 _ _ _ _ _ _ _ hp Hn.out hn hp2 Hm.out hm).mono ?_
  rintro e w1 ⟨rfl, hbb⟩
  replace hp := hp.below hbb
  replace hp2 := hp2.below hbb
  replace hB := hB.trans (hbb.mono hB.size)
  clear hbb
  rw [← Hv.out]
  rcases hv0 with rfl | hv0
  · obtain ⟨h1, h2⟩ := Fl.bothC_ok Hv.out.symm
    have q1 := (Fl.validate_ok.1 h1).1
    have q2 := (Fl.validate_ok.1 h2).1
    have hn6 : n ≤ 6 ∧ 1 ≤ n := by have := Hn.out; omega
    have hm6 : m ≤ 6 ∧ 1 ≤ m := by have := Hm.out; omega
    obtain ⟨N, hN⟩ : ∃ N, N = n + m := ⟨_, rfl⟩
    have y1 : IntKind.i64.wrap ((n : Int) + (m : Int)) = (N : Int) := (IntWalk.i64_in _ (by omega)).trans (by omega)
    have hCv := HC.out
    unfold Fl.joinC at hCv
    rw [if_neg (by rw [← Hv.out]; simp)] at hCv
    clear h1 h2 q1 q2
    by_cases h6 : 6 < N
    · have hc3 : Hid (C = 3) := Lib.hid (by rw [if_pos (by have := Hn.out; have := Hm.out; omega)] at hCv; exact hCv.symm)
      have h6' : (6 : Int) < (N : Int) := by omega
      clear hCv hN
      go_wp2
      go_ret2
      rw [hc3.out]
      exact ⟨⟨_, rfl, fieldMade_no (by decide)⟩, hB⟩
    · have hc0 : Hid (C = 0) := Lib.hid (by rw [if_neg (by have := Hn.out; have := Hm.out; omega)] at hCv; exact hCv.symm)
      have h6' : ¬ (6 : Int) < (N : Int) := by omega
      clear hCv hN
      have hA := (Below.refl _ w1).alloc (Nat.le_refl _) (.cells #[.slice ao n cap, .slice ao2 m cap2] 22)
      have rr := heap_alloc_new w1 (.cells #[.slice ao n cap, .slice ao2 m cap2] 22)
      have k0 := row_fr rr
      replace hp := hp.below hA
      replace hp2 := hp2.below hA
      replace hB := hB.trans (hA.mono hB.size)
      clear hA
      have HH := Lib.hid (And.intro hp (And.intro hp2 (And.intro hB k0)))
      clear hp hp2 hB k0 rr
      go_wp2_with fail
      obtain ⟨hp, hp2, hB, ⟨c0, c1⟩, -, -⟩ := HH.out
      refine (concat_any l l2 ao n cap ao2 m cap2 _ _ hp Hn.out hn6.2 hn6.1 hp2 Hm.out hm6.2 hm6.1 c0 c1).mono ?_
      rintro e w3 ⟨⟨v, rfl, M⟩, hb3⟩
      have hB3 := hB.trans (hb3.mono hB.size)
      have HM := Lib.hid M
      clear hp hp2 hB c0 c1 M hb3 HH
      go_wp2
      go_ret2
      rw [hc0.out]
      exact ⟨⟨_, rfl, HM.out⟩, hB3⟩
  · have hcv : Hid (C = v) := Lib.hid (by
      have := HC.out
      unfold Fl.joinC at this
      rw [if_pos (by rw [← Hv.out]; exact code_ne hv0), ← Hv.out] at this
      exact this.symm)
    go_wp2
    go_ret2
    rw [hcv.out]
    exact ⟨⟨_, rfl, fieldMade_no (code_ne hv0)⟩, hB⟩
end Go.Proofs.Ytkpabehjehbidaa
