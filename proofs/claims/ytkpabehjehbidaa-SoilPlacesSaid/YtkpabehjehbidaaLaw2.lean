import Derived.Test.YtkpabehjehbidaaLaw1
import Derived.Test.YtkpabehjehbidaaRx
import Derived.Test.YtkpabehjehbidaaOpr
namespace Go.Proofs.Ytkpabehjehbidaa
open Go.RowKit

set_option maxRecDepth 100000 in
set_option maxHeartbeats 2000000 in
theorem soilWorths_any (l : List (Int × Int)) (ao : Option Addr) (n cap : Nat) (n1 d1 n2 d2 : Int) (w : World) (hp : Pts w ao l) (hln : n = l.length) (hn1 : Rng n1) (_ : Rng d1) (hn2 : Rng n2) (_ : Rng d2) :
    Calls Try.prog 4 #[.slice ao n cap, .agg #[.int .i64 n1, .int .i64 d1, .int .i64 n2, .int .i64 d2]] w fun e w' => e = .returned (.bool true) ∧ Below w.heap.size w w' := by
  have Hn := Lib.hid hln
  clear hln
  have hB : Below w.heap.size w (w.alloc (.cells #[.int .i64 n1, .int .i64 d1, .int .i64 n2, .int .i64 d2] 35)) := (Below.refl _ w).alloc (Nat.le_refl _) _
  replace hp := hp.below hB
  have r0 := heap_alloc_new w (.cells #[.int .i64 n1, .int .i64 d1, .int .i64 n2, .int .i64 d2] 35)
  have HA := Lib.hid (And.intro hB r0)
  clear hB r0
  by_cases hlong : 100 < n
  · have hd : (decide (100 < n) || decide (100 < 0)) = true := by simp [hlong]
    go_enter Try.func4, Try.ntmps4
    go_wp2_with fail
    refine (long_any n 0 cap 0 ao none _).mono ?_
    rintro e w1 ⟨rfl, rfl⟩
    rw [hd]
    go_wp2_with fail
    refine (known_any _).mono ?_
    rintro e w1 ⟨rfl, hb⟩
    go_wp2
    go_ret
    exact ⟨rfl, HA.out.1.trans (hb.mono HA.out.1.size)⟩
  · have hd : (decide (100 < n) || decide (100 < 0)) = false := by simp; omega
    have hn : n ≤ 100000 := by omega
    clear hlong
    obtain ⟨a, b, hab⟩ := frOr_pair (Fl.wcode l n1 d1 n2 d2) (Fl.worth l (mkRat n1 d1.toNat) (mkRat n2 d2.toNat))
    have Hab := Lib.hid hab
    clear hab
    obtain ⟨C, hC⟩ : ∃ L, Fl.wcode l n1 d1 n2 d2 = L := ⟨_, rfl⟩
    have HC := Lib.hid hC
    clear hC
    go_enter Try.func4, Try.ntmps4
    go_wp2_with fail
    refine (long_any n 0 cap 0 ao none _).mono ?_
    rintro e w1 ⟨rfl, rfl⟩
    rw [hd]
    clear hd
    obtain ⟨hB, r0⟩ := HA.out
    clear HA
    generalize w.alloc (.cells #[.int .i64 n1, .int .i64 d1, .int .i64 n2, .int .i64 d2] 35) = wx at hB r0 hp ⊢
    have c0 := cell_of_row wx _ 0 _ _ _ r0
    have c1 := cell_of_row wx _ 1 _ _ _ r0
    have c2 := cell_of_row wx _ 2 _ _ _ r0
    have c3 := cell_of_row wx _ 3 _ _ _ r0
    simp at c0 c1 c2 c3
    clear r0
    go_wp2_with fail
    refine (Worth_any l _ _ _ n1 d1 n2 d2 _ hp Hn.out hn hn1.2 hn2.2).mono ?_
    rintro e w1 ⟨rfl, hbb⟩
    replace hp := hp.below hbb
    replace c0 := keep_cell hbb c0
    replace c1 := keep_cell hbb c1
    replace c2 := keep_cell hbb c2
    replace c3 := keep_cell hbb c3
    replace hB := hB.trans (hbb.mono hB.size)
    clear hbb
    rw [Hab.out, HC.out]
    have hA := (Below.refl _ w1).alloc (Nat.le_refl _) (.cells #[.int .i64 a, .int .i64 b] 29)
    have r1 := heap_alloc_new w1 (.cells #[.int .i64 a, .int .i64 b] 29)
    replace hp := hp.below hA
    replace c0 := keep_cell hA c0
    replace c1 := keep_cell hA c1
    replace c2 := keep_cell hA c2
    replace c3 := keep_cell hA c3
    replace hB := hB.trans (hA.mono hB.size)
    clear hA
    go_wp2_with fail
    refine (rWorth_any l _ _ _ n1 d1 n2 d2 _ hp Hn.out hn hn1.2 hn2.2 hn1.1 hn2.1).mono ?_
    rintro e w2 ⟨rfl, hbb⟩
    replace hp := hp.below hbb
    replace c0 := keep_cell hbb c0
    replace c1 := keep_cell hbb c1
    replace c2 := keep_cell hbb c2
    replace c3 := keep_cell hbb c3
    replace r1 := heap_keep hbb r1
    replace hB := hB.trans (hbb.mono hB.size)
    clear hbb
    rw [Hab.out, HC.out]
    clear c0 c1 c2 c3
    have hA := (Below.refl _ w2).alloc (Nat.le_refl _) (.cells #[.int .i64 a, .int .i64 b] 29)
    have r2 := heap_alloc_new w2 (.cells #[.int .i64 a, .int .i64 b] 29)
    replace hp := hp.below hA
    replace r1 := heap_keep hA r1
    replace hB := hB.trans (hA.mono hB.size)
    clear hA
    obtain ⟨⟨c0, c1⟩, -, -⟩ := row_fr r1
    obtain ⟨⟨c2, c3⟩, -, -⟩ := row_fr r2
    have q1 := run_eq_rt a b a b
    simp only [decide_true] at q1
    go_wp2_with fail
    refine (known_any _).mono ?_
    rintro e w10 ⟨rfl, hb⟩
    go_wp2
    go_ret
    exact ⟨rfl, hB.trans (hb.mono hB.size)⟩
end Go.Proofs.Ytkpabehjehbidaa
