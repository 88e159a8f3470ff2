import Derived.Test.YteecfdjphjkdkaaFg
namespace Go.Proofs.Yteecfdjphjkdkaa
open Go.RowKit
namespace Cl
theorem levS_q {L : List Int} {E a d : Int} (h : LevS L E a d) : 0 ≤ (mkRat a d.toNat).num ∧ (mkRat a d.toNat).num ≤ 8000 ∧ (mkRat a d.toNat).den ≤ 8 ∧ Lev L E (mkRat a d.toNat).num ((mkRat a d.toNat).den : Int) := by
  obtain ⟨⟨h1, h2, h3, h4⟩, h5, h6⟩ := h
  obtain ⟨m, rfl⟩ := Int.eq_ofNat_of_zero_le (Int.le_of_lt h2)
  obtain ⟨n, rfl⟩ := Int.eq_ofNat_of_zero_le h1
  rw [Int.toNat_natCast]
  have hm : 0 < m := by omega
  have hle := low_eq n m hm
  have hgp : 0 < Nat.gcd n m := Nat.gcd_pos_of_pos_right _ hm
  obtain ⟨x, hx⟩ := Nat.gcd_dvd_left n m
  obtain ⟨y, hy⟩ := Nat.gcd_dvd_right n m
  have e1 : (mkRat n m).num = (x : Int) := by
    rw [← hle.1, ← Int.natCast_ediv]
    congr 1
    exact Nat.div_eq_of_eq_mul_right hgp hx
  have e2 : ((mkRat n m).den : Int) = (y : Int) := by
    rw [← hle.2, ← Int.natCast_ediv]
    congr 1
    exact Nat.div_eq_of_eq_mul_right hgp hy
  have e3 : (mkRat n m).den = y := by omega
  generalize Nat.gcd n m = g at hgp hx hy
  have hxn : x ≤ n := by rw [hx]; exact Nat.le_mul_of_pos_left x hgp
  have hym : y ≤ m := by rw [hy]; exact Nat.le_mul_of_pos_left y hgp
  have hy0 : 0 < y := by
    rcases Nat.eq_zero_or_pos y with h | h
    · rw [h, Nat.mul_zero] at hy; omega
    · exact h
  rw [e1, e3]
  have s := below_scale (L := L) (a := x) (d := y) (k := (g : Int)) (by omega)
  have k1 : (x : Int) * (g : Int) = (n : Int) := by rw [hx]; push_cast; rw [Int.mul_comm]
  have k2 : (y : Int) * (g : Int) = (m : Int) := by rw [hy]; push_cast; rw [Int.mul_comm]
  rw [k1, k2, h3, ← k2, ← Int.mul_assoc] at s
  refine ⟨by omega, by omega, by omega, by omega, by omega, ?_, ?_⟩
  · exact (Int.eq_of_mul_eq_mul_right (by omega) s).symm
  · obtain ⟨c, hc, hca⟩ := h4
    refine ⟨c, hc, ?_⟩
    rw [← k1, ← k2, ← Int.mul_assoc] at hca
    exact Int.le_of_mul_le_mul_right hca (by omega)
end Cl
set_option maxRecDepth 100000 in
set_option maxHeartbeats 1000000 in
theorem upTo_any (c : Int) (q : Rat) (w : World) (hc : 0 ≤ c ∧ c ≤ 1000) (hq : q.den ≤ 8000) :
    Calls Try.prog 87 #[.int .i64 c, Fr q] w fun e w' => e = .returned (.int .i64 (min (c * q.den) q.num)) ∧ Below w.heap.size w w' := by
  have hB : Below w.heap.size w (w.alloc (.cells #[.int .i64 q.num, .int .i64 q.den] 35)) := (Below.refl _ w).alloc (Nat.le_refl _) _
  have b1 : 0 ≤ c * (q.den : Int) := Int.mul_nonneg hc.1 (by omega)
  have b2 : c * (q.den : Int) ≤ 1000 * 8000 := Int.mul_le_mul hc.2 (by omega) (by omega) (by omega)
  have e1 : IntKind.i64.wrap (c * (q.den : Int)) = c * (q.den : Int) := IntWalk.i64_in _ (by omega)
  rw [show Fr q = .agg #[.int .i64 q.num, .int .i64 q.den] from rfl]
  go_enter Try.func87, Try.ntmps87
  go_wp2_with fail
  all_goals
    go_ret
    exact ⟨ret_int (by omega), hB⟩
set_option maxRecDepth 100000 in
set_option maxHeartbeats 1000000 in
theorem above_any (c : Int) (q : Rat) (w : World) (hc : 0 ≤ c ∧ c ≤ 1000) (hq : q.den ≤ 8000) (hn : 0 ≤ q.num ∧ q.num ≤ 8000) :
    Calls Try.prog 89 #[.int .i64 c, Fr q] w fun e w' => e = .returned (.int .i64 (max 0 (c * q.den - q.num))) ∧ Below w.heap.size w w' := by
  have hB : Below w.heap.size w (w.alloc (.cells #[.int .i64 q.num, .int .i64 q.den] 35)) := (Below.refl _ w).alloc (Nat.le_refl _) _
  have b1 : 0 ≤ c * (q.den : Int) := Int.mul_nonneg hc.1 (by omega)
  have b2 : c * (q.den : Int) ≤ 1000 * 8000 := Int.mul_le_mul hc.2 (by omega) (by omega) (by omega)
  have e1 : IntKind.i64.wrap (c * (q.den : Int)) = c * (q.den : Int) := IntWalk.i64_in _ (by omega)
  have e2 : IntKind.i64.wrap (c * (q.den : Int) - q.num) = c * (q.den : Int) - q.num := IntWalk.i64_in _ (by omega)
  rw [show Fr q = .agg #[.int .i64 q.num, .int .i64 q.den] from rfl]
  go_enter Try.func89, Try.ntmps89
  go_wp2_with fail
  all_goals
    go_ret
    exact ⟨ret_int (by omega), hB⟩
end Go.Proofs.Yteecfdjphjkdkaa
