import Derived.Test.YtkpabehjehbidaaWp
namespace Go.Proofs.Ytkpabehjehbidaa
open Go.RowKit

theorem gcd_step (a b : Nat) : Nat.gcd b (a % b) = Nat.gcd a b := by
  rw [Nat.gcd_comm a b, Nat.gcd_rec b a, Nat.gcd_comm]

set_option maxRecDepth 100000 in
set_option maxHeartbeats 1000000 in
theorem divisor_any (a0 b0 : Nat) (w : World) (h1 : a0 ≤ 9223372036854775807) (h2 : b0 ≤ 9223372036854775807) :
    Calls Try.prog 93 #[.int .i64 a0, .int .i64 b0] w fun e w' => e = .returned (.int .i64 (Nat.gcd a0 b0 : Nat)) ∧ Below w.heap.size w w' := by
  obtain ⟨g, hg⟩ : ∃ g, g = Nat.gcd a0 b0 := ⟨_, rfl⟩
  rw [← hg]
  have Hg := Lib.hid hg
  clear hg
  go_enter Try.func93, Try.ntmps93
  go_wp2
  go_loopw [0, 1] (fun a b wr => ∃ x y : Nat, a = .int .i64 x ∧ b = .int .i64 y ∧ x ≤ 9223372036854775807 ∧ y ≤ 9223372036854775807 ∧ Hid (g = Nat.gcd x y) ∧ Below w.heap.size w wr) (fun _ b _ => (intOf b).toNat)
  case atStart => exact ⟨a0, b0, rfl, rfl, h1, h2, Hg, Below.refl _ _⟩
  case round =>
    obtain ⟨x, y, rfl, rfl, hx, hy, hgc, hb⟩ := hrel
    by_cases h0 : y = 0
    · subst h0
      go_wp2
      go_ret
      refine ⟨ret_int ?_, hb⟩
      have := hgc.out
      rw [Nat.gcd_zero_right] at this
      rw [this]
    · have hm : x % y < y := Nat.mod_lt _ (by omega)
      have hy1 : (1 : Int) ≤ (y : Int) := by omega
      have hq : ((y : Int) == 0) = false := by simp [h0]
      have hq2 : ((y : Int) != 0) = true := by simp [h0]
      go_wp2
      go_quiet (fail)
      go_wp2
      go_roundw
      case rel => exact ⟨y, x % y, rfl, by simp, hy, by omega, Lib.hid (hgc.out.trans (gcd_step x y).symm), below_drewN hb _⟩
      case measure =>
        have : intOf (.int .i64 ((x : Int) % (y : Int))) = ((x % y : Nat) : Int) := by simp [intOf]
        rw [this]
        simp [intOf]
        omega
end Go.Proofs.Ytkpabehjehbidaa
