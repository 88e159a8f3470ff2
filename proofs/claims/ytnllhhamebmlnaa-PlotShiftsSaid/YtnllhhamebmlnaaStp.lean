import Derived.Test.YtnllhhamebmlnaaBas
namespace Go.Proofs.Ytnllhhamebmlnaa
open Go.RowKit Go.Shelf

theorem absolute_same (x : Int) (w : World) (h1 : -9000000000000000000 ≤ x) (h2 : x ≤ 9000000000000000000) :
    Calls Try.prog 55 #[.int .i64 x] w fun e w' => e = .returned (.int .i64 (absI x)) ∧ w' = w :=
  (absolute_any x w h1 h2).mono fun _ _ ⟨a, b⟩ => ⟨a, b.symm⟩

/-- The greatest common divisor of two numbers. -/
def gcdI (a b : Int) : Int := (Nat.gcd a.natAbs b.natAbs : Nat)
theorem gcd_step (a b : Nat) : Nat.gcd b (a % b) = Nat.gcd a b := by
  rw [Nat.gcd_comm a b, Nat.gcd_rec b a, Nat.gcd_comm]
theorem absI_nat (x : Int) : absI x = (x.natAbs : Nat) := by unfold absI; split <;> omega

set_option maxRecDepth 100000 in
set_option maxHeartbeats 1000000 in
theorem steps_any (ax ay bx b_y : Int) (w : World) (h1 : Geo.Sm ax) (h2 : Geo.Sm ay) (h3 : Geo.Sm bx) (h4 : Geo.Sm b_y) :
    Calls Try.prog 102 #[.agg #[.int .i64 ax, .int .i64 ay, .int .i64 bx, .int .i64 b_y]] w fun e w' =>
      e = .returned (.int .i64 (gcdI (bx - ax) (b_y - ay))) ∧ Below w.heap.size w w' := by
  unfold Geo.Sm at *
  have e1 : IntKind.i64.wrap (bx - ax) = bx - ax := IntWalk.i64_in _ (by omega)
  have e2 : IntKind.i64.wrap (b_y - ay) = b_y - ay := IntWalk.i64_in _ (by omega)
  go_enter Try.func102, Try.ntmps102
  go_wp2
  go_quiet ((go_at_call 55; exact Calls.quiet_of_same (absolute_same _ _ (by omega) (by omega))))
  clear e1 e2
  obtain ⟨g, hg⟩ : ∃ g, g = Nat.gcd (bx - ax).natAbs (b_y - ay).natAbs := ⟨_, rfl⟩
  have Hg := Lib.hid hg
  clear hg
  obtain ⟨a0, ha0⟩ : ∃ a, a = (bx - ax).natAbs := ⟨_, rfl⟩
  obtain ⟨b0, hb0⟩ : ∃ a, a = (b_y - ay).natAbs := ⟨_, rfl⟩
  have la : a0 ≤ 8000 := by omega
  have lb : b0 ≤ 8000 := by omega
  rw [absI_nat, absI_nat, ← ha0, ← hb0]
  rw [← ha0, ← hb0] at Hg
  have H0 := Lib.hid (And.intro ha0 hb0)
  clear ha0 hb0 h1 h2 h3 h4
  go_wp2
  go_loopw [3, 4] (fun a b wr => ∃ x y : Nat, a = .int .i64 x ∧ b = .int .i64 y ∧ x ≤ 8000 ∧ y ≤ 8000 ∧ Hid (g = Nat.gcd x y) ∧ Below w.heap.size w wr) (fun _ b _ => (intOf b).toNat)
  case atStart => exact ⟨a0, b0, rfl, rfl, la, lb, Hg, below_drewN ((Below.refl _ _).alloc (Nat.le_refl _) _) _⟩
  case round =>
    obtain ⟨x, y, rfl, rfl, hx, hy, hgc, hb⟩ := hrel
    by_cases h0 : y = 0
    · subst h0
      go_wp2
      go_ret
      refine ⟨ret_int ?_, hb⟩
      have := hgc.out
      rw [Nat.gcd_zero_right] at this
      show (x : Int) = gcdI (bx - ax) (b_y - ay)
      unfold gcdI
      rw [← H0.out.1, ← H0.out.2, ← this, ← Hg.out]
    · have hm : x % y < y := Nat.mod_lt _ (by omega)
      have hy1 : (1 : Int) ≤ (y : Int) := by omega
      have hq : ((y : Int) == 0) = false := by simp [h0]
      have hq2 : ((y : Int) != 0) = true := by simp [h0]
      go_wp2
      go_quiet (fail)
      go_wp2
      go_roundw
      case rel => exact ⟨y, x % y, rfl, by simp, hy, by omega, (hgc.out.trans (gcd_step x y).symm), below_drewN hb _⟩
      case measure =>
        have : intOf (.int .i64 ((x : Int) % (y : Int))) = ((x % y : Nat) : Int) := by simp [intOf]
        rw [this]
        simp [intOf]
        omega
end Go.Proofs.Ytnllhhamebmlnaa
