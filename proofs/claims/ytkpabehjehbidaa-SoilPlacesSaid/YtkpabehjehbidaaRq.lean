import Derived.Test.YtkpabehjehbidaaFo
import Derived.StillTailTactics
namespace Go.Proofs.Ytkpabehjehbidaa
open Go.RowKit

set_option maxHeartbeats 400000 in
theorem rwithin_any (n lo hi : Int) (w : World) :
    Calls Try.prog 60 #[.int .i64 n, .int .i64 lo, .int .i64 hi] w fun e w' => e = .returned (.bool (decide (lo ≤ n) && decide (n ≤ hi))) ∧ w = w' := by
  go_enter Try.func60, Try.ntmps60
  go_wp2
  all_goals
    go_ret
    refine ⟨ret_bool ?_, rfl⟩
    rw [Bool.eq_iff_iff]
    simp
    omega

theorem sign_cases (a : Int) : ∃ x : Nat, x = a.natAbs ∧ ((a = x ∧ -(x : Int) ≤ x) ∨ (a = -(x : Int) ∧ ¬ (x : Int) ≤ -(x : Int))) := ⟨a.natAbs, rfl, by omega⟩

set_option maxRecDepth 100000 in
set_option maxHeartbeats 1000000 in
theorem rgcd_any (a0 b0 : Int) (w : World) (h1 : -9223372036854775807 ≤ a0) (h2 : a0 ≤ 9223372036854775807) (h3 : -9223372036854775807 ≤ b0) (h4 : b0 ≤ 9223372036854775807) :
    Calls Try.prog 66 #[.int .i64 a0, .int .i64 b0] w fun e w' => e = .returned (.int .i64 (Nat.gcd a0.natAbs b0.natAbs : Nat)) ∧ w = w' := by
  obtain ⟨g, hg⟩ : ∃ g, g = Nat.gcd a0.natAbs b0.natAbs := ⟨_, rfl⟩
  rw [← hg]
  obtain ⟨x0, hx0, hca⟩ := sign_cases a0
  obtain ⟨y0, hy0, hcb⟩ := sign_cases b0
  rw [← hx0, ← hy0] at hg
  have Hg := Lib.hid hg
  have ba : (x0 : Int) ≤ 9223372036854775807 := by omega
  have bb : (y0 : Int) ≤ 9223372036854775807 := by omega
  clear hg hx0 hy0
  have na : IntKind.i64.wrap (-(x0 : Int)) = -(x0 : Int) := IntWalk.i64_in _ (by omega)
  have nb : IntKind.i64.wrap (-(y0 : Int)) = -(y0 : Int) := IntWalk.i64_in _ (by omega)
  rcases hca with ⟨rfl, ca⟩ | ⟨rfl, ca⟩ <;> rcases hcb with ⟨rfl, cb⟩ | ⟨rfl, cb⟩ <;>
  · clear h1 h2 h3 h4
    go_enter Try.func66, Try.ntmps66
    go_wp2
    clear na nb ca cb
    go_loop [5, 6] (fun a b => ∃ x y : Nat, a = .int .i64 x ∧ b = .int .i64 y ∧ x ≤ 9223372036854775807 ∧ y ≤ 9223372036854775807 ∧ Hid (g = Nat.gcd x y)) (fun _ b => (intOf b).toNat)
    case atStart => exact ⟨x0, y0, rfl, rfl, by omega, by omega, Hg⟩
    case round =>
      obtain ⟨x, y, rfl, rfl, hx, hy, hgc⟩ := hrel
      by_cases h0 : y = 0
      · subst h0
        go_wp2
        go_ret
        refine ⟨ret_int ?_, rfl⟩
        have := hgc.out
        rw [Nat.gcd_zero_right] at this
        rw [this]
      · have hm : x % y < y := Nat.mod_lt _ (by omega)
        have hy1 : (1 : Int) ≤ (y : Int) := by omega
        go_wp2
        go_round
        case rel => exact ⟨y, x % y, rfl, by simp, hy, by omega, Lib.hid (hgc.out.trans (gcd_step x y).symm)⟩
        case measure =>
          have : intOf (.int .i64 ((x : Int) % (y : Int))) = ((x % y : Nat) : Int) := by simp [intOf]
          rw [this]
          simp [intOf]
          omega

/-- A fraction by two numbers, not in lowest terms. -/
theorem ratio_eq (n : Int) (d : Nat) (hd : 0 < d) : (n.tdiv ((Nat.gcd n.natAbs d : Nat) : Int)) = (mkRat n d).num ∧ ((d : Int) / ((Nat.gcd n.natAbs d : Nat) : Int)) = ((mkRat n d).den : Int) := by
  rw [Rat.num_mkRat, Rat.den_mkRat, if_neg (by omega), if_neg (by omega), Nat.gcd_comm]
  refine ⟨?_, by simp⟩
  have h := Nat.gcd_dvd_right d n.natAbs
  exact Int.tdiv_eq_ediv_of_dvd (Int.ofNat_dvd_left.2 (by simpa using h))

set_option maxRecDepth 100000 in
set_option maxHeartbeats 1000000 in
theorem ratio_any (n : Int) (d : Nat) (w : World) (hd : 0 < d) (h1 : -4611686018427387904 ≤ n) (h2 : n ≤ 4611686018427387904) (h3 : d ≤ 4611686018427387904) :
    Calls Try.prog 59 #[.int .i64 n, .int .i64 d] w fun e w' => e = .returned (Fr (mkRat n d)) ∧ Below w.heap.size w w' := by
  have hg : 0 < Nat.gcd n.natAbs d := Nat.gcd_pos_of_pos_right _ hd
  have HL := Lib.hid (ratio_eq n d hd)
  obtain ⟨g, hg0⟩ : ∃ g, g = Nat.gcd n.natAbs d := ⟨_, rfl⟩
  have hgd : g ≤ d := by rw [hg0]; exact Nat.gcd_le_right _ hd
  go_enter Try.func59, Try.ntmps59
  go_wp2_with fail
  refine (rgcd_any n d _ (by omega) (by omega) (by omega) (by omega)).mono ?_
  rintro e w' ⟨rfl, rfl⟩
  rw [Int.natAbs_natCast, ← hg0]
  rw [← hg0] at HL hg
  have Hg := Lib.hid hg0
  clear hg0
  have hh := heap_alloc_new w (.cells #[.int .i64 0, .int .i64 0] 29)
  have hB := ((Below.refl _ w).alloc (Nat.le_refl _) (.cells #[.int .i64 0, .int .i64 0] 29))
  generalize (w.alloc (.cells #[.int .i64 0, .int .i64 0] 29)) = w1 at hh hB ⊢
  have hg1 : (1 : Int) ≤ (g : Int) := by omega
  have hq : ((g : Int) == 0) = false := by simp; omega
  obtain ⟨⟨c0, c1⟩, f0, f1⟩ := row_fr hh
  have b1 : -4611686018427387904 ≤ n.tdiv g ∧ n.tdiv g ≤ 4611686018427387904 := by
    have h := Int.natAbs_tdiv_le_natAbs n g
    omega
  have b2 := IntWalk.tdiv_le d g (by omega) hg1
  have q1 : IntKind.i64.wrap (n.tdiv (g : Int)) = n.tdiv (g : Int) := IntWalk.i64_in _ (by omega)
  have q2 : IntKind.i64.wrap ((d : Int) / (g : Int)) = (d : Int) / (g : Int) := IntWalk.i64_in _ (by omega)
  clear b1 b2
  go_wp2
  go_region
  go_wp2
  have h3 := two_cells hh (.int .i64 (n.tdiv g)) (.int .i64 (d / g))
  exact bodyPost_ret (results_cell_row rfl _ _ _ _ _ _ _ rfl h3 Try.underlying29 rfl infoRat2) rfl ⟨ret_fr HL.out.1 HL.out.2, below_drewN (below_setCell (below_setCell hB (Nat.le_refl _) _) (Nat.le_refl _) _) 1⟩
end Go.Proofs.Ytkpabehjehbidaa
