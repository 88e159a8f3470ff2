import Derived.Test.YtkpabehjehbidaaDv
import Derived.BigRegion
namespace Go.Proofs.Ytkpabehjehbidaa
open Go.RowKit


set_option maxHeartbeats 400000 in
theorem whole_any (n : Int) (w : World) :
    Calls Try.prog 69 #[.int .i64 n] w fun e w' => e = .returned (Fr (n : Rat)) ∧ Below w.heap.size w w' := by
  go_enter Try.func69, Try.ntmps69
  go_wp2
  exact bodyPost_ret (results_cell_row rfl _ _ _ _ _ _ _ rfl (heap_alloc_new w _) Try.underlying70 rfl infoFr2) rfl ⟨rfl, (Below.refl _ w).alloc (Nat.le_refl _) _⟩

theorem low_eq (n d : Nat) (hd : 0 < d) : ((n : Int) / ((Nat.gcd n d : Nat) : Int)) = (mkRat n d).num ∧ ((d : Int) / ((Nat.gcd n d : Nat) : Int)) = ((mkRat n d).den : Int) := by
  rw [Rat.num_mkRat, Rat.den_mkRat, if_neg (by omega), if_neg (by omega), Int.natAbs_natCast, Nat.gcd_comm d n]
  exact ⟨rfl, by simp⟩

set_option maxHeartbeats 400000 in
theorem lowest_any (n d : Nat) (w : World) (hd : 0 < d) (h1 : n ≤ 9223372036854775807) (h2 : d ≤ 9223372036854775807) :
    Calls Try.prog 87 #[.int .i64 n, .int .i64 d] w fun e w' => e = .returned (Fr (mkRat n d)) ∧ Below w.heap.size w w' := by
  have hg : 0 < Nat.gcd n d := Nat.gcd_pos_of_pos_right _ hd
  have hL := low_eq n d hd
  have HL := Lib.hid hL
  clear hL
  obtain ⟨g, hg0⟩ : ∃ g, g = Nat.gcd n d := ⟨_, rfl⟩
  go_enter Try.func87, Try.ntmps87
  go_wp2_with (first | (go_at_call 93; refine (divisor_any n d _ h1 h2).mono ?_; rintro e w' ⟨rfl, hb'⟩))
  rw [← hg0]
  rw [← hg0] at HL hg
  have Hg := Lib.hid hg0
  clear hg0
  have hh := heap_at hb' (k := w.heap.size) (by simp) (heap_alloc_new w (.cells #[.int .i64 0, .int .i64 0] 70))
  have hB := ((Below.refl _ w).alloc (Nat.le_refl _) (.cells #[.int .i64 0, .int .i64 0] 70)).trans (hb'.mono (by simp))
  clear hb'
  have hg1 : (1 : Int) ≤ (g : Int) := by omega
  have hq : ((g : Int) == 0) = false := by simp; omega
  obtain ⟨⟨c0, c1⟩, f0, f1⟩ := row_fr hh
  have b1 := IntWalk.tdiv_le n g (by omega) hg1
  have b2 := IntWalk.tdiv_le d g (by omega) hg1
  have q1 : IntKind.i64.wrap ((n : Int) / (g : Int)) = (n : Int) / (g : Int) := IntWalk.i64_in _ (by omega)
  have q2 : IntKind.i64.wrap ((d : Int) / (g : Int)) = (d : Int) / (g : Int) := IntWalk.i64_in _ (by omega)
  clear b1 b2
  go_region
  go_wp2
  have h3 := two_cells hh (.int .i64 (n / g)) (.int .i64 (d / g))
  exact bodyPost_ret (results_cell_row rfl _ _ _ _ _ _ _ rfl h3 Try.underlying70 rfl infoFr2) rfl ⟨ret_fr HL.out.1 HL.out.2, below_drewN (below_setCell (below_setCell hB (Nat.le_refl _) _) (Nat.le_refl _) _) 1⟩
end Go.Proofs.Ytkpabehjehbidaa
