import Derived.Test.YtkpabehjehbidaaRb
import Derived.Test.YtkpabehjehbidaaRu
import Derived.Test.YtkpabehjehbidaaPlc
namespace Go.Proofs.Ytkpabehjehbidaa
open Go.RowKit

theorem tmod_small (x y : Int) (h : 0 < y) : -y < x.tmod y ∧ x.tmod y < y := by
  have h1 := Int.tmod_lt_of_pos x h
  have h2 := Int.tmod_lt_of_pos (-x) h
  rw [Int.neg_tmod] at h2
  omega

set_option maxRecDepth 100000 in
set_option maxHeartbeats 1000000 in
/-- The divisor where the first number is the least one. -/
theorem rgcd_min (b0 : Int) (w : World) (h3 : 1 ≤ b0) (h4 : b0 ≤ 1000000) :
    Calls Try.prog 66 #[.int .i64 (-9223372036854775808), .int .i64 b0] w fun e w' => e = .returned (.int .i64 b0) ∧ w = w' := by
  obtain ⟨a0, ha0⟩ : ∃ a : Int, a = -9223372036854775808 := ⟨_, rfl⟩
  rw [← ha0]
  have na : IntKind.i64.wrap (-a0) = a0 := by rw [ha0]; decide +kernel
  have a1 : a0 < 0 := by omega
  have a2 : -9223372036854775808 ≤ a0 := by omega
  clear ha0
  have cb : -b0 ≤ b0 := by omega
  have nb : IntKind.i64.wrap (-b0) = -b0 := IntWalk.i64_in _ (by omega)
  go_enter Try.func66, Try.ntmps66
  go_wp2
  clear na nb cb
  go_loop [5, 6] (fun a b => ∃ x y : Int, a = .int .i64 x ∧ b = .int .i64 y ∧ Hid ((x = a0 ∧ y = b0) ∨ (x = b0 ∧ y ≤ 0)) ∧ -9223372036854775808 ≤ x ∧ x ≤ 9223372036854775807 ∧ -9223372036854775808 ≤ y ∧ y ≤ 9223372036854775807) (fun _ b => (intOf b).toNat)
  case atStart => exact ⟨a0, b0, rfl, rfl, Lib.hid (.inl ⟨rfl, rfl⟩), by omega, by omega, by omega, by omega⟩
  case round =>
    obtain ⟨x, y, rfl, rfl, hxy, hx1, hx2, hy1, hy2⟩ := hrel
    by_cases h0 : 0 < y
    · have ht := tmod_small x y h0
      have x1 : IntKind.i64.wrap (x.tmod y) = x.tmod y := IntWalk.i64_in _ (by omega)
      have hst : Hid (y = b0 ∧ x.tmod y ≤ 0) := Lib.hid (by
        rcases hxy.out with ⟨e1, e2⟩ | ⟨_, h⟩
        · refine ⟨e2, ?_⟩
          have hnn := Int.tmod_nonneg (a := -x) y (by omega)
          rw [Int.neg_tmod] at hnn
          omega
        · omega)
      have gz : ¬ y = 0 := by omega
      have gz2 : (y == 0) = false := by simp; omega
      go_wp2
      go_round
      case rel => exact ⟨y, x.tmod y, rfl, rfl, Lib.hid (.inr hst.out), by omega, by omega, by omega, by omega⟩
      case measure => simp [intOf]; omega
    · go_wp2
      go_ret
      refine ⟨ret_int ?_, rfl⟩
      rcases hxy.out with ⟨e1, e2⟩ | ⟨e, _⟩
      · omega
      · exact e

/-- What IsValid answers. -/
def valB (n d most : Int) : Bool := (decide (1 ≤ d) && decide (d ≤ most)) && (if n = -9223372036854775808 then (d == 1) else (((Nat.gcd n.natAbs d.natAbs : Nat) : Int) == 1))
theorem valB_amt {n d most : Int} (h : 0 ≤ n) : valB n d most = Fl.amt n d most := by
  unfold valB
  rw [if_neg (by omega), Bool.eq_iff_iff, Fl.amt_iff]
  simp only [Bool.and_eq_true, decide_eq_true_eq, beq_iff_eq]
  omega
theorem valB_d {n d most : Int} (h : valB n d most = true) : 1 ≤ d ∧ d ≤ most := by
  unfold valB at h
  simp only [Bool.and_eq_true, decide_eq_true_eq] at h
  exact h.1

set_option maxRecDepth 100000 in
set_option maxHeartbeats 1000000 in
theorem risValid_any (n d most : Int) (w : World) (hn0 : -9223372036854775808 ≤ n) (hn : n ≤ 9223372036854775807) (hm : most ≤ 1000000) :
    Calls Try.prog 71 #[.agg #[.int .i64 n, .int .i64 d], .int .i64 most] w fun e w' => e = .returned (.bool (valB n d most)) ∧ Below w.heap.size w w' := by
  have hB : Below w.heap.size w (w.alloc (.cells #[.int .i64 n, .int .i64 d] 29)) := (Below.refl _ w).alloc (Nat.le_refl _) _
  have HB := Lib.hid hB
  clear hB
  obtain ⟨R, hR⟩ : ∃ r, valB n d most = r := ⟨_, rfl⟩
  rw [hR]
  unfold valB at hR
  obtain ⟨bv, hbv⟩ : ∃ v, (decide (1 ≤ d) && decide (d ≤ most)) = v := ⟨_, rfl⟩
  rw [hbv] at hR
  have Hbv := Lib.hid hbv
  clear hbv
  cases bv with
  | false =>
    have hv : Hid (R = false) := Lib.hid (by rw [← hR]; rfl)
    clear hR
    go_enter Try.func71, Try.ntmps71
    go_wp2_with fail
    refine (rwithin_any _ _ _ _).mono ?_
    rintro e w' ⟨rfl, rfl⟩
    rw [Hbv.out]
    go_wp2
    go_ret
    exact ⟨ret_bool hv.out.symm, HB.out⟩
  | true =>
    have hd : 1 ≤ d ∧ d ≤ most := by have := Hbv.out; simpa using this
    rw [Bool.true_and] at hR
    by_cases h0 : n = -9223372036854775808
    · rw [if_pos h0] at hR
      subst h0
      have HR := Lib.hid hR
      clear hR
      go_enter Try.func71, Try.ntmps71
      go_wp2_with fail
      refine (rwithin_any _ _ _ _).mono ?_
      rintro e w' ⟨rfl, rfl⟩
      rw [Hbv.out]
      go_wp2_with fail
      refine (rgcd_min d _ (by omega) (by omega)).mono ?_
      rintro e w' ⟨rfl, rfl⟩
      obtain ⟨D, hD⟩ : ∃ x, x = (d == 1) := ⟨_, rfl⟩
      go_wp2
      go_ret
      exact ⟨ret_bool (by rw [← HR.out]), HB.out⟩
    · rw [if_neg h0] at hR
      have HR := Lib.hid hR
      clear hR
      go_enter Try.func71, Try.ntmps71
      go_wp2_with fail
      refine (rwithin_any _ _ _ _).mono ?_
      rintro e w' ⟨rfl, rfl⟩
      rw [Hbv.out]
      go_wp2_with fail
      refine (rgcd_any n d _ (by omega) (by omega) (by omega) (by omega)).mono ?_
      rintro e w' ⟨rfl, rfl⟩
      obtain ⟨G, hG⟩ : ∃ g, ((Nat.gcd n.natAbs d.natAbs : Nat) : Int) = g := ⟨_, rfl⟩
      have hR := HR.out
      rw [hG] at hR ⊢
      replace hR := Lib.hid hR
      clear hG
      go_wp2
      go_ret
      exact ⟨ret_bool (by rw [← hR.out]), HB.out⟩

theorem quo_le {n d L : Int} (hn : 0 ≤ n) (hd : 1 ≤ d) (h : n / d ≤ L) (hL : L ≤ 1000) (hd2 : d ≤ 1000000) (hL0 : 0 ≤ L) : n ≤ 2000000000 := by
  have h1 := Int.mul_ediv_add_emod n d
  have h2 := Int.emod_lt_of_pos n (show 0 < d by omega)
  have h3 : d * (n / d) ≤ 1000000 * 1000 := Int.mul_le_mul hd2 (by omega) (Int.ediv_nonneg hn (by omega)) (by omega)
  omega
theorem quo_gt {n d L : Int} (hd : 1 ≤ d) (h : ¬ n / d ≤ L) : ¬ mkRat n d.toNat ≤ (L : Rat) := by
  intro h2
  have h4 : L + 1 ≤ n / d := by omega
  have h3 : (L + 1) * d ≤ n := Int.mul_le_of_le_ediv (by omega) h4
  have e : ((d.toNat : Nat) : Rat) = (d : Rat) := by rw [← Rat.intCast_natCast, Int.toNat_of_nonneg (by omega)]
  rw [Rat.mkRat_eq_div, e] at h2
  have hp : (0 : Rat) < (d : Rat) := by exact_mod_cast (show (0 : Int) < d by omega)
  have h5 : (n : Rat) / (d : Rat) * (d : Rat) ≤ (L : Rat) * (d : Rat) := Rat.mul_le_mul_of_nonneg_right h2 (by grind)
  rw [Rat.div_mul_cancel (by grind)] at h5
  have h6 : (n : Rat) ≤ ((L * d : Int) : Rat) := by rw [Rat.intCast_mul]; exact h5
  have h7 := Rat.intCast_le_intCast.1 h6
  rw [Int.add_mul] at h3
  omega

set_option maxRecDepth 100000 in
set_option maxHeartbeats 2000000 in
theorem risPlace_any (L : Nat) (ao : Option Addr) (cap : Nat) (n d : Int) (w : World) (hL : L ≤ 1000) (hd1 : 1 ≤ d) (hd2 : d ≤ 1000000) (hn : n ≤ 9223372036854775807) :
    Calls Try.prog 77 #[.slice ao L cap, .agg #[.int .i64 n, .int .i64 d]] w fun e w' => e = .returned (.bool (decide (0 ≤ n) && decide (mkRat n d.toNat ≤ ((L : Int) : Rat)))) ∧ Below w.heap.size w w' := by
  have hB : Below w.heap.size w (w.alloc (.cells #[.int .i64 n, .int .i64 d] 29)) := (Below.refl _ w).alloc (Nat.le_refl _) _
  have r3 := heap_alloc_new w (.cells #[.int .i64 n, .int .i64 d] 29)
  have HA := Lib.hid (And.intro hB r3)
  clear hB r3
  obtain ⟨R, hR⟩ : ∃ r, (decide (0 ≤ n) && decide (mkRat n d.toNat ≤ ((L : Int) : Rat))) = r := ⟨_, rfl⟩
  rw [hR]
  have HR := Lib.hid hR
  clear hR
  by_cases h0 : 0 ≤ n
  · obtain ⟨N, rfl⟩ := Int.eq_ofNat_of_zero_le h0
    obtain ⟨D, rfl⟩ := Int.eq_ofNat_of_zero_le (show 0 ≤ d by omega)
    have hb := IntWalk.tdiv_le (N : Int) D (by omega) hd1
    have x1 : IntKind.i64.wrap ((N : Int) / (D : Int)) = (N : Int) / (D : Int) := IntWalk.i64_in _ (by omega)
    have t1 : (N : Int).tdiv (D : Int) = (N : Int) / (D : Int) := Int.tdiv_eq_ediv_of_nonneg (by omega)
    have gz : ¬ D = 0 := by omega
    have gz2 : ((D : Int) == 0) = false := by simp; omega
    have g0 : decide ((0 : Int) ≤ (N : Int)) = true := by simp
    by_cases h1 : (N : Int) / (D : Int) ≤ (L : Int)
    · have hN := quo_le (n := N) (d := D) (by omega) hd1 h1 (by omega) hd2 (by omega)
      have hS : SumOk (L : Int) 1 (N : Int) D := ⟨by omega, by omega, by
          have := Int.mul_nonneg (show (0:Int) ≤ (L:Int) by omega) (show (0:Int) ≤ (D:Int) by omega); omega, by
          have := Int.mul_le_mul (show (L:Int) ≤ 1000 by omega) hd2 (show (0:Int) ≤ (D:Int) by omega) (by omega); omega, by omega, by omega, by omega⟩
      have hv : Hid ((!decide (mkRat (L : Int) 1 < mkRat (N : Int) D)) = R) := Lib.hid (by
        rw [← HR.out, Int.toNat_natCast]
        have e : mkRat (L : Int) 1 = ((L : Int) : Rat) := Rat.mkRat_self ((L : Int) : Rat)
        rw [e, Bool.eq_iff_iff]
        simp only [Bool.not_eq_true', decide_eq_false_iff_not, Bool.and_eq_true, decide_eq_true_eq]
        constructor
        · intro h; exact ⟨by omega, by grind⟩
        · intro h; grind)
      have g1 : decide ((N : Int) / (D : Int) ≤ (L : Int)) = true := by simpa using h1
      go_enter Try.func77, Try.ntmps77
      go_wp2_with fail
      obtain ⟨hB, r3⟩ := HA.out
      generalize w.alloc (.cells #[.int .i64 (N : Int), .int .i64 (D : Int)] 29) = wx at hB r3 ⊢
      clear HA
      obtain ⟨⟨c0, c1⟩, -, -⟩ := row_fr r3
      replace hB := below_drewN hB 1
      replace r3 : (wx.drewN 1).heap[w.heap.size]? = _ := r3
      go_region_held3 (fun w' => w'.cell? ⟨w.heap.size, 0, none⟩ = some (.int .i64 (N : Int)) ∧ w'.cell? ⟨w.heap.size, 1, none⟩ = some (.int .i64 (D : Int)))
        (first | exact ⟨c0, c1⟩ | exact ka | exact kb)
        (first
          | (go_at_call 38; refine (rwhole_any (L : Int) _).mono ?_; rintro e w1 ⟨rfl, hbb⟩; have ka := And.intro (keep_cell hbb c0) (keep_cell hbb c1); replace hB := hB.trans (hbb.mono hB.size); clear hbb)
          | (go_at_call 41; refine (rless_any (L : Int) 1 (N : Int) D _ hS).mono ?_; rintro e w2 ⟨rfl, hbb⟩; have kb := And.intro (keep_cell hbb ka.1) (keep_cell hbb ka.2); replace hB := hB.trans (hbb.mono hB.size); clear hbb))
      all_goals
        go_wp2
        go_ret
        exact ⟨ret_bool hv.out, hB⟩
    · have g1 : decide ((N : Int) / (D : Int) ≤ (L : Int)) = false := by simpa using h1
      have hv : Hid (R = false) := Lib.hid (by
        rw [← HR.out, Bool.and_eq_false_iff]
        exact .inr (decide_eq_false (quo_gt hd1 h1)))
      go_enter Try.func77, Try.ntmps77
      go_wp2_with fail
      go_quiet (fail)
      all_goals
        go_wp2
        go_ret
        exact ⟨ret_bool hv.out.symm, below_drewN HA.out.1 _⟩
  · have hv : Hid (R = false) := Lib.hid (by rw [← HR.out, decide_eq_false h0]; rfl)
    have g0 : decide (0 ≤ n) = false := by simpa using h0
    go_enter Try.func77, Try.ntmps77
    go_wp2_with fail
    go_quiet (fail)
    all_goals
      go_wp2
      go_ret
      exact ⟨ret_bool hv.out.symm, below_drewN HA.out.1 _⟩
end Go.Proofs.Ytkpabehjehbidaa
