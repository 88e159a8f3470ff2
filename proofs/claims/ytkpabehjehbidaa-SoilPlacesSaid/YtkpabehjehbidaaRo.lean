import Derived.Test.YtkpabehjehbidaaRch
import Derived.Test.YtkpabehjehbidaaRw
namespace Go.Proofs.Ytkpabehjehbidaa
open Go.RowKit

theorem over_low {a : Rat} {n : Int} {G e1 e2 : Nat} (hn : 0 < n) (hG : 0 < G) (k1 : a.num = ((e1 * G : Nat) : Int)) (k2 : n = ((e2 * G : Nat) : Int)) : mkRat (e1 : Int) (a.den * e2) = a / (n : Rat) := by
  rw [← div_q a n hn]
  have e : mkRat ((e1 : Int) * (G : Int)) ((a.den * e2) * G) = mkRat (e1 : Int) (a.den * e2) := Rat.mkRat_mul_right (by omega)
  rw [← e]
  congr 1
  · rw [k1]; push_cast; rfl
  · rw [k2, ← Int.natCast_mul, Int.toNat_natCast, Nat.mul_assoc]

set_option maxRecDepth 100000 in
set_option maxHeartbeats 2000000 in
theorem rover_any (a : Rat) (n : Int) (w : World) (h0 : 0 ≤ a.num) (h1 : a.num ≤ 4000000000000000000) (hn : 1 ≤ n) (hn2 : n ≤ 1000000) (hd : a.den ≤ 1000000000000) :
    Calls Try.prog 96 #[Fr a, .int .i64 n] w fun e w' => e = .returned (Fr (a / (n : Rat))) ∧ Below w.heap.size w w' := by
  obtain ⟨N, hN⟩ : ∃ x : Nat, (x : Int) = a.num := ⟨a.num.toNat, by omega⟩
  obtain ⟨M, rfl⟩ := Int.eq_ofNat_of_zero_le (show 0 ≤ n by omega)
  obtain ⟨D, hD⟩ : ∃ d, d = a.den := ⟨_, rfl⟩
  have dp := a.den_pos
  obtain ⟨G, hG⟩ : ∃ g, g = Nat.gcd N M := ⟨_, rfl⟩
  have hG0 : 0 < G := by rw [hG]; exact Nat.gcd_pos_of_pos_right _ (by omega)
  obtain ⟨e1, k1⟩ : ∃ e, N = e * G := by
    obtain ⟨e, he⟩ := Nat.gcd_dvd_left N M
    exact ⟨e, by rw [hG, Nat.mul_comm]; exact he⟩
  obtain ⟨e2, k2⟩ : ∃ e, M = e * G := by
    obtain ⟨e, he⟩ := Nat.gcd_dvd_right N M
    exact ⟨e, by rw [hG, Nat.mul_comm]; exact he⟩
  have hR := over_low (a := a) (n := (M : Int)) (by omega) hG0 (by rw [← hN, k1]) (by rw [← k2])
  obtain ⟨Q, hQ⟩ : ∃ q, q = a / ((M : Int) : Rat) := ⟨_, rfl⟩
  rw [← hQ, ← hD] at hR
  rw [← hQ]
  show Calls Try.prog 96 #[.agg #[.int .i64 a.num, .int .i64 a.den], .int .i64 (M : Int)] w _
  rw [← hN, ← hD]
  rw [← hD] at hd dp
  have hR := Lib.hid hR
  clear hQ
  have q1 : (N : Int) / (G : Int) = (e1 : Int) := by rw [k1]; push_cast; exact Int.mul_ediv_cancel _ (by omega)
  have q2 : (M : Int) / (G : Int) = (e2 : Int) := by rw [k2]; push_cast; exact Int.mul_ediv_cancel _ (by omega)
  have l1 : e1 ≤ N := by rw [k1]; exact Nat.le_mul_of_pos_right _ hG0
  have l2 : e2 ≤ M := by rw [k2]; exact Nat.le_mul_of_pos_right _ hG0
  have g1 : G ≤ M := by rw [hG]; exact Nat.gcd_le_right _ (by omega)
  have e2p : 0 < e2 := by rcases Nat.eq_zero_or_pos e2 with h | h; (· rw [h, Nat.zero_mul] at k2; omega); (· exact h)
  have hb1 : D * e2 ≤ 1000000000000 * 1000000 := Nat.mul_le_mul hd (by omega)
  have hbp : 0 < D * e2 := Nat.mul_pos dp e2p
  have Hg := Lib.hid hG
  have nb : (N : Int) ≤ 4000000000000000000 := by omega
  clear hD hN hG k1 k2
  have gz : ¬ G = 0 := by omega
  have gn : ((G : Int) == 0) = false := by simp; omega
  have t1 : (N : Int).tdiv (G : Int) = (e1 : Int) := by rw [Int.tdiv_eq_ediv_of_nonneg (by omega)]; exact q1
  have t2 : (M : Int).tdiv (G : Int) = (e2 : Int) := by rw [Int.tdiv_eq_ediv_of_nonneg (by omega)]; exact q2
  have x1 : IntKind.i64.wrap (e1 : Int) = (e1 : Int) := IntWalk.i64_in _ (by omega)
  have x2 : IntKind.i64.wrap (e2 : Int) = (e2 : Int) := IntWalk.i64_in _ (by omega)
  have x3 : IntKind.i64.wrap ((D : Int) * (e2 : Int)) = (D : Int) * (e2 : Int) := IntWalk.i64_in _ (by rw [← Int.natCast_mul]; omega)
  have hB := below_alloc2 w (.cells #[.int .i64 N, .int .i64 D] 29) (.cells #[.int .i64 0, .int .i64 0] 29)
  have r3 := heap_alloc2_old w (.cells #[.int .i64 N, .int .i64 D] 29) (.cells #[.int .i64 0, .int .i64 0] 29)
  have r4 := heap_alloc2_new w (.cells #[.int .i64 N, .int .i64 D] 29) (.cells #[.int .i64 0, .int .i64 0] 29)
  have HA := Lib.hid (And.intro hB (And.intro r3 r4))
  clear hB r3 r4
  go_enter Try.func96, Try.ntmps96
  go_wp2_with fail
  refine (rgcd_any (N : Int) (M : Int) _ (by omega) (by omega) (by omega) (by omega)).mono ?_
  rintro e w' ⟨rfl, rfl⟩
  rw [Int.natAbs_natCast, Int.natAbs_natCast, ← Hg.out]
  go_wp2_with fail
  obtain ⟨hB, r3, r4⟩ := HA.out
  generalize ((w.alloc (.cells #[.int .i64 N, .int .i64 D] 29)).alloc (.cells #[.int .i64 0, .int .i64 0] 29)) = wx at hB r3 r4 ⊢
  obtain ⟨⟨c0, c1⟩, -, -⟩ := row_fr r3
  clear HA r3
  go_still_tail 10, (by kernel_rfl)
  change wpList _ _ _ _ _ wx.drew
  replace hB : Below w.heap.size w wx.drew := below_drewN hB 1
  have hcast : ((D : Int) * (e2 : Int)) = ((D * e2 : Nat) : Int) := (Int.natCast_mul _ _).symm
  replace r4 : wx.drew.heap[w.heap.size + 1]? = some (.cells #[.int .i64 0, .int .i64 0] 29 (0, 0)) := r4
  generalize wx.drew = wd at hB r4 ⊢
  clear t1 t2 x1 x2 x3 q1 q2 gn gz
  rw [hcast]
  clear hcast c0 c1
  obtain ⟨DD, hDD⟩ : ∃ x, x = D * e2 := ⟨_, rfl⟩
  rw [← hDD] at hR ⊢
  rw [← hDD] at hb1 hbp
  clear hDD
  go_wp2_with fail
  refine (ratio_any (e1 : Int) DD _ hbp (by omega) (by omega) (by omega)).mono ?_
  rintro e w1 ⟨rfl, hbb⟩
  replace r4 := heap_keep hbb r4
  replace hB := hB.trans (hbb.mono hB.size)
  clear hbb
  rw [hR.out]
  obtain ⟨⟨d0, d1⟩, f0, f1⟩ := row_fr r4
  go_wp2
  exact bodyPost_ret (results_cell_row rfl _ _ _ _ _ _ _ rfl (two_cells r4 (.int .i64 Q.num) (.int .i64 Q.den)) Try.underlying29 rfl infoRat2) rfl ⟨rfl, below_setCell (below_setCell hB (by omega) _) (by omega) _⟩

/-- What is asked of a worth that is to be reached. -/
structure WantU (w : Rat) : Prop where
  w0 : 0 ≤ w
  w1 : w ≤ ((4000 : Nat) : Rat)
  d : w.den ≤ 1000
namespace Fl
/-- What Reach answers. -/
def reachR (u : List Int) (a w : Rat) : Option Rat := if w.num ≤ 0 then some a else reachF 0 0 u (before u a + w)
end Fl
/-- A place, or the zero value. -/
def optFr : Option Rat → Value
  | some q => Fr q
  | none => .agg #[.int .i64 0, .int .i64 0]
theorem optFr_some (q : Rat) : optFr (some q) = Fr q := rfl

/-- What is known of the place that is wanted. -/
structure WantK (T : Rat) : Prop where
  t0 : 0 ≤ T
  t1 : T ≤ ((6820 : Nat) : Rat)
  d : T.den ≤ 1000000
theorem want_known {u : List Int} {a w : Rat} (hu : UnitsOk u) (ha : PlaceU u.length a) (ha2 : a.den ≤ 1000) (hw : WantU w) : WantK (Fl.before u a + w) ∧ SumQ (Fl.before u a) w := by
  obtain ⟨b0, b1, b2⟩ := before_bound hu ha
  have hd : (Fl.before u a).den * w.den ≤ 1000 * 1000 := Nat.mul_le_mul (by omega) hw.d
  have w0 := hw.w0
  have w1 := hw.w1
  have e1 : ((6820 : Nat) : Rat) = 6820 := rfl
  have e2 : ((2820 : Nat) : Rat) = 2820 := rfl
  have e3 : ((4000 : Nat) : Rat) = 4000 := rfl
  refine ⟨⟨by grind, by grind, Nat.le_trans (Fl.den_add_le _ _) (by omega)⟩, sumQ_of b0 w0 2820 4000 b1 w1 1000000 (by omega) (by omega) (by omega) (by omega)⟩
theorem less_want {s : Int} {T : Rat} (hs : 0 ≤ s) (hs2 : s ≤ 10000) (hT : WantK T) : SumQ (s : Rat) T := by
  have s0 : (0 : Rat) ≤ (s : Rat) := by exact_mod_cast hs
  have s1 : (s : Rat) ≤ ((10000 : Nat) : Rat) := by
    have : (s : Rat) ≤ ((10000 : Int) : Rat) := Rat.intCast_le_intCast.2 hs2
    exact this
  exact sumQ_of s0 hT.t0 10000 6820 s1 hT.t1 1000000 (by rw [Rat.den_intCast, Nat.one_mul]; exact hT.d) (by omega) (by omega) (by omega)
theorem sub_want {s : Int} {T : Rat} (hs : 0 ≤ s) (hs2 : s ≤ 10000) (hT : WantK T) : SumQ T (s : Rat) := by
  have h := less_want hs hs2 hT
  exact ⟨h.p2, h.p1, h.b1, h.b2, h.a1, h.a2, by rw [Nat.mul_comm]; exact h.c⟩
theorem found {s i v : Int} {T : Rat} (hs : 0 ≤ s) (hs2 : s ≤ 10000) (hT : WantK T) (hi : 0 ≤ i) (hi2 : i ≤ 1000) (hlt : (s : Rat) < T) (hle : T ≤ ((s + v : Int) : Rat)) (hv2 : v ≤ 20) :
    1 ≤ v ∧ 0 ≤ (T - (s : Rat)).num ∧ (T - (s : Rat)).num ≤ 4000000000000000000 ∧ (T - (s : Rat)).den ≤ 1000000000000 ∧ SumQ (i : Rat) ((T - (s : Rat)) / (v : Rat)) := by
  have hv : 1 ≤ v := by
    have h : (s : Rat) < ((s + v : Int) : Rat) := by grind
    have := Rat.intCast_lt_intCast.1 h
    omega
  have e : ((s + v : Int) : Rat) = (s : Rat) + (v : Rat) := Rat.intCast_add s v
  have hd : (T - (s : Rat)).den ≤ 1000000 := by
    have := Fl.den_sub_le T (s : Rat)
    rw [Rat.den_intCast, Nat.mul_one] at this
    have := hT.d
    omega
  have s0 : (0 : Rat) ≤ (s : Rat) := by exact_mod_cast hs
  have t1 := hT.t1
  have x1 : T - (s : Rat) ≤ ((6820 : Nat) : Rat) := by
    have e1 : ((6820 : Nat) : Rat) = 6820 := rfl
    grind
  have n0 : 0 ≤ (T - (s : Rat)).num := Fl.num_nonneg (by grind)
  have n1 := Fl.num_le x1
  have vr : (0 : Rat) < (v : Rat) := by exact_mod_cast (show (0 : Int) < v by omega)
  have q0 : 0 ≤ (T - (s : Rat)) / (v : Rat) := by
    rw [Rat.div_def]
    exact Rat.mul_nonneg (by grind) (Rat.le_of_lt (Rat.inv_pos.2 vr))
  have q1 : (T - (s : Rat)) / (v : Rat) ≤ ((1 : Nat) : Rat) := by
    have h1 : (T - (s : Rat)) / (v : Rat) * (v : Rat) = T - (s : Rat) := Rat.div_mul_cancel (by grind)
    have e1 : ((1 : Nat) : Rat) = 1 := rfl
    rw [e1]
    refine Rat.not_lt.1 fun hgt => ?_
    have := Rat.mul_lt_mul_of_pos_right hgt vr
    grind
  have qd : ((T - (s : Rat)) / (v : Rat)).den ≤ 20000000 := by
    rw [← div_q _ v (by omega)]
    have hp : 0 < ((T - (s : Rat)).den : Int) * v := Int.mul_pos (by have := (T - (s : Rat)).den_pos; omega) (by omega)
    have h2 : ((T - (s : Rat)).den : Int) * v ≤ 1000000 * 20 := Int.mul_le_mul (by omega) hv2 (by omega) (by omega)
    have := mk_den_le (n := (T - (s : Rat)).num) (d := (((T - (s : Rat)).den : Int) * v).toNat) (by omega)
    omega
  have i0 : (0 : Rat) ≤ (i : Rat) := by exact_mod_cast hi
  have i1 : (i : Rat) ≤ ((1000 : Nat) : Rat) := by
    have : (i : Rat) ≤ ((1000 : Int) : Rat) := Rat.intCast_le_intCast.2 hi2
    exact this
  exact ⟨hv, n0, by omega, by omega, sumQ_of i0 q0 1000 1 i1 q1 20000000 (by rw [Rat.den_intCast, Nat.one_mul]; exact qd) (by omega) (by omega) (by omega)⟩
end Go.Proofs.Ytkpabehjehbidaa
