import Derived.Test.YtemlfklipkpacaaB1
/- The fractions of package knife: each function makes the fraction that it should. -/
namespace Go.Proofs.Ytemlfklipkpacaa
open Go.RowKit

theorem kinfoFrAll : (Try.prog.info? 124).map (fun i => (i.zero, i.size, i.bytes)) = some (some (.agg #[.int .i64 0, .int .i64 0]), 2, 16) := by kernel_rfl

theorem kinfoFr : (Try.prog.info? 124).isSome = true := by kernel_rfl

theorem kinfoFr2 : (Try.prog.info? 124).map (·.size) = some 2 := by kernel_rfl

set_option maxRecDepth 100000 in
set_option maxHeartbeats 1000000 in
theorem kdivisor_any (a0 b0 : Nat) (w : World) (h1 : a0 ≤ 9223372036854775807) (h2 : b0 ≤ 9223372036854775807) :
    Calls Try.prog 153 #[.int .i64 a0, .int .i64 b0] w fun e w' => e = .returned (.int .i64 (Nat.gcd a0 b0 : Nat)) ∧ Below w.heap.size w w' := by
  obtain ⟨g, hg⟩ : ∃ g, g = Nat.gcd a0 b0 := ⟨_, rfl⟩
  rw [← hg]
  have Hg := Lib.hid hg
  clear hg
  go_enter Try.func153, Try.ntmps153
  go_wp2
  go_loopw [0, 1] (fun a b wr => ∃ x y : Nat, a = .int .i64 x ∧ b = .int .i64 y ∧ x ≤ 9223372036854775807 ∧ y ≤ 9223372036854775807 ∧ Hid (g = Nat.gcd x y) ∧ Below w.heap.size w wr) (fun _ b _ => (intOf b).toNat)
  case atStart => exact ⟨a0, b0, rfl, rfl, h1, h2, Hg, Below.refl _ _⟩
  case round =>
    obtain ⟨x, y, rfl, rfl, hx, hy, hgc, hb⟩ := hrel
    by_cases h0 : y = 0
    · subst h0
      go_wp2
      go_ret
      refine ⟨ret_int ?_, hb⟩
      have := hgc.out
      rw [Nat.gcd_zero_right] at this
      rw [this]
    · have hm : x % y < y := Nat.mod_lt _ (by omega)
      have hy1 : (1 : Int) ≤ (y : Int) := by omega
      have hq : ((y : Int) == 0) = false := by simp [h0]
      have hq2 : ((y : Int) != 0) = true := by simp [h0]
      go_wp2
      go_quiet (fail)
      go_wp2
      go_roundw
      case rel => exact ⟨y, x % y, rfl, by simp, hy, by omega, Lib.hid (hgc.out.trans (gcd_step x y).symm), below_drewN hb _⟩
      case measure =>
        have : intOf (.int .i64 ((x : Int) % (y : Int))) = ((x % y : Nat) : Int) := by simp [intOf]
        rw [this]
        simp [intOf]
        omega

set_option maxHeartbeats 400000 in
theorem kwhole_any (n : Int) (w : World) :
    Calls Try.prog 124 #[.int .i64 n] w fun e w' => e = .returned (Fr (n : Rat)) ∧ Below w.heap.size w w' := by
  go_enter Try.func124, Try.ntmps124
  go_wp2
  exact bodyPost_ret (results_cell_row rfl _ _ _ _ _ _ _ rfl (heap_alloc_new w _) Try.underlying124 rfl kinfoFr2) rfl ⟨rfl, (Below.refl _ w).alloc (Nat.le_refl _) _⟩

set_option maxHeartbeats 400000 in
theorem klowest_any (n d : Nat) (w : World) (hd : 0 < d) (h1 : n ≤ 9223372036854775807) (h2 : d ≤ 9223372036854775807) :
    Calls Try.prog 158 #[.int .i64 n, .int .i64 d] w fun e w' => e = .returned (Fr (mkRat n d)) ∧ Below w.heap.size w w' := by
  have hg : 0 < Nat.gcd n d := Nat.gcd_pos_of_pos_right _ hd
  have hL := low_eq n d hd
  have HL := Lib.hid hL
  clear hL
  obtain ⟨g, hg0⟩ : ∃ g, g = Nat.gcd n d := ⟨_, rfl⟩
  go_enter Try.func158, Try.ntmps158
  go_wp2_with (first | (go_at_call 153; refine (kdivisor_any n d _ h1 h2).mono ?_; rintro e w' ⟨rfl, hb'⟩))
  rw [← hg0]
  rw [← hg0] at HL hg
  have Hg := Lib.hid hg0
  clear hg0
  have hh := heap_at hb' (k := w.heap.size) (by simp) (heap_alloc_new w (.cells #[.int .i64 0, .int .i64 0] 124))
  have hB := ((Below.refl _ w).alloc (Nat.le_refl _) (.cells #[.int .i64 0, .int .i64 0] 124)).trans (hb'.mono (by simp))
  clear hb'
  have hg1 : (1 : Int) ≤ (g : Int) := by omega
  have hq : ((g : Int) == 0) = false := by simp; omega
  obtain ⟨⟨c0, c1⟩, f0, f1⟩ := row_fr hh
  have b1 := IntWalk.tdiv_le n g (by omega) hg1
  have b2 := IntWalk.tdiv_le d g (by omega) hg1
  have q1 : IntKind.i64.wrap ((n : Int) / (g : Int)) = (n : Int) / (g : Int) := IntWalk.i64_in _ (by omega)
  have q2 : IntKind.i64.wrap ((d : Int) / (g : Int)) = (d : Int) / (g : Int) := IntWalk.i64_in _ (by omega)
  clear b1 b2
  go_region
  go_wp2
  have h3 := two_cells hh (.int .i64 (n / g)) (.int .i64 (d / g))
  exact bodyPost_ret (results_cell_row rfl _ _ _ _ _ _ _ rfl h3 Try.underlying124 rfl kinfoFr2) rfl ⟨ret_fr HL.out.1 HL.out.2, below_drewN (below_setCell (below_setCell hB (Nat.le_refl _) _) (Nat.le_refl _) _) 1⟩

theorem klowest_q (a b : Int) (q : Rat) (w : World) (ha : 0 ≤ a) (hb : 0 < b) (h1 : a ≤ 9223372036854775807) (h2 : b ≤ 9223372036854775807) (hq : mkRat a b.toNat = q) :
    Calls Try.prog 158 #[.int .i64 a, .int .i64 b] w fun e w' => e = .returned (Fr q) ∧ Below w.heap.size w w' := by
  obtain ⟨n, rfl⟩ := Int.eq_ofNat_of_zero_le ha
  obtain ⟨d, rfl⟩ := Int.eq_ofNat_of_zero_le (Int.le_of_lt hb)
  rw [← hq, Int.toNat_natCast]
  exact klowest_any n d w (by omega) (by omega) (by omega)

set_option maxRecDepth 100000 in
set_option maxHeartbeats 1000000 in
theorem kplus_any (x y : Rat) (w : World) (h : PlusOk x y) :
    Calls Try.prog 154 #[Fr x, Fr y] w fun e w' => e = .returned (Fr (x + y)) ∧ Below w.heap.size w w' := by
  obtain ⟨h1, h2, h3, h4, h5⟩ := h
  have p1 : 0 ≤ x.num * (y.den : Int) := Int.mul_nonneg h1 (by omega)
  have p2 : 0 ≤ y.num * (x.den : Int) := Int.mul_nonneg h2 (by omega)
  have p3 : 0 < (x.den : Int) * (y.den : Int) := Int.mul_pos (by have := x.den_pos; omega) (by have := y.den_pos; omega)
  have hq := Lib.hid (add_q x y)
  go_enter Try.func154, Try.ntmps154
  go_wp2_with (first | (go_at_call 158; refine (klowest_q _ _ (x + y) _ (by omega) (by omega) (by omega) (by omega) hq.out).mono ?_; rintro e w' ⟨rfl, hb'⟩; have hh := heap_at hb' (k := w.heap.size + 1 + 1) (by simp; try omega) (heap_alloc3 w _ _ _); obtain ⟨⟨c0, c1⟩, f0, f1⟩ := row_fr hh))
  refine bodyPost_ret (results_cell_row rfl _ _ _ _ _ _ _ rfl (two_cells hh (.int .i64 (x + y).num) (.int .i64 (x + y).den)) Try.underlying124 rfl kinfoFr2) rfl ⟨rfl, below_setCell (below_setCell ((below_alloc3 w _ _ _).trans (hb'.mono (by simp; try omega))) (by omega) _) (by omega) _⟩

set_option maxRecDepth 100000 in
set_option maxHeartbeats 1000000 in
theorem kminus_any (x y : Rat) (w : World) (h : SubOk x y) :
    Calls Try.prog 128 #[Fr x, Fr y] w fun e w' => e = .returned (Fr (x - y)) ∧ Below w.heap.size w w' := by
  obtain ⟨⟨h1, h2, h3, h4, h5⟩, h6⟩ := h
  have p0 := (Rat.le_iff y x).mp h6
  have p1 : 0 ≤ x.num * (y.den : Int) := Int.mul_nonneg h1 (by omega)
  have p2 : 0 ≤ y.num * (x.den : Int) := Int.mul_nonneg h2 (by omega)
  have p3 : 0 < (x.den : Int) * (y.den : Int) := Int.mul_pos (by have := x.den_pos; omega) (by have := y.den_pos; omega)
  have hq := Lib.hid (sub_q x y)
  go_enter Try.func128, Try.ntmps128
  go_wp2_with (first | (go_at_call 158; refine (klowest_q _ _ (x - y) _ (by omega) (by omega) (by omega) (by omega) hq.out).mono ?_; rintro e w' ⟨rfl, hb'⟩; have hh := heap_at hb' (k := w.heap.size + 1 + 1) (by simp; try omega) (heap_alloc3 w _ _ _); obtain ⟨⟨c0, c1⟩, f0, f1⟩ := row_fr hh))
  refine bodyPost_ret (results_cell_row rfl _ _ _ _ _ _ _ rfl (two_cells hh (.int .i64 (x - y).num) (.int .i64 (x - y).den)) Try.underlying124 rfl kinfoFr2) rfl ⟨rfl, below_setCell (below_setCell ((below_alloc3 w _ _ _).trans (hb'.mono (by simp; try omega))) (by omega) _) (by omega) _⟩

set_option maxRecDepth 100000 in
set_option maxHeartbeats 1000000 in
theorem ktimes_any (x : Rat) (n : Int) (w : World) (h1 : 0 ≤ x.num) (h2 : 0 ≤ n) (h3 : x.num * n ≤ 4000000000000000000) (h4 : (x.den : Int) ≤ 4000000000000000000) :
    Calls Try.prog 168 #[Fr x, .int .i64 n] w fun e w' => e = .returned (Fr (x * (n : Rat))) ∧ Below w.heap.size w w' := by
  have p1 : 0 ≤ x.num * n := Int.mul_nonneg h1 h2
  have p3 : 0 < (x.den : Int) := by have := x.den_pos; omega
  have hq := Lib.hid (mul_q x n)
  go_enter Try.func168, Try.ntmps168
  go_wp2_with (first | (go_at_call 158; refine (klowest_q _ _ (x * (n : Rat)) _ (by omega) (by omega) (by omega) (by omega) hq.out).mono ?_; rintro e w' ⟨rfl, hb'⟩; have hh := heap_at hb' (k := w.heap.size + 1) (by simp; try omega) (heap_alloc2_new w _ _); obtain ⟨⟨c0, c1⟩, f0, f1⟩ := row_fr hh))
  refine bodyPost_ret (results_cell_row rfl _ _ _ _ _ _ _ rfl (two_cells hh (.int .i64 (x * (n : Rat)).num) (.int .i64 (x * (n : Rat)).den)) Try.underlying124 rfl kinfoFr2) rfl ⟨rfl, below_setCell (below_setCell ((below_alloc2 w _ _).trans (hb'.mono (by simp; try omega))) (by omega) _) (by omega) _⟩

set_option maxRecDepth 100000 in
set_option maxHeartbeats 1000000 in
theorem kover_any (x : Rat) (n : Int) (w : World) (h1 : 0 ≤ x.num) (h2 : 0 < n) (h3 : x.num ≤ 4000000000000000000) (h4 : (x.den : Int) * n ≤ 4000000000000000000) :
    Calls Try.prog 151 #[Fr x, .int .i64 n] w fun e w' => e = .returned (Fr (x / (n : Rat))) ∧ Below w.heap.size w w' := by
  have p3 : 0 < (x.den : Int) * n := Int.mul_pos (by have := x.den_pos; omega) h2
  have hq := Lib.hid (div_q x n h2)
  go_enter Try.func151, Try.ntmps151
  go_wp2_with (first | (go_at_call 158; refine (klowest_q _ _ (x / (n : Rat)) _ (by omega) (by omega) (by omega) (by omega) hq.out).mono ?_; rintro e w' ⟨rfl, hb'⟩; have hh := heap_at hb' (k := w.heap.size + 1) (by simp; try omega) (heap_alloc2_new w _ _); obtain ⟨⟨c0, c1⟩, f0, f1⟩ := row_fr hh))
  refine bodyPost_ret (results_cell_row rfl _ _ _ _ _ _ _ rfl (two_cells hh (.int .i64 (x / (n : Rat)).num) (.int .i64 (x / (n : Rat)).den)) Try.underlying124 rfl kinfoFr2) rfl ⟨rfl, below_setCell (below_setCell ((below_alloc2 w _ _).trans (hb'.mono (by simp; try omega))) (by omega) _) (by omega) _⟩

theorem cmpI_cmpR (a b : Rat) : cmpI (a.num * (b.den : Int)) (b.num * (a.den : Int)) = Fl.cmpR a b := by
  unfold cmpI Fl.cmpR
  simp only [Rat.lt_iff]

set_option maxRecDepth 100000 in
set_option maxHeartbeats 2000000 in
theorem kcompare_int (n1 d1 n2 d2 : Int) (w : World) (h1 : -9223372036854775808 ≤ n1 * d2) (h2 : n1 * d2 ≤ 9223372036854775807) (h3 : -9223372036854775808 ≤ n2 * d1) (h4 : n2 * d1 ≤ 9223372036854775807) :
    Calls Try.prog 108 #[.agg #[.int .i64 n1, .int .i64 d1], .agg #[.int .i64 n2, .int .i64 d2]] w fun e w' => e = .returned (.int .i64 (cmpI (n1 * d2) (n2 * d1))) ∧ Below w.heap.size w w' := by
  have x1 : IntKind.i64.wrap (n1 * d2) = n1 * d2 := IntWalk.i64_in _ (by omega)
  have x2 : IntKind.i64.wrap (n2 * d1) = n2 * d1 := IntWalk.i64_in _ (by omega)
  clear h1 h2 h3 h4
  go_enter Try.func108, Try.ntmps108
  go_upto_region 1 with fail
  go_cut [5, 6] from 9 (fun p5 p6 wx => ∃ g5 g6 : Nat, p5 = .pointer (some ⟨g5, 0, none⟩) ∧ p6 = .pointer (some ⟨g6, 0, none⟩) ∧ wx.heap[g5]? = some (.cells #[.int .i64 n1, .int .i64 d1] 29 (0, 0)) ∧ wx.heap[g6]? = some (.cells #[.int .i64 n2, .int .i64 d2] 29 (0, 0)) ∧ Below w.heap.size w wx)
  case first =>
    go_region
    all_goals go_wp2_with fail
    all_goals go_meet
    all_goals (first
      | exact ⟨_, _, rfl, rfl, heap_alloc4_old w _ _ _ _, heap_alloc4_new w _ _ _ _, below_drewN (below_alloc4 w _ _ _ _) 1⟩
      | exact ⟨_, _, rfl, rfl, heap_alloc4_new w _ _ _ _, heap_alloc4_old w _ _ _ _, below_drewN (below_alloc4 w _ _ _ _) 1⟩)
  case rest =>
    obtain ⟨g5, g6, rfl, rfl, h5, h6, hB⟩ := hcut
    obtain ⟨⟨c5, c6⟩, -, -⟩ := row_fr h5
    obtain ⟨⟨c7, c8⟩, -, -⟩ := row_fr h6
    clear h5 h6
    go_wp2_with fail
    refine (cmp_same _ _ _).mono ?_
    rintro e w' ⟨rfl, rfl⟩
    go_wp2_with fail
    go_ret
    exact ⟨rfl, hB⟩

set_option maxRecDepth 100000 in
set_option maxHeartbeats 2000000 in
theorem kcompareR_int (n1 d1 n2 d2 : Int) (w : World) (h1 : -9223372036854775808 ≤ n1 * d2) (h2 : n1 * d2 ≤ 9223372036854775807) (h3 : -9223372036854775808 ≤ n2 * d1) (h4 : n2 * d1 ≤ 9223372036854775807) :
    Calls Try.prog 95 #[.agg #[.int .i64 n1, .int .i64 d1], .agg #[.int .i64 n2, .int .i64 d2]] w fun e w' => e = .returned (.int .i64 (cmpI (n1 * d2) (n2 * d1))) ∧ Below w.heap.size w w' := by
  have x1 : IntKind.i64.wrap (n1 * d2) = n1 * d2 := IntWalk.i64_in _ (by omega)
  have x2 : IntKind.i64.wrap (n2 * d1) = n2 * d1 := IntWalk.i64_in _ (by omega)
  clear h1 h2 h3 h4
  go_enter Try.func95, Try.ntmps95
  go_upto_region 1 with fail
  go_cut [5, 6] from 9 (fun p5 p6 wx => ∃ g5 g6 : Nat, p5 = .pointer (some ⟨g5, 0, none⟩) ∧ p6 = .pointer (some ⟨g6, 0, none⟩) ∧ wx.heap[g5]? = some (.cells #[.int .i64 n1, .int .i64 d1] 29 (0, 0)) ∧ wx.heap[g6]? = some (.cells #[.int .i64 n2, .int .i64 d2] 29 (0, 0)) ∧ Below w.heap.size w wx)
  case first =>
    go_region
    all_goals go_wp2_with fail
    all_goals go_meet
    all_goals (first
      | exact ⟨_, _, rfl, rfl, heap_alloc4_old w _ _ _ _, heap_alloc4_new w _ _ _ _, below_drewN (below_alloc4 w _ _ _ _) 1⟩
      | exact ⟨_, _, rfl, rfl, heap_alloc4_new w _ _ _ _, heap_alloc4_old w _ _ _ _, below_drewN (below_alloc4 w _ _ _ _) 1⟩)
  case rest =>
    obtain ⟨g5, g6, rfl, rfl, h5, h6, hB⟩ := hcut
    obtain ⟨⟨c5, c6⟩, -, -⟩ := row_fr h5
    obtain ⟨⟨c7, c8⟩, -, -⟩ := row_fr h6
    clear h5 h6
    go_wp2_with fail
    refine (cmp_same _ _ _).mono ?_
    rintro e w' ⟨rfl, rfl⟩
    go_wp2_with fail
    go_ret
    exact ⟨rfl, hB⟩

/-- Two fractions that can be compared. -/
def CmpOk (a b : Rat) : Prop := 0 ≤ a.num ∧ 0 ≤ b.num ∧ a.num * (b.den : Int) ≤ 9223372036854775807 ∧ b.num * (a.den : Int) ≤ 9223372036854775807
theorem kcompare_any (a b : Rat) (w : World) (h : CmpOk a b) :
    Calls Try.prog 108 #[Fr a, Fr b] w fun e w' => e = .returned (.int .i64 (Fl.cmpR a b)) ∧ Below w.heap.size w w' := by
  obtain ⟨ha, hb, h1, h2⟩ := h
  have p1 : 0 ≤ a.num * (b.den : Int) := Int.mul_nonneg ha (by omega)
  have p2 : 0 ≤ b.num * (a.den : Int) := Int.mul_nonneg hb (by omega)
  rw [← cmpI_cmpR]
  exact kcompare_int _ _ _ _ w (by omega) h1 (by omega) h2
theorem kcompareR_any (a b : Rat) (w : World) (h : CmpOk a b) :
    Calls Try.prog 95 #[Fr a, Fr b] w fun e w' => e = .returned (.int .i64 (Fl.cmpR a b)) ∧ Below w.heap.size w w' := by
  obtain ⟨ha, hb, h1, h2⟩ := h
  have p1 : 0 ≤ a.num * (b.den : Int) := Int.mul_nonneg ha (by omega)
  have p2 : 0 ≤ b.num * (a.den : Int) := Int.mul_nonneg hb (by omega)
  rw [← cmpI_cmpR]
  exact kcompareR_int _ _ _ _ w (by omega) h1 (by omega) h2


set_option maxRecDepth 100000 in
set_option maxHeartbeats 1000000 in
theorem klater_any (a b : Rat) (w : World) (hc0 : CmpOk a b) :
    Calls Try.prog 166 #[Fr a, Fr b] w fun e w' => e = .returned (Fr (Fl.later a b)) ∧ Below w.heap.size w w' := by
  have hh0 := heap_alloc3 w (.cells #[.int .i64 a.num, .int .i64 a.den] 124) (.cells #[.int .i64 b.num, .int .i64 b.den] 124) (.cells #[.int .i64 0, .int .i64 0] 124)
  have H0 := Lib.hid hh0
  clear hh0
  by_cases hab : a < b
  · have hc : Fl.cmpR a b = -1 := by unfold Fl.cmpR; rw [if_pos hab]
    have hl : Fl.later a b = b := if_pos hab
    have HL := Lib.hid hl
    clear hl
    go_enter Try.func166, Try.ntmps166
    go_wp2_with fail
    refine (kcompare_any a b _ hc0).mono ?_
    rintro e w' ⟨rfl, hb'⟩
    rw [hc]
    have hB := (below_alloc3 w _ _ _).trans (hb'.mono (by simp; try omega))
    have hk := heap_at hb' (k := w.heap.size + 1) (by simp; try omega) ((heap_alloc_old _ _ (by simp)).trans (heap_alloc2_new w _ _))
    have hr := heap_at hb' (k := w.heap.size + 1 + 1) (by simp) H0.out
    clear hb'
    obtain ⟨⟨c0, c1⟩, -, -⟩ := row_fr hk
    obtain ⟨⟨d0, d1⟩, f0, f1⟩ := row_fr hr
    go_wp2
    rw [HL.out]
    exact bodyPost_ret (results_cell_row rfl _ _ _ _ _ _ _ rfl (two_cells hr (.int .i64 b.num) (.int .i64 b.den)) Try.underlying124 rfl kinfoFr2) rfl ⟨rfl, below_setCell (below_setCell hB (by omega) _) (by omega) _⟩
  · have hc : (0 : Int) ≤ Fl.cmpR a b := by unfold Fl.cmpR; rw [if_neg hab]; split <;> omega
    have hl : Fl.later a b = a := if_neg hab
    have HL := Lib.hid hl
    clear hl
    go_enter Try.func166, Try.ntmps166
    go_wp2_with fail
    refine (kcompare_any a b _ hc0).mono ?_
    rintro e w' ⟨rfl, hb'⟩
    have hB := (below_alloc3 w _ _ _).trans (hb'.mono (by simp; try omega))
    have hk := heap_at hb' (k := w.heap.size) (by simp; try omega) ((heap_alloc_old _ _ (by simp; try omega)).trans (heap_alloc2_old w _ _))
    have hr := heap_at hb' (k := w.heap.size + 1 + 1) (by simp) H0.out
    clear hb'
    obtain ⟨⟨c0, c1⟩, -, -⟩ := row_fr hk
    obtain ⟨⟨d0, d1⟩, f0, f1⟩ := row_fr hr
    go_wp2
    rw [HL.out]
    exact bodyPost_ret (results_cell_row rfl _ _ _ _ _ _ _ rfl (two_cells hr (.int .i64 a.num) (.int .i64 a.den)) Try.underlying124 rfl kinfoFr2) rfl ⟨rfl, below_setCell (below_setCell hB (by omega) _) (by omega) _⟩

set_option maxRecDepth 100000 in
set_option maxHeartbeats 1000000 in
theorem ksooner_any (a b : Rat) (w : World) (hc0 : CmpOk a b) :
    Calls Try.prog 167 #[Fr a, Fr b] w fun e w' => e = .returned (Fr (Fl.sooner a b)) ∧ Below w.heap.size w w' := by
  have hh0 := heap_alloc3 w (.cells #[.int .i64 a.num, .int .i64 a.den] 124) (.cells #[.int .i64 b.num, .int .i64 b.den] 124) (.cells #[.int .i64 0, .int .i64 0] 124)
  have H0 := Lib.hid hh0
  clear hh0
  by_cases hab : b < a
  · have hc : Fl.cmpR a b = 1 := by unfold Fl.cmpR; rw [if_neg (by grind), if_pos hab]
    have hl : Fl.sooner a b = b := if_pos hab
    have HL := Lib.hid hl
    clear hl
    go_enter Try.func167, Try.ntmps167
    go_wp2_with fail
    refine (kcompare_any a b _ hc0).mono ?_
    rintro e w' ⟨rfl, hb'⟩
    rw [hc]
    have hB := (below_alloc3 w _ _ _).trans (hb'.mono (by simp; try omega))
    have hk := heap_at hb' (k := w.heap.size + 1) (by simp; try omega) ((heap_alloc_old _ _ (by simp)).trans (heap_alloc2_new w _ _))
    have hr := heap_at hb' (k := w.heap.size + 1 + 1) (by simp) H0.out
    clear hb'
    obtain ⟨⟨c0, c1⟩, -, -⟩ := row_fr hk
    obtain ⟨⟨d0, d1⟩, f0, f1⟩ := row_fr hr
    go_wp2
    rw [HL.out]
    exact bodyPost_ret (results_cell_row rfl _ _ _ _ _ _ _ rfl (two_cells hr (.int .i64 b.num) (.int .i64 b.den)) Try.underlying124 rfl kinfoFr2) rfl ⟨rfl, below_setCell (below_setCell hB (by omega) _) (by omega) _⟩
  · have hc : (0 : Int) ≥ Fl.cmpR a b := by unfold Fl.cmpR; rw [if_neg hab]; split <;> omega
    have hl : Fl.sooner a b = a := if_neg hab
    have HL := Lib.hid hl
    clear hl
    go_enter Try.func167, Try.ntmps167
    go_wp2_with fail
    refine (kcompare_any a b _ hc0).mono ?_
    rintro e w' ⟨rfl, hb'⟩
    have hB := (below_alloc3 w _ _ _).trans (hb'.mono (by simp; try omega))
    have hk := heap_at hb' (k := w.heap.size) (by simp; try omega) ((heap_alloc_old _ _ (by simp; try omega)).trans (heap_alloc2_old w _ _))
    have hr := heap_at hb' (k := w.heap.size + 1 + 1) (by simp) H0.out
    clear hb'
    obtain ⟨⟨c0, c1⟩, -, -⟩ := row_fr hk
    obtain ⟨⟨d0, d1⟩, f0, f1⟩ := row_fr hr
    go_wp2
    rw [HL.out]
    exact bodyPost_ret (results_cell_row rfl _ _ _ _ _ _ _ rfl (two_cells hr (.int .i64 a.num) (.int .i64 a.den)) Try.underlying124 rfl kinfoFr2) rfl ⟨rfl, below_setCell (below_setCell hB (by omega) _) (by omega) _⟩

theorem kinfoSpAll : (Try.prog.info? 172).map (fun i => (i.zero, i.size, i.bytes)) = some (some (.agg #[.int .i64 0, .int .i64 0, .int .i64 0]), 3, 24) := by kernel_rfl

theorem kinfo_sp : ∃ i, Try.prog.info? 172 = some i ∧ i.zero = some (.agg #[.int .i64 0, .int .i64 0, .int .i64 0]) ∧ i.size = 3 ∧ i.bytes = 24 := by
  have h := kinfoSpAll
  cases hi : Try.prog.info? 172 with
  | none => rw [hi] at h; cases h
  | some i =>
    rw [hi] at h
    simp only [Option.map_some, Option.some.injEq, Prod.mk.injEq] at h
    exact ⟨i, rfl, h.1, h.2.1, h.2.2⟩
end Go.Proofs.Ytemlfklipkpacaa
