import Derived.Test.YtkpabehjehbidaaRc
import Derived.Test.YtkpabehjehbidaaTog
namespace Go.Proofs.Ytkpabehjehbidaa
open Go.RowKit

def SumQ (a b : Rat) : Prop := SumOk a.num a.den b.num b.den
theorem radd_q (a b : Rat) (w : World) (h : SumQ a b) :
    Calls Try.prog 28 #[Fr a, Fr b] w fun e w' => e = .returned (Fr (a + b)) ∧ Below w.heap.size w w' := by
  have := radd_any a.num a.den b.num b.den w h
  rw [Rat.mkRat_self, Rat.mkRat_self] at this
  exact this
theorem rsub_q (a b : Rat) (w : World) (h : SumQ a b) :
    Calls Try.prog 37 #[Fr a, Fr b] w fun e w' => e = .returned (Fr (a - b)) ∧ Below w.heap.size w w' := by
  have := rsub_any a.num a.den b.num b.den w h
  rw [Rat.mkRat_self, Rat.mkRat_self] at this
  exact this
theorem rless_q (a b : Rat) (w : World) (h : SumQ a b) :
    Calls Try.prog 41 #[Fr a, Fr b] w fun e w' => e = .returned (.bool (decide (a < b))) ∧ Below w.heap.size w w' := by
  have := rless_any a.num a.den b.num b.den w h
  rw [Rat.mkRat_self, Rat.mkRat_self] at this
  exact this
/-- Sums of fractions that are not below 0, with bounds. -/
theorem sumQ_of {a b : Rat} (ha : 0 ≤ a) (hb : 0 ≤ b) (A B : Nat) (ha2 : a ≤ (A : Rat)) (hb2 : b ≤ (B : Rat)) (D : Nat) (hd : a.den * b.den ≤ D) (h1 : A * D ≤ 1000000000000000000) (h2 : B * D ≤ 1000000000000000000) (h3 : D ≤ 4000000000000000000) : SumQ a b := by
  have n1 := Fl.num_nonneg ha
  have n2 := Fl.num_nonneg hb
  have m1 := Fl.num_le ha2
  have m2 := Fl.num_le hb2
  have da := a.den_pos
  have db := b.den_pos
  have hdI : (a.den : Int) * (b.den : Int) ≤ (D : Int) := by rw [← Int.natCast_mul]; omega
  have x1 : a.num * (b.den : Int) ≤ (A : Int) * (a.den : Int) * (b.den : Int) := Int.mul_le_mul_of_nonneg_right m1 (by omega)
  have x2 : b.num * (a.den : Int) ≤ (B : Int) * (b.den : Int) * (a.den : Int) := Int.mul_le_mul_of_nonneg_right m2 (by omega)
  have y1 : (A : Int) * ((a.den : Int) * (b.den : Int)) ≤ (A : Int) * (D : Int) := Int.mul_le_mul_of_nonneg_left hdI (by omega)
  have y2 : (B : Int) * ((a.den : Int) * (b.den : Int)) ≤ (B : Int) * (D : Int) := Int.mul_le_mul_of_nonneg_left hdI (by omega)
  rw [Int.mul_assoc] at x1 x2
  rw [Int.mul_comm (b.den : Int) (a.den : Int)] at x2
  have z1 : (A : Int) * (D : Int) ≤ 1000000000000000000 := by rw [← Int.natCast_mul]; omega
  have z2 : (B : Int) * (D : Int) ≤ 1000000000000000000 := by rw [← Int.natCast_mul]; omega
  have p1 : 0 ≤ a.num * (b.den : Int) := Int.mul_nonneg n1 (by omega)
  have p2 : 0 ≤ b.num * (a.den : Int) := Int.mul_nonneg n2 (by omega)
  exact ⟨da, db, by omega, by omega, by omega, by omega, by omega⟩

theorem floor_quo (x : Rat) : x.floor = x.num / (x.den : Int) := by
  rw [Rat.floor]
  split
  · rename_i h; rw [h]; simp
  · rfl
theorem frac_eq (x : Rat) : mkRat (x.num % (x.den : Int)) x.den = x - (x.floor : Rat) := by
  have h := Int.mul_ediv_add_emod x.num (x.den : Int)
  rw [floor_quo]
  have hd : (x.den : Rat) ≠ 0 := by
    intro h
    have := x.den_pos
    have h2 := Rat.natCast_eq_zero_iff.1 h
    omega
  have hx : x = (x.num : Rat) / (x.den : Rat) := by rw [← Rat.mkRat_eq_div, Rat.mkRat_self]
  have e : x.num % (x.den : Int) = x.num - (x.den : Int) * (x.num / (x.den : Int)) := by omega
  rw [Rat.mkRat_eq_div, e, Rat.intCast_sub, Rat.intCast_mul, Rat.intCast_natCast]
  obtain ⟨q, hq⟩ : ∃ q : Rat, q = ((x.num / (x.den : Int) : Int) : Rat) := ⟨_, rfl⟩
  obtain ⟨d, hd2⟩ : ∃ d : Rat, d = (x.den : Rat) := ⟨_, rfl⟩
  obtain ⟨n, hn⟩ : ∃ n : Rat, n = (x.num : Rat) := ⟨_, rfl⟩
  rw [← hq]
  conv => rhs; rw [hx]
  rw [← hd2, ← hn]
  rw [← hd2] at hd
  rw [Rat.div_def, Rat.div_def]
  have hi := Rat.mul_inv_cancel _ hd
  grind

/-- What is asked of the values of units. -/
structure UnitsOk (u : List Int) : Prop where
  v : ∀ k, 0 ≤ u.getD k 0 ∧ u.getD k 0 ≤ 20
  s : ∀ k, 0 ≤ Fl.sumI (u.take k) ∧ Fl.sumI (u.take k) ≤ 20 * k
  l : u.length ≤ 140
theorem unitsOk_of {l : List (Int × Int)} (hok : Fl.Ok l) (h6 : l.length ≤ 6) : UnitsOk (Fl.units l) := by
  have h := units_take_len hok h6 l.length
  rw [List.take_length] at h
  exact ⟨fun k => Fl.units_at hok k, fun k => Fl.units_pre hok k, by omega⟩
/-- What is asked of a place of units. -/
structure PlaceU (L : Nat) (x : Rat) : Prop where
  x0 : 0 ≤ x
  x1 : x ≤ ((L : Int) : Rat)
  d : x.den ≤ 1000000
theorem before_facts {u : List Int} {x : Rat} (hu : UnitsOk u) (hx : PlaceU u.length x) {k : Nat} (hk : (k : Int) = x.num / (x.den : Int)) :
    k ≤ u.length ∧ x.num ≤ 140000000 ∧ 0 ≤ x.num ∧ (k = u.length → Fl.before u x = ((Fl.sumI (u.take k) : Int) : Rat)) ∧
    Fl.before u x = ((Fl.sumI (u.take k) : Int) : Rat) + ((u.getD k 0 : Int) : Rat) * mkRat (x.num % (x.den : Int)) x.den ∧
    MulOk (u.getD k 0) (mkRat (x.num % (x.den : Int)) x.den) ∧ SumQ ((Fl.sumI (u.take k) : Int) : Rat) (((u.getD k 0 : Int) : Rat) * mkRat (x.num % (x.den : Int)) x.den) := by
  have hf : x.floor = (k : Int) := by rw [floor_quo, hk]
  have n0 := Fl.num_nonneg hx.x0
  have hb : Fl.before u x = ((Fl.sumI (u.take k) : Int) : Rat) + ((u.getD k 0 : Int) : Rat) * mkRat (x.num % (x.den : Int)) x.den := by
    rw [frac_eq]
    unfold Fl.before
    rw [hf, Int.toNat_natCast]
  have f1 := Rat.floor_le x
  have hkl : k ≤ u.length := by
    rw [hf] at f1
    have := Rat.intCast_le_intCast.1 (Rat.le_trans f1 hx.x1)
    omega
  have hn : x.num ≤ 140000000 := by
    have h2 : x ≤ ((u.length : Nat) : Rat) := hx.x1
    have := Fl.num_le h2
    have h3 : (u.length : Int) * (x.den : Int) ≤ 140 * 1000000 := Int.mul_le_mul (by have := hu.l; omega) (by have := hx.d; omega) (by omega) (by omega)
    omega
  have dp := x.den_pos
  have r0 := Int.emod_nonneg x.num (show (x.den : Int) ≠ 0 by omega)
  have r1 := Int.emod_lt_of_pos x.num (show 0 < (x.den : Int) by omega)
  have m0 := mk_num_le (n := x.num % (x.den : Int)) (d := x.den) r0
  have m1 := mk_den_le (n := x.num % (x.den : Int)) dp
  have hvk := hu.v k
  have hsk := hu.s k
  have hd := hx.d
  have hl := hu.l
  have f2 : x - 1 < (x.floor : Rat) := Rat.lt_floor
  have fr0 : 0 ≤ mkRat (x.num % (x.den : Int)) x.den := by rw [← Rat.num_nonneg]; exact m0.1
  have fr1 : mkRat (x.num % (x.den : Int)) x.den ≤ 1 := by rw [frac_eq]; grind
  refine ⟨hkl, hn, n0, fun h => ?_, hb, ⟨hvk.1, by omega, m0.1, by omega, by omega⟩, ?_⟩
  · rw [hb]
    have : u.getD k 0 = 0 := by rw [List.getD_eq_getElem?_getD, List.getElem?_eq_none (by omega)]; rfl
    rw [this]
    have e : ((0 : Int) : Rat) = 0 := rfl
    rw [e, Rat.zero_mul, Rat.add_zero]
  · obtain ⟨f, hf⟩ : ∃ f, f = mkRat (x.num % (x.den : Int)) x.den := ⟨_, rfl⟩
    rw [← hf] at m1 fr0 fr1 ⊢
    have v0 : (0 : Rat) ≤ ((u.getD k 0 : Int) : Rat) := by exact_mod_cast hvk.1
    have v1 : ((u.getD k 0 : Int) : Rat) ≤ 20 := by exact_mod_cast hvk.2
    have s0 : (0 : Rat) ≤ ((Fl.sumI (u.take k) : Int) : Rat) := by exact_mod_cast hsk.1
    have s1 : ((Fl.sumI (u.take k) : Int) : Rat) ≤ ((2800 : Nat) : Rat) := by
      have : ((Fl.sumI (u.take k) : Int) : Rat) ≤ ((2800 : Int) : Rat) := Rat.intCast_le_intCast.2 (by omega)
      exact this
    have q1 : ((u.getD k 0 : Int) : Rat) * f ≤ ((20 : Nat) : Rat) := by
      have h := Rat.mul_le_mul_of_nonneg_left fr1 v0
      have e : ((20 : Nat) : Rat) = 20 := rfl
      grind
    have qd : (((u.getD k 0 : Int) : Rat) * f).den ≤ f.den := by rw [Rat.mul_comm]; exact Fl.den_mul_int_le _ _
    exact sumQ_of s0 (Rat.mul_nonneg v0 fr0) 2800 20 s1 q1 1000000 (by rw [Rat.den_intCast, Nat.one_mul]; omega) (by omega) (by omega) (by omega)

set_option maxRecDepth 100000 in
set_option maxHeartbeats 4000000 in
theorem rbefore_any (u : List Int) (x : Rat) (ao : Option Addr) (cap : Nat) (w : World) (hI : Ints w ao u) (hu : UnitsOk u) (hx : PlaceU u.length x) :
    Calls Try.prog 92 #[.slice ao u.length cap, Fr x] w fun e w' => e = .returned (Fr (Fl.before u x)) ∧ Below w.heap.size w w' := by
  have dp := x.den_pos
  obtain ⟨k, hk⟩ : ∃ k : Nat, (k : Int) = x.num / (x.den : Int) := ⟨(x.num / (x.den : Int)).toNat, by
    have := Int.ediv_nonneg (Fl.num_nonneg hx.x0) (show (0 : Int) ≤ (x.den : Int) by omega); omega⟩
  obtain ⟨hkl, hn1, hn0, hend, hbf, hmul, hsum⟩ := before_facts hu hx hk
  obtain ⟨R, hR⟩ : ∃ r, r = Fl.before u x := ⟨_, rfl⟩
  rw [← hR] at hend hbf ⊢
  clear hR
  have hmod : Hid (∀ z, z = x.num % (x.den : Int) → MulOk (u.getD k 0) (mkRat z x.den) ∧ SumQ ((Fl.sumI (u.take k) : Int) : Rat) (((u.getD k 0 : Int) : Rat) * mkRat z x.den) ∧ R = ((Fl.sumI (u.take k) : Int) : Rat) + ((u.getD k 0 : Int) : Rat) * mkRat z x.den) := Lib.hid (by rintro z rfl; exact ⟨hmul, hsum, hbf⟩)
  have Hend := Lib.hid hend
  clear hmul hsum hbf hend
  obtain ⟨N, hN⟩ : ∃ n : Nat, (n : Int) = x.num := ⟨x.num.toNat, by omega⟩
  obtain ⟨D, hD⟩ : ∃ d, d = x.den := ⟨_, rfl⟩
  have hd := hx.d
  have hul := hu.l
  show Calls Try.prog 92 #[.slice ao u.length cap, .agg #[.int .i64 x.num, .int .i64 x.den]] w _
  rw [← hN] at hk hn1 hn0 hmod ⊢
  rw [← hD] at hk hmod hd dp ⊢
  have HU := Lib.hid hu
  clear hN hD hx hu
  have hD1 : (1 : Int) ≤ (D : Int) := by omega
  have gz : ¬ D = 0 := by omega
  have gz2 : ((D : Int) == 0) = false := by simp; omega
  have hb := IntWalk.tdiv_le (N : Int) D (by omega) hD1
  have x1 : IntKind.i64.wrap ((N : Int) / (D : Int)) = (k : Int) := by rw [← hk]; exact IntWalk.i64_in _ (by omega)
  have hq : (N : Int) / (D : Int) = (k : Int) := hk.symm
  have t1 : (N : Int).tdiv (D : Int) = (k : Int) := (Int.tdiv_eq_ediv_of_nonneg (by omega)).trans hq
  clear hb hk
  obtain ⟨z, hz⟩ : ∃ z : Nat, (z : Int) = (N : Int) % (D : Int) := ⟨N % D, by simp⟩
  have hzD : z < D := by have := Int.emod_lt_of_pos (N : Int) (show (0 : Int) < (D : Int) by omega); omega
  have hm2 := hmod.out (z : Int) hz
  have HM := Lib.hid hm2
  have Hz := Lib.hid hz
  clear hm2 hmod hz
  have hB := below_alloc2 w (.cells #[.int .i64 N, .int .i64 D] 29) (.cells #[.int .i64 0, .int .i64 0] 29)
  have r3 := heap_alloc2_old w (.cells #[.int .i64 N, .int .i64 D] 29) (.cells #[.int .i64 0, .int .i64 0] 29)
  have r4 := heap_alloc2_new w (.cells #[.int .i64 N, .int .i64 D] 29) (.cells #[.int .i64 0, .int .i64 0] 29)
  have HA := Lib.hid (And.intro hB (And.intro r3 r4))
  clear hB r3 r4
  go_enter Try.func92, Try.ntmps92
  go_wp2
  clear x1 hq t1
  obtain ⟨hB, r3, r4⟩ := HA.out
  generalize ((w.alloc (.cells #[.int .i64 N, .int .i64 D] 29)).alloc (.cells #[.int .i64 0, .int .i64 0] 29)) = wx at hB r3 r4 ⊢
  clear HA
  go_loop [6, 7] (fun s i => ∃ j : Nat, j ≤ k ∧ i = .int .i64 j ∧ s = .int .i64 (Fl.sumI (u.take j))) (fun _ i => k - (intOf i).toNat)
  case atStart => exact ⟨0, Nat.zero_le _, rfl, rfl⟩
  case round =>
    obtain ⟨j, hj, rfl, rfl⟩ := hrel
    have h1 := HU.out.s j
    have h2 := HU.out.v j
    by_cases hlt : j < k
    · have hju : j < u.length := by omega
      obtain ⟨b, off, rfl, hbs, hc⟩ := hI.at hju
      replace hc := keep_cell hB hc
      have hst := Lib.hid (Fl.sumI_take hju)
      obtain ⟨y, hy⟩ : ∃ x, x = u.getD j 0 := ⟨_, rfl⟩
      obtain ⟨s, hs⟩ : ∃ x, x = Fl.sumI (u.take j) := ⟨_, rfl⟩
      rw [← hy] at hc h2 hst
      rw [← hs] at h1 hst ⊢
      have i1 : (j : Int) < (u.length : Int) := by omega
      have i2 : (j : Int) < (k : Int) := by omega
      clear hy hs hI
      go_wp2
      go_round
      case rel => exact ⟨j + 1, by omega, by go_num, by rw [hst.out]⟩
      case measure => simp [intOf]; omega
    · have hjk : j = k := by omega
      subst hjk
      obtain ⟨s, hs⟩ : ∃ x, x = Fl.sumI (u.take j) := ⟨_, rfl⟩
      rw [← hs] at h1 HM Hend ⊢
      clear hs
      by_cases hke : j = u.length
      · have hg : ((j : Int) == (u.length : Int)) = true := by simp; omega
        have hRe := Lib.hid (Hend.out hke)
        have HE := Lib.hid hke
        clear hke hlt hI
        go_wp2_with fail
        refine (rwhole_any s _).mono ?_
        rintro e w1 ⟨rfl, hbb⟩
        replace r4 := heap_keep hbb r4
        replace hB := hB.trans (hbb.mono hB.size)
        clear hbb
        rw [← hRe.out]
        obtain ⟨⟨c0, c1⟩, f0, f1⟩ := row_fr r4
        go_wp2
        exact bodyPost_ret (results_cell_row rfl _ _ _ _ _ _ _ rfl (two_cells r4 (.int .i64 R.num) (.int .i64 R.den)) Try.underlying29 rfl infoRat2) rfl ⟨rfl, below_setCell (below_setCell hB (by omega) _) (by omega) _⟩
      · have hg : ((j : Int) == (u.length : Int)) = false := by simp; omega
        have hju : j < u.length := by omega
        obtain ⟨b, off, rfl, hbs, hc⟩ := hI.at hju
        replace hc := keep_cell hB hc
        obtain ⟨y, hy⟩ : ∃ x, x = u.getD j 0 := ⟨_, rfl⟩
        rw [← hy] at hc h2 HM
        have i1 : (j : Int) < (u.length : Int) := by omega
        obtain ⟨⟨c0, c1⟩, -, -⟩ := row_fr r3
        have zz : (N : Int) % (D : Int) = (z : Int) := Hz.out.symm
        have z1 : IntKind.i64.wrap ((N : Int) % (D : Int)) = (z : Int) := by rw [zz]; exact IntWalk.i64_in _ (by omega)
        have z2 : (N : Int).tmod (D : Int) = (z : Int) := (Int.tmod_eq_emod_of_nonneg (by omega)).trans zz
        have z3 : IntKind.i64.wrap (z : Int) = (z : Int) := IntWalk.i64_in _ (by omega)
        clear hy hI hke hlt
        go_wp2_with fail
        go_region_held3 (fun w' => w'.cell? ⟨b, off + j, none⟩ = some (.int .i64 y) ∧ w'.cell? ⟨w.heap.size, 0, none⟩ = some (.int .i64 (N : Int)) ∧ w'.cell? ⟨w.heap.size, 1, none⟩ = some (.int .i64 (D : Int)))
          (first | exact ⟨hc, c0, c1⟩ | exact ⟨cell_two_other _ _ (by omega) kd.1, cell_two_other _ _ (by omega) kd.2.1, cell_two_other _ _ (by omega) kd.2.2⟩ | exact ka | exact kb | exact kc | exact kd)
          (first
            | (go_at_call 38; refine (rwhole_any s _).mono ?_; rintro e w1 ⟨rfl, hb1⟩; have ka := And.intro (keep_cell hb1 hc) (And.intro (keep_cell hb1 c0) (keep_cell hb1 c1)))
            | (go_at_call 59; refine (ratio_any (z : Int) D _ dp (by omega) (by omega) (by omega)).mono ?_; rintro e w2 ⟨rfl, hb2⟩; have kb := And.intro (keep_cell hb2 ka.1) (And.intro (keep_cell hb2 ka.2.1) (keep_cell hb2 ka.2.2)))
            | (go_at_call 102; refine (rtimes_any y _ _ HM.out.1).mono ?_; rintro e w3 ⟨rfl, hb3⟩; have kc := And.intro (keep_cell hb3 kb.1) (And.intro (keep_cell hb3 kb.2.1) (keep_cell hb3 kb.2.2)))
            | (go_at_call 28; refine (radd_q _ _ _ HM.out.2.1).mono ?_; rintro e w4 ⟨rfl, hb4⟩; have kd := And.intro (keep_cell hb4 kc.1) (And.intro (keep_cell hb4 kc.2.1) (keep_cell hb4 kc.2.2)); replace hB := (below_drewN hB 1).trans (hb1.mono (by have := hB.size; exact this)); replace hB := hB.trans (hb2.mono hB.size); replace hB := hB.trans (hb3.mono hB.size); replace hB := hB.trans (hb4.mono hB.size); replace r4 := heap_keep hb4 (heap_keep hb3 (heap_keep hb2 (heap_keep hb1 r4))); obtain ⟨⟨d0, d1⟩, f0, f1⟩ := row_fr r4; rw [← HM.out.2.2]))
        go_wp2
        exact bodyPost_ret (results_cell_row rfl _ _ _ _ _ _ _ rfl (two_cells r4 (.int .i64 R.num) (.int .i64 R.den)) Try.underlying29 rfl infoRat2) rfl ⟨rfl, below_setCell (below_setCell hB (by omega) _) (by omega) _⟩
end Go.Proofs.Ytkpabehjehbidaa
