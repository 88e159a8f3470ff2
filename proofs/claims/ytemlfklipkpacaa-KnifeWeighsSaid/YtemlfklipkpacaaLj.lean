import Derived.Test.YtemlfklipkpacaaKi
import Derived.Test.YtemlfklipkpacaaB5
/- The reference of package knife: Reach for the places of a knife. -/
namespace Go.Proofs.Ytemlfklipkpacaa
open Go.RowKit

/-- What is asked of a worth that is to be reached from a place of a knife. -/
structure WantU6 (w : Rat) : Prop where
  w0 : 0 ≤ w
  w1 : w ≤ ((4000 : Nat) : Rat)
  d : w.den ≤ 100
/-- What is known of the place that is wanted. -/
structure WantK6 (T : Rat) : Prop where
  t0 : 0 ≤ T
  t1 : T ≤ ((6820 : Nat) : Rat)
  d : T.den ≤ 100000000
theorem want_known6 {u : List Int} {a w : Rat} (hu : UnitsOk u) (ha : PlaceU u.length a) (hw : WantU6 w) : WantK6 (Fl.before u a + w) ∧ SumQ (Fl.before u a) w := by
  obtain ⟨b0, b1, b2⟩ := before_bound hu ha
  have hd : (Fl.before u a).den * w.den ≤ 1000000 * 100 := Nat.mul_le_mul (Nat.le_trans b2 ha.d) hw.d
  have w0 := hw.w0
  have w1 := hw.w1
  have e1 : ((6820 : Nat) : Rat) = 6820 := rfl
  have e2 : ((2820 : Nat) : Rat) = 2820 := rfl
  have e3 : ((4000 : Nat) : Rat) = 4000 := rfl
  refine ⟨⟨by grind, by grind, Nat.le_trans (Fl.den_add_le _ _) (by omega)⟩, sumQ_of b0 w0 2820 4000 b1 w1 100000000 (by omega) (by omega) (by omega) (by omega)⟩
theorem less_want6 {s : Int} {T : Rat} (hs : 0 ≤ s) (hs2 : s ≤ 10000) (hT : WantK6 T) : SumQ (s : Rat) T := by
  have s0 : (0 : Rat) ≤ (s : Rat) := by exact_mod_cast hs
  have s1 : (s : Rat) ≤ ((10000 : Nat) : Rat) := by
    have : (s : Rat) ≤ ((10000 : Int) : Rat) := Rat.intCast_le_intCast.2 hs2
    exact this
  exact sumQ_of s0 hT.t0 10000 6820 s1 hT.t1 100000000 (by rw [Rat.den_intCast, Nat.one_mul]; exact hT.d) (by omega) (by omega) (by omega)
theorem sub_want6 {s : Int} {T : Rat} (hs : 0 ≤ s) (hs2 : s ≤ 10000) (hT : WantK6 T) : SumQ T (s : Rat) := by
  have h := less_want6 hs hs2 hT
  exact ⟨h.p2, h.p1, h.b1, h.b2, h.a1, h.a2, by rw [Nat.mul_comm]; exact h.c⟩
theorem found6 {s i v : Int} {T : Rat} (hs : 0 ≤ s) (_ : s ≤ 10000) (hT : WantK6 T) (hi : 0 ≤ i) (hi2 : i ≤ 1000) (hlt : (s : Rat) < T) (hle : T ≤ ((s + v : Int) : Rat)) (hv2 : v ≤ 20) :
    1 ≤ v ∧ 0 ≤ (T - (s : Rat)).num ∧ (T - (s : Rat)).num ≤ 4000000000000000000 ∧ (T - (s : Rat)).den ≤ 1000000000000 ∧ SumQ (i : Rat) ((T - (s : Rat)) / (v : Rat)) := by
  have hv : 1 ≤ v := by
    have h : (s : Rat) < ((s + v : Int) : Rat) := by grind
    have := Rat.intCast_lt_intCast.1 h
    omega
  have e : ((s + v : Int) : Rat) = (s : Rat) + (v : Rat) := Rat.intCast_add s v
  have hd : (T - (s : Rat)).den ≤ 100000000 := by
    have := Fl.den_sub_le T (s : Rat)
    rw [Rat.den_intCast, Nat.mul_one] at this
    have := hT.d
    omega
  have s0 : (0 : Rat) ≤ (s : Rat) := by exact_mod_cast hs
  have t1 := hT.t1
  have x1 : T - (s : Rat) ≤ ((6820 : Nat) : Rat) := by
    have e1 : ((6820 : Nat) : Rat) = 6820 := rfl
    grind
  have n0 : 0 ≤ (T - (s : Rat)).num := Fl.num_nonneg (by grind)
  have n1 := Fl.num_le x1
  have vr : (0 : Rat) < (v : Rat) := by exact_mod_cast (show (0 : Int) < v by omega)
  have q0 : 0 ≤ (T - (s : Rat)) / (v : Rat) := by
    rw [Rat.div_def]
    exact Rat.mul_nonneg (by grind) (Rat.le_of_lt (Rat.inv_pos.2 vr))
  have q1 : (T - (s : Rat)) / (v : Rat) ≤ ((1 : Nat) : Rat) := by
    have h1 : (T - (s : Rat)) / (v : Rat) * (v : Rat) = T - (s : Rat) := Rat.div_mul_cancel (by grind)
    have e1 : ((1 : Nat) : Rat) = 1 := rfl
    rw [e1]
    refine Rat.not_lt.1 fun hgt => ?_
    have := Rat.mul_lt_mul_of_pos_right hgt vr
    grind
  have qd : ((T - (s : Rat)) / (v : Rat)).den ≤ 2000000000 := by
    rw [← div_q _ v (by omega)]
    have hp : 0 < ((T - (s : Rat)).den : Int) * v := Int.mul_pos (by have := (T - (s : Rat)).den_pos; omega) (by omega)
    have h2 : ((T - (s : Rat)).den : Int) * v ≤ 100000000 * 20 := Int.mul_le_mul (by omega) hv2 (by omega) (by omega)
    have := mk_den_le (n := (T - (s : Rat)).num) (d := (((T - (s : Rat)).den : Int) * v).toNat) (by omega)
    omega
  have i0 : (0 : Rat) ≤ (i : Rat) := by exact_mod_cast hi
  have i1 : (i : Rat) ≤ ((1000 : Nat) : Rat) := by
    have : (i : Rat) ≤ ((1000 : Int) : Rat) := Rat.intCast_le_intCast.2 hi2
    exact this
  exact ⟨hv, n0, by omega, by omega, sumQ_of i0 q0 1000 1 i1 q1 2000000000 (by rw [Rat.den_intCast, Nat.one_mul]; exact qd) (by omega) (by omega) (by omega)⟩
set_option maxRecDepth 100000 in
set_option maxHeartbeats 8000000 in
theorem rreach6_any (u : List Int) (a wt : Rat) (ao : Option Addr) (cap : Nat) (w : World) (hI : Ints w ao u) (hu : UnitsOk u) (ha : PlaceU u.length a) (hw : WantU6 wt) :
    Calls Try.prog 82 #[.slice ao u.length cap, Fr a, Fr wt] w fun e w' => e = .returned (.tuple #[optFr (Fl.reachR u a wt), .bool (Fl.reachR u a wt).isSome]) ∧ Below w.heap.size w w' := by
  obtain ⟨hK, hS⟩ := want_known6 hu ha hw
  obtain ⟨R, hR⟩ : ∃ r, Fl.reachR u a wt = r := ⟨_, rfl⟩
  rw [hR]
  unfold Fl.reachR at hR
  have hB := below_alloc3 w (.cells #[.int .i64 a.num, .int .i64 a.den] 29) (.cells #[.int .i64 wt.num, .int .i64 wt.den] 29) (.cells #[.int .i64 0, .int .i64 0] 29)
  have A2 := heap_alloc3_all w (.cells #[.int .i64 a.num, .int .i64 a.den] 29) (.cells #[.int .i64 wt.num, .int .i64 wt.den] 29) (.cells #[.int .i64 0, .int .i64 0] 29)
  have HI0 := Lib.hid hI
  replace hI := hI.below hB
  have HA := Lib.hid (And.intro hB A2)
  clear hB A2
  by_cases hpos : wt.num ≤ 0
  · rw [if_pos hpos] at hR
    subst hR
    go_enter Try.func82, Try.ntmps82
    go_wp2_with fail
    exact bodyPost_ret (results_cell_tmp rfl _ _ _ _ _ _ _ rfl (heap_alloc3_all w _ _ _).2.2 Try.underlying29 rfl infoRat2) rfl ⟨rfl, below_alloc3 w _ _ _⟩
  · rw [if_neg hpos] at hR
    have hT0 : Hid (0 < Fl.before u a + wt ∧ (((0 : Int) : Rat)) < Fl.before u a + wt) := Lib.hid (by
      obtain ⟨b0, -, -⟩ := before_bound hu ha
      have h1 : 0 < wt := by
        have h2 : ¬ wt ≤ 0 := fun h => by
          have := (Rat.le_iff wt 0).mp h
          simp at this
          omega
        grind
      have e0 : ((0 : Int) : Rat) = 0 := rfl
      exact ⟨by grind, by rw [e0]; grind⟩)
    obtain ⟨T, hT⟩ : ∃ t, Fl.before u a + wt = t := ⟨_, rfl⟩
    rw [hT] at hR hK hT0
    have HT := Lib.hid hT
    have HR := Lib.hid hR
    have HU := Lib.hid hu
    have hul := hu.l
    clear hT hR hu
    go_enter Try.func82, Try.ntmps82
    go_wp2_with fail
    obtain ⟨hB, r4, r5, r6⟩ := HA.out
    clear HA
    generalize (((w.alloc (.cells #[.int .i64 a.num, .int .i64 a.den] 29)).alloc (.cells #[.int .i64 wt.num, .int .i64 wt.den] 29)).alloc (.cells #[.int .i64 0, .int .i64 0] 29)) = wx at hB r4 r5 r6 hI ⊢
    have hI1 : Ints wx.drew ao u := ⟨hI.cells⟩
    have hI2 : Ints (wx.alloc (.cells #[.int .i64 0, .int .i64 0] 29)).drew ao u := ⟨(hI.below ((Below.refl _ wx).alloc (Nat.le_refl _) (.cells #[.int .i64 0, .int .i64 0] 29))).cells⟩
    obtain ⟨⟨a0, a1⟩, -, -⟩ := row_fr r4
    obtain ⟨⟨b0, b1⟩, -, -⟩ := row_fr r5
    have hlx := heap_lt r6
    go_upto_region 4 with fail
    go_cut [8] from 11 (fun p8 wc => ∃ g : Nat, p8 = .pointer (some ⟨g, 0, none⟩) ∧ w.heap.size + 2 < g ∧ wc.heap[g]? = some (.cells #[.int .i64 T.num, .int .i64 T.den] 29 (0, 0)) ∧ wc.heap[w.heap.size + 1 + 1]? = some (.cells #[.int .i64 0, .int .i64 0] 29 (0, 0)) ∧ Below w.heap.size w wc)
    case first =>
      go_region_held3 (fun w' => w'.cell? ⟨w.heap.size, 0, none⟩ = some (.int .i64 a.num) ∧ w'.cell? ⟨w.heap.size, 1, none⟩ = some (.int .i64 a.den) ∧ w'.cell? ⟨w.heap.size + 1, 0, none⟩ = some (.int .i64 wt.num) ∧ w'.cell? ⟨w.heap.size + 1, 1, none⟩ = some (.int .i64 wt.den))
        (first | exact ⟨a0, a1, b0, b1⟩ | exact ka | exact kb | exact ⟨cell_two_other _ _ (by omega) kb.1, cell_two_other _ _ (by omega) kb.2.1, cell_two_other _ _ (by omega) kb.2.2.1, cell_two_other _ _ (by omega) kb.2.2.2⟩ | go_keep)
        (first
          | (go_at_call 103; (first | ((with_reducible refine (rbefore_any u a ao cap _ hI1 HU.out ha).mono ?_); rintro e w1 ⟨rfl, hb1⟩; have hk1 : Below wx.heap.size wx w1 := (below_drewN (Below.refl _ wx) 1).trans hb1) | ((with_reducible refine (rbefore_any u a ao cap _ hI2 HU.out ha).mono ?_); rintro e w1 ⟨rfl, hb1⟩; have hk1 : Below wx.heap.size wx w1 := (below_drewN ((Below.refl _ wx).alloc (Nat.le_refl _) _) 1).trans (hb1.mono (by simp)); have rg := heap_keep hb1 (heap_alloc_new wx (.cells #[.int .i64 0, .int .i64 0] 29)))); have hl1 : wx.heap.size ≤ w1.heap.size := hk1.size; have ka := And.intro (keep_cell hk1 a0) (And.intro (keep_cell hk1 a1) (And.intro (keep_cell hk1 b0) (keep_cell hk1 b1))))
          | (go_at_call 39; refine (radd_q _ _ _ hS).mono ?_; rintro e w2 ⟨rfl, hb2⟩; have hkk : Below w1.heap.size w1 w2 := (by first | exact hb2 | exact ((Below.refl _ w1).alloc (Nat.le_refl _) _).trans (hb2.mono (by simp))); have kb := And.intro (keep_cell hkk ka.1) (And.intro (keep_cell hkk ka.2.1) (And.intro (keep_cell hkk ka.2.2.1) (keep_cell hkk ka.2.2.2))); (first | (have rg2 := heap_keep hb2 rg; obtain ⟨⟨d0, d1⟩, f0, f1⟩ := row_fr rg2) | (have rg := heap_keep hb2 (heap_alloc_new w1 (.cells #[.int .i64 0, .int .i64 0] 29)); obtain ⟨⟨d0, d1⟩, f0, f1⟩ := row_fr rg) | skip); rw [HT.out]))
      all_goals go_wp2_with fail
      all_goals go_meet
      all_goals
        have hBB : Below w.heap.size w w2 := (hB.trans (hk1.mono hB.size)).trans (hkk.mono (hB.trans (hk1.mono hB.size)).size)
        have r66 := heap_keep hkk (heap_keep hk1 r6)
        have hl2 := hkk.size
        first
          | exact ⟨_, rfl, by omega, two_cells rg2 _ _, heap_two_other _ _ (by omega) r66, below_setCell (below_setCell hBB (by omega) _) (by omega) _⟩
          | exact ⟨_, rfl, by omega, two_cells rg _ _, heap_two_other _ _ (by omega) r66, below_setCell (below_setCell hBB (by omega) _) (by omega) _⟩
          | exact ⟨_, rfl, by omega, heap_alloc_new w2 _, (heap_alloc_old _ _ (by omega)).trans r66, hBB.alloc (by omega) _⟩
    case rest =>
      obtain ⟨g, rfl, hg, rT, r6, hB⟩ := hcut
      clear hlx r4 r5 a0 a1 b0 b1 hI1 hI2 hI hS
      go_wp2
      go_loopw [9, 10] (fun sv i wr => ∃ k : Nat, k ≤ u.length ∧ i = .int .i64 k ∧ sv = .int .i64 (Fl.sumI (u.take k)) ∧ Hid (Fl.reachF (Fl.sumI (u.take k)) k (u.drop k) T = R ∧ ((Fl.sumI (u.take k) : Int) : Rat) < T) ∧ wr.heap[g]? = some (.cells #[.int .i64 T.num, .int .i64 T.den] 29 (0, 0)) ∧ wr.heap[w.heap.size + 1 + 1]? = some (.cells #[.int .i64 0, .int .i64 0] 29 (0, 0)) ∧ Below w.heap.size w wr) (fun _ i _ => u.length - (intOf i).toNat)
      case atStart => exact ⟨0, Nat.zero_le _, rfl, rfl, Lib.hid ⟨HR.out, hT0.out.2⟩, rT, r6, hB⟩
      case round =>
        clear rT r6 hB
        obtain ⟨k, hk, rfl, rfl, hst, rT, r6, hB⟩ := hrel
        have h1 := HU.out.s k
        have h2 := HU.out.v k
        by_cases hlt : k < u.length
        · obtain ⟨b, off, rfl, hbs, hc⟩ := HI0.out.at hlt
          replace hc := keep_cell hB hc
          have hdrop := reachF_drop (T := T) hlt
          have hhere := reachF_here (T := T) hlt
          have hstep := Fl.sumI_take hlt
          obtain ⟨y, hy⟩ : ∃ x, x = u.getD k 0 := ⟨_, rfl⟩
          obtain ⟨s, hs⟩ : ∃ x, x = Fl.sumI (u.take k) := ⟨_, rfl⟩
          rw [← hs, ← hy] at hdrop hhere
          rw [← hs] at h1 hst hstep ⊢
          rw [← hy] at hc h2 hstep
          obtain ⟨z, hz⟩ : ∃ z, z = s + y := ⟨_, rfl⟩
          rw [← hz] at hdrop hhere hstep
          have hz2 : s ≤ z ∧ z ≤ s + 20 := by omega
          have Hz := Lib.hid hz
          have Hstep := Lib.hid hstep
          have Hdrop := Lib.hid hdrop
          have Hhere := Lib.hid hhere
          clear hy hs hstep hdrop hhere
          have hLess : SumQ (z : Rat) T := less_want6 (by omega) (by omega) hK
          have i1 : (k : Int) < (u.length : Int) := by omega
          have x1 : IntKind.i64.wrap (s + y) = s + y := IntWalk.i64_in _ (by omega)
          clear hz
          obtain ⟨⟨t0, t1⟩, -, -⟩ := row_fr rT
          have hwr : g < wr.heap.size := heap_lt rT
          go_wp2_with fail
          go_region_held3 (fun w' => w'.cell? ⟨b, off + k, none⟩ = some (.int .i64 y) ∧ w'.cell? ⟨g, 0, none⟩ = some (.int .i64 T.num) ∧ w'.cell? ⟨g, 1, none⟩ = some (.int .i64 T.den))
            (first | exact ⟨hc, t0, t1⟩ | exact ka | exact kb)
            (first
              | (go_at_call 40; rw [← Hz.out]; refine (rwhole_any z _).mono ?_; rintro e w1 ⟨rfl, hb1⟩; have ka := And.intro (keep_cell hb1 hc) (And.intro (keep_cell hb1 t0) (keep_cell hb1 t1)))
              | (go_at_call 36; refine (rless_q _ _ _ hLess).mono ?_; rintro e w2 ⟨rfl, hb2⟩; have kb := And.intro (keep_cell hb2 ka.1) (And.intro (keep_cell hb2 ka.2.1) (keep_cell hb2 ka.2.2)); replace hB := (below_drewN hB 1).trans (hb1.mono (by have := hB.size; exact this)); replace hB := hB.trans (hb2.mono hB.size); replace rT := heap_keep hb2 (heap_keep hb1 rT); replace r6 := heap_keep hb2 (heap_keep hb1 r6)))
          clear hc t0 t1 ka hb1 hb2
          obtain ⟨hc, t0, t1⟩ := kb
          obtain ⟨bv, hbv⟩ : ∃ v, decide ((z : Rat) < T) = v := ⟨_, rfl⟩
          rw [hbv]
          cases bv with
          | true =>
            have hnle : ¬ T ≤ (z : Rat) := by have := of_decide_eq_true hbv; grind
            have hnew : Hid (Fl.reachF (Fl.sumI (u.take (k + 1))) ((k + 1 : Nat) : Int) (u.drop (k + 1)) T = R ∧ ((Fl.sumI (u.take (k + 1)) : Int) : Rat) < T) := Lib.hid ⟨(Hdrop.out hnle).symm.trans hst.out.1, by rw [Hstep.out]; exact of_decide_eq_true hbv⟩
            clear hbv hnle
            go_wp2
            go_roundw
            case rel => exact ⟨k + 1, by omega, by go_num, by rw [Hstep.out, Hz.out], hnew, rT, r6, hB⟩
            case measure => simp [intOf]; omega
          | false =>
            have hle : T ≤ (z : Rat) := by have := of_decide_eq_false hbv; grind
            obtain ⟨f1, f2, f3, f4, f5⟩ := found6 (i := (k : Int)) (by omega) (by omega) hK (by omega) (by omega) hst.out.2 (by rw [← Hz.out]; exact hle) h2.2
            have hR1 : Hid (some (((k : Int) : Rat) + (T - (s : Rat)) / (y : Rat)) = R) := Lib.hid ((Hhere.out hle).symm.trans hst.out.1)
            obtain ⟨V, hV⟩ : ∃ v, v = ((k : Int) : Rat) + (T - (s : Rat)) / (y : Rat) := ⟨_, rfl⟩
            rw [← hV] at hR1
            have HV := Lib.hid hV
            have hSub := sub_want6 (s := s) (by omega) (by omega) hK
            clear hbv hle hV
            go_wp2_with fail
            have hbg : b ≠ w.heap.size + 1 + 1 := by omega
            go_region_held3 (fun w' => w'.cell? ⟨b, off + k, none⟩ = some (.int .i64 y) ∧ w'.cell? ⟨g, 0, none⟩ = some (.int .i64 T.num) ∧ w'.cell? ⟨g, 1, none⟩ = some (.int .i64 T.den))
              (first | exact ⟨hc, t0, t1⟩ | exact ⟨cell_two_other _ _ hbg ke.1, cell_two_other _ _ (by omega) ke.2.1, cell_two_other _ _ (by omega) ke.2.2⟩ | exact ka | exact kb | exact kc | exact kd | exact ke)
              (first
                | (go_at_call_of 40 (s); refine (rwhole_any s _).mono ?_; rintro e w4 ⟨rfl, hb4⟩; have kb := And.intro (keep_cell hb4 ka.1) (And.intro (keep_cell hb4 ka.2.1) (keep_cell hb4 ka.2.2)))
                | (go_at_call 40; refine (rwhole_any (k : Int) _).mono ?_; rintro e w3 ⟨rfl, hb3⟩; have ka := And.intro (keep_cell hb3 hc) (And.intro (keep_cell hb3 t0) (keep_cell hb3 t1)))
                | (go_at_call 88; refine (rsub_q _ _ _ hSub).mono ?_; rintro e w5 ⟨rfl, hb5⟩; have kc := And.intro (keep_cell hb5 kb.1) (And.intro (keep_cell hb5 kb.2.1) (keep_cell hb5 kb.2.2)))
                | (go_at_call 139; refine (rover_any _ y _ f2 f3 f1 (by omega) f4).mono ?_; rintro e w6 ⟨rfl, hb6⟩; have kd := And.intro (keep_cell hb6 kc.1) (And.intro (keep_cell hb6 kc.2.1) (keep_cell hb6 kc.2.2)))
                | (go_at_call 39; refine (radd_q _ _ _ f5).mono ?_; rintro e w7 ⟨rfl, hb7⟩; have ke := And.intro (keep_cell hb7 kd.1) (And.intro (keep_cell hb7 kd.2.1) (keep_cell hb7 kd.2.2)); replace hB := (below_drewN hB 1).trans (hb3.mono (by have := hB.size; exact this)); replace hB := hB.trans (hb4.mono hB.size); replace hB := hB.trans (hb5.mono hB.size); replace hB := hB.trans (hb6.mono hB.size); replace hB := hB.trans (hb7.mono hB.size); replace r6 := heap_keep hb7 (heap_keep hb6 (heap_keep hb5 (heap_keep hb4 (heap_keep hb3 r6)))); obtain ⟨⟨d0, d1⟩, e0, e1⟩ := row_fr r6; rw [← HV.out]))
            go_wp2
            rw [← hR1.out]
            exact bodyPost_ret (results_cell_tmp rfl _ _ _ _ _ _ _ rfl (two_cells r6 (.int .i64 V.num) (.int .i64 V.den)) Try.underlying29 rfl infoRat2) rfl ⟨rfl, below_setCell (below_setCell hB (by omega) _) (by omega) _⟩
        · have hke : k = u.length := by omega
          have hRn : Hid (none = R) := Lib.hid (by
            have := hst.out.1
            rw [hke, List.drop_length] at this
            exact this)
          clear hke
          obtain ⟨⟨d0, d1⟩, e0, e1⟩ := row_fr r6
          go_wp2
          rw [← hRn.out]
          exact bodyPost_ret (results_cell_tmp rfl _ _ _ _ _ _ _ rfl (two_cells r6 (.int .i64 0) (.int .i64 0)) Try.underlying29 rfl infoRat2) rfl ⟨rfl, below_setCell (below_setCell hB (by omega) _) (by omega) _⟩
end Go.Proofs.Ytemlfklipkpacaa
