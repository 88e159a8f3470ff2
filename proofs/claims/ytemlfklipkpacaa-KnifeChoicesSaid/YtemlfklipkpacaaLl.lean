import Derived.Test.YtemlfklipkpacaaLk
import Derived.Test.YtemlfklipkpacaaLd
/- The reference of package knife: all, end, mark and call. -/
namespace Go.Proofs.Ytemlfklipkpacaa
open Go.RowKit

set_option maxRecDepth 100000 in
set_option maxHeartbeats 4000000 in
theorem sall_any (L : List Int) (V : List (List Int)) (o : Nat) (aoL : Option Addr) (nL cL : Nat) (aoV : Option Addr) (nV cV : Nat) (w : World) (hf : Fld w aoL nL aoV nV L V) (hok : Kn.Ok L V) (ho : o < V.length) :
    Calls Try.prog 105 #[.agg #[.slice aoL nL cL, .slice aoV nV cV], .int .i64 o] w fun e w' => e = .returned (.int .i64 (Fl.tot (Kn.Z L V o))) ∧ Below w.heap.size w w' := by
  have hzo := hok.zOk ho
  have HT := Lib.hid (Fl.units_sum hzo)
  have hul := units_take_len hzo (by rw [hok.zLen ho]; exact hok.l6) (Kn.Z L V o).length
  rw [List.take_length] at hul
  have hA := (Below.refl _ w).alloc (Nat.le_refl _) (.cells #[.slice aoL nL cL, .slice aoV nV cV] 57)
  have rf := heap_alloc_new w (.cells #[.slice aoL nL cL, .slice aoV nV cV] 57)
  go_enter Try.func105, Try.ntmps105
  go_upto_region 1 with fail
  generalize w.alloc (.cells #[.slice aoL nL cL, .slice aoV nV cV] 57) = W0 at hA rf ⊢
  obtain ⟨⟨c0, c1⟩, -, -⟩ := row_fr rf
  go_wp2_with fail
  refine (sunits_any L V o _ _ _ _ _ _ W0 (hf.below hA) hok ho).mono ?_
  rintro e w1 ⟨ao2, cap2, rfl, hI, hb1⟩
  replace hb1 := hA.trans (hb1.mono hA.size)
  obtain ⟨U, hU⟩ : ∃ u, u = Fl.units (Kn.Z L V o) := ⟨_, rfl⟩
  have hUb := fun k => Fl.units_pre hzo k
  have hUa := fun k => Fl.units_at hzo k
  rw [← hU] at hI HT hul hUb hUa ⊢
  have HUb := Lib.hid (And.intro hUb hUa)
  clear hU hUb hUa rf c0 c1 hA
  go_wp2
  go_loopw [5, 7] (fun s i wr => ∃ k : Nat, k ≤ U.length ∧ i = .int .i64 k ∧ s = .int .i64 (Fl.sumI (U.take k)) ∧ Below w.heap.size w wr ∧ Ints wr ao2 U) (fun _ i _ => U.length - (intOf i).toNat)
  case atStart => exact ⟨0, Nat.zero_le _, rfl, rfl, hb1, hI⟩
  case round =>
    clear hb1 hI
    obtain ⟨k, hk, rfl, rfl, hb, hI⟩ := hrel
    by_cases hlt : k < U.length
    · obtain ⟨b, off, rfl, hbs, hc⟩ := hI.at hlt
      have h1 := HUb.out.1 k
      have h2 := HUb.out.2 k
      have hst := Lib.hid (Fl.sumI_take hlt)
      obtain ⟨x, hx⟩ : ∃ x, x = U.getD k 0 := ⟨_, rfl⟩
      obtain ⟨s, hs⟩ : ∃ x, x = Fl.sumI (U.take k) := ⟨_, rfl⟩
      rw [← hx] at hc h2 hst
      rw [← hs] at h1 hst ⊢
      clear hx hs
      have i1 : (k : Int) < (U.length : Int) := by omega
      have HI := Lib.hid hI
      clear hI
      go_wp2
      go_roundw
      case rel => exact ⟨k + 1, by omega, by go_num, by rw [hst.out], hb, HI.out⟩
      case measure => simp [intOf]; omega
    · have hk2 : k = U.length := by omega
      have Hk := Lib.hid hk2
      clear hk2
      go_wp2
      go_ret
      exact ⟨ret_int (by rw [Hk.out, List.take_length, HT.out]), hb⟩

set_option maxRecDepth 100000 in
set_option maxHeartbeats 4000000 in
theorem send_any (L : List Int) (V : List (List Int)) (aoL : Option Addr) (nL cL : Nat) (aoV : Option Addr) (nV cV : Nat) (w : World) (hf : Fld w aoL nL aoV nV L V) (hok : Kn.Ok L V) :
    Calls Try.prog 93 #[.agg #[.slice aoL nL cL, .slice aoV nV cV]] w fun e w' => e = .returned (.agg #[.int .i64 (Kn.stop L), .int .i64 1]) ∧ Below w.heap.size w w' := by
  have hzs := hok.zStop (o := 0) hok.v1
  have hul := Fl.units_length (hok.zOk (o := 0) hok.v1)
  have hLs : Hid (((Fl.units (Kn.Z L V 0)).length : Int) = Kn.stop L) := Lib.hid (by rw [hul, hzs])
  clear hul hzs
  have hA := below_alloc2 w (.cells #[.slice aoL nL cL, .slice aoV nV cV] 57) (.cells #[.int .i64 0, .int .i64 0] 29)
  have rf := heap_alloc2_old w (.cells #[.slice aoL nL cL, .slice aoV nV cV] 57) (.cells #[.int .i64 0, .int .i64 0] 29)
  have rr := heap_alloc2_new w (.cells #[.slice aoL nL cL, .slice aoV nV cV] 57) (.cells #[.int .i64 0, .int .i64 0] 29)
  go_enter Try.func93, Try.ntmps93
  go_upto_region 1 with fail
  generalize (w.alloc (.cells #[.slice aoL nL cL, .slice aoV nV cV] 57)).alloc (.cells #[.int .i64 0, .int .i64 0] 29) = W0 at hA rf rr ⊢
  obtain ⟨G, hG⟩ : ∃ g, g = w.heap.size := ⟨_, rfl⟩
  rw [← hG] at rf rr ⊢
  have HG := Lib.hid hG
  clear hG
  obtain ⟨⟨x0, x1⟩, -, -⟩ := row_fr rf
  go_wp2_with fail
  refine (sunits_any L V 0 _ _ _ _ _ _ W0 (hf.below hA) hok hok.v1).mono ?_
  rintro e w1 ⟨ao2, cap2, rfl, hI, hb1⟩
  replace rr := heap_keep hb1 rr
  replace hA := hA.trans (hb1.mono hA.size)
  clear hb1 x0 x1
  generalize (Fl.units (Kn.Z L V 0)).length = nu at hLs ⊢
  go_wp2_with fail
  refine (rwhole_any (nu : Int) _).mono ?_
  rintro e w2 ⟨rfl, hb1⟩
  replace rr := heap_keep hb1 rr
  replace hA := hA.trans (hb1.mono hA.size)
  clear hb1
  obtain ⟨⟨r0, r1⟩, s0, s1⟩ := row_fr rr
  go_wp2_with fail
  rw [← hLs.out]
  exact bodyPost_ret (results_cell_row rfl _ _ _ _ _ _ _ rfl (two_cells rr (.int .i64 (nu : Int)) (.int .i64 1)) Try.underlying29 rfl infoRat2) rfl ⟨rfl, below_setCell (below_setCell hA (by have := HG.out; omega) _) (by have := HG.out; omega) _⟩

/-- Up to which place a piece has a part; T is the worth of all. -/
theorem smk_facts {T num den : Int} (hT : 0 ≤ T) (hT2 : T ≤ 2400) (h0 : 0 ≤ num) (h1 : num ≤ den) (h2 : 1 ≤ den) (h3 : den ≤ 100) : WantU6 (mkRat (num * T) den.toNat) := by
  rw [Int.mul_comm]
  obtain ⟨f0, f1, f2⟩ := mk_facts hT hT2 h0 h1 h2 h3
  have e : ((2400 : Int) : Rat) ≤ ((4000 : Nat) : Rat) := by
    have : ((2400 : Int) : Rat) ≤ ((4000 : Int) : Rat) := Rat.intCast_le_intCast.2 (by omega)
    exact this
  exact ⟨f0, Rat.le_trans f1 e, by omega⟩

set_option maxRecDepth 100000 in
set_option maxHeartbeats 8000000 in
theorem smark_any (L : List Int) (V : List (List Int)) (o : Nat) (a : Rat) (num den : Int) (aoL : Option Addr) (nL cL : Nat) (aoV : Option Addr) (nV cV : Nat) (w : World) (hf : Fld w aoL nL aoV nV L V) (hok : Kn.Ok L V) (ho : o < V.length) (ha : KFrom a) (ha2 : a ≤ (Kn.stop L : Rat)) (h0 : 0 ≤ num) (h1 : num ≤ den) (h2 : 1 ≤ den) (h3 : den ≤ 100) :
    Calls Try.prog 102 #[.agg #[.slice aoL nL cL, .slice aoV nV cV], .int .i64 o, Fr a, .int .i64 num, .int .i64 den] w fun e w' => e = .returned (.tuple #[optFr (Fl.placeK (Kn.Z L V o) a (mkRat (Fl.tot (Kn.Z L V o) * num) den.toNat)), .bool (Fl.placeK (Kn.Z L V o) a (mkRat (Fl.tot (Kn.Z L V o) * num) den.toNat)).isSome]) ∧ Below w.heap.size w w' := by
  have hzo := hok.zOk ho
  have hzs := hok.zStop ho
  have hT := Fl.tot_bound hzo
  have hzl := hok.zLen ho
  have hl6 := hok.l6
  have hT0 := hT.1
  have hT2 : Fl.tot (Kn.Z L V o) ≤ 2400 := by omega
  clear hT
  have hu : UnitsOk (Fl.units (Kn.Z L V o)) := unitsOk_of hzo (by omega)
  have hpu : PlaceU (Fl.units (Kn.Z L V o)).length a := ⟨ha.a0, by rw [Fl.units_length hzo, hzs]; exact ha2, by have := ha.ad; omega⟩
  obtain ⟨T, hTe⟩ : ∃ t, t = Fl.tot (Kn.Z L V o) := ⟨_, rfl⟩
  have hSA := fun w' (hb : Below w.heap.size w w') => sall_any L V o aoL nL cL aoV nV cV w' (hf.below hb) hok ho
  rw [← hTe] at hT0 hT2 hSA ⊢
  clear hTe
  have hW := smk_facts hT0 hT2 h0 h1 h2 h3
  have hPR := placeK_reach hzo ha.a0 (by rw [hzs]; exact ha2) hW.w0
  have m0 : 0 ≤ num * T := Int.mul_nonneg h0 hT0
  have m1 : num * T ≤ 100 * 2400 := Int.mul_le_mul (by omega) hT2 hT0 (by omega)
  have e1 : IntKind.i64.wrap (num * T) = num * T := IntWalk.i64_in _ (by omega)
  obtain ⟨d, rfl⟩ := Int.eq_ofNat_of_zero_le (show 0 ≤ den by omega)
  rw [Int.toNat_natCast] at hW hPR ⊢
  rw [Int.mul_comm T num, hPR]
  have hRt := fun w' => ratio_any (num * T) d w' (by omega) (by omega) (by omega) (by omega)
  obtain ⟨W, hWe⟩ : ∃ q, q = mkRat (num * T) d := ⟨_, rfl⟩
  rw [← hWe] at hW hRt ⊢
  have hRe := fun w' ao cap (hI : Ints w' ao (Fl.units (Kn.Z L V o))) => rreach6_any (Fl.units (Kn.Z L V o)) a W ao cap w' hI hu hpu hW
  obtain ⟨R, hR⟩ : ∃ r, r = Fl.reachR (Fl.units (Kn.Z L V o)) a W := ⟨_, rfl⟩
  rw [← hR] at hRe ⊢
  obtain ⟨x, y, hxy⟩ := optFr_pair R
  rw [hxy] at hRe ⊢
  generalize R.isSome = bv at hRe ⊢
  have hSU := fun w' (hb : Below w.heap.size w w') => sunits_any L V o aoL nL cL aoV nV cV w' (hf.below hb) hok ho
  generalize Fl.units (Kn.Z L V o) = U at hRe hSU hpu hu hPR hR
  have HRe := Lib.hid hRe
  have HRt := Lib.hid hRt
  have HSA := Lib.hid hSA
  have HSU := Lib.hid hSU
  clear hRe hRt hSA hSU hR hxy hWe hPR hpu hu hW hzo hzs hzl
  have hA := below_alloc3 w (.cells #[.slice aoL nL cL, .slice aoV nV cV] 57) (.cells #[.int .i64 a.num, .int .i64 a.den] 29) (.cells #[.int .i64 0, .int .i64 0] 29)
  have e8 := heap_alloc3_all w (.cells #[.slice aoL nL cL, .slice aoV nV cV] 57) (.cells #[.int .i64 a.num, .int .i64 a.den] 29) (.cells #[.int .i64 0, .int .i64 0] 29)
  obtain ⟨rf, ra, rr⟩ := e8
  go_enter Try.func102, Try.ntmps102
  go_upto_region 1 with fail
  generalize ((w.alloc (.cells #[.slice aoL nL cL, .slice aoV nV cV] 57)).alloc (.cells #[.int .i64 a.num, .int .i64 a.den] 29)).alloc (.cells #[.int .i64 0, .int .i64 0] 29) = W1 at hA rf ra rr ⊢
  obtain ⟨⟨f0, f1⟩, -, -⟩ := row_fr rf
  obtain ⟨⟨c0, c1⟩, -, -⟩ := row_fr ra
  have hs1 : w.heap.size + 1 + 1 < W1.heap.size := heap_lt rr
  go_region_held3 (fun w' => w'.cell? ⟨w.heap.size, 0, none⟩ = some (.slice aoL nL cL) ∧ w'.cell? ⟨w.heap.size, 1, none⟩ = some (.slice aoV nV cV) ∧ w'.cell? ⟨w.heap.size + 1, 0, none⟩ = some (.int .i64 a.num) ∧ w'.cell? ⟨w.heap.size + 1, 1, none⟩ = some (.int .i64 a.den))
    (first | exact ⟨f0, f1, c0, c1⟩ | exact ⟨cell_two_other _ _ (by omega) kd.1, cell_two_other _ _ (by omega) kd.2.1, cell_two_other _ _ (by omega) kd.2.2.1, cell_two_other _ _ (by omega) kd.2.2.2⟩ | exact kd | exact kc | exact kb | exact ka)
    (first
      | (go_at_call 104; refine (HSU.out _ (below_drewN hA 1)).mono ?_; rintro e w2 ⟨ao2, cap2, rfl, hI2, hb2⟩; have ka := And.intro (keep_cell hb2 f0) (And.intro (keep_cell hb2 f1) (And.intro (keep_cell hb2 c0) (keep_cell hb2 c1))))
      | (go_at_call 105; refine (HSA.out _ ((below_drewN hA 1).trans (hb2.mono (below_drewN hA 1).size))).mono ?_; rintro e w3 ⟨rfl, hb3⟩; have kb := And.intro (keep_cell hb3 ka.1) (And.intro (keep_cell hb3 ka.2.1) (And.intro (keep_cell hb3 ka.2.2.1) (keep_cell hb3 ka.2.2.2))))
      | (go_at_call 70; refine (HRt.out _).mono ?_; rintro e w4 ⟨rfl, hb4⟩; have kc := And.intro (keep_cell hb4 kb.1) (And.intro (keep_cell hb4 kb.2.1) (And.intro (keep_cell hb4 kb.2.2.1) (keep_cell hb4 kb.2.2.2))))
      | (go_at_call 82; refine (HRe.out _ _ _ ((hI2.below hb3).below hb4)).mono ?_; rintro e w5 ⟨rfl, hb5⟩; have kd := And.intro (keep_cell hb5 kc.1) (And.intro (keep_cell hb5 kc.2.1) (And.intro (keep_cell hb5 kc.2.2.1) (keep_cell hb5 kc.2.2.2))); have rr5 := heap_keep hb5 (heap_keep hb4 (heap_keep hb3 (heap_keep hb2 rr))); obtain ⟨⟨z0, z1⟩, y0, y1⟩ := row_fr rr5))
  have hB1 := below_drewN hA 1
  have hB2 := hB1.trans (hb2.mono hB1.size)
  have hB3 := hB2.trans (hb3.mono hB2.size)
  have hB4 := hB3.trans (hb4.mono hB3.size)
  have hB5 := hB4.trans (hb5.mono hB4.size)
  go_wp2
  exact bodyPost_ret (results_cell_tmp rfl _ _ _ _ _ _ _ rfl (two_cells rr5 (.int .i64 x) (.int .i64 y)) Try.underlying29 rfl infoRat2) rfl ⟨rfl, below_setCell (below_setCell hB5 (by omega) _) (by omega) _⟩
end Go.Proofs.Ytemlfklipkpacaa
