import Derived.Test.YtemlfklipkpacaaKg
import Derived.Test.YtemlfklipkpacaaB5
/- The smallest place up to which a land of package knife has a worth. -/
namespace Go.Proofs.Ytemlfklipkpacaa
open Go.RowKit

theorem krun_eq_fr0 (x : Rat) (w : World) : (binOp BinOp.eql 124 (.agg #[.int .i64 x.num, .int .i64 x.den]) (.agg #[.int .i64 0, .int .i64 1])).run Try.prog w = .ok (.bool (decide (x = 0))) w := by
  have key : x = 0 ↔ x.num = 0 ∧ (x.den : Int) = 1 := by
    constructor
    · rintro rfl; exact ⟨rfl, rfl⟩
    · rintro ⟨h1, h2⟩; exact Rat.num_eq_zero.1 h1
  by_cases e1 : x.num = 0
  · by_cases e2 : (x.den : Int) = 1
    · have : x = 0 := key.2 ⟨e1, e2⟩
      simp [this, go_sem]
    · have : ¬ x = 0 := fun h => e2 (key.1 h).2
      have e2' : ¬ x.den = 1 := by omega
      simp [e1, e2, this, go_sem]
  · have : ¬ x = 0 := fun h => e1 (key.1 h).1
    simp [e1, this, go_sem]
theorem kwhole0_any (w : World) : Calls Try.prog 124 #[.int .i64 0] w fun e w' => e = .returned (.agg #[.int .i64 0, .int .i64 1]) ∧ Below w.heap.size w w' := kwhole_any 0 w
/-- What holds after some of the operations of a region, in whatever order. -/
def kSP6 (W0 : World) (p0 p1 p2 p3 p4 p5 p6 p7 p8 p9 p11 p12 p13 p14 p15 p16 p17 p18 p19 p20 p27 p28 p29 p30 p31 p32 p33 p34 p35 p36 p37 p38 p39 p40 p41 p42 p43 p44 p45 : Value) (b8 : Nat) (A T y : Int) (a P : Rat) (L : Array Bool) (AA : Act) (W : World) : Prop :=
  ∃ (l0 l1 l2 l3 l4 l5 l6 l7 : Bool) (v10 v21 v22 v23 v24 v25 v26 : Value) (g6 : Nat), L = #[l0, l1, l2, l3, l4, l5, l6, l7] ∧ AA = ⟨#[p0, p1, p2, p3, p4, p5, p6, p7, p8, p9, v10, p11, p12, p13, p14, p15, p16, p17, p18, p19, p20, v21, v22, v23, v24, v25, v26, p27, p28, p29, p30, p31, p32, p33, p34, p35, p36, p37, p38, p39, p40, p41, p42, p43, p44, p45], []⟩ ∧ Below W0.heap.size W0 W ∧
    (l0 = true → v21 = .agg #[.int .i64 A, .int .i64 T, .int .i64 y]) ∧ (l1 = true → v22 = .agg #[.int .i64 a.num, .int .i64 a.den]) ∧ (l2 = true → v23 = .pointer (some ⟨b8, 1, none⟩)) ∧ (l3 = true → v24 = .int .i64 T) ∧ (l4 = true → v25 = Fr (T : Rat)) ∧ (l5 = true → v26 = Fr P) ∧ (l6 = true → v10 = .pointer (some ⟨g6, 0, none⟩) ∧ W0.heap.size ≤ g6 ∧ ∃ c d, W.heap[g6]? = some (.cells #[c, d] 124 (0, 0))) ∧ ((l7 = true → l6 = true) ∧ (l7 = true → W.heap[g6]? = some (.cells #[.int .i64 P.num, .int .i64 P.den] 124 (0, 0))))

set_option maxRecDepth 100000 in
set_option maxHeartbeats 4000000 in
theorem kplace_any (M V : Int) (l : List (Int × Int)) (a W : Rat) (ao : Option Addr) (n cap : Nat) (w : World) (hp : Lnd w ao (Fl.strips 0 l)) (hln : n = l.length) (hok : OkW V l) (h6 : l.length ≤ 6) (hg : KGo M V a W) :
    Calls Try.prog 150 #[.slice ao n cap, Fr a, Fr W] w fun e w' => e = .returned (.tuple #[optFr (Fl.placeK l a W), .bool (Fl.placeK l a W).isSome]) ∧ Below w.heap.size w w' := by
  obtain ⟨R, hR⟩ : ∃ r, r = Fl.placeK l a W := ⟨_, rfl⟩
  rw [← hR]
  have HR := Lib.hid hR
  clear hR
  have Hn := Lib.hid hln
  have hn6 : n ≤ 6 := by omega
  clear hln
  have hA := below_alloc3 w (.cells #[.int .i64 a.num, .int .i64 a.den] 124) (.cells #[.int .i64 W.num, .int .i64 W.den] 124) (.cells #[.int .i64 0, .int .i64 0] 124)
  have ra : (((w.alloc (.cells #[.int .i64 a.num, .int .i64 a.den] 124)).alloc (.cells #[.int .i64 W.num, .int .i64 W.den] 124)).alloc (.cells #[.int .i64 0, .int .i64 0] 124)).heap[w.heap.size]? = _ := (heap_alloc_old _ _ (by simp; try omega)).trans (heap_alloc2_old w _ _)
  have rb : (((w.alloc (.cells #[.int .i64 a.num, .int .i64 a.den] 124)).alloc (.cells #[.int .i64 W.num, .int .i64 W.den] 124)).alloc (.cells #[.int .i64 0, .int .i64 0] 124)).heap[w.heap.size + 1]? = _ := (heap_alloc_old _ _ (by simp; try omega)).trans (heap_alloc2_new w _ _)
  have rr := heap_alloc3 w (.cells #[.int .i64 a.num, .int .i64 a.den] 124) (.cells #[.int .i64 W.num, .int .i64 W.den] 124) (.cells #[.int .i64 0, .int .i64 0] 124)
  have hs0 : (((w.alloc (.cells #[.int .i64 a.num, .int .i64 a.den] 124)).alloc (.cells #[.int .i64 W.num, .int .i64 W.den] 124)).alloc (.cells #[.int .i64 0, .int .i64 0] 124)).heap.size = w.heap.size + 3 := by simp
  obtain ⟨W1, hW1⟩ : ∃ x, x = ((w.alloc (.cells #[.int .i64 a.num, .int .i64 a.den] 124)).alloc (.cells #[.int .i64 W.num, .int .i64 W.den] 124)).alloc (.cells #[.int .i64 0, .int .i64 0] 124) := ⟨_, rfl⟩
  rw [← hW1] at hA ra rb rr hs0
  obtain ⟨⟨b0, b1⟩, -, -⟩ := row_fr rb
  have heq := krun_eq_fr0 W
  go_enter Try.func150, Try.ntmps150
  go_wp2_with fail
  rw [← hW1]
  clear hW1
  go_region_held3 (fun w' => w'.cell? ⟨w.heap.size + 1, 0, none⟩ = some (.int .i64 W.num) ∧ w'.cell? ⟨w.heap.size + 1, 1, none⟩ = some (.int .i64 W.den))
    (first | exact ⟨b0, b1⟩ | exact ⟨keep_cell hb2 b0, keep_cell hb2 b1⟩)
    (first | (go_at_call 124; refine (kwhole0_any _).mono ?_; rintro e w2 ⟨rfl, hb2⟩))
  have hb2' : Below W1.heap.size W1 w2 := (below_drewN (Below.refl _ W1) 1).trans hb2
  have hB2 := hA.trans (hb2'.mono hA.size)
  have ra2 := heap_keep hb2' ra
  have rb2 := heap_keep hb2' rb
  have rr2 := heap_keep hb2' rr
  clear hA ra rb rr hs0 b0 b1 hb2 hb2' heq
  obtain ⟨bv, hbv⟩ : ∃ v, decide (W = 0) = v := ⟨_, rfl⟩
  rw [hbv]
  have Hbv := Lib.hid hbv
  clear hbv
  cases bv with
  | true =>
    have hr : Hid (R = some a) := Lib.hid (by rw [HR.out]; unfold Fl.placeK; rw [if_pos (by simpa using Hbv.out)])
    obtain ⟨⟨c0, c1⟩, -, -⟩ := row_fr ra2
    obtain ⟨⟨d0, d1⟩, f0, f1⟩ := row_fr rr2
    go_wp2
    rw [hr.out]
    exact bodyPost_ret (results_cell_tmp rfl _ _ _ _ _ _ _ rfl (two_cells rr2 (.int .i64 a.num) (.int .i64 a.den)) Try.underlying124 rfl kinfoFr2) rfl ⟨rfl, below_setCell (below_setCell hB2 (by omega) _) (by omega) _⟩
  | false =>
    have hR2 : Fl.placeO 0 a l W = R := by rw [HR.out]; unfold Fl.placeK; rw [if_neg (by simpa using Hbv.out)]
    have hL0 : KLeft M a W 0 W := ⟨by
        have := hg.w0
        have hne : ¬ W = 0 := by simpa using Hbv.out
        grind, hg.w1, fun _ => Nat.le_refl _, Nat.le_mul_of_pos_left _ a.den_pos⟩
    go_wp2_with fail
    go_loopg [17] n (fun gk i wr => ∃ k : Nat, k ≤ n ∧ gk = n - k ∧ i = .int .i64 k ∧ ∃ wk : Rat, Hid (Fl.placeO (Fl.len (l.take k)) a (l.drop k) wk = R ∧ KLeft M a W (Fl.len (l.take k)) wk) ∧ wr.heap[w.heap.size]? = some (.cells #[.int .i64 a.num, .int .i64 a.den] 124 (0, 0)) ∧ wr.heap[w.heap.size + 1]? = some (.cells #[.int .i64 wk.num, .int .i64 wk.den] 124 (0, 0)) ∧ wr.heap[w.heap.size + 1 + 1]? = some (.cells #[.int .i64 0, .int .i64 0] 124 (0, 0)) ∧ Below w.heap.size w wr)
    case atStart => exact ⟨0, Nat.zero_le _, rfl, rfl, W, Lib.hid ⟨hR2, hL0⟩, ra2, rb2, rr2, hB2⟩
    case round =>
      clear ra2 rb2 rr2 hL0 hB2 hR2
      obtain ⟨k, hk, rfl, rfl, wk, HL, ra, rb, rr, hb⟩ := hrel
      by_cases hlt : k < n
      · have hkl : k < l.length := by have := Hn.out; omega
        obtain ⟨b, off, rfl, hbs, z0, z1, z2⟩ := (hp.below hb).at hkl
        have hst := Lib.hid (len_take hkl)
        have b1 := hok.lenB h6 k
        have b2 := hok.at hkl
        have hdr : Hid (l.drop k = l.getD k (0, 0) :: l.drop (k + 1)) := Lib.hid (by rw [List.drop_eq_getElem_cons hkl]; congr 1; simp [List.getD_eq_getElem?_getD, hkl])
        clear hp
        have i1 : (k : Int) < (n : Int) := by omega
        obtain ⟨A, hA⟩ : ∃ x, x = Fl.len (l.take k) := ⟨_, rfl⟩
        obtain ⟨z, hz⟩ : ∃ x, x = l.getD k (0, 0) := ⟨_, rfl⟩
        obtain ⟨x, y⟩ := z
        rw [← hA] at z0 z1 hst b1 HL
        rw [← hz] at z1 z2 hst b2 hdr
        simp only at z0 z1 z2 b2 hst
        clear hz hA
        obtain ⟨T, hT⟩ : ∃ t, t = A + x := ⟨_, rfl⟩
        rw [← hT] at z1 hst
        have HT := Lib.hid hT
        have bT : A ≤ T ∧ T ≤ 140 := by omega
        obtain ⟨P, hP⟩ : ∃ p, p = Fl.piece (A, T, y) a (T : Rat) := ⟨_, rfl⟩
        have hfac := kleft_facts b2.1 b2.2.1 b2.2.2.1 b2.2.2.2 b1.1 (by omega) hg HL.out.2 P (by rw [← hT]; exact hP)
        rw [← hT] at hfac
        clear hT
        have cSt : ∀ w6 : World, Calls Try.prog 155 #[.agg #[.int .i64 A, .int .i64 T, .int .i64 y], Fr a, Fr (T : Rat)] w6 fun e w' => e = .returned (Fr P) ∧ Below w6.heap.size w6 w' := fun w6 => by
          rw [hP]; exact kstrip_any A T y a _ w6 hfac.1 (by omega) (by omega) (by omega)
        have HP := Lib.hid hP
        have Hf := Lib.hid hfac
        clear hP hfac
        go_upto_region 6 with fail
        obtain ⟨W0, hW0⟩ : ∃ x0, x0 = wr.alloc (.cells #[.int .i64 A, .int .i64 T, .int .i64 y] 172) := ⟨_, rfl⟩
        have r8 : W0.heap[wr.heap.size]? = some (.cells #[.int .i64 A, .int .i64 T, .int .i64 y] 172 (0, 0)) := by rw [hW0]; exact heap_alloc_new wr _
        have hs0 : W0.heap.size = wr.heap.size + 1 := by rw [hW0]; simp
        have hb0 : Below wr.heap.size wr W0 := by rw [hW0]; exact (Below.refl _ wr).alloc (Nat.le_refl _) _
        rw [← hW0]
        clear hW0
        have ra0 := heap_keep hb0 ra
        go_cut [10, 17] from 17 to 44 (fun s9 s17 wx => ∃ g9 : Nat, s17 = .int .i64 k ∧ s9 = .pointer (some ⟨g9, 0, none⟩) ∧ W0.heap.size ≤ g9 ∧ wx.heap[g9]? = some (.cells #[.int .i64 P.num, .int .i64 P.den] 124 (0, 0)) ∧ Below W0.heap.size W0 wx)
        case first =>
          refine wp_region_inv (by kernel_rfl) (kSP6 W0 _ _ _ _ _ _ _ _ _ _ _ _ _ _ _ _ _ _ _ _ _ _ _ _ _ _ _ _ _ _ _ _ _ _ _ _ _ _ _ wr.heap.size A T y a P) ⟨false, false, false, false, false, false, false, false, _, _, _, _, _, _, _, 0, rfl, rfl, below_drewN (Below.refl _ _) 1, nofun, nofun, nofun, nofun, nofun, nofun, nofun, ⟨nofun, nofun⟩⟩ ?_ ?_
          · rintro listed AA W ⟨l0, l1, l2, l3, l4, l5, l6, l7, v10, v21, v22, v23, v24, v25, v26, g6, rfl, rfl, hB, h0, h1, h2, h3, h4, h5, h6, ⟨hk7, h7⟩⟩ i hi
            have hm := List.mem_filter.1 hi
            have hlt : i < 8 := by simpa using hm.1
            have hm2 := hm.2
            clear hm hi
            have R8 := heap_keep hB r8
            have Ra := heap_keep hB ra0
            have s1 := cell_of_row W _ 1 _ _ _ R8
            simp at s1
            obtain rfl | rfl | rfl | rfl | rfl | rfl | rfl | rfl : i = 0 ∨ i = 1 ∨ i = 2 ∨ i = 3 ∨ i = 4 ∨ i = 5 ∨ i = 6 ∨ i = 7 := by omega
            all_goals simp [Region.binds] at hm2
            all_goals clear hlt
            all_goals refine wpOp_at rfl rfl ?_
            · have Hm := Lib.hid hm2
              clear hm2
              refine wp_load_row _ _ rfl _ rfl _ _ _ _ R8 Try.underlying172 rfl kinfoSp3 ?_
              exact ⟨_, _, _, _, _, _, _, _, _, _, _, _, _, _, _, g6, rfl, rfl, hB, fun _ => rfl, h1, h2, h3, h4, h5, h6, ⟨hk7, h7⟩⟩
            · have Hm := Lib.hid hm2
              clear hm2
              refine wp_load_row _ _ rfl _ rfl _ _ _ _ Ra Try.underlying124 rfl kinfoFr2 ?_
              exact ⟨_, _, _, _, _, _, _, _, _, _, _, _, _, _, _, g6, rfl, rfl, hB, h0, fun _ => rfl, h2, h3, h4, h5, h6, ⟨hk7, h7⟩⟩
            · have Hm := Lib.hid hm2
              clear hm2
              unfold Oper.wp
              go_simp
              exact ⟨_, _, _, _, _, _, _, _, _, _, _, _, _, _, _, g6, rfl, rfl, hB, h0, h1, fun _ => rfl, h3, h4, h5, h6, ⟨hk7, h7⟩⟩
            · have d2 : l2 = true := by simp [hm2]
              have q2 := h2 d2
              subst q2
              have Hm := Lib.hid hm2
              clear hm2 d2
              unfold Oper.wp
              go_simp
              exact ⟨_, _, _, _, _, _, _, _, _, _, _, _, _, _, _, g6, rfl, rfl, hB, h0, h1, h2, fun _ => rfl, h4, h5, h6, ⟨hk7, h7⟩⟩
            · have d3 : l3 = true := by simp [hm2]
              have q3 := h3 d3
              subst q3
              have Hm := Lib.hid hm2
              clear hm2 d3
              unfold Oper.wp
              go_simp
              refine (kwhole_any T W).mono ?_
              rintro e W' ⟨rfl, hb'⟩
              exact ⟨_, _, _, _, _, _, _, _, _, _, _, _, _, _, _, g6, rfl, rfl, hB.trans (hb'.mono hB.size), h0, h1, h2, h3, fun _ => rfl, h5, fun q => let ⟨e, hn, c, d, hh⟩ := h6 q; ⟨e, hn, c, d, heap_keep hb' hh⟩, ⟨hk7, fun q => heap_keep hb' (h7 q)⟩⟩
            · have d0 : l0 = true := by simp [hm2]
              have d1 : l1 = true := by simp [hm2]
              have d4 : l4 = true := by simp [hm2]
              have q0 := h0 d0
              have q1 := h1 d1
              have q4 := h4 d4
              subst q0
              subst q1
              subst q4
              have Hm := Lib.hid hm2
              clear hm2 d0 d1 d4
              unfold Oper.wp
              go_simp
              refine (cSt W).mono ?_
              rintro e W' ⟨rfl, hb'⟩
              exact ⟨_, _, _, _, _, _, _, _, _, _, _, _, _, _, _, g6, rfl, rfl, hB.trans (hb'.mono hB.size), h0, h1, h2, h3, h4, fun _ => rfl, fun q => let ⟨e, hn, c, d, hh⟩ := h6 q; ⟨e, hn, c, d, heap_keep hb' hh⟩, ⟨hk7, fun q => heap_keep hb' (h7 q)⟩⟩
            · have Hm := Lib.hid hm2
              clear hm2
              unfold Oper.wp
              go_simp
              have AL : Below W.heap.size W (W.alloc (.cells #[.int .i64 0, .int .i64 0] 124)) := (Below.refl _ W).alloc (Nat.le_refl _) _
              exact ⟨_, _, _, _, _, _, _, _, _, _, _, _, _, _, _, W.heap.size, rfl, rfl, hB.alloc hB.size _, h0, h1, h2, h3, h4, h5, fun _ => ⟨rfl, hB.size, _, _, heap_alloc_new W _⟩, ⟨fun _ => rfl, fun q => absurd (hk7 q) (by simp [Hm.out])⟩⟩
            · have d5 : l5 = true := by simp [hm2]
              have q5 := h5 d5
              subst q5
              have qa : l6 = true := by simp [hm2]
              obtain ⟨q3, hn, c, d, hh⟩ := h6 qa
              subst q3
              have Hm := Lib.hid hm2
              clear hm2 d5
              refine wp_store_row _ _ _ rfl _ #[.int .i64 P.num, .int .i64 P.den] rfl rfl _ _ hh kinfoFr2 rfl (fr_one _) ?_
              exact ⟨_, _, _, _, _, _, _, _, _, _, _, _, _, _, _, g6, rfl, rfl, below_setRow hB hn _, h0, h1, h2, h3, h4, h5, fun _ => ⟨rfl, hn, _, _, setRow_heap W _ _ _ _ _ hh⟩, ⟨fun _ => qa, fun _ => setRow_heap W _ _ _ _ _ hh⟩⟩
          · rintro listed AA W ⟨l0, l1, l2, l3, l4, l5, l6, l7, v10, v21, v22, v23, v24, v25, v26, g6, rfl, rfl, hB, h0, h1, h2, h3, h4, h5, h6, ⟨hk7, h7⟩⟩ hr
            have hr2 := fun i hi => List.filter_eq_nil_iff.1 hr i hi
            clear hr
            have k0 := hr2 0 (by simp)
            simp [Region.binds] at k0
            subst k0
            have k1 := hr2 1 (by simp)
            simp [Region.binds] at k1
            subst k1
            have k2 := hr2 2 (by simp)
            simp [Region.binds] at k2
            subst k2
            have k3 := hr2 3 (by simp)
            simp [Region.binds] at k3
            subst k3
            have k4 := hr2 4 (by simp)
            simp [Region.binds] at k4
            subst k4
            have k5 := hr2 5 (by simp)
            simp [Region.binds] at k5
            subst k5
            have k6 := hr2 6 (by simp)
            simp [Region.binds] at k6
            subst k6
            have k7 := hr2 7 (by simp)
            simp [Region.binds] at k7
            subst k7
            obtain ⟨rfl, n6, -⟩ := h6 rfl
            go_wp2_with fail
            go_meet
            case rel => exact ⟨g6, rfl, rfl, n6, h7 (by simp), hB⟩
        case rest =>
          obtain ⟨g9, rfl, rfl, hg9, r9, hbx⟩ := hcut
          have hbw : Below wr.heap.size wr wc := hb0.trans (hbx.mono hb0.size)
          have R8 := heap_at hbx (by omega) r8
          have raC := heap_keep hbw ra
          have rbC := heap_keep hbw rb
          have rrC := heap_keep hbw rr
          have hlw : w.heap.size + 3 ≤ wr.heap.size := by have := heap_lt rr; omega
          have hBC := hb.trans (hbw.mono hb.size)
          obtain ⟨⟨c0, c1⟩, -, -⟩ := row_fr rbC
          obtain ⟨⟨d0, d1⟩, -, -⟩ := row_fr r9
          clear hbx hbw ra rb rr hb hb0 r8 ra0
          have hcp := Hf.out.2.1
          go_wp2_with fail
          refine (kcompare_any wk P _ hcp).mono ?_
          rintro e w5 ⟨rfl, hb5⟩
          have R85 := heap_keep hb5 R8
          have ra5 := heap_keep hb5 raC
          have rb5 := heap_keep hb5 rbC
          have rr5 := heap_keep hb5 rrC
          have r95 := heap_keep hb5 r9
          have hB5 := hBC.trans (hb5.mono hBC.size)
          clear hb5 R8 raC rbC rrC r9 hBC c0 c1 d0 d1 hcp
          have hpf := HL.out.1
          rw [hdr.out] at hpf
          unfold Fl.placeO at hpf
          simp only at hpf
          rw [← HT.out, ← HP.out] at hpf
          by_cases hle : wk ≤ P
          · have hc : Fl.cmpR wk P ≤ 0 := by unfold Fl.cmpR; split
                                             · omega
                                             · rw [if_neg (by grind)]; omega
            rw [if_pos hle] at hpf
            have HR2 := Lib.hid hpf
            clear hpf
            have HQ := Lib.hid (Hf.out.2.2.2 hle)
            obtain ⟨⟨a0, a1⟩, -, -⟩ := row_fr ra5
            obtain ⟨⟨x0, x1⟩, -, -⟩ := row_fr rb5
            have s0 := cell_of_row w5 _ 0 _ _ _ R85
            have s2 := cell_of_row w5 _ 2 _ _ _ R85
            simp at s0 s2
            go_wp2_with fail
            go_region_held3 (fun w' => w'.cell? ⟨w.heap.size, 0, none⟩ = some (.int .i64 a.num) ∧ w'.cell? ⟨w.heap.size, 1, none⟩ = some (.int .i64 a.den) ∧ w'.cell? ⟨wr.heap.size, 0, none⟩ = some (.int .i64 A) ∧ w'.cell? ⟨wr.heap.size, 2, none⟩ = some (.int .i64 y) ∧ w'.cell? ⟨w.heap.size + 1, 0, none⟩ = some (.int .i64 wk.num) ∧ w'.cell? ⟨w.heap.size + 1, 1, none⟩ = some (.int .i64 wk.den))
              (first
                | exact ⟨a0, a1, s0, s2, x0, x1⟩
                | exact ⟨cell_two_other _ _ (by omega) kd.1, cell_two_other _ _ (by omega) kd.2.1, cell_two_other _ _ (by omega) kd.2.2.1, cell_two_other _ _ (by omega) kd.2.2.2.1, cell_two_other _ _ (by omega) kd.2.2.2.2.1, cell_two_other _ _ (by omega) kd.2.2.2.2.2⟩
                | exact kd
                | exact kc
                | exact kb
                | exact ka)
              (first
                | (go_at_call 124; refine (kwhole_any A _).mono ?_; rintro e w6 ⟨rfl, hb6⟩; have ka := And.intro (keep_cell hb6 a0) (And.intro (keep_cell hb6 a1) (And.intro (keep_cell hb6 s0) (And.intro (keep_cell hb6 s2) (And.intro (keep_cell hb6 x0) (keep_cell hb6 x1))))); have rr6 := heap_keep hb6 rr5)
                | (go_at_call 166; refine (klater_any a (A : Rat) _ HQ.out.2.2.2.2.2).mono ?_; rintro e w7 ⟨rfl, hb7⟩; have kb := And.intro (keep_cell hb7 ka.1) (And.intro (keep_cell hb7 ka.2.1) (And.intro (keep_cell hb7 ka.2.2.1) (And.intro (keep_cell hb7 ka.2.2.2.1) (And.intro (keep_cell hb7 ka.2.2.2.2.1) (keep_cell hb7 ka.2.2.2.2.2))))); have rr7 := heap_keep hb7 rr6)
                | (go_at_call 151; refine (kover_any wk y _ HQ.out.2.1 HQ.out.1 HQ.out.2.2.1 HQ.out.2.2.2.1).mono ?_; rintro e w8 ⟨rfl, hb8⟩; have kc := And.intro (keep_cell hb8 kb.1) (And.intro (keep_cell hb8 kb.2.1) (And.intro (keep_cell hb8 kb.2.2.1) (And.intro (keep_cell hb8 kb.2.2.2.1) (And.intro (keep_cell hb8 kb.2.2.2.2.1) (keep_cell hb8 kb.2.2.2.2.2))))); have rr8 := heap_keep hb8 rr7)
                | (go_at_call 154; refine (kplus_any (Fl.later a (A : Rat)) (wk / (y : Rat)) _ HQ.out.2.2.2.2.1).mono ?_; rintro e w9 ⟨rfl, hb9⟩; have kd := And.intro (keep_cell hb9 kc.1) (And.intro (keep_cell hb9 kc.2.1) (And.intro (keep_cell hb9 kc.2.2.1) (And.intro (keep_cell hb9 kc.2.2.2.1) (And.intro (keep_cell hb9 kc.2.2.2.2.1) (keep_cell hb9 kc.2.2.2.2.2))))); have rr9 := heap_keep hb9 rr8; obtain ⟨⟨z0, z1⟩, y0, y1⟩ := row_fr rr9))
            have hB6 : Below w.heap.size w w6 := (below_drewN hB5 1).trans (hb6.mono (by have := hB5.size; exact this))
            have hB7 := hB6.trans (hb7.mono hB6.size)
            have hB8 := hB7.trans (hb8.mono hB7.size)
            have hB9 := hB8.trans (hb9.mono hB8.size)
            go_wp2
            rw [← HR2.out]
            exact bodyPost_ret (results_cell_tmp rfl _ _ _ _ _ _ _ rfl (two_cells rr9 (.int .i64 (Fl.later a (A : Rat) + wk / (y : Rat)).num) (.int .i64 (Fl.later a (A : Rat) + wk / (y : Rat)).den)) Try.underlying124 rfl kinfoFr2) rfl ⟨rfl, below_setCell (below_setCell hB9 (by omega) _) (by omega) _⟩
          · have hc : Fl.cmpR wk P = 1 := by unfold Fl.cmpR; rw [if_neg (by grind), if_pos (by grind)]
            rw [if_neg hle] at hpf
            have hls : KLeft M a W T (wk - P) := by
              have := kleft_step b2.1 b2.2.1 b2.2.2.1 b2.2.2.2 HL.out.2 (by rw [← HT.out, ← HP.out]; exact hle)
              rw [← HT.out, ← HP.out] at this
              exact this
            have HR2 := Lib.hid (And.intro hpf hls)
            have hsub := Lib.hid (Hf.out.2.2.1 hle)
            clear hpf hls
            rw [hc]
            obtain ⟨⟨x0, x1⟩, -, -⟩ := row_fr rb5
            obtain ⟨⟨d0, d1⟩, -, -⟩ := row_fr r95
            go_wp2_with fail
            refine (kminus_any wk P _ hsub.out).mono ?_
            rintro e w6 ⟨rfl, hb6⟩
            have ra6 := heap_keep hb6 ra5
            have rb6 := heap_keep hb6 rb5
            have rr6 := heap_keep hb6 rr5
            have hB6 := hB5.trans (hb6.mono hB5.size)
            clear hb6 x0 x1 d0 d1 ra5 rb5 rr5 r95 R85
            obtain ⟨⟨x0, x1⟩, f0, f1⟩ := row_fr rb6
            go_wp2_with fail
            go_roundg (n - (k + 1))
            case measure => omega
            case rel =>
              refine ⟨k + 1, by omega, rfl, by go_num, wk - P, Lib.hid ?_, ?_, two_cells rb6 _ _, ?_, below_setCell (below_setCell hB6 (by omega) _) (by omega) _⟩
              · rw [hst.out]; exact HR2.out
              · rw [heap_setCell_other _ _ _ _ (by show w.heap.size ≠ w.heap.size + 1; omega), heap_setCell_other _ _ _ _ (by show w.heap.size ≠ w.heap.size + 1; omega)]; exact ra6
              · rw [heap_setCell_other _ _ _ _ (by show w.heap.size + 1 + 1 ≠ w.heap.size + 1; omega), heap_setCell_other _ _ _ _ (by show w.heap.size + 1 + 1 ≠ w.heap.size + 1; omega)]; exact rr6
      · have hk2 : k = n := by omega
        have hRl : Hid (R = none) := Lib.hid (by
          have := HL.out.1
          rw [hk2, Hn.out, List.drop_length] at this
          exact this.symm)
        have Hk := Lib.hid hk2
        clear hk2
        obtain ⟨⟨d0, d1⟩, f0, f1⟩ := row_fr rr
        go_wp2
        rw [hRl.out]
        exact bodyPost_ret (results_cell_tmp rfl _ _ _ _ _ _ _ rfl (two_cells rr (.int .i64 0) (.int .i64 0)) Try.underlying124 rfl kinfoFr2) rfl ⟨rfl, below_setCell (below_setCell hb (by omega) _) (by omega) _⟩
end Go.Proofs.Ytemlfklipkpacaa
