import Derived.Test.YtemlfklipkpacaaKe
/- The worth of a land of package knife between two places. -/
namespace Go.Proofs.Ytemlfklipkpacaa
open Go.RowKit

theorem kinfoSp3 : (Try.prog.info? 172).map (·.size) = some 3 := by kernel_rfl
/-- What holds after some of the operations of the region of a sum, in whatever order. -/
def SW (B g7 g9 ga gb : Nat) (p0 p1 p2 p3 p4 p5 p6 p7 p8 p9 p10 p11 p12 p13 p14 p15 p16 p23 p24 : Value) (A T y : Int) (a b S P : Rat) (W0 : World) (L : Array Bool) (AA : Act) (W : World) : Prop :=
  ∃ (l0 l1 l2 l3 l4 l5 l6 : Bool) (v17 v18 v19 v20 v21 v22 : Value), L = #[l0, l1, l2, l3, l4, l5, l6] ∧ AA = ⟨#[p0, p1, p2, p3, p4, p5, p6, p7, p8, p9, p10, p11, p12, p13, p14, p15, p16, v17, v18, v19, v20, v21, v22, p23, p24], []⟩ ∧ Below B W0 W ∧ W0.heap.size ≤ W.heap.size ∧
    W.heap[ga]? = some (.cells #[.int .i64 a.num, .int .i64 a.den] 124 (0, 0)) ∧ W.heap[gb]? = some (.cells #[.int .i64 b.num, .int .i64 b.den] 124 (0, 0)) ∧ W.heap[g9]? = some (.cells #[.int .i64 A, .int .i64 T, .int .i64 y] 172 (0, 0)) ∧
    (l5 = true → l0 = true) ∧ (l6 = true → l5 = true) ∧ (l6 = false → W.heap[g7]? = some (.cells #[.int .i64 S.num, .int .i64 S.den] 124 (0, 0))) ∧ (l6 = true → W.heap[g7]? = some (.cells #[.int .i64 (S + P).num, .int .i64 (S + P).den] 124 (0, 0))) ∧
    (l0 = true → v17 = Fr S) ∧ (l1 = true → v18 = .agg #[.int .i64 A, .int .i64 T, .int .i64 y]) ∧ (l2 = true → v19 = Fr a) ∧ (l3 = true → v20 = Fr b) ∧ (l4 = true → v21 = Fr P) ∧ (l5 = true → v22 = Fr (S + P))

set_option maxRecDepth 100000 in
set_option maxHeartbeats 4000000 in
theorem kworth_any (z : List (Int × Int)) (a b : Rat) (ao : Option Addr) (n cap : Nat) (w : World) (hp : Lnd w ao (Fl.strips 0 z)) (hn : n = z.length) (hok : Fl.Ok z) (h6 : z.length ≤ 6) (hab : KPl a b 20) :
    Calls Try.prog 120 #[.slice ao n cap, Fr a, Fr b] w fun e w' => e = .returned (Fr (Fl.worth z a b)) ∧ Below w.heap.size w w' := by
  have Hn := Lib.hid hn
  have hn6 : n ≤ 6 := by omega
  clear hn
  have hadds := (Fl.worth_adds (a := a) (b := b) (by have h := hab.d; rw [show (20 + 1 : Int) = 21 from rfl, ← Int.natCast_mul] at h; omega) hok h6).1
  have Hadds := Lib.hid hadds
  clear hadds
  have hA := below_alloc3 w (.cells #[.int .i64 a.num, .int .i64 a.den] 124) (.cells #[.int .i64 b.num, .int .i64 b.den] 124) (.cells #[.int .i64 0, .int .i64 0] 124)
  have ra : (((w.alloc (.cells #[.int .i64 a.num, .int .i64 a.den] 124)).alloc (.cells #[.int .i64 b.num, .int .i64 b.den] 124)).alloc (.cells #[.int .i64 0, .int .i64 0] 124)).heap[w.heap.size]? = _ := (heap_alloc_old _ _ (by simp; try omega)).trans (heap_alloc2_old w _ _)
  have rb : (((w.alloc (.cells #[.int .i64 a.num, .int .i64 a.den] 124)).alloc (.cells #[.int .i64 b.num, .int .i64 b.den] 124)).alloc (.cells #[.int .i64 0, .int .i64 0] 124)).heap[w.heap.size + 1]? = _ := (heap_alloc_old _ _ (by simp; try omega)).trans (heap_alloc2_new w _ _)
  have rr := heap_alloc3 w (.cells #[.int .i64 a.num, .int .i64 a.den] 124) (.cells #[.int .i64 b.num, .int .i64 b.den] 124) (.cells #[.int .i64 0, .int .i64 0] 124)
  have hs0 : (((w.alloc (.cells #[.int .i64 a.num, .int .i64 a.den] 124)).alloc (.cells #[.int .i64 b.num, .int .i64 b.den] 124)).alloc (.cells #[.int .i64 0, .int .i64 0] 124)).heap.size = w.heap.size + 3 := by simp
  go_enter Try.func120, Try.ntmps120
  go_upto_region 1 with fail
  generalize ((w.alloc (.cells #[.int .i64 a.num, .int .i64 a.den] 124)).alloc (.cells #[.int .i64 b.num, .int .i64 b.den] 124)).alloc (.cells #[.int .i64 0, .int .i64 0] 124) = W1 at hA ra rb rr hs0 ⊢
  go_wp2_with fail
  refine ((kwhole_any 0 W1)).mono ?_
  rintro e w1 ⟨rfl, hbb⟩
  replace ra := heap_keep hbb ra
  replace rb := heap_keep hbb rb
  replace rr := heap_keep hbb rr
  replace hA := hA.trans (hbb.mono hA.size)
  clear hbb
  have hs1 : w.heap.size + 3 ≤ w1.heap.size := by
    have := heap_lt rr
    omega
  go_upto_region 2 with fail
  have r7 := heap_alloc_new w1 (.cells #[.int .i64 0, .int .i64 1] 124)
  have hB7 : Below (w.heap.size + 3) w1 (w1.alloc (.cells #[.int .i64 0, .int .i64 1] 124)) := (Below.refl _ w1).alloc hs1 _
  have hS7 : w1.heap.size + 1 ≤ (w1.alloc (.cells #[.int .i64 0, .int .i64 1] 124)).heap.size := by simp
  generalize w1.alloc (.cells #[.int .i64 0, .int .i64 1] 124) = W2 at r7 hB7 hS7 ⊢
  go_wp2
  go_loopw [13] (fun i wr => ∃ k : Nat, k ≤ n ∧ i = .int .i64 k ∧ (∃ S : Rat, Hid (S = (((Fl.strips 0 z).map fun x => Fl.piece x a b).take k).foldl (· + ·) 0) ∧ wr.heap[w1.heap.size]? = some (.cells #[.int .i64 S.num, .int .i64 S.den] 124 (0, 0))) ∧ w1.heap.size + 1 ≤ wr.heap.size ∧ Below (w.heap.size + 3) w1 wr) (fun i _ => n - (intOf i).toNat)
  case atStart => exact ⟨0, Nat.zero_le _, rfl, ⟨0, Lib.hid rfl, r7⟩, hS7, hB7⟩
  case round =>
    obtain ⟨k, hk, rfl, ⟨S, HS, R7⟩, hsz, hb⟩ := hrel
    have hbl : Below w.heap.size w wr := hA.trans (hb.mono (by omega))
    have Ra := heap_at hb (by omega) ra
    have Rb := heap_at hb (by omega) rb
    have Rr := heap_at hb (by omega) rr
    clear r7 hB7 hS7 ra rb rr
    by_cases hlt : k < n
    · have hkl : k < z.length := by have := Hn.out; omega
      obtain ⟨b0, off, rfl, hbs, z0, z1, z2⟩ := (hp.below hbl).at hkl
      have hst := Lib.hid (pieces_take (a := a) (b := b) hkl)
      have hadd := Hadds.out.at k (by simpa [strips_length] using hkl)
      have b1 := len_take_bound hok h6 k
      have b2 := ok_at hok hkl
      have hpe : ((Fl.strips 0 z).map fun x => Fl.piece x a b)[k]'(by simpa [strips_length] using hkl) = Fl.piece (Fl.len (z.take k), Fl.len (z.take k) + (z.getD k (0, 0)).1, (z.getD k (0, 0)).2) a b := by
        rw [List.getElem_map, strips_at hkl, Int.zero_add]
      rw [hpe, ← HS.out] at hadd
      clear hpe hp
      have i1 : (k : Int) < (n : Int) := by omega
      obtain ⟨A, hA0⟩ : ∃ x, x = Fl.len (z.take k) := ⟨_, rfl⟩
      obtain ⟨x, hx⟩ : ∃ x, x = (z.getD k (0, 0)).1 := ⟨_, rfl⟩
      obtain ⟨y, hy⟩ : ∃ y, y = (z.getD k (0, 0)).2 := ⟨_, rfl⟩
      rw [← hA0] at z0 z1 hst b1 hadd
      rw [← hx] at z1 hst b2 hadd
      rw [← hy] at z2 hst b2 hadd
      clear hx hy hA0
      obtain ⟨T, hT⟩ : ∃ t, t = A + x := ⟨_, rfl⟩
      rw [← hT] at z1 hst hadd
      have bT : A ≤ T ∧ T ≤ 140 := by omega
      clear hT
      have hK : KPl a b y := ⟨hab.a0, hab.b0, hab.a1, hab.b1, by omega, by
        have h := hab.d
        have d0 : (0 : Int) ≤ (a.den : Int) * (b.den : Int) := Int.mul_nonneg (by omega) (by omega)
        have := Int.mul_le_mul_of_nonneg_right (show y + 1 ≤ 20 + 1 by omega) d0
        omega⟩
      obtain ⟨P, hP⟩ : ∃ p, p = Fl.piece (A, T, y) a b := ⟨_, rfl⟩
      rw [← hP] at hst hadd
      have cSt : ∀ w6 : World, Calls Try.prog 155 #[.agg #[.int .i64 A, .int .i64 T, .int .i64 y], Fr a, Fr b] w6 fun e w' => e = .returned (Fr P) ∧ Below w6.heap.size w6 w' := fun w6 => by
        rw [hP]; exact kstrip_any A T y a b w6 hK (by omega) (by omega) (by omega)
      have HP := Lib.hid (plusOk hadd)
      clear hP hadd hK
      go_upto_region 5 with fail
      have R9 := heap_alloc_new wr (.cells #[.int .i64 A, .int .i64 T, .int .i64 y] 172)
      have hba := (Below.refl wr.heap.size wr).alloc (Nat.le_refl _) (.cells #[.int .i64 A, .int .i64 T, .int .i64 y] 172)
      have hs5 : (wr.alloc (.cells #[.int .i64 A, .int .i64 T, .int .i64 y] 172)).heap.size = wr.heap.size + 1 := by simp
      have hb9 := hb.trans (hba.mono (by omega))
      replace Ra := heap_keep hba Ra
      replace Rb := heap_keep hba Rb
      replace Rr := heap_keep hba Rr
      replace R7 := heap_keep hba R7
      clear hba
      generalize wr.alloc (.cells #[.int .i64 A, .int .i64 T, .int .i64 y] 172) = W0 at R9 hs5 hb9 Ra Rb Rr R7 ⊢
      have hn9 : ¬ wr.heap.size = w1.heap.size := by omega
      refine wp_region_inv (by kernel_rfl) (SW (w.heap.size + 3) w1.heap.size wr.heap.size w.heap.size (w.heap.size + 1) _ _ _ _ _ _ _ _ _ _ _ _ _ _ _ _ _ _ _ A T y a b S P W0) ⟨false, false, false, false, false, false, false, _, _, _, _, _, _, rfl, rfl, below_drewN (Below.refl _ _) 1, Nat.le_refl _, Ra, Rb, R9, nofun, nofun, fun _ => R7, nofun, nofun, nofun, nofun, nofun, nofun, nofun⟩ ?_ ?_
      · rintro listed AA W ⟨l0, l1, l2, l3, l4, l5, l6, v17, v18, v19, v20, v21, v22, rfl, rfl, hB, hs, ra, rb, r9, k5, k6, s0, s1, h0, h1, h2, h3, h4, h5⟩ i hi
        have hm := List.mem_filter.1 hi
        have hlt : i < 7 := by simpa using hm.1
        have hm2 := hm.2
        clear hm hi
        have hBW : w.heap.size + 3 ≤ W.heap.size := by omega
        obtain rfl | rfl | rfl | rfl | rfl | rfl | rfl : i = 0 ∨ i = 1 ∨ i = 2 ∨ i = 3 ∨ i = 4 ∨ i = 5 ∨ i = 6 := by omega
        all_goals simp [Region.binds] at hm2
        all_goals clear hlt
        all_goals refine wpOp_at rfl rfl ?_
        · have hl6 : l6 = false := by
            cases l6 with
            | false => rfl
            | true => exact absurd (k5 (k6 rfl)) (by simp [hm2])
          have R7 := s0 hl6
          have Hm := Lib.hid hm2
          clear hm2 hl6
          refine wp_load_row _ _ rfl _ rfl _ _ _ _ R7 Try.underlying124 rfl kinfoFr2 ?_
          exact ⟨_, _, _, _, _, _, _, _, _, _, _, _, _, rfl, rfl, hB, hs, ra, rb, r9, fun _ => rfl, k6, s0, s1, fun _ => rfl, h1, h2, h3, h4, h5⟩
        · have Hm := Lib.hid hm2
          clear hm2
          refine wp_load_row _ _ rfl _ rfl _ _ _ _ r9 Try.underlying172 rfl kinfoSp3 ?_
          exact ⟨_, _, _, _, _, _, _, _, _, _, _, _, _, rfl, rfl, hB, hs, ra, rb, r9, k5, k6, s0, s1, h0, fun _ => rfl, h2, h3, h4, h5⟩
        · have Hm := Lib.hid hm2
          clear hm2
          refine wp_load_row _ _ rfl _ rfl _ _ _ _ ra Try.underlying124 rfl kinfoFr2 ?_
          exact ⟨_, _, _, _, _, _, _, _, _, _, _, _, _, rfl, rfl, hB, hs, ra, rb, r9, k5, k6, s0, s1, h0, h1, fun _ => rfl, h3, h4, h5⟩
        · have Hm := Lib.hid hm2
          clear hm2
          refine wp_load_row _ _ rfl _ rfl _ _ _ _ rb Try.underlying124 rfl kinfoFr2 ?_
          exact ⟨_, _, _, _, _, _, _, _, _, _, _, _, _, rfl, rfl, hB, hs, ra, rb, r9, k5, k6, s0, s1, h0, h1, h2, fun _ => rfl, h4, h5⟩
        · have q1 := h1 (by simp [hm2])
          have q2 := h2 (by simp [hm2])
          have q3 := h3 (by simp [hm2])
          subst q1 q2 q3
          have Hm := Lib.hid hm2
          clear hm2
          unfold Oper.wp
          go_simp
          refine (cSt W).mono ?_
          rintro e W' ⟨rfl, hb'⟩
          exact ⟨_, _, _, _, _, _, _, _, _, _, _, _, _, rfl, rfl, hB.trans (hb'.mono hBW), Nat.le_trans hs hb'.size, heap_keep hb' ra, heap_keep hb' rb, heap_keep hb' r9, k5, k6, fun q => heap_keep hb' (s0 q), fun q => heap_keep hb' (s1 q), h0, h1, h2, h3, fun _ => rfl, h5⟩
        · have q0 := h0 (by simp [hm2])
          have q4 := h4 (by simp [hm2])
          have k0 : l0 = true := by simp [hm2]
          subst q0 q4
          have Hm := Lib.hid hm2
          clear hm2
          unfold Oper.wp
          go_simp
          refine (kplus_any S P W HP.out).mono ?_
          rintro e W' ⟨rfl, hb'⟩
          exact ⟨_, _, _, _, _, _, _, _, _, _, _, _, _, rfl, rfl, hB.trans (hb'.mono hBW), Nat.le_trans hs hb'.size, heap_keep hb' ra, heap_keep hb' rb, heap_keep hb' r9, fun _ => by first | exact k0 | rfl, fun _ => rfl, fun q => heap_keep hb' (s0 q), fun q => heap_keep hb' (s1 q), (by first | exact h0 | exact fun _ => rfl), h1, h2, h3, (by first | exact h4 | exact fun _ => rfl), fun _ => rfl⟩
        · have q5 := h5 (by simp [hm2])
          have k50 : l5 = true := by simp [hm2]
          have hl6 : l6 = false := by simp [hm2]
          subst q5
          have R7 := s0 hl6
          have Hm := Lib.hid hm2
          clear hm2
          refine wp_store_row _ _ _ rfl _ #[.int .i64 (S + P).num, .int .i64 (S + P).den] rfl rfl _ _ R7 kinfoFr2 rfl (fr_one _) ?_
          exact ⟨_, _, _, _, _, _, _, _, _, _, _, _, _, rfl, rfl, below_setRow hB (by omega) _, by simpa [World.setRow] using hs, heap_row_other _ (by omega) ra, heap_row_other _ (by omega) rb, heap_row_other _ (by omega) r9, k5, fun _ => k50, nofun, fun _ => setRow_heap W _ _ _ _ _ R7, h0, h1, h2, h3, h4, h5⟩
      · rintro listed AA W ⟨l0, l1, l2, l3, l4, l5, l6, v17, v18, v19, v20, v21, v22, rfl, rfl, hB, hs, ra, rb, r9, k5, k6, s0, s1, h0, h1, h2, h3, h4, h5⟩ hr
        have hr2 := fun i hi => List.filter_eq_nil_iff.1 hr i hi
        clear hr
        have k0' := hr2 0 (by simp)
        simp [Region.binds] at k0'
        subst k0'
        have k1' := hr2 1 (by simp)
        simp [Region.binds] at k1'
        subst k1'
        have k2' := hr2 2 (by simp)
        simp [Region.binds] at k2'
        subst k2'
        have k3' := hr2 3 (by simp)
        simp [Region.binds] at k3'
        subst k3'
        have k4' := hr2 4 (by simp)
        simp [Region.binds] at k4'
        subst k4'
        have k5' := hr2 5 (by simp)
        simp [Region.binds] at k5'
        subst k5'
        have k6' := hr2 6 (by simp)
        simp [Region.binds] at k6'
        subst k6'
        have R7' := s1 rfl
        go_wp2_with fail
        go_roundw
        case rel => exact ⟨k + 1, by omega, by go_num, ⟨_, Lib.hid (by rw [hst.out, List.foldl_append, ← HS.out]; rfl), R7'⟩, by omega, hb9.trans hB⟩
        case measure => simp [intOf]; omega
    · have hk2 : k = n := by omega
      have hS : S = Fl.worth z a b := by
        rw [HS.out, hk2, Hn.out, show z.length = ((Fl.strips 0 z).map fun x => Fl.piece x a b).length by simp [strips_length], List.take_length]
        rfl
      have HS2 := Lib.hid hS
      have Hk := Lib.hid hk2
      clear hk2 hS
      obtain ⟨⟨c0, c1⟩, -, -⟩ := row_fr R7
      obtain ⟨⟨d0, d1⟩, f0, f1⟩ := row_fr Rr
      go_wp2
      rw [← HS2.out]
      exact bodyPost_ret (results_cell_row rfl _ _ _ _ _ _ _ rfl (two_cells Rr (.int .i64 S.num) (.int .i64 S.den)) Try.underlying124 rfl kinfoFr2) rfl ⟨rfl, below_setCell (below_setCell hbl (by omega) _) (by omega) _⟩
end Go.Proofs.Ytemlfklipkpacaa
