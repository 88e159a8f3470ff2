import Derived.Test.YtemlfklipkpacaaKa
/- The worth of a strip of package knife between two places. -/
namespace Go.Proofs.Ytemlfklipkpacaa
open Go.RowKit

/-- What is asked of the places between which a strip is measured, and of its value. -/
structure KPl (a b : Rat) (v : Int) : Prop where
  a0 : 0 ≤ a
  b0 : 0 ≤ b
  a1 : a ≤ ((1000 : Nat) : Rat)
  b1 : b ≤ ((1000 : Nat) : Rat)
  v0 : 0 ≤ v
  d : (v + 1) * ((a.den : Int) * (b.den : Int)) ≤ 2000000000000000
theorem KPl.dd {a b : Rat} {v : Int} (h : KPl a b v) : (a.den : Int) * (b.den : Int) ≤ 2000000000000000 ∧ v * ((a.den : Int) * (b.den : Int)) ≤ 2000000000000000 ∧ (a.den : Int) ≤ 2000000000000000 ∧ (b.den : Int) ≤ 2000000000000000 ∧ 1 ≤ (a.den : Int) ∧ 1 ≤ (b.den : Int) := by
  have d := h.d
  have v0 := h.v0
  have da : 1 ≤ (a.den : Int) := by have := a.den_pos; omega
  have db : 1 ≤ (b.den : Int) := by have := b.den_pos; omega
  have ea : (a.den : Int) * 1 ≤ (a.den : Int) * (b.den : Int) := Int.mul_le_mul_of_nonneg_left db (by omega)
  have eb : 1 * (b.den : Int) ≤ (a.den : Int) * (b.den : Int) := Int.mul_le_mul_of_nonneg_right da (by omega)
  have m0 : 0 ≤ v * ((a.den : Int) * (b.den : Int)) := Int.mul_nonneg v0 (by omega)
  rw [Int.add_mul, Int.one_mul] at d
  exact ⟨by omega, by omega, by omega, by omega, da, db⟩
theorem cmp_whole {a : Rat} {s D : Int} (a0 : 0 ≤ a) (a1 : a ≤ ((1000 : Nat) : Rat)) (hd : (a.den : Int) ≤ D) (hD : D ≤ 2000000000000000) (hs : 0 ≤ s) (hs2 : s ≤ 1000) : CmpOk a (s : Rat) := by
  have n := Fl.num_nonneg a0
  have m := Fl.num_le a1
  have m2 : s * (a.den : Int) ≤ 1000 * (a.den : Int) := Int.mul_le_mul_of_nonneg_right hs2 (by omega)
  refine ⟨n, hs, ?_, ?_⟩
  · rw [Rat.den_intCast, show ((1 : Nat) : Int) = 1 from rfl, Int.mul_one]; omega
  · rw [Rat.num_intCast]; omega
theorem KPl.cmpA {a b : Rat} {v s : Int} (h : KPl a b v) (hs : 0 ≤ s) (hs2 : s ≤ 1000) : CmpOk a (s : Rat) := cmp_whole h.a0 h.a1 h.dd.2.2.1 (Int.le_refl _) hs hs2
theorem KPl.cmpB {a b : Rat} {v s : Int} (h : KPl a b v) (hs : 0 ≤ s) (hs2 : s ≤ 1000) : CmpOk b (s : Rat) := cmp_whole h.b0 h.b1 h.dd.2.2.2.1 (Int.le_refl _) hs hs2

theorem kpiece_facts {s t v : Int} {a b lo hi : Rat} (h : KPl a b v) (hs : 0 ≤ s) (hst : s ≤ t) (ht : t ≤ 1000) (hlo : lo = Fl.later a (s : Rat)) (hhi : hi = Fl.sooner b (t : Rat)) :
    CmpOk lo hi ∧ (hi ≤ lo → Fl.piece (s, t, v) a b = 0) ∧
    (lo < hi → Fl.piece (s, t, v) a b = (hi - lo) * (v : Rat) ∧ SubOk hi lo ∧ 0 ≤ (hi - lo).num ∧ (hi - lo).num * v ≤ 4000000000000000000 ∧ ((hi - lo).den : Int) ≤ 4000000000000000000) := by
  obtain ⟨D1, D2, D3, D4, D5, D6⟩ := h.dd
  have n1 := Fl.num_nonneg h.a0
  have n2 := Fl.num_nonneg h.b0
  have v0 := h.v0
  have dlo : lo.den ≤ a.den := by
    rw [hlo]; unfold Fl.later; split
    · exact a.den_pos
    · exact Nat.le_refl _
  have dhi : hi.den ≤ b.den := by
    rw [hhi]; unfold Fl.sooner; split
    · exact b.den_pos
    · exact Nat.le_refl _
  have dd : (lo.den : Int) * (hi.den : Int) ≤ (a.den : Int) * (b.den : Int) := Int.mul_le_mul (by omega) (by omega) (by omega) (by omega)
  have l0 : 0 ≤ lo := by rw [hlo, Fl.later_eq]; have := h.a0; grind
  have h0 : 0 ≤ hi := by
    have : (0 : Rat) ≤ (t : Rat) := by exact_mod_cast (show (0 : Int) ≤ t by omega)
    rw [hhi, Fl.sooner_eq]; have := h.b0; grind
  have t1 : (t : Rat) ≤ ((1000 : Nat) : Rat) := by
    have : (t : Rat) ≤ ((1000 : Int) : Rat) := Rat.intCast_le_intCast.2 ht
    exact this
  have s1 : (s : Rat) ≤ ((1000 : Nat) : Rat) := by
    have : (s : Rat) ≤ ((1000 : Int) : Rat) := Rat.intCast_le_intCast.2 (by omega)
    exact this
  have l1 : lo ≤ ((1000 : Nat) : Rat) := by rw [hlo, Fl.later_eq]; have := h.a1; grind
  have h1 : hi ≤ ((1000 : Nat) : Rat) := by rw [hhi, Fl.sooner_eq]; have := h.b1; grind
  have ln := Fl.num_le l1
  have hn := Fl.num_le h1
  have lz := Fl.num_nonneg l0
  have hz := Fl.num_nonneg h0
  have m1 : hi.num * (lo.den : Int) ≤ 1000 * (hi.den : Int) * (lo.den : Int) := Int.mul_le_mul_of_nonneg_right (by exact hn) (by omega)
  have m2 : lo.num * (hi.den : Int) ≤ 1000 * (lo.den : Int) * (hi.den : Int) := Int.mul_le_mul_of_nonneg_right (by exact ln) (by omega)
  rw [Int.mul_assoc] at m1 m2
  rw [Int.mul_comm (hi.den : Int) (lo.den : Int)] at m1
  refine ⟨⟨lz, hz, by omega, by omega⟩, fun hle => ?_, fun hlt => ?_⟩
  · unfold Fl.piece
    simp only [← hlo, ← hhi, hle, if_true]
  · have hpos : 0 ≤ hi - lo := by grind
    have hdl : hi - lo ≤ ((1000 : Nat) : Rat) := by grind
    have d3 : (hi - lo).num ≤ 1000 * ((hi - lo).den : Int) := Fl.num_le hdl
    have d4 := Fl.den_sub_le hi lo
    rw [Nat.mul_comm] at d4
    have d4' : ((hi - lo).den : Int) ≤ (lo.den : Int) * (hi.den : Int) := by rw [← Int.natCast_mul]; omega
    have d5 : (hi - lo).num * v ≤ 1000 * ((a.den : Int) * (b.den : Int)) * v := Int.mul_le_mul_of_nonneg_right (by omega) v0
    have d6 : 1000 * ((a.den : Int) * (b.den : Int)) * v = 1000 * (v * ((a.den : Int) * (b.den : Int))) := by rw [Int.mul_assoc, Int.mul_comm _ v]
    refine ⟨?_, ⟨⟨hz, lz, by omega, by omega, by rw [Int.mul_comm]; omega⟩, Rat.le_of_lt hlt⟩, Fl.num_nonneg hpos, by omega, by omega⟩
    unfold Fl.piece
    simp only [← hlo, ← hhi]
    rw [if_neg (by grind)]

/-- What holds after some of the operations of the region in which a strip's ends are found, in whatever order. -/
def kSI (W0 : World) (p0 p1 p2 q3 q4 q5 q6 : Value) (b3 : Nat) (s t : Int) (a b lo hi : Rat) (L : Array Bool) (A : Act) (W : World) : Prop :=
  ∃ (l0 l1 l2 l3 l4 l5 l6 l7 l8 l9 l10 l11 l12 l13 : Bool) (v7 v8 v9 v10 v11 v12 v13 v14 v15 v16 v17 v18 : Value) (g7 g8 : Nat), L = #[l0, l1, l2, l3, l4, l5, l6, l7, l8, l9, l10, l11, l12, l13] ∧ A = ⟨#[p0, p1, p2, q3, q4, q5, q6, v7, v8, v9, v10, v11, v12, v13, v14, v15, v16, v17, v18, undef, undef, undef, undef, undef, undef, undef, undef, undef, undef, undef], []⟩ ∧ Below W0.heap.size W0 W ∧
    (l0 = true → v9 = Fr a) ∧ (l1 = true → v10 = .pointer (some ⟨b3, 0, none⟩)) ∧ (l2 = true → v11 = .int .i64 s) ∧ (l3 = true → v12 = Fr s) ∧ (l4 = true → v13 = Fr lo) ∧
    (l5 = true → v14 = Fr b) ∧ (l6 = true → v15 = .pointer (some ⟨b3, 1, none⟩)) ∧ (l7 = true → v16 = .int .i64 t) ∧ (l8 = true → v17 = Fr t) ∧ (l9 = true → v18 = Fr hi) ∧
    (l10 = true → v7 = .pointer (some ⟨g7, 0, none⟩) ∧ W0.heap.size ≤ g7 ∧ ∃ c d, W.heap[g7]? = some (.cells #[c, d] 124 (0, 0))) ∧
    (l11 = true → v8 = .pointer (some ⟨g8, 0, none⟩) ∧ W0.heap.size ≤ g8 ∧ ∃ c d, W.heap[g8]? = some (.cells #[c, d] 124 (0, 0))) ∧
    (l10 = true → l11 = true → g7 ≠ g8) ∧ (l12 = true → l10 = true) ∧ (l13 = true → l11 = true) ∧
    (l12 = true → W.heap[g7]? = some (.cells #[.int .i64 lo.num, .int .i64 lo.den] 124 (0, 0))) ∧
    (l13 = true → W.heap[g8]? = some (.cells #[.int .i64 hi.num, .int .i64 hi.den] 124 (0, 0)))

set_option maxRecDepth 100000 in
set_option maxHeartbeats 2000000 in
theorem kstrip_any (s t v : Int) (a b : Rat) (w : World) (h : KPl a b v) (hs : 0 ≤ s) (hst : s ≤ t) (ht : t ≤ 1000) :
    Calls Try.prog 155 #[.agg #[.int .i64 s, .int .i64 t, .int .i64 v], Fr a, Fr b] w fun e w' => e = .returned (Fr (Fl.piece (s, t, v) a b)) ∧ Below w.heap.size w w' := by
  go_enter Try.func155, Try.ntmps155
  go_upto_region 1 with fail
  go_cut [7, 8] from 9 (fun p7 p8 wx => ∃ g7 g8 : Nat, w.heap.size + 4 ≤ g7 ∧ w.heap.size + 4 ≤ g8 ∧ p7 = .pointer (some ⟨g7, 0, none⟩) ∧ p8 = .pointer (some ⟨g8, 0, none⟩) ∧ wx.heap[g7]? = some (.cells #[.int .i64 (Fl.later a s).num, .int .i64 (Fl.later a s).den] 124 (0, 0)) ∧ wx.heap[g8]? = some (.cells #[.int .i64 (Fl.sooner b t).num, .int .i64 (Fl.sooner b t).den] 124 (0, 0)) ∧ wx.heap[w.heap.size]? = some (.cells #[.int .i64 s, .int .i64 t, .int .i64 v] 172 (0, 0)) ∧ wx.heap[w.heap.size + 1 + 1 + 1]? = some (.cells #[.int .i64 0, .int .i64 0] 124 (0, 0)) ∧ Below w.heap.size w wx)
  case first =>
    obtain ⟨W0, hW0⟩ : ∃ x, x = (((w.alloc (Obj.cells #[Value.int IntKind.i64 s, Value.int IntKind.i64 t, Value.int IntKind.i64 v] 172)).alloc (Obj.cells #[Value.int IntKind.i64 a.num, Value.int IntKind.i64 a.den] 124)).alloc (Obj.cells #[Value.int IntKind.i64 b.num, Value.int IntKind.i64 b.den] 124)).alloc (Obj.cells #[Value.int IntKind.i64 0, Value.int IntKind.i64 0] 124) := ⟨_, rfl⟩
    have e8 := heap_alloc4 w (Obj.cells #[Value.int IntKind.i64 s, Value.int IntKind.i64 t, Value.int IntKind.i64 v] 172) (Obj.cells #[Value.int IntKind.i64 a.num, Value.int IntKind.i64 a.den] 124) (Obj.cells #[Value.int IntKind.i64 b.num, Value.int IntKind.i64 b.den] 124) (Obj.cells #[Value.int IntKind.i64 0, Value.int IntKind.i64 0] 124)
    rw [← hW0] at e8
    obtain ⟨r3, r4, r5, r6⟩ := e8
    have e6 : W0.heap.size = w.heap.size + 4 := by rw [hW0]; simp
    have e7 : Below w.heap.size w W0 := by rw [hW0]; exact below_alloc4 w _ _ _ _
    rw [← hW0]
    clear hW0
    refine wp_region_inv (by kernel_rfl) (kSI W0 _ _ _ _ _ _ _ w.heap.size s t a b (Fl.later a s) (Fl.sooner b t)) ⟨false, false, false, false, false, false, false, false, false, false, false, false, false, false, undef, undef, undef, undef, undef, undef, undef, undef, undef, undef, undef, undef, 0, 0, rfl, rfl, below_drewN (Below.refl _ _) 1, nofun, nofun, nofun, nofun, nofun, nofun, nofun, nofun, nofun, nofun, nofun, nofun, nofun, nofun, nofun, nofun, nofun⟩ ?_ ?_
    · rintro listed A W ⟨l0, l1, l2, l3, l4, l5, l6, l7, l8, l9, l10, l11, l12, l13, v7, v8, v9, v10, v11, v12, v13, v14, v15, v16, v17, v18, g7, g8, rfl, rfl, hB, h0, h1, h2, h3, h4, h5, h6, h7, h8, h9, h10, h11, hne, hk12, hk13, h12, h13⟩ i hi
      have hm := List.mem_filter.1 hi
      have hlt : i < 14 := by simpa using hm.1
      have hm2 := hm.2
      clear hm hi
      have R3 := heap_at hB (by omega) r3
      have R4 := heap_at hB (by omega) r4
      have R5 := heap_at hB (by omega) r5
      have s0 := cell_of_row W _ 0 _ _ _ R3
      have s1 := cell_of_row W _ 1 _ _ _ R3
      simp at s0 s1
      obtain rfl | rfl | rfl | rfl | rfl | rfl | rfl | rfl | rfl | rfl | rfl | rfl | rfl | rfl : i = 0 ∨ i = 1 ∨ i = 2 ∨ i = 3 ∨ i = 4 ∨ i = 5 ∨ i = 6 ∨ i = 7 ∨ i = 8 ∨ i = 9 ∨ i = 10 ∨ i = 11 ∨ i = 12 ∨ i = 13 := by omega
      all_goals simp [Region.binds] at hm2
      all_goals refine wpOp_at rfl rfl ?_
      · refine wp_load_row _ _ rfl _ rfl _ _ _ _ R4 Try.underlying124 rfl kinfoFr2 ?_
        exact ⟨true, l1, l2, l3, l4, l5, l6, l7, l8, l9, l10, l11, l12, l13, _, _, _, _, _, _, _, _, _, _, _, _, g7, g8, rfl, rfl, hB, fun _ => rfl, h1, h2, h3, h4, h5, h6, h7, h8, h9, h10, h11, hne, hk12, hk13, h12, h13⟩
      · unfold Oper.wp
        go_simp
        exact ⟨l0, true, l2, l3, l4, l5, l6, l7, l8, l9, l10, l11, l12, l13, _, _, _, _, _, _, _, _, _, _, _, _, g7, g8, rfl, rfl, hB, h0, fun _ => rfl, h2, h3, h4, h5, h6, h7, h8, h9, h10, h11, hne, hk12, hk13, h12, h13⟩
      · have q1 := h1 hm2.2; subst q1
        obtain ⟨rfl, rfl⟩ := hm2
        unfold Oper.wp
        go_simp
        exact ⟨_, _, _, _, _, _, _, _, _, _, _, _, _, _, _, _, _, _, _, _, _, _, _, _, _, _, g7, g8, rfl, rfl, hB, h0, h1, fun _ => rfl, h3, h4, h5, h6, h7, h8, h9, h10, h11, hne, hk12, hk13, h12, h13⟩
      · have q1 := h2 hm2.2; subst q1
        obtain ⟨rfl, rfl⟩ := hm2
        unfold Oper.wp
        go_simp
        refine (kwhole_any s W).mono ?_
        rintro e W' ⟨rfl, hb'⟩
        exact ⟨_, _, _, _, _, _, _, _, _, _, _, _, _, _, _, _, _, _, _, _, _, _, _, _, _, _, g7, g8, rfl, rfl, hB.trans (hb'.mono hB.size), h0, h1, h2, fun _ => rfl, h4, h5, h6, h7, h8, h9, fun q => let ⟨e, hn, c, d, hh⟩ := h10 q; ⟨e, hn, c, d, heap_keep hb' hh⟩, fun q => let ⟨e, hn, c, d, hh⟩ := h11 q; ⟨e, hn, c, d, heap_keep hb' hh⟩, hne, hk12, hk13, fun q => heap_keep hb' (h12 q), fun q => heap_keep hb' (h13 q)⟩
      · have q1 := h0 hm2.2.1; have q2 := h3 hm2.2.2; subst q1 q2
        obtain ⟨rfl, rfl, rfl⟩ := hm2
        unfold Oper.wp
        go_simp
        refine (klater_any a (s : Rat) W (h.cmpA hs (by omega))).mono ?_
        rintro e W' ⟨rfl, hb'⟩
        exact ⟨_, _, _, _, _, _, _, _, _, _, _, _, _, _, _, _, _, _, _, _, _, _, _, _, _, _, g7, g8, rfl, rfl, hB.trans (hb'.mono hB.size), h0, h1, h2, h3, fun _ => rfl, h5, h6, h7, h8, h9, fun q => let ⟨e, hn, c, d, hh⟩ := h10 q; ⟨e, hn, c, d, heap_keep hb' hh⟩, fun q => let ⟨e, hn, c, d, hh⟩ := h11 q; ⟨e, hn, c, d, heap_keep hb' hh⟩, hne, hk12, hk13, fun q => heap_keep hb' (h12 q), fun q => heap_keep hb' (h13 q)⟩
      · refine wp_load_row _ _ rfl _ rfl _ _ _ _ R5 Try.underlying124 rfl kinfoFr2 ?_
        exact ⟨l0, l1, l2, l3, l4, true, l6, l7, l8, l9, l10, l11, l12, l13, _, _, _, _, _, _, _, _, _, _, _, _, g7, g8, rfl, rfl, hB, h0, h1, h2, h3, h4, fun _ => rfl, h6, h7, h8, h9, h10, h11, hne, hk12, hk13, h12, h13⟩
      · unfold Oper.wp
        go_simp
        exact ⟨l0, l1, l2, l3, l4, l5, true, l7, l8, l9, l10, l11, l12, l13, _, _, _, _, _, _, _, _, _, _, _, _, g7, g8, rfl, rfl, hB, h0, h1, h2, h3, h4, h5, fun _ => rfl, h7, h8, h9, h10, h11, hne, hk12, hk13, h12, h13⟩
      · have q1 := h6 hm2.2; subst q1
        obtain ⟨rfl, rfl⟩ := hm2
        unfold Oper.wp
        go_simp
        exact ⟨_, _, _, _, _, _, _, _, _, _, _, _, _, _, _, _, _, _, _, _, _, _, _, _, _, _, g7, g8, rfl, rfl, hB, h0, h1, h2, h3, h4, h5, h6, fun _ => rfl, h8, h9, h10, h11, hne, hk12, hk13, h12, h13⟩
      · have q1 := h7 hm2.2.1; have q5 := h4 hm2.2.2; subst q1 q5
        obtain ⟨rfl, rfl, rfl⟩ := hm2
        unfold Oper.wp
        go_simp
        refine (kwhole_any t W).mono ?_
        rintro e W' ⟨rfl, hb'⟩
        exact ⟨_, _, _, _, _, _, _, _, _, _, _, _, _, _, _, _, _, _, _, _, _, _, _, _, _, _, g7, g8, rfl, rfl, hB.trans (hb'.mono hB.size), h0, h1, h2, h3, h4, h5, h6, h7, fun _ => rfl, h9, fun q => let ⟨e, hn, c, d, hh⟩ := h10 q; ⟨e, hn, c, d, heap_keep hb' hh⟩, fun q => let ⟨e, hn, c, d, hh⟩ := h11 q; ⟨e, hn, c, d, heap_keep hb' hh⟩, hne, hk12, hk13, fun q => heap_keep hb' (h12 q), fun q => heap_keep hb' (h13 q)⟩
      · have q1 := h5 hm2.2.1; have q2 := h8 hm2.2.2; subst q1 q2
        obtain ⟨rfl, rfl, rfl⟩ := hm2
        unfold Oper.wp
        go_simp
        refine (ksooner_any b (t : Rat) W (h.cmpB (by omega) ht)).mono ?_
        rintro e W' ⟨rfl, hb'⟩
        exact ⟨_, _, _, _, _, _, _, _, _, _, _, _, _, _, _, _, _, _, _, _, _, _, _, _, _, _, g7, g8, rfl, rfl, hB.trans (hb'.mono hB.size), h0, h1, h2, h3, h4, h5, h6, h7, h8, fun _ => rfl, fun q => let ⟨e, hn, c, d, hh⟩ := h10 q; ⟨e, hn, c, d, heap_keep hb' hh⟩, fun q => let ⟨e, hn, c, d, hh⟩ := h11 q; ⟨e, hn, c, d, heap_keep hb' hh⟩, hne, hk12, hk13, fun q => heap_keep hb' (h12 q), fun q => heap_keep hb' (h13 q)⟩
      · unfold Oper.wp
        go_simp
        exact ⟨l0, l1, l2, l3, l4, l5, l6, l7, l8, l9, true, l11, l12, l13, _, _, _, _, _, _, _, _, _, _, _, _, W.heap.size, g8, rfl, rfl, hB.alloc hB.size _, h0, h1, h2, h3, h4, h5, h6, h7, h8, h9, fun _ => ⟨rfl, hB.size, _, _, heap_alloc_new W _⟩, fun q => let ⟨e, hn, c, d, hh⟩ := h11 q; ⟨e, hn, c, d, heap_keep ((Below.refl _ W).alloc (Nat.le_refl _) _) hh⟩, fun _ q => by have hh := (h11 q).2.2; obtain ⟨c, d, hh⟩ := hh; have := heap_lt hh; omega, fun _ => rfl, hk13, fun q => absurd (hk12 q) (by simp [hm2]), fun q => heap_keep ((Below.refl _ W).alloc (Nat.le_refl _) _) (h13 q)⟩
      · unfold Oper.wp
        go_simp
        exact ⟨l0, l1, l2, l3, l4, l5, l6, l7, l8, l9, l10, true, l12, l13, _, _, _, _, _, _, _, _, _, _, _, _, g7, W.heap.size, rfl, rfl, hB.alloc hB.size _, h0, h1, h2, h3, h4, h5, h6, h7, h8, h9, fun q => let ⟨e, hn, c, d, hh⟩ := h10 q; ⟨e, hn, c, d, heap_keep ((Below.refl _ W).alloc (Nat.le_refl _) _) hh⟩, fun _ => ⟨rfl, hB.size, _, _, heap_alloc_new W _⟩, fun q _ => by have hh := (h10 q).2.2; obtain ⟨c, d, hh⟩ := hh; have := heap_lt hh; omega, hk12, fun _ => rfl, fun q => heap_keep ((Below.refl _ W).alloc (Nat.le_refl _) _) (h12 q), fun q => absurd (hk13 q) (by simp [hm2])⟩
      · have q1 : l10 = true := by simp [hm2]
        have q2 := h4 (by simp [hm2]); subst q2
        obtain ⟨q3, hn, c, d, hh⟩ := h10 q1
        subst q3
        refine wp_store_row _ _ _ rfl g7 #[.int .i64 (Fl.later a s).num, .int .i64 (Fl.later a s).den] rfl rfl _ _ hh kinfoFr2 rfl (fr_one _) ?_
        exact ⟨l0, l1, l2, l3, l4, l5, l6, l7, l8, l9, l10, l11, true, l13, _, _, _, _, _, _, _, _, _, _, _, _, g7, g8, rfl, rfl, below_setRow hB hn _, h0, h1, h2, h3, h4, h5, h6, h7, h8, h9, fun _ => ⟨rfl, hn, _, _, setRow_heap W g7 _ #[.int .i64 (Fl.later a s).num, .int .i64 (Fl.later a s).den] _ _ hh⟩, fun q => let ⟨e, hn', c', d', hh'⟩ := h11 q; ⟨e, hn', c', d', heap_row_other _ (hne q1 q).symm hh'⟩, hne, fun _ => q1, hk13, fun _ => setRow_heap W g7 _ #[.int .i64 (Fl.later a s).num, .int .i64 (Fl.later a s).den] _ _ hh, fun q => heap_row_other _ (hne q1 (hk13 q)).symm (h13 q)⟩
      · have q1 : l11 = true := by simp [hm2]
        have q2 := h9 (by simp [hm2]); subst q2
        obtain ⟨q3, hn, c, d, hh⟩ := h11 q1
        subst q3
        refine wp_store_row _ _ _ rfl g8 #[.int .i64 (Fl.sooner b t).num, .int .i64 (Fl.sooner b t).den] rfl rfl _ _ hh kinfoFr2 rfl (fr_one _) ?_
        exact ⟨l0, l1, l2, l3, l4, l5, l6, l7, l8, l9, l10, l11, l12, true, _, _, _, _, _, _, _, _, _, _, _, _, g7, g8, rfl, rfl, below_setRow hB hn _, h0, h1, h2, h3, h4, h5, h6, h7, h8, h9, fun q => let ⟨e, hn', c', d', hh'⟩ := h10 q; ⟨e, hn', c', d', heap_row_other _ (hne q q1) hh'⟩, fun _ => ⟨rfl, hn, _, _, setRow_heap W g8 _ #[.int .i64 (Fl.sooner b t).num, .int .i64 (Fl.sooner b t).den] _ _ hh⟩, hne, hk12, fun _ => q1, fun q => heap_row_other _ (hne (hk12 q) q1) (h12 q), fun _ => setRow_heap W g8 _ #[.int .i64 (Fl.sooner b t).num, .int .i64 (Fl.sooner b t).den] _ _ hh⟩
    · rintro listed A W ⟨l0, l1, l2, l3, l4, l5, l6, l7, l8, l9, l10, l11, l12, l13, v7, v8, v9, v10, v11, v12, v13, v14, v15, v16, v17, v18, g7, g8, rfl, rfl, hB, h0, h1, h2, h3, h4, h5, h6, h7, h8, h9, h10, h11, hne, hk12, hk13, h12, h13⟩ hr
      have hr2 := fun i hi => List.filter_eq_nil_iff.1 hr i hi
      clear hr
      have k0 := hr2 0 (by simp)
      simp [Region.binds] at k0
      subst k0
      have k1 := hr2 1 (by simp)
      simp [Region.binds] at k1
      subst k1
      have k2 := hr2 2 (by simp)
      simp [Region.binds] at k2
      subst k2
      have k3 := hr2 3 (by simp)
      simp [Region.binds] at k3
      subst k3
      have k4 := hr2 4 (by simp)
      simp [Region.binds] at k4
      subst k4
      have k5 := hr2 5 (by simp)
      simp [Region.binds] at k5
      subst k5
      have k6 := hr2 6 (by simp)
      simp [Region.binds] at k6
      subst k6
      have k7 := hr2 7 (by simp)
      simp [Region.binds] at k7
      subst k7
      have k8 := hr2 8 (by simp)
      simp [Region.binds] at k8
      subst k8
      have k9 := hr2 9 (by simp)
      simp [Region.binds] at k9
      subst k9
      have k10 := hr2 10 (by simp)
      simp [Region.binds] at k10
      subst k10
      have k11 := hr2 11 (by simp)
      simp [Region.binds] at k11
      subst k11
      have k12 := hr2 12 (by simp)
      simp [Region.binds] at k12
      subst k12
      have k13 := hr2 13 (by simp)
      simp [Region.binds] at k13
      subst k13
      obtain ⟨rfl, n7, -⟩ := h10 rfl
      obtain ⟨rfl, n8, -⟩ := h11 rfl
      go_wp2_with fail
      go_meet
      case rel => exact ⟨g7, g8, by omega, by omega, rfl, rfl, h12 (by simp), h13 (by simp), heap_at hB (by omega) r3, heap_at hB (by omega) r6, e7.trans (hB.mono (by omega))⟩
  case rest =>
    obtain ⟨g7, g8, n7, n8, rfl, rfl, h7, h8, r3, r6, hB⟩ := hcut
    obtain ⟨lo, hlo⟩ : ∃ x, x = Fl.later a (s : Rat) := ⟨_, rfl⟩
    obtain ⟨hi, hhi⟩ : ∃ x, x = Fl.sooner b (t : Rat) := ⟨_, rfl⟩
    rw [← hlo] at h7
    rw [← hhi] at h8
    have hF := Lib.hid (kpiece_facts h hs hst ht hlo hhi)
    have l7 := heap_lt h7
    have l8 := heap_lt h8
    have l6 := heap_lt r6
    clear hlo hhi
    obtain ⟨⟨c0, c1⟩, -, -⟩ := row_fr h7
    obtain ⟨⟨d0, d1⟩, -, -⟩ := row_fr h8
    go_wp2_with fail
    refine (kcompare_any lo hi _ hF.out.1).mono ?_
    rintro e w1 ⟨rfl, hb1⟩
    have h71 := heap_keep hb1 h7
    have h81 := heap_keep hb1 h8
    have r31 := heap_keep hb1 r3
    have r61 := heap_keep hb1 r6
    have hB1 := hB.trans (hb1.mono hB.size)
    clear hb1 c0 c1 d0 d1 l7 l8 l6 h7 h8 r3 r6 hB
    by_cases hle : hi ≤ lo
    · have hc : (0 : Int) ≤ Fl.cmpR lo hi := by unfold Fl.cmpR; rw [if_neg (by grind)]; split <;> omega
      have hp := Lib.hid (hF.out.2.1 hle)
      go_wp2_with fail
      refine (kwhole_any 0 _).mono ?_
      rintro e w2 ⟨rfl, hb2⟩
      have r62 := heap_keep hb2 r61
      have hB2 := hB1.trans (hb2.mono hB1.size)
      obtain ⟨⟨c0, c1⟩, f0, f1⟩ := row_fr r62
      go_wp2
      have hh := two_cells r62 (.int .i64 ((0 : Int) : Rat).num) (.int .i64 ((0 : Int) : Rat).den)
      rw [hp.out]
      exact bodyPost_ret (results_cell_row rfl _ _ _ _ _ _ _ rfl hh Try.underlying124 rfl kinfoFr2) rfl ⟨rfl, below_setCell (below_setCell hB2 (by omega) _) (by omega) _⟩
    · have hc : Fl.cmpR lo hi = -1 := by unfold Fl.cmpR; rw [if_pos (by grind)]
      rw [hc]
      have hp := Lib.hid (hF.out.2.2 (by grind))
      obtain ⟨⟨c0, c1⟩, -, -⟩ := row_fr h71
      obtain ⟨⟨d0, d1⟩, -, -⟩ := row_fr h81
      have s2 := cell_of_row w1 _ 2 _ _ _ r31
      simp at s2
      go_wp2_with fail
      have hq := hp.out
      obtain ⟨hpe, hsub, t1, t2, t3⟩ := hq
      have HP := Lib.hid hpe
      have HS := Lib.hid hsub
      have HT := Lib.hid (And.intro t1 (And.intro t2 t3))
      clear hpe hsub t1 t2 t3 hp
      go_region_held3 (fun w' => w'.cell? ⟨g7, 0, none⟩ = some (.int .i64 lo.num) ∧ w'.cell? ⟨g7, 1, none⟩ = some (.int .i64 lo.den) ∧ w'.cell? ⟨g8, 0, none⟩ = some (.int .i64 hi.num) ∧ w'.cell? ⟨g8, 1, none⟩ = some (.int .i64 hi.den) ∧ w'.cell? ⟨w.heap.size, 2, none⟩ = some (.int .i64 v))
        (first | exact ⟨c0, c1, d0, d1, s2⟩ | exact ⟨m0, m1, m2, m3, m4⟩ | exact ⟨cell_two_other _ _ (by omega) m0, cell_two_other _ _ (by omega) m1, cell_two_other _ _ (by omega) m2, cell_two_other _ _ (by omega) m3, cell_two_other _ _ (by omega) m4⟩ | exact ⟨k0, k1, k2, k3, k4⟩)
        (first
          | (go_at_call 128; refine (kminus_any hi lo _ HS.out).mono ?_; rintro e w2 ⟨rfl, hb2⟩; have k0 := keep_cell hb2 c0; have k1 := keep_cell hb2 c1; have k2 := keep_cell hb2 d0; have k3 := keep_cell hb2 d1; have k4 := keep_cell hb2 s2; have r62 := heap_keep hb2 r61)
          | (go_at_call 168; refine (ktimes_any (hi - lo) v _ HT.out.1 h.v0 HT.out.2.1 HT.out.2.2).mono ?_; rintro e w3 ⟨rfl, hb3⟩; have m0 := keep_cell hb3 k0; have m1 := keep_cell hb3 k1; have m2 := keep_cell hb3 k2; have m3 := keep_cell hb3 k3; have m4 := keep_cell hb3 k4; have r63 := heap_keep hb3 r62; obtain ⟨⟨x0, x1⟩, y0, y1⟩ := row_fr r63))
      have hB2 : Below w.heap.size w w2 := (below_drewN hB1 1).trans (hb2.mono (by have := hB1.size; exact this))
      have hB3 := hB2.trans (hb3.mono hB2.size)
      go_wp2
      have hh := two_cells r63 (.int .i64 ((hi - lo) * (v : Rat)).num) (.int .i64 ((hi - lo) * (v : Rat)).den)
      rw [HP.out]
      exact bodyPost_ret (results_cell_row rfl _ _ _ _ _ _ _ rfl hh Try.underlying124 rfl kinfoFr2) rfl ⟨rfl, below_setCell (below_setCell hB3 (by omega) _) (by omega) _⟩
end Go.Proofs.Ytemlfklipkpacaa
