import Derived.Test.YtemlfklipkpacaaKh
/- Marks, calls and halves of package knife. -/
namespace Go.Proofs.Ytemlfklipkpacaa
open Go.RowKit

/-- A place from which one goes on. -/
structure KFrom (a : Rat) : Prop where
  a0 : 0 ≤ a
  a1 : a ≤ ((1000 : Nat) : Rat)
  ad : (a.den : Int) ≤ 1000000
theorem kgo_mark {a W : Rat} (ha : KFrom a) (h0 : 0 ≤ W) (h1 : W ≤ ((2400 : Int) : Rat)) (hd : (W.den : Int) ≤ 100) : KGo 2400 20 a W := by
  have a9 := ha.ad
  have w1 : 0 ≤ (W.den : Int) := by omega
  have x1 : (a.den : Int) * (W.den : Int) ≤ 1000000 * 100 := Int.mul_le_mul a9 hd (by omega) (by omega)
  have x2 : (a.den : Int) * ((a.den : Int) * (W.den : Int)) ≤ 1000000 * (1000000 * 100) := Int.mul_le_mul a9 x1 (Int.mul_nonneg (by omega) (by omega)) (by omega)
  exact ⟨ha.a0, ha.a1, h0, h1, by omega, by omega, by omega, by omega, by omega⟩
theorem mk_le {n : Int} {d : Nat} {m : Int} (hd : 0 < d) (h : n ≤ m * (d : Int)) : mkRat n d ≤ (m : Rat) := by
  rw [Rat.mkRat_eq_div]
  have hdp : (0 : Rat) < (d : Rat) := by exact_mod_cast hd
  have h2 : (n : Rat) ≤ (m : Rat) * (d : Rat) := by
    have : ((n : Int) : Rat) ≤ ((m * (d : Int) : Int) : Rat) := Rat.intCast_le_intCast.2 h
    rw [Rat.intCast_mul] at this
    exact this
  have e : (n : Rat) / (d : Rat) * (d : Rat) = (n : Rat) := Rat.div_mul_cancel (by grind)
  rcases (Rat.le_total : (n : Rat) / (d : Rat) ≤ (m : Rat) ∨ (m : Rat) ≤ (n : Rat) / (d : Rat)) with h3 | h3
  · exact h3
  · have := Rat.mul_le_mul_of_nonneg_right h3 (Rat.le_of_lt hdp)
    have e2 : (n : Rat) = (m : Rat) * (d : Rat) := by grind
    have e3 : (n : Rat) / (d : Rat) = (m : Rat) := by rw [e2, Rat.mul_div_cancel (by grind)]
    rw [e3]
    exact Rat.le_refl
theorem mk_facts {T num den : Int} (hT : 0 ≤ T) (hT2 : T ≤ 2400) (h0 : 0 ≤ num) (h1 : num ≤ den) (h2 : 1 ≤ den) (h3 : den ≤ 100) :
    0 ≤ mkRat (T * num) den.toNat ∧ mkRat (T * num) den.toNat ≤ ((2400 : Int) : Rat) ∧ ((mkRat (T * num) den.toNat).den : Int) ≤ 100 := by
  have m0 : 0 ≤ T * num := Int.mul_nonneg hT h0
  have m1 : T * num ≤ 2400 * den := Int.mul_le_mul hT2 h1 h0 (by omega)
  have hd : 0 < den.toNat := by omega
  have hn := (mk_num_le (d := den.toNat) m0).1
  have hD := mk_den_le (n := T * num) hd
  exact ⟨Rat.num_nonneg.1 hn, mk_le hd (by omega), by omega⟩

set_option maxRecDepth 100000 in
set_option maxHeartbeats 4000000 in
theorem kmark_any (l : List (Int × Int)) (a : Rat) (num den : Int) (ao : Option Addr) (n cap : Nat) (w : World) (hp : Lnd w ao (Fl.strips 0 l)) (hln : n = l.length) (hok : Fl.Ok l) (h6 : l.length ≤ 6) (ha : KFrom a) (h0 : 0 ≤ num) (h1 : num ≤ den) (h2 : 1 ≤ den) (h3 : den ≤ 100) :
    Calls Try.prog 156 #[.slice ao n cap, Fr a, .int .i64 num, .int .i64 den] w fun e w' => e = .returned (.tuple #[optFr (Fl.placeK l a (mkRat (Fl.tot l * num) den.toNat)), .bool (Fl.placeK l a (mkRat (Fl.tot l * num) den.toNat)).isSome]) ∧ Below w.heap.size w w' := by
  have hT := Fl.tot_bound hok
  have hT0 := hT.1
  have hT2 : Fl.tot l ≤ 2400 := by omega
  have Hn := Lib.hid hln
  clear hT hln
  obtain ⟨T, hTe⟩ : ∃ t, t = Fl.tot l := ⟨_, rfl⟩
  rw [← hTe] at hT0 hT2 ⊢
  have HT := Lib.hid hTe
  clear hTe
  have m0 : 0 ≤ T * num := Int.mul_nonneg hT0 h0
  have m1 : T * num ≤ 2400 * 100 := Int.mul_le_mul hT2 (by omega) h0 (by omega)
  have e1 : IntKind.i64.wrap (T * num) = T * num := IntWalk.i64_in _ (by omega)
  obtain ⟨f0, f1, f2⟩ := mk_facts hT0 hT2 h0 h1 h2 h3
  obtain ⟨W, hW⟩ : ∃ q, mkRat (T * num) den.toNat = q := ⟨_, rfl⟩
  rw [hW] at f0 f1 f2 ⊢
  have HW := Lib.hid hW
  have HG := Lib.hid (kgo_mark ha f0 f1 f2)
  have HM := Lib.hid (And.intro m0 m1)
  obtain ⟨R, hR⟩ : ∃ r, r = Fl.placeK l a W := ⟨_, rfl⟩
  have hPl := fun w' (hb : Below w.heap.size w w') => kplace_any 2400 20 l a W ao n cap w' (hp.below hb) Hn.out hok h6 HG.out
  rw [← hR] at hPl ⊢
  obtain ⟨x, y, hxy⟩ := optFr_pair R
  rw [hxy] at hPl ⊢
  generalize R.isSome = bv at hPl ⊢
  have HPl := Lib.hid hPl
  clear hW hR hxy hPl m0 m1 f0 f1 f2
  have hA := below_alloc2 w (.cells #[.int .i64 a.num, .int .i64 a.den] 124) (.cells #[.int .i64 0, .int .i64 0] 124)
  have ra := heap_alloc2_old w (.cells #[.int .i64 a.num, .int .i64 a.den] 124) (.cells #[.int .i64 0, .int .i64 0] 124)
  have rr := heap_alloc2_new w (.cells #[.int .i64 a.num, .int .i64 a.den] 124) (.cells #[.int .i64 0, .int .i64 0] 124)
  go_enter Try.func156, Try.ntmps156
  go_upto_region 1 with fail
  generalize (w.alloc (.cells #[.int .i64 a.num, .int .i64 a.den] 124)).alloc (.cells #[.int .i64 0, .int .i64 0] 124) = W1 at hA ra rr ⊢
  obtain ⟨⟨c0, c1⟩, -, -⟩ := row_fr ra
  have hs1 : w.heap.size + 1 < W1.heap.size := heap_lt rr
  go_region_held3 (fun w' => w'.cell? ⟨w.heap.size, 0, none⟩ = some (.int .i64 a.num) ∧ w'.cell? ⟨w.heap.size, 1, none⟩ = some (.int .i64 a.den))
    (first | exact ⟨c0, c1⟩ | exact ⟨cell_two_other _ _ (by omega) kc.1, cell_two_other _ _ (by omega) kc.2⟩ | exact kc | exact kb | exact ka)
    (first
      | (go_at_call 149; refine (kall_any l _ _ _ _ (hp.below (below_drewN hA 1)) Hn.out hok h6).mono ?_; rintro e w2 ⟨rfl, hb2⟩; rw [← HT.out]; have ka := And.intro (keep_cell hb2 c0) (keep_cell hb2 c1))
      | (go_at_call 158; refine (klowest_q (T * num) den W _ HM.out.1 (by omega) (by have := HM.out; omega) (by omega) HW.out).mono ?_; rintro e w3 ⟨rfl, hb3⟩; have kb := And.intro (keep_cell hb3 ka.1) (keep_cell hb3 ka.2))
      | (go_at_call 150; refine (HPl.out _ (((below_drewN hA 1).trans (hb2.mono (by simpa using hA.size))).trans (hb3.mono (by have := hA.size; have := hb2.size; simp at this; omega)))).mono ?_; rintro e w4 ⟨rfl, hb4⟩; have kc := And.intro (keep_cell hb4 kb.1) (keep_cell hb4 kb.2); have rr4 := heap_keep hb4 (heap_keep hb3 (heap_keep hb2 rr)); obtain ⟨⟨z0, z1⟩, y0, y1⟩ := row_fr rr4))
  have hB1 := below_drewN hA 1
  have hB2 := hB1.trans (hb2.mono hB1.size)
  have hB3 := hB2.trans (hb3.mono hB2.size)
  have hB4 := hB3.trans (hb4.mono hB3.size)
  go_wp2
  exact bodyPost_ret (results_cell_tmp rfl _ _ _ _ _ _ _ rfl (two_cells rr4 (.int .i64 x) (.int .i64 y)) Try.underlying124 rfl kinfoFr2) rfl ⟨rfl, below_setCell (below_setCell hB4 (by omega) _) (by omega) _⟩

/-- A field of package knife in memory. -/
structure Fld (w : World) (aoL : Option Addr) (nL : Nat) (aoV : Option Addr) (nV : Nat) (L : List Int) (V : List (List Int)) : Prop where
  hL : Ints w aoL L
  hV : Tab w aoV V
  nl : nL = L.length
  nv : nV = V.length
theorem Fld.below {w w' : World} {aoL aoV : Option Addr} {nL nV : Nat} {L : List Int} {V : List (List Int)} (h : Fld w aoL nL aoV nV L V) (hb : Below w.heap.size w w') : Fld w' aoL nL aoV nV L V :=
  ⟨h.hL.below hb, h.hV.below hb, h.nl, h.nv⟩
/-- Where an owner calls. -/
def Kn.callK (L : List Int) (V : List (List Int)) (o : Nat) (a : Rat) : Option Rat := Fl.placeK (Kn.Z L V o) a (mkRat (Fl.tot (Kn.Z L V o)) V.length)
def Kn.halfK (L : List Int) (V : List (List Int)) (o : Nat) : Option Rat := Fl.placeK (Kn.Z L V o) 0 (mkRat (Fl.tot (Kn.Z L V o)) 2)

set_option maxRecDepth 100000 in
set_option maxHeartbeats 4000000 in
theorem kcall_any (L : List Int) (V : List (List Int)) (o : Nat) (a : Rat) (aoL : Option Addr) (nL cL : Nat) (aoV : Option Addr) (nV cV : Nat) (w : World) (hf : Fld w aoL nL aoV nV L V) (hok : Kn.Ok L V) (ho : o < V.length) (ha : KFrom a) :
    Calls Try.prog 164 #[.agg #[.slice aoL nL cL, .slice aoV nV cV], .int .i64 o, Fr a] w fun e w' => e = .returned (.tuple #[optFr (Kn.callK L V o a), .bool (Kn.callK L V o a).isSome]) ∧ Below w.heap.size w w' := by
  obtain ⟨R, hR⟩ : ∃ r, r = Kn.callK L V o a := ⟨_, rfl⟩
  have hv1 := hok.v1
  have hv5 := hok.v5
  have hnv5 : nV ≤ 5 := by have := hf.nv; omega
  have hMk := fun (w' : World) (ao : Option Addr) (cap : Nat) (hp : Lnd w' ao (Fl.strips 0 (Kn.Z L V o))) => kmark_any (Kn.Z L V o) a 1 nV ao nL cap w' hp (by rw [hok.zLen ho]; exact hf.nl) (hok.zOk ho) (by rw [hok.zLen ho]; exact hok.l6) ha (by omega) (by have := hf.nv; omega) (by have := hf.nv; omega) (by omega)
  rw [Int.mul_one, Int.toNat_natCast, hf.nv, show Fl.placeK (Kn.Z L V o) a (mkRat (Fl.tot (Kn.Z L V o)) V.length) = R from hR.symm, ← hf.nv] at hMk
  rw [← hR]
  clear hR
  obtain ⟨x, y, hxy⟩ := optFr_pair R
  rw [hxy] at hMk ⊢
  generalize R.isSome = bv at hMk ⊢
  have HMk := Lib.hid hMk
  clear hMk hxy
  have hA := below_alloc3 w (.cells #[.slice aoL nL cL, .slice aoV nV cV] 57) (.cells #[.int .i64 a.num, .int .i64 a.den] 124) (.cells #[.int .i64 0, .int .i64 0] 124)
  have e8 := heap_alloc3_all w (.cells #[.slice aoL nL cL, .slice aoV nV cV] 57) (.cells #[.int .i64 a.num, .int .i64 a.den] 124) (.cells #[.int .i64 0, .int .i64 0] 124)
  obtain ⟨rf, ra, rr⟩ := e8
  go_enter Try.func164, Try.ntmps164
  go_upto_region 1 with fail
  generalize ((w.alloc (.cells #[.slice aoL nL cL, .slice aoV nV cV] 57)).alloc (.cells #[.int .i64 a.num, .int .i64 a.den] 124)).alloc (.cells #[.int .i64 0, .int .i64 0] 124) = W1 at hA rf ra rr ⊢
  obtain ⟨⟨f0, f1⟩, -, -⟩ := row_fr rf
  obtain ⟨⟨c0, c1⟩, -, -⟩ := row_fr ra
  have hs1 : w.heap.size + 1 + 1 < W1.heap.size := heap_lt rr
  go_region_held3 (fun w' => w'.cell? ⟨w.heap.size, 0, none⟩ = some (.slice aoL nL cL) ∧ w'.cell? ⟨w.heap.size, 1, none⟩ = some (.slice aoV nV cV) ∧ w'.cell? ⟨w.heap.size + 1, 0, none⟩ = some (.int .i64 a.num) ∧ w'.cell? ⟨w.heap.size + 1, 1, none⟩ = some (.int .i64 a.den))
    (first | exact ⟨f0, f1, c0, c1⟩ | exact ⟨cell_two_other _ _ (by omega) kb.1, cell_two_other _ _ (by omega) kb.2.1, cell_two_other _ _ (by omega) kb.2.2.1, cell_two_other _ _ (by omega) kb.2.2.2⟩ | exact kb | exact ka)
    (first
      | (go_at_call 107; refine (kown_any L V o _ _ _ _ _ _ _ (hf.below (below_drewN hA 1)).hL (hf.below (below_drewN hA 1)).hV hf.nl hf.nv hok ho).mono ?_; rintro e w2 ⟨ao2, cap2, rfl, hl2, hb2⟩; have ka := And.intro (keep_cell hb2 f0) (And.intro (keep_cell hb2 f1) (And.intro (keep_cell hb2 c0) (keep_cell hb2 c1))))
      | (go_at_call 156; refine (HMk.out _ _ _ hl2).mono ?_; rintro e w3 ⟨rfl, hb3⟩; have kb := And.intro (keep_cell hb3 ka.1) (And.intro (keep_cell hb3 ka.2.1) (And.intro (keep_cell hb3 ka.2.2.1) (keep_cell hb3 ka.2.2.2))); have rr4 := heap_keep hb3 (heap_keep hb2 rr); obtain ⟨⟨z0, z1⟩, y0, y1⟩ := row_fr rr4))
  have hB1 := below_drewN hA 1
  have hB2 := hB1.trans (hb2.mono hB1.size)
  have hB3 := hB2.trans (hb3.mono hB2.size)
  go_wp2
  exact bodyPost_ret (results_cell_tmp rfl _ _ _ _ _ _ _ rfl (two_cells rr4 (.int .i64 x) (.int .i64 y)) Try.underlying124 rfl kinfoFr2) rfl ⟨rfl, below_setCell (below_setCell hB3 (by omega) _) (by omega) _⟩
end Go.Proofs.Ytemlfklipkpacaa
