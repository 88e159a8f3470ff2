import Derived.Test.YtemlfklipkpacaaNh
/- Package knife: half, choose and Choose. -/
namespace Go.Proofs.Ytemlfklipkpacaa
open Go.RowKit
theorem kwhole_z (w : World) : Calls Try.prog 124 #[.int .i64 0] w fun e w' => e = .returned (.agg #[.int .i64 0, .int .i64 1]) ∧ Below w.heap.size w w' := kwhole_any 0 w
theorem zero_from : KFrom ((0 : Int) : Rat) := ⟨by decide, by decide, by decide⟩
theorem half_eq (L : List Int) (V : List (List Int)) (o : Nat) : Fl.placeK (Kn.Z L V o) ((0 : Int) : Rat) (mkRat (Fl.tot (Kn.Z L V o) * 1) (2 : Int).toNat) = Kn.halfK L V o := by
  rw [Int.mul_one]; rfl

set_option maxRecDepth 100000 in
set_option maxHeartbeats 8000000 in
theorem khalf_any (L : List Int) (V : List (List Int)) (o : Nat) (aoL : Option Addr) (nL cL : Nat) (aoV : Option Addr) (nV cV : Nat) (w : World) (hf : Fld w aoL nL aoV nV L V) (hok : Kn.Ok L V) (hk : o < V.length) :
    Calls Try.prog 121 #[.agg #[.slice aoL nL cL, .slice aoV nV cV], .int .i64 o] w fun e w' => e = .returned (optFr (Kn.halfK L V o)) ∧ Below w.heap.size w w' := by
  obtain ⟨M, hM⟩ : ∃ c, c = Kn.halfK L V o := ⟨_, rfl⟩
  rw [← hM]
  have hA := below_alloc2 w (.cells #[.slice aoL nL cL, .slice aoV nV cV] 57) (.cells #[.int .i64 0, .int .i64 0] 124)
  have rf := heap_alloc2_old w (.cells #[.slice aoL nL cL, .slice aoV nV cV] 57) (.cells #[.int .i64 0, .int .i64 0] 124)
  have rr := heap_alloc2_new w (.cells #[.slice aoL nL cL, .slice aoV nV cV] 57) (.cells #[.int .i64 0, .int .i64 0] 124)
  go_enter Try.func121, Try.ntmps121
  go_upto_region 1 with fail
  generalize (w.alloc (.cells #[.slice aoL nL cL, .slice aoV nV cV] 57)).alloc (.cells #[.int .i64 0, .int .i64 0] 124) = WX at hA rf rr ⊢
  obtain ⟨G, hG⟩ : ∃ g, g = w.heap.size := ⟨_, rfl⟩
  rw [← hG] at rf rr ⊢
  have HG := Lib.hid hG
  clear hG
  replace hf := hf.below hA
  have hOw := fun w' (hb : Below WX.heap.size WX w') => kown_any L V o _ _ cL _ _ cV w' (hf.below hb).hL (hf.below hb).hV hf.nl hf.nv hok hk
  have hMk : ∀ w' ao cap, Lnd w' ao (Fl.strips 0 (Kn.Z L V o)) → Calls Try.prog 156 #[.slice ao nL cap, .agg #[.int .i64 0, .int .i64 1], .int .i64 1, .int .i64 2] w' fun e w2 => e = .returned (.tuple #[optFr M, .bool M.isSome]) ∧ Below w'.heap.size w' w2 := fun w' ao cap hp => by
    rw [hM, ← half_eq]
    exact kmark_any (Kn.Z L V o) ((0 : Int) : Rat) 1 2 ao nL cap w' hp (by rw [hok.zLen hk]; exact hf.nl) (hok.zOk hk) (by rw [hok.zLen hk]; exact hok.l6) zero_from (by omega) (by omega) (by omega) (by omega)
  clear hM
  have HOw := Lib.hid hOw
  obtain ⟨x, y, hxy⟩ := optFr_pair M
  obtain ⟨bv, hbv⟩ : ∃ b, M.isSome = b := ⟨_, rfl⟩
  rw [hxy, hbv] at hMk
  have HX := Lib.hid (And.intro hxy hbv)
  have HMk := Lib.hid hMk
  clear hMk hOw hxy hbv
  obtain ⟨⟨x0, x1⟩, -, -⟩ := row_fr rf
  go_wp2_with fail
  refine (HOw.out WX (Below.refl _ _)).mono ?_
  rintro e w1 ⟨ao7, cap7, rfl, hl7, hbb⟩
  replace hf := hf.below hbb
  replace rf := heap_keep hbb rf
  replace rr := heap_keep hbb rr
  replace hA := hA.trans (hbb.mono hA.size)
  clear hbb x0 x1 HOw
  go_wp2_with fail
  refine (kwhole_z w1).mono ?_
  rintro e w2 ⟨rfl, hbb⟩
  replace hl7 := hl7.below hbb
  replace hf := hf.below hbb
  replace rf := heap_keep hbb rf
  replace rr := heap_keep hbb rr
  replace hA := hA.trans (hbb.mono hA.size)
  clear hbb
  go_wp2_with fail
  refine (HMk.out w2 _ _ hl7).mono ?_
  rintro e w3 ⟨rfl, hbb⟩
  replace hf := hf.below hbb
  replace rf := heap_keep hbb rf
  replace rr := heap_keep hbb rr
  replace hA := hA.trans (hbb.mono hA.size)
  clear hbb hl7 HMk
  go_upto_region 2 with fail
  have r9 := heap_alloc_new w3 (.cells #[.int .i64 x, .int .i64 y] 124)
  have hal := (Below.refl w3.heap.size w3).alloc (Nat.le_refl _) (.cells #[.int .i64 x, .int .i64 y] 124)
  replace hf := hf.below hal
  replace rf := heap_keep hal rf
  replace rr := heap_keep hal rr
  replace hA := hA.trans (hal.mono hA.size)
  clear hal
  generalize w3.alloc (.cells #[.int .i64 x, .int .i64 y] 124) = W4 at hf rf rr hA r9 ⊢
  obtain ⟨⟨t0, t1⟩, -, -⟩ := row_fr r9
  obtain ⟨⟨r0, r1⟩, s0, s1⟩ := row_fr rr
  go_wp2_with fail
  rw [HX.out.1]
  exact bodyPost_ret (results_cell_row rfl _ _ _ _ _ _ _ rfl (two_cells rr (.int .i64 x) (.int .i64 y)) Try.underlying124 rfl kinfoFr2) rfl ⟨rfl, below_setCell (below_setCell hA (by have := HG.out; omega) _) (by have := HG.out; omega) _⟩

/-- Where an owner has half of his all. -/
theorem half_facts {L : List Int} {V : List (List Int)} (hok : Kn.Ok L V) {o : Nat} (ho : o < V.length) : ∃ h, Kn.halfK L V o = some h ∧ 0 ≤ h ∧ h ≤ (Kn.stop L : Rat) ∧ h.den ≤ 40 ∧ Fl.worth (Kn.Z L V o) 0 h * 2 = (Fl.tot (Kn.Z L V o) : Rat) := by
  have hzo := hok.zOk ho
  have hs := hok.zStop ho
  have hT := hok.zTot ho
  have hst := hok.stopB
  have hE0 : (0 : Rat) ≤ (Fl.len (Kn.Z L V o) : Rat) := by rw [hs]; exact_mod_cast (show (0 : Int) ≤ Kn.stop L by omega)
  have hT0 : (0 : Rat) < (Fl.tot (Kn.Z L V o) : Rat) := by exact_mod_cast hT.1
  have hW : 0 ≤ mkRat (Fl.tot (Kn.Z L V o)) 2 := Rat.num_nonneg.1 (mk_num_le (by omega)).1
  have hWe : mkRat (Fl.tot (Kn.Z L V o)) 2 * 2 = (Fl.tot (Kn.Z L V o) : Rat) := by
    rw [Rat.mkRat_eq_div]
    exact Rat.div_mul_cancel (by decide)
  unfold Kn.halfK
  cases hc : Fl.placeK (Kn.Z L V o) 0 (mkRat (Fl.tot (Kn.Z L V o)) 2) with
  | none =>
    exfalso
    have h1 := placeK_none hzo Rat.le_refl hE0 hW hc
    rw [worth_cum hzo Rat.le_refl hE0, Fl.cum_all hzo, Fl.cum_zero hzo] at h1
    grind
  | some q =>
    obtain ⟨q1, q2, q3⟩ := placeK_worth hzo Rat.le_refl hE0 hW hc
    obtain ⟨-, -, v, v1, v2, hF⟩ := placeK_facts (V := 20) (D := 2) (by omega) (Frac.int 2 0) hzo Rat.le_refl hE0 hW (Frac.mk _ (by omega)) hc
    have hd := Nat.le_of_dvd (by omega) hF.den
    rw [hs] at q2
    exact ⟨q, rfl, q1, q2, by omega, by rw [q3]; exact hWe⟩
/-- The right piece is worth more to the owner 1. -/
def Kn.chB (L : List Int) (V : List (List Int)) (h : Rat) : Bool := decide (Fl.worth (Kn.Z L V 1) 0 h < Fl.worth (Kn.Z L V 1) h (Kn.stop L : Rat))
def Kn.chP (L : List Int) (V : List (List Int)) (h : Rat) : List Pc := if Kn.chB L V h = true then [(0, (0, 1), pr h), (1, pr h, (Kn.stop L, 1))] else [(1, (0, 1), pr h), (0, pr h, (Kn.stop L, 1))]
/-- What Choose answers. -/
def Kn.chL (L : List Int) (V : List (List Int)) : List Pc := if Kn.val2 L V = 0 then Kn.chP L V ((Kn.halfK L V 0).getD 0) else []
theorem kpl_small {E : Int} (hE : E ≤ 120) {a b : Rat} (h0 : 0 ≤ a) (h1 : 0 ≤ b) (h2 : a ≤ (E : Rat)) (h3 : b ≤ (E : Rat)) (d1 : a.den ≤ 40) (d2 : b.den ≤ 40) : KPl a b 20 := by
  have e1 : (E : Rat) ≤ ((1000 : Int) : Rat) := Rat.intCast_le_intCast.2 (by omega)
  have e2 : ((1000 : Int) : Rat) = ((1000 : Nat) : Rat) := rfl
  have hm : (a.den : Int) * (b.den : Int) ≤ 40 * 40 := Int.mul_le_mul (by omega) (by omega) (by omega) (by omega)
  exact ⟨h0, h1, by grind, by grind, by omega, by omega⟩
/-- What both pieces are worth to an owner. -/
theorem ch_worths {L : List Int} {V : List (List Int)} (hok : Kn.Ok L V) {o : Nat} (ho : o < V.length) {h : Rat} (h0 : 0 ≤ h) (h1 : h ≤ (Kn.stop L : Rat)) (hd : h.den ≤ 40) :
    KPl 0 h 20 ∧ KPl h (Kn.stop L : Rat) 20 ∧ CmpOk (Fl.worth (Kn.Z L V o) 0 h) (Fl.worth (Kn.Z L V o) h (Kn.stop L : Rat)) ∧ CmpOk (Fl.worth (Kn.Z L V o) h (Kn.stop L : Rat)) (Fl.worth (Kn.Z L V o) 0 h) ∧ CmpOk (Fl.worth (Kn.Z L V o) 0 h) (Fl.worth (Kn.Z L V o) 0 h) ∧ CmpOk (Fl.worth (Kn.Z L V o) h (Kn.stop L : Rat)) (Fl.worth (Kn.Z L V o) h (Kn.stop L : Rat)) := by
  have hst := hok.stopB
  have hzo := hok.zOk ho
  have hl6 : (Kn.Z L V o).length ≤ 6 := by rw [hok.zLen ho]; exact hok.l6
  obtain ⟨a1, a2, a3⟩ := worth_facts (D := h.den) hzo hl6 Rat.le_refl h0 (Nat.one_dvd _) (Nat.dvd_refl _)
  obtain ⟨b1, b2, b3⟩ := worth_facts (D := h.den) hzo hl6 h0 h1 (Nat.dvd_refl _) (Nat.one_dvd _)
  have hp := h.den_pos
  have a4 := Nat.le_of_dvd hp a3
  have b4 := Nat.le_of_dvd hp b3
  have key : ∀ {x y : Rat}, 0 ≤ x → x ≤ ((2400 : Nat) : Rat) → x.den ≤ 40 → 0 ≤ y → y ≤ ((2400 : Nat) : Rat) → y.den ≤ 40 → CmpOk x y := fun {x y} x0 x1 x2 y0 y1 y2 => by
    have n1 := Fl.num_le x1
    have n2 := Fl.num_le y1
    have p1 := Fl.num_nonneg x0
    have p2 := Fl.num_nonneg y0
    have k1 : x.num * (y.den : Int) ≤ 96000 * 40 := Int.mul_le_mul (by omega) (by omega) (by omega) (by omega)
    have k2 : y.num * (x.den : Int) ≤ 96000 * 40 := Int.mul_le_mul (by omega) (by omega) (by omega) (by omega)
    exact ⟨p1, p2, by omega, by omega⟩
  have hE : (0 : Rat) ≤ (Kn.stop L : Rat) := Rat.le_trans h0 h1
  refine ⟨kpl_small hst.2 Rat.le_refl h0 hE h1 (by decide) hd, kpl_small hst.2 h0 hE h1 Rat.le_refl hd (by rw [Rat.den_intCast]; decide), ?_, ?_, ?_, ?_⟩
  · exact key a1 a2 (by omega) b1 b2 (by omega)
  · exact key b1 b2 (by omega) a1 a2 (by omega)
  · exact key a1 a2 (by omega) a1 a2 (by omega)
  · exact key b1 b2 (by omega) b1 b2 (by omega)
theorem cmpR_lt (x y : Rat) : decide (Fl.cmpR x y < 0) = decide (x < y) := by
  unfold Fl.cmpR
  by_cases h : x < y
  · rw [if_pos h, decide_eq_true h]; rfl
  · rw [if_neg h, decide_eq_false h, decide_eq_false_iff_not]
    split <;> omega

set_option maxRecDepth 100000 in
set_option maxHeartbeats 8000000 in
theorem kchoose_any (L : List Int) (V : List (List Int)) (h : Rat) (aoL : Option Addr) (nL cL : Nat) (aoV : Option Addr) (nV cV : Nat) (w : World) (hf : Fld w aoL nL aoV nV L V) (hok : Kn.Ok L V) (h2 : V.length = 2) (hh : Kn.halfK L V 0 = some h) (h0 : 0 ≤ h) (h1 : h ≤ (Kn.stop L : Rat)) (hd : h.den ≤ 40) :
    Calls Try.prog 100 #[.agg #[.slice aoL nL cL, .slice aoV nV cV]] w fun e w' => ∃ g, e = .returned (.slice (some ⟨g, 0, none⟩) 2 2) ∧ w'.ownsRow w.heap.size 86 5 (.slice (some ⟨g, 0, none⟩) 2 2) 2 (flat5 (Kn.chP L V h)) ∧ Below w.heap.size w w' := by
  obtain ⟨k1, k2, k3, -, -, -⟩ := ch_worths hok (o := 1) (by omega) h0 h1 hd
  have hzl := hok.zLen (o := 1) (by omega)
  have hB : Hid (Kn.chP L V h = if Kn.chB L V h = true then [(0, (0, 1), pr h), (1, pr h, (Kn.stop L, 1))] else [(1, (0, 1), pr h), (0, pr h, (Kn.stop L, 1))]) := Lib.hid rfl
  have hcB : decide (Fl.cmpR (Fl.worth (Kn.Z L V 1) 0 h) (Fl.worth (Kn.Z L V 1) h (Kn.stop L : Rat)) < 0) = Kn.chB L V h := cmpR_lt _ _
  have HnL := Lib.hid hf.nl
  have hA := (Below.refl _ w).alloc (Nat.le_refl _) (.cells #[.slice aoL nL cL, .slice aoV nV cV] 57)
  have rf := heap_alloc_new w (.cells #[.slice aoL nL cL, .slice aoV nV cV] 57)
  go_enter Try.func100, Try.ntmps100
  go_upto_region 1 with fail
  generalize w.alloc (.cells #[.slice aoL nL cL, .slice aoV nV cV] 57) = W0 at hA rf ⊢
  replace hf := hf.below hA
  have hKh := khalf_any L V 0 aoL nL cL aoV nV cV W0 hf hok hok.v1
  rw [hh, optFr_some] at hKh
  clear hh
  obtain ⟨⟨x0, x1⟩, -, -⟩ := row_fr rf
  go_wp2_with fail
  refine hKh.mono ?_
  rintro e w1 ⟨rfl, hbb⟩
  replace hf := hf.below hbb
  replace rf := heap_keep hbb rf
  replace hA := hA.trans (hbb.mono hA.size)
  clear hbb x0 x1 hKh
  go_upto_region 2 with fail
  have r3 := heap_alloc_new w1 (.cells #[.int .i64 h.num, .int .i64 h.den] 124)
  have hal := (Below.refl w1.heap.size w1).alloc (Nat.le_refl _) (.cells #[.int .i64 h.num, .int .i64 h.den] 124)
  replace hf := hf.below hal
  replace rf := heap_keep hal rf
  replace hA := hA.trans (hal.mono hA.size)
  clear hal
  generalize w1.alloc (.cells #[.int .i64 h.num, .int .i64 h.den] 124) = W2 at r3 hf rf hA ⊢
  obtain ⟨⟨x0, x1⟩, -, -⟩ := row_fr rf
  obtain ⟨⟨y0, y1⟩, -, -⟩ := row_fr r3
  go_wp2_with fail
  have hsz2 := hA.size
  refine (ksplit_any L V 1 0 h aoL nL cL aoV nV cV W2 hf hok).mono ?_
  rintro e w3 ⟨g, rfl, o1, hbb⟩
  replace hf := hf.below hbb
  replace rf := heap_keep hbb rf
  replace r3 := heap_keep hbb r3
  replace hA := hA.trans (hbb.mono hA.size)
  clear hbb x0 x1 y0 y1
  obtain ⟨g', cap', he, hgb, hgl, -, hc⟩ := own_cells o1 (by omega)
  cases he
  have p0 := hc 0 _ rfl
  have p1 := hc 1 _ rfl
  have p2 := hc 2 _ rfl
  have p3 := hc 3 _ rfl
  have p4 := hc 4 _ rfl
  have p5 := hc 5 _ rfl
  have p6 := hc 6 _ rfl
  have p7 := hc 7 _ rfl
  have p8 := hc 8 _ rfl
  have p9 := hc 9 _ rfl
  simp only [pr] at p3 p4 p6 p7
  clear hc
  obtain ⟨⟨x0, x1⟩, -, -⟩ := row_fr rf
  go_wp2_with fail
  refine (kown_any L V 1 _ _ _ _ _ _ w3 hf.hL hf.hV hf.nl hf.nv hok (by omega)).mono ?_
  rintro e w4 ⟨ao2, cap2, rfl, hl2, hbb⟩
  replace hf := hf.below hbb
  replace rf := heap_keep hbb rf
  replace r3 := heap_keep hbb r3
  replace hA := hA.trans (hbb.mono hA.size)
  replace p0 := keep_cell hbb p0
  replace p1 := keep_cell hbb p1
  replace p2 := keep_cell hbb p2
  replace p3 := keep_cell hbb p3
  replace p4 := keep_cell hbb p4
  replace p5 := keep_cell hbb p5
  replace p6 := keep_cell hbb p6
  replace p7 := keep_cell hbb p7
  replace p8 := keep_cell hbb p8
  replace p9 := keep_cell hbb p9
  replace o1 := own_below o1 hbb
  clear hbb x0 x1
  have hK1 := fun w' (hp : Lnd w' ao2 (Fl.strips 0 (Kn.Z L V 1))) => kworthOf_any (Kn.Z L V 1) 1 0 h ao2 nL cap2 w' hp (by rw [hzl]; exact HnL.out) (hok.zOk (by omega)) (by rw [hzl]; exact hok.l6) k1
  have hK2 := fun w' (hp : Lnd w' ao2 (Fl.strips 0 (Kn.Z L V 1))) => kworthOf_any (Kn.Z L V 1) 0 h (Kn.stop L : Rat) ao2 nL cap2 w' hp (by rw [hzl]; exact HnL.out) (hok.zOk (by omega)) (by rw [hzl]; exact hok.l6) k2
  generalize Fl.worth (Kn.Z L V 1) 0 h = Wa at hK1 hcB k3
  generalize Fl.worth (Kn.Z L V 1) h (Kn.stop L : Rat) = Wb at hK2 hcB k3
  obtain ⟨E, hE⟩ : ∃ e, e = Kn.stop L := ⟨_, rfl⟩
  have hE2 : Hid (E = Kn.stop L) := Lib.hid hE
  have hK3 : ∀ w', Lnd w' ao2 (Fl.strips 0 (Kn.Z L V 1)) → Calls Try.prog 109 #[.slice ao2 nL cap2, .agg #[.int .i64 0, .int .i64 h.num, .int .i64 h.den, .int .i64 E, .int .i64 1]] w' fun e w'' => e = .returned (Fr Wb) ∧ Below w'.heap.size w' w'' := by rw [hE]; exact hK2
  have hK4 : ∀ w', Lnd w' ao2 (Fl.strips 0 (Kn.Z L V 1)) → Calls Try.prog 109 #[.slice ao2 nL cap2, .agg #[.int .i64 1, .int .i64 0, .int .i64 1, .int .i64 h.num, .int .i64 h.den]] w' fun e w'' => e = .returned (Fr Wa) ∧ Below w'.heap.size w' w'' := hK1
  rw [← hE] at p8
  have HK3 := Lib.hid hK3
  have HK4 := Lib.hid hK4
  clear hK1 hK2 hK3 hK4 hE
  go_upto_region 4 with fail
  have hdr : Below w4.heap.size w4 w4.drew := below_drewN (Below.refl w4.heap.size w4) 1
  have hS0 := And.intro p0 (And.intro p1 (And.intro p2 (And.intro p3 (And.intro p4 (And.intro p5 (And.intro p6 (And.intro p7 (And.intro p8 (p9)))))))))
  have keepS : ∀ {W : World}, Below w4.heap.size w4 W → (w4.cell? ⟨g, 0, none⟩ = some (.int .i64 1) ∧ w4.cell? ⟨g, 1, none⟩ = some (.int .i64 0) ∧ w4.cell? ⟨g, 2, none⟩ = some (.int .i64 1) ∧ w4.cell? ⟨g, 3, none⟩ = some (.int .i64 h.num) ∧ w4.cell? ⟨g, 4, none⟩ = some (.int .i64 h.den) ∧ w4.cell? ⟨g, 5, none⟩ = some (.int .i64 0) ∧ w4.cell? ⟨g, 6, none⟩ = some (.int .i64 h.num) ∧ w4.cell? ⟨g, 7, none⟩ = some (.int .i64 h.den) ∧ w4.cell? ⟨g, 8, none⟩ = some (.int .i64 E) ∧ w4.cell? ⟨g, 9, none⟩ = some (.int .i64 1)) → (W.cell? ⟨g, 0, none⟩ = some (.int .i64 1) ∧ W.cell? ⟨g, 1, none⟩ = some (.int .i64 0) ∧ W.cell? ⟨g, 2, none⟩ = some (.int .i64 1) ∧ W.cell? ⟨g, 3, none⟩ = some (.int .i64 h.num) ∧ W.cell? ⟨g, 4, none⟩ = some (.int .i64 h.den) ∧ W.cell? ⟨g, 5, none⟩ = some (.int .i64 0) ∧ W.cell? ⟨g, 6, none⟩ = some (.int .i64 h.num) ∧ W.cell? ⟨g, 7, none⟩ = some (.int .i64 h.den) ∧ W.cell? ⟨g, 8, none⟩ = some (.int .i64 E) ∧ W.cell? ⟨g, 9, none⟩ = some (.int .i64 1)) :=
    fun hb h => ⟨keep_cell hb h.1, keep_cell hb h.2.1, keep_cell hb h.2.2.1, keep_cell hb h.2.2.2.1, keep_cell hb h.2.2.2.2.1, keep_cell hb h.2.2.2.2.2.1, keep_cell hb h.2.2.2.2.2.2.1, keep_cell hb h.2.2.2.2.2.2.2.1, keep_cell hb h.2.2.2.2.2.2.2.2.1, keep_cell hb h.2.2.2.2.2.2.2.2.2⟩
  refine wp_region_held_drew (S := fun w' => w'.cell? ⟨g, 0, none⟩ = some (.int .i64 1) ∧ w'.cell? ⟨g, 1, none⟩ = some (.int .i64 0) ∧ w'.cell? ⟨g, 2, none⟩ = some (.int .i64 1) ∧ w'.cell? ⟨g, 3, none⟩ = some (.int .i64 h.num) ∧ w'.cell? ⟨g, 4, none⟩ = some (.int .i64 h.den) ∧ w'.cell? ⟨g, 5, none⟩ = some (.int .i64 0) ∧ w'.cell? ⟨g, 6, none⟩ = some (.int .i64 h.num) ∧ w'.cell? ⟨g, 7, none⟩ = some (.int .i64 h.den) ∧ w'.cell? ⟨g, 8, none⟩ = some (.int .i64 E) ∧ w'.cell? ⟨g, 9, none⟩ = some (.int .i64 1)) (by kernel_rfl) (keepS hdr hS0) (fun hHeld => ?_)
  refine wpAnyH_take (i := 0) (v := .slice ao2 nL cap2) rfl (by kernel_rfl) (by kernel_rfl) (by kernel_rfl) (fun _ _ _ h => h) (Or.inl ⟨by rfl, fun w hSw => ?_⟩) (by assumption) ?_
  · obtain ⟨s0, s1, s2, s3, s4, s5, s6, s7, s8, s9⟩ := hSw
    (go_simp <;> omega)
  try simp only [List.getElem_toArray, List.getElem_cons_zero, Act.put, List.setIfInBounds_toArray, List.set_cons_zero, List.set_cons_succ]
  refine wpAnyH_take (i := 1) (v := .slice (some ⟨g, 0, none⟩) 2 2) rfl (by kernel_rfl) (by kernel_rfl) (by kernel_rfl) (fun _ _ _ h => h) (Or.inl ⟨by rfl, fun w hSw => ?_⟩) (by assumption) ?_
  · obtain ⟨s0, s1, s2, s3, s4, s5, s6, s7, s8, s9⟩ := hSw
    (go_simp <;> omega)
  try simp only [List.getElem_toArray, List.getElem_cons_zero, List.getElem_cons_succ, Act.put, List.setIfInBounds_toArray, List.set_cons_zero, List.set_cons_succ]
  refine wpAnyH_take (i := 2) (v := .pointer (some ⟨g, 0, none⟩)) rfl (by kernel_rfl) (by kernel_rfl) (by kernel_rfl) (fun _ _ _ h => h) (Or.inl ⟨by rfl, fun w hSw => ?_⟩) (by assumption) ?_
  · obtain ⟨s0, s1, s2, s3, s4, s5, s6, s7, s8, s9⟩ := hSw
    (go_simp <;> omega)
  try simp only [List.getElem_toArray, List.getElem_cons_zero, List.getElem_cons_succ, Act.put, List.setIfInBounds_toArray, List.set_cons_zero, List.set_cons_succ]
  refine wpAnyH_take (i := 3) (v := .agg #[.int .i64 1, .int .i64 0, .int .i64 1, .int .i64 h.num, .int .i64 h.den]) rfl (by kernel_rfl) (by kernel_rfl) (by kernel_rfl) (fun _ _ _ h => h) (Or.inl ⟨by rfl, fun w hSw => ?_⟩) (by assumption) ?_
  · obtain ⟨s0, s1, s2, s3, s4, s5, s6, s7, s8, s9⟩ := hSw
    (go_simp <;> omega)
  try simp only [List.getElem_toArray, List.getElem_cons_zero, List.getElem_cons_succ, Act.put, List.setIfInBounds_toArray, List.set_cons_zero, List.set_cons_succ]
  refine wpAnyH_take (i := 5) (v := .slice ao2 nL cap2) rfl (by kernel_rfl) (by kernel_rfl) (by kernel_rfl) (fun _ _ _ h => h) (Or.inl ⟨by rfl, fun w hSw => ?_⟩) (by assumption) ?_
  · obtain ⟨s0, s1, s2, s3, s4, s5, s6, s7, s8, s9⟩ := hSw
    (go_simp <;> omega)
  try simp only [List.getElem_toArray, List.getElem_cons_zero, List.getElem_cons_succ, Act.put, List.setIfInBounds_toArray, List.set_cons_zero, List.set_cons_succ]
  refine wpAnyH_take (i := 6) (v := .slice (some ⟨g, 0, none⟩) 2 2) rfl (by kernel_rfl) (by kernel_rfl) (by kernel_rfl) (fun _ _ _ h => h) (Or.inl ⟨by rfl, fun w hSw => ?_⟩) (by assumption) ?_
  · obtain ⟨s0, s1, s2, s3, s4, s5, s6, s7, s8, s9⟩ := hSw
    (go_simp <;> omega)
  try simp only [List.getElem_toArray, List.getElem_cons_zero, List.getElem_cons_succ, Act.put, List.setIfInBounds_toArray, List.set_cons_zero, List.set_cons_succ]
  refine wpAnyH_take (i := 7) (v := .pointer (some ⟨g, 5, none⟩)) rfl (by kernel_rfl) (by kernel_rfl) (by kernel_rfl) (fun _ _ _ h => h) (Or.inl ⟨by rfl, fun w hSw => ?_⟩) (by assumption) ?_
  · obtain ⟨s0, s1, s2, s3, s4, s5, s6, s7, s8, s9⟩ := hSw
    (go_simp <;> omega)
  try simp only [List.getElem_toArray, List.getElem_cons_zero, List.getElem_cons_succ, Act.put, List.setIfInBounds_toArray, List.set_cons_zero, List.set_cons_succ]
  refine wpAnyH_take (i := 8) (v := .agg #[.int .i64 0, .int .i64 h.num, .int .i64 h.den, .int .i64 E, .int .i64 1]) rfl (by kernel_rfl) (by kernel_rfl) (by kernel_rfl) (fun _ _ _ h => h) (Or.inl ⟨by rfl, fun w hSw => ?_⟩) (by assumption) ?_
  · obtain ⟨s0, s1, s2, s3, s4, s5, s6, s7, s8, s9⟩ := hSw
    (go_simp <;> omega)
  try simp only [List.getElem_toArray, List.getElem_cons_zero, List.getElem_cons_succ, Act.put, List.setIfInBounds_toArray, List.set_cons_zero, List.set_cons_succ]
  refine wpAnyH_ready (rs := [4]) (by kernel_rfl) (by simp) ?_
  refine AllReadyH.cons rfl (fun K hK => ?_) AllReadyH.nil
  go_simp
  go_at_call 109
  refine (HK4.out _ (hl2.below hdr)).mono ?_
  rintro e u1 ⟨rfl, hb1⟩
  have hb1' := hdr.trans (hb1.mono hdr.size)
  (try dsimp only)
  refine hK.out _ _ (keepS hb1' hS0) (fun hHeld => ?_)
  clear hK K
  try simp only [List.getElem_toArray, List.getElem_cons_zero, List.getElem_cons_succ, Act.put, List.setIfInBounds_toArray, List.set_cons_zero, List.set_cons_succ]
  refine wpAnyH_ready (rs := [9]) (by kernel_rfl) (by simp) ?_
  refine AllReadyH.cons rfl (fun K hK => ?_) AllReadyH.nil
  go_simp
  go_at_call 109
  refine (HK3.out _ (hl2.below hb1')).mono ?_
  rintro e u2 ⟨rfl, hb2⟩
  have hb2' := hb1'.trans (hb2.mono hb1'.size)
  (try dsimp only)
  refine hK.out _ _ (keepS hb2' hS0) (fun hHeld => ?_)
  clear hK K
  try simp only [List.getElem_toArray, List.getElem_cons_zero, List.getElem_cons_succ, Act.put, List.setIfInBounds_toArray, List.set_cons_zero, List.set_cons_succ]
  refine wpAnyH_ready (rs := [10]) (by kernel_rfl) (by simp) ?_
  refine AllReadyH.cons rfl (fun K hK => ?_) AllReadyH.nil
  go_simp
  go_at_call 108
  refine (kcompare_any Wa Wb u2 k3).mono ?_
  rintro e u3 ⟨rfl, hb3⟩
  have hb3' := hb2'.trans (hb3.mono hb2'.size)
  (try dsimp only)
  refine hK.out _ _ (keepS hb3' hS0) (fun hHeld => ?_)
  clear hK K
  try simp only [List.getElem_toArray, List.getElem_cons_zero, List.getElem_cons_succ, Act.put, List.setIfInBounds_toArray, List.set_cons_zero, List.set_cons_succ]
  obtain ⟨c, hce⟩ : ∃ c, c = Fl.cmpR Wa Wb := ⟨_, rfl⟩
  rw [← hce] at hcB ⊢
  obtain ⟨bv, hbv⟩ : ∃ b, b = Kn.chB L V h := ⟨_, rfl⟩
  rw [← hbv] at hcB hB
  clear hce hbv
  refine wpAnyH_take (i := 11) (v := .bool bv) rfl (by kernel_rfl) (by kernel_rfl) (by kernel_rfl) (fun _ _ _ h => h) (Or.inl ⟨by rfl, fun w hSw => ?_⟩) (by assumption) ?_
  · obtain ⟨s0, s1, s2, s3, s4, s5, s6, s7, s8, s9⟩ := hSw
    (go_simp <;> omega)
  try simp only [List.getElem_toArray, List.getElem_cons_zero, List.getElem_cons_succ, Act.put, List.setIfInBounds_toArray, List.set_cons_zero, List.set_cons_succ]
  refine wpAnyH_done (by kernel_rfl) ?_ _
  replace hf := hf.below hb3'
  replace rf := heap_keep hb3' rf
  replace r3 := heap_keep hb3' r3
  replace hA := hA.trans (hb3'.mono hA.size)
  replace o1 := own_below o1 hb3'
  clear hdr hS0 keepS hb1 hb2 hb3 hb1' hb2' hb3' hl2 k1 k2 k3 p0 p1 p2 p3 p4 p5 p6 p7 p8 p9
  cases bv with
  | true =>
    obtain ⟨⟨x0, x1⟩, -, -⟩ := row_fr rf
    obtain ⟨⟨y0, y1⟩, -, -⟩ := row_fr r3
    clear hcB
    go_wp2_with fail
    refine (ksplit_any L V 0 1 h aoL nL cL aoV nV cV u3 hf hok).mono ?_
    rintro e z7 ⟨g7, rfl, ho7, hb7⟩
    go_wp2_with fail
    go_ret
    refine ⟨g7, rfl, ?_, hA.trans (hb7.mono hA.size)⟩
    rw [hB.out, if_pos True.intro]
    exact own_mono ho7 hA.size
  | false =>
    clear hcB
    go_wp2_with fail
    go_ret
    refine ⟨g, rfl, ?_, hA⟩
    rw [hB.out, if_neg (by simp)]
    exact own_mono o1 hsz2

set_option maxRecDepth 100000 in
set_option maxHeartbeats 4000000 in
theorem kChoose_any (L : List Int) (V : List (List Int)) (aoL : Option Addr) (nL cL : Nat) (aoV : Option Addr) (nV cV : Nat) (w : World) (hf : Fld w aoL nL aoV nV L V) (hl : nL ≤ 100) (hv : nV ≤ 100) (hr : ∀ r ∈ V, r.length ≤ 100) :
    Calls Try.prog 48 #[.agg #[.slice aoL nL cL, .slice aoV nV cV]] w fun e w' => ∃ v, e = .returned (.tuple #[v, .int .i64 (Kn.val2 L V)]) ∧ w'.ownsRow w.heap.size 86 5 v (Kn.chL L V).length (flat5 (Kn.chL L V)) ∧ Below w.heap.size w w' := by
  have hA := (Below.refl _ w).alloc (Nat.le_refl _) (.cells #[.slice aoL nL cL, .slice aoV nV cV] 57)
  have rf := heap_alloc_new w (.cells #[.slice aoL nL cL, .slice aoV nV cV] 57)
  go_enter Try.func48, Try.ntmps48
  go_upto_region 1 with fail
  generalize w.alloc (.cells #[.slice aoL nL cL, .slice aoV nV cV] 57) = W0 at hA rf ⊢
  obtain ⟨⟨c0, c1⟩, -, -⟩ := row_fr rf
  go_wp2_with fail
  refine (kvalidateTwo_any L V _ _ _ _ _ _ W0 (hf.below hA) hl hv hr).mono ?_
  rintro e w1 ⟨rfl, hb1⟩
  have hB1 := hA.trans (hb1.mono hA.size)
  have rf1 := heap_keep hb1 rf
  clear c0 c1 rf hb1 hA
  by_cases hz : Kn.val2 L V = 0
  · obtain ⟨hok, h2⟩ := val2_ok hz
    obtain ⟨h, hh, h0, h1, hd, -⟩ := half_facts hok (o := 0) (by omega)
    have hk : Hid (Kn.chL L V = Kn.chP L V h) := Lib.hid (by unfold Kn.chL; rw [if_pos hz, hh]; rfl)
    have hlen : Hid ((Kn.chP L V h).length = 2) := Lib.hid (by unfold Kn.chP; split <;> rfl)
    rw [hz]
    have Hz := Lib.hid hz
    clear hz
    obtain ⟨⟨c0, c1⟩, -, -⟩ := row_fr rf1
    go_wp2_with fail
    refine (kchoose_any L V h _ _ _ _ _ _ w1 (hf.below hB1) hok h2 hh h0 h1 hd).mono ?_
    rintro e w2 ⟨g, rfl, hov, hb2⟩
    go_wp2_with fail
    go_ret2
    refine ⟨.slice (some ⟨g, 0, none⟩) 2 2, by simp [Hz.out], ?_, hB1.trans (hb2.mono hB1.size)⟩
    rw [hk.out, hlen.out]
    exact own_mono hov hB1.size
  · have hk : Hid (Kn.chL L V = []) := Lib.hid (by unfold Kn.chL; rw [if_neg hz])
    have hne : (Kn.val2 L V != 0) = true := by simp [hz]
    obtain ⟨C, hC⟩ : ∃ C, Kn.val2 L V = C := ⟨_, rfl⟩
    rw [hC] at hz hne ⊢
    have HC := Lib.hid hC
    clear hC
    go_wp2_with fail
    go_ret2
    refine ⟨.slice none 0 0, by simp [HC.out], ?_, hB1⟩
    rw [hk.out]
    exact own_none
end Go.Proofs.Ytemlfklipkpacaa
