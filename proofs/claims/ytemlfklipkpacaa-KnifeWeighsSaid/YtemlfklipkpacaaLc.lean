import Derived.Test.YtemlfklipkpacaaLa
import Derived.Test.YtemlfklipkpacaaLb
import Derived.Test.YtemlfklipkpacaaKk
/- Worth of package knife. -/
namespace Go.Proofs.Ytemlfklipkpacaa
open Go.RowKit
/-- The code of Worth. -/
def Kn.wcode (L : List Int) (V : List (List Int)) (o n1 d1 n2 d2 : Int) : Int :=
  if Kn.ocode L V o ≠ 0 then Kn.ocode L V o else if Fl.plc (Kn.stop L) n1 d1 1000000 && (Fl.plc (Kn.stop L) n2 d2 1000000 && decide (mkRat n1 d1.toNat ≤ mkRat n2 d2.toNat)) then 0 else 1
/-- What Worth answers. -/
def Kn.wval (L : List Int) (V : List (List Int)) (o n1 d1 n2 d2 : Int) : Value := frOr (Kn.wcode L V o n1 d1 n2 d2) (Fl.worth (Kn.Z L V o.toNat) (mkRat n1 d1.toNat) (mkRat n2 d2.toNat))
theorem kpl_of {E : Int} {a b : Rat} (h0 : 0 ≤ a) (h1 : a ≤ (E : Rat)) (h2 : 0 ≤ b) (h3 : b ≤ (E : Rat)) (hE : E ≤ 120) (da : (a.den : Int) ≤ 1000000) (db : (b.den : Int) ≤ 1000000) : KPl a b 20 := by
  have e1 : (E : Rat) ≤ ((1000 : Int) : Rat) := Rat.intCast_le_intCast.2 (by omega)
  have e2 : ((1000 : Int) : Rat) = ((1000 : Nat) : Rat) := rfl
  have m : (a.den : Int) * (b.den : Int) ≤ 1000000 * 1000000 := Int.mul_le_mul da db (by omega) (by omega)
  exact ⟨h0, h2, by grind, by grind, by omega, by omega⟩
theorem cmp_places {E : Int} {a b : Rat} (h0 : 0 ≤ a) (h1 : a ≤ (E : Rat)) (h2 : 0 ≤ b) (h3 : b ≤ (E : Rat)) (hE : E ≤ 120) (da : (a.den : Int) ≤ 1000000) (db : (b.den : Int) ≤ 1000000) : CmpOk a b := by
  have e1 : (E : Rat) ≤ ((120 : Int) : Rat) := Rat.intCast_le_intCast.2 (by omega)
  have e2 : ((120 : Int) : Rat) = ((120 : Nat) : Rat) := rfl
  exact KAt.cmp ⟨h0, by grind, by omega⟩ ⟨h2, by grind, by omega⟩

set_option maxRecDepth 100000 in
set_option maxHeartbeats 8000000 in
theorem kWorth_any (L : List Int) (V : List (List Int)) (o n1 d1 n2 d2 : Int) (aoL : Option Addr) (nL cL : Nat) (aoV : Option Addr) (nV cV : Nat) (w : World) (hf : Fld w aoL nL aoV nV L V) (hl : nL ≤ 100) (hv : nV ≤ 100) (hr : ∀ r ∈ V, r.length ≤ 100) (hn1 : n1 ≤ 9223372036854775807) (hn2 : n2 ≤ 9223372036854775807) :
    Calls Try.prog 60 #[.agg #[.slice aoL nL cL, .slice aoV nV cV], .int .i64 o, .agg #[.int .i64 n1, .int .i64 d1], .agg #[.int .i64 n2, .int .i64 d2]] w fun e w' => e = .returned (.tuple #[Kn.wval L V o n1 d1 n2 d2, .int .i64 (Kn.wcode L V o n1 d1 n2 d2)]) ∧ Below w.heap.size w w' := by
  have hA := below_alloc4 w (.cells #[.slice aoL nL cL, .slice aoV nV cV] 57) (.cells #[.int .i64 n1, .int .i64 d1] 29) (.cells #[.int .i64 n2, .int .i64 d2] 29) (.cells #[.int .i64 0, .int .i64 0] 29)
  obtain ⟨rf, ra, rb, rr⟩ := heap_alloc4 w (.cells #[.slice aoL nL cL, .slice aoV nV cV] 57) (.cells #[.int .i64 n1, .int .i64 d1] 29) (.cells #[.int .i64 n2, .int .i64 d2] 29) (.cells #[.int .i64 0, .int .i64 0] 29)
  go_enter Try.func60, Try.ntmps60
  go_upto_region 1 with fail
  generalize (((w.alloc (.cells #[.slice aoL nL cL, .slice aoV nV cV] 57)).alloc (.cells #[.int .i64 n1, .int .i64 d1] 29)).alloc (.cells #[.int .i64 n2, .int .i64 d2] 29)).alloc (.cells #[.int .i64 0, .int .i64 0] 29) = W0 at hA rf ra rb rr ⊢
  obtain ⟨G, hG⟩ : ∃ g, g = w.heap.size := ⟨_, rfl⟩
  rw [← hG] at rf ra rb rr ⊢
  have HG := Lib.hid hG
  clear hG
  replace hf := hf.below hA
  obtain ⟨⟨x0, x1⟩, -, -⟩ := row_fr rf
  go_wp2_with fail
  refine ((kvalidateOwner_any L V o _ _ _ _ _ _ W0 hf hl hv hr)).mono ?_
  rintro e w1 ⟨rfl, hbb⟩
  replace hf := hf.below hbb
  replace rf := heap_keep hbb rf
  replace ra := heap_keep hbb ra
  replace rb := heap_keep hbb rb
  replace rr := heap_keep hbb rr
  replace hA := hA.trans (hbb.mono hA.size)
  clear hbb
  clear x0 x1
  obtain ⟨⟨x0, x1⟩, -, -⟩ := row_fr rf
  obtain ⟨⟨a0, a1⟩, -, -⟩ := row_fr ra
  obtain ⟨⟨b0, b1⟩, -, -⟩ := row_fr rb
  by_cases hz : Kn.ocode L V o = 0
  · rw [hz]
    have hzv : Kn.val L V = 0 ∧ Kn.isO V o = true := by
      unfold Kn.ocode at hz
      split at hz
      · rename_i h; exact absurd hz h
      · rename_i h
        split at hz
        · rename_i h2; exact ⟨by simpa using h, h2⟩
        · cases hz
    have hok := Kn.val_ok.1 hzv.1
    have hst := hok.stopB
    have hoo : 0 ≤ o ∧ o < (V.length : Int) := by have := hzv.2; unfold Kn.isO at this; simpa using this
    have hcode : Kn.wcode L V o n1 d1 n2 d2 = if Fl.plc (Kn.stop L) n1 d1 1000000 && (Fl.plc (Kn.stop L) n2 d2 1000000 && decide (mkRat n1 d1.toNat ≤ mkRat n2 d2.toNat)) then 0 else 1 := by
      unfold Kn.wcode; rw [if_neg (by simpa using hz)]
    have HC := Lib.hid hcode
    clear hcode hzv
    have hbad : Kn.wcode L V o n1 d1 n2 d2 = 1 → Kn.wval L V o n1 d1 n2 d2 = .agg #[.int .i64 0, .int .i64 0] := fun h => by
      unfold Kn.wval; rw [h]; rfl
    have HB := Lib.hid hbad
    clear hbad
    cases hp1 : Fl.plc (Kn.stop L) n1 d1 1000000 with
    | false =>
      have hc : Kn.wcode L V o n1 d1 n2 d2 = 1 := by rw [HC.out, hp1]; rfl
      have HV := Lib.hid (And.intro hc (HB.out hc))
      clear hc
      go_wp2_with fail
      refine ((kisPlace_any L V n1 d1 _ _ _ _ _ _ w1 hf hok hn1)).mono ?_
      rintro e w2 ⟨rfl, hbb⟩
      replace hf := hf.below hbb
      replace rf := heap_keep hbb rf
      replace ra := heap_keep hbb ra
      replace rb := heap_keep hbb rb
      replace rr := heap_keep hbb rr
      replace hA := hA.trans (hbb.mono hA.size)
      clear hbb
      rw [hp1]
      clear x0 x1 a0 a1 b0 b1
      obtain ⟨⟨r0, r1⟩, s0, s1⟩ := row_fr rr
      go_wp2_with fail
      rw [HV.out.1, HV.out.2]
      exact bodyPost_ret (results_cell_tmp rfl _ _ _ _ _ _ _ rfl (two_cells rr (.int .i64 0) (.int .i64 0)) Try.underlying29 rfl infoRat2) rfl ⟨rfl, below_setCell (below_setCell hA (by have := HG.out; omega) _) (by have := HG.out; omega) _⟩
    | true =>
      go_wp2_with fail
      refine ((kisPlace_any L V n1 d1 _ _ _ _ _ _ w1 hf hok hn1)).mono ?_
      rintro e w3 ⟨rfl, hbb⟩
      replace hf := hf.below hbb
      replace rf := heap_keep hbb rf
      replace ra := heap_keep hbb ra
      replace rb := heap_keep hbb rb
      replace rr := heap_keep hbb rr
      replace hA := hA.trans (hbb.mono hA.size)
      clear hbb
      rw [hp1]
      clear x0 x1 a0 a1 b0 b1
      obtain ⟨⟨x0, x1⟩, -, -⟩ := row_fr rf
      obtain ⟨⟨b0, b1⟩, -, -⟩ := row_fr rb
      cases hp2 : Fl.plc (Kn.stop L) n2 d2 1000000 with
      | false =>
        have hc : Kn.wcode L V o n1 d1 n2 d2 = 1 := by rw [HC.out, hp1, hp2]; rfl
        have HV := Lib.hid (And.intro hc (HB.out hc))
        clear hc
        go_wp2_with fail
        refine ((kisPlace_any L V n2 d2 _ _ _ _ _ _ w3 hf hok hn2)).mono ?_
        rintro e w4 ⟨rfl, hbb⟩
        replace hf := hf.below hbb
        replace rf := heap_keep hbb rf
        replace ra := heap_keep hbb ra
        replace rb := heap_keep hbb rb
        replace rr := heap_keep hbb rr
        replace hA := hA.trans (hbb.mono hA.size)
        clear hbb
        rw [hp2]
        clear x0 x1 b0 b1
        obtain ⟨⟨r0, r1⟩, s0, s1⟩ := row_fr rr
        go_wp2_with fail
        rw [HV.out.1, HV.out.2]
        exact bodyPost_ret (results_cell_tmp rfl _ _ _ _ _ _ _ rfl (two_cells rr (.int .i64 0) (.int .i64 0)) Try.underlying29 rfl infoRat2) rfl ⟨rfl, below_setCell (below_setCell hA (by have := HG.out; omega) _) (by have := HG.out; omega) _⟩
      | true =>
        go_wp2_with fail
        refine ((kisPlace_any L V n2 d2 _ _ _ _ _ _ w3 hf hok hn2)).mono ?_
        rintro e w5 ⟨rfl, hbb⟩
        replace hf := hf.below hbb
        replace rf := heap_keep hbb rf
        replace ra := heap_keep hbb ra
        replace rb := heap_keep hbb rb
        replace rr := heap_keep hbb rr
        replace hA := hA.trans (hbb.mono hA.size)
        clear hbb
        rw [hp2]
        clear x0 x1 b0 b1
        obtain ⟨q1, hq1, e1, e2, p1, p2, p3⟩ := Fl.plc_rat hp1
        obtain ⟨q2, hq2, f1, f2, g1, g2, g3⟩ := Fl.plc_rat hp2
        have hC2 : Kn.wcode L V o n1 d1 n2 d2 = if q1 ≤ q2 then 0 else 1 := by rw [HC.out, hp1, hp2, hq1, hq2]; simp
        have hV2 : Kn.wval L V o n1 d1 n2 d2 = frOr (Kn.wcode L V o n1 d1 n2 d2) (Fl.worth (Kn.Z L V o.toNat) q1 q2) := by unfold Kn.wval; rw [← hq1, ← hq2]
        have HC2 := Lib.hid hC2
        have HV2 := Lib.hid hV2
        clear hC2 hV2 hq1 hq2 hp1 hp2
        rw [← e1, ← e2] at ra
        rw [← f1, ← f2] at rb
        clear e1 e2 f1 f2
        obtain ⟨⟨a0, a1⟩, -, -⟩ := row_fr ra
        obtain ⟨⟨b0, b1⟩, -, -⟩ := row_fr rb
        go_wp2_with fail
        refine ((kcompareR_any q1 q2 w5 (cmp_places p1 p2 g1 g2 hst.2 p3 g3))).mono ?_
        rintro e w6 ⟨rfl, hbb⟩
        replace hf := hf.below hbb
        replace rf := heap_keep hbb rf
        replace ra := heap_keep hbb ra
        replace rb := heap_keep hbb rb
        replace rr := heap_keep hbb rr
        replace hA := hA.trans (hbb.mono hA.size)
        clear hbb
        clear a0 a1 b0 b1
        obtain ⟨⟨r0, r1⟩, s0, s1⟩ := row_fr rr
        by_cases hlt : q2 < q1
        · have hc : Kn.wcode L V o n1 d1 n2 d2 = 1 := by rw [HC2.out, if_neg (by grind)]
          have HV := Lib.hid (And.intro hc (HB.out hc))
          have hcm : Fl.cmpR q1 q2 = 1 := by unfold Fl.cmpR; rw [if_neg (by grind), if_pos hlt]
          rw [hcm]
          clear hc
          go_wp2_with fail
          rw [HV.out.1, HV.out.2]
          exact bodyPost_ret (results_cell_tmp rfl _ _ _ _ _ _ _ rfl (two_cells rr (.int .i64 0) (.int .i64 0)) Try.underlying29 rfl infoRat2) rfl ⟨rfl, below_setCell (below_setCell hA (by have := HG.out; omega) _) (by have := HG.out; omega) _⟩
        · have hc : Kn.wcode L V o n1 d1 n2 d2 = 0 := by rw [HC2.out, if_pos (by grind)]
          have hvv : Kn.wval L V o n1 d1 n2 d2 = Fr (Fl.worth (Kn.Z L V o.toNat) q1 q2) := by rw [HV2.out, hc]; rfl
          have hcm : Fl.cmpR q1 q2 ≤ 0 := by unfold Fl.cmpR; rw [if_neg hlt]; split <;> omega
          have HV := Lib.hid (And.intro hc hvv)
          clear hc hvv HC2 HV2
          obtain ⟨k, rfl⟩ := Int.eq_ofNat_of_zero_le hoo.1
          rw [Int.toNat_natCast] at HV
          have hk : k < V.length := by omega
          have hkp := kpl_of p1 p2 g1 g2 hst.2 p3 g3
          obtain ⟨⟨x0, x1⟩, -, -⟩ := row_fr rf
          obtain ⟨⟨a0, a1⟩, -, -⟩ := row_fr ra
          obtain ⟨⟨b0, b1⟩, -, -⟩ := row_fr rb
          clear r0 r1 s0 s1
          go_wp2_with fail
          have hdr : Below w6.heap.size w6 w6.drew := below_drewN (Below.refl w6.heap.size w6) 1
          have hS0 := And.intro x0 (And.intro x1 (And.intro a0 (And.intro a1 (And.intro b0 b1))))
          go_region_held3 (fun w' => w'.cell? ⟨G, 0, none⟩ = some (.slice aoL nL cL) ∧ w'.cell? ⟨G, 1, none⟩ = some (.slice aoV nV cV) ∧ w'.cell? ⟨G + 1, 0, none⟩ = some (.int .i64 q1.num) ∧ w'.cell? ⟨G + 1, 1, none⟩ = some (.int .i64 q1.den) ∧ w'.cell? ⟨G + 1 + 1, 0, none⟩ = some (.int .i64 q2.num) ∧ w'.cell? ⟨G + 1 + 1, 1, none⟩ = some (.int .i64 q2.den))
            (first
              | exact hS0
              | exact ⟨cell_two_other _ _ (by omega) kb.1, cell_two_other _ _ (by omega) kb.2.1, cell_two_other _ _ (by omega) kb.2.2.1, cell_two_other _ _ (by omega) kb.2.2.2.1, cell_two_other _ _ (by omega) kb.2.2.2.2.1, cell_two_other _ _ (by omega) kb.2.2.2.2.2⟩
              | exact kb
              | exact ka)
            (first
              | (go_at_call 107; refine (kown_any L V k _ _ _ _ _ _ _ (hf.below hdr).hL (hf.below hdr).hV hf.nl hf.nv hok hk).mono ?_; rintro e w7 ⟨ao7, cap7, rfl, hl7, hb7⟩; have ka := And.intro (keep_cell hb7 x0) (And.intro (keep_cell hb7 x1) (And.intro (keep_cell hb7 a0) (And.intro (keep_cell hb7 a1) (And.intro (keep_cell hb7 b0) (keep_cell hb7 b1))))))
              | (go_at_call 120; refine (kworth_any (Kn.Z L V k) q1 q2 _ _ _ _ hl7 (by rw [hok.zLen hk]; exact hf.nl) (hok.zOk hk) (by rw [hok.zLen hk]; exact hok.l6) hkp).mono ?_; rintro e w8 ⟨rfl, hb8⟩; have kb := And.intro (keep_cell hb8 ka.1) (And.intro (keep_cell hb8 ka.2.1) (And.intro (keep_cell hb8 ka.2.2.1) (And.intro (keep_cell hb8 ka.2.2.2.1) (And.intro (keep_cell hb8 ka.2.2.2.2.1) (keep_cell hb8 ka.2.2.2.2.2))))); have rr8 := heap_keep hb8 (heap_keep hb7 rr); obtain ⟨⟨z0, z1⟩, v0, v1⟩ := row_fr rr8))
          have hA7 := hA.trans ((hdr.trans hb7).mono hA.size)
          have hA8 := hA7.trans (hb8.mono hA7.size)
          go_wp2
          rw [HV.out.1, HV.out.2]
          exact bodyPost_ret (results_cell_tmp rfl _ _ _ _ _ _ _ rfl (two_cells rr8 (.int .i64 (Fl.worth (Kn.Z L V k) q1 q2).num) (.int .i64 (Fl.worth (Kn.Z L V k) q1 q2).den)) Try.underlying29 rfl infoRat2) rfl ⟨rfl, below_setCell (below_setCell hA8 (by have := HG.out; omega) _) (by have := HG.out; omega) _⟩
  · have hc : Kn.wcode L V o n1 d1 n2 d2 = Kn.ocode L V o := by unfold Kn.wcode; rw [if_pos hz]
    have hvv : Kn.wval L V o n1 d1 n2 d2 = .agg #[.int .i64 0, .int .i64 0] := by unfold Kn.wval frOr; rw [hc, if_neg hz]
    have HV := Lib.hid (And.intro hc hvv)
    clear hc hvv
    have hne : (Kn.ocode L V o != 0) = true := by simp [hz]
    obtain ⟨C, hC⟩ : ∃ C, Kn.ocode L V o = C := ⟨_, rfl⟩
    rw [hC] at hz hne HV ⊢
    clear hC x0 x1 a0 a1 b0 b1
    obtain ⟨⟨r0, r1⟩, s0, s1⟩ := row_fr rr
    go_wp2_with fail
    rw [HV.out.1, HV.out.2]
    exact bodyPost_ret (results_cell_tmp rfl _ _ _ _ _ _ _ rfl (two_cells rr (.int .i64 0) (.int .i64 0)) Try.underlying29 rfl infoRat2) rfl ⟨rfl, below_setCell (below_setCell hA (by have := HG.out; omega) _) (by have := HG.out; omega) _⟩
end Go.Proofs.Ytemlfklipkpacaa
