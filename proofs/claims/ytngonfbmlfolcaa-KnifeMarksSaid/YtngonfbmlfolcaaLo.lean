import Derived.Test.YtngonfbmlfolcaaLm
import Derived.Test.YtngonfbmlfolcaaLf
/- Mark and Half of package knife and of its reference. -/
namespace Go.Proofs.Ytngonfbmlfolcaa
open Go.RowKit
/-- What is asked of a mark. -/
def Kn.mok (L : List Int) (n d num den : Int) : Bool := Fl.plc (Kn.stop L) n d 1000000 && (decide (1 ≤ den) && (decide (den ≤ 100) && (decide (0 ≤ num) && decide (num ≤ den))))
/-- The code of Mark. -/
def Kn.mcode (L : List Int) (V : List (List Int)) (o n d num den : Int) : Int := if Kn.ocode L V o ≠ 0 then Kn.ocode L V o else if Kn.mok L n d num den then 0 else 1
/-- What Mark answers. -/
def Kn.mval (L : List Int) (V : List (List Int)) (o n d num den : Int) : Option Rat := if Kn.mcode L V o n d num den = 0 then Fl.placeK (Kn.Z L V o.toNat) (mkRat n d.toNat) (mkRat (Fl.tot (Kn.Z L V o.toNat) * num) den.toNat) else none
/-- What Half answers. -/
def Kn.hval (L : List Int) (V : List (List Int)) (o : Int) : Option Rat := if Kn.ocode L V o = 0 then Kn.halfK L V o.toNat else none
theorem mark_owner {L : List Int} {V : List (List Int)} {o n d num den : Int} (h : Kn.ocode L V o ≠ 0) : Kn.mcode L V o n d num den = Kn.ocode L V o ∧ Kn.mval L V o n d num den = none := by
  have e : Kn.mcode L V o n d num den = Kn.ocode L V o := by unfold Kn.mcode; rw [if_pos h]
  exact ⟨e, by unfold Kn.mval; rw [e, if_neg h]⟩
theorem mark_bad {L : List Int} {V : List (List Int)} {o n d num den : Int} (h : Kn.ocode L V o = 0) (h2 : Kn.mok L n d num den = false) : Kn.mcode L V o n d num den = 1 ∧ Kn.mval L V o n d num den = none := by
  have e : Kn.mcode L V o n d num den = 1 := by unfold Kn.mcode; rw [if_neg (by simpa using h), h2]; rfl
  exact ⟨e, by unfold Kn.mval; rw [e]; rfl⟩
theorem mark_good {L : List Int} {V : List (List Int)} {o n d num den : Int} (h : Kn.ocode L V o = 0) (h2 : Kn.mok L n d num den = true) : Kn.mcode L V o n d num den = 0 ∧ Kn.mval L V o n d num den = Fl.placeK (Kn.Z L V o.toNat) (mkRat n d.toNat) (mkRat (Fl.tot (Kn.Z L V o.toNat) * num) den.toNat) := by
  have e : Kn.mcode L V o n d num den = 0 := by unfold Kn.mcode; rw [if_neg (by simpa using h), h2]; rfl
  exact ⟨e, by unfold Kn.mval; rw [e]; rfl⟩
theorem owner_ok {L : List Int} {V : List (List Int)} {o : Int} (hz : Kn.ocode L V o = 0) : Kn.Ok L V ∧ ∃ k : Nat, o = (k : Int) ∧ k < V.length := by
  have hzv : Kn.val L V = 0 ∧ Kn.isO V o = true := by
    unfold Kn.ocode at hz
    split at hz
    · rename_i h; exact absurd hz h
    · rename_i h
      split at hz
      · rename_i h2; exact ⟨by simpa using h, h2⟩
      · cases hz
  have hoo : 0 ≤ o ∧ o < (V.length : Int) := by have := hzv.2; unfold Kn.isO at this; simpa using this
  exact ⟨Kn.val_ok.1 hzv.1, o.toNat, by omega, by omega⟩
theorem results_cell_tmp2 {P : Program} {fn : Func} {p q r : Tmp} {ty : TypeId} (h : fn.results = #[.cell p ty, .tmp q, .tmp r]) (tmps : Array Value) (w : World) (g : Nat) (t : TypeId) (cs : Array Value) (fr : Nat × Nat) (d : TypeDesc)
    (hp : tmps.getD p undef = .pointer (some ⟨g, 0, none⟩)) (hg : w.heap[g]? = some (.cells cs t fr))
    (hu : P.underlying ty = some d) (hd : (match d with | .struct _ | .array _ _ => true | _ => false) = true) (hi : (P.info? ty).map (·.size) = some cs.size) :
    (results fn tmps).run P w = .ok (.tuple #[.agg cs, tmps.getD q undef, tmps.getD r undef]) w := by
  have hp' : tmps[p]?.getD undef = .pointer (some ⟨g, 0, none⟩) := by simpa using hp
  simp [results, h, hp', asAddr, run_loadVar_row w g t ty cs fr d hg hu hd hi]
theorem optFr_none : optFr none = .agg #[.int .i64 0, .int .i64 0] := rfl

set_option maxRecDepth 100000 in
set_option maxHeartbeats 8000000 in
theorem kMark_any (L : List Int) (V : List (List Int)) (o n d num den : Int) (aoL : Option Addr) (nL cL : Nat) (aoV : Option Addr) (nV cV : Nat) (w : World) (hf : Fld w aoL nL aoV nV L V) (hl : nL ≤ 100) (hv : nV ≤ 100) (hr : ∀ r ∈ V, r.length ≤ 100) (hn : n ≤ 9223372036854775807) :
    Calls Try.prog 46 #[.agg #[.slice aoL nL cL, .slice aoV nV cV], .int .i64 o, .agg #[.int .i64 n, .int .i64 d], .int .i64 num, .int .i64 den] w fun e w' => e = .returned (.tuple #[optFr (Kn.mval L V o n d num den), .bool (Kn.mval L V o n d num den).isSome, .int .i64 (Kn.mcode L V o n d num den)]) ∧ Below w.heap.size w w' := by
  have hown := fun h => mark_owner (L := L) (V := V) (o := o) (n := n) (d := d) (num := num) (den := den) h
  have hbad := fun h h2 => mark_bad (L := L) (V := V) (o := o) (n := n) (d := d) (num := num) (den := den) h h2
  have hgood := fun h h2 => mark_good (L := L) (V := V) (o := o) (n := n) (d := d) (num := num) (den := den) h h2
  obtain ⟨M, hM⟩ : ∃ c, c = Kn.mval L V o n d num den := ⟨_, rfl⟩
  obtain ⟨C, hC⟩ : ∃ c, c = Kn.mcode L V o n d num den := ⟨_, rfl⟩
  rw [← hM, ← hC] at hown hbad hgood ⊢
  have Hown := Lib.hid hown
  have Hbad := Lib.hid hbad
  have Hgood := Lib.hid hgood
  clear hM hC hown hbad hgood
  have hA := below_alloc3 w (.cells #[.slice aoL nL cL, .slice aoV nV cV] 57) (.cells #[.int .i64 n, .int .i64 d] 29) (.cells #[.int .i64 0, .int .i64 0] 29)
  obtain ⟨rf, ra, rr⟩ := heap_alloc3_all w (.cells #[.slice aoL nL cL, .slice aoV nV cV] 57) (.cells #[.int .i64 n, .int .i64 d] 29) (.cells #[.int .i64 0, .int .i64 0] 29)
  go_enter Try.func46, Try.ntmps46
  go_upto_region 1 with fail
  generalize ((w.alloc (.cells #[.slice aoL nL cL, .slice aoV nV cV] 57)).alloc (.cells #[.int .i64 n, .int .i64 d] 29)).alloc (.cells #[.int .i64 0, .int .i64 0] 29) = W0 at hA rf ra rr ⊢
  obtain ⟨G, hG⟩ : ∃ g, g = w.heap.size := ⟨_, rfl⟩
  rw [← hG] at rf ra rr ⊢
  have HG := Lib.hid hG
  clear hG
  replace hf := hf.below hA
  obtain ⟨⟨x0, x1⟩, -, -⟩ := row_fr rf
  go_wp2_with fail
  refine ((kvalidateOwner_any L V o _ _ _ _ _ _ W0 hf hl hv hr)).mono ?_
  rintro e w1 ⟨rfl, hbb⟩
  replace hf := hf.below hbb
  replace rf := heap_keep hbb rf
  replace ra := heap_keep hbb ra
  replace rr := heap_keep hbb rr
  replace hA := hA.trans (hbb.mono hA.size)
  clear hbb
  clear x0 x1
  by_cases hz : Kn.ocode L V o = 0
  · rw [hz]
    obtain ⟨hok, k, hko, hk⟩ := owner_ok hz
    have hst := hok.stopB
    have HB := Lib.hid (Hbad.out hz)
    have HGo := Lib.hid (Hgood.out hz)
    clear Hown Hbad Hgood hz
    subst hko
    rw [Int.toNat_natCast] at HGo
    obtain ⟨⟨x0, x1⟩, -, -⟩ := row_fr rf
    obtain ⟨⟨a0, a1⟩, -, -⟩ := row_fr ra
    cases hp : Fl.plc (Kn.stop L) n d 1000000 with
    | false =>
      have HV := Lib.hid (HB.out (by unfold Kn.mok; rw [hp]; rfl))
      go_wp2_with fail
      refine ((kisPlace_any L V n d _ _ _ _ _ _ w1 hf hok hn)).mono ?_
      rintro e w2 ⟨rfl, hbb⟩
      replace hf := hf.below hbb
      replace rf := heap_keep hbb rf
      replace ra := heap_keep hbb ra
      replace rr := heap_keep hbb rr
      replace hA := hA.trans (hbb.mono hA.size)
      clear hbb
      rw [hp]
      clear x0 x1 a0 a1
      obtain ⟨⟨r0, r1⟩, s0, s1⟩ := row_fr rr
      go_wp2_with fail
      rw [HV.out.1, HV.out.2, optFr_none]
      exact bodyPost_ret (results_cell_tmp2 rfl _ _ _ _ _ _ _ rfl (two_cells rr (.int .i64 0) (.int .i64 0)) Try.underlying29 rfl infoRat2) rfl ⟨rfl, below_setCell (below_setCell hA (by have := HG.out; omega) _) (by have := HG.out; omega) _⟩
    | true =>
      go_wp2_with fail
      refine ((kisPlace_any L V n d _ _ _ _ _ _ w1 hf hok hn)).mono ?_
      rintro e w3 ⟨rfl, hbb⟩
      replace hf := hf.below hbb
      replace rf := heap_keep hbb rf
      replace ra := heap_keep hbb ra
      replace rr := heap_keep hbb rr
      replace hA := hA.trans (hbb.mono hA.size)
      clear hbb
      rw [hp]
      clear x0 x1 a0 a1
      obtain ⟨q, hq, e1, e2, p1, p2, p3⟩ := Fl.plc_rat hp
      have hmok : Kn.mok L n d num den = (decide (1 ≤ den) && (decide (den ≤ 100) && (decide (0 ≤ num) && decide (num ≤ den)))) := by unfold Kn.mok; rw [hp]; rfl
      rw [hmok, ← hq] at HGo
      rw [hmok] at HB
      clear hmok hq hp
      rw [← e1, ← e2] at ra
      clear e1 e2
      by_cases hgood : (1 ≤ den ∧ den ≤ 100) ∧ 0 ≤ num ∧ num ≤ den
      · have HV := Lib.hid (HGo.out (by simp [hgood]))
        obtain ⟨⟨g1, g2⟩, g3, g4⟩ := hgood
        clear HB HGo
        have hkf := kfrom_of p1 p2 hst.2 p3
        go_upto_region 6 with fail
        generalize w3 = WX at hf rf ra rr hA ⊢
        have hOw := fun w' (hb : Below WX.heap.size WX w') => kown_any L V k _ _ cL _ _ cV w' (hf.below hb).hL (hf.below hb).hV hf.nl hf.nv hok hk
        have hMk := fun w' ao cap hp => kmark_any (Kn.Z L V k) q num den ao nL cap w' hp (by rw [hok.zLen hk]; exact hf.nl) (hok.zOk hk) (by rw [hok.zLen hk]; exact hok.l6) hkf g3 g4 g1 g2
        rw [← HV.out.2] at hMk
        have HOw := Lib.hid hOw
        obtain ⟨x, y, hxy⟩ := optFr_pair M
        obtain ⟨bv, hbv⟩ : ∃ b, M.isSome = b := ⟨_, rfl⟩
        rw [hxy, hbv] at hMk
        have HX := Lib.hid (And.intro hxy hbv)
        have HMk := Lib.hid hMk
        have HC := Lib.hid HV.out.1
        clear hMk hOw hxy hbv HV
        obtain ⟨⟨x0, x1⟩, -, -⟩ := row_fr rf
        obtain ⟨⟨a0, a1⟩, -, -⟩ := row_fr ra
        have hk0 : Below WX.heap.size WX WX.drew := below_drewN (Below.refl WX.heap.size WX) 1
        have hkA0 : Below WX.heap.size WX (WX.alloc (.cells #[.int .i64 0, .int .i64 0] 106)).drew := below_drewN ((Below.refl WX.heap.size WX).alloc (Nat.le_refl _) (.cells #[.int .i64 0, .int .i64 0] 106)) 1
        have hl_rr := heap_lt rr
        go_cut [14, 15] from 46 (fun p14 p15 wc => ∃ g : Nat, p14 = .pointer (some ⟨g, 0, none⟩) ∧ p15 = .bool bv ∧ G + 2 < g ∧ wc.heap[g]? = some (.cells #[.int .i64 x, .int .i64 y] 106 (0, 0)) ∧ wc.heap[G + 1 + 1]? = some (.cells #[.int .i64 0, .int .i64 0] 29 (0, 0)) ∧ Below WX.heap.size WX wc)
        case first =>
          go_region_held3 (fun w' => w'.cell? ⟨G, 0, none⟩ = some (.slice aoL nL cL) ∧ w'.cell? ⟨G, 1, none⟩ = some (.slice aoV nV cV) ∧ w'.cell? ⟨G + 1, 0, none⟩ = some (.int .i64 q.num) ∧ w'.cell? ⟨G + 1, 1, none⟩ = some (.int .i64 q.den))
            (first | exact ⟨x0, x1, a0, a1⟩ | exact kS2 | exact kS1 | exact ⟨cell_two_other _ _ (by omega) kS2.1, cell_two_other _ _ (by omega) kS2.2.1, cell_two_other _ _ (by omega) kS2.2.2.1, cell_two_other _ _ (by omega) kS2.2.2.2⟩ | go_keep)
            (first
              | (go_at_call 88; (first | (with_reducible refine (HOw.out _ hk0).mono ?_; rintro e w1 ⟨ao7, cap7, rfl, hl7, hb1⟩; have hk1 := hk0.trans (hb1.mono hk0.size); (first | (have rg := heap_keep hb1 rg) | skip)) | (with_reducible refine (HOw.out _ hkA0).mono ?_; rintro e w1 ⟨ao7, cap7, rfl, hl7, hb1⟩; have hk1 := hkA0.trans (hb1.mono hkA0.size); have rg := heap_keep hb1 (heap_alloc_new WX (.cells #[.int .i64 0, .int .i64 0] 106)))); have hl1 := hk1.size; have kS1 := And.intro (keep_cell hk1 x0) (And.intro (keep_cell hk1 x1) (And.intro (keep_cell hk1 a0) ((keep_cell hk1 a1)))))
              | (go_at_call 95; have hkA1 := hk1.alloc hk1.size (.cells #[.int .i64 0, .int .i64 0] 106); (first | (with_reducible refine (HMk.out _ _ _ hl7).mono ?_; rintro e w2 ⟨rfl, hb2⟩; have hk2 := hk1.trans (hb2.mono hk1.size); (first | (have rg := heap_keep hb2 rg) | skip)) | (with_reducible refine (HMk.out _ _ _ (hl7.below ((Below.refl _ w1).alloc (Nat.le_refl _) (.cells #[.int .i64 0, .int .i64 0] 106)))).mono ?_; rintro e w2 ⟨rfl, hb2⟩; have hk2 := hkA1.trans (hb2.mono hkA1.size); have rg := heap_keep hb2 (heap_alloc_new w1 (.cells #[.int .i64 0, .int .i64 0] 106)))); have hl2 := hk2.size; have kS2 := And.intro (keep_cell hk2 x0) (And.intro (keep_cell hk2 x1) (And.intro (keep_cell hk2 a0) ((keep_cell hk2 a1)))); (first | (have rgF := rg; obtain ⟨⟨d0, d1⟩, e0, e1⟩ := row_fr rgF) | skip)))
          all_goals go_wp2_with fail
          all_goals go_meet
          all_goals
            have hlm := hk2.size
            have rr' := heap_keep hk2 rr
            first
              | exact ⟨_, rfl, rfl, by omega, two_cells rg _ _, heap_two_other _ _ (by omega) rr', below_setCell (below_setCell hk2 (by omega) _) (by omega) _⟩
              | exact ⟨_, rfl, rfl, by omega, heap_alloc_new w2 _, (heap_alloc_old _ _ (by omega)).trans rr', hk2.alloc (by omega) _⟩
        case rest =>
          obtain ⟨g, rfl, rfl, hg, r9, r2, hB⟩ := hcut
          have hA2 := hA.trans (hB.mono hA.size)
          clear x0 x1 a0 a1 rr
          obtain ⟨⟨t0, t1⟩, -, -⟩ := row_fr r9
          obtain ⟨⟨r0, r1⟩, s0, s1⟩ := row_fr r2
          go_wp2_with fail
          rw [HC.out, HX.out.1, HX.out.2]
          exact bodyPost_ret (results_cell_tmp2 rfl _ _ _ _ _ _ _ rfl (two_cells r2 (.int .i64 x) (.int .i64 y)) Try.underlying29 rfl infoRat2) rfl ⟨rfl, below_setCell (below_setCell hA2 (by have := HG.out; omega) _) (by have := HG.out; omega) _⟩
      · have HV := Lib.hid (HB.out (by
          rw [Bool.eq_false_iff]
          intro h
          simp only [Bool.and_eq_true, decide_eq_true_eq] at h
          exact hgood ⟨⟨h.1, h.2.1⟩, h.2.2⟩))
        have hq : den < 1 ∨ (1 ≤ den ∧ 100 < den) ∨ (1 ≤ den ∧ den ≤ 100 ∧ num < 0) ∨ (1 ≤ den ∧ den ≤ 100 ∧ 0 ≤ num ∧ den < num) := by omega
        clear hgood HB HGo
        obtain ⟨⟨r0, r1⟩, s0, s1⟩ := row_fr rr
        rcases hq with q1 | ⟨q1, q2⟩ | ⟨q1, q2, q3⟩ | ⟨q1, q2, q3, q4⟩ <;>
        · go_wp2_with fail
          rw [HV.out.1, HV.out.2, optFr_none]
          exact bodyPost_ret (results_cell_tmp2 rfl _ _ _ _ _ _ _ rfl (two_cells rr (.int .i64 0) (.int .i64 0)) Try.underlying29 rfl infoRat2) rfl ⟨rfl, below_setCell (below_setCell hA (by have := HG.out; omega) _) (by have := HG.out; omega) _⟩
  · have HV := Lib.hid (Hown.out hz)
    have hne : (Kn.ocode L V o != 0) = true := by simp [hz]
    obtain ⟨D, hD⟩ : ∃ c, Kn.ocode L V o = c := ⟨_, rfl⟩
    rw [hD] at hz hne HV ⊢
    clear hD Hown Hbad Hgood
    obtain ⟨⟨r0, r1⟩, s0, s1⟩ := row_fr rr
    go_wp2_with fail
    rw [HV.out.1, HV.out.2, optFr_none]
    exact bodyPost_ret (results_cell_tmp2 rfl _ _ _ _ _ _ _ rfl (two_cells rr (.int .i64 0) (.int .i64 0)) Try.underlying29 rfl infoRat2) rfl ⟨rfl, below_setCell (below_setCell hA (by have := HG.out; omega) _) (by have := HG.out; omega) _⟩

set_option maxRecDepth 100000 in
set_option maxHeartbeats 8000000 in
theorem sMark_any (L : List Int) (V : List (List Int)) (o n d num den : Int) (aoL : Option Addr) (nL cL : Nat) (aoV : Option Addr) (nV cV : Nat) (w : World) (hf : Fld w aoL nL aoV nV L V) (hl : nL ≤ 100) (hv : nV ≤ 100) (hr : ∀ r ∈ V, r.length ≤ 100) (hn0 : -9223372036854775808 ≤ n) (hn : n ≤ 9223372036854775807) :
    Calls Try.prog 47 #[.agg #[.slice aoL nL cL, .slice aoV nV cV], .int .i64 o, .agg #[.int .i64 n, .int .i64 d], .int .i64 num, .int .i64 den] w fun e w' => e = .returned (.tuple #[optFr (Kn.mval L V o n d num den), .bool (Kn.mval L V o n d num den).isSome, .int .i64 (Kn.mcode L V o n d num den)]) ∧ Below w.heap.size w w' := by
  have hown := fun h => mark_owner (L := L) (V := V) (o := o) (n := n) (d := d) (num := num) (den := den) h
  have hbad := fun h h2 => mark_bad (L := L) (V := V) (o := o) (n := n) (d := d) (num := num) (den := den) h h2
  have hgood := fun h h2 => mark_good (L := L) (V := V) (o := o) (n := n) (d := d) (num := num) (den := den) h h2
  obtain ⟨M, hM⟩ : ∃ c, c = Kn.mval L V o n d num den := ⟨_, rfl⟩
  obtain ⟨C, hC⟩ : ∃ c, c = Kn.mcode L V o n d num den := ⟨_, rfl⟩
  rw [← hM, ← hC] at hown hbad hgood ⊢
  have Hown := Lib.hid hown
  have Hbad := Lib.hid hbad
  have Hgood := Lib.hid hgood
  clear hM hC hown hbad hgood
  have hA := below_alloc3 w (.cells #[.slice aoL nL cL, .slice aoV nV cV] 57) (.cells #[.int .i64 n, .int .i64 d] 29) (.cells #[.int .i64 0, .int .i64 0] 29)
  obtain ⟨rf, ra, rr⟩ := heap_alloc3_all w (.cells #[.slice aoL nL cL, .slice aoV nV cV] 57) (.cells #[.int .i64 n, .int .i64 d] 29) (.cells #[.int .i64 0, .int .i64 0] 29)
  go_enter Try.func47, Try.ntmps47
  go_upto_region 1 with fail
  generalize ((w.alloc (.cells #[.slice aoL nL cL, .slice aoV nV cV] 57)).alloc (.cells #[.int .i64 n, .int .i64 d] 29)).alloc (.cells #[.int .i64 0, .int .i64 0] 29) = W0 at hA rf ra rr ⊢
  obtain ⟨G, hG⟩ : ∃ g, g = w.heap.size := ⟨_, rfl⟩
  rw [← hG] at rf ra rr ⊢
  have HG := Lib.hid hG
  clear hG
  replace hf := hf.below hA
  obtain ⟨⟨x0, x1⟩, -, -⟩ := row_fr rf
  go_wp2_with fail
  have hal := (Below.refl W0.heap.size W0).alloc (Nat.le_refl _) (.cells #[.int .i64 o] 3)
  have hI1 : Ints (W0.alloc (.cells #[.int .i64 o] 3)) (some ⟨W0.heap.size, 0, none⟩) [o] := ⟨fun _ => ⟨_, 0, rfl, by simp, fun i hi => by
    match i, hi with
    | 0, _ => exact cell_of_row _ _ 0 _ _ _ (heap_alloc_new W0 _)⟩⟩
  replace hf := hf.below hal
  replace rf := heap_keep hal rf
  replace ra := heap_keep hal ra
  replace rr := heap_keep hal rr
  replace hA := hA.trans (hal.mono hA.size)
  refine (sowned_any L V o _ _ _ _ _ _ _ _ _ hf hI1 hl hv hr).mono ?_
  rintro e w1 ⟨rfl, hbb⟩
  replace hf := hf.below hbb
  replace rf := heap_keep hbb rf
  replace ra := heap_keep hbb ra
  replace rr := heap_keep hbb rr
  replace hA := hA.trans (hbb.mono hA.size)
  clear hbb hal hI1
  clear x0 x1
  by_cases hz : Kn.ocode L V o = 0
  · rw [hz]
    obtain ⟨hok, k, hko, hk⟩ := owner_ok hz
    have hst := hok.stopB
    have HB := Lib.hid (Hbad.out hz)
    have HGo := Lib.hid (Hgood.out hz)
    clear Hown Hbad Hgood hz
    subst hko
    rw [Int.toNat_natCast] at HGo
    obtain ⟨⟨x0, x1⟩, -, -⟩ := row_fr rf
    obtain ⟨⟨a0, a1⟩, -, -⟩ := row_fr ra
    cases hp : Fl.plc (Kn.stop L) n d 1000000 with
    | false =>
      have HV := Lib.hid (HB.out (by unfold Kn.mok; rw [hp]; rfl))
      go_wp2_with fail
      refine ((sisPlace_any L V n d _ _ _ _ _ _ w1 hf hok hn0 hn)).mono ?_
      rintro e w1 ⟨rfl, hbb⟩
      replace hf := hf.below hbb
      replace rf := heap_keep hbb rf
      replace ra := heap_keep hbb ra
      replace rr := heap_keep hbb rr
      replace hA := hA.trans (hbb.mono hA.size)
      clear hbb
      rw [hp]
      clear x0 x1 a0 a1
      obtain ⟨⟨r0, r1⟩, s0, s1⟩ := row_fr rr
      go_wp2_with fail
      rw [HV.out.1, HV.out.2, optFr_none]
      exact bodyPost_ret (results_cell_tmp2 rfl _ _ _ _ _ _ _ rfl (two_cells rr (.int .i64 0) (.int .i64 0)) Try.underlying29 rfl infoRat2) rfl ⟨rfl, below_setCell (below_setCell hA (by have := HG.out; omega) _) (by have := HG.out; omega) _⟩
    | true =>
      go_wp2_with fail
      refine ((sisPlace_any L V n d _ _ _ _ _ _ w1 hf hok hn0 hn)).mono ?_
      rintro e w2 ⟨rfl, hbb⟩
      replace hf := hf.below hbb
      replace rf := heap_keep hbb rf
      replace ra := heap_keep hbb ra
      replace rr := heap_keep hbb rr
      replace hA := hA.trans (hbb.mono hA.size)
      clear hbb
      rw [hp]
      clear x0 x1 a0 a1
      obtain ⟨q, hq, e1, e2, p1, p2, p3⟩ := Fl.plc_rat hp
      have hmok : Kn.mok L n d num den = (decide (1 ≤ den) && (decide (den ≤ 100) && (decide (0 ≤ num) && decide (num ≤ den)))) := by unfold Kn.mok; rw [hp]; rfl
      rw [hmok, ← hq] at HGo
      rw [hmok] at HB
      clear hmok hq hp
      rw [← e1, ← e2] at ra
      clear e1 e2
      go_wp2_with fail
      refine (swithin_same den 1 100 _).mono ?_
      rintro e w9 ⟨rfl, rfl⟩
      by_cases hg1 : 1 ≤ den ∧ den ≤ 100
      · rw [show (decide ((1 : Int) ≤ den) && decide (den ≤ 100)) = true by simp [hg1]]
        go_wp2_with fail
        refine (swithin_same num 0 den _).mono ?_
        rintro e w9 ⟨rfl, rfl⟩
        by_cases hg2 : 0 ≤ num ∧ num ≤ den
        · rw [show (decide ((0 : Int) ≤ num) && decide (num ≤ den)) = true by simp [hg2]]
          have HV := Lib.hid (HGo.out (by simp [hg1, hg2]))
          obtain ⟨g1, g2⟩ := hg1
          obtain ⟨g3, g4⟩ := hg2
          clear HB HGo
          have hkf := kfrom_of p1 p2 hst.2 p3
          have hMk := fun w' hf' => smark_any L V k q num den aoL nL cL aoV nV cV w' hf' hok hk hkf p2 g3 g4 g1 g2
          rw [← HV.out.2] at hMk
          obtain ⟨x, y, hxy⟩ := optFr_pair M
          obtain ⟨bv, hbv⟩ : ∃ b, M.isSome = b := ⟨_, rfl⟩
          rw [hxy, hbv] at hMk
          have HX := Lib.hid (And.intro hxy hbv)
          have HC := Lib.hid HV.out.1
          clear hxy hbv HV
          obtain ⟨⟨x0, x1⟩, -, -⟩ := row_fr rf
          obtain ⟨⟨a0, a1⟩, -, -⟩ := row_fr ra
          go_wp2_with fail
          refine (hMk _ hf).mono ?_
          rintro e w8 ⟨rfl, hbb⟩
          replace hf := hf.below hbb
          replace rf := heap_keep hbb rf
          replace ra := heap_keep hbb ra
          replace rr := heap_keep hbb rr
          replace hA := hA.trans (hbb.mono hA.size)
          clear hMk hbb x0 x1 a0 a1
          go_upto_region 7 with fail
          have r9 := heap_alloc_new w8 (.cells #[.int .i64 x, .int .i64 y] 29)
          have hal := (Below.refl w8.heap.size w8).alloc (Nat.le_refl _) (.cells #[.int .i64 x, .int .i64 y] 29)
          replace hf := hf.below hal
          replace rf := heap_keep hal rf
          replace ra := heap_keep hal ra
          replace rr := heap_keep hal rr
          replace hA := hA.trans (hal.mono hA.size)
          clear hal
          generalize w8.alloc (.cells #[.int .i64 x, .int .i64 y] 29) = WX at hf rf rr hA r9 ⊢
          obtain ⟨⟨t0, t1⟩, -, -⟩ := row_fr r9
          obtain ⟨⟨r0, r1⟩, s0, s1⟩ := row_fr rr
          go_wp2_with fail
          rw [HC.out, HX.out.1, HX.out.2]
          exact bodyPost_ret (results_cell_tmp2 rfl _ _ _ _ _ _ _ rfl (two_cells rr (.int .i64 x) (.int .i64 y)) Try.underlying29 rfl infoRat2) rfl ⟨rfl, below_setCell (below_setCell hA (by have := HG.out; omega) _) (by have := HG.out; omega) _⟩
        · have hb2 : (decide ((0 : Int) ≤ num) && decide (num ≤ den)) = false := by
            rw [Bool.eq_false_iff]; intro h; simp only [Bool.and_eq_true, decide_eq_true_eq] at h; exact hg2 h
          rw [hb2]
          have HV := Lib.hid (HB.out (by rw [hb2]; simp))
          clear HB HGo hb2 hg2
          obtain ⟨⟨r0, r1⟩, s0, s1⟩ := row_fr rr
          go_wp2_with fail
          rw [HV.out.1, HV.out.2, optFr_none]
          exact bodyPost_ret (results_cell_tmp2 rfl _ _ _ _ _ _ _ rfl (two_cells rr (.int .i64 0) (.int .i64 0)) Try.underlying29 rfl infoRat2) rfl ⟨rfl, below_setCell (below_setCell hA (by have := HG.out; omega) _) (by have := HG.out; omega) _⟩
      · have hb2 : (decide ((1 : Int) ≤ den) && decide (den ≤ 100)) = false := by
          rw [Bool.eq_false_iff]; intro h; simp only [Bool.and_eq_true, decide_eq_true_eq] at h; exact hg1 h
        rw [hb2]
        have HV := Lib.hid (HB.out (by rw [← Bool.and_assoc, hb2]; rfl))
        clear HB HGo hb2 hg1
        obtain ⟨⟨r0, r1⟩, s0, s1⟩ := row_fr rr
        go_wp2_with fail
        rw [HV.out.1, HV.out.2, optFr_none]
        exact bodyPost_ret (results_cell_tmp2 rfl _ _ _ _ _ _ _ rfl (two_cells rr (.int .i64 0) (.int .i64 0)) Try.underlying29 rfl infoRat2) rfl ⟨rfl, below_setCell (below_setCell hA (by have := HG.out; omega) _) (by have := HG.out; omega) _⟩
  · have HV := Lib.hid (Hown.out hz)
    have hne : (Kn.ocode L V o != 0) = true := by simp [hz]
    obtain ⟨D, hD⟩ : ∃ c, Kn.ocode L V o = c := ⟨_, rfl⟩
    rw [hD] at hz hne HV ⊢
    clear hD Hown Hbad Hgood
    obtain ⟨⟨r0, r1⟩, s0, s1⟩ := row_fr rr
    go_wp2_with fail
    rw [HV.out.1, HV.out.2, optFr_none]
    exact bodyPost_ret (results_cell_tmp2 rfl _ _ _ _ _ _ _ rfl (two_cells rr (.int .i64 0) (.int .i64 0)) Try.underlying29 rfl infoRat2) rfl ⟨rfl, below_setCell (below_setCell hA (by have := HG.out; omega) _) (by have := HG.out; omega) _⟩
end Go.Proofs.Ytngonfbmlfolcaa
