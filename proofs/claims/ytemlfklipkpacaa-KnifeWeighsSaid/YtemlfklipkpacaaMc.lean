import Derived.Test.YtemlfklipkpacaaMb
import Derived.Test.YtemlfklipkpacaaLc
/- Package knife: which lists are pieces: they follow one another; CheckPieces. -/
namespace Go.Proofs.Ytemlfklipkpacaa
open Go.RowKit
/-- One piece more: where it ends. -/
def Kn.jStep (s : Option (Int × Int)) (p : Pc) : Option (Int × Int) :=
  match s with
  | none => none
  | some a => if p.2.1 = a ∧ mkRat p.2.1.1 p.2.1.2.toNat ≤ mkRat p.2.2.1 p.2.2.2.toNat then some p.2.2 else none
/-- The pieces follow one another from 0 to the end. -/
def Kn.okJoin (E : Int) (ps : List Pc) : Bool := decide (ps.foldl Kn.jStep (some (0, 1)) = some (E, 1))
theorem jStep_fold_none (l : List Pc) : l.foldl Kn.jStep none = none := by
  induction l with
  | nil => rfl
  | cons z r ih => exact ih
theorem join_bad {E : Int} {ps : List Pc} {k : Nat} (hk : k < ps.length) {a : Int × Int} (h : (ps.take k).foldl Kn.jStep (some (0, 1)) = some a) (h2 : Kn.jStep (some a) ps[k] = none) : Kn.okJoin E ps = false := by
  unfold Kn.okJoin
  rw [foldl_cut ps (k + 1), foldl_snoc hk, h, h2, jStep_fold_none]; rfl
/-- Where a piece begins and ends are places. -/
def Kn.plcs (E : Int) (ps : List Pc) : Prop := ∀ p ∈ ps, Fl.plc E p.2.1.1 p.2.1.2 1000000 = true ∧ Fl.plc E p.2.2.1 p.2.2.2 1000000 = true

theorem kwhole_lit (n : Int) (w : World) : Calls Try.prog 124 #[.int .i64 n] w fun e w' => e = .returned (.agg #[.int .i64 n, .int .i64 1]) ∧ Below w.heap.size w w' := kwhole_any n w

set_option maxRecDepth 100000 in
set_option maxHeartbeats 8000000 in
theorem kareJoined_any (L : List Int) (V : List (List Int)) (ps : List Pc) (aoL : Option Addr) (nL cL : Nat) (aoV : Option Addr) (nV cV : Nat) (aop : Option Addr) (n cp : Nat) (w : World) (hf : Fld w aoL nL aoV nV L V) (hok : Kn.Ok L V) (hp : Pcs w aop ps) (hn : n = ps.length) (hn9 : n ≤ 100000) (hr : Kn.plcs (Kn.stop L) ps) :
    Calls Try.prog 98 #[.agg #[.slice aoL nL cL, .slice aoV nV cV], .slice aop n cp] w fun e w' => e = .returned (.bool (Kn.okJoin (Kn.stop L) ps)) ∧ Below w.heap.size w w' := by
  have hsB := hok.stopB
  obtain ⟨R, hR⟩ : ∃ r, r = Kn.okJoin (Kn.stop L) ps := ⟨_, rfl⟩
  rw [← hR]
  have HR := Lib.hid hR
  have Hn := Lib.hid hn
  have Hr := Lib.hid hr
  clear hR hn hr
  have hA := (Below.refl _ w).alloc (Nat.le_refl _) (.cells #[.slice aoL nL cL, .slice aoV nV cV] 57)
  have rf := heap_alloc_new w (.cells #[.slice aoL nL cL, .slice aoV nV cV] 57)
  go_enter Try.func98, Try.ntmps98
  go_upto_region 1 with fail
  generalize w.alloc (.cells #[.slice aoL nL cL, .slice aoV nV cV] 57) = W0 at hA rf ⊢
  obtain ⟨G, hG⟩ : ∃ g, g = w.heap.size := ⟨_, rfl⟩
  rw [← hG] at rf ⊢
  have HG := Lib.hid hG
  clear hG
  go_wp2_with fail
  refine ((kwhole_any 0 W0)).mono ?_
  rintro e w1 ⟨rfl, hbb⟩
  replace rf := heap_keep hbb rf
  replace hA := hA.trans (hbb.mono hA.size)
  clear hbb
  go_upto_region 2 with fail
  have r5 := heap_alloc_new w1 (.cells #[.int .i64 0, .int .i64 1] 29)
  have hal := (Below.refl w1.heap.size w1).alloc (Nat.le_refl _) (.cells #[.int .i64 0, .int .i64 1] 29)
  have hG5 : G < w1.heap.size := heap_lt rf
  replace rf := heap_keep hal rf
  replace hA := hA.trans (hal.mono hA.size)
  clear hal
  generalize w1.alloc (.cells #[.int .i64 0, .int .i64 1] 29) = W2 at rf r5 hA ⊢
  obtain ⟨G5, hg5⟩ : ∃ g, g = w1.heap.size := ⟨_, rfl⟩
  rw [← hg5] at r5 hG5 ⊢
  clear hg5
  go_wp2_with fail
  go_loopw [11] (fun i wr => ∃ (k : Nat) (a1 a2 : Int), k ≤ n ∧ i = .int .i64 k ∧ Hid ((ps.take k).foldl Kn.jStep (some (0, 1)) = some (a1, a2)) ∧ wr.heap[G5]? = some (.cells #[.int .i64 a1, .int .i64 a2] 29 (0, 0)) ∧ wr.heap[G]? = some (.cells #[.slice aoL nL cL, .slice aoV nV cV] 57 (0, 0)) ∧ Below w.heap.size w wr) (fun i _ => n - (intOf i).toNat)
  case atStart => exact ⟨0, 0, 1, Nat.zero_le _, rfl, Lib.hid rfl, r5, rf, hA⟩
  case round =>
    clear r5 rf hA
    obtain ⟨k, a1, a2, hk, rfl, HK, r5, rf, hB⟩ := hrel
    by_cases hlt : k < n
    · have hkl : k < ps.length := by have := Hn.out; omega
      obtain ⟨b, off, rfl, hbs, z0, z1, z2, z3, z4⟩ := pcs_at (hp.below hB) hkl
      have hrk := Hr.out _ (List.getElem_mem hkl)
      have hbad := Lib.hid (fun h2 => HR.out.trans (join_bad hkl HK.out h2))
      have hst := Lib.hid (foldl_snoc hkl Kn.jStep (some (0, 1)))
      rw [HK.out] at hst
      obtain ⟨⟨o, ⟨n1, d1⟩, ⟨n2, d2⟩⟩, hz⟩ : ∃ z, z = ps[k] := ⟨_, rfl⟩
      rw [← hz] at z0 z1 z2 z3 z4 hrk hbad hst
      simp only at z0 z1 z2 z3 z4 hrk
      clear hz
      have i1 : (k : Int) < (n : Int) := by omega
      have h5w := heap_lt r5
      go_upto_region 5 with fail
      have r7 := heap_alloc_new wr (.cells #[.int .i64 o, .int .i64 n1, .int .i64 d1, .int .i64 n2, .int .i64 d2] 86)
      have hal := (Below.refl wr.heap.size wr).alloc (Nat.le_refl _) (.cells #[.int .i64 o, .int .i64 n1, .int .i64 d1, .int .i64 n2, .int .i64 d2] 86)
      replace rf := heap_keep hal rf
      replace r5 := heap_keep hal r5
      replace hB := hB.trans (hal.mono hB.size)
      clear hal z0 z1 z2 z3 z4
      generalize wr.alloc (.cells #[.int .i64 o, .int .i64 n1, .int .i64 d1, .int .i64 n2, .int .i64 d2] 86) = W7 at rf r5 r7 hB ⊢
      obtain ⟨G7, hg7⟩ : ∃ g, g = wr.heap.size := ⟨_, rfl⟩
      rw [← hg7] at r7 h5w ⊢
      clear hg7
      have hc := fun j => cell_of_row W7 G7 j _ _ _ r7
      have p1 := hc 1
      have p2 := hc 2
      have p3 := hc 3
      have p4 := hc 4
      simp at p1 p2 p3 p4
      clear hc
      obtain ⟨⟨y0, y1⟩, -, -⟩ := row_fr r5
      have hne := run_neq_rt n1 d1 a1 a2
      by_cases he : n1 = a1 ∧ d1 = a2
      · obtain ⟨rfl, rfl⟩ := he
        rw [decide_eq_true rfl] at hne
        obtain ⟨q1, -, e1, e2, g1, g2, g3⟩ := Fl.plc_rat hrk.1
        obtain ⟨q2, -, f1, f2, h1, h2, h3⟩ := Fl.plc_rat hrk.2
        subst e1 e2 f1 f2
        clear hrk
        go_wp2_with fail
        refine (kcompareR_any q1 q2 _ (cmp_places g1 g2 h1 h2 hsB.2 g3 h3)).mono ?_
        rintro e v ⟨rfl, hbb⟩
        replace rf := heap_keep hbb rf
        replace r5 := heap_keep hbb r5
        replace r7 := heap_keep hbb r7
        replace hB := hB.trans (hbb.mono hB.size)
        clear hbb p1 p2 p3 p4 y0 y1 hne
        have hc := fun j => cell_of_row v G7 j _ _ _ r7
        have p3 := hc 3
        have p4 := hc 4
        simp at p3 p4
        clear hc
        obtain ⟨⟨y0, y1⟩, s0, s1⟩ := row_fr r5
        have m1 : mkRat q1.num ((q1.den : Int)).toNat = q1 := by rw [Int.toNat_natCast]; exact Rat.mkRat_self q1
        have m2 : mkRat q2.num ((q2.den : Int)).toNat = q2 := by rw [Int.toNat_natCast]; exact Rat.mkRat_self q2
        by_cases hlt2 : q2 < q1
        · have hcm : Fl.cmpR q1 q2 = 1 := by unfold Fl.cmpR; rw [if_neg (by grind), if_pos hlt2]
          rw [hcm]
          have hr := Lib.hid (hbad.out (by unfold Kn.jStep; simp only [m1, m2]; rw [if_neg]; grind))
          clear hst hbad hlt2
          go_wp2_with fail
          go_ret
          exact ⟨ret_bool hr.out.symm, hB⟩
        · have hcm : Fl.cmpR q1 q2 ≤ 0 := by unfold Fl.cmpR; rw [if_neg hlt2]; split <;> omega
          have hs : Hid ((ps.take (k + 1)).foldl Kn.jStep (some (0, 1)) = some (q2.num, (q2.den : Int))) := Lib.hid (by
            rw [hst.out]; unfold Kn.jStep; simp only [m1, m2]; rw [if_pos]; exact ⟨trivial, by grind⟩)
          have hr5 := two_cells r5 (.int .i64 q2.num) (.int .i64 (q2.den : Int))
          have hrf := heap_two_other (.int .i64 q2.num) (.int .i64 (q2.den : Int)) (show G ≠ G5 by omega) rf
          have hB2 := below_setCell (g := G5) (o := 1) (below_setCell (g := G5) (o := 0) hB (by have := HG.out; omega) (.int .i64 q2.num)) (by have := HG.out; omega) (.int .i64 (q2.den : Int))
          clear hst hbad hlt2
          go_wp2_with fail
          go_roundw
          case rel => exact ⟨k + 1, _, _, by omega, by go_num, hs, hr5, hrf, hB2⟩
          case measure => simp [intOf]; omega
      · have hf : decide ((n1, d1) = (a1, a2)) = false := by rw [decide_eq_false_iff_not]; simpa using he
        rw [hf] at hne
        have hr := Lib.hid (hbad.out (by unfold Kn.jStep; simp [he]))
        clear he hf hst hbad hrk
        go_wp2_with fail
        go_ret
        exact ⟨ret_bool hr.out.symm, hB⟩
    · have hkn : k = n := by omega
      have hf2 : Hid (R = decide ((a1, a2) = (Kn.stop L, 1))) := Lib.hid (by
        rw [HR.out]
        unfold Kn.okJoin
        have := HK.out
        rw [hkn, Hn.out, List.take_length] at this
        rw [this, decide_eq_decide]
        exact ⟨fun h => by simpa using h, fun h => by rw [h]⟩)
      clear hkn
      obtain ⟨⟨f0, f1⟩, -, -⟩ := row_fr rf
      obtain ⟨⟨y0, y1⟩, -, -⟩ := row_fr r5
      have heq := run_eq_rt a1 a2 (Kn.stop L) 1
      obtain ⟨bv, hbv⟩ : ∃ b, decide ((a1, a2) = (Kn.stop L, 1)) = b := ⟨_, rfl⟩
      rw [hbv] at hf2 heq
      clear hbv
      have hLen := fun w' (hb : Below w.heap.size w w') => klength_any L aoL nL cL _ aoV nV cV rfl w' (hf.below hb).hL hf.nl hok.ln hok.l6
      obtain ⟨E, hE⟩ : ∃ e, e = Kn.stop L := ⟨_, rfl⟩
      rw [← hE] at heq hLen
      have HLen := Lib.hid hLen
      clear hE hLen
      have hBd : Below w.heap.size w wr.drew := below_drewN hB 1
      have hdr : Below wr.heap.size wr wr.drew := below_drewN (Below.refl wr.heap.size wr) 1
      go_upto_region 9 with fail
      go_region_held3 (fun w' => w'.cell? ⟨G, 0, none⟩ = some (.slice aoL nL cL) ∧ w'.cell? ⟨G, 1, none⟩ = some (.slice aoV nV cV) ∧ w'.cell? ⟨G5, 0, none⟩ = some (.int .i64 a1) ∧ w'.cell? ⟨G5, 1, none⟩ = some (.int .i64 a2))
        (first | exact ⟨keep_cell hdr f0, keep_cell hdr f1, keep_cell hdr y0, keep_cell hdr y1⟩ | exact kb | exact ka)
        (first
          | (go_at_call 125; refine (HLen.out _ hBd).mono ?_; rintro e v1 ⟨rfl, hb1⟩; have hk1 := hdr.trans (hb1.mono hdr.size); have ka := And.intro (keep_cell hk1 f0) (And.intro (keep_cell hk1 f1) (And.intro (keep_cell hk1 y0) (keep_cell hk1 y1))))
          | (go_at_call 124; refine (kwhole_lit E _).mono ?_; rintro e v2 ⟨rfl, hb2⟩; have hk2 := hk1.trans (hb2.mono hk1.size); have kb := And.intro (keep_cell hk2 f0) (And.intro (keep_cell hk2 f1) (And.intro (keep_cell hk2 y0) (keep_cell hk2 y1)))))
      have hB2 := hB.trans (hk2.mono hB.size)
      go_wp2_with fail
      go_ret
      exact ⟨ret_bool hf2.out.symm, hB2⟩

/-- Why pieces are not those of a field. -/
def Kn.pcode (L : List Int) (V : List (List Int)) (ps : List Pc) : Int :=
  if Kn.val L V ≠ 0 then Kn.val L V else if Kn.okOwn V ps && (Kn.okPl (Kn.stop L) ps && Kn.okJoin (Kn.stop L) ps) then 0 else 1
theorem pl_all {E : Int} {ps : List Pc} : ∀ {s : Option Nat}, (ps.foldl (Kn.plP E) s).isSome = true → Kn.plcs E ps := by
  induction ps with
  | nil => intro s _ p hp; cases hp
  | cons z r ih =>
    intro s h p hp
    have hs : (Kn.plP E s z).isSome = true := by
      cases h2 : Kn.plP E s z with
      | none =>
        have h3 : (List.foldl (Kn.plP E) (Kn.plP E s z) r).isSome = true := h
        rw [h2, plP_fold_none] at h3
        cases h3
      | some d => rfl
    rcases List.mem_cons.1 hp with rfl | hp
    · obtain ⟨o, x1, x2⟩ := p
      have e : Kn.plP E s (o, x1, x2) = Kn.plStep E (Kn.plStep E s x1) x2 := rfl
      rw [e] at hs
      cases h1 : Kn.plStep E s x1 with
      | none => rw [h1] at hs; cases hs
      | some d =>
        rw [h1] at hs
        refine ⟨?_, ?_⟩
        · unfold Kn.plStep at h1
          cases s with
          | none => cases h1
          | some d0 =>
            simp only at h1
            split at h1
            · rename_i h4; exact h4.1
            · cases h1
        · unfold Kn.plStep at hs
          simp only at hs
          split at hs
          · rename_i h4; exact h4.1
          · cases hs
    · exact ih h p hp

set_option maxRecDepth 100000 in
set_option maxHeartbeats 8000000 in
theorem kCheckPieces_any (L : List Int) (V : List (List Int)) (ps : List Pc) (aoL : Option Addr) (nL cL : Nat) (aoV : Option Addr) (nV cV : Nat) (aop : Option Addr) (n cp : Nat) (w : World) (hf : Fld w aoL nL aoV nV L V) (hl : nL ≤ 100) (hv : nV ≤ 100) (hr : ∀ r ∈ V, r.length ≤ 100) (hp : Pcs w aop ps) (hn : n = ps.length) (hn9 : n ≤ 100000) (hpr : ∀ p ∈ ps, p.2.1.1 ≤ 9223372036854775807 ∧ p.2.2.1 ≤ 9223372036854775807) :
    Calls Try.prog 47 #[.agg #[.slice aoL nL cL, .slice aoV nV cV], .slice aop n cp] w fun e w' => e = .returned (.int .i64 (Kn.pcode L V ps)) ∧ Below w.heap.size w w' := by
  obtain ⟨C, hC⟩ : ∃ c, c = Kn.pcode L V ps := ⟨_, rfl⟩
  rw [← hC]
  have HC := Lib.hid hC
  have Hn := Lib.hid hn
  clear hC hn
  have hA := (Below.refl _ w).alloc (Nat.le_refl _) (.cells #[.slice aoL nL cL, .slice aoV nV cV] 57)
  have rf := heap_alloc_new w (.cells #[.slice aoL nL cL, .slice aoV nV cV] 57)
  go_enter Try.func47, Try.ntmps47
  go_upto_region 1 with fail
  generalize w.alloc (.cells #[.slice aoL nL cL, .slice aoV nV cV] 57) = W0 at hA rf ⊢
  obtain ⟨G, hG⟩ : ∃ g, g = w.heap.size := ⟨_, rfl⟩
  rw [← hG] at rf ⊢
  clear hG
  replace hf := hf.below hA
  replace hp := hp.below hA
  obtain ⟨⟨x0, x1⟩, -, -⟩ := row_fr rf
  go_wp2_with fail
  refine ((kValidate_any L V _ _ _ _ _ _ W0 hf hl hv hr)).mono ?_
  rintro e w1 ⟨rfl, hbb⟩
  replace hf := hf.below hbb
  replace hp := hp.below hbb
  replace rf := heap_keep hbb rf
  replace hA := hA.trans (hbb.mono hA.size)
  clear hbb
  clear x0 x1
  by_cases hz : Kn.val L V = 0
  · rw [hz]
    have hok := Kn.val_ok.1 hz
    have hC1 : C = if Kn.okOwn V ps && (Kn.okPl (Kn.stop L) ps && Kn.okJoin (Kn.stop L) ps) then 0 else 1 := by rw [HC.out]; unfold Kn.pcode; rw [if_neg (by simpa using hz)]
    have HC1 := Lib.hid hC1
    clear hC1 HC
    obtain ⟨⟨x0, x1⟩, -, -⟩ := row_fr rf
    go_wp2_with fail
    refine ((khaveOwners_any L V ps _ _ cL _ _ cV _ _ _ w1 hok.v5 hf.nv hp Hn.out hn9)).mono ?_
    rintro e w2 ⟨rfl, hbb⟩
    replace hf := hf.below hbb
    replace hp := hp.below hbb
    replace rf := heap_keep hbb rf
    replace hA := hA.trans (hbb.mono hA.size)
    clear hbb
    clear x0 x1
    obtain ⟨b1, hb1⟩ : ∃ b, Kn.okOwn V ps = b := ⟨_, rfl⟩
    rw [hb1] at HC1 ⊢
    clear hb1
    cases b1 with
    | false =>
      have hc := Lib.hid (show C = 1 from HC1.out)
      go_wp2_with fail
      go_ret
      exact ⟨ret_int hc.out.symm, hA⟩
    | true =>
      obtain ⟨⟨x0, x1⟩, -, -⟩ := row_fr rf
      go_wp2_with fail
      refine ((khavePlaces_any L V ps _ _ cL _ _ cV _ _ _ w2 hf hok hp Hn.out hn9 hpr)).mono ?_
      rintro e w3 ⟨rfl, hbb⟩
      replace hf := hf.below hbb
      replace hp := hp.below hbb
      replace rf := heap_keep hbb rf
      replace hA := hA.trans (hbb.mono hA.size)
      clear hbb
      clear x0 x1
      obtain ⟨b2, hb2⟩ : ∃ b, Kn.okPl (Kn.stop L) ps = b := ⟨_, rfl⟩
      rw [hb2] at HC1 ⊢
      cases b2 with
      | false =>
        have hc := Lib.hid (show C = 1 from HC1.out)
        clear hb2
        go_wp2_with fail
        go_ret
        exact ⟨ret_int hc.out.symm, hA⟩
      | true =>
        have hpl := pl_all (s := some 1) (by unfold Kn.okPl at hb2; exact hb2)
        clear hb2
        obtain ⟨⟨x0, x1⟩, -, -⟩ := row_fr rf
        go_wp2_with fail
        refine ((kareJoined_any L V ps _ _ cL _ _ cV _ _ _ w3 hf hok hp Hn.out hn9 hpl)).mono ?_
        rintro e w4 ⟨rfl, hbb⟩
        replace hf := hf.below hbb
        replace hp := hp.below hbb
        replace rf := heap_keep hbb rf
        replace hA := hA.trans (hbb.mono hA.size)
        clear hbb
        clear x0 x1
        obtain ⟨b3, hb3⟩ : ∃ b, Kn.okJoin (Kn.stop L) ps = b := ⟨_, rfl⟩
        rw [hb3] at HC1 ⊢
        clear hb3 hpl
        cases b3 with
        | false =>
          have hc := Lib.hid (show C = 1 from HC1.out)
          go_wp2_with fail
          go_ret
          exact ⟨ret_int hc.out.symm, hA⟩
        | true =>
          have hc := Lib.hid (show C = 0 from HC1.out)
          go_wp2_with fail
          go_ret
          exact ⟨ret_int hc.out.symm, hA⟩
  · have hc : Hid (C = Kn.val L V) := Lib.hid (by rw [HC.out]; unfold Kn.pcode; rw [if_pos hz])
    have hne : (Kn.val L V != 0) = true := by simp [hz]
    generalize Kn.val L V = D at hz hne hc ⊢
    go_wp2_with fail
    go_ret
    exact ⟨ret_int hc.out.symm, hA⟩
end Go.Proofs.Ytemlfklipkpacaa
