import Derived.Test.YtmajcccdbhbkfaaB5
import Derived.Test.YtmajcccdbhbkfaaB3
import Derived.Test.YtmajcccdbhbkfaaB2
namespace Go.Proofs.Ytmajcccdbhbkfaa
open Go.RowKit

theorem own_new2 (w : World) (e : TypeId) : (w.alloc (.cells #[] e)).ownsRow w.heap.size e 2 (.slice (some ⟨w.heap.size, 0, none⟩) 0 0) 0 [] :=
  ⟨rfl, .inr ⟨w.heap.size, 0, #[], rfl, Nat.le_refl _, heap_alloc_new _ _, Nat.le_refl _, Nat.zero_le _, rfl, rfl⟩⟩
theorem flat2_get {L : List (Int × Int)} {j : Nat} {u : Value} (h : (flat2 L)[j]? = some u) : ∃ k, k < L.length ∧ ((j = k * 2 ∧ u = .int .i64 (L.getD k (0, 0)).1) ∨ (j = k * 2 + 1 ∧ u = .int .i64 (L.getD k (0, 0)).2)) := by
  have hj := (List.getElem?_eq_some_iff.1 h).1
  rw [flat2_length] at hj
  have hk : j / 2 < L.length := by omega
  have ha := flat2_at hk
  refine ⟨j / 2, hk, ?_⟩
  rw [List.getD_eq_getElem?_getD, List.getElem?_eq_getElem hk]
  rcases Nat.mod_two_eq_zero_or_one j with e | e
  · have : j = j / 2 * 2 := by omega
    left
    refine ⟨this, ?_⟩
    rw [this, ha.1] at h
    simpa using h.symm
  · have : j = j / 2 * 2 + 1 := by omega
    right
    refine ⟨this, ?_⟩
    rw [this, ha.2] at h
    simpa using h.symm
/-- The cells of a slice of pairs, one after another. -/
theorem pts_flat {w : World} {ad : Addr} {l : List (Int × Int)} (h : Pts w (some ad) l) : ∀ j u, (flat2 l)[j]? = some u → w.cell? (ad.add j) = some u := by
  intro j u hj
  obtain ⟨k, hk, hc⟩ := flat2_get hj
  obtain ⟨b, off, e, hb, hcc⟩ := h.cells (by omega)
  cases e
  rw [add_off]
  rcases hc with ⟨rfl, rfl⟩ | ⟨rfl, rfl⟩
  · exact (hcc k hk).1
  · rw [← Nat.add_assoc]; exact (hcc k hk).2

set_option maxRecDepth 100000 in
set_option maxHeartbeats 1000000 in
theorem cloneR_any (l : List (Int × Int)) (ao : Option Addr) (n cap : Nat) (w : World) (hp : Pts w ao l) (hln : n = l.length) (hn : n ≤ 100000) :
    Calls Try.prog 83 #[.slice ao n cap] w fun e w' => ∃ v, e = .returned v ∧ w'.ownsRow w.heap.size 29 2 v n (flat2 l) ∧ Below w.heap.size w w' := by
  obtain ⟨i0, hi, hz0, hz1, hz2⟩ := info_rt
  have q := fun (w : World) (a : Option Addr) (n c n' c' : Nat) => Lib.run_eql_slice_nil (P := Try.prog) w 39 29 a n c n' c' Try.underlying39
  cases ao with
  | none =>
    have h0 : l = [] := by
      cases l with
      | nil => rfl
      | cons z r => obtain ⟨b, off, e, -⟩ := hp.cells (by simp); cases e
    subst h0
    subst hln
    go_enter Try.func83, Try.ntmps83
    go_wp2
    go_ret
    exact ⟨_, rfl, ⟨rfl, .inl ⟨rfl, rfl⟩⟩, Below.refl _ _⟩
  | some ad =>
    have Hn := Lib.hid hln
    have hA := (Below.refl _ w).alloc (Nat.le_refl _) (.cells #[] 29)
    have Hs := Lib.hid (pts_flat (hp.below hA))
    clear hln hp hA
    go_enter Try.func83, Try.ntmps83
    go_wp2_with (first | (at_builtin; refine wpList_append_own _ rfl _ _ 39 rfl w.heap.size 29 i0 (.agg #[.int .i64 0, .int .i64 0]) 2 16 Try.underlying39 hi hz0 hz1 hz2 rfl (by decide) _ 0 [] rfl (own_new2 w _) ad n cap (flat2 l) rfl (by rw [flat2_length, Hn.out]) Hs.out (flat2_one l) (by unfold maxLen; omega) (by omega) (by simp) ?_; intro v' w3 hown' hgrow3 hnil3))
    have hgb : Below w.heap.size w w3 := ((Below.refl _ w).alloc (Nat.le_refl _) _).grown hgrow3 (by simp) (fun k hk => by cases hk; exact Nat.le_refl _)
    have hown2 : w3.ownsRow w.heap.size 29 2 v' n (flat2 l) := by
      have h := hown'
      rw [Nat.zero_add, List.nil_append] at h
      exact h
    clear hown' hgrow3 hnil3
    go_ret
    exact ⟨_, rfl, hown2, hgb⟩
end Go.Proofs.Ytmajcccdbhbkfaa

namespace Go.Proofs.Ytmajcccdbhbkfaa
namespace Fl
def rt (c : Int × Int) : Rat := mkRat c.1 c.2.toNat
/-- The code of a check of cuts. -/
def checkC (l : List (Int × Int)) (ps : List Int) (cs : List (Int × Int)) : Int :=
  if partsC l ps ≠ 0 then partsC l ps else if cs.length ≠ ps.length - 1 then 1 else
  if cs.all (fun c => plc (len l) c.1 c.2 1000000) then (if chainB l 0 ps (cs.map rt ++ [(len l : Rat)]) then 0 else 7) else 1
theorem checkC_parts {l : List (Int × Int)} {ps : List Int} {cs : List (Int × Int)} (h : partsC l ps ≠ 0) : checkC l ps cs = partsC l ps := by unfold checkC; rw [if_pos h]
theorem checkC_len {l : List (Int × Int)} {ps : List Int} {cs : List (Int × Int)} (h : partsC l ps = 0) (h2 : cs.length ≠ ps.length - 1) : checkC l ps cs = 1 := by
  unfold checkC; rw [if_neg (by simp [h]), if_pos h2]
theorem checkC_bad {l : List (Int × Int)} {ps : List Int} {cs : List (Int × Int)} (h : partsC l ps = 0) {k : Nat} (hk : k < cs.length) (hb : plc (len l) (cs.getD k (0, 0)).1 (cs.getD k (0, 0)).2 1000000 = false) : checkC l ps cs = 1 := by
  unfold checkC
  rw [if_neg (by simp [h])]
  split
  · rfl
  · rw [if_neg]
    rw [List.all_eq_true]
    intro h2
    rw [List.getD_eq_getElem?_getD, List.getElem?_eq_getElem hk] at hb
    have := h2 cs[k] (List.getElem_mem hk)
    simp only [Option.getD_some] at hb
    rw [hb] at this
    cases this
theorem checkC_ok {l : List (Int × Int)} {ps : List Int} {cs : List (Int × Int)} (h : partsC l ps = 0) (h2 : cs.length = ps.length - 1) (ha : ∀ c ∈ cs, plc (len l) c.1 c.2 1000000 = true) :
    checkC l ps cs = if chainB l 0 ps (cs.map rt ++ [(len l : Rat)]) then 0 else 7 := by
  unfold checkC
  rw [if_neg (by simp [h]), if_neg (by simp [h2]), if_pos (by rw [List.all_eq_true]; exact ha)]
/-- A place that a cut may be at. -/
structure EndAt (l : List (Int × Int)) (q : Rat) : Prop where
  e0 : 0 ≤ q
  e1 : q ≤ (len l : Rat)
  d : q.den ≤ 1000000
theorem endAt_zero {l : List (Int × Int)} (hok : Ok l) : EndAt l 0 := by
  have hl := (len_bound hok).1
  exact ⟨Rat.le_refl, by exact_mod_cast (show (0 : Int) ≤ len l by omega), by decide⟩
theorem endAt_len {l : List (Int × Int)} (hok : Ok l) : EndAt l (len l : Rat) := by
  have hl := (len_bound hok).1
  exact ⟨by exact_mod_cast (show (0 : Int) ≤ len l by omega), Rat.le_refl, by rw [Rat.den_intCast]; omega⟩
theorem plc_end {l : List (Int × Int)} {n d : Int} (h : plc (len l) n d 1000000 = true) : EndAt l (mkRat n d.toNat) ∧ (mkRat n d.toNat).num = n ∧ ((mkRat n d.toNat).den : Int) = d := by
  obtain ⟨h1, h2⟩ := plc_amt h
  obtain ⟨a1, a2, a3, a4, a5, a6⟩ := amt_rat h1
  exact ⟨⟨a3, h2, by omega⟩, a1, a2⟩
/-- The ends of the pieces. -/
theorem ends_all {l : List (Int × Int)} (hok : Ok l) {cs : List (Int × Int)} (ha : ∀ c ∈ cs, plc (len l) c.1 c.2 1000000 = true) : ∀ q ∈ cs.map rt ++ [(len l : Rat)], EndAt l q := by
  intro q hq
  simp only [List.mem_append, List.mem_map, List.mem_singleton] at hq
  rcases hq with ⟨c, hc, rfl⟩ | rfl
  · exact (plc_end (ha c hc)).1
  · exact endAt_len hok
theorem chain_next {l : List (Int × Int)} {a : Rat} {p : Int} {ps : List Int} {q : Rat} {qs : List Rat} : chainB l a (p :: ps) (q :: qs) = ((!decide (q < a) && decide (worth l a q = (p : Rat))) && chainB l q ps qs) := rfl
theorem chain_end {l : List (Int × Int)} {a : Rat} {qs : List Rat} : chainB l a [] qs = true := rfl
end Fl
end Go.Proofs.Ytmajcccdbhbkfaa

namespace Go.Proofs.Ytmajcccdbhbkfaa
open Go.RowKit

theorem flat2_ends {l : List (Int × Int)} {cs : List (Int × Int)} (ha : ∀ c ∈ cs, Fl.plc (Fl.len l) c.1 c.2 1000000 = true) :
    flat2 cs ++ [.int .i64 (Fl.len l), .int .i64 1] = flat2 ((cs.map Fl.rt ++ [(Fl.len l : Rat)]).map pr) := by
  have e : (cs.map Fl.rt).map pr = cs := by
    rw [List.map_map]
    refine (List.map_congr_left fun c hc => ?_).trans (List.map_id _)
    obtain ⟨-, h1, h2⟩ := Fl.plc_end (ha c hc)
    exact Prod.ext h1 h2
  rw [List.map_append, e, flat2_app]
  rfl
theorem rat_pair {x y : Rat} : decide (((x.num, (x.den : Int)) : Int × Int) = (y.num, (y.den : Int))) = decide (x = y) := by
  rw [decide_eq_decide]
  constructor
  · intro h
    simp only [Prod.mk.injEq] at h
    exact Rat.ext h.1 (by omega)
  · rintro rfl; rfl
theorem endPlace {l : List (Int × Int)} (hok : Fl.Ok l) (h6 : l.length ≤ 6) {a b : Rat} (ha : Fl.EndAt l a) (hb : Fl.EndAt l b) : PlaceOk a b := by
  have hlb := Fl.len_bound hok
  obtain ⟨h1, h2, h3⟩ := ha
  obtain ⟨g1, g2, g3⟩ := hb
  have e : a ≤ ((1000 : Nat) : Rat) := Rat.le_trans h2 (Rat.intCast_le_intCast.2 (by omega))
  have e2 : b ≤ ((1000 : Nat) : Rat) := Rat.le_trans g2 (Rat.intCast_le_intCast.2 (by omega))
  have n1 := Fl.num_le e
  have n2 := Fl.num_le e2
  have hm : a.den * b.den ≤ 1000000 * 1000000 := Nat.mul_le_mul h3 g3
  exact ⟨h1, g1, by omega, by omega, by omega⟩

theorem whole_lit (n : Int) (w : World) : Calls Try.prog 76 #[.int .i64 n] w fun e w' => e = .returned (.agg #[.int .i64 n, .int .i64 1]) ∧ Below w.heap.size w w' := whole_any n w

set_option maxRecDepth 100000 in
set_option maxHeartbeats 8000000 in
theorem CheckCut_any (l : List (Int × Int)) (ps : List Int) (cs : List (Int × Int)) (ao : Option Addr) (n cap : Nat) (ao2 : Option Addr) (m cap2 : Nat) (ao3 : Option Addr) (r cap3 : Nat) (w : World) (hp : Pts w ao l) (hln : n = l.length) (hn : n ≤ 100000) (hI : Ints w ao2 ps) (hlm : m = ps.length) (hm : m ≤ 100000) (hC : Pts w ao3 cs) (hlc : r = cs.length) (hr : r ≤ 100000) (hnum : ∀ c ∈ cs, c.1 ≤ 9223372036854775807) :
    Calls Try.prog 37 #[.slice ao n cap, .slice ao2 m cap2, .slice ao3 r cap3] w fun e w' => e = .returned (.int .i64 (Fl.checkC l ps cs)) ∧ Below w.heap.size w w' := by
  have Hn := Lib.hid hln
  have Hm := Lib.hid hlm
  have Hr := Lib.hid hlc
  have HN := Lib.hid hnum
  clear hln hlm hlc hnum
  obtain ⟨C, hCC⟩ : ∃ c, Fl.partsC l ps = c := ⟨_, rfl⟩
  have hC0 : C = 0 ∨ (C != 0) = true := by by_cases h : C = 0 <;> simp [h]
  have HC := Lib.hid hCC
  clear hCC
  obtain ⟨R, hR⟩ : ∃ c, Fl.checkC l ps cs = c := ⟨_, rfl⟩
  rw [hR]
  have HR := Lib.hid hR
  clear hR
  obtain ⟨i0, hi0, hz0, hz1, hz2⟩ := info_rt
  have hB := Below.refl w.heap.size w
  have HP0 := Lib.hid (And.intro hp hI)
  go_enter Try.func37, Try.ntmps37
  go_wp2_with fail
  refine (checkParts_any l ps _ _ _ _ _ _ _ hp Hn.out hn hI Hm.out hm).mono ?_
  rintro e w1 ⟨rfl, hbb⟩
  replace hp := hp.below hbb
  replace hI := hI.below hbb
  replace hC := hC.below hbb
  replace hB := hB.trans (hbb.mono hB.size)
  clear hbb
  rw [HC.out]
  rcases hC0 with rfl | hC0
  · obtain ⟨h0, h1, h2, h3, h4⟩ := Fl.partsC_ok HC.out
    obtain ⟨⟨hl1, hl6⟩, hok⟩ := Fl.validate_ok.1 h0
    have HP3 := Lib.hid (And.intro h3 h4)
    have m8 : m ≤ 8 := by have := Hm.out; omega
    have m1 : 1 ≤ m := by have := Hm.out; omega
    clear h0 h1 h2 h3 h4
    have hlb := Fl.len_bound hok
    have e1 : IntKind.i64.wrap ((m : Int) - 1) = (m : Int) - 1 := IntWalk.i64_in _ (by omega)
    by_cases hrm : (r : Int) = (m : Int) - 1
    · have hrm2 : cs.length = ps.length - 1 := by have := Hm.out; have := Hr.out; omega
      have HL2 := Lib.hid hrm2
      clear hrm2
      have HI := Lib.hid hI
      have HCs := Lib.hid hC
      have HPp := Lib.hid hp
      clear hI hC hp
      go_wp2
      clear e1
      have Hrm := Lib.hid hrm
      clear hrm
      have r7 : r ≤ 7 := by have := Hrm.out; omega
      go_loopw [29] (fun i wr => ∃ k : Nat, k ≤ r ∧ i = .int .i64 k ∧ Hid (∀ j, j < k → Fl.plc (Fl.len l) (cs.getD j (0, 0)).1 (cs.getD j (0, 0)).2 1000000 = true) ∧ Below w1.heap.size w1 wr) (fun i _ => r - (intOf i).toNat)
      case atStart => exact ⟨0, Nat.zero_le _, rfl, Lib.hid fun j hj => by omega, Below.refl _ _⟩
      case round =>
        obtain ⟨k, hk, rfl, hall, hb⟩ := hrel
        by_cases hlt : k < r
        · have hkl : k < cs.length := by have := Hr.out; omega
          obtain ⟨b, off, rfl, hbs, hc1, hc2⟩ := pts_at HCs.out hkl
          replace hc1 := keep_cell hb hc1
          replace hc2 := keep_cell hb hc2
          have hgd : cs.getD k (0, 0) = cs[k] := by rw [List.getD_eq_getElem?_getD, List.getElem?_eq_getElem hkl]; rfl
          have hnk := HN.out _ (List.getElem_mem hkl)
          rw [← hgd] at hc1 hc2 hnk
          have hbad := Fl.checkC_bad HC.out hkl
          obtain ⟨x, hx⟩ : ∃ x, x = cs.getD k (0, 0) := ⟨_, rfl⟩
          rw [← hx] at hc1 hc2 hnk hbad
          obtain ⟨x1, x2⟩ := x
          simp only at hc1 hc2 hnk hbad
          have Hx := Lib.hid hx
          clear hx hgd
          have i1 : (k : Int) < (m : Int) - 1 := by have := Hrm.out; omega
          have hA := (Below.refl _ wr).alloc (Nat.le_refl _) (.cells #[.int .i64 x1, .int .i64 x2] 29)
          have hpw := (HPp.out.below hb).below hA
          have hs := hb.size
          have hBA := hb.trans (hA.mono hb.size)
          clear hA
          go_wp2_with fail
          refine (isPlace_any l _ _ _ x1 x2 1000000 _ hpw Hn.out hok hl6 hnk (by omega)).mono ?_
          rintro e w2 ⟨rfl, hbb⟩
          have hb2 := hBA.trans (hbb.mono hBA.size)
          clear hpw hbb hBA
          cases hv : Fl.plc (Fl.len l) x1 x2 1000000 with
          | false =>
            have hR1 : Hid (R = 1) := Lib.hid (HR.out.symm.trans (hbad hv))
            clear hbad hv
            go_wp2
            go_ret
            exact ⟨ret_int hR1.out.symm, hB.trans (hb2.mono hB.size)⟩
          | true =>
            have Hv := Lib.hid hv
            clear hbad hv
            go_wp2
            go_roundw
            case rel =>
              refine ⟨k + 1, by omega, by go_num, Lib.hid fun j hj => ?_, hb2⟩
              by_cases e : j = k
              · subst e; rw [← Hx.out]; exact Hv.out
              · exact hall.out j (by omega)
            case measure => simp [intOf]; omega
        · have hk2 : k = r := by omega
          have hca : ∀ c ∈ cs, Fl.plc (Fl.len l) c.1 c.2 1000000 = true := by
            intro c hc
            obtain ⟨j, hj, rfl⟩ := List.getElem_of_mem hc
            have := hall.out j (by have := Hr.out; omega)
            rwa [List.getD_eq_getElem?_getD, List.getElem?_eq_getElem hj] at this
          have hRv := HR.out.symm.trans (Fl.checkC_ok HC.out HL2.out hca)
          have hends := Fl.ends_all hok hca
          have hfe := flat2_ends hca
          obtain ⟨E, hE⟩ : ∃ E, E = cs.map Fl.rt ++ [(Fl.len l : Rat)] := ⟨_, rfl⟩
          have hEl : E.length = r + 1 := by rw [hE, List.length_append, List.length_map, Hr.out]; rfl
          rw [← hE] at hRv hends hfe
          have HE := Lib.hid (And.intro hRv (And.intro hends (And.intro hfe hEl)))
          clear hRv hends hfe hEl hE hca hall hk2
          have hC := HCs.out.below hb
          have hp := HPp.out.below hb
          have hI := HI.out.below hb
          have hB2 := hB.trans (hb.mono hB.size)
          clear hb hB HCs HPp HI
          have i1 : ¬ (k : Int) < (m : Int) - 1 := by have := Hrm.out; omega
          go_wp2_with fail
          refine (cloneR_any cs _ _ _ _ hC Hr.out hr).mono ?_
          rintro e wk ⟨v, rfl, hown, hbb⟩
          have hbs := hB2.size
          replace hp := hp.below hbb
          replace hI := hI.below hbb
          replace hB2 := hB2.trans (hbb.mono hB2.size)
          replace hown := Lib.hid (own_mono hown hbs)
          clear hbb hC hbs
          go_wp2_with fail
          refine (length_any l _ _ _ _ hp Hn.out hok hl6).mono ?_
          rintro e w2 ⟨rfl, hbb⟩
          replace hp := hp.below hbb
          replace hI := hI.below hbb
          replace hown := Lib.hid (own_below hown.out hbb)
          replace hB2 := hB2.trans (hbb.mono hB2.size)
          clear hbb
          go_wp2_with fail
          refine (whole_any (Fl.len l) _).mono ?_
          rintro e w3 ⟨rfl, hbb⟩
          replace hp := hp.below hbb
          replace hI := hI.below hbb
          replace hown := Lib.hid (own_below hown.out hbb)
          replace hB2 := hB2.trans (hbb.mono hB2.size)
          clear hbb
          dsimp only [Fr]
          simp only [Rat.num_intCast, Rat.den_intCast]
          have hs3 := hB2.size
          go_wp2_with (first | (at_builtin; refine wpList_append_own _ rfl _ _ 39 rfl w.heap.size 29 i0 (.agg #[.int .i64 0, .int .i64 0]) 2 16 Try.underlying39 hi0 hz0 hz1 hz2 rfl (by decide) _ r _ rfl (hown.out.alloc _) ⟨w3.heap.size, 0, none⟩ 1 1 [.int .i64 (Fl.len l), .int .i64 1] rfl rfl (World.news_of_block (cs := #[.int .i64 (Fl.len l), .int .i64 1]) (t := 29) (fr := (0, 0)) (heap_alloc_new w3 _)) (by simp [Value.oneCell']) (by unfold maxLen; omega) (by omega) (by simp; omega) ?_; intro v' w5 hown5 hgrow5 hnil5; have hbb : Below w.heap.size w w5 := (hB2.alloc hB2.size _).grown hgrow5 (by have := hB2.size; simp; omega) (fun q hq => (hown.out.lt _ hq).1); clear hgrow5 hnil5))
          refine (whole0_any _).mono ?_
          rintro e w6 ⟨rfl, hb6⟩
          rw [HE.out.2.2.1] at hown5
          obtain ⟨ao5, cap5, rfl, hc5, hF⟩ := frs_of_own hown5 HE.out.2.2.2.symm
          have hp5 := HP0.out.1.below hbb
          have hI5 := HP0.out.2.below hbb
          have hB5 := hbb
          have hs5 := hB5.size
          have hb7 : Below w5.heap.size w5 (w6.alloc (.cells #[.int .i64 0, .int .i64 1] 71)) := hb6.alloc hb6.size _
          have r11 := heap_alloc_new w6 (.cells #[.int .i64 0, .int .i64 1] 71)
          have hs6 := hb6.size
          have hsz : (w6.alloc (.cells #[.int .i64 0, .int .i64 1] 71)).heap.size = w6.heap.size + 1 := by simp
          clear hown hown5 hp hI hbb hB2 hs3 hb6
          have HF := Lib.hid hF
          have HP5 := Lib.hid hp5
          have HI5 := Lib.hid hI5
          clear hF hp5 hI5
          go_wp2_with fail
          generalize w6.alloc (.cells #[.int .i64 0, .int .i64 1] 71) = W7 at hb7 r11 hsz ⊢
          obtain ⟨G, hG⟩ : ∃ g, g = w6.heap.size := ⟨_, rfl⟩
          rw [← hG] at r11 hsz hs6 ⊢
          clear hG
          go_loopw [48] (fun i wr => ∃ k : Nat, k ≤ m ∧ i = .int .i64 k ∧ ∃ a : Rat, Hid (Fl.EndAt l a ∧ Fl.chainB l a (ps.drop k) (E.drop k) = Fl.chainB l 0 ps E) ∧ wr.heap[G]? = some (.cells #[.int .i64 a.num, .int .i64 a.den] 71 (0, 0)) ∧ Below w5.heap.size w5 wr) (fun i _ => m - (intOf i).toNat)
          case atStart => exact ⟨0, Nat.zero_le _, rfl, 0, Lib.hid ⟨Fl.endAt_zero hok, by rw [List.drop_zero, List.drop_zero]⟩, r11, hb7⟩
          case round =>
            clear r11 hb7 hsz
            obtain ⟨k, hk, rfl, a, hA, r11, hb⟩ := hrel
            by_cases hlt : k < m
            · have hkl : k < ps.length := by have := Hm.out; omega
              have hkE : k < E.length := by have := HE.out.2.2.2; have := Hrm.out; omega
              obtain ⟨b, off, rfl, hbs, hc⟩ := HI5.out.at hkl
              obtain ⟨b2, off2, rfl, hbs2, hx1, hx2⟩ := HF.out.at hkE
              replace hc := keep_cell hb hc
              replace hx1 := keep_cell hb hx1
              replace hx2 := keep_cell hb hx2
              have hpw := HP5.out.below hb
              have hq := HE.out.2.1 _ (List.getElem_mem hkE)
              have hch := hA.out.2
              have hdp : ps.drop k = ps.getD k 0 :: ps.drop (k + 1) := by rw [List.drop_eq_getElem_cons hkl, List.getD_eq_getElem?_getD, List.getElem?_eq_getElem hkl]; rfl
              have hdE : E.drop k = E[k] :: E.drop (k + 1) := List.drop_eq_getElem_cons hkE
              rw [hdp, hdE, Fl.chain_next] at hch
              obtain ⟨x, hx⟩ : ∃ x, x = ps.getD k 0 := ⟨_, rfl⟩
              obtain ⟨q, hqq⟩ : ∃ x, x = E[k] := ⟨_, rfl⟩
              rw [← hx] at hc hch
              rw [← hqq] at hx1 hx2 hch hq
              have hpo := endPlace hok hl6 hA.out.1 hq
              have Hpo := Lib.hid hpo
              have Hq := Lib.hid hq
              have Hch := Lib.hid hch
              clear hx hqq hdp hdE hch hq
              obtain ⟨n0, n1, d0, d1⟩ := hpo.nums
              have hdd : Hid ((q.den : Int) * (a.den : Int) ≤ 4000000000000000000) := Lib.hid (by have := hpo.d; rw [← Int.natCast_mul, Nat.mul_comm]; omega)
              have bn1 := hpo.an
              have bn2 := hpo.bn
              clear hpo
              have i1 : (k : Int) < (m : Int) := by omega
              have hA14 := (Below.refl _ wr).alloc (Nat.le_refl _) (.cells #[.int .i64 q.num, .int .i64 q.den] 71)
              have r14 := heap_alloc_new wr (.cells #[.int .i64 q.num, .int .i64 q.den] 71)
              have hbb := hb.trans (hA14.mono hb.size)
              have hpA := hpw.below hA14
              have r11A := heap_keep hA14 r11
              have hl11 := heap_lt r11
              obtain ⟨⟨k0, k1⟩, -, -⟩ := row_fr r11
              clear hA14 hpw hb r11
              have H14 := Lib.hid (And.intro hbb (And.intro hpA (And.intro r11A r14)))
              clear hbb hpA r11A r14
              by_cases hlq : q < a
              · have hcm : Fl.cmpR q a = -1 := by unfold Fl.cmpR; rw [if_pos hlq]
                have hR7 : Hid (R = 7) := Lib.hid (by
                  have h1 := Hch.out
                  simp only [hlq, decide_true, Bool.not_true, Bool.false_and] at h1
                  rw [HE.out.1, ← h1]; rfl)
                clear hlq
                go_wp2_with fail
                obtain ⟨hbb, hpA, r11, r14⟩ := H14.out
                clear H14 hc hx1 hx2 k0 k1
                generalize wr.alloc (.cells #[.int .i64 q.num, .int .i64 q.den] 71) = wx at hbb hpA r11 r14 ⊢
                obtain ⟨⟨c0, c1⟩, -, -⟩ := row_fr r11
                obtain ⟨⟨c2, c3⟩, -, -⟩ := row_fr r14
                refine (compare_any q a _ n1 n0 bn2 bn1 hdd.out).mono ?_
                rintro e w8 ⟨rfl, hb8⟩
                rw [hcm]
                have hb9 := hbb.trans (hb8.mono hbb.size)
                go_wp2
                go_ret
                exact ⟨ret_int hR7.out.symm, hB5.trans (hb9.mono hs5)⟩
              · have hcm : Fl.cmpR q a = 0 ∨ Fl.cmpR q a = 1 := by unfold Fl.cmpR; rw [if_neg hlq]; split <;> simp
                obtain ⟨W, hW⟩ : ∃ x, x = Fl.worth l a q := ⟨_, rfl⟩
                have hch := Hch.out
                rw [← hW] at hch
                simp only [hlq, decide_false, Bool.not_false, Bool.true_and] at hch
                have HW := Lib.hid hW
                have Hc2 := Lib.hid hch
                have qn := run_neq_fr W.num W.den x 1
                have ep : decide ((W.num, (W.den : Int)) = ((x, 1) : Int × Int)) = decide (W = (x : Rat)) := rat_pair (x := W) (y := (x : Rat))
                rw [ep] at qn
                have Hpo2 := Hpo.out
                clear hch hW Hch hlq ep
                go_wp2_with fail
                obtain ⟨hbb, hpA, r11, r14⟩ := H14.out
                clear H14 hc hx1 hx2 k0 k1
                generalize wr.alloc (.cells #[.int .i64 q.num, .int .i64 q.den] 71) = wx at hbb hpA r11 r14 ⊢
                obtain ⟨⟨c0, c1⟩, -, -⟩ := row_fr r11
                obtain ⟨⟨c2, c3⟩, -, -⟩ := row_fr r14
                refine (compare_any q a _ n1 n0 bn2 bn1 hdd.out).mono ?_
                rintro e w8 ⟨rfl, hb8⟩
                clear c0 c1 c2 c3
                replace hpA := hpA.below hb8
                replace r11 := heap_keep hb8 r11
                replace r14 := heap_keep hb8 r14
                replace hbb := hbb.trans (hb8.mono hbb.size)
                obtain ⟨⟨c0, c1⟩, f0, f1⟩ := row_fr r11
                obtain ⟨⟨c2, c3⟩, -, -⟩ := row_fr r14
                have hc2 := Hc2.out
                rcases hcm with hcm | hcm <;> rw [hcm] <;>
                · go_wp2_with fail
                  refine (worth_any l a q _ _ _ _ hpA Hn.out hok hl1 hl6 Hpo2).mono ?_
                  rintro e w9 ⟨rfl, hb9⟩
                  rw [← HW.out]
                  replace hpA := hpA.below hb9
                  replace r11 := heap_keep hb9 r11
                  replace r14 := heap_keep hb9 r14
                  replace hbb := hbb.trans (hb9.mono hbb.size)
                  go_wp2_with fail
                  refine (whole_lit x _).mono ?_
                  rintro e w10 ⟨rfl, hb10⟩
                  replace hpA := hpA.below hb10
                  replace r11 := heap_keep hb10 r11
                  replace r14 := heap_keep hb10 r14
                  replace hbb := hbb.trans (hb10.mono hbb.size)
                  cases hwx : decide (W = (x : Rat)) with
                  | false =>
                    rw [hwx] at hc2 qn
                    simp only [Bool.false_and] at hc2
                    have hR7 : Hid (R = 7) := Lib.hid (by rw [HE.out.1, ← hc2]; rfl)
                    clear hc2 hwx
                    go_wp2
                    go_ret
                    exact ⟨ret_int hR7.out.symm, hB5.trans (hbb.mono hs5)⟩
                  | true =>
                    rw [hwx] at hc2 qn
                    simp only [Bool.true_and] at hc2
                    have HA2 := Lib.hid (And.intro Hq.out hc2)
                    clear hc2 hwx c0 c1 c2 c3 f0 f1
                    obtain ⟨⟨c0, c1⟩, f0, f1⟩ := row_fr r11
                    obtain ⟨⟨c2, c3⟩, -, -⟩ := row_fr r14
                    go_wp2
                    go_roundw
                    case rel => exact ⟨k + 1, by omega, by go_num, q, HA2, two_cells r11 _ _, below_setCell (below_setCell hbb (by omega) _) (by omega) _⟩
                    case measure => simp [intOf]; omega
            · have hk2 : k = m := by omega
              have hR0 : Hid (R = 0) := Lib.hid (by
                have h1 := hA.out.2
                rw [hk2, Hm.out, List.drop_length, Fl.chain_end] at h1
                rw [HE.out.1, ← h1]; rfl)
              clear hk2
              go_wp2
              go_ret
              exact ⟨ret_int hR0.out.symm, hB5.trans (hb.mono hs5)⟩
    · have hR1 : Hid (R = 1) := Lib.hid (HR.out.symm.trans (Fl.checkC_len HC.out (by have := Hm.out; have := Hr.out; omega)))
      go_wp2
      go_ret
      exact ⟨ret_int hR1.out.symm, hB⟩
  · have hR1 : Hid (R = C) := Lib.hid (HR.out.symm.trans ((Fl.checkC_parts (by rw [HC.out]; exact code_ne hC0)).trans HC.out))
    go_wp2
    go_ret
    exact ⟨ret_int hR1.out.symm, hB⟩
end Go.Proofs.Ytmajcccdbhbkfaa

namespace Go.Proofs.Ytmajcccdbhbkfaa
open Go.RowKit

/-- The places of the first cuts, and the cut that has been reached. -/
structure CutK (l : List (Int × Int)) (ps : List Int) (k : Nat) (a : Rat) (done : List Rat) : Prop where
  len : done.length = k
  at_ : Fl.CutAt l a (Fl.sumI (ps.take k))
  rest : done ++ Fl.cutsF l a (((ps.take (ps.length - 1)).drop k).map fun (x : Int) => (x : Rat)) = Fl.cutsOf l ps
theorem cutK_zero {l : List (Int × Int)} {ps : List Int} (hok : Fl.Ok l) : CutK l ps 0 0 [] :=
  ⟨rfl, by simpa [Fl.sumI] using Fl.cutAt_zero hok, by simp [Fl.cutsOf, List.map_take]⟩
theorem cutK_step {l : List (Int × Int)} {ps : List Int} (hc : Fl.partsC l ps = 0) {k : Nat} {a : Rat} {done : List Rat} (h : CutK l ps k a done) (hk : k < ps.length - 1) :
    CutK l ps (k + 1) (Fl.place l a ((ps.getD k 0 : Int) : Rat)) (done ++ [Fl.place l a ((ps.getD k 0 : Int) : Rat)]) ∧ ((ps.getD k 0 : Int) : Rat) ≤ Fl.worth l a (Fl.len l : Rat) ∧ 0 ≤ ps.getD k 0 ∧ ps.getD k 0 ≤ Fl.tot l := by
  obtain ⟨h0, h1, h2, h3, h4⟩ := Fl.partsC_ok hc
  obtain ⟨⟨-, h6⟩, hok⟩ := Fl.validate_ok.1 h0
  have hk1 : k < ps.length := by omega
  have hkm : ps.getD k 0 ∈ ps := by rw [List.getD_eq_getElem?_getD, List.getElem?_eq_getElem hk1]; exact List.getElem_mem hk1
  have hp := h3 _ hkm
  have hst := Fl.sumI_take hk1
  have hle : Fl.sumI (ps.take (k + 1)) ≤ Fl.tot l := by
    rw [← h4]
    conv => rhs; rw [← List.take_append_drop (k + 1) ps]
    rw [Fl.sumI_app]
    have := Fl.sumI_nonneg (ps := ps.drop (k + 1)) (fun p hp => h3 p (List.mem_of_mem_drop hp))
    omega
  have hpre : 0 ≤ Fl.sumI (ps.take k) := Fl.sumI_nonneg (ps := ps.take k) (fun p hp => h3 p (List.mem_of_mem_take hp))
  obtain ⟨c1, c2, c3, c4, c5⟩ := Fl.cut_step hok h6 h.at_ hp.1 (by rw [← hst]; exact hle)
  rw [← hst] at c1
  refine ⟨⟨by simp [h.len], c1, ?_⟩, c5, hp.1, by omega⟩
  have hd : (ps.take (ps.length - 1)).drop k = ps.getD k 0 :: (ps.take (ps.length - 1)).drop (k + 1) := by
    have hkl : k < (ps.take (ps.length - 1)).length := by rw [List.length_take]; omega
    rw [List.drop_eq_getElem_cons hkl]
    congr 1
    rw [List.getElem_take, List.getD_eq_getElem?_getD, List.getElem?_eq_getElem hk1]
    rfl
  rw [← h.rest, hd, List.append_assoc]
  rfl
theorem cutK_end {l : List (Int × Int)} {ps : List Int} {k : Nat} {a : Rat} {done : List Rat} (h : CutK l ps k a done) (hk : ps.length - 1 ≤ k) : done = Fl.cutsOf l ps := by
  have := h.rest
  rw [List.drop_eq_nil_of_le (by rw [List.length_take]; omega)] at this
  simpa [Fl.cutsF] using this

theorem rwhole0_any (w : World) : Calls Try.prog 41 #[.int .i64 0] w fun e w' => e = .returned (.agg #[.int .i64 0, .int .i64 1]) ∧ Below w.heap.size w w' := rwhole_any 0 w

set_option maxRecDepth 100000 in
set_option maxHeartbeats 8000000 in
theorem rCut_any (l : List (Int × Int)) (ps : List Int) (ao : Option Addr) (n cap : Nat) (ao2 : Option Addr) (m cap2 : Nat) (w : World) (hp : Pts w ao l) (hln : n = l.length) (hn : n ≤ 100000) (hI : Ints w ao2 ps) (hlm : m = ps.length) (hm : m ≤ 100000) :
    Calls Try.prog 35 #[.slice ao n cap, .slice ao2 m cap2] w fun e w' => (∃ v, e = .returned (.tuple #[v, .int .i64 (Fl.partsC l ps)]) ∧ CutMade w' w.heap.size v (Fl.partsC l ps) ((Fl.cutsOf l ps).map pr)) ∧ Below w.heap.size w w' := by
  have Hn := Lib.hid hln
  have Hm := Lib.hid hlm
  clear hln hlm
  obtain ⟨C, hC⟩ : ∃ c, Fl.partsC l ps = c := ⟨_, rfl⟩
  rw [hC]
  have hC0 : C = 0 ∨ (C != 0) = true := by by_cases h : C = 0 <;> simp [h]
  have HC := Lib.hid hC
  clear hC
  obtain ⟨i0, hi0, hz0, hz1, hz2⟩ := info_rt
  have hB := Below.refl w.heap.size w
  have HP := Lib.hid hp
  have HI := Lib.hid hI
  obtain ⟨L, hL⟩ : ∃ x, x = (Fl.cutsOf l ps).map pr := ⟨_, rfl⟩
  rw [← hL]
  have HL := Lib.hid hL
  clear hL
  go_enter Try.func35, Try.ntmps35
  go_wp2_with fail
  refine (rparted_any l ps _ _ _ _ _ _ _ hp Hn.out hn hI Hm.out hm).mono ?_
  rintro e w1 ⟨rfl, hbb⟩
  replace hp := hp.below hbb
  replace hI := hI.below hbb
  replace hB := hB.trans (hbb.mono hB.size)
  clear hbb
  rw [HC.out]
  rcases hC0 with rfl | hC0
  · obtain ⟨h0, h1, h2, h3, h4⟩ := Fl.partsC_ok HC.out
    obtain ⟨⟨hl1, hl6⟩, hok⟩ := Fl.validate_ok.1 h0
    have m8 : m ≤ 8 := by have := Hm.out; omega
    have m1 : 1 ≤ m := by have := Hm.out; omega
    have htb := Fl.tot_bound hok
    have hu := unitsOk_of hok hl6
    clear h3 h4 h0
    go_wp2_with fail
    refine (rwhole0_any _).mono ?_
    rintro e w2 ⟨rfl, hbb⟩
    replace hp := hp.below hbb
    replace hI := hI.below hbb
    replace hB := hB.trans (hbb.mono hB.size)
    clear hbb
    have hA := (Below.refl _ w2).alloc (Nat.le_refl _) (.cells #[.int .i64 0, .int .i64 1] 29)
    have r8 := heap_alloc_new w2 (.cells #[.int .i64 0, .int .i64 1] 29)
    have hBw2 := hB.size
    replace hp := hp.below hA
    replace hI := hI.below hA
    replace hB := hB.trans (hA.mono hB.size)
    clear hA
    clear hI hp
    go_wp2_with fail
    have hsz : (w2.alloc (.cells #[.int .i64 0, .int .i64 1] 29)).heap.size = w2.heap.size + 1 := by simp
    generalize w2.alloc (.cells #[.int .i64 0, .int .i64 1] 29) = W3 at r8 hB hsz ⊢
    obtain ⟨G, hG⟩ : ∃ g, g = w2.heap.size := ⟨_, rfl⟩
    rw [← hG] at r8 hsz hBw2 ⊢
    clear hG
    have hbw : w.heap.size ≤ G := hBw2
    go_loopw [7, 9] (fun v i wr => ∃ k : Nat, k ≤ m ∧ i = .int .i64 k ∧ ∃ (a : Rat) (done : List Rat), Hid (CutK l ps k a done) ∧ Hid (wr.ownsRow (G + 1) 29 2 v k (flat2 (done.map pr))) ∧ wr.heap[G]? = some (.cells #[.int .i64 a.num, .int .i64 a.den] 29 (0, 0)) ∧ Below w.heap.size w wr ∧ G + 1 ≤ wr.heap.size) (fun _ i _ => m - (intOf i).toNat)
    case atStart => exact ⟨0, Nat.zero_le _, rfl, 0, [], Lib.hid (cutK_zero hok), Lib.hid ⟨rfl, .inl ⟨rfl, rfl⟩⟩, r8, hB, by omega⟩
    case round =>
      clear r8 hB hsz
      obtain ⟨k, hk, rfl, a, done, hK, hown, r8, hB, hs⟩ := hrel
      have hp := HP.out.below hB
      have hI := HI.out.below hB
      by_cases hlt : k + 1 < m
      · have hkl : k < ps.length := by have := Hm.out; omega
        obtain ⟨b, off, rfl, hbs, hc⟩ := hI.at hkl
        obtain ⟨hK2, q1, q2, q3⟩ := cutK_step HC.out hK.out (by have := Hm.out; omega)
        have hre := reachR_eq hok hK.out.at_.a0 hK.out.at_.a1 (w := ((ps.getD k 0 : Int) : Rat)) (by exact_mod_cast q2)
        rw [if_neg (by grind)] at hre
        obtain ⟨x, hx⟩ : ∃ x, x = ps.getD k 0 := ⟨_, rfl⟩
        rw [← hx] at hc hK2 q1 q2 q3 hre
        obtain ⟨V, hV⟩ : ∃ v, v = Fl.place l a (x : Rat) := ⟨_, rfl⟩
        rw [← hV] at hK2 hre
        have Hre := Lib.hid hre
        have HK2 := Lib.hid hK2
        have pu := placeU_of hok hK.out.at_.a0 hK.out.at_.a1 (by have := hK.out.at_.d; omega)
        have hd20 := hK.out.at_.d
        have hwant : WantU (x : Rat) := ⟨by exact_mod_cast q2, by have : (x : Rat) ≤ ((4000 : Int) : Rat) := Rat.intCast_le_intCast.2 (by omega); exact this, by rw [Rat.den_intCast]; omega⟩
        clear hx hre hK2 hV q1
        have i1 : (k : Int) + 1 < (m : Int) := by omega
        have i2 : (k : Int) < (m : Int) := by omega
        obtain ⟨⟨c0, c1⟩, -, -⟩ := row_fr r8
        have hpd : Pts wr.drew ao l := ⟨hp.cells⟩
        have hl8 := heap_lt r8
        go_upto_region 10 with fail
        go_cut [9] from 17 to 39 (fun p9 wc => p9 = .int .i64 k ∧ wc.heap[G]? = some (.cells #[.int .i64 V.num, .int .i64 V.den] 29 (0, 0)) ∧ Hid (wc.ownsRow (G + 1) 29 2 u7 k (flat2 (done.map pr))) ∧ Below w.heap.size w wc ∧ G + 1 ≤ wc.heap.size)
        case first =>
          first | (go_region_with (first
            | (go_at_call 62; refine (units_any l _ _ _ _ hpd Hn.out hok hl6).mono ?_; rintro e w4 ⟨ao3, cap3, rfl, hIu, hb1⟩; have ka := And.intro (keep_cell hb1 c0) (And.intro (keep_cell hb1 c1) (keep_cell hb1 hc)); obtain ⟨ka0, ka1, ka2⟩ := ka)
            | (go_at_call 41; refine (rwhole_any x _).mono ?_; rintro e w5 ⟨rfl, hb2⟩; have kb0 := keep_cell hb2 ka0; have kb1 := keep_cell hb2 ka1; have kb2 := keep_cell hb2 ka2; have hIu2 := hIu.below hb2)
            | (go_at_call 79; refine (rreach_any _ a (x : Rat) _ _ _ hIu2 hu pu (by omega) hwant).mono ?_; rintro e w6 ⟨rfl, hb3⟩; rw [Hre.out, optFr_some]; have hbb : Below wr.heap.size wr w6 := (((below_drewN (Below.refl _ wr) 1).trans hb1).trans (hb2.mono (by have := hb1.size; exact this))).trans (hb3.mono (by have h1 := hb1.size; have h2 := hb2.size; exact Nat.le_trans h1 h2)); have r86 := heap_keep hbb r8; obtain ⟨⟨d0, d1⟩, f0, f1⟩ := row_fr r86))) | fail
          all_goals go_wp2_with fail
          all_goals go_meet
          all_goals
            have hs6 := hbb.size
            have hB6 := hB.trans (hbb.mono hB.size)
            exact ⟨rfl, two_cells r86 _ _, Lib.hid (ownsRow_setCell_below (ownsRow_setCell_below (own_below hown.out hbb) (a := ⟨G, 0, none⟩) (by show G < G + 1; omega) _) (a := ⟨G, 1, none⟩) (by show G < G + 1; omega) _), below_setCell (below_setCell hB6 (by omega) _) (by omega) _, by simp [World.setCell]; omega⟩
        case rest =>
          obtain ⟨rfl, r8, hown, hB, hs⟩ := hcut
          clear c0 c1 hpd hl8 hbs hc hp hI
          obtain ⟨⟨c0, c1⟩, -, -⟩ := row_fr r8
          go_wp2_with (first | (at_builtin; refine wpList_append_own _ rfl _ _ 39 rfl (G + 1) 29 i0 (.agg #[.int .i64 0, .int .i64 0]) 2 16 Try.underlying39 hi0 hz0 hz1 hz2 rfl (by decide) _ k _ rfl (hown.out.alloc _) ⟨wc.heap.size, 0, none⟩ 1 1 [.int .i64 V.num, .int .i64 V.den] rfl rfl (World.news_of_block (cs := #[.int .i64 V.num, .int .i64 V.den]) (t := 29) (fr := (0, 0)) (heap_alloc_new wc _)) (by simp [Value.oneCell']) (by unfold maxLen; omega) (by omega) (by simp; omega) ?_; intro v' w3 hown3 hgrow3 hnil3; have hb5 : Below w.heap.size w w3 := (hB.alloc hB.size _).grown hgrow3 (by have := hB.size; simp; omega) (fun q hq => by have := (hown.out.lt _ hq).1; omega); have hb9 : Below (G + 1) (wc.alloc (.cells #[.int .i64 V.num, .int .i64 V.den] 29)) w3 := (Below.refl _ _).grown hgrow3 (by simp; omega) (fun q hq => (hown.out.lt _ hq).1); clear hgrow3 hnil3))
          have hlG : G < wc.heap.size := by omega
          have r83 : w3.heap[G]? = some (.cells #[.int .i64 V.num, .int .i64 V.den] 29 (0, 0)) := (hb9.block G (by omega)).trans ((heap_alloc_old _ _ (by omega)).trans r8)
          have hs3 : G + 1 ≤ w3.heap.size := by have := hb9.size; simp at this; omega
          go_roundw
          case rel => exact ⟨k + 1, by omega, by go_num, V, done ++ [V], HK2, Lib.hid (by rw [List.map_append, flat2_app]; exact hown3), r83, hb5, hs3⟩
          case measure => simp [intOf]; omega
      · have hd := cutK_end hK.out (by have := Hm.out; omega)
        have Ho : Hid (wr.ownsRow w.heap.size 29 2 u7 L.length (flat2 L)) := Lib.hid (by
          have h := own_mono hown.out (show w.heap.size ≤ G + 1 by omega)
          rw [hd] at h
          rw [HL.out, List.length_map, ← hd, hK.out.len, hd]
          exact h)
        clear hd
        have i1 : ¬ (k : Int) + 1 < (m : Int) := by omega
        go_wp2
        go_ret2
        exact ⟨⟨_, rfl, .inl ⟨rfl, Ho.out⟩⟩, hB⟩
  · go_wp2
    go_ret2
    exact ⟨⟨_, rfl, .inr ⟨code_ne hC0, rfl⟩⟩, hB⟩
end Go.Proofs.Ytmajcccdbhbkfaa

namespace Go.Proofs.Ytmajcccdbhbkfaa
open Go.RowKit
namespace Fl
/-- The cuts that are asked are accepted. -/
theorem check_own {l : List (Int × Int)} {ps : List Int} (h : partsC l ps = 0) : checkC l ps ((cutsOf l ps).map pr) = 0 := by
  obtain ⟨-, k2, k3, k4⟩ := cutsOf_ok h
  have e : ((cutsOf l ps).map pr).map rt = cutsOf l ps := by
    rw [List.map_map]
    refine (List.map_congr_left fun c hc => ?_).trans (List.map_id _)
    exact mk_self c
  rw [checkC_ok h (by rw [List.length_map]; exact k4), e, k3]
  · rfl
  · intro c hc
    simp only [List.mem_map] at hc
    obtain ⟨q, hq, rfl⟩ := hc
    obtain ⟨q0, q1, q2⟩ := k2 q hq
    unfold plc
    show (amt q.num q.den 1000000 && decide (mkRat q.num (q.den : Int).toNat ≤ _)) = true
    rw [amt_of_rat q0 (by omega), mk_self]
    simp [q1]
end Fl
theorem cuts_num {l : List (Int × Int)} {ps : List Int} (h : Fl.partsC l ps = 0) : ∀ c ∈ (Fl.cutsOf l ps).map pr, c.1 ≤ 9223372036854775807 := by
  intro c hc
  obtain ⟨-, k2, -, -⟩ := Fl.cutsOf_ok h
  obtain ⟨h0, -, -, -, -⟩ := Fl.partsC_ok h
  have hlb := Fl.len_bound (Fl.validate_ok.1 h0).2
  have h6 := (Fl.validate_ok.1 h0).1.2
  simp only [List.mem_map] at hc
  obtain ⟨q, hq, rfl⟩ := hc
  obtain ⟨q0, q1, q2⟩ := k2 q hq
  have e : q ≤ ((1000 : Nat) : Rat) := Rat.le_trans q1 (Rat.intCast_le_intCast.2 (by omega))
  have := Fl.num_le e
  show q.num ≤ _
  omega

set_option maxRecDepth 100000 in
set_option maxHeartbeats 4000000 in
theorem soilCuts_any (l : List (Int × Int)) (ao : Option Addr) (n cap : Nat) (ps : List Int) (ao2 : Option Addr) (m cap2 : Nat) (w : World) (hp : Pts w ao l) (hln : n = l.length) (hI : Ints w ao2 ps) (hlm : m = ps.length) (_ : ∀ x ∈ ps, Rng x) :
    Calls Try.prog 7 #[.slice ao n cap, .slice ao2 m cap2] w fun e w' => e = .returned (.bool true) ∧ Below w.heap.size w w' := by
  have Hn := Lib.hid hln
  have Hm := Lib.hid hlm
  clear hln hlm
  have hB := Below.refl w.heap.size w
  by_cases hlong : 100 < n
  · have hd : (decide (100 < n) || decide (100 < 0)) = true := by simp [hlong]
    go_enter Try.func7, Try.ntmps7
    go_wp2_with fail
    refine (long_any n 0 cap 0 ao none _).mono ?_
    rintro e w1 ⟨rfl, rfl⟩
    rw [hd]
    go_wp2_with fail
    refine (known_any _).mono ?_
    rintro e w1 ⟨rfl, hb⟩
    go_wp2
    go_ret
    exact ⟨rfl, hb⟩
  · have hd : (decide (100 < n) || decide (100 < 0)) = false := by simp; omega
    have hn : n ≤ 100000 := by omega
    clear hlong
    by_cases hlong : 100 < m
    · have hm100 : (100 : Int) < (m : Int) := by omega
      go_enter Try.func7, Try.ntmps7
      go_wp2_with fail
      refine (long_any n 0 cap 0 ao none _).mono ?_
      rintro e w1 ⟨rfl, rfl⟩
      rw [hd]
      go_wp2_with fail
      refine (known_any _).mono ?_
      rintro e w1 ⟨rfl, hb⟩
      go_wp2
      go_ret
      exact ⟨rfl, hb⟩
    · have hm100 : ¬ (100 : Int) < (m : Int) := by omega
      have hm : m ≤ 100000 := by omega
      clear hlong
      obtain ⟨C, hC⟩ : ∃ c, Fl.partsC l ps = c := ⟨_, rfl⟩
      have hC0 : C = 0 ∨ (C != 0) = true := by by_cases h : C = 0 <;> simp [h]
      have HC := Lib.hid hC
      clear hC
      go_enter Try.func7, Try.ntmps7
      go_wp2_with fail
      refine (long_any n 0 cap 0 ao none _).mono ?_
      rintro e w1 ⟨rfl, rfl⟩
      rw [hd]
      clear hd
      go_wp2_with fail
      refine (Cut_any l ps _ _ _ _ _ _ _ hp Hn.out hn hI Hm.out hm).mono ?_
      rintro e w1 ⟨⟨v1, rfl, M1⟩, hb1⟩
      replace hp := hp.below hb1
      replace hI := hI.below hb1
      replace hB := hB.trans (hb1.mono hB.size)
      clear hb1
      rw [HC.out] at M1 ⊢
      go_wp2_with fail
      refine (rCut_any l ps _ _ _ _ _ _ _ hp Hn.out hn hI Hm.out hm).mono ?_
      rintro e w2 ⟨⟨v2, rfl, M2⟩, hb2⟩
      replace hp := hp.below hb2
      replace hI := hI.below hb2
      replace M1 := M1.below hb2
      replace hB := hB.trans (hb2.mono hB.size)
      clear hb2
      rw [HC.out] at M2 ⊢
      obtain ⟨a1, c1, rfl, -, P1⟩ := M1.pts
      obtain ⟨a2, c2, rfl, -, P2⟩ := M2.pts
      clear M1 M2
      obtain ⟨L, hL⟩ : ∃ x, x = (if C = 0 then (Fl.cutsOf l ps).map pr else []) := ⟨_, rfl⟩
      rw [← hL] at P1 P2 ⊢
      have hLl : L.length ≤ 100000 := by
        rw [hL]; split
        · rename_i h0
          have := (Fl.cutsOf_ok (HC.out.trans h0)).2.2.2
          rw [List.length_map, this, ← Hm.out]; omega
        · simp
      obtain ⟨r, hr⟩ : ∃ r, r = L.length := ⟨_, rfl⟩
      rw [← hr] at hLl ⊢
      have Hr := Lib.hid hr
      have HL := Lib.hid hL
      clear hL hr
      go_wp2_with fail
      refine (sameRats_any L L _ _ _ _ _ _ _ P1 P2 Hr.out Hr.out hLl hLl).mono ?_
      rintro e w3 ⟨rfl, hb3⟩
      rw [decide_eq_true rfl]
      replace hp := hp.below hb3
      replace hI := hI.below hb3
      replace P1 := P1.below hb3
      replace hB := hB.trans (hb3.mono hB.size)
      clear hb3 P2
      rcases hC0 with rfl | hC0
      · have HLx : Hid (L = (Fl.cutsOf l ps).map pr) := Lib.hid (by rw [HL.out, if_pos rfl])
        go_wp2_with fail
        refine (CheckCut_any l ps L _ _ _ _ _ _ _ _ _ _ hp Hn.out hn hI Hm.out hm P1 Hr.out hLl (by rw [HLx.out]; exact cuts_num HC.out)).mono ?_
        rintro e w4 ⟨rfl, hb4⟩
        rw [HLx.out, Fl.check_own HC.out]
        replace hB := hB.trans (hb4.mono hB.size)
        go_wp2_with fail
        refine (known_any _).mono ?_
        rintro e w5 ⟨rfl, hb⟩
        go_wp2
        go_ret
        exact ⟨rfl, hB.trans (hb.mono hB.size)⟩
      · go_wp2_with fail
        refine (known_any _).mono ?_
        rintro e w5 ⟨rfl, hb⟩
        go_wp2
        go_ret
        exact ⟨rfl, hB.trans (hb.mono hB.size)⟩
end Go.Proofs.Ytmajcccdbhbkfaa
