import Derived.Test.YtmajcccdbhbkfaaSmp
import Derived.Test.YtmajcccdbhbkfaaBor
import Derived.Deep.AppendLies
namespace Go.Proofs.Ytmajcccdbhbkfaa
open Go.RowKit

theorem bool_at {w : World} {g : Nat} {L : List Bool} (h : ∀ j u, (L.map Value.bool)[j]? = some u → w.cell? ⟨g, j, none⟩ = some u) {k : Nat} (hk : k < L.length) : w.cell? ⟨g, k, none⟩ = some (.bool (L.getD k false)) := by
  apply h
  rw [List.getElem?_map, List.getElem?_eq_getElem hk, List.getD_eq_getElem?_getD, List.getElem?_eq_getElem hk]
  rfl
/-- What is done of a sum: nothing yet, or some zones. -/
def SumAt (wr : World) (base : Nat) (v : Value) (f g : List (Int × Int)) (k m : Nat) : Prop :=
  (k = 0 ∧ m = 0 ∧ v = .slice none 0 0) ∨ (∃ (A : List (Int × Int)) (y1 y2 : Int), 1 ≤ m ∧ 1 ≤ k ∧ 1 ≤ y1 ∧ y1 ≤ k ∧ Fl.sumF f g = Fl.sumGo A (y1, y2) ((Fl.unitsU f g).drop k) ∧ m = A.length + 1 ∧ wr.ownsRow base 52 2 v m (flat2 (A ++ [(y1, y2)])))
/-- Where a zone begins, something is pushed. -/
theorem SumAt.push {wr : World} {base : Nat} {v : Value} {f g : List (Int × Int)} {k m : Nat} (h : SumAt wr base v f g k m) (hf : Fl.Ok f) (hg : Fl.Ok g) (hl : Fl.len f = Fl.len g) (h1 : 1 ≤ f.length) (h2 : 1 ≤ g.length) {s : Int} (hk : k < (Fl.unitsU f g).length) (hu : (Fl.unitsU f g).getD k (0, false) = (s, true)) :
    ∃ A : List (Int × Int), A.length = m ∧ wr.ownsRow base 52 2 v m (flat2 A) ∧ Fl.sumF f g = Fl.sumGo A (1, s) ((Fl.unitsU f g).drop (k + 1)) := by
  rcases h with ⟨rfl, rfl, rfl⟩ | ⟨A, y1, y2, -, -, -, -, hs, hm, hown⟩
  · refine ⟨[], rfl, ⟨rfl, .inl ⟨rfl, rfl⟩⟩, ?_⟩
    rw [Fl.sumF_go hf hg hl h1 h2, hu]
  · exact ⟨A ++ [(y1, y2)], by rw [List.length_append, hm]; rfl, hown, hs.trans (Fl.sumGo_push hk hu)⟩
theorem SumAt.more {wr : World} {base : Nat} {v : Value} {f g : List (Int × Int)} {k m : Nat} (h : SumAt wr base v f g k m) (hf : Fl.Ok f) (hg : Fl.Ok g) (h1 : 1 ≤ f.length) (h2 : 1 ≤ g.length) {s : Int} (hk : k < (Fl.unitsU f g).length) (hu : (Fl.unitsU f g).getD k (0, false) = (s, false)) :
    ∃ (A : List (Int × Int)) (y1 y2 : Int), 1 ≤ m ∧ 1 ≤ y1 ∧ y1 ≤ k ∧ m = A.length + 1 ∧ wr.ownsRow base 52 2 v m (flat2 (A ++ [(y1, y2)])) ∧ Fl.sumF f g = Fl.sumGo A (y1 + 1, y2) ((Fl.unitsU f g).drop (k + 1)) := by
  rcases h with ⟨rfl, rfl, rfl⟩ | ⟨A, y1, y2, h1, -, h3, h4, hs, hm, hown⟩
  · obtain ⟨v, r, e⟩ := Fl.unitsU_first hf hg h1 h2
    rw [e] at hu
    simp at hu
  · exact ⟨A, y1, y2, h1, h3, h4, hm, hown, hs.trans (Fl.sumGo_more hk hu)⟩

set_option maxRecDepth 100000 in
set_option maxHeartbeats 1000000 in
theorem rSum_any (f g : List (Int × Int)) (ao : Option Addr) (n cap : Nat) (ao2 : Option Addr) (m cap2 : Nat) (w : World) (hp : Pts w ao f) (hln : n = f.length) (hn : n ≤ 100000) (hp2 : Pts w ao2 g) (hlm : m = g.length) (hm : m ≤ 100000) :
    Calls Try.prog 58 #[.slice ao n cap, .slice ao2 m cap2] w fun e w' => (∃ v, e = .returned (.tuple #[v, .int .i64 (Fl.sumC f g)]) ∧ ZMade w' w.heap.size v (Fl.sumC f g) (Fl.sumF f g)) ∧ Below w.heap.size w w' := by
  have Hn := Lib.hid hln
  have Hm := Lib.hid hlm
  clear hln hlm
  have hB := Below.refl w.heap.size w
  obtain ⟨V, hV⟩ : ∃ v, Fl.bothC f g = v := ⟨_, rfl⟩
  have hV0 : V = 0 ∨ (V != 0) = true := by by_cases h : V = 0 <;> simp [h]
  have HV := Lib.hid hV
  clear hV
  obtain ⟨SC, hSC⟩ : ∃ c, Fl.sumC f g = c := ⟨_, rfl⟩
  rw [hSC]
  have HSC := Lib.hid hSC
  clear hSC
  obtain ⟨i0, hi0, hz0, hz1, hz2⟩ := info_zn
  go_enter Try.func58, Try.ntmps58
  go_wp2_with fail
  refine (rtwo_any f g _ _ _ _ _ _ _ hp Hn.out hn hp2 Hm.out hm).mono ?_
  rintro e w1 ⟨rfl, hw⟩
  subst hw
  rw [HV.out]
  rcases hV0 with rfl | hV0
  · obtain ⟨v1, v2⟩ := Fl.bothC_ok HV.out
    obtain ⟨⟨a1, a2⟩, hok⟩ := Fl.validate_ok.1 v1
    obtain ⟨⟨b1, b2⟩, hok2⟩ := Fl.validate_ok.1 v2
    have HUL := Lib.hid (And.intro (Fl.units_length hok) (And.intro (Fl.units_length hok2) (And.intro (Fl.len_bound hok) (Fl.len_bound hok2))))
    go_wp2_with fail
    refine (units_any f _ _ _ _ hp Hn.out hok a2).mono ?_
    rintro e w2 ⟨ao4, cap4, rfl, hI, hbb⟩
    replace hp := hp.below hbb
    replace hp2 := hp2.below hbb
    replace hB := hB.trans (hbb.mono hB.size)
    clear hbb
    go_wp2_with fail
    refine (units_any g _ _ _ _ hp2 Hm.out hok2 b2).mono ?_
    rintro e w3 ⟨ao5, cap5, rfl, hI2, hbb⟩
    replace hp := hp.below hbb
    replace hp2 := hp2.below hbb
    replace hI := hI.below hbb
    replace hB := hB.trans (hbb.mono hB.size)
    clear hbb
    obtain ⟨N, hN⟩ : ∃ N, N = (Fl.units f).length := ⟨_, rfl⟩
    obtain ⟨M, hM⟩ : ∃ N, N = (Fl.units g).length := ⟨_, rfl⟩
    rw [← hN, ← hM]
    have HNM := Lib.hid (And.intro hN hM)
    have hN120 : N ≤ 120 := by have := HUL.out; omega
    clear hN hM
    by_cases hxy : N = M
    · subst hxy
      have hl : Fl.len f = Fl.len g := by have := HUL.out; have := HNM.out; omega
      have HC := Lib.hid (Fl.bettC_ok HV.out hl)
      have HL := Lib.hid hl
      have HUU := Lib.hid ((Fl.unitsU_length hok hok2 hl).trans HNM.out.1.symm)
      have hbf := Fl.bords_length hok
      have hbg := Fl.bords_length hok2
      have HBL : Hid ((Fl.bords f).length = N ∧ (Fl.bords g).length = N) := Lib.hid (by have := HUL.out; have := HNM.out; omega)
      have hN1 : 1 ≤ N := by have := HUL.out; have := HNM.out; omega
      clear hl hbf hbg
      go_wp2_with fail
      refine (borders_any f _ _ _ _ hp Hn.out hok a2).mono ?_
      rintro e w4 ⟨v4, rfl, hov, hbb⟩
      obtain ⟨gA, capA, rfl, -, hgA, -, hcA⟩ := own_cells hov (by rw [HBL.out.1]; omega)
      replace hp := hp.below hbb
      replace hp2 := hp2.below hbb
      replace hI := hI.below hbb
      replace hI2 := hI2.below hbb
      replace hB := hB.trans (hbb.mono hB.size)
      clear hov
      rw [HBL.out.1]
      go_wp2_with fail
      refine (borders_any g _ _ _ _ hp2 Hm.out hok2 b2).mono ?_
      rintro e w5 ⟨v5, rfl, hov, hbb2⟩
      obtain ⟨gB, capB, rfl, -, hgB, -, hcB⟩ := own_cells hov (by rw [HBL.out.2]; omega)
      replace hp := hp.below hbb2
      replace hp2 := hp2.below hbb2
      replace hI := hI.below hbb2
      replace hI2 := hI2.below hbb2
      replace hB := hB.trans (hbb2.mono hB.size)
      rw [HBL.out.2]
      have HcA : Hid (∀ j u, ((Fl.bords f).map Value.bool)[j]? = some u → w5.cell? ⟨gA, j, none⟩ = some u) := Lib.hid fun j u h => keep_cell hbb2 (hcA j u h)
      have HcB := Lib.hid hcB
      have hgA5 : gA < w5.heap.size := by have := hbb2.size; omega
      have HI := Lib.hid (And.intro hI hI2)
      have hs5 := hB.size
      have hU20 := Fl.units_at hok
      have hV20 := Fl.units_at hok2
      have H20 := Lib.hid (And.intro hU20 hV20)
      clear hov hbb hbb2 hcA hcB hgA hI hI2 hp hp2 hU20 hV20
      go_wp2_with fail
      go_loopw [11, 12] (fun v i wr => ∃ (k m : Nat), k ≤ N ∧ i = .int .i64 k ∧ m ≤ k ∧ Hid (SumAt wr w5.heap.size v f g k m) ∧ Hid (∀ j, j < k → ¬ 20 < (Fl.units f).getD j 0 + (Fl.units g).getD j 0) ∧ Below w5.heap.size w5 wr) (fun _ i _ => N - (intOf i).toNat)
      case atStart => exact ⟨0, 0, Nat.zero_le _, rfl, Nat.le_refl _, Lib.hid (.inl ⟨rfl, rfl, rfl⟩), Lib.hid (fun j hj => by omega), Below.refl _ _⟩
      case round =>
        obtain ⟨k, m, hk, rfl, hmk, hsa, hall, hb⟩ := hrel
        have hsw := hb.size
        by_cases hlt : k < N
        · obtain ⟨ba, oa, rfl, ha, hca⟩ := HI.out.1.at (k := k) (by have := HNM.out; omega)
          obtain ⟨bb, ob, rfl, hbl, hcb⟩ := HI.out.2.at (k := k) (by have := HNM.out; omega)
          replace hca := keep_cell hb hca
          replace hcb := keep_cell hb hcb
          have d1 := keep_cell hb (bool_at HcA.out (k := k) (by rw [HBL.out.1]; exact hlt))
          have d2 := keep_cell hb (bool_at HcB.out (k := k) (by rw [HBL.out.2]; exact hlt))
          have hx20 := H20.out.1 k
          have hy20 := H20.out.2 k
          have hat := Fl.unitsU_at hok hok2 HL.out (i := k) (by have := HNM.out; omega)
          have hkU : k < (Fl.unitsU f g).length := by rw [HUU.out]; exact hlt
          obtain ⟨x, hx⟩ : ∃ x, x = (Fl.units f).getD k 0 := ⟨_, rfl⟩
          obtain ⟨y, hy⟩ : ∃ x, x = (Fl.units g).getD k 0 := ⟨_, rfl⟩
          obtain ⟨p, hp⟩ : ∃ x, x = (Fl.bords f).getD k false := ⟨_, rfl⟩
          obtain ⟨q, hq⟩ : ∃ x, x = (Fl.bords g).getD k false := ⟨_, rfl⟩
          rw [← hx] at hca hx20
          rw [← hy] at hcb hy20
          rw [← hp] at d1
          rw [← hq] at d2
          rw [← hx, ← hy, ← hp, ← hq] at hat
          have HX := Lib.hid (And.intro hx (And.intro hy (And.intro hat hkU)))
          have i1 : (k : Int) < (N : Int) := by omega
          have e1 : IntKind.i64.wrap (x + y) = x + y := IntWalk.i64_in _ (by omega)
          clear hx hy hp hq hat hkU
          by_cases hyz : 20 < x + y
          · have hcode : Hid (SC = 1) := Lib.hid (HSC.out.symm.trans (Fl.sumC_arg HC.out (by
              unfold Fl.overU
              rw [decide_eq_true_eq]
              exact ⟨k, by rw [← HNM.out.1]; exact hlt, by rw [← HX.out.1, ← HX.out.2.1]; exact hyz⟩)))
            go_wp2_with fail
            go_quiet (fail)
            go_wp2
            go_ret2
            rw [hcode.out]
            exact ⟨⟨_, rfl, .inr ⟨by decide, rfl⟩⟩, below_drewN (hB.trans (hb.mono hs5)) _⟩
          · have hall2 : Hid (∀ j, j < k + 1 → ¬ 20 < (Fl.units f).getD j 0 + (Fl.units g).getD j 0) := Lib.hid (by
              intro j hj
              by_cases e : j = k
              · subst e; rw [← HX.out.1, ← HX.out.2.1]; exact hyz
              · exact hall.out j (by omega))
            go_upto_region 12 with fail
            go_quiet (fail)
            have hca' : (wr.drewN nq).cell? ⟨ba, oa + k, none⟩ = _ := hca
            have hcb' : (wr.drewN nq).cell? ⟨bb, ob + k, none⟩ = _ := hcb
            have d1' : (wr.drewN nq).cell? ⟨gA, k, none⟩ = _ := d1
            have d2' : (wr.drewN nq).cell? ⟨gB, k, none⟩ = _ := d2
            have hsa' : Hid (SumAt (wr.drewN nq) w5.heap.size u11 f g k m) := hsa
            have hb' : Below w5.heap.size w5 (wr.drewN nq) := below_drewN hb _
            clear hca hcb d1 d2 hsa hb hsw
            generalize wr.drewN nq = Wd at hca' hcb' d1' d2' hsa' hb' ⊢
            have hsd := hb'.size
            cases p with
            | true =>
              have hpu : (Fl.unitsU f g).getD k (0, false) = (x + y, true) := HX.out.2.2.1
              obtain ⟨A, hAl, hown0, hnp⟩ := hsa'.out.push hok hok2 HL.out a1 b1 HX.out.2.2.2 hpu
              have HNP := Lib.hid (And.intro hAl hnp)
              have hown := Lib.hid hown0
              have hmlt : m ≤ 120 := by omega
              clear hpu hAl hnp hown0 hsa'
              go_upto_region 15 with fail
              go_region_held3 (fun w' => w'.cell? ⟨ba, oa + k, none⟩ = some (.int .i64 x) ∧ w'.cell? ⟨bb, ob + k, none⟩ = some (.int .i64 y))
                (first
                  | go_keep
                  | (go_split_ands
                     refine ⟨?_, ?_⟩
                     · (rw [hgrow.cell_far _ (by simp; omega) (fun h => absurd (hown.out.lt ba h.symm).1 (by omega))]; assumption)
                     · (rw [hgrow.cell_far _ (by simp; omega) (fun h => absurd (hown.out.lt bb h.symm).1 (by omega))]; assumption)))
                ((refine step_append_lies _ (by rfl) _ _ _ (by rfl) w5.heap.size 52 i0 _ 2 16 Try.underlying22 hi0 hz0 hz1 hz2 rfl (by omega) _ m _ (by rfl) ((hown.out.alloc _).drew)
                    ⟨Wd.heap.size, 0, none⟩ 1 1 [.int .i64 0, .int .i64 (x + y)] (by rfl) (by rfl) (World.news_of_block (cs := #[.int .i64 0, .int .i64 (x + y)]) (t := 52) (fr := (0, 0)) (heap_alloc_new Wd _)) (by simp [Value.oneCell'])
                    (by omega) (by unfold maxLen; omega) (by omega) (by simp; omega) (Wd.heap.size + 1) (by simp) ?_; intro gg cap7 w7 hown1 hgrow hat hlt5))
              have hb5 : Below w5.heap.size w5 w7 := ((hb'.alloc hsd _).drew).grown hgrow (by simp; omega) (fun q hq => (hown.out.lt _ hq).1)
              clear hgrow hat hlt5 hown hca' hcb' d1' d2' hb'
              have hown2 : w7.ownsRow w5.heap.size 52 2 (.slice (some ⟨gg, 0, none⟩) (m + 1) cap7) (m + 1) (flat2 (A ++ [(0, x + y)])) := by rw [flat2_app]; exact hown1
              clear hown1
              generalize hM1 : m + 1 = M1 at hown2 ⊢
              obtain ⟨g9, cap9, hv9, hg9b, hg9, c9, -, fz9, hset9⟩ := own_last hown2 (by rw [HNP.out.1]; exact hM1.symm)
              rw [Value.slice.injEq, Option.some.injEq, Addr.mk.injEq] at hv9
              obtain ⟨⟨rfl, -, -⟩, -, rfl⟩ := hv9
              rw [HNP.out.1] at c9 fz9 hset9
              have HM1 := Lib.hid hM1
              have e3 : IntKind.i64.wrap ((M1 : Int) - 1) = (m : Int) := (IntWalk.i64_in _ (by omega)).trans (by omega)
              have a0 : (m : Int) < (M1 : Int) := by omega
              have hM1k : M1 ≤ k + 1 := by omega
              have hM11 : 1 ≤ M1 := by omega
              have hb6 := below_setCell hb5 hg9b (o := m * 2) (.int .i64 1)
              have hSA : Hid (SumAt (w7.setCell ⟨gg, m * 2, none⟩ (.int .i64 1)) w5.heap.size (.slice (some ⟨gg, 0, none⟩) M1 cap7) f g (k + 1) M1) := Lib.hid (.inr ⟨A, 1, x + y, hM11, by omega, by omega, by omega, HNP.out.2, by rw [HNP.out.1]; exact hM1.symm, hset9 1⟩)
              clear hM1 hset9 hown2 hb5
              go_wp2_with fail
              go_roundw
              case rel => exact ⟨k + 1, M1, by omega, by go_num, hM1k, hSA, hall2, hb6⟩
              case measure => simp [intOf]; omega
            | false =>
              cases q with
              | true =>
                have hpu : (Fl.unitsU f g).getD k (0, false) = (x + y, true) := HX.out.2.2.1
                obtain ⟨A, hAl, hown0, hnp⟩ := hsa'.out.push hok hok2 HL.out a1 b1 HX.out.2.2.2 hpu
                have HNP := Lib.hid (And.intro hAl hnp)
                have hown := Lib.hid hown0
                have hmlt : m ≤ 120 := by omega
                clear hpu hAl hnp hown0 hsa'
                go_upto_region 15 with fail
                go_region_held3 (fun w' => w'.cell? ⟨ba, oa + k, none⟩ = some (.int .i64 x) ∧ w'.cell? ⟨bb, ob + k, none⟩ = some (.int .i64 y))
                  (first
                    | go_keep
                    | (go_split_ands
                       refine ⟨?_, ?_⟩
                       · (rw [hgrow.cell_far _ (by simp; omega) (fun h => absurd (hown.out.lt ba h.symm).1 (by omega))]; assumption)
                       · (rw [hgrow.cell_far _ (by simp; omega) (fun h => absurd (hown.out.lt bb h.symm).1 (by omega))]; assumption)))
                  ((refine step_append_lies _ (by rfl) _ _ _ (by rfl) w5.heap.size 52 i0 _ 2 16 Try.underlying22 hi0 hz0 hz1 hz2 rfl (by omega) _ m _ (by rfl) ((hown.out.alloc _).drew)
                      ⟨Wd.heap.size, 0, none⟩ 1 1 [.int .i64 0, .int .i64 (x + y)] (by rfl) (by rfl) (World.news_of_block (cs := #[.int .i64 0, .int .i64 (x + y)]) (t := 52) (fr := (0, 0)) (heap_alloc_new Wd _)) (by simp [Value.oneCell'])
                      (by omega) (by unfold maxLen; omega) (by omega) (by simp; omega) (Wd.heap.size + 1) (by simp) ?_; intro gg cap7 w7 hown1 hgrow hat hlt5))
                have hb5 : Below w5.heap.size w5 w7 := ((hb'.alloc hsd _).drew).grown hgrow (by simp; omega) (fun q hq => (hown.out.lt _ hq).1)
                clear hgrow hat hlt5 hown hca' hcb' d1' d2' hb'
                have hown2 : w7.ownsRow w5.heap.size 52 2 (.slice (some ⟨gg, 0, none⟩) (m + 1) cap7) (m + 1) (flat2 (A ++ [(0, x + y)])) := by rw [flat2_app]; exact hown1
                clear hown1
                generalize hM1 : m + 1 = M1 at hown2 ⊢
                obtain ⟨g9, cap9, hv9, hg9b, hg9, c9, -, fz9, hset9⟩ := own_last hown2 (by rw [HNP.out.1]; exact hM1.symm)
                rw [Value.slice.injEq, Option.some.injEq, Addr.mk.injEq] at hv9
                obtain ⟨⟨rfl, -, -⟩, -, rfl⟩ := hv9
                rw [HNP.out.1] at c9 fz9 hset9
                have HM1 := Lib.hid hM1
                have e3 : IntKind.i64.wrap ((M1 : Int) - 1) = (m : Int) := (IntWalk.i64_in _ (by omega)).trans (by omega)
                have a0 : (m : Int) < (M1 : Int) := by omega
                have hM1k : M1 ≤ k + 1 := by omega
                have hM11 : 1 ≤ M1 := by omega
                have hb6 := below_setCell hb5 hg9b (o := m * 2) (.int .i64 1)
                have hSA : Hid (SumAt (w7.setCell ⟨gg, m * 2, none⟩ (.int .i64 1)) w5.heap.size (.slice (some ⟨gg, 0, none⟩) M1 cap7) f g (k + 1) M1) := Lib.hid (.inr ⟨A, 1, x + y, hM11, by omega, by omega, by omega, HNP.out.2, by rw [HNP.out.1]; exact hM1.symm, hset9 1⟩)
                clear hM1 hset9 hown2 hb5
                go_wp2_with fail
                go_roundw
                case rel => exact ⟨k + 1, M1, by omega, by go_num, hM1k, hSA, hall2, hb6⟩
                case measure => simp [intOf]; omega
              | false =>
                obtain ⟨A, y1, y2, hm1, hy1, hyk, hmA, hown, hnp⟩ := hsa'.out.more hok hok2 a1 b1 HX.out.2.2.2 HX.out.2.2.1
                obtain ⟨g9, cap9, hv9, hg9b, hg9, c9, -, fz9, hset9⟩ := own_last hown hmA
                subst hv9
                obtain ⟨a, ha⟩ : ∃ a, a = A.length := ⟨_, rfl⟩
                rw [← ha] at c9 fz9 hset9
                have HA := Lib.hid (And.intro ha (And.intro hmA hnp))
                have e3 : IntKind.i64.wrap ((m : Int) - 1) = (a : Int) := (IntWalk.i64_in _ (by omega)).trans (by omega)
                have e4 : IntKind.i64.wrap (y1 + 1) = y1 + 1 := IntWalk.i64_in _ (by omega)
                have a0 : (a : Int) < (m : Int) := by omega
                have hb6 := below_setCell hb' hg9b (o := a * 2) (.int .i64 (y1 + 1))
                have hSA : Hid (SumAt (Wd.setCell ⟨g9, a * 2, none⟩ (.int .i64 (y1 + 1))) w5.heap.size (.slice (some ⟨g9, 0, none⟩) m cap9) f g (k + 1) m) := Lib.hid (.inr ⟨A, y1 + 1, y2, hm1, by omega, by omega, by omega, hnp, hmA, hset9 (y1 + 1)⟩)
                clear ha hmA hnp hset9 hown hb' hsa' hca' hcb'
                go_wp2
                go_roundw
                case rel => exact ⟨k + 1, m, by omega, by go_num, by omega, hSA, hall2, hb6⟩
                case measure => simp [intOf]; omega
        · have hkN : k = N := by omega
          have i1 : ¬ (k : Int) < (N : Int) := by omega
          have hno : Fl.overU f g = false := by
            unfold Fl.overU
            rw [decide_eq_false_iff_not]
            rintro ⟨i, h1, h2⟩
            exact hall.out i (by have := HNM.out; omega) h2
          rcases hsa.out with ⟨h0, -, -⟩ | ⟨A, y1, y2, hm1, -, -, -, hs, hmA, hown⟩
          · omega
          have hSF : Fl.sumF f g = A ++ [(y1, y2)] := by rw [hs, List.drop_of_length_le (by rw [HUU.out]; omega)]; rfl
          have hSl : (Fl.sumF f g).length = m := by rw [hSF, List.length_append, hmA]; rfl
          rw [← hSF] at hown
          obtain ⟨g3, cap3, hv3, -⟩ := own_cells hown (by omega)
          subst hv3
          have HK := Lib.hid hown
          have hm121 : m ≤ 121 := by omega
          by_cases h6 : 6 < m
          · have hcode : Hid (SC = 3) := Lib.hid (HSC.out.symm.trans (Fl.sumC_large HC.out hno (by rw [hSl]; exact h6)))
            have h6k : (6 : Int) < (m : Int) := by omega
            clear hno hSF hSl hkN hown HK hlt h6 hs hmA hsa
            go_wp2
            go_ret2
            rw [hcode.out]
            exact ⟨⟨_, rfl, .inr ⟨by decide, rfl⟩⟩, hB.trans (hb.mono hs5)⟩
          · have hcode : Hid (SC = 0) := Lib.hid (HSC.out.symm.trans (Fl.sumC_ok HC.out hno (by rw [hSl]; exact h6)))
            have h6k : ¬ (6 : Int) < (m : Int) := by omega
            have HZ : Hid (ZMade wr w.heap.size (.slice (some ⟨g3, 0, none⟩) m cap3) 0 (Fl.sumF f g)) := Lib.hid (.inl ⟨rfl, by rw [hSl]; exact own_mono HK.out hs5⟩)
            clear hno hSF hSl hkN hown HK hlt h6 hs hmA hsa
            go_wp2
            go_ret2
            rw [hcode.out]
            exact ⟨⟨_, rfl, HZ.out⟩, hB.trans (hb.mono hs5)⟩
    · have hxy2 : ((N : Int) != (M : Int)) = true := by simp; omega
      have HC := Fl.bettC_len HV.out (show Fl.len f ≠ Fl.len g by have := HUL.out; have := HNM.out; omega)
      have hcode : Hid (SC = 5) := Lib.hid (HSC.out.symm.trans ((Fl.sumC_bad (by rw [HC]; decide)).trans HC))
      clear hxy HC
      go_wp2
      go_ret2
      rw [hcode.out]
      exact ⟨⟨_, rfl, .inr ⟨by decide, rfl⟩⟩, hB⟩
  · have HC := Fl.bettC_bad (f := f) (g := g) (by rw [HV.out]; exact code_ne hV0)
    have hcode : Hid (SC = V) := Lib.hid (HSC.out.symm.trans ((Fl.sumC_bad (by rw [HC, HV.out]; exact code_ne hV0)).trans (HC.trans HV.out)))
    clear HC
    go_wp2
    go_ret2
    rw [hcode.out]
    exact ⟨⟨_, rfl, .inr ⟨code_ne hV0, rfl⟩⟩, hB⟩
end Go.Proofs.Ytmajcccdbhbkfaa
