import Derived.Test.YtkpabehjehbidaaRck
import Derived.Test.YtkpabehjehbidaaChu
namespace Go.Proofs.Ytkpabehjehbidaa
open Go.RowKit

set_option maxRecDepth 100000 in
set_option maxHeartbeats 4000000 in
theorem soilChecks_any (l : List (Int × Int)) (ao : Option Addr) (n cap : Nat) (ps : List Int) (ao2 : Option Addr) (m cap2 : Nat) (cs : List (Int × Int)) (ao3 : Option Addr) (r cap3 : Nat) (w : World) (hp : Pts w ao l) (hln : n = l.length) (hI : Ints w ao2 ps) (hlm : m = ps.length) (_ : ∀ x ∈ ps, Rng x) (hC : Pts w ao3 cs) (hlr : r = cs.length) (hnum : ∀ x ∈ cs, Rng x.1 ∧ Rng x.2) :
    Calls Try.prog 8 #[.slice ao n cap, .agg #[.slice ao2 m cap2, .slice ao3 r cap3]] w fun e w' => e = .returned (.bool true) ∧ Below w.heap.size w w' := by
  have Hn := Lib.hid hln
  have Hm := Lib.hid hlm
  have Hr := Lib.hid hlr
  clear hln hlm hlr
  have hB : Below w.heap.size w (w.alloc (.cells #[.slice ao2 m cap2, .slice ao3 r cap3] 50)) := (Below.refl _ w).alloc (Nat.le_refl _) _
  replace hp := hp.below hB
  replace hI := hI.below hB
  replace hC := hC.below hB
  have r0 := heap_alloc_new w (.cells #[.slice ao2 m cap2, .slice ao3 r cap3] 50)
  have HA := Lib.hid (And.intro hB r0)
  clear hB r0
  by_cases hlong : 100 < n
  · have hd : (decide (100 < n) || decide (100 < 0)) = true := by simp [hlong]
    go_enter Try.func8, Try.ntmps8
    go_wp2_with fail
    refine (long_any n 0 cap 0 ao none _).mono ?_
    rintro e w1 ⟨rfl, rfl⟩
    rw [hd]
    go_wp2_with fail
    refine (known_any _).mono ?_
    rintro e w1 ⟨rfl, hb⟩
    go_wp2
    go_ret
    exact ⟨rfl, HA.out.1.trans (hb.mono HA.out.1.size)⟩
  · have hd : (decide (100 < n) || decide (100 < 0)) = false := by simp; omega
    have hn : n ≤ 100000 := by omega
    clear hlong
    obtain ⟨hB, r0⟩ := HA.out
    have k0 := row_fr r0
    have hsz : (w.alloc (.cells #[.slice ao2 m cap2, .slice ao3 r cap3] 50)).heap.size = w.heap.size + 1 := by simp
    by_cases hlong : 100 < m ∨ 100 < r
    · go_enter Try.func8, Try.ntmps8
      go_wp2_with fail
      refine (long_any n 0 cap 0 ao none _).mono ?_
      rintro e w1 ⟨rfl, rfl⟩
      rw [hd]
      clear HA
      generalize w.alloc (.cells #[.slice ao2 m cap2, .slice ao3 r cap3] 50) = wx at hB r0 hp hI hC k0 hsz ⊢
      obtain ⟨⟨c0, c1⟩, -, -⟩ := k0
      have hcs : 100 < m ∨ (¬ 100 < m ∧ 100 < r) := by omega
      rcases hcs with h1 | ⟨h1, h2⟩
      · have h1' : (100 : Int) < (m : Int) := by omega
        go_wp2_with fail
        refine (known_any _).mono ?_
        rintro e w1 ⟨rfl, hb⟩
        go_wp2
        go_ret
        exact ⟨rfl, hB.trans (hb.mono hB.size)⟩
      · have h1' : ¬ (100 : Int) < (m : Int) := by omega
        have h2' : (100 : Int) < (r : Int) := by omega
        go_wp2_with fail
        refine (known_any _).mono ?_
        rintro e w1 ⟨rfl, hb⟩
        go_wp2
        go_ret
        exact ⟨rfl, hB.trans (hb.mono hB.size)⟩
    · have h1' : ¬ (100 : Int) < (m : Int) := by omega
      have h2' : ¬ (100 : Int) < (r : Int) := by omega
      have hm : m ≤ 100000 := by omega
      have hr : r ≤ 100000 := by omega
      clear hlong
      obtain ⟨C, hCC⟩ : ∃ c, Fl.checkC l ps cs = c := ⟨_, rfl⟩
      have hC0 : C = 0 ∨ (C != 0) = true := by by_cases h : C = 0 <;> simp [h]
      have HC := Lib.hid hCC
      clear hCC
      go_enter Try.func8, Try.ntmps8
      go_wp2_with fail
      refine (long_any n 0 cap 0 ao none _).mono ?_
      rintro e w1 ⟨rfl, rfl⟩
      rw [hd]
      clear hd HA
      generalize w.alloc (.cells #[.slice ao2 m cap2, .slice ao3 r cap3] 50) = wx at hB r0 hp hI hC k0 hsz ⊢
      obtain ⟨⟨c0, c1⟩, -, -⟩ := k0
      go_wp2_with fail
      refine (CheckCut_any l ps cs _ _ _ _ _ _ _ _ _ _ hp Hn.out hn hI Hm.out hm hC Hr.out hr (fun c hc => (hnum c hc).1.2)).mono ?_
      rintro e w1 ⟨rfl, hb1⟩
      replace hp := hp.below hb1
      replace hI := hI.below hb1
      replace hC := hC.below hb1
      replace c0 := keep_cell hb1 c0
      replace c1 := keep_cell hb1 c1
      replace hB := hB.trans (hb1.mono hB.size)
      clear hb1 r0
      rw [HC.out]
      go_wp2_with fail
      refine (rCheckCut_any l ps cs _ _ _ _ _ _ _ _ _ _ hp Hn.out hn hI Hm.out hm hC Hr.out hr (fun c hc => (hnum c hc).1)).mono ?_
      rintro e w2 ⟨rfl, hb2⟩
      replace hp := hp.below hb2
      replace hI := hI.below hb2
      replace hC := hC.below hb2
      replace c0 := keep_cell hb2 c0
      replace c1 := keep_cell hb2 c1
      replace hB := hB.trans (hb2.mono hB.size)
      clear hb2
      rw [HC.out]
      rcases hC0 with rfl | hC0
      · have hn6 : n ≤ 6 ∧ Fl.Ok l := by
          have hp0 : Fl.partsC l ps = 0 := by
            refine Classical.byContradiction fun h => ?_
            have := HC.out
            rw [Fl.checkC_parts h] at this
            exact h this
          have := Fl.validate_ok.1 (Fl.partsC_ok hp0).1
          exact ⟨by have := Hn.out; omega, this.2⟩
        obtain ⟨hn6, hok⟩ := hn6
        have HP := Lib.hid hp
        have HI := Lib.hid hI
        have HCs := Lib.hid hC
        clear hp hI hC
        go_wp2
        go_loopw [6] (fun i wr => ∃ k : Nat, k ≤ n ∧ i = .int .i64 k ∧ Hid (∀ j, j < k → 1 ≤ (l.getD j (0, 0)).2) ∧ wr = w2) (fun i _ => n - (intOf i).toNat)
        case atStart => exact ⟨0, Nat.zero_le _, rfl, Lib.hid fun j hj => by omega, rfl⟩
        case round =>
          obtain ⟨k, hk, rfl, hall, rfl⟩ := hrel
          by_cases hlt : k < n
          · have hkl : k < l.length := by have := Hn.out; omega
            obtain ⟨b, off, rfl, hbs, hc⟩ := HP.out.cells (by omega)
            obtain ⟨-, hc2⟩ := hc k hkl
            have hz := hok (l.getD k (0, 0)) (by rw [List.getD_eq_getElem?_getD, List.getElem?_eq_getElem hkl]; exact List.getElem_mem hkl)
            obtain ⟨x, hx⟩ : ∃ x, x = (l.getD k (0, 0)).2 := ⟨_, rfl⟩
            rw [← hx] at hc2 hz
            have Hx := Lib.hid hx
            clear hx hc
            have i1 : (k : Int) < (n : Int) := by omega
            by_cases hx0 : x = 0
            · subst hx0
              go_wp2_with fail
              refine (known_any _).mono ?_
              rintro e w3 ⟨rfl, hb⟩
              go_wp2
              go_ret
              exact ⟨rfl, hB.trans (hb.mono hB.size)⟩
            · have hx1 : (x == 0) = false := by simpa using hx0
              go_wp2
              go_roundw
              case rel =>
                refine ⟨k + 1, by omega, by go_num, Lib.hid fun j hj => ?_, trivial⟩
                by_cases e : j = k
                · subst e; rw [← Hx.out]; omega
                · exact hall.out j (by omega)
              case measure => simp [intOf]; omega
          · have hk2 : k = n := by omega
            have hpos : ∀ z ∈ l, 1 ≤ z.2 := by
              intro z hz
              obtain ⟨j, hj, rfl⟩ := List.getElem_of_mem hz
              have := hall.out j (by have := Hn.out; omega)
              rwa [List.getD_eq_getElem?_getD, List.getElem?_eq_getElem hj] at this
            obtain ⟨hp0, hcs⟩ := Fl.check_unique hpos HC.out
            have Hp0 := Lib.hid hp0
            have Hcs := Lib.hid hcs
            clear hp0 hcs hpos hall hk2
            have hp := HP.out
            have hI := HI.out
            have hC := HCs.out
            have i1 : ¬ (k : Int) < (n : Int) := by omega
            go_wp2_with fail
            refine (Cut_any l ps _ _ _ _ _ _ _ hp Hn.out hn hI Hm.out hm).mono ?_
            rintro e w3 ⟨⟨v1, rfl, M1⟩, hb3⟩
            rw [Hp0.out] at M1 ⊢
            replace hp := hp.below hb3
            replace hI := hI.below hb3
            replace hC := hC.below hb3
            replace c0 := keep_cell hb3 c0
            replace c1 := keep_cell hb3 c1
            replace hB := hB.trans (hb3.mono hB.size)
            clear hb3
            obtain ⟨a1, cp1, rfl, -, P1⟩ := M1.pts
            simp only [if_true] at P1 ⊢
            rw [← Hcs.out] at P1 ⊢
            have Hl : Hid (cs.length = r) := Lib.hid Hr.out.symm
            rw [Hl.out]
            go_wp2_with fail
            refine (sameRats_any cs cs _ _ _ _ _ _ _ P1 hC Hr.out Hr.out hr hr).mono ?_
            rintro e w4 ⟨rfl, hb4⟩
            rw [decide_eq_true rfl]
            replace hp := hp.below hb4
            replace hI := hI.below hb4
            replace hC := hC.below hb4
            replace c0 := keep_cell hb4 c0
            replace c1 := keep_cell hb4 c1
            replace hB := hB.trans (hb4.mono hB.size)
            go_wp2_with fail
            refine (known_any _).mono ?_
            rintro e w5 ⟨rfl, hb⟩
            go_wp2
            go_ret
            exact ⟨rfl, hB.trans (hb.mono hB.size)⟩
      · go_wp2_with fail
        refine (known_any _).mono ?_
        rintro e w3 ⟨rfl, hb⟩
        go_wp2
        go_ret
        exact ⟨rfl, hB.trans (hb.mono hB.size)⟩
end Go.Proofs.Ytkpabehjehbidaa
