import Derived.Test.YtmajcccdbhbkfaaRdd
namespace Go.Proofs.Ytmajcccdbhbkfaa
open Go.RowKit

set_option maxRecDepth 100000 in
set_option maxHeartbeats 1000000 in
theorem Dearest_any (l : List (Int × Int)) (size : Int) (ao : Option Addr) (n cap : Nat) (w : World) (hp : Pts w ao l) (hln : n = l.length) (hn : n ≤ 100000) :
    Calls Try.prog 45 #[.slice ao n cap, .int .i64 size] w fun e w' => e = .returned (.tuple #[frOr (Fl.dcode l size) ((Fl.dear l size).1 : Rat), frOr (Fl.dcode l size) (Fl.dear l size).2, .int .i64 (Fl.dcode l size)]) ∧ Below w.heap.size w w' := by
  obtain ⟨V, hV⟩ : ∃ V, Fl.validate l = V := ⟨_, rfl⟩
  have hV0 : V = 0 ∨ (V != 0) = true := by by_cases h : V = 0 <;> simp [h]
  have HV := Lib.hid hV
  clear hV
  by_cases hin : V = 0 ∧ 0 ≤ size ∧ size ≤ Fl.len l
  · have hv : Fl.validate l = 0 := HV.out.trans hin.1
    refine (dear_ok l size ao n cap w hp hln hn hv hin.2.1 hin.2.2).mono ?_
    rintro e w' ⟨rfl, hb⟩
    refine ⟨?_, hb⟩
    rw [Fl.dcode_ok hv hin.2, frOr_ok, frOr_ok]
  · have Hn := Lib.hid hln
    clear hln
    obtain ⟨R, hR⟩ : ∃ R, R = (Value.tuple #[frOr (Fl.dcode l size) ((Fl.dear l size).1 : Rat), frOr (Fl.dcode l size) (Fl.dear l size).2, .int .i64 (Fl.dcode l size)]) := ⟨_, rfl⟩
    rw [← hR]
    have HR := Lib.hid hR
    clear hR
    have hB := below_alloc2 w (.cells #[.int .i64 0, .int .i64 0] 29) (.cells #[.int .i64 0, .int .i64 0] 29)
    have r4 := heap_alloc2_old w (.cells #[.int .i64 0, .int .i64 0] 29) (.cells #[.int .i64 0, .int .i64 0] 29)
    have r5 := heap_alloc2_new w (.cells #[.int .i64 0, .int .i64 0] 29) (.cells #[.int .i64 0, .int .i64 0] 29)
    replace hp := hp.below hB
    have HA := Lib.hid (And.intro hp (And.intro r4 (And.intro r5 hB)))
    clear hp hB r4 r5
    have Hin := Lib.hid hin
    clear hin
    go_enter Try.func45, Try.ntmps45
    go_wp2_with fail
    obtain ⟨hp, r4, r5, hB⟩ := HA.out
    clear HA
    refine (validate_any l _ _ _ _ hp Hn.out hn).mono ?_
    rintro e w1 ⟨rfl, hbb⟩
    replace hp := hp.below hbb
    replace r4 := heap_keep hbb r4
    replace r5 := heap_keep hbb r5
    replace hB := hB.trans (hbb.mono hB.size)
    clear hbb
    rw [HV.out]
    rcases hV0 with rfl | hV0
    · have hok := (Fl.validate_ok.1 HV.out).2
      have hl6 := (Fl.validate_ok.1 HV.out).1.2
      have hfin : Hid (R = Value.tuple #[.agg #[.int .i64 0, .int .i64 0], .agg #[.int .i64 0, .int .i64 0], .int .i64 1]) := Lib.hid (by
        rw [HR.out, Fl.dcode_arg HV.out (fun h => Hin.out ⟨rfl, h⟩)]
        rfl)
      by_cases hs : size < 0
      · obtain ⟨⟨d0, d1⟩, df0, df1⟩ := row_fr r4
        obtain ⟨⟨e0, e1⟩, ef0, ef1⟩ := row_fr r5
        go_wp2
        rw [hfin.out]
        exact bodyPost_ret (results_cells3 rfl _ _ _ _ _ _ _ _ _ _ _ _ rfl (heap_two_other _ _ (by omega) (two_cells r4 _ _)) Try.underlying29 rfl infoRat2 rfl (two_cells (heap_two_other _ _ (by omega) r5) _ _) Try.underlying29 rfl infoRat2) rfl ⟨rfl, below_setCell (below_setCell (below_setCell (below_setCell hB (by omega) _) (by omega) _) (by omega) _) (by omega) _⟩
      · go_wp2_with fail
        refine (length_any l _ _ _ _ hp Hn.out hok hl6).mono ?_
        rintro e w2 ⟨rfl, hbb⟩
        replace hp := hp.below hbb
        replace r4 := heap_keep hbb r4
        replace r5 := heap_keep hbb r5
        replace hB := hB.trans (hbb.mono hB.size)
        clear hbb
        have hgt : Fl.len l < size := by
          have := Hin.out
          by_cases h : size ≤ Fl.len l
          · exact absurd ⟨trivial, by omega, h⟩ this
          · omega
        obtain ⟨⟨d0, d1⟩, df0, df1⟩ := row_fr r4
        obtain ⟨⟨e0, e1⟩, ef0, ef1⟩ := row_fr r5
        go_wp2
        rw [hfin.out]
        exact bodyPost_ret (results_cells3 rfl _ _ _ _ _ _ _ _ _ _ _ _ rfl (heap_two_other _ _ (by omega) (two_cells r4 _ _)) Try.underlying29 rfl infoRat2 rfl (two_cells (heap_two_other _ _ (by omega) r5) _ _) Try.underlying29 rfl infoRat2) rfl ⟨rfl, below_setCell (below_setCell (below_setCell (below_setCell hB (by omega) _) (by omega) _) (by omega) _) (by omega) _⟩
    · have hfin : Hid (R = Value.tuple #[.agg #[.int .i64 0, .int .i64 0], .agg #[.int .i64 0, .int .i64 0], .int .i64 V]) := Lib.hid (by
        have hne := code_ne hV0
        rw [HR.out, Fl.dcode_bad (by rw [HV.out]; exact hne), HV.out, frOr_no hV0, frOr_no hV0])
      obtain ⟨⟨d0, d1⟩, df0, df1⟩ := row_fr r4
      obtain ⟨⟨e0, e1⟩, ef0, ef1⟩ := row_fr r5
      go_wp2
      rw [hfin.out]
      exact bodyPost_ret (results_cells3 rfl _ _ _ _ _ _ _ _ _ _ _ _ rfl (heap_two_other _ _ (by omega) (two_cells r4 _ _)) Try.underlying29 rfl infoRat2 rfl (two_cells (heap_two_other _ _ (by omega) r5) _ _) Try.underlying29 rfl infoRat2) rfl ⟨rfl, below_setCell (below_setCell (below_setCell (below_setCell hB (by omega) _) (by omega) _) (by omega) _) (by omega) _⟩
end Go.Proofs.Ytmajcccdbhbkfaa
