import Derived.Test.YtkpabehjehbidaaTot
namespace Go.Proofs.Ytkpabehjehbidaa
open Go.RowKit

theorem results_cell_tmp {P : Program} {fn : Func} {p q : Tmp} {ty : TypeId} (h : fn.results = #[.cell p ty, .tmp q]) (tmps : Array Value) (w : World) (g : Nat) (t : TypeId) (cs : Array Value) (fr : Nat × Nat) (d : TypeDesc)
    (hp : tmps.getD p undef = .pointer (some ⟨g, 0, none⟩)) (hg : w.heap[g]? = some (.cells cs t fr))
    (hu : P.underlying ty = some d) (hd : (match d with | .struct _ | .array _ _ => true | _ => false) = true) (hi : (P.info? ty).map (·.size) = some cs.size) :
    (results fn tmps).run P w = .ok (.tuple #[.agg cs, tmps.getD q undef]) w := by
  have hp' : tmps[p]?.getD undef = .pointer (some ⟨g, 0, none⟩) := by simpa using hp
  simp [results, h, hp', asAddr, run_loadVar_row w g t ty cs fr d hg hu hd hi]

theorem field_num (a b : Int) : ∀ w : World, (Instr.field 70 (.agg #[.int .i64 a, .int .i64 b]) 0).run Try.prog w = .ok (.int .i64 a) w := fun _ => by kernel_rfl
theorem code_cases (l : List (Int × Int)) : Fl.validate l = 0 ∨ (Fl.validate l != 0) = true := by by_cases h : Fl.validate l = 0 <;> simp [h]
theorem code_ne {c : Int} (h : (c != 0) = true) : c ≠ 0 := by simpa using h

set_option maxRecDepth 100000 in
set_option maxHeartbeats 1000000 in
theorem Length_any (l : List (Int × Int)) (ao : Option Addr) (n cap : Nat) (w : World) (hp : Pts w ao l) (hln : n = l.length) (hn : n ≤ 100000) :
    Calls Try.prog 17 #[.slice ao n cap] w fun e w' => e = .returned (.tuple #[.int .i64 (if Fl.validate l = 0 then Fl.len l else 0), .int .i64 (Fl.validate l)]) ∧ Below w.heap.size w w' := by
  have Hn := Lib.hid hln
  clear hln
  obtain ⟨c, hc⟩ : ∃ c, c = Fl.validate l := ⟨_, rfl⟩
  have Hc := Lib.hid hc
  have hc0 := code_cases l
  rw [← hc] at hc0 ⊢
  clear hc
  obtain ⟨R, hR0⟩ : ∃ r, r = (if c = 0 then Fl.len l else 0) := ⟨_, rfl⟩
  rw [← hR0]
  have hR := Lib.hid hR0
  clear hR0
  go_enter Try.func17, Try.ntmps17
  go_wp2_with fail
  refine (validate_any l _ _ _ _ hp Hn.out hn).mono ?_
  rintro e w1 ⟨rfl, hb1⟩
  rw [← Hc.out]
  have hp1 := hp.below hb1
  clear hp
  rcases hc0 with rfl | hc0
  · have hv := Fl.validate_ok.1 Hc.out.symm
    have hR1 := Lib.hid (hR.out.trans (if_pos rfl))
    go_wp2_with fail
    refine (length_any l _ _ _ _ hp1 Hn.out hv.2 hv.1.2).mono ?_
    rintro e w2 ⟨rfl, hb2⟩
    go_wp2
    go_ret2
    exact ⟨by rw [hR1.out]; rfl, hb1.trans (hb2.mono hb1.size)⟩
  · have hR0 := Lib.hid (hR.out.trans (if_neg (code_ne hc0)))
    go_wp2
    go_ret2
    exact ⟨by rw [hR0.out]; rfl, hb1⟩

set_option maxRecDepth 100000 in
set_option maxHeartbeats 1000000 in
theorem Total_any (l : List (Int × Int)) (ao : Option Addr) (n cap : Nat) (w : World) (hp : Pts w ao l) (hln : n = l.length) (hn : n ≤ 100000) :
    Calls Try.prog 19 #[.slice ao n cap] w fun e w' => e = .returned (.tuple #[.int .i64 (if Fl.validate l = 0 then Fl.tot l else 0), .int .i64 (Fl.validate l)]) ∧ Below w.heap.size w w' := by
  have Hn := Lib.hid hln
  clear hln
  obtain ⟨c, hc⟩ : ∃ c, c = Fl.validate l := ⟨_, rfl⟩
  have Hc := Lib.hid hc
  have hc0 := code_cases l
  rw [← hc] at hc0 ⊢
  clear hc
  obtain ⟨R, hR0⟩ : ∃ r, r = (if c = 0 then Fl.tot l else 0) := ⟨_, rfl⟩
  rw [← hR0]
  have hR := Lib.hid hR0
  clear hR0
  go_enter Try.func19, Try.ntmps19
  go_wp2_with fail
  refine (validate_any l _ _ _ _ hp Hn.out hn).mono ?_
  rintro e w1 ⟨rfl, hb1⟩
  rw [← Hc.out]
  have hp1 := hp.below hb1
  clear hp
  rcases hc0 with rfl | hc0
  · have hv := Fl.validate_ok.1 Hc.out.symm
    have hR1 := Lib.hid (hR.out.trans (if_pos rfl))
    go_wp2_with fail
    refine (worthAll_any l _ _ _ _ hp1 Hn.out hv.2 hv.1.1 hv.1.2).mono ?_
    rintro e w2 ⟨rfl, hb2⟩
    dsimp only [Fr]
    have hfd := field_num (Fl.tot l) 1
    go_wp2
    go_ret2
    exact ⟨by rw [hR1.out]; rfl, hb1.trans (hb2.mono hb1.size)⟩
  · have hR0 := Lib.hid (hR.out.trans (if_neg (code_ne hc0)))
    go_wp2
    go_ret2
    exact ⟨by rw [hR0.out]; rfl, hb1⟩

/-- A fraction, or the zero value where there is an error. -/
def frOr (c : Int) (q : Rat) : Value := if c = 0 then Fr q else .agg #[.int .i64 0, .int .i64 0]
theorem frOr_ok (q : Rat) : frOr 0 q = Fr q := rfl
theorem frOr_no {c : Int} (h : (c != 0) = true) (q : Rat) : frOr c q = .agg #[.int .i64 0, .int .i64 0] := if_neg (code_ne h)

set_option maxRecDepth 100000 in
set_option maxHeartbeats 1000000 in
theorem Mean_any (l : List (Int × Int)) (ao : Option Addr) (n cap : Nat) (w : World) (hp : Pts w ao l) (hln : n = l.length) (hn : n ≤ 100000) :
    Calls Try.prog 21 #[.slice ao n cap] w fun e w' => e = .returned (.tuple #[frOr (Fl.validate l) ((Fl.tot l : Rat) / (Fl.len l : Rat)), .int .i64 (Fl.validate l)]) ∧ Below w.heap.size w w' := by
  have Hn := Lib.hid hln
  clear hln
  obtain ⟨c, hc⟩ : ∃ c, c = Fl.validate l := ⟨_, rfl⟩
  have Hc := Lib.hid hc
  have hc0 := code_cases l
  rw [← hc] at hc0 ⊢
  clear hc
  have hA : Below w.heap.size w (w.alloc (.cells #[.int .i64 0, .int .i64 0] 29)) := (Below.refl _ w).alloc (Nat.le_refl _) _
  have r0 := heap_alloc_new w (.cells #[.int .i64 0, .int .i64 0] 29)
  have hp1 := hp.below hA
  have HA := Lib.hid (And.intro hA r0)
  clear hA r0 hp
  go_enter Try.func21, Try.ntmps21
  go_wp2_with fail
  refine (validate_any l _ _ _ _ hp1 Hn.out hn).mono ?_
  rintro e w1 ⟨rfl, hb1⟩
  rw [← Hc.out]
  have hp2 := hp1.below hb1
  have r1 := heap_keep hb1 HA.out.2
  have hB1 := HA.out.1.trans (hb1.mono HA.out.1.size)
  clear hp1 hb1
  rcases hc0 with rfl | hc0
  · have hv := Fl.validate_ok.1 Hc.out.symm
    have hlb := Fl.len_bound hv.2
    have htb := Fl.tot_bound hv.2
    go_wp2_with fail
    refine (worthAll_any l _ _ _ _ hp2 Hn.out hv.2 hv.1.1 hv.1.2).mono ?_
    rintro e w2 ⟨rfl, hb2⟩
    have hp3 := hp2.below hb2
    have r2 := heap_keep hb2 r1
    have hB2 := hB1.trans (hb2.mono hB1.size)
    clear hp2 hb2 r1
    go_wp2_with fail
    refine (length_any l _ _ _ _ hp3 Hn.out hv.2 hv.1.2).mono ?_
    rintro e w3 ⟨rfl, hb3⟩
    have r3 := heap_keep hb3 r2
    have hB3 := hB2.trans (hb3.mono hB2.size)
    clear hp3 hb3 r2
    go_wp2_with fail
    refine (over_any (Fl.tot l : Rat) (Fl.len l) _ (by show 0 ≤ Fl.tot l; omega) (by omega) (by show Fl.tot l ≤ _; omega) (by rw [Rat.den_intCast]; omega)).mono ?_
    rintro e w4 ⟨rfl, hb4⟩
    have r4 := heap_keep hb4 r3
    have hB4 := hB3.trans (hb4.mono hB3.size)
    clear hb4 r3
    obtain ⟨⟨d0, d1⟩, f0, f1⟩ := row_fr r4
    go_wp2
    exact bodyPost_ret (results_cell_tmp rfl _ _ _ _ _ _ _ rfl (two_cells r4 (.int .i64 ((Fl.tot l : Rat) / (Fl.len l : Rat)).num) (.int .i64 ((Fl.tot l : Rat) / (Fl.len l : Rat)).den)) Try.underlying29 rfl infoRat2) rfl ⟨rfl, below_setCell (below_setCell hB4 (by omega) _) (by omega) _⟩
  · obtain ⟨⟨d0, d1⟩, f0, f1⟩ := row_fr r1
    go_wp2
    rw [frOr_no hc0]
    exact bodyPost_ret (results_cell_tmp rfl _ _ _ _ _ _ _ rfl (two_cells r1 (.int .i64 0) (.int .i64 0)) Try.underlying29 rfl infoRat2) rfl ⟨rfl, below_setCell (below_setCell hB1 (by omega) _) (by omega) _⟩
end Go.Proofs.Ytkpabehjehbidaa
