import Derived.Test.YtemlfklipkpacaaB1
import Derived.Laws.MakeOwn
namespace Go.Proofs.Ytemlfklipkpacaa
open Go.RowKit

theorem piece_whole {s l v : Int} {L : Rat} (h0 : 0 ≤ s) (h1 : 1 ≤ l) (hL : ((s + l : Int) : Rat) ≤ L) : Fl.piece (s, s + l, v) 0 L = ((l * v : Int) : Rat) := by
  have r6 : (0 : Rat) ≤ (s : Rat) := by exact_mod_cast h0
  have r1 : (1 : Rat) ≤ (l : Rat) := by exact_mod_cast h1
  have e1 : ((s + l : Int) : Rat) = (s : Rat) + (l : Rat) := Rat.intCast_add s l
  have e2 : ((l * v : Int) : Rat) = (l : Rat) * (v : Rat) := Rat.intCast_mul l v
  have eh : Fl.sooner L ((s + l : Int) : Rat) = (s : Rat) + (l : Rat) := by rw [Fl.sooner_eq]; grind
  have el : Fl.later 0 (s : Rat) = (s : Rat) := by rw [Fl.later_eq]; grind
  unfold Fl.piece
  simp only [eh, el]
  rw [if_neg (by grind), e2]
  grind
theorem sum_whole {f : List (Int × Int)} : ∀ {s : Int} {A L : Rat}, Fl.Ok f → 0 ≤ s → ((s + Fl.len f : Int) : Rat) ≤ L →
    ((Fl.strips s f).map fun x => Fl.piece x 0 L).foldl (· + ·) A = A + (Fl.tot f : Rat) := by
  induction f with
  | nil => intro s A L _ _ _; simp [Fl.strips, Fl.tot, Rat.add_zero]
  | cons z r ih =>
    intro s A L hok hs hL
    have hz := hok.head
    have hl := (Fl.len_bound hok.tail).1
    have hL2 : ((s + z.1 : Int) : Rat) ≤ L := Rat.le_trans (Rat.intCast_le_intCast.2 (by simp only [Fl.len]; omega)) hL
    simp only [Fl.strips, List.map_cons, List.foldl_cons]
    rw [piece_whole hs hz.1 hL2, ih hok.tail (by omega) (by rw [show s + z.1 + Fl.len r = s + Fl.len (z :: r) by simp only [Fl.len]; omega]; exact hL)]
    have : ((Fl.tot (z :: r) : Int) : Rat) = ((z.1 * z.2 : Int) : Rat) + ((Fl.tot r : Int) : Rat) := by
      rw [← Rat.intCast_add]; rfl
    rw [this]
    grind
theorem worth_whole {f : List (Int × Int)} (hok : Fl.Ok f) : Fl.worth f 0 (Fl.len f : Rat) = (Fl.tot f : Rat) := by
  have := sum_whole (A := 0) (s := 0) (L := (Fl.len f : Rat)) hok (Int.le_refl _) (by rw [Int.zero_add]; exact Rat.le_refl)
  rw [Rat.zero_add] at this
  exact this

set_option maxRecDepth 100000 in
set_option maxHeartbeats 1000000 in
theorem worthAll_any (l : List (Int × Int)) (ao : Option Addr) (n cap : Nat) (w : World) (hp : Pts w ao l) (hln : n = l.length) (hok : Fl.Ok l) (h1 : 1 ≤ l.length) (h6 : l.length ≤ 6) :
    Calls Try.prog 67 #[.slice ao n cap] w fun e w' => e = .returned (Fr (Fl.tot l : Rat)) ∧ Below w.heap.size w w' := by
  have Hn := Lib.hid hln
  clear hln
  have hb := Fl.len_bound hok
  have hpo : PlaceOk 0 (Fl.len l : Rat) := ⟨by decide, by exact_mod_cast (show (0 : Int) ≤ Fl.len l by omega), by decide, by show Fl.len l ≤ _; omega, by show 1 * 1 ≤ _; decide⟩
  have hw := Lib.hid (worth_whole hok)
  have hA : Below w.heap.size w (w.alloc (.cells #[.int .i64 0, .int .i64 0] 89)) := (Below.refl _ w).alloc (Nat.le_refl _) _
  have r0 := heap_alloc_new w (.cells #[.int .i64 0, .int .i64 0] 89)
  have hp1 := hp.below hA
  have HA := Lib.hid (And.intro hA r0)
  clear hA r0 hp
  go_enter Try.func67, Try.ntmps67
  go_wp2_with fail
  refine (whole_any 0 _).mono ?_
  rintro e w1 ⟨rfl, hb1⟩
  have hp2 := hp1.below hb1
  have r1 := heap_keep hb1 HA.out.2
  have hB1 := HA.out.1.trans (hb1.mono HA.out.1.size)
  clear hb1 hp1
  go_wp2_with fail
  refine (length_any l _ _ _ _ hp2 Hn.out hok h6).mono ?_
  rintro e w2 ⟨rfl, hb2⟩
  have hp3 := hp2.below hb2
  have r2 := heap_keep hb2 r1
  have hB2 := hB1.trans (hb2.mono hB1.size)
  clear hb2 hp2 r1
  go_wp2_with fail
  refine (whole_any _ _).mono ?_
  rintro e w3 ⟨rfl, hb3⟩
  have hp4 := hp3.below hb3
  have r3 := heap_keep hb3 r2
  have hB3 := hB2.trans (hb3.mono hB2.size)
  clear hb3 hp3 r2
  go_wp2_with fail
  refine (worth_any l 0 (Fl.len l : Rat) _ _ _ _ hp4 Hn.out hok h1 h6 hpo).mono ?_
  rintro e w4 ⟨rfl, hb4⟩
  have r4 := heap_keep hb4 r3
  have hB4 := hB3.trans (hb4.mono hB3.size)
  clear hb4 hp4 r3
  obtain ⟨⟨d0, d1⟩, f0, f1⟩ := row_fr r4
  rw [hw.out]
  go_wp2
  exact bodyPost_ret (results_cell_row rfl _ _ _ _ _ _ _ rfl (two_cells r4 (.int .i64 (Fl.tot l : Rat).num) (.int .i64 (Fl.tot l : Rat).den)) Try.underlying89 rfl infoFr2) rfl ⟨rfl, below_setCell (below_setCell hB4 (by omega) _) (by omega) _⟩

theorem bad_zone {l : List (Int × Int)} {k : Nat} (hk : k < l.length) (hb : Fl.okZ (l.getD k (0, 0)) = false) (h : 1 ≤ l.length ∧ l.length ≤ 6) : Fl.validate l = 1 := by
  unfold Fl.validate
  rw [if_neg (by omega), if_neg]
  intro ha
  rw [List.all_eq_true] at ha
  have := ha _ (List.getElem_mem hk)
  rw [List.getD_eq_getElem?_getD, List.getElem?_eq_getElem hk] at hb
  simp [this] at hb
theorem good_zones {l : List (Int × Int)} (hb : ∀ k, k < l.length → Fl.okZ (l.getD k (0, 0)) = true) (h : 1 ≤ l.length ∧ l.length ≤ 6) : Fl.validate l = 0 := by
  unfold Fl.validate
  rw [if_neg (by omega), if_pos]
  rw [List.all_eq_true]
  intro x hx
  obtain ⟨j, hj, rfl⟩ := List.mem_iff_getElem.1 hx
  have := hb j hj
  rwa [List.getD_eq_getElem?_getD, List.getElem?_eq_getElem hj] at this

set_option maxRecDepth 100000 in
set_option maxHeartbeats 4000000 in
theorem validate_any (l : List (Int × Int)) (ao : Option Addr) (n cap : Nat) (w : World) (hp : Pts w ao l) (hln : n = l.length) (hn : n ≤ 100000) :
    Calls Try.prog 23 #[.slice ao n cap] w fun e w' => e = .returned (.int .i64 (Fl.validate l)) ∧ Below w.heap.size w w' := by
  have Hn := Lib.hid hln
  clear hln
  by_cases hlen : n < 1 ∨ 6 < n
  · have hv : Hid (Fl.validate l = 3) := Lib.hid (by unfold Fl.validate; rw [if_pos (by rw [← Hn.out]; exact hlen)])
    go_enter Try.func23, Try.ntmps23
    rcases hlen with hlen | hlen
    · go_wp2
      go_ret
      exact ⟨ret_int hv.out.symm, Below.refl _ _⟩
    · go_wp2
      go_ret
      exact ⟨ret_int hv.out.symm, Below.refl _ _⟩
  · have h16 : 1 ≤ n ∧ n ≤ 6 := by omega
    obtain ⟨hh1, hh2⟩ := h16
    clear hlen
    go_enter Try.func23, Try.ntmps23
    go_wp2
    go_loopw [15] (fun i wr => ∃ k : Nat, k ≤ n ∧ i = .int .i64 k ∧ Below w.heap.size w wr ∧ Hid (∀ j, j < k → Fl.okZ (l.getD j (0, 0)) = true)) (fun i _ => n - (intOf i).toNat)
    case atStart => exact ⟨0, Nat.zero_le _, rfl, Below.refl _ _, Lib.hid fun j hj => by omega⟩
    case round =>
      obtain ⟨k, hk, rfl, hb, hall⟩ := hrel
      by_cases hlt : k < n
      · obtain ⟨b, off, rfl, hbs, hc⟩ := hp.cells (by have := Hn.out; omega)
        have hkl : k < l.length := by have := Hn.out; omega
        obtain ⟨hc1, hc2⟩ := hc k hkl
        clear hc hp
        rw [← hb.cell (p := ⟨b, _, none⟩) hbs] at hc1 hc2
        have i1 : (k : Int) < (n : Int) := by omega
        obtain ⟨z, hz⟩ : ∃ x, x = l.getD k (0, 0) := ⟨_, rfl⟩
        rw [← hz] at hc1 hc2
        obtain ⟨x, y⟩ := z
        simp only at hc1 hc2
        have Hz := Lib.hid hz
        clear hz
        cases hokz : Fl.okZ (x, y) with
        | true =>
          have hq := Fl.okZ_iff.1 hokz
          obtain ⟨q1, q2, q3, q4⟩ := hq
          simp only at q1 q2 q3 q4
          go_wp2
          go_roundw
          case rel =>
            refine ⟨k + 1, by omega, by go_num, hb.alloc hb.size _, Lib.hid fun j hj => ?_⟩
            by_cases e : j = k
            · subst e; rw [← Hz.out]; exact hokz
            · exact hall.out j (by omega)
          case measure => simp [intOf]; omega
        | false =>
          have hv : Hid (Fl.validate l = 1) := Lib.hid (bad_zone hkl (by rw [← Hz.out]; exact hokz) (by have := Hn.out; omega))
          have hq : x < 1 ∨ (1 ≤ x ∧ 20 < x) ∨ (1 ≤ x ∧ x ≤ 20 ∧ y < 0) ∨ (1 ≤ x ∧ x ≤ 20 ∧ 0 ≤ y ∧ 20 < y) := by
            have : ¬ (1 ≤ x ∧ x ≤ 20 ∧ 0 ≤ y ∧ y ≤ 20) := fun h => by rw [Fl.okZ_iff.2 h] at hokz; cases hokz
            omega
          rcases hq with q | ⟨q1, q2⟩ | ⟨q1, q2, q3⟩ | ⟨q1, q2, q3, q4⟩ <;>
          · go_wp2
            go_ret
            exact ⟨ret_int hv.out.symm, hb.alloc hb.size _⟩
      · have hk2 : k = n := by omega
        have Hk := Lib.hid hk2
        clear hk2
        have hv : Hid (Fl.validate l = 0) := Lib.hid (good_zones (fun j hj => hall.out j (by rw [Hk.out, Hn.out]; exact hj)) (by have := Hn.out; omega))
        go_wp2
        go_ret
        exact ⟨ret_int hv.out.symm, hb⟩
end Go.Proofs.Ytemlfklipkpacaa

namespace Go.Proofs.Ytemlfklipkpacaa
open Go.RowKit

theorem results_cell_tmp {P : Program} {fn : Func} {p q : Tmp} {ty : TypeId} (h : fn.results = #[.cell p ty, .tmp q]) (tmps : Array Value) (w : World) (g : Nat) (t : TypeId) (cs : Array Value) (fr : Nat × Nat) (d : TypeDesc)
    (hp : tmps.getD p undef = .pointer (some ⟨g, 0, none⟩)) (hg : w.heap[g]? = some (.cells cs t fr))
    (hu : P.underlying ty = some d) (hd : (match d with | .struct _ | .array _ _ => true | _ => false) = true) (hi : (P.info? ty).map (·.size) = some cs.size) :
    (results fn tmps).run P w = .ok (.tuple #[.agg cs, tmps.getD q undef]) w := by
  have hp' : tmps[p]?.getD undef = .pointer (some ⟨g, 0, none⟩) := by simpa using hp
  simp [results, h, hp', asAddr, run_loadVar_row w g t ty cs fr d hg hu hd hi]

theorem field_num (a b : Int) : ∀ w : World, (Instr.field 89 (.agg #[.int .i64 a, .int .i64 b]) 0).run Try.prog w = .ok (.int .i64 a) w := fun _ => by kernel_rfl
theorem code_cases (l : List (Int × Int)) : Fl.validate l = 0 ∨ (Fl.validate l != 0) = true := by by_cases h : Fl.validate l = 0 <;> simp [h]
theorem code_ne {c : Int} (h : (c != 0) = true) : c ≠ 0 := by simpa using h

set_option maxRecDepth 100000 in
set_option maxHeartbeats 1000000 in
theorem Length_any (l : List (Int × Int)) (ao : Option Addr) (n cap : Nat) (w : World) (hp : Pts w ao l) (hln : n = l.length) (hn : n ≤ 100000) :
    Calls Try.prog 17 #[.slice ao n cap] w fun e w' => e = .returned (.tuple #[.int .i64 (if Fl.validate l = 0 then Fl.len l else 0), .int .i64 (Fl.validate l)]) ∧ Below w.heap.size w w' := by
  have Hn := Lib.hid hln
  clear hln
  obtain ⟨c, hc⟩ : ∃ c, c = Fl.validate l := ⟨_, rfl⟩
  have Hc := Lib.hid hc
  have hc0 := code_cases l
  rw [← hc] at hc0 ⊢
  clear hc
  obtain ⟨R, hR0⟩ : ∃ r, r = (if c = 0 then Fl.len l else 0) := ⟨_, rfl⟩
  rw [← hR0]
  have hR := Lib.hid hR0
  clear hR0
  go_enter Try.func17, Try.ntmps17
  go_wp2_with fail
  refine (validate_any l _ _ _ _ hp Hn.out hn).mono ?_
  rintro e w1 ⟨rfl, hb1⟩
  rw [← Hc.out]
  have hp1 := hp.below hb1
  clear hp
  rcases hc0 with rfl | hc0
  · have hv := Fl.validate_ok.1 Hc.out.symm
    have hR1 := Lib.hid (hR.out.trans (if_pos rfl))
    go_wp2_with fail
    refine (length_any l _ _ _ _ hp1 Hn.out hv.2 hv.1.2).mono ?_
    rintro e w2 ⟨rfl, hb2⟩
    go_wp2
    go_ret2
    exact ⟨by rw [hR1.out]; rfl, hb1.trans (hb2.mono hb1.size)⟩
  · have hR0 := Lib.hid (hR.out.trans (if_neg (code_ne hc0)))
    go_wp2
    go_ret2
    exact ⟨by rw [hR0.out]; rfl, hb1⟩

set_option maxRecDepth 100000 in
set_option maxHeartbeats 1000000 in
theorem Total_any (l : List (Int × Int)) (ao : Option Addr) (n cap : Nat) (w : World) (hp : Pts w ao l) (hln : n = l.length) (hn : n ≤ 100000) :
    Calls Try.prog 19 #[.slice ao n cap] w fun e w' => e = .returned (.tuple #[.int .i64 (if Fl.validate l = 0 then Fl.tot l else 0), .int .i64 (Fl.validate l)]) ∧ Below w.heap.size w w' := by
  have Hn := Lib.hid hln
  clear hln
  obtain ⟨c, hc⟩ : ∃ c, c = Fl.validate l := ⟨_, rfl⟩
  have Hc := Lib.hid hc
  have hc0 := code_cases l
  rw [← hc] at hc0 ⊢
  clear hc
  obtain ⟨R, hR0⟩ : ∃ r, r = (if c = 0 then Fl.tot l else 0) := ⟨_, rfl⟩
  rw [← hR0]
  have hR := Lib.hid hR0
  clear hR0
  go_enter Try.func19, Try.ntmps19
  go_wp2_with fail
  refine (validate_any l _ _ _ _ hp Hn.out hn).mono ?_
  rintro e w1 ⟨rfl, hb1⟩
  rw [← Hc.out]
  have hp1 := hp.below hb1
  clear hp
  rcases hc0 with rfl | hc0
  · have hv := Fl.validate_ok.1 Hc.out.symm
    have hR1 := Lib.hid (hR.out.trans (if_pos rfl))
    go_wp2_with fail
    refine (worthAll_any l _ _ _ _ hp1 Hn.out hv.2 hv.1.1 hv.1.2).mono ?_
    rintro e w2 ⟨rfl, hb2⟩
    dsimp only [Fr]
    have hfd := field_num (Fl.tot l) 1
    go_wp2
    go_ret2
    exact ⟨by rw [hR1.out]; rfl, hb1.trans (hb2.mono hb1.size)⟩
  · have hR0 := Lib.hid (hR.out.trans (if_neg (code_ne hc0)))
    go_wp2
    go_ret2
    exact ⟨by rw [hR0.out]; rfl, hb1⟩

/-- A fraction, or the zero value where there is an error. -/
def frOr (c : Int) (q : Rat) : Value := if c = 0 then Fr q else .agg #[.int .i64 0, .int .i64 0]
theorem frOr_ok (q : Rat) : frOr 0 q = Fr q := rfl
theorem frOr_no {c : Int} (h : (c != 0) = true) (q : Rat) : frOr c q = .agg #[.int .i64 0, .int .i64 0] := if_neg (code_ne h)

set_option maxRecDepth 100000 in
set_option maxHeartbeats 1000000 in
theorem Mean_any (l : List (Int × Int)) (ao : Option Addr) (n cap : Nat) (w : World) (hp : Pts w ao l) (hln : n = l.length) (hn : n ≤ 100000) :
    Calls Try.prog 21 #[.slice ao n cap] w fun e w' => e = .returned (.tuple #[frOr (Fl.validate l) ((Fl.tot l : Rat) / (Fl.len l : Rat)), .int .i64 (Fl.validate l)]) ∧ Below w.heap.size w w' := by
  have Hn := Lib.hid hln
  clear hln
  obtain ⟨c, hc⟩ : ∃ c, c = Fl.validate l := ⟨_, rfl⟩
  have Hc := Lib.hid hc
  have hc0 := code_cases l
  rw [← hc] at hc0 ⊢
  clear hc
  have hA : Below w.heap.size w (w.alloc (.cells #[.int .i64 0, .int .i64 0] 29)) := (Below.refl _ w).alloc (Nat.le_refl _) _
  have r0 := heap_alloc_new w (.cells #[.int .i64 0, .int .i64 0] 29)
  have hp1 := hp.below hA
  have HA := Lib.hid (And.intro hA r0)
  clear hA r0 hp
  go_enter Try.func21, Try.ntmps21
  go_wp2_with fail
  refine (validate_any l _ _ _ _ hp1 Hn.out hn).mono ?_
  rintro e w1 ⟨rfl, hb1⟩
  rw [← Hc.out]
  have hp2 := hp1.below hb1
  have r1 := heap_keep hb1 HA.out.2
  have hB1 := HA.out.1.trans (hb1.mono HA.out.1.size)
  clear hp1 hb1
  rcases hc0 with rfl | hc0
  · have hv := Fl.validate_ok.1 Hc.out.symm
    have hlb := Fl.len_bound hv.2
    have htb := Fl.tot_bound hv.2
    go_wp2_with fail
    refine (worthAll_any l _ _ _ _ hp2 Hn.out hv.2 hv.1.1 hv.1.2).mono ?_
    rintro e w2 ⟨rfl, hb2⟩
    have hp3 := hp2.below hb2
    have r2 := heap_keep hb2 r1
    have hB2 := hB1.trans (hb2.mono hB1.size)
    clear hp2 hb2 r1
    go_wp2_with fail
    refine (length_any l _ _ _ _ hp3 Hn.out hv.2 hv.1.2).mono ?_
    rintro e w3 ⟨rfl, hb3⟩
    have r3 := heap_keep hb3 r2
    have hB3 := hB2.trans (hb3.mono hB2.size)
    clear hp3 hb3 r2
    go_wp2_with fail
    refine (over_any (Fl.tot l : Rat) (Fl.len l) _ (by show 0 ≤ Fl.tot l; omega) (by omega) (by show Fl.tot l ≤ _; omega) (by rw [Rat.den_intCast]; omega)).mono ?_
    rintro e w4 ⟨rfl, hb4⟩
    have r4 := heap_keep hb4 r3
    have hB4 := hB3.trans (hb4.mono hB3.size)
    clear hb4 r3
    obtain ⟨⟨d0, d1⟩, f0, f1⟩ := row_fr r4
    go_wp2
    exact bodyPost_ret (results_cell_tmp rfl _ _ _ _ _ _ _ rfl (two_cells r4 (.int .i64 ((Fl.tot l : Rat) / (Fl.len l : Rat)).num) (.int .i64 ((Fl.tot l : Rat) / (Fl.len l : Rat)).den)) Try.underlying29 rfl infoRat2) rfl ⟨rfl, below_setCell (below_setCell hB4 (by omega) _) (by omega) _⟩
  · obtain ⟨⟨d0, d1⟩, f0, f1⟩ := row_fr r1
    go_wp2
    rw [frOr_no hc0]
    exact bodyPost_ret (results_cell_tmp rfl _ _ _ _ _ _ _ rfl (two_cells r1 (.int .i64 0) (.int .i64 0)) Try.underlying29 rfl infoRat2) rfl ⟨rfl, below_setCell (below_setCell hB1 (by omega) _) (by omega) _⟩
end Go.Proofs.Ytemlfklipkpacaa

namespace Go.Proofs.Ytemlfklipkpacaa
open Go.RowKit

theorem sumI_units_bound {l : List (Int × Int)} (hok : Fl.Ok l) (k : Nat) : 0 ≤ Fl.sumI ((Fl.units l).take k) ∧ Fl.sumI ((Fl.units l).take k) ≤ 20 * k := Fl.units_pre hok k

set_option maxRecDepth 100000 in
set_option maxHeartbeats 2000000 in
theorem rtotal_any (l : List (Int × Int)) (ao : Option Addr) (n cap : Nat) (w : World) (hp : Pts w ao l) (hln : n = l.length) (hok : Fl.Ok l) (h6 : l.length ≤ 6) :
    Calls Try.prog 68 #[.slice ao n cap] w fun e w' => e = .returned (.int .i64 (Fl.tot l)) ∧ Below w.heap.size w w' := by
  have Hn := Lib.hid hln
  clear hln
  have HT := Lib.hid (Fl.units_sum hok)
  have hul := units_take_len hok h6 l.length
  rw [List.take_length] at hul
  go_enter Try.func68, Try.ntmps68
  go_wp2_with fail
  refine (units_any l _ _ _ _ hp Hn.out hok h6).mono ?_
  rintro e w1 ⟨ao2, cap2, rfl, hI, hb1⟩
  obtain ⟨U, hU⟩ : ∃ u, u = Fl.units l := ⟨_, rfl⟩
  have hUb := fun k => Fl.units_pre hok k
  have hUa := fun k => Fl.units_at hok k
  rw [← hU] at hI HT hul hUb hUa ⊢
  have HUb := Lib.hid (And.intro hUb hUa)
  clear hU hUb hUa hp
  go_wp2
  go_loopw [3, 5] (fun s i wr => ∃ k : Nat, k ≤ U.length ∧ i = .int .i64 k ∧ s = .int .i64 (Fl.sumI (U.take k)) ∧ Below w.heap.size w wr ∧ Ints wr ao2 U) (fun _ i _ => U.length - (intOf i).toNat)
  case atStart => exact ⟨0, Nat.zero_le _, rfl, rfl, hb1, hI⟩
  case round =>
    clear hb1 hI
    obtain ⟨k, hk, rfl, rfl, hb, hI⟩ := hrel
    by_cases hlt : k < U.length
    · obtain ⟨b, off, rfl, hbs, hc⟩ := hI.at hlt
      have h1 := HUb.out.1 k
      have h2 := HUb.out.2 k
      have hst := Lib.hid (Fl.sumI_take hlt)
      obtain ⟨x, hx⟩ : ∃ x, x = U.getD k 0 := ⟨_, rfl⟩
      obtain ⟨s, hs⟩ : ∃ x, x = Fl.sumI (U.take k) := ⟨_, rfl⟩
      rw [← hx] at hc h2 hst
      rw [← hs] at h1 hst ⊢
      clear hx hs
      have i1 : (k : Int) < (U.length : Int) := by omega
      have HI := Lib.hid hI
      clear hI
      go_wp2
      go_roundw
      case rel => exact ⟨k + 1, by omega, by go_num, by rw [hst.out], hb, HI.out⟩
      case measure => simp [intOf]; omega
    · have hk2 : k = U.length := by omega
      have Hk := Lib.hid hk2
      clear hk2
      go_wp2
      go_ret
      exact ⟨ret_int (by rw [Hk.out, List.take_length, HT.out]), hb⟩

theorem okZ_split (x y : Int) : Fl.okZ (x, y) = ((decide (1 ≤ x) && decide (x ≤ 20)) && (decide (0 ≤ y) && decide (y ≤ 20))) := by
  rw [Bool.eq_iff_iff, Fl.okZ_iff]; simp; omega

set_option maxRecDepth 100000 in
set_option maxHeartbeats 4000000 in
theorem rvalidate_any (l : List (Int × Int)) (ao : Option Addr) (n cap : Nat) (w : World) (hp : Pts w ao l) (hln : n = l.length) (hn : n ≤ 100000) :
    Calls Try.prog 24 #[.slice ao n cap] w fun e w' => e = .returned (.int .i64 (Fl.validate l)) ∧ w = w' := by
  have Hn := Lib.hid hln
  clear hln
  by_cases hlen : n < 1 ∨ 6 < n
  · have hv : Hid (Fl.validate l = 3) := Lib.hid (by unfold Fl.validate; rw [if_pos (by rw [← Hn.out]; exact hlen)])
    have ho' : (decide ((1 : Int) ≤ n) && decide ((n : Int) ≤ 6)) = false := by
      rw [Bool.eq_false_iff]; simp; omega
    go_enter Try.func24, Try.ntmps24
    go_wp2_with fail
    refine (rwithin_any _ _ _ _).mono ?_
    rintro e w' ⟨rfl, rfl⟩
    rw [ho']
    go_wp2
    go_ret
    exact ⟨ret_int hv.out.symm, rfl⟩
  · have h16 : 1 ≤ n ∧ n ≤ 6 := by omega
    obtain ⟨hh1, hh2⟩ := h16
    have ho' : (decide ((1 : Int) ≤ n) && decide ((n : Int) ≤ 6)) = true := by simp; omega
    clear hlen
    go_enter Try.func24, Try.ntmps24
    go_wp2_with fail
    refine (rwithin_any _ _ _ _).mono ?_
    rintro e w' ⟨rfl, rfl⟩
    rw [ho']
    clear ho'
    go_wp2
    go_loop [3] (fun i => ∃ k : Nat, k ≤ n ∧ i = .int .i64 k ∧ Hid (∀ j, j < k → Fl.okZ (l.getD j (0, 0)) = true)) (fun i => n - (intOf i).toNat)
    case atStart => exact ⟨0, Nat.zero_le _, rfl, Lib.hid fun j hj => by omega⟩
    case round =>
      obtain ⟨k, hk, rfl, hall⟩ := hrel
      by_cases hlt : k < n
      · obtain ⟨b, off, rfl, hbs, hc⟩ := hp.cells (by have := Hn.out; omega)
        have hkl : k < l.length := by have := Hn.out; omega
        obtain ⟨hc1, hc2⟩ := hc k hkl
        clear hc hp
        have i1 : (k : Int) < (n : Int) := by omega
        obtain ⟨z, hz⟩ : ∃ x, x = l.getD k (0, 0) := ⟨_, rfl⟩
        rw [← hz] at hc1 hc2
        obtain ⟨x, y⟩ := z
        simp only at hc1 hc2
        have Hz := Lib.hid hz
        clear hz
        have hq := okZ_split x y
        obtain ⟨b1, hb1⟩ : ∃ v, (decide (1 ≤ x) && decide (x ≤ 20)) = v := ⟨_, rfl⟩
        obtain ⟨b2, hb2⟩ : ∃ v, (decide (0 ≤ y) && decide (y ≤ 20)) = v := ⟨_, rfl⟩
        rw [hb1, hb2] at hq
        have Hq := Lib.hid hq
        have Hb1 := Lib.hid hb1
        have Hb2 := Lib.hid hb2
        clear hq hb1 hb2
        go_wp2_with fail
        refine (rwithin_any _ _ _ _).mono ?_
        rintro e w' ⟨rfl, rfl⟩
        rw [Hb1.out]
        cases b1 with
        | false =>
          have hv : Hid (Fl.validate l = 1) := Lib.hid (bad_zone hkl (by rw [← Hz.out]; exact Hq.out) (by have := Hn.out; omega))
          go_wp2
          go_ret
          exact ⟨ret_int hv.out.symm, rfl⟩
        | true =>
          go_wp2_with fail
          refine (rwithin_any _ _ _ _).mono ?_
          rintro e w' ⟨rfl, rfl⟩
          rw [Hb2.out]
          cases b2 with
          | false =>
            have hv : Hid (Fl.validate l = 1) := Lib.hid (bad_zone hkl (by rw [← Hz.out]; exact Hq.out) (by have := Hn.out; omega))
            go_wp2
            go_ret
            exact ⟨ret_int hv.out.symm, rfl⟩
          | true =>
            go_wp2
            go_round
            case rel =>
              refine ⟨k + 1, by omega, by go_num, Lib.hid fun j hj => ?_⟩
              by_cases e : j = k
              · subst e; rw [← Hz.out]; exact Hq.out
              · exact hall.out j (by omega)
            case measure => simp [intOf]; omega
      · have hk2 : k = n := by omega
        have Hk := Lib.hid hk2
        clear hk2
        have hv : Hid (Fl.validate l = 0) := Lib.hid (good_zones (fun j hj => hall.out j (by rw [Hk.out, Hn.out]; exact hj)) (by have := Hn.out; omega))
        go_wp2
        go_ret
        exact ⟨ret_int hv.out.symm, rfl⟩

set_option maxRecDepth 100000 in
set_option maxHeartbeats 1000000 in
theorem rLength_any (l : List (Int × Int)) (ao : Option Addr) (n cap : Nat) (w : World) (hp : Pts w ao l) (hln : n = l.length) (hn : n ≤ 100000) :
    Calls Try.prog 18 #[.slice ao n cap] w fun e w' => e = .returned (.tuple #[.int .i64 (if Fl.validate l = 0 then Fl.len l else 0), .int .i64 (Fl.validate l)]) ∧ Below w.heap.size w w' := by
  have Hn := Lib.hid hln
  clear hln
  obtain ⟨c, hc⟩ : ∃ c, c = Fl.validate l := ⟨_, rfl⟩
  have Hc := Lib.hid hc
  have hc0 := code_cases l
  rw [← hc] at hc0 ⊢
  clear hc
  obtain ⟨R, hR0⟩ : ∃ r, r = (if c = 0 then Fl.len l else 0) := ⟨_, rfl⟩
  rw [← hR0]
  have hR := Lib.hid hR0
  clear hR0
  go_enter Try.func18, Try.ntmps18
  go_wp2_with fail
  refine (rvalidate_any l _ _ _ _ hp Hn.out hn).mono ?_
  rintro e w1 ⟨rfl, rfl⟩
  rw [← Hc.out]
  rcases hc0 with rfl | hc0
  · have hv := Fl.validate_ok.1 Hc.out.symm
    have hR1 := Lib.hid (hR.out.trans (if_pos rfl))
    have hul := Lib.hid (Fl.units_length hv.2)
    go_wp2_with fail
    refine (units_any l _ _ _ _ hp Hn.out hv.2 hv.1.2).mono ?_
    rintro e w2 ⟨ao2, cap2, rfl, hI, hb2⟩
    clear hI
    go_wp2
    go_ret2
    exact ⟨by rw [hR1.out]; first | rfl | (rw [← hul.out]; rfl), hb2⟩
  · have hR0 := Lib.hid (hR.out.trans (if_neg (code_ne hc0)))
    go_wp2
    go_ret2
    exact ⟨by rw [hR0.out]; rfl, Below.refl _ _⟩

set_option maxRecDepth 100000 in
set_option maxHeartbeats 1000000 in
theorem rTotal_any (l : List (Int × Int)) (ao : Option Addr) (n cap : Nat) (w : World) (hp : Pts w ao l) (hln : n = l.length) (hn : n ≤ 100000) :
    Calls Try.prog 20 #[.slice ao n cap] w fun e w' => e = .returned (.tuple #[.int .i64 (if Fl.validate l = 0 then Fl.tot l else 0), .int .i64 (Fl.validate l)]) ∧ Below w.heap.size w w' := by
  have Hn := Lib.hid hln
  clear hln
  obtain ⟨c, hc⟩ : ∃ c, c = Fl.validate l := ⟨_, rfl⟩
  have Hc := Lib.hid hc
  have hc0 := code_cases l
  rw [← hc] at hc0 ⊢
  clear hc
  obtain ⟨R, hR0⟩ : ∃ r, r = (if c = 0 then Fl.tot l else 0) := ⟨_, rfl⟩
  rw [← hR0]
  have hR := Lib.hid hR0
  clear hR0
  go_enter Try.func20, Try.ntmps20
  go_wp2_with fail
  refine (rvalidate_any l _ _ _ _ hp Hn.out hn).mono ?_
  rintro e w1 ⟨rfl, rfl⟩
  rw [← Hc.out]
  rcases hc0 with rfl | hc0
  · have hv := Fl.validate_ok.1 Hc.out.symm
    have hR1 := Lib.hid (hR.out.trans (if_pos rfl))
    go_wp2_with fail
    refine (rtotal_any l _ _ _ _ hp Hn.out hv.2 hv.1.2).mono ?_
    rintro e w2 ⟨rfl, hb2⟩
    go_wp2
    go_ret2
    exact ⟨by rw [hR1.out]; rfl, hb2⟩
  · have hR0 := Lib.hid (hR.out.trans (if_neg (code_ne hc0)))
    go_wp2
    go_ret2
    exact ⟨by rw [hR0.out]; rfl, Below.refl _ _⟩

theorem mean_eq {l : List (Int × Int)} (hok : Fl.Ok l) : mkRat (Fl.tot l) (Fl.units l).length = (Fl.tot l : Rat) / (Fl.len l : Rat) := by
  rw [← Fl.units_length hok, Rat.mkRat_eq_div]
  rfl

set_option maxRecDepth 100000 in
set_option maxHeartbeats 1000000 in
theorem rMean_any (l : List (Int × Int)) (ao : Option Addr) (n cap : Nat) (w : World) (hp : Pts w ao l) (hln : n = l.length) (hn : n ≤ 100000) :
    Calls Try.prog 22 #[.slice ao n cap] w fun e w' => e = .returned (.tuple #[frOr (Fl.validate l) ((Fl.tot l : Rat) / (Fl.len l : Rat)), .int .i64 (Fl.validate l)]) ∧ Below w.heap.size w w' := by
  have Hn := Lib.hid hln
  clear hln
  obtain ⟨c, hc⟩ : ∃ c, c = Fl.validate l := ⟨_, rfl⟩
  have Hc := Lib.hid hc
  have hc0 := code_cases l
  rw [← hc] at hc0 ⊢
  clear hc
  obtain ⟨q, hq⟩ : ∃ q, (Fl.tot l : Rat) / (Fl.len l : Rat) = q := ⟨_, rfl⟩
  rw [hq]
  have HQ := Lib.hid hq
  clear hq
  have hB : Below w.heap.size w (w.alloc (.cells #[.int .i64 0, .int .i64 0] 29)) := (Below.refl _ w).alloc (Nat.le_refl _) _
  have r0 := heap_alloc_new w (.cells #[.int .i64 0, .int .i64 0] 29)
  replace hp := hp.below hB
  have HA := Lib.hid (And.intro hB r0)
  clear hB r0
  go_enter Try.func22, Try.ntmps22
  go_wp2_with fail
  refine (rvalidate_any l _ _ _ _ hp Hn.out hn).mono ?_
  rintro e w1 ⟨rfl, hw1⟩
  have r0 := HA.out.2
  have hB := HA.out.1
  clear HA
  rw [hw1] at r0 hp hB
  clear hw1
  rw [← Hc.out]
  rcases hc0 with rfl | hc0
  · have hv := Fl.validate_ok.1 Hc.out.symm
    have hlb := Fl.len_bound hv.2
    have htb := Fl.tot_bound hv.2
    have hul := Fl.units_length hv.2
    have HM := mean_eq hv.2
    have hl1 := hv.1.1
    have hl2 := hv.1.2
    rw [HQ.out] at HM
    replace HM := Lib.hid HM
    go_wp2_with fail
    refine (rtotal_any l _ _ _ _ hp Hn.out hv.2 hv.1.2).mono ?_
    rintro e w1 ⟨rfl, hbb⟩
    replace hp := hp.below hbb
    replace r0 := heap_keep hbb r0
    replace hB := hB.trans (hbb.mono hB.size)
    clear hbb
    go_wp2_with fail
    refine (units_any l _ _ _ _ hp Hn.out hv.2 hv.1.2).mono ?_
    rintro e w2 ⟨ao2, cap2, rfl, hI, hbb⟩
    replace hp := hp.below hbb
    replace r0 := heap_keep hbb r0
    replace hB := hB.trans (hbb.mono hB.size)
    clear hbb
    clear hI
    obtain ⟨m, hm⟩ : ∃ m, m = (Fl.units l).length := ⟨_, rfl⟩
    rw [← hm] at hul HM ⊢
    have Hul := Lib.hid hul
    clear hm hul
    go_wp2_with fail
    refine (ratio_any (Fl.tot l) m _ (by have := Hul.out; omega) (by omega) (by omega) (by have := Hul.out; omega)).mono ?_
    rintro e w3 ⟨rfl, hbb⟩
    replace hp := hp.below hbb
    replace r0 := heap_keep hbb r0
    replace hB := hB.trans (hbb.mono hB.size)
    clear hbb
    rw [HM.out]
    obtain ⟨⟨d0, d1⟩, f0, f1⟩ := row_fr r0
    go_wp2
    exact bodyPost_ret (results_cell_tmp rfl _ _ _ _ _ _ _ rfl (two_cells r0 (.int .i64 q.num) (.int .i64 q.den)) Try.underlying29 rfl infoRat2) rfl ⟨rfl, below_setCell (below_setCell hB (by omega) _) (by omega) _⟩
  · obtain ⟨⟨d0, d1⟩, f0, f1⟩ := row_fr r0
    go_wp2
    rw [frOr_no hc0]
    exact bodyPost_ret (results_cell_tmp rfl _ _ _ _ _ _ _ rfl (two_cells r0 (.int .i64 0) (.int .i64 0)) Try.underlying29 rfl infoRat2) rfl ⟨rfl, below_setCell (below_setCell hB (by omega) _) (by omega) _⟩
end Go.Proofs.Ytemlfklipkpacaa

namespace Go.Proofs.Ytemlfklipkpacaa
open Go.RowKit
namespace Fl
/-- From strip to strip: where a worth is reached. -/
def placeF (s : Int) (a : Rat) : List (Int × Int) → Rat → Rat
  | [], _ => (s : Rat)
  | z :: r, w => if w ≤ piece (s, s + z.1, z.2) a ((s + z.1 : Int) : Rat) then later a (s : Rat) + w / (z.2 : Rat) else placeF (s + z.1) a r (w - piece (s, s + z.1, z.2) a ((s + z.1 : Int) : Rat))
def place (l : List (Int × Int)) (a w : Rat) : Rat := if w = 0 then a else placeF 0 a l w

/-- What is asked of a place and a worth. -/
structure GoOk (a w : Rat) : Prop where
  a0 : 0 ≤ a
  a1 : a ≤ 1000
  w0 : 0 ≤ w
  w1 : w ≤ 3000
  d : a.den * w.den ≤ 1000000
/-- What is known of the worth that is left. -/
structure Left (a W : Rat) (s : Int) (w : Rat) : Prop where
  w0 : 0 < w
  w1 : w ≤ 3000
  d1 : (s : Rat) ≤ a → w.den ≤ W.den
  d2 : w.den ≤ a.den * W.den

theorem piece_end {a : Rat} {s l v : Int} (h1 : 1 ≤ l) (h2 : l ≤ 20) (h3 : 0 ≤ v) (h4 : v ≤ 20) :
    0 ≤ piece (s, s + l, v) a ((s + l : Int) : Rat) ∧ piece (s, s + l, v) a ((s + l : Int) : Rat) ≤ 400 ∧ (piece (s, s + l, v) a ((s + l : Int) : Rat)).den ≤ a.den ∧
    (a < (s : Rat) → (piece (s, s + l, v) a ((s + l : Int) : Rat)).den = 1) ∧ (((s + l : Int) : Rat) ≤ a → piece (s, s + l, v) a ((s + l : Int) : Rat) = 0) ∧
    (0 < piece (s, s + l, v) a ((s + l : Int) : Rat) → 0 < v) := by
  have da := a.den_pos
  have r1 : (1 : Rat) ≤ (l : Rat) := by exact_mod_cast h1
  have r2 : (l : Rat) ≤ 20 := by exact_mod_cast h2
  have r3 : (0 : Rat) ≤ (v : Rat) := by exact_mod_cast h3
  have r4 : (v : Rat) ≤ 20 := by exact_mod_cast h4
  have e1 : ((s + l : Int) : Rat) = (s : Rat) + (l : Rat) := Rat.intCast_add s l
  have es : sooner ((s + l : Int) : Rat) ((s + l : Int) : Rat) = ((s + l : Int) : Rat) := by unfold sooner; split <;> rfl
  obtain ⟨lo, hlo⟩ : ∃ x, x = later a (s : Rat) := ⟨_, rfl⟩
  have q3 : (s : Rat) ≤ lo := by rw [hlo, later_eq]; grind
  have q5 : a ≤ lo := by rw [hlo, later_eq]; grind
  have q6 : lo = a ∨ lo = (s : Rat) := by rw [hlo]; unfold later; split <;> simp
  have d3 : lo.den ≤ a.den := by
    rw [hlo]; unfold later; split
    · exact da
    · exact Nat.le_refl _
  by_cases hle : ((s + l : Int) : Rat) ≤ lo
  · have hp : piece (s, s + l, v) a ((s + l : Int) : Rat) = 0 := by
      unfold piece
      simp only [es, ← hlo, hle, if_true]
    rw [hp]
    exact ⟨by decide, by decide, da, fun _ => rfl, fun _ => rfl, fun h => absurd h (by decide)⟩
  · have hp : piece (s, s + l, v) a ((s + l : Int) : Rat) = (((s + l : Int) : Rat) - lo) * (v : Rat) := by
      unfold piece
      simp only [es, ← hlo, hle, if_false]
    have m1 : 0 ≤ (((s + l : Int) : Rat) - lo) * (v : Rat) := Rat.mul_nonneg (by grind) r3
    have m2 : (((s + l : Int) : Rat) - lo) * (v : Rat) ≤ (((s + l : Int) : Rat) - lo) * 20 := Rat.mul_le_mul_of_nonneg_left r4 (by grind)
    have dd : ((((s + l : Int) : Rat) - lo) * (v : Rat)).den ≤ lo.den := Nat.le_trans (den_mul_int_le _ _) (by have := den_sub_le ((s + l : Int) : Rat) lo; rw [Rat.den_intCast, Nat.one_mul] at this; exact this)
    rw [hp]
    refine ⟨m1, by grind, by omega, fun h => ?_, fun h => by grind, fun h => ?_⟩
    · have e : lo = (s : Rat) := by grind
      have e2 : lo.den = 1 := by rw [e]; rfl
      have := ((((s + l : Int) : Rat) - lo) * (v : Rat)).den_pos
      omega
    · rcases Int.lt_or_le 0 v with h0 | h0
      · exact h0
      · have : v = 0 := by omega
        subst this
        have e : (((0 : Int)) : Rat) = 0 := rfl
        rw [e, Rat.mul_zero] at h
        exact absurd h (by decide)

theorem left_step {a W w : Rat} {s l v : Int} (h1 : 1 ≤ l) (h2 : l ≤ 20) (h3 : 0 ≤ v) (h4 : v ≤ 20) (hL : Left a W s w) (_ : 1 ≤ W.den) (hn : ¬ w ≤ piece (s, s + l, v) a ((s + l : Int) : Rat)) :
    Left a W (s + l) (w - piece (s, s + l, v) a ((s + l : Int) : Rat)) := by
  obtain ⟨p1, p2, p3, p4, p5, -⟩ := piece_end (a := a) (s := s) h1 h2 h3 h4
  have e1 : ((s + l : Int) : Rat) = (s : Rat) + (l : Rat) := Rat.intCast_add s l
  have r1 : (1 : Rat) ≤ (l : Rat) := by exact_mod_cast h1
  obtain ⟨P, hP⟩ : ∃ x, x = piece (s, s + l, v) a ((s + l : Int) : Rat) := ⟨_, rfl⟩
  rw [← hP] at p1 p2 p3 p4 p5 hn ⊢
  have w0 := hL.w0
  have w1 := hL.w1
  refine ⟨by grind, by grind, fun h => ?_, ?_⟩
  · rw [p5 h]
    have : w - 0 = w := by grind
    rw [this]
    exact hL.d1 (by grind)
  · have hd := den_sub_le w P
    by_cases hs : (s : Rat) ≤ a
    · have := hL.d1 hs
      have m : w.den * P.den ≤ W.den * a.den := Nat.mul_le_mul this p3
      rw [Nat.mul_comm W.den] at m
      omega
    · rw [p4 (by grind), Nat.mul_one] at hd
      have := hL.d2
      omega
end Fl

theorem denI {a b : Nat} {n : Nat} (h : a * b ≤ n) : (a : Int) * (b : Int) ≤ (n : Int) := by rw [← Int.natCast_mul]; omega
/-- The numbers of one step of the search. -/
theorem left_facts {a W w : Rat} {s l v : Int} (h1 : 1 ≤ l) (h2 : l ≤ 20) (h3 : 0 ≤ v) (h4 : v ≤ 20) (hs0 : 0 ≤ s) (hs : s ≤ 200) (ha0 : 0 ≤ a) (ha1 : a ≤ 1000) (hd : a.den * W.den ≤ 1000000) (hL : Fl.Left a W s w) (P : Rat) (hP : P = Fl.piece (s, s + l, v) a ((s + l : Int) : Rat)) :
    PlaceOk a ((s + l : Int) : Rat) ∧ (0 ≤ w.num ∧ 0 ≤ P.num ∧ w.num ≤ 9223372036854775807 ∧ P.num ≤ 9223372036854775807 ∧ (w.den : Int) * (P.den : Int) ≤ 4000000000000000000) ∧ (¬ w ≤ P → SubOk w P) ∧
    (w ≤ P → 0 < v ∧ w.num ≤ 4000000000000000000 ∧ (w.den : Int) * v ≤ 4000000000000000000 ∧ PlusOk (Fl.later a (s : Rat)) (w / (v : Rat)) ∧ 0 ≤ a.num ∧ a.num ≤ 9223372036854775807 ∧ (a.den : Int) * (((s : Rat).den : Nat) : Int) ≤ 4000000000000000000) := by
  obtain ⟨p1, p2, p3, p4, p5, p6⟩ := Fl.piece_end (a := a) (s := s) h1 h2 h3 h4
  rw [← hP] at p1 p2 p3 p4 p5 p6
  have wd := W.den_pos
  have ad := a.den_pos
  have xd := w.den_pos
  have a6 : a.den ≤ 1000000 := Nat.le_trans (Nat.le_mul_of_pos_right _ wd) hd
  have w6 : w.den ≤ 1000000 := Nat.le_trans hL.d2 hd
  have w0 := hL.w0
  have ww1 := hL.w1
  have n1 := Fl.num_nonneg (x := w) (by grind)
  have n2 := Fl.num_nonneg p1
  have n3 := Fl.num_nonneg ha0
  have m1 := Fl.num_le (n := 3000) (x := w) hL.w1
  have m2 := Fl.num_le (n := 400) (x := P) p2
  have m3 := Fl.num_le (n := 1000) (x := a) ha1
  have dP : w.den * P.den ≤ 1000000 * 1000000 := Nat.mul_le_mul w6 (by omega)
  have dP' := denI dP
  refine ⟨⟨ha0, by exact_mod_cast (show (0 : Int) ≤ s + l by omega), by omega, by show s + l ≤ _; omega, by rw [Rat.den_intCast]; omega⟩, ⟨n1, n2, by omega, by omega, by omega⟩, fun hn => ⟨plusOk ⟨by grind, p1, by grind, by grind, by omega⟩, by grind⟩, fun hle => ?_⟩
  have hv := p6 (by grind)
  have r3 : (1 : Rat) ≤ (v : Rat) := by exact_mod_cast hv
  have hq0 : 0 ≤ w / (v : Rat) := by
    rw [Rat.div_def]
    exact Rat.mul_nonneg (by grind) (by have := (Rat.inv_pos (a := (v : Rat))).2 (by grind); grind)
  have hqv : w / (v : Rat) * (v : Rat) = w := Rat.div_mul_cancel (by grind)
  have hq1 : w / (v : Rat) ≤ 3000 := by
    have := Rat.mul_le_mul_of_nonneg_left r3 hq0
    have := hL.w1
    grind
  have hdv : (w / (v : Rat)).den ≤ w.den * v.toNat := by
    rw [← div_q w v hv, Rat.den_mkRat]
    have e : ((w.den : Int) * v).toNat = w.den * v.toNat := by
      obtain ⟨m, rfl⟩ := Int.eq_ofNat_of_zero_le (Int.le_of_lt hv)
      rw [← Int.natCast_mul, Int.toNat_natCast, Int.toNat_natCast]
    rw [e]
    split
    · exact Nat.mul_pos xd (by omega)
    · exact Nat.div_le_self _ _
  have hdv2 : (w / (v : Rat)).den ≤ 1000000 * 20 := Nat.le_trans hdv (Nat.mul_le_mul w6 (by omega))
  have hl0 : 0 ≤ Fl.later a (s : Rat) := by
    rw [Fl.later_eq]; grind
  have hl1 : Fl.later a (s : Rat) ≤ 3000 := by
    have : (s : Rat) ≤ ((200 : Int) : Rat) := Rat.intCast_le_intCast.2 hs
    have e : ((200 : Int) : Rat) = 200 := rfl
    rw [Fl.later_eq]; grind
  have hld : (Fl.later a (s : Rat)).den ≤ 1000000 := by
    unfold Fl.later; split
    · show 1 ≤ _; decide
    · exact a6
  have hdd : (Fl.later a (s : Rat)).den * (w / (v : Rat)).den ≤ 1000000 * (1000000 * 20) := Nat.mul_le_mul hld hdv2
  have hwv : (w.den : Int) * v ≤ 1000000 * 20 := Int.mul_le_mul (by omega) h4 (by omega) (by omega)
  refine ⟨hv, by omega, by omega, plusOk ⟨hl0, hq0, hl1, hq1, by omega⟩, n3, by omega, by rw [Rat.den_intCast]; omega⟩
end Go.Proofs.Ytemlfklipkpacaa

namespace Go.Proofs.Ytemlfklipkpacaa
open Go.RowKit
theorem run_eq_fr0 (x : Rat) (w : World) : (binOp BinOp.eql 89 (.agg #[.int .i64 x.num, .int .i64 x.den]) (.agg #[.int .i64 0, .int .i64 1])).run Try.prog w = .ok (.bool (decide (x = 0))) w := by
  have key : x = 0 ↔ x.num = 0 ∧ (x.den : Int) = 1 := by
    constructor
    · rintro rfl; exact ⟨rfl, rfl⟩
    · rintro ⟨h1, h2⟩; exact Rat.num_eq_zero.1 h1
  by_cases e1 : x.num = 0
  · by_cases e2 : (x.den : Int) = 1
    · have : x = 0 := key.2 ⟨e1, e2⟩
      simp [this, go_sem]
    · have : ¬ x = 0 := fun h => e2 (key.1 h).2
      have e2' : ¬ x.den = 1 := by omega
      simp [e1, e2, this, go_sem]
  · have : ¬ x = 0 := fun h => e1 (key.1 h).1
    simp [e1, this, go_sem]
theorem whole0_any (w : World) : Calls Try.prog 79 #[.int .i64 0] w fun e w' => e = .returned (.agg #[.int .i64 0, .int .i64 1]) ∧ Below w.heap.size w w' := whole_any 0 w
theorem infoSp3 : (Try.prog.info? 149).map (·.size) = some 3 := by kernel_rfl
/-- What holds after some of the operations of a region, in whatever order. -/
def SP6 (W0 : World) (p0 p1 p2 p3 p4 p5 p6 p7 p8 p10 p11 p12 p13 p14 p15 p16 p17 p18 p19 p20 p27 p28 p29 p30 p31 p32 p33 p34 p35 p36 p37 p38 p39 p40 p41 p42 p43 p44 p45 p46 p47 : Value) (b8 : Nat) (A T y : Int) (a P : Rat) (L : Array Bool) (AA : Act) (W : World) : Prop :=
  ∃ (l0 l1 l2 l3 l4 l5 l6 l7 : Bool) (v9 v21 v22 v23 v24 v25 v26 : Value) (g6 : Nat), L = #[l0, l1, l2, l3, l4, l5, l6, l7] ∧ AA = ⟨#[p0, p1, p2, p3, p4, p5, p6, p7, p8, v9, p10, p11, p12, p13, p14, p15, p16, p17, p18, p19, p20, v21, v22, v23, v24, v25, v26, p27, p28, p29, p30, p31, p32, p33, p34, p35, p36, p37, p38, p39, p40, p41, p42, p43, p44, p45, p46, p47], []⟩ ∧ Below W0.heap.size W0 W ∧
    (l0 = true → v21 = .agg #[.int .i64 A, .int .i64 T, .int .i64 y]) ∧ (l1 = true → v22 = .agg #[.int .i64 a.num, .int .i64 a.den]) ∧ (l2 = true → v23 = .pointer (some ⟨b8, 1, none⟩)) ∧ (l3 = true → v24 = .int .i64 T) ∧ (l4 = true → v25 = Fr (T : Rat)) ∧ (l5 = true → v26 = Fr P) ∧ (l6 = true → v9 = .pointer (some ⟨g6, 0, none⟩) ∧ W0.heap.size ≤ g6 ∧ ∃ c d, W.heap[g6]? = some (.cells #[c, d] 89 (0, 0))) ∧ ((l7 = true → l6 = true) ∧ (l7 = true → W.heap[g6]? = some (.cells #[.int .i64 P.num, .int .i64 P.den] 89 (0, 0))))

set_option maxRecDepth 100000 in
set_option maxHeartbeats 4000000 in
theorem place_any (l : List (Int × Int)) (a W : Rat) (ao : Option Addr) (n cap : Nat) (w : World) (hp : Pts w ao l) (hln : n = l.length) (hok : Fl.Ok l) (h1 : 1 ≤ l.length) (h6 : l.length ≤ 6) (hg : Fl.GoOk a W) :
    Calls Try.prog 80 #[.slice ao n cap, Fr a, Fr W] w fun e w' => e = .returned (Fr (Fl.place l a W)) ∧ Below w.heap.size w w' := by
  obtain ⟨R, hR⟩ : ∃ r, r = Fl.place l a W := ⟨_, rfl⟩
  rw [← hR]
  have HR := Lib.hid hR
  clear hR
  have Hn := Lib.hid hln
  have hn6 : n ≤ 6 := by omega
  have hn1 : 1 ≤ n := by omega
  clear hln
  have hA := below_alloc3 w (.cells #[.int .i64 a.num, .int .i64 a.den] 89) (.cells #[.int .i64 W.num, .int .i64 W.den] 89) (.cells #[.int .i64 0, .int .i64 0] 89)
  have hpA := hp.below hA
  have ra : (((w.alloc (.cells #[.int .i64 a.num, .int .i64 a.den] 89)).alloc (.cells #[.int .i64 W.num, .int .i64 W.den] 89)).alloc (.cells #[.int .i64 0, .int .i64 0] 89)).heap[w.heap.size]? = _ := (heap_alloc_old _ _ (by simp; try omega)).trans (heap_alloc2_old w _ _)
  have rb : (((w.alloc (.cells #[.int .i64 a.num, .int .i64 a.den] 89)).alloc (.cells #[.int .i64 W.num, .int .i64 W.den] 89)).alloc (.cells #[.int .i64 0, .int .i64 0] 89)).heap[w.heap.size + 1]? = _ := (heap_alloc_old _ _ (by simp; try omega)).trans (heap_alloc2_new w _ _)
  have rr := heap_alloc3 w (.cells #[.int .i64 a.num, .int .i64 a.den] 89) (.cells #[.int .i64 W.num, .int .i64 W.den] 89) (.cells #[.int .i64 0, .int .i64 0] 89)
  have hs0 : (((w.alloc (.cells #[.int .i64 a.num, .int .i64 a.den] 89)).alloc (.cells #[.int .i64 W.num, .int .i64 W.den] 89)).alloc (.cells #[.int .i64 0, .int .i64 0] 89)).heap.size = w.heap.size + 3 := by simp
  obtain ⟨W1, hW1⟩ : ∃ x, x = ((w.alloc (.cells #[.int .i64 a.num, .int .i64 a.den] 89)).alloc (.cells #[.int .i64 W.num, .int .i64 W.den] 89)).alloc (.cells #[.int .i64 0, .int .i64 0] 89) := ⟨_, rfl⟩
  rw [← hW1] at hA hpA ra rb rr hs0
  obtain ⟨⟨b0, b1⟩, -, -⟩ := row_fr rb
  have heq := run_eq_fr0 W
  go_enter Try.func80, Try.ntmps80
  go_wp2_with fail
  rw [← hW1]
  clear hW1
  go_region_held3 (fun w' => w'.cell? ⟨w.heap.size + 1, 0, none⟩ = some (.int .i64 W.num) ∧ w'.cell? ⟨w.heap.size + 1, 1, none⟩ = some (.int .i64 W.den))
    (first | exact ⟨b0, b1⟩ | exact ⟨keep_cell hb2 b0, keep_cell hb2 b1⟩)
    (first | (go_at_call 79; refine (whole0_any _).mono ?_; rintro e w2 ⟨rfl, hb2⟩))
  have hb2' : Below W1.heap.size W1 w2 := (below_drewN (Below.refl _ W1) 1).trans hb2
  have hB2 := hA.trans (hb2'.mono hA.size)
  have hp2 := hpA.below hb2'
  have ra2 := heap_keep hb2' ra
  have rb2 := heap_keep hb2' rb
  have rr2 := heap_keep hb2' rr
  have hs2 : w.heap.size + 3 ≤ w2.heap.size := by have := hb2'.size; omega
  clear hA hpA ra rb rr hs0 b0 b1 hb2 hb2' heq
  obtain ⟨bv, hbv⟩ : ∃ v, decide (W = 0) = v := ⟨_, rfl⟩
  rw [hbv]
  have Hbv := Lib.hid hbv
  clear hbv
  cases bv with
  | true =>
    have hr : Hid (R = a) := Lib.hid (by rw [HR.out]; unfold Fl.place; rw [if_pos (by simpa using Hbv.out)])
    obtain ⟨⟨c0, c1⟩, -, -⟩ := row_fr ra2
    obtain ⟨⟨d0, d1⟩, f0, f1⟩ := row_fr rr2
    go_wp2
    rw [hr.out]
    exact bodyPost_ret (results_cell_row rfl _ _ _ _ _ _ _ rfl (two_cells rr2 (.int .i64 a.num) (.int .i64 a.den)) Try.underlying89 rfl infoFr2) rfl ⟨rfl, below_setCell (below_setCell hB2 (by omega) _) (by omega) _⟩
  | false =>
    have hR2 : Fl.placeF 0 a l W = R := by rw [HR.out]; unfold Fl.place; rw [if_neg (by simpa using Hbv.out)]
    go_wp2_with fail
    refine (strips_any l _ _ _ _ hp2 Hn.out hok h6).mono ?_
    rintro e w3 ⟨v, rfl, hov, hb3⟩
    have hp3 := hp2.below hb3
    have ra3 := heap_keep hb3 ra2
    have rb3 := heap_keep hb3 rb2
    have rr3 := heap_keep hb3 rr2
    have hB3 := hB2.trans (hb3.mono hB2.size)
    obtain ⟨g, cap2, rfl, hgb, hgl, hgc, hcells⟩ := own_cells hov h1
    have Hc := Lib.hid hcells
    clear hov hcells hb3 ra2 rb2 rr2 hp2 hB2
    rw [← Hn.out] at hgc ⊢
    have hg3 : w.heap.size + 3 ≤ g := by omega
    go_wp2_with fail
    have hL0 : Fl.Left a W 0 W := ⟨by
        have := hg.w0
        have hne : ¬ W = 0 := by simpa using Hbv.out
        grind, hg.w1, fun _ => Nat.le_refl _, Nat.le_mul_of_pos_left _ a.den_pos⟩
    go_loopg [17] n (fun gk i wr => ∃ k : Nat, k ≤ n ∧ gk = n - k ∧ i = .int .i64 k ∧ ∃ wk : Rat, Hid (Fl.placeF (Fl.len (l.take k)) a (l.drop k) wk = R ∧ Fl.Left a W (Fl.len (l.take k)) wk) ∧ wr.heap[w.heap.size]? = some (.cells #[.int .i64 a.num, .int .i64 a.den] 89 (0, 0)) ∧ wr.heap[w.heap.size + 1]? = some (.cells #[.int .i64 wk.num, .int .i64 wk.den] 89 (0, 0)) ∧ wr.heap[w.heap.size + 1 + 1]? = some (.cells #[.int .i64 0, .int .i64 0] 89 (0, 0)) ∧ Hid (∀ j u, (flat3 (Fl.strips 0 l))[j]? = some u → wr.cell? ⟨g, j, none⟩ = some u) ∧ g < wr.heap.size ∧ Below w.heap.size w wr)
    case atStart => exact ⟨0, Nat.zero_le _, rfl, rfl, W, Lib.hid ⟨hR2, hL0⟩, ra3, rb3, rr3, Hc, hgl, hB3⟩
    case round =>
      clear ra3 rb3 rr3 Hc hgl hp3 hL0 hB3
      obtain ⟨k, hk, rfl, rfl, wk, HL, ra, rb, rr, Hc, hgl, hb⟩ := hrel
      by_cases hlt : k < n
      · have hkl : k < l.length := by have := Hn.out; omega
        have hks : k < (Fl.strips 0 l).length := by rw [strips_length]; exact hkl
        obtain ⟨q0, q1, q2⟩ := flat3_at hks
        have z0 := Hc.out _ _ q0
        have z1 := Hc.out _ _ q1
        have z2 := Hc.out _ _ q2
        rw [strips_at hkl, Int.zero_add] at z0 z1 z2
        have hst := Lib.hid (len_take hkl)
        have b1 := len_take_bound hok h6 k
        have b2 := ok_at hok hkl
        have hdr : Hid (l.drop k = l.getD k (0, 0) :: l.drop (k + 1)) := Lib.hid (by rw [List.drop_eq_getElem_cons hkl]; congr 1; simp [List.getD_eq_getElem?_getD, hkl])
        clear q0 q1 q2
        have i1 : (k : Int) < (n : Int) := by omega
        obtain ⟨A, hA⟩ : ∃ x, x = Fl.len (l.take k) := ⟨_, rfl⟩
        obtain ⟨z, hz⟩ : ∃ x, x = l.getD k (0, 0) := ⟨_, rfl⟩
        obtain ⟨x, y⟩ := z
        rw [← hA] at z0 z1 hst b1 HL
        rw [← hz] at z1 z2 hst b2 hdr
        simp only at z0 z1 z2 b2 hst
        clear hz hA
        obtain ⟨T, hT⟩ : ∃ t, t = A + x := ⟨_, rfl⟩
        rw [← hT] at z1 hst
        have HT := Lib.hid hT
        have bT : A ≤ T ∧ T ≤ 140 := by omega
        obtain ⟨P, hP⟩ : ∃ p, p = Fl.piece (A, T, y) a (T : Rat) := ⟨_, rfl⟩
        have hfac := left_facts b2.1 b2.2.1 b2.2.2.1 b2.2.2.2 b1.1 (by omega) hg.a0 hg.a1 hg.d HL.out.2 P (by rw [← hT]; exact hP)
        rw [← hT] at hfac
        clear hT
        have cSt : ∀ w6 : World, Calls Try.prog 132 #[.agg #[.int .i64 A, .int .i64 T, .int .i64 y], Fr a, Fr (T : Rat)] w6 fun e w' => e = .returned (Fr P) ∧ Below w6.heap.size w6 w' := fun w6 => by
          rw [hP]; exact strip_any A T y a _ w6 hfac.1 (by omega) (by omega) (by omega) (by omega) (by omega)
        have HP := Lib.hid hP
        have Hf := Lib.hid hfac
        clear hP hfac
        go_upto_region 6 with fail
        obtain ⟨W0, hW0⟩ : ∃ x0, x0 = wr.alloc (.cells #[.int .i64 A, .int .i64 T, .int .i64 y] 149) := ⟨_, rfl⟩
        have r8 : W0.heap[wr.heap.size]? = some (.cells #[.int .i64 A, .int .i64 T, .int .i64 y] 149 (0, 0)) := by rw [hW0]; exact heap_alloc_new wr _
        have hs0 : W0.heap.size = wr.heap.size + 1 := by rw [hW0]; simp
        have hb0 : Below wr.heap.size wr W0 := by rw [hW0]; exact (Below.refl _ wr).alloc (Nat.le_refl _) _
        rw [← hW0]
        clear hW0
        have ra0 := heap_keep hb0 ra
        go_cut [9, 17] from 17 to 44 (fun s9 s17 wx => ∃ g9 : Nat, s17 = .int .i64 k ∧ s9 = .pointer (some ⟨g9, 0, none⟩) ∧ W0.heap.size ≤ g9 ∧ wx.heap[g9]? = some (.cells #[.int .i64 P.num, .int .i64 P.den] 89 (0, 0)) ∧ Below W0.heap.size W0 wx)
        case first =>
          refine wp_region_inv (by kernel_rfl) (SP6 W0 _ _ _ _ _ _ _ _ _ _ _ _ _ _ _ _ _ _ _ _ _ _ _ _ _ _ _ _ _ _ _ _ _ _ _ _ _ _ _ _ _ wr.heap.size A T y a P) ⟨false, false, false, false, false, false, false, false, _, _, _, _, _, _, _, 0, rfl, rfl, below_drewN (Below.refl _ _) 1, nofun, nofun, nofun, nofun, nofun, nofun, nofun, ⟨nofun, nofun⟩⟩ ?_ ?_
          · rintro listed AA W ⟨l0, l1, l2, l3, l4, l5, l6, l7, v9, v21, v22, v23, v24, v25, v26, g6, rfl, rfl, hB, h0, h1, h2, h3, h4, h5, h6, ⟨hk7, h7⟩⟩ i hi
            have hm := List.mem_filter.1 hi
            have hlt : i < 8 := by simpa using hm.1
            have hm2 := hm.2
            clear hm hi
            have R8 := heap_keep hB r8
            have Ra := heap_keep hB ra0
            have s1 := cell_of_row W _ 1 _ _ _ R8
            simp at s1
            obtain rfl | rfl | rfl | rfl | rfl | rfl | rfl | rfl : i = 0 ∨ i = 1 ∨ i = 2 ∨ i = 3 ∨ i = 4 ∨ i = 5 ∨ i = 6 ∨ i = 7 := by omega
            all_goals simp [Region.binds] at hm2
            all_goals clear hlt
            all_goals refine wpOp_at rfl rfl ?_
            · have Hm := Lib.hid hm2
              clear hm2
              refine wp_load_row _ _ rfl _ rfl _ _ _ _ R8 Try.underlying149 rfl infoSp3 ?_
              exact ⟨_, _, _, _, _, _, _, _, _, _, _, _, _, _, _, g6, rfl, rfl, hB, fun _ => rfl, h1, h2, h3, h4, h5, h6, ⟨hk7, h7⟩⟩
            · have Hm := Lib.hid hm2
              clear hm2
              refine wp_load_row _ _ rfl _ rfl _ _ _ _ Ra Try.underlying89 rfl infoFr2 ?_
              exact ⟨_, _, _, _, _, _, _, _, _, _, _, _, _, _, _, g6, rfl, rfl, hB, h0, fun _ => rfl, h2, h3, h4, h5, h6, ⟨hk7, h7⟩⟩
            · have Hm := Lib.hid hm2
              clear hm2
              unfold Oper.wp
              go_simp
              exact ⟨_, _, _, _, _, _, _, _, _, _, _, _, _, _, _, g6, rfl, rfl, hB, h0, h1, fun _ => rfl, h3, h4, h5, h6, ⟨hk7, h7⟩⟩
            · have d2 : l2 = true := by simp [hm2]
              have q2 := h2 d2
              subst q2
              have Hm := Lib.hid hm2
              clear hm2 d2
              unfold Oper.wp
              go_simp
              exact ⟨_, _, _, _, _, _, _, _, _, _, _, _, _, _, _, g6, rfl, rfl, hB, h0, h1, h2, fun _ => rfl, h4, h5, h6, ⟨hk7, h7⟩⟩
            · have d3 : l3 = true := by simp [hm2]
              have q3 := h3 d3
              subst q3
              have Hm := Lib.hid hm2
              clear hm2 d3
              unfold Oper.wp
              go_simp
              refine (whole_any T W).mono ?_
              rintro e W' ⟨rfl, hb'⟩
              exact ⟨_, _, _, _, _, _, _, _, _, _, _, _, _, _, _, g6, rfl, rfl, hB.trans (hb'.mono hB.size), h0, h1, h2, h3, fun _ => rfl, h5, fun q => let ⟨e, hn, c, d, hh⟩ := h6 q; ⟨e, hn, c, d, heap_keep hb' hh⟩, ⟨hk7, fun q => heap_keep hb' (h7 q)⟩⟩
            · have d0 : l0 = true := by simp [hm2]
              have d1 : l1 = true := by simp [hm2]
              have d4 : l4 = true := by simp [hm2]
              have q0 := h0 d0
              have q1 := h1 d1
              have q4 := h4 d4
              subst q0
              subst q1
              subst q4
              have Hm := Lib.hid hm2
              clear hm2 d0 d1 d4
              unfold Oper.wp
              go_simp
              refine (cSt W).mono ?_
              rintro e W' ⟨rfl, hb'⟩
              exact ⟨_, _, _, _, _, _, _, _, _, _, _, _, _, _, _, g6, rfl, rfl, hB.trans (hb'.mono hB.size), h0, h1, h2, h3, h4, fun _ => rfl, fun q => let ⟨e, hn, c, d, hh⟩ := h6 q; ⟨e, hn, c, d, heap_keep hb' hh⟩, ⟨hk7, fun q => heap_keep hb' (h7 q)⟩⟩
            · have Hm := Lib.hid hm2
              clear hm2
              unfold Oper.wp
              go_simp
              have AL : Below W.heap.size W (W.alloc (.cells #[.int .i64 0, .int .i64 0] 89)) := (Below.refl _ W).alloc (Nat.le_refl _) _
              exact ⟨_, _, _, _, _, _, _, _, _, _, _, _, _, _, _, W.heap.size, rfl, rfl, hB.alloc hB.size _, h0, h1, h2, h3, h4, h5, fun _ => ⟨rfl, hB.size, _, _, heap_alloc_new W _⟩, ⟨fun _ => rfl, fun q => absurd (hk7 q) (by simp [Hm.out])⟩⟩
            · have d5 : l5 = true := by simp [hm2]
              have q5 := h5 d5
              subst q5
              have qa : l6 = true := by simp [hm2]
              obtain ⟨q3, hn, c, d, hh⟩ := h6 qa
              subst q3
              have Hm := Lib.hid hm2
              clear hm2 d5
              refine wp_store_row _ _ _ rfl _ #[.int .i64 P.num, .int .i64 P.den] rfl rfl _ _ hh infoFr2 rfl (fr_one _) ?_
              exact ⟨_, _, _, _, _, _, _, _, _, _, _, _, _, _, _, g6, rfl, rfl, below_setRow hB hn _, h0, h1, h2, h3, h4, h5, fun _ => ⟨rfl, hn, _, _, setRow_heap W _ _ _ _ _ hh⟩, ⟨fun _ => qa, fun _ => setRow_heap W _ _ _ _ _ hh⟩⟩
          · rintro listed AA W ⟨l0, l1, l2, l3, l4, l5, l6, l7, v9, v21, v22, v23, v24, v25, v26, g6, rfl, rfl, hB, h0, h1, h2, h3, h4, h5, h6, ⟨hk7, h7⟩⟩ hr
            have hr2 := fun i hi => List.filter_eq_nil_iff.1 hr i hi
            clear hr
            have k0 := hr2 0 (by simp)
            simp [Region.binds] at k0
            subst k0
            have k1 := hr2 1 (by simp)
            simp [Region.binds] at k1
            subst k1
            have k2 := hr2 2 (by simp)
            simp [Region.binds] at k2
            subst k2
            have k3 := hr2 3 (by simp)
            simp [Region.binds] at k3
            subst k3
            have k4 := hr2 4 (by simp)
            simp [Region.binds] at k4
            subst k4
            have k5 := hr2 5 (by simp)
            simp [Region.binds] at k5
            subst k5
            have k6 := hr2 6 (by simp)
            simp [Region.binds] at k6
            subst k6
            have k7 := hr2 7 (by simp)
            simp [Region.binds] at k7
            subst k7
            obtain ⟨rfl, n6, -⟩ := h6 rfl
            go_wp2_with fail
            go_meet
            case rel => exact ⟨g6, rfl, rfl, n6, h7 (by simp), hB⟩
        case rest =>
          obtain ⟨g9, rfl, rfl, hg9, r9, hbx⟩ := hcut
          have hbw : Below wr.heap.size wr wc := hb0.trans (hbx.mono hb0.size)
          have R8 := heap_at hbx (by omega) r8
          have raC := heap_keep hbw ra
          have rbC := heap_keep hbw rb
          have rrC := heap_keep hbw rr
          have HcC : Hid (∀ j u, (flat3 (Fl.strips 0 l))[j]? = some u → wc.cell? ⟨g, j, none⟩ = some u) := Lib.hid fun j u q => keep_cell hbw (Hc.out j u q)
          have hBC := hb.trans (hbw.mono hb.size)
          have hgl2 : g < wc.heap.size := by have := hbw.size; omega
          have hlw : w.heap.size + 3 ≤ wr.heap.size := by omega
          obtain ⟨⟨c0, c1⟩, -, -⟩ := row_fr rbC
          obtain ⟨⟨d0, d1⟩, -, -⟩ := row_fr r9
          clear hbx hbw ra rb rr Hc hgl hb hb0 r8 ra0
          have hcp := Hf.out.2.1
          go_wp2_with fail
          refine (compare_any wk P _ hcp.1 hcp.2.1 hcp.2.2.1 hcp.2.2.2.1 hcp.2.2.2.2).mono ?_
          rintro e w5 ⟨rfl, hb5⟩
          have R85 := heap_keep hb5 R8
          have ra5 := heap_keep hb5 raC
          have rb5 := heap_keep hb5 rbC
          have rr5 := heap_keep hb5 rrC
          have r95 := heap_keep hb5 r9
          have Hc5 : Hid (∀ j u, (flat3 (Fl.strips 0 l))[j]? = some u → w5.cell? ⟨g, j, none⟩ = some u) := Lib.hid fun j u q => keep_cell hb5 (HcC.out j u q)
          have hB5 := hBC.trans (hb5.mono hBC.size)
          have hgl5 : g < w5.heap.size := by have := hb5.size; omega
          clear hb5 R8 raC rbC rrC r9 HcC hBC c0 c1 d0 d1 hgl2 hcp
          have hpf := HL.out.1
          rw [hdr.out] at hpf
          unfold Fl.placeF at hpf
          simp only at hpf
          rw [← HT.out, ← HP.out] at hpf
          by_cases hle : wk ≤ P
          · have hc : Fl.cmpR wk P ≤ 0 := by unfold Fl.cmpR; split
                                             · omega
                                             · rw [if_neg (by grind)]; omega
            rw [if_pos hle] at hpf
            have HR2 := Lib.hid hpf
            clear hpf
            have hq := Hf.out.2.2.2 hle
            obtain ⟨t1, t2, t3, t4, t5, t6, t7⟩ := hq
            have HQ := Lib.hid (And.intro t1 (And.intro t2 (And.intro t3 (And.intro t4 (And.intro t5 (And.intro t6 t7))))))
            clear t2 t3 t4 t5 t6 t7
            obtain ⟨⟨a0, a1⟩, -, -⟩ := row_fr ra5
            obtain ⟨⟨x0, x1⟩, -, -⟩ := row_fr rb5
            have s0 := cell_of_row w5 _ 0 _ _ _ R85
            have s2 := cell_of_row w5 _ 2 _ _ _ R85
            simp at s0 s2
            go_wp2_with fail
            go_region_held3 (fun w' => w'.cell? ⟨w.heap.size, 0, none⟩ = some (.int .i64 a.num) ∧ w'.cell? ⟨w.heap.size, 1, none⟩ = some (.int .i64 a.den) ∧ w'.cell? ⟨wr.heap.size, 0, none⟩ = some (.int .i64 A) ∧ w'.cell? ⟨wr.heap.size, 2, none⟩ = some (.int .i64 y) ∧ w'.cell? ⟨w.heap.size + 1, 0, none⟩ = some (.int .i64 wk.num) ∧ w'.cell? ⟨w.heap.size + 1, 1, none⟩ = some (.int .i64 wk.den))
              (first
                | exact ⟨a0, a1, s0, s2, x0, x1⟩
                | exact ⟨cell_two_other _ _ (by omega) kd.1, cell_two_other _ _ (by omega) kd.2.1, cell_two_other _ _ (by omega) kd.2.2.1, cell_two_other _ _ (by omega) kd.2.2.2.1, cell_two_other _ _ (by omega) kd.2.2.2.2.1, cell_two_other _ _ (by omega) kd.2.2.2.2.2⟩
                | exact kd
                | exact kc
                | exact kb
                | exact ka)
              (first
                | (go_at_call 79; refine (whole_any A _).mono ?_; rintro e w6 ⟨rfl, hb6⟩; have ka := And.intro (keep_cell hb6 a0) (And.intro (keep_cell hb6 a1) (And.intro (keep_cell hb6 s0) (And.intro (keep_cell hb6 s2) (And.intro (keep_cell hb6 x0) (keep_cell hb6 x1))))); have rr6 := heap_keep hb6 rr5)
                | (go_at_call 137; refine (later_any a (A : Rat) _ HQ.out.2.2.2.2.1 b1.1 HQ.out.2.2.2.2.2.1 (by show A ≤ _; omega) HQ.out.2.2.2.2.2.2).mono ?_; rintro e w7 ⟨rfl, hb7⟩; have kb := And.intro (keep_cell hb7 ka.1) (And.intro (keep_cell hb7 ka.2.1) (And.intro (keep_cell hb7 ka.2.2.1) (And.intro (keep_cell hb7 ka.2.2.2.1) (And.intro (keep_cell hb7 ka.2.2.2.2.1) (keep_cell hb7 ka.2.2.2.2.2))))); have rr7 := heap_keep hb7 rr6)
                | (go_at_call 69; refine (over_any wk y _ Hf.out.2.1.1 HQ.out.1 HQ.out.2.1 HQ.out.2.2.1).mono ?_; rintro e w8 ⟨rfl, hb8⟩; have kc := And.intro (keep_cell hb8 kb.1) (And.intro (keep_cell hb8 kb.2.1) (And.intro (keep_cell hb8 kb.2.2.1) (And.intro (keep_cell hb8 kb.2.2.2.1) (And.intro (keep_cell hb8 kb.2.2.2.2.1) (keep_cell hb8 kb.2.2.2.2.2))))); have rr8 := heap_keep hb8 rr7)
                | (go_at_call 134; refine (plus_any (Fl.later a (A : Rat)) (wk / (y : Rat)) _ HQ.out.2.2.2.1).mono ?_; rintro e w9 ⟨rfl, hb9⟩; have kd := And.intro (keep_cell hb9 kc.1) (And.intro (keep_cell hb9 kc.2.1) (And.intro (keep_cell hb9 kc.2.2.1) (And.intro (keep_cell hb9 kc.2.2.2.1) (And.intro (keep_cell hb9 kc.2.2.2.2.1) (keep_cell hb9 kc.2.2.2.2.2))))); have rr9 := heap_keep hb9 rr8; obtain ⟨⟨z0, z1⟩, y0, y1⟩ := row_fr rr9))
            have hB6 : Below w.heap.size w w6 := (below_drewN hB5 1).trans (hb6.mono (by have := hB5.size; exact this))
            have hB7 := hB6.trans (hb7.mono hB6.size)
            have hB8 := hB7.trans (hb8.mono hB7.size)
            have hB9 := hB8.trans (hb9.mono hB8.size)
            go_wp2
            rw [← HR2.out]
            exact bodyPost_ret (results_cell_row rfl _ _ _ _ _ _ _ rfl (two_cells rr9 (.int .i64 (Fl.later a (A : Rat) + wk / (y : Rat)).num) (.int .i64 (Fl.later a (A : Rat) + wk / (y : Rat)).den)) Try.underlying89 rfl infoFr2) rfl ⟨rfl, below_setCell (below_setCell hB9 (by omega) _) (by omega) _⟩
          · have hc : Fl.cmpR wk P = 1 := by unfold Fl.cmpR; rw [if_neg (by grind), if_pos (by grind)]
            rw [if_neg hle] at hpf
            have hls : Fl.Left a W T (wk - P) := by
              have := Fl.left_step b2.1 b2.2.1 b2.2.2.1 b2.2.2.2 HL.out.2 W.den_pos (by rw [← HT.out, ← HP.out]; exact hle)
              rw [← HT.out, ← HP.out] at this
              exact this
            have HR2 := Lib.hid (And.intro hpf hls)
            have hsub := Lib.hid (Hf.out.2.2.1 hle)
            clear hpf hls
            rw [hc]
            obtain ⟨⟨x0, x1⟩, -, -⟩ := row_fr rb5
            obtain ⟨⟨d0, d1⟩, -, -⟩ := row_fr r95
            go_wp2_with fail
            refine (minus_any wk P _ hsub.out).mono ?_
            rintro e w6 ⟨rfl, hb6⟩
            have ra6 := heap_keep hb6 ra5
            have rb6 := heap_keep hb6 rb5
            have rr6 := heap_keep hb6 rr5
            have Hc6 : Hid (∀ j u, (flat3 (Fl.strips 0 l))[j]? = some u → w6.cell? ⟨g, j, none⟩ = some u) := Lib.hid fun j u q => keep_cell hb6 (Hc5.out j u q)
            have hB6 := hB5.trans (hb6.mono hB5.size)
            have hgl6 : g < w6.heap.size := by have := hb6.size; omega
            clear hb6 x0 x1 d0 d1 ra5 rb5 rr5 Hc5 r95 R85
            obtain ⟨⟨x0, x1⟩, f0, f1⟩ := row_fr rb6
            go_wp2_with fail
            go_roundg (n - (k + 1))
            case measure => omega
            case rel =>
              refine ⟨k + 1, by omega, rfl, by go_num, wk - P, Lib.hid ?_, ?_, two_cells rb6 _ _, ?_, Lib.hid fun j u q => cell_two_other _ _ (by omega) (Hc6.out j u q), ?_, below_setCell (below_setCell hB6 (by omega) _) (by omega) _⟩
              · rw [hst.out]; exact HR2.out
              · rw [heap_setCell_other _ _ _ _ (by show w.heap.size ≠ w.heap.size + 1; omega), heap_setCell_other _ _ _ _ (by show w.heap.size ≠ w.heap.size + 1; omega)]; exact ra6
              · rw [heap_setCell_other _ _ _ _ (by show w.heap.size + 1 + 1 ≠ w.heap.size + 1; omega), heap_setCell_other _ _ _ _ (by show w.heap.size + 1 + 1 ≠ w.heap.size + 1; omega)]; exact rr6
              · simpa [World.setCell] using hgl6
      · have hk2 : k = n := by omega
        have Hk := Lib.hid hk2
        clear hk2
        have hRl : Hid (R = (Fl.len l : Rat)) := Lib.hid (by
          have := HL.out.1
          rw [Hk.out, Hn.out, List.drop_length, List.take_length] at this
          exact this.symm)
        have hpw : Pts wr ao l := hp.below hb
        go_wp2_with fail
        refine (length_any l _ _ _ _ hpw Hn.out hok h6).mono ?_
        rintro e w6 ⟨rfl, hb6⟩
        have rr6 := heap_keep hb6 rr
        have hB6 := hb.trans (hb6.mono hb.size)
        clear hb6
        go_wp2_with fail
        refine (whole_any (Fl.len l) _).mono ?_
        rintro e w7 ⟨rfl, hb7⟩
        have rr7 := heap_keep hb7 rr6
        have hB7 := hB6.trans (hb7.mono hB6.size)
        clear hb7
        obtain ⟨⟨d0, d1⟩, f0, f1⟩ := row_fr rr7
        go_wp2
        rw [hRl.out]
        exact bodyPost_ret (results_cell_row rfl _ _ _ _ _ _ _ rfl (two_cells rr7 (.int .i64 (Fl.len l : Rat).num) (.int .i64 (Fl.len l : Rat).den)) Try.underlying89 rfl infoFr2) rfl ⟨rfl, below_setCell (below_setCell hB7 (by omega) _) (by omega) _⟩
end Go.Proofs.Ytemlfklipkpacaa

namespace Go.Proofs.Ytemlfklipkpacaa
open Go.RowKit
namespace Fl
/-- The places of worths, each from the one before on. -/
def cutsF (l : List (Int × Int)) (a : Rat) : List Rat → List Rat
  | [] => []
  | w :: r => place l a w :: cutsF l (place l a w) r
def CutOk (l : List (Int × Int)) (a : Rat) : List Rat → Prop
  | [] => True
  | w :: r => GoOk a w ∧ CutOk l (place l a w) r
end Fl
theorem infoRtAll : (Try.prog.info? 29).map (fun i => (i.zero, i.size, i.bytes)) = some (some (.agg #[.int .i64 0, .int .i64 0]), 2, 16) := by kernel_rfl
theorem info_rt : ∃ i, Try.prog.info? 29 = some i ∧ i.zero = some (.agg #[.int .i64 0, .int .i64 0]) ∧ i.size = 2 ∧ i.bytes = 16 := by
  have h := infoRtAll
  cases hi : Try.prog.info? 29 with
  | none => rw [hi] at h; cases h
  | some i =>
    rw [hi] at h
    simp only [Option.map_some, Option.some.injEq, Prod.mk.injEq] at h
    exact ⟨i, rfl, h.1, h.2.1, h.2.2⟩
theorem cutsF_length (l : List (Int × Int)) (a : Rat) (ws : List Rat) : (Fl.cutsF l a ws).length = ws.length := by
  induction ws generalizing a with
  | nil => rfl
  | cons w r ih => simp [Fl.cutsF, ih]

theorem own_mono {w : World} {base base' n size : Nat} {e : TypeId} {v : Value} {xs : List Value} (h : w.ownsRow base e size v n xs) (hb : base' ≤ base) : w.ownsRow base' e size v n xs := by
  refine ⟨h.1, ?_⟩
  rcases h.2 with h0 | ⟨g, cap, cur, rfl, hb0, r⟩
  · exact .inl h0
  · exact .inr ⟨g, cap, cur, rfl, by omega, r⟩
theorem Frs.take {w : World} {ao : Option Addr} {l : List Rat} (h : Frs w ao l) (m : Nat) : Frs w ao (l.take m) := by
  refine ⟨fun h0 => ?_⟩
  have hl : 0 < l.length := by simp at h0; omega
  obtain ⟨b, off, rfl, hlt, hc⟩ := Pts.cells h (by simpa using hl)
  refine ⟨b, off, rfl, hlt, fun i hi => ?_⟩
  have hi' : i < m ∧ i < l.length := by simp at hi; omega
  have := hc i (by simpa using hi'.2)
  have e : ((l.take m).map pr).getD i (0, 0) = (l.map pr).getD i (0, 0) := by
    simp [List.getD_eq_getElem?_getD, hi'.1]
  rw [e]
  exact this

set_option maxRecDepth 100000 in
set_option maxHeartbeats 4000000 in
theorem cut_any (l : List (Int × Int)) (ws : List Rat) (ao : Option Addr) (n cap : Nat) (ao2 : Option Addr) (m cap2 : Nat) (w : World) (hp : Pts w ao l) (hln : n = l.length) (hok : Fl.Ok l) (h1 : 1 ≤ l.length) (h6 : l.length ≤ 6)
    (hp2 : Frs w ao2 ws) (hlm : m = ws.length) (hm1 : 1 ≤ m) (hm : m ≤ 100) (hmc : m ≤ cap2) (hco : Fl.CutOk l 0 (ws.take (m - 1))) :
    Calls Try.prog 84 #[.slice ao n cap, .slice ao2 m cap2] w fun e w' => ∃ v, e = .returned v ∧ w'.ownsRow w.heap.size 29 2 v (m - 1) (flat2 ((Fl.cutsF l 0 (ws.take (m - 1))).map pr)) ∧ Below w.heap.size w w' := by
  obtain ⟨i0, hi0, hz0, hz1, hz2⟩ := info_rt
  obtain ⟨m1, rfl⟩ : ∃ m1, m = m1 + 1 := ⟨m - 1, by omega⟩
  have em : m1 + 1 - 1 = m1 := by omega
  rw [em] at hco ⊢
  clear em
  have Hn := Lib.hid hln
  have hp3 := hp2.take m1
  obtain ⟨us, hus⟩ : ∃ us, us = ws.take m1 := ⟨_, rfl⟩
  rw [← hus] at hp3 hco ⊢
  have hul : Hid (m1 = us.length) := Lib.hid (by rw [hus, List.length_take]; omega)
  clear hln hp2 hlm hus
  obtain ⟨C, hC⟩ : ∃ c, c = Fl.cutsF l 0 us := ⟨_, rfl⟩
  rw [← hC]
  have HC := Lib.hid hC
  clear hC
  have hao : Hid (0 < m1 → ∃ b off, ao2 = some ⟨b, off, none⟩) := Lib.hid fun h0 => by
    obtain ⟨b, off, e, _⟩ := hp3.at (k := 0) (by have := hul.out; omega)
    exact ⟨b, off, e⟩
  go_enter Try.func84, Try.ntmps84
  go_wp2_with fail
  refine (whole0_any _).mono ?_
  rintro e w1 ⟨rfl, hb1⟩
  have e1 : IntKind.i64.wrap ((m1 : Int) + 1 - 1) = (m1 : Int) := IntWalk.i64_in _ (by omega) |>.trans (by omega)
  go_wp2_with fail
  have hB2 : Below w.heap.size w (w1.alloc (.cells #[.int .i64 0, .int .i64 1] 89)) := hb1.alloc hb1.size _
  have r6 := heap_alloc_new w1 (.cells #[.int .i64 0, .int .i64 1] 89)
  have hs1 := hb1.size
  have hsz : (w1.alloc (.cells #[.int .i64 0, .int .i64 1] 89)).heap.size = w1.heap.size + 1 := by simp
  clear hb1
  generalize w1.alloc (.cells #[.int .i64 0, .int .i64 1] 89) = W2 at hB2 r6 hsz ⊢
  obtain ⟨G, hG⟩ : ∃ g, g = w1.heap.size := ⟨_, rfl⟩
  rw [← hG] at hs1 hsz r6 ⊢
  clear hG
  go_loopw [5, 16] (fun v i wr => ∃ k : Nat, k ≤ m1 ∧ i = .int .i64 k ∧ ∃ (ak : Rat) (done : List Rat), Hid (done ++ Fl.cutsF l ak (us.drop k) = C ∧ Fl.CutOk l ak (us.drop k)) ∧ Hid (wr.ownsRow (G + 1) 29 2 v k (flat2 (done.map pr))) ∧ wr.heap[G]? = some (.cells #[.int .i64 ak.num, .int .i64 ak.den] 89 (0, 0)) ∧ Below w.heap.size w wr ∧ G + 1 ≤ wr.heap.size) (fun _ i _ => m1 - (intOf i).toNat)
  case atStart => exact ⟨0, Nat.zero_le _, rfl, 0, [], Lib.hid ⟨HC.out.symm, hco⟩, Lib.hid ⟨rfl, .inl ⟨rfl, rfl⟩⟩, r6, hB2, by omega⟩
  case round =>
    clear r6 hB2 hsz
    obtain ⟨k, hk, rfl, ak, done, HD, hown, r6, hb, hs⟩ := hrel
    by_cases hlt : k < m1
    · have hku : k < us.length := by have := hul.out; omega
      obtain ⟨b, off, rfl, hbs, hc1, hc2⟩ := hp3.at hku
      rw [← hb.cell (p := ⟨b, _, none⟩) hbs] at hc1 hc2
      have i1 : (k : Int) < (m1 : Int) := by omega
      have hdr : us.drop k = us[k] :: us.drop (k + 1) := List.drop_eq_getElem_cons hku
      obtain ⟨x, hx⟩ : ∃ x, x = us[k] := ⟨_, rfl⟩
      rw [← hx] at hc1 hc2 hdr
      have hD := HD.out
      rw [hdr] at hD
      clear HD hdr hx
      obtain ⟨hD1, hgo, hco2⟩ := hD
      have HD := Lib.hid (And.intro hD1 hco2)
      clear hD1 hco2
      have hpw := hp.below hb
      have hbw : b < wr.heap.size := by have := hb.size; omega
      have hl6 := heap_lt r6
      obtain ⟨⟨c0, c1⟩, -, -⟩ := row_fr r6
      have hAb := (Below.refl _ wr).alloc (Nat.le_refl _) (.cells #[.int .i64 x.num, .int .i64 x.den] 89)
      have hpA := hpw.below hAb
      go_wp2_with fail
      refine (place_any l ak x _ _ _ _ hpA Hn.out hok h1 h6 hgo).mono ?_
      rintro e w5 ⟨rfl, hb5⟩
      obtain ⟨p, hp5⟩ : ∃ p, p = Fl.place l ak x := ⟨_, rfl⟩
      rw [← hp5]
      have HP := Lib.hid hp5
      clear hp5
      have hbb := hAb.trans (hb5.mono hAb.size)
      have r65 := heap_keep hbb r6
      have hown5 := own_below hown.out hbb
      have hB5 := hb.trans (hbb.mono hb.size)
      have hs5 : G + 1 ≤ w5.heap.size := by have := hbb.size; omega
      clear hb5 hAb hpA hpw hown r6 c0 c1 hbb
      obtain ⟨⟨c0, c1⟩, f0, f1⟩ := row_fr r65
      have r6n := two_cells r65 (.int .i64 p.num) (.int .i64 p.den)
      have hownn := ownsRow_setCell_below (ownsRow_setCell_below hown5 (a := ⟨G, 0, none⟩) (by show G < G + 1; omega) (.int .i64 p.num)) (a := ⟨G, 1, none⟩) (by show G < G + 1; omega) (.int .i64 p.den)
      have hBn := below_setCell (below_setCell hB5 hs1 (.int .i64 p.num) (o := 0)) hs1 (.int .i64 p.den) (o := 1)
      have hsn : G + 1 ≤ ((w5.setCell ⟨G, 0, none⟩ (.int .i64 p.num)).setCell ⟨G, 1, none⟩ (.int .i64 p.den)).heap.size := by simpa [World.setCell] using hs5
      obtain ⟨W6, hW6⟩ : ∃ x, x = (w5.setCell ⟨G, 0, none⟩ (.int .i64 p.num)).setCell ⟨G, 1, none⟩ (.int .i64 p.den) := ⟨_, rfl⟩
      rw [← hW6] at r6n hownn hBn hsn
      go_upto_region 7 with fail
      rw [← hW6]
      clear hW6 hown5 r65 c0 c1 f0 f1 hB5 hs5
      have hownn' := Lib.hid hownn
      clear hownn
      obtain ⟨⟨c0, c1⟩, -, -⟩ := row_fr r6n
      have hl6n := heap_lt r6n
      have ra6 := heap_keep ((Below.refl _ W6).alloc (Nat.le_refl _) (.cells #[.int .i64 p.num, .int .i64 p.den] 29)) r6n
      go_wp2_with (first | (at_builtin; refine wpList_append_own _ rfl _ _ 40 rfl (G + 1) 29 i0 (.agg #[.int .i64 0, .int .i64 0]) 2 16 Try.underlying40 hi0 hz0 hz1 hz2 rfl (by decide) _ k _ rfl (hownn'.out.alloc _) ⟨W6.heap.size, 0, none⟩ 1 1 [.int .i64 p.num, .int .i64 p.den] rfl rfl (World.news_of_block (cs := #[.int .i64 p.num, .int .i64 p.den]) (t := 29) (fr := (0, 0)) (heap_alloc_new W6 _)) (by simp [Value.oneCell']) (by unfold maxLen; omega) (by omega) (by simp; omega) ?_; intro v' w3 hown3 hgrow3 hnil3; have hb8 : Below w.heap.size w w3 := (hBn.alloc (by have := hBn.size; exact this) _).grown hgrow3 (by have := hBn.size; simp; omega) (fun q hq => by have := (hownn'.out.lt _ hq).1; omega); have hb9 : Below (G + 1) (W6.alloc (.cells #[.int .i64 p.num, .int .i64 p.den] 29)) w3 := (Below.refl _ _).grown hgrow3 (by simp; omega) (fun q hq => (hownn'.out.lt _ hq).1); clear hgrow3 hnil3))
      go_roundw
      case rel =>
        refine ⟨k + 1, by omega, by go_num, p, done ++ [p], Lib.hid ⟨?_, ?_⟩, Lib.hid ?_, (hb9.block G (by omega)).trans ra6, hb8, by have := hb9.size; simp at this; omega⟩
        · rw [← HD.out.1, List.append_assoc, HP.out]; rfl
        · rw [HP.out]; exact HD.out.2
        · rw [List.map_append, flat2_app]; exact hown3
      case measure => simp [intOf]; omega
    · have hk2 : k = m1 := by omega
      have Hk := Lib.hid hk2
      clear hk2
      go_wp2
      go_ret
      have hD := HD.out.1
      rw [Hk.out, hul.out, List.drop_length] at hD
      refine ⟨_, rfl, ?_, hb⟩
      have ho := hown.out
      rw [Hk.out] at ho
      have e : done = C := by rw [← hD]; simp [Fl.cutsF]
      rw [← e]
      exact own_mono ho (by omega)
end Go.Proofs.Ytemlfklipkpacaa

namespace Go.Proofs.Ytemlfklipkpacaa
open Go.RowKit
set_option maxRecDepth 100000 in
set_option maxHeartbeats 2000000 in
theorem mul64_one (c : Nat) (hc : 1 ≤ c) (hc8 : c ≤ 8) (w : World) : Calls Try.prog 163 #[.int .u64 1, .int .u64 c] w fun e w' => e = .returned (.tuple #[.int .u64 0, .int .u64 c]) ∧ w' = w := by
  obtain rfl | rfl | rfl | rfl | rfl | rfl | rfl | rfl : c = 1 ∨ c = 2 ∨ c = 3 ∨ c = 4 ∨ c = 5 ∨ c = 6 ∨ c = 7 ∨ c = 8 := by omega
  all_goals
    go_enter Try.func163, Try.ntmps163
    go_wp2
    go_ret2
    exact ⟨rfl, rfl⟩
set_option maxRecDepth 100000 in
set_option maxHeartbeats 2000000 in
theorem mul_one' (c : Nat) (hc : 1 ≤ c) (hc8 : c ≤ 8) (w : World) : Calls Try.prog 140 #[.int .u64 1, .int .u64 c] w fun e w' => e = .returned (.tuple #[.int .u64 0, .int .u64 c]) ∧ w' = w := by
  go_enter Try.func140, Try.ntmps140
  go_wp2_with (first | (go_at_call 163; refine (mul64_one c hc hc8 _).mono ?_; rintro e w' ⟨rfl, rfl⟩))
  go_ret2
  exact ⟨rfl, rfl⟩

/-- What Go's copy does to a row, whatever the size of an element. -/
theorem run_copy_sized {P : Program} (w : World) (dT sT ty elem : TypeId) (g o dLen dCap : Nat) (a : Addr) (sLen sCap sz : Nat) (cur : Array Value) (t : TypeId) (cs : List Value)
    (hu : P.underlying dT = some (.slice elem)) (hs : (P.info? elem).map (·.size) = some sz)
    (hg : w.heap[g]? = some (.cells cur t (0, 0))) (hn : cs.length = Nat.min sLen dLen * sz)
    (hsrc : ∀ j v, cs[j]? = some v → w.cell? (a.add j) = some v) (hfit : o + cs.length ≤ cur.size) (h1 : ∀ v ∈ cs, v.oneCell' = true) :
    (Builtin.copy_ #[dT, sT] ty #[.slice (some ⟨g, o, none⟩) dLen dCap, .slice (some a) sLen sCap]).run P w =
      .ok (goInt (Nat.min sLen dLen)) (w.setRow g (cur.toList.take o ++ cs ++ cur.toList.drop (o + cs.length)).toArray) := by
  have hl := run_loadCells_list (P := P) w a cs hsrc
  have hst := run_storeCells_at P g o t cs 0 cur w hg (by simpa using hfit) h1
  cases hq : P.info? elem with
  | none => simp [hq] at hs
  | some i =>
    have hi : i.size = sz := by simpa [hq] using hs
    simp [Builtin.copy_, run_underlying hu, Builtin.lenOf, Builtin.firstCells, sizeOf, typeInfo, hq, hi, ← hn, hl, hst]
theorem wpList_copy_sized {P : Program} {w : World} {ops : Array Oper} {rest : List Oper} {o : Oper} {a : Act} {Q : Exit → Act → World → Prop} (hgd : o.guard = none) (d s : Operand) (dT sT : TypeId)
    (ho : o.op = .call { callee := .builtin .copy, args := #[d, s], argTypes := #[dT, sT] }) (elem : TypeId) (hu : P.underlying dT = some (.slice elem)) (sz : Nat) (hsz : (P.info? elem).map (·.size) = some sz)
    (g off dLen dCap : Nat) (ad : Addr) (sLen sCap : Nat) (hd : a.eval d = .slice (some ⟨g, off, none⟩) dLen dCap) (hs : a.eval s = .slice (some ad) sLen sCap)
    (cur : Array Value) (t : TypeId) (hg : w.heap[g]? = some (.cells cur t (0, 0))) (cs : List Value) (hn : cs.length = Nat.min sLen dLen * sz)
    (hsrc : ∀ j v, cs[j]? = some v → w.cell? (ad.add j) = some v) (hfit : off + cs.length ≤ cur.size) (h1 : ∀ v ∈ cs, v.oneCell' = true)
    (h : ∀ w', w'.heap[g]? = some (.cells (cur.toList.take off ++ cs ++ cur.toList.drop (off + cs.length)).toArray t (0, 0)) → Below g w w' → wpList P ops Q rest (a.put o.dst (goInt (Nat.min sLen dLen))) w') : wpList P ops Q (o :: rest) a w := by
  refine wpList_plain hgd fun K hK => ?_
  have hrun := run_copy_sized (P := P) w dT sT o.type elem g off dLen dCap ad sLen sCap sz cur t cs hu hsz hg hn hsrc hfit h1
  have h2 := hK _ _ (h _ (setRow_heap w g _ _ t _ hg) (below_setRow (Below.refl _ _) (Nat.le_refl _) _))
  unfold Oper.wp
  simp [execOp, ho, resolve, invoke, builtin, hd, hs, hrun, Result.andThen]
  rw [Oper.upon_value]
  simpa using h2
theorem step_copy_sized {P : Program} {w : World} {ops : Array Oper} {o : Oper} {a : Act} {K : Act → World → Prop} {Q : Exit → Act → World → Prop} {E : Prop} (hgd : o.guard = none) (d s : Operand) (dT sT : TypeId)
    (ho : o.op = .call { callee := .builtin .copy, args := #[d, s], argTypes := #[dT, sT] }) (elem : TypeId) (hu : P.underlying dT = some (.slice elem)) (sz : Nat) (hsz : (P.info? elem).map (·.size) = some sz)
    (g off dLen dCap : Nat) (ad : Addr) (sLen sCap : Nat) (hd : a.eval d = .slice (some ⟨g, off, none⟩) dLen dCap) (hs : a.eval s = .slice (some ad) sLen sCap)
    (cur : Array Value) (t : TypeId) (hg : w.heap[g]? = some (.cells cur t (0, 0))) (cs : List Value) (m : Nat) (hm : m = Nat.min sLen dLen) (hn : cs.length = m * sz)
    (hsrc : ∀ j v, cs[j]? = some v → w.cell? (ad.add j) = some v) (hfit : off + cs.length ≤ cur.size) (h1 : ∀ v ∈ cs, v.oneCell' = true)
    (h : ∀ w', w'.heap[g]? = some (.cells (cur.toList.take off ++ cs ++ cur.toList.drop (off + cs.length)).toArray t (0, 0)) → Below g w w' → K (a.put o.dst (goInt m)) w') :
    if Region.wanted o (yielded ops a.tmps) = true then Oper.wp P o a w K Q else E := by
  have hw : Region.wanted o (yielded ops a.tmps) = true := by simp [Region.wanted, hgd]
  rw [if_pos hw]
  have hrun := run_copy_sized (P := P) w dT sT o.type elem g off dLen dCap ad sLen sCap sz cur t cs hu hsz hg (by rw [← hm]; exact hn) hsrc hfit h1
  have h2 := h _ (setRow_heap w g _ _ t _ hg) (below_setRow (Below.refl _ _) (Nat.le_refl _) _)
  rw [← hm] at hrun
  unfold Oper.wp
  simp [execOp, ho, resolve, invoke, builtin, hd, hs, hrun, Result.andThen]
  rw [Oper.upon_value]
  simpa using h2
theorem wpList_make {P : Program} {w : World} {ops : Array Oper} {rest : List Oper} {o : Oper} {a : Act} {Q : Exit → Act → World → Prop} (hgd : o.guard = none) (t : TypeId) (x y : Operand) (ho : o.op = .makeSlice t x y)
    (v1 v2 : Value) (hx : a.eval x = v1) (hy : a.eval y = v2) (v : Value) (w' : World) (hrun : (Instr.makeSlice t v1 v2).run P w = .ok v w') (h : wpList P ops Q rest (a.put o.dst v) w') : wpList P ops Q (o :: rest) a w := by
  refine wpList_plain hgd fun K hK => ?_
  have h2 := hK _ _ h
  unfold Oper.wp
  simp [execOp, ho, hx, hy, hrun, Result.andThen]
  exact h2

theorem flat2_one (L : List (Int × Int)) : ∀ v ∈ flat2 L, v.oneCell' = true := by
  intro v hv
  simp only [flat2, List.mem_flatMap] at hv
  obtain ⟨x, _, hv⟩ := hv
  simp only [List.mem_cons, List.not_mem_nil, or_false] at hv
  rcases hv with rfl | rfl <;> rfl
theorem add_off (b off j : Nat) : (⟨b, off, none⟩ : Addr).add j = ⟨b, off + j, none⟩ := by unfold Addr.add; split <;> simp_all

/-- A block whose beginning is the same fraction again and again. -/
def RepRow (w : World) (G c j : Nat) (x : Rat) : Prop :=
  ∃ cur, w.heap[G]? = some (.cells cur 89 (0, 0)) ∧ cur.size = c * 2 ∧ cur.toList.take (j * 2) = flat2 (List.replicate j (pr x))
theorem flat2_rep (j : Nat) (p : Int × Int) : (flat2 (List.replicate j p)).length = j * 2 := by rw [flat2_length, List.length_replicate]
theorem rep_next {cur : Array Value} {c j m : Nat} {x : Rat} (hs : cur.size = c * 2) (ht : cur.toList.take (j * 2) = flat2 (List.replicate j (pr x))) (hm : j + m ≤ c) :
    (cur.toList.take (j * 2) ++ flat2 (List.replicate m (pr x)) ++ cur.toList.drop (j * 2 + (flat2 (List.replicate m (pr x))).length)).toArray.size = c * 2 ∧
    (cur.toList.take (j * 2) ++ flat2 (List.replicate m (pr x)) ++ cur.toList.drop (j * 2 + (flat2 (List.replicate m (pr x))).length)).toArray.toList.take ((j + m) * 2) = flat2 (List.replicate (j + m) (pr x)) := by
  have hcl : cur.toList.length = c * 2 := by rw [Array.length_toList, hs]
  constructor
  · simp only [List.size_toArray, List.length_append, List.length_drop, flat2_rep, List.length_take, hcl]
    omega
  · have hl : (cur.toList.take (j * 2) ++ flat2 (List.replicate m (pr x))).length = (j + m) * 2 := by
      rw [List.length_append, flat2_rep, List.length_take, hcl]; omega
    show List.take _ (_ ++ _) = _
    rw [← hl, List.take_left, ht, ← flat2_app, List.replicate_append_replicate]
theorem rep_frs {w : World} {G c : Nat} {x : Rat} (h : RepRow w G c c x) : Frs w (some ⟨G, 0, none⟩) (List.replicate c x) := by
  obtain ⟨cur, hg, hs, ht⟩ := h
  refine ⟨fun h0 => ⟨G, 0, rfl, heap_lt hg, fun i hi => ?_⟩⟩
  rw [List.length_map, List.length_replicate] at hi
  have e : ((List.replicate c x).map pr).getD i (0, 0) = pr x := by simp [List.getD_eq_getElem?_getD, hi]
  rw [e, cell_of_row w G _ _ _ _ hg, cell_of_row w G _ _ _ _ hg, Nat.zero_add]
  have hL : i < (List.replicate c (pr x)).length := by simpa using hi
  obtain ⟨a1, a2⟩ := flat2_at hL
  rw [← ht, List.getElem?_take, if_pos (by omega)] at a1 a2
  rw [List.getElem_replicate] at a1 a2
  exact ⟨by simpa using a1, by simpa using a2⟩
theorem rep_src {w : World} {G c j m : Nat} {x : Rat} (h : RepRow w G c j x) (hm : m ≤ j) : ∀ i v, (flat2 (List.replicate m (pr x)))[i]? = some v → w.cell? ((⟨G, 0, none⟩ : Addr).add i) = some v := by
  obtain ⟨cur, hg, hs, ht⟩ := h
  intro i v hi
  have hil := (List.getElem?_eq_some_iff.1 hi).1
  rw [flat2_rep] at hil
  rw [add_off, Nat.zero_add, cell_of_row w G _ _ _ _ hg]
  have e : flat2 (List.replicate j (pr x)) = flat2 (List.replicate m (pr x)) ++ flat2 (List.replicate (j - m) (pr x)) := by
    rw [← flat2_app, List.replicate_append_replicate]; congr 2; omega
  have h2 : (flat2 (List.replicate j (pr x)))[i]? = some v := by rw [e, List.getElem?_append_left (by rw [flat2_rep]; exact hil)]; exact hi
  rw [← ht, List.getElem?_take, if_pos (by omega)] at h2
  simpa using h2

set_option maxRecDepth 100000 in
set_option maxHeartbeats 2000000 in
theorem repeat_any (x : Rat) (b off cap c : Nat) (w : World) (hc1 : 1 ≤ c) (hc8 : c ≤ 8) (hbs : b < w.heap.size) (hx0 : w.cell? ⟨b, off, none⟩ = some (.int .i64 x.num)) (hx1 : w.cell? ⟨b, off + 1, none⟩ = some (.int .i64 x.den)) :
    Calls Try.prog 87 #[.slice (some ⟨b, off, none⟩) 1 cap, .int .i64 c] w fun e w' => ∃ g, e = .returned (.slice (some ⟨g, 0, none⟩) c c) ∧ Frs w' (some ⟨g, 0, none⟩) (List.replicate c x) ∧ Below w.heap.size w w' := by
  obtain ⟨i0, hi0, hz0, hz1, hz2⟩ := info_fr
  go_enter Try.func87, Try.ntmps87
  have hmk : ∀ w0 : World, (Instr.makeSlice 104 (.int .i64 c) (.int .i64 c)).run Try.prog w0 = .ok (.slice (some ⟨w0.heap.size, 0, none⟩) c c) (w0.alloc (.cells (madeCells (Value.agg #[.int .i64 0, .int .i64 0]).cells (c * 2)) 89)) := fun w0 => by
    have h := run_make (P := Try.prog) w0 104 89 i0 _ Try.underlying104 hi0 hz0 .i64 .i64 c c (by omega) (Int.le_refl _) (by rw [hz2]; omega) (by omega)
    rw [Int.toNat_natCast, hz1] at h
    exact h
  have hsz : (madeCells (Value.agg #[.int .i64 0, .int .i64 0]).cells (c * 2)).size = c * 2 := size_madeCells _ _
  generalize madeCells (Value.agg #[.int .i64 0, .int .i64 0]).cells (c * 2) = cur0 at hmk hsz
  have hg0 := heap_alloc_new w (.cells cur0 89)
  have hx0' : (w.alloc (.cells cur0 89)).cell? ⟨b, off, none⟩ = some (.int .i64 x.num) := by rw [World.cell?_alloc_past _ b off hbs]; exact hx0
  have hx1' : (w.alloc (.cells cur0 89)).cell? ⟨b, off + 1, none⟩ = some (.int .i64 x.den) := by rw [World.cell?_alloc_past _ b (off + 1) hbs]; exact hx1
  have hB1 : Below w.heap.size w (w.alloc (.cells cur0 89)) := (Below.refl _ w).alloc (Nat.le_refl _) _
  go_wp2_with (first | (go_at_call 140; refine (mul_one' c hc1 hc8 _).mono ?_; rintro e w' ⟨rfl, rfl⟩) | (at_make; refine wpList_make rfl _ _ _ rfl (.int .i64 c) (.int .i64 c) rfl rfl _ _ (hmk _) ?_) | ((with_reducible refine wpList_copy_sized rfl _ _ _ _ rfl 89 ?hu 2 ?hsz ?g ?off ?dLen ?dCap ?ad ?sLen ?sCap ?hd ?hs ?cur ?t ?hg (flat2 (List.replicate 1 (pr x))) ?hn ?hsrc ?hfit ?h1 ?h)))
  case hd => exact rfl
  case hs => exact rfl
  case hu => exact Try.underlying104
  case hsz => exact infoFr2
  case hg => exact hg0
  case hn => rw [flat2_rep, show Nat.min 1 c = 1 from Nat.min_eq_left hc1]
  case hsrc =>
    intro j v hj
    have hjl := (List.getElem?_eq_some_iff.1 hj).1
    rw [flat2_rep] at hjl
    rw [add_off]
    obtain rfl | rfl : j = 0 ∨ j = 1 := by omega
    · have : some (Value.int .i64 x.num) = some v := hj
      rw [← Option.some.inj this]; exact hx0'
    · have : some (Value.int .i64 (x.den : Int)) = some v := hj
      rw [← Option.some.inj this]; exact hx1'
  case hfit => rw [flat2_rep, hsz]; omega
  case h1 => exact flat2_one _
  case h =>
    intro w3 hw3 hb3
    have hrn := rep_next (c := c) (j := 0) (m := 1) (x := x) hsz rfl (by omega)
    have hR : RepRow w3 w'.heap.size c 1 x := ⟨_, hw3, by simpa using hrn.1, by simpa using hrn.2⟩
    have hB3 : Below w'.heap.size w' w3 := hB1.trans hb3
    obtain ⟨G, hG⟩ : ∃ g, g = w'.heap.size := ⟨_, rfl⟩
    rw [← hG] at hR ⊢
    have hGle : w'.heap.size ≤ G := by omega
    have hm1 : Nat.min 1 c = 1 := Nat.min_eq_left hc1
    rw [hm1]
    have hg1 : Value.int .i64 ((1 : Nat) : Int) = .int .i64 1 := rfl
    rw [hg1]
    clear hg1
    clear hw3 hb3 hrn hg0 hsz hB1 hx0' hx1' hmk hG hm1
    have HB := Lib.hid hB3
    clear hB3
    go_wp2_with fail
    go_loopw [8] (fun n wr => ∃ j : Nat, 1 ≤ j ∧ j ≤ c ∧ n = .int .i64 j ∧ RepRow wr G c j x ∧ Below w'.heap.size w' wr) (fun n _ => c - (intOf n).toNat)
    case atStart => exact ⟨1, Nat.le_refl _, hc1, rfl, hR, HB.out⟩
    case round =>
      obtain ⟨j, hj1, hj, rfl, hRj, hb⟩ := hrel
      by_cases hlt : j < c
      · have i1 : (j : Int) < (c : Int) := by omega
        obtain ⟨m, hm⟩ : ∃ m, m = Nat.min j (c - j) := ⟨_, rfl⟩
        have hmb : 1 ≤ m ∧ m ≤ j ∧ j + m ≤ c := by rw [hm]; simp only [Nat.min_def]; split <;> omega
        have Hm := Lib.hid hm
        clear hm
        obtain ⟨cur, hcg, hcs, hct⟩ := hRj
        have hRj' : RepRow wr G c j x := ⟨cur, hcg, hcs, hct⟩
        go_wp2_with fail
        have hcd : wr.drew.heap[G]? = some (.cells cur 89 (0, 0)) := hcg
        have hRd : RepRow wr.drew G c j x := hRj'
        have hrn := Lib.hid (rep_next (m := m) hcs hct hmb.2.2)
        have hjm : IntKind.i64.wrap ((j : Int) + (m : Int)) = (j : Int) + (m : Int) := IntWalk.i64_in _ (by omega)
        have hrun := run_copy_sized (P := Try.prog) wr.drew 104 104 3 89 G (j * 2) (c - j) (c - j) ⟨G, 0, none⟩ j c 2 cur 89 (flat2 (List.replicate m (pr x))) Try.underlying104 infoFr2 hcd (by rw [flat2_rep, Hm.out]) (rep_src hRd hmb.2.1) (by rw [flat2_rep, hcs]; omega) (flat2_one _)
        rw [← Hm.out] at hrun
        have hset := setRow_heap wr.drew G _ (cur.toList.take (j * 2) ++ flat2 (List.replicate m (pr x)) ++ cur.toList.drop (j * 2 + (flat2 (List.replicate m (pr x))).length)).toArray _ _ hcd
        have hbs6 : Below w'.heap.size w' (wr.drew.setRow G (cur.toList.take (j * 2) ++ flat2 (List.replicate m (pr x)) ++ cur.toList.drop (j * 2 + (flat2 (List.replicate m (pr x))).length)).toArray) := below_setRow (below_drewN hb 1) hGle _
        have hR6 : RepRow (wr.drew.setRow G (cur.toList.take (j * 2) ++ flat2 (List.replicate m (pr x)) ++ cur.toList.drop (j * 2 + (flat2 (List.replicate m (pr x))).length)).toArray) G c (j + m) x := ⟨_, hset, hrn.out.1, hrn.out.2⟩
        generalize wr.drew.setRow G (cur.toList.take (j * 2) ++ flat2 (List.replicate m (pr x)) ++ cur.toList.drop (j * 2 + (flat2 (List.replicate m (pr x))).length)).toArray = W6 at hrun hbs6 hR6
        have hgi : goInt m = .int .i64 m := rfl
        rw [hgi] at hrun
        clear hset hgi hcd hRd hcg
        have HR6 := Lib.hid (And.intro hR6 hbs6)
        clear hR6 hbs6
        go_region_held3 (fun _ => True) (exact trivial) (fail)
        go_wp2_with fail
        go_roundw
        case rel => exact ⟨j + m, by omega, hmb.2.2, by first | rfl | (congr 1; omega) | simp, HR6.out.1, HR6.out.2⟩
        case measure => simp [intOf]; omega
      · have hk2 : j = c := by omega
        have hRc : RepRow wr G c c x := by rw [hk2] at hRj; exact hRj
        have Hk := Lib.hid hk2
        clear hk2
        go_wp2
        go_ret
        exact ⟨G, rfl, rep_frs hRc, hb⟩
end Go.Proofs.Ytemlfklipkpacaa

namespace Go.Proofs.Ytemlfklipkpacaa
open Go.RowKit

/-- The worths of so many equal pieces, but for the last one. -/
def eachs (l : List (Int × Int)) (p : Nat) : List Rat := List.replicate (p - 1) ((Fl.tot l : Rat) / ((p : Int) : Rat))

set_option maxRecDepth 100000 in
set_option maxHeartbeats 2000000 in
theorem equal_ok (l : List (Int × Int)) (p : Nat) (ao : Option Addr) (n cap : Nat) (w : World) (hp : Pts w ao l) (hln : n = l.length) (hn : n ≤ 100000) (hv : Fl.validate l = 0) (hp1 : 1 ≤ p) (hp8 : p ≤ 8) (hco : Fl.CutOk l 0 (eachs l p)) :
    Calls Try.prog 33 #[.slice ao n cap, .int .i64 p] w fun e w' => ∃ v, e = .returned (.tuple #[v, .int .i64 0]) ∧ w'.ownsRow w.heap.size 29 2 v (p - 1) (flat2 ((Fl.cutsF l 0 (eachs l p)).map pr)) ∧ Below w.heap.size w w' := by
  have Hn := Lib.hid hln
  clear hln
  have hok := Fl.validate_ok.1 hv
  have Hv := Lib.hid hv
  clear hv
  have htb := Fl.tot_bound hok.2
  obtain ⟨E, hE⟩ : ∃ e, e = (Fl.tot l : Rat) / ((p : Int) : Rat) := ⟨_, rfl⟩
  have heq : eachs l p = (List.replicate p E).take (p - 1) := by
    unfold eachs
    rw [← hE, List.take_replicate, Nat.min_eq_left (by omega)]
  rw [heq] at hco ⊢
  clear heq
  go_enter Try.func33, Try.ntmps33
  go_wp2_with fail
  refine (validate_any l _ _ _ _ hp Hn.out hn).mono ?_
  rintro e w1 ⟨rfl, hb1⟩
  rw [Hv.out]
  have hp2 := hp.below hb1
  clear hp
  go_wp2_with fail
  refine (worthAll_any l _ _ _ _ hp2 Hn.out hok.2 hok.1.1 hok.1.2).mono ?_
  rintro e w2 ⟨rfl, hb2⟩
  have hp3 := hp2.below hb2
  have hB2 := hb1.trans (hb2.mono hb1.size)
  clear hp2 hb2 hb1
  go_wp2_with fail
  refine (over_any (Fl.tot l : Rat) (p : Int) _ (by show 0 ≤ Fl.tot l; omega) (by omega) (by show Fl.tot l ≤ _; omega) (by rw [Rat.den_intCast]; omega)).mono ?_
  rintro e w3 ⟨rfl, hb3⟩
  rw [← hE]
  have HE := Lib.hid hE
  clear hE
  have hp4 := hp3.below hb3
  have hB3 := hB2.trans (hb3.mono hB2.size)
  clear hp3 hb3 hB2
  have ha2 : Below w3.heap.size w3 ((w3.alloc (.cells #[.int .i64 E.num, .int .i64 E.den] 89)).alloc (.cells #[.int .i64 E.num, .int .i64 E.den] 89)) := below_alloc2 w3 _ _
  have hp5 := hp4.below ha2
  have hB4 := hB3.trans (ha2.mono hB3.size)
  have rE := heap_alloc2_new w3 (.cells #[.int .i64 E.num, .int .i64 E.den] 89) (.cells #[.int .i64 E.num, .int .i64 E.den] 89)
  have hq0 := cell_of_row _ _ 0 _ _ _ rE
  have hq1 := cell_of_row _ _ 1 _ _ _ rE
  have hlt := heap_lt rE
  have HQ := Lib.hid (And.intro hp5 (And.intro hB4 (And.intro hq0 (And.intro hq1 hlt))))
  clear hp4 ha2 hp5 hB4 hB3 hq0 hq1 hlt rE
  go_wp2_with fail
  refine (repeat_any E _ 0 1 p _ hp1 hp8 HQ.out.2.2.2.2 HQ.out.2.2.1 HQ.out.2.2.2.1).mono ?_
  rintro e w5 ⟨g, rfl, hfr, hb5⟩
  have hp6 := HQ.out.1.below hb5
  have hB5 := HQ.out.2.1.trans (hb5.mono HQ.out.2.1.size)
  clear hb5 HQ
  go_wp2_with fail
  refine (cut_any l (List.replicate p E) _ _ _ _ _ _ _ hp6 Hn.out hok.2 hok.1.1 hok.1.2 hfr (by rw [List.length_replicate]) hp1 (by omega) (Nat.le_refl _) hco).mono ?_
  rintro e w6 ⟨v, rfl, hown, hb6⟩
  have hB6 := hB5.trans (hb6.mono hB5.size)
  have Hown := Lib.hid (own_mono hown hB5.size)
  clear hown
  go_wp2
  go_ret2
  exact ⟨v, rfl, Hown.out, hB6⟩

/-- '!=' of two fractions. -/
theorem run_neq_rt (a1 a2 b1 b2 : Int) (w : World) : (binOp BinOp.neq 29 (.agg #[.int .i64 a1, .int .i64 a2]) (.agg #[.int .i64 b1, .int .i64 b2])).run Try.prog w = .ok (.bool (!(decide ((a1, a2) = (b1, b2))))) w := by
  by_cases e1 : a1 = b1
  · subst e1
    by_cases e2 : a2 = b2
    · simp [e2, go_sem]
    · simp [e2, go_sem]
  · simp [e1, go_sem]
theorem run_eq_rt (a1 a2 b1 b2 : Int) (w : World) : (binOp BinOp.eql 29 (.agg #[.int .i64 a1, .int .i64 a2]) (.agg #[.int .i64 b1, .int .i64 b2])).run Try.prog w = .ok (.bool (decide ((a1, a2) = (b1, b2)))) w := by
  by_cases e1 : a1 = b1
  · subst e1
    by_cases e2 : a2 = b2
    · simp [e2, go_sem]
    · simp [e2, go_sem]
  · simp [e1, go_sem]

theorem pts_at {w : World} {ao : Option Addr} {l : List (Int × Int)} (h : Pts w ao l) {k : Nat} (hk : k < l.length) :
    ∃ b off, ao = some ⟨b, off, none⟩ ∧ b < w.heap.size ∧ w.cell? ⟨b, off + k * 2, none⟩ = some (.int .i64 (l[k]).1) ∧ w.cell? ⟨b, off + k * 2 + 1, none⟩ = some (.int .i64 (l[k]).2) := by
  obtain ⟨b, off, rfl, hlt, hc⟩ := h.cells (by omega)
  have := hc k hk
  rw [List.getD_eq_getElem?_getD, List.getElem?_eq_getElem hk] at this
  exact ⟨b, off, rfl, hlt, this.1, this.2⟩

theorem list_ne {k1 k2 : List (Int × Int)} {k : Nat} (h1 : k < k1.length) (h2 : k < k2.length) (h : k1[k] ≠ k2[k]) : decide (k1 = k2) = false := by
  rw [decide_eq_false_iff_not]; rintro rfl; exact h rfl

set_option maxRecDepth 100000 in
set_option maxHeartbeats 2000000 in
theorem sameRats_any (l1 l2 : List (Int × Int)) (ao1 : Option Addr) (n1 c1 : Nat) (ao2 : Option Addr) (n2 c2 : Nat) (w : World) (h1 : Pts w ao1 l1) (h2 : Pts w ao2 l2) (e1 : n1 = l1.length) (e2 : n2 = l2.length) (hn1 : n1 ≤ 100000) (_ : n2 ≤ 100000) :
    Calls Try.prog 31 #[.slice ao1 n1 c1, .slice ao2 n2 c2] w fun e w' => e = .returned (.bool (decide (l1 = l2))) ∧ Below w.heap.size w w' := by
  have E1 := Lib.hid e1
  have E2 := Lib.hid e2
  clear e1 e2
  obtain ⟨R, hR⟩ : ∃ r, r = decide (l1 = l2) := ⟨_, rfl⟩
  rw [← hR]
  have HR := Lib.hid hR
  clear hR
  by_cases hne : n1 = n2
  · have hne2 : ((n1 : Int) != (n2 : Int)) = false := by simp [hne]
    have HN := Lib.hid hne
    clear hne
    go_enter Try.func31, Try.ntmps31
    go_wp2_with fail
    go_loopw [5] (fun i wr => ∃ k : Nat, k ≤ n1 ∧ i = .int .i64 k ∧ Below w.heap.size w wr ∧ Hid (∀ j (q1 : j < l1.length) (q2 : j < l2.length), j < k → l1[j] = l2[j])) (fun i _ => n1 - (intOf i).toNat)
    case atStart => exact ⟨0, Nat.zero_le _, rfl, Below.refl _ _, Lib.hid fun j _ _ hj => by omega⟩
    case round =>
      obtain ⟨k, hk, rfl, hb, hall⟩ := hrel
      by_cases hlt : k < n1
      · have k1 : k < l1.length := by have := E1.out; omega
        have k2 : k < l2.length := by have := E2.out; have := HN.out; omega
        obtain ⟨b, off, rfl, hbs, p1, p2⟩ := pts_at h1 k1
        obtain ⟨b2, off2, rfl, hbs2, q1, q2⟩ := pts_at h2 k2
        rw [← hb.cell (p := ⟨b, _, none⟩) hbs] at p1 p2
        rw [← hb.cell (p := ⟨b2, _, none⟩) hbs2] at q1 q2
        have i1 : (k : Int) < (n1 : Int) := by omega
        have i2 : (k : Int) < (n2 : Int) := by have := HN.out; omega
        obtain ⟨x, hx⟩ : ∃ x, x = l1[k] := ⟨_, rfl⟩
        obtain ⟨y, hy⟩ : ∃ y, y = l2[k] := ⟨_, rfl⟩
        obtain ⟨xa, xb⟩ := x
        obtain ⟨ya, yb⟩ := y
        rw [← hx] at p1 p2
        rw [← hy] at q1 q2
        simp only at p1 p2 q1 q2
        have Hx := Lib.hid hx
        have Hy := Lib.hid hy
        clear hx hy h1 h2
        have heq := run_neq_rt xa xb ya yb
        obtain ⟨bv, hbv⟩ : ∃ v, (decide ((xa, xb) = (ya, yb))) = v := ⟨_, rfl⟩
        rw [hbv] at heq
        have Hbv := Lib.hid hbv
        clear hbv
        go_wp2_with fail
        go_quiet (fail)
        clear heq
        cases bv with
        | true =>
          have hE : (xa, xb) = (ya, yb) := by simpa using Hbv.out
          have HE := Lib.hid hE
          clear hE
          go_wp2_with fail
          go_roundw
          case rel =>
            refine ⟨k + 1, by omega, by go_num, below_drewN hb _, Lib.hid fun j q1 q2 hj => ?_⟩
            by_cases e : j = k
            · subst e; rw [← Hx.out, ← Hy.out]; exact HE.out
            · exact hall.out j q1 q2 (by omega)
          case measure => simp [intOf]; omega
        | false =>
          have hE : (xa, xb) ≠ (ya, yb) := by simpa using Hbv.out
          have hr : Hid (R = false) := Lib.hid (by rw [HR.out]; exact list_ne k1 k2 (by rw [← Hx.out, ← Hy.out]; exact hE))
          clear hE
          go_wp2_with fail
          go_ret
          exact ⟨ret_bool hr.out.symm, below_drewN hb _⟩
      · have hk2 : k = n1 := by omega
        have Hk := Lib.hid hk2
        clear hk2
        have hr : Hid (R = true) := Lib.hid (by
          rw [HR.out, decide_eq_true_iff]
          refine List.ext_getElem (by rw [← E1.out, ← E2.out, HN.out]) fun j q1 q2 => hall.out j q1 q2 (by rw [Hk.out, E1.out]; exact q1))
        go_wp2_with fail
        go_ret
        exact ⟨ret_bool hr.out.symm, hb⟩
  · have hne2 : ((n1 : Int) != (n2 : Int)) = true := by simp; omega
    have hr : Hid (R = false) := Lib.hid (by
      rw [HR.out, decide_eq_false_iff_not]; rintro rfl; exact hne (by rw [E1.out, E2.out]))
    go_enter Try.func31, Try.ntmps31
    go_wp2_with fail
    go_ret
    exact ⟨ret_bool hr.out.symm, Below.refl _ _⟩
end Go.Proofs.Ytemlfklipkpacaa

namespace Go.Proofs.Ytemlfklipkpacaa
open Go.RowKit
namespace Fl
def dearStep (l : List (Int × Int)) (size : Int) (s : Int × Rat) (k : Nat) : Int × Rat :=
  if s.2 < worth l ((k + 1 : Int) : Rat) ((k + 1 + size : Int) : Rat) then ((k + 1 : Int), worth l ((k + 1 : Int) : Rat) ((k + 1 + size : Int) : Rat)) else s
/-- The smallest whole place from which a piece is worth most, and this worth. -/
def dear (l : List (Int × Int)) (size : Int) : Int × Rat := (List.range (len l - size).toNat).foldl (dearStep l size) (0, worth l ((0 : Int) : Rat) (size : Rat))
end Fl

theorem whole_place {a b : Int} (h0 : 0 ≤ a) (h1 : a ≤ 1000) (h2 : 0 ≤ b) (h3 : b ≤ 1000) : PlaceOk (a : Rat) (b : Rat) :=
  ⟨by exact_mod_cast h0, by exact_mod_cast h2, by show a ≤ _; omega, by show b ≤ _; omega, by show 1 * 1 ≤ _; decide⟩
theorem worth_int {l : List (Int × Int)} (hok : Fl.Ok l) (h6 : l.length ≤ 6) {a b : Int} (h0 : 0 ≤ a) (h1 : a ≤ 1000) (h2 : 0 ≤ b) (h3 : b ≤ 1000) :
    0 ≤ (Fl.worth l (a : Rat) (b : Rat)).num ∧ (Fl.worth l (a : Rat) (b : Rat)).num ≤ 3000 ∧ (Fl.worth l (a : Rat) (b : Rat)).den = 1 := by
  obtain ⟨p1, -, -, p4, p5⟩ := (Fl.worth_adds (whole_place h0 h1 h2 h3).d hok h6).2
  have hb := (Fl.len_bound hok).2
  have hd : (Fl.worth l (a : Rat) (b : Rat)).den = 1 := by
    have h := (Fl.worth l (a : Rat) (b : Rat)).den_pos
    have h4 : (Fl.worth l (a : Rat) (b : Rat)).den ≤ 1 * 1 := p4
    omega
  refine ⟨Fl.num_nonneg p1, ?_, hd⟩
  have h5 : ((20 * Fl.len l : Int) : Rat) ≤ ((3000 : Int) : Rat) := Rat.intCast_le_intCast.2 (by omega)
  have := Fl.num_le (n := 3000) (Rat.le_trans p5 h5)
  rw [hd] at this
  omega

theorem results_cells3 {P : Program} {fn : Func} {p q r : Tmp} {ty ty2 : TypeId} (h : fn.results = #[.cell p ty, .cell q ty2, .tmp r]) (tmps : Array Value) (w : World) (g g2 : Nat) (t t2 : TypeId) (cs cs2 : Array Value) (fr fr2 : Nat × Nat) (d d2 : TypeDesc)
    (hp : tmps.getD p undef = .pointer (some ⟨g, 0, none⟩)) (hg : w.heap[g]? = some (.cells cs t fr))
    (hu : P.underlying ty = some d) (hd : (match d with | .struct _ | .array _ _ => true | _ => false) = true) (hi : (P.info? ty).map (·.size) = some cs.size)
    (hp2 : tmps.getD q undef = .pointer (some ⟨g2, 0, none⟩)) (hg2 : w.heap[g2]? = some (.cells cs2 t2 fr2))
    (hu2 : P.underlying ty2 = some d2) (hd2 : (match d2 with | .struct _ | .array _ _ => true | _ => false) = true) (hi2 : (P.info? ty2).map (·.size) = some cs2.size) :
    (results fn tmps).run P w = .ok (.tuple #[.agg cs, .agg cs2, tmps.getD r undef]) w := by
  have hp' : tmps[p]?.getD undef = .pointer (some ⟨g, 0, none⟩) := by simpa using hp
  have hp2' : tmps[q]?.getD undef = .pointer (some ⟨g2, 0, none⟩) := by simpa using hp2
  simp [results, h, hp', hp2', asAddr, run_loadVar_row w g t ty cs fr d hg hu hd hi, run_loadVar_row w g2 t2 ty2 cs2 fr2 d2 hg2 hu2 hd2 hi2]

/-- What holds after some of the operations of the last statement of Dearest, in whatever order. -/
def SD (W0 : World) (N G : Nat) (p0 p1 p2 p3 p4 p5 p7 p8 p9 p10 p11 p12 p13 p14 p15 p16 p17 p18 p19 p20 p21 p22 p23 p24 p25 p26 p27 p28 p29 p30 p31 p32 p33 p34 p35 p36 p37 p38 p39 p40 p41 p42 p43 p44 p45 p46 p47 p48 p49 p50 p51 p52 p53 p54 p55 : Value) (b : Int) (m : Rat) (L : Array Bool) (AA : Act) (W : World) : Prop :=
  ∃ (l0 l1 l2 l3 l4 l5 : Bool) (v6 v56 v57 v58 : Value), L = #[l0, l1, l2, l3, l4, l5] ∧ AA = ⟨#[p0, p1, p2, p3, p4, p5, v6, p7, p8, p9, p10, p11, p12, p13, p14, p15, p16, p17, p18, p19, p20, p21, p22, p23, p24, p25, p26, p27, p28, p29, p30, p31, p32, p33, p34, p35, p36, p37, p38, p39, p40, p41, p42, p43, p44, p45, p46, p47, p48, p49, p50, p51, p52, p53, p54, p55, v56, v57, v58], []⟩ ∧ Below N W0 W ∧
    (l0 = true → v56 = .int .i64 b) ∧ (l1 = true → v57 = Fr (b : Rat)) ∧ (l2 = true → v58 = Fr m) ∧
    W.heap[G]? = some (.cells #[.int .i64 m.num, .int .i64 m.den] 89 (0, 0)) ∧
    (∃ c d, W.heap[N]? = some (.cells #[c, d] 29 (0, 0))) ∧ (∃ c d, W.heap[N + 1]? = some (.cells #[c, d] 29 (0, 0))) ∧
    (l3 = true → W.heap[N]? = some (.cells #[.int .i64 (b : Rat).num, .int .i64 (b : Rat).den] 29 (0, 0))) ∧
    (l4 = true → W.heap[N + 1]? = some (.cells #[.int .i64 m.num, .int .i64 m.den] 29 (0, 0))) ∧ (l5 = true → v6 = .int .i64 0)

set_option maxRecDepth 100000 in
set_option maxHeartbeats 1000000 in
theorem dear_ok (l : List (Int × Int)) (size : Int) (ao : Option Addr) (n cap : Nat) (w : World) (hp : Pts w ao l) (hln : n = l.length) (hn : n ≤ 100000) (hv : Fl.validate l = 0) (hs0 : 0 ≤ size) (hs1 : size ≤ Fl.len l) :
    Calls Try.prog 37 #[.slice ao n cap, .int .i64 size] w fun e w' => e = .returned (.tuple #[Fr ((Fl.dear l size).1 : Rat), Fr (Fl.dear l size).2, .int .i64 0]) ∧ Below w.heap.size w w' := by
  have Hn := Lib.hid hln
  clear hln
  have hok := Fl.validate_ok.1 hv
  have Hv := Lib.hid hv
  clear hv
  have hlb := Fl.len_bound hok.2
  have hl1 := hok.1.1
  have h6 := hok.1.2
  obtain ⟨D, hD⟩ : ∃ d, d = Fl.dear l size := ⟨_, rfl⟩
  rw [← hD]
  have HD := Lib.hid hD
  clear hD
  have hA := below_alloc2 w (.cells #[.int .i64 0, .int .i64 0] 29) (.cells #[.int .i64 0, .int .i64 0] 29)
  have r4 := heap_alloc2_old w (.cells #[.int .i64 0, .int .i64 0] 29) (.cells #[.int .i64 0, .int .i64 0] 29)
  have r5 := heap_alloc2_new w (.cells #[.int .i64 0, .int .i64 0] 29) (.cells #[.int .i64 0, .int .i64 0] 29)
  have hp1 := hp.below hA
  have HHp := Lib.hid hp
  have HA := Lib.hid (And.intro hA (And.intro r4 r5))
  clear hA r4 r5 hp
  go_enter Try.func37, Try.ntmps37
  go_wp2_with fail
  refine (validate_any l _ _ _ _ hp1 Hn.out hn).mono ?_
  rintro e w1 ⟨rfl, hb1⟩
  rw [Hv.out]
  have hp2 := hp1.below hb1
  have r41 := heap_keep hb1 HA.out.2.1
  have r51 := heap_keep hb1 HA.out.2.2
  have hB1 := HA.out.1.trans (hb1.mono HA.out.1.size)
  clear hp1 hb1 HA
  go_wp2_with fail
  refine (length_any l _ _ _ _ hp2 Hn.out hok.2 h6).mono ?_
  rintro e w2 ⟨rfl, hb2⟩
  have hp3 := hp2.below hb2
  have r42 := heap_keep hb2 r41
  have r52 := heap_keep hb2 r51
  have hB2 := hB1.trans (hb2.mono hB1.size)
  clear hp2 hb2 r41 r51 hB1
  go_wp2_with fail
  refine (whole_any 0 _).mono ?_
  rintro e w3 ⟨rfl, hb3⟩
  have hp4 := hp3.below hb3
  have r43 := heap_keep hb3 r42
  have r53 := heap_keep hb3 r52
  have hB3 := hB2.trans (hb3.mono hB2.size)
  clear hp3 hb3 r42 r52 hB2
  go_wp2_with fail
  refine (whole_any size _).mono ?_
  rintro e w4 ⟨rfl, hb4⟩
  have hp5 := hp4.below hb4
  have r44 := heap_keep hb4 r43
  have r54 := heap_keep hb4 r53
  have hB4 := hB3.trans (hb4.mono hB3.size)
  clear hp4 hb4 r43 r53 hB3
  go_wp2_with fail
  refine (worth_any l ((0 : Int) : Rat) (size : Rat) _ _ _ _ hp5 Hn.out hok.2 hl1 h6 (whole_place (by omega) (by omega) hs0 (by omega))).mono ?_
  rintro e w5 ⟨rfl, hb5⟩
  have hp6 := hp5.below hb5
  have r45 := heap_keep hb5 r44
  have r55 := heap_keep hb5 r54
  have hB5 := hB4.trans (hb5.mono hB4.size)
  have l55 := heap_lt r55
  clear hp5 hb5 r44 r54 hB4
  have wi := worth_int hok.2 h6 (Int.le_refl 0) (by omega) hs0 (show size ≤ 1000 by omega)
  obtain ⟨W0, hW0⟩ : ∃ x, x = Fl.worth l ((0 : Int) : Rat) (size : Rat) := ⟨_, rfl⟩
  rw [← hW0] at wi ⊢
  have Wi := Lib.hid wi
  clear wi
  have ha := (Below.refl _ w5).alloc (Nat.le_refl _) (.cells #[.int .i64 W0.num, .int .i64 W0.den] 89)
  have hp7 := hp6.below ha
  have r46 := heap_keep ha r45
  have r56 := heap_keep ha r55
  have r9 := heap_alloc_new w5 (.cells #[.int .i64 W0.num, .int .i64 W0.den] 89)
  have hB6 := hB5.trans (ha.mono hB5.size)
  have hD0 : Hid (D = (List.range (Fl.len l - size).toNat).foldl (Fl.dearStep l size) (0, W0)) := Lib.hid (by rw [HD.out, hW0]; rfl)
  have hgG : w.heap.size + 2 ≤ w5.heap.size := by omega
  clear hW0 ha hp6 r45 r55 hB5 l55
  go_wp2_with fail
  generalize w5.alloc (.cells #[.int .i64 W0.num, .int .i64 W0.den] 89) = w6 at hp7 r46 r56 r9 hB6 ⊢
  generalize w5.heap.size = G at hgG r9 ⊢
  obtain ⟨M, hM⟩ : ∃ m, m = (Fl.len l - size).toNat := ⟨_, rfl⟩
  have hM2 : (M : Int) = Fl.len l - size := by omega
  rw [← hM] at hD0
  clear hM
  obtain ⟨L, hL⟩ : ∃ x, x = Fl.len l := ⟨_, rfl⟩
  rw [← hL] at hM2 hs1 hlb ⊢
  have HL := Lib.hid hL
  clear hL
  clear hp7
  have q1 : decide (size < 0) = false := decide_eq_false (by omega)
  have q2 : decide (L < size) = false := decide_eq_false (by omega)
  rw [q1, q2]
  simp only [Bool.or_false]
  clear q1 q2
  go_loopw [8, 10] (fun b a wr => ∃ (k : Nat) (s : Int × Rat) (t : Int), k ≤ M ∧ Hid (t = (k : Int) + 1) ∧ 1 ≤ t ∧ t ≤ 121 ∧ a = .int .i64 t ∧ b = .int .i64 s.1 ∧ Hid (s = (List.range k).foldl (Fl.dearStep l size) (0, W0)) ∧ Hid (0 ≤ s.2.num ∧ s.2.num ≤ 3000 ∧ s.2.den = 1) ∧ wr.heap[G]? = some (.cells #[.int .i64 s.2.num, .int .i64 s.2.den] 89 (0, 0)) ∧ wr.heap[w.heap.size]? = some (.cells #[.int .i64 0, .int .i64 0] 29 (0, 0)) ∧ wr.heap[w.heap.size + 1]? = some (.cells #[.int .i64 0, .int .i64 0] 29 (0, 0)) ∧ Below w.heap.size w wr) (fun _ a _ => M + 2 - (intOf a).toNat)
  case atStart => exact ⟨0, (0, W0), 1, Nat.zero_le _, Lib.hid rfl, by omega, by omega, rfl, rfl, Lib.hid rfl, Wi, r9, r46, r56, hB6⟩
  case round =>
    clear r9 r46 r56 hB6 Wi
    obtain ⟨k, s, t, hk, Ht, ht1, ht2, rfl, rfl, hs, hsb, r9, r4, r5, hb⟩ := hrel
    have hpw := Lib.hid (HHp.out.below hb)
    have b1 : (k : Int) ≤ 120 := by omega
    have b2 : size ≤ 120 := by omega
    go_wp2_with fail
    refine (length_any l _ _ _ _ hpw.out Hn.out hok.2 h6).mono ?_
    rintro e w2 ⟨rfl, hb2⟩
    rw [← HL.out]
    have hp2 := hpw.out.below hb2
    have r92 := heap_keep hb2 r9
    have r42 := heap_keep hb2 r4
    have r52 := heap_keep hb2 r5
    have hB2 := hb.trans (hb2.mono hb.size)
    clear hb2 hpw r9 r4 r5 hb
    by_cases hlt : k < M
    · have i1 : t + size ≤ L := by have := Ht.out; omega
      obtain ⟨u, hu⟩ : ∃ u, u = t + size := ⟨_, rfl⟩
      have hu1 : 0 ≤ u ∧ u ≤ 1000 := by omega
      have Hu := Lib.hid hu
      clear hu
      go_wp2_with fail
      refine (whole_any t _).mono ?_
      rintro e w3 ⟨rfl, hb3⟩
      have hp3 := hp2.below hb3
      have r93 := heap_keep hb3 r92
      have r43 := heap_keep hb3 r42
      have r53 := heap_keep hb3 r52
      have hB3 := hB2.trans (hb3.mono hB2.size)
      clear hb3 hp2 r92 r42 r52 hB2
      go_wp2_with fail
      rw [← Hu.out]
      refine (whole_any u _).mono ?_
      rintro e w4 ⟨rfl, hb4⟩
      have hp4 := hp3.below hb4
      have r94 := heap_keep hb4 r93
      have r44 := heap_keep hb4 r43
      have r54 := heap_keep hb4 r53
      have hB4 := hB3.trans (hb4.mono hB3.size)
      clear hb4 hp3 r93 r43 r53 hB3
      go_wp2_with fail
      refine (worth_any l (t : Rat) (u : Rat) _ _ _ _ hp4 Hn.out hok.2 hl1 h6 (whole_place (by omega) (by omega) hu1.1 hu1.2)).mono ?_
      rintro e w5 ⟨rfl, hb5⟩
      have hp5 := hp4.below hb5
      have r95 := heap_keep hb5 r94
      have r45 := heap_keep hb5 r44
      have r55 := heap_keep hb5 r54
      have hB5 := hB4.trans (hb5.mono hB4.size)
      clear hb5 hp4 r94 r44 r54 hB4
      have wi := worth_int hok.2 h6 (show 0 ≤ t by omega) (by omega) hu1.1 hu1.2
      have hst : Hid ((List.range (k + 1)).foldl (Fl.dearStep l size) (0, W0) = Fl.dearStep l size s k) := Lib.hid (by rw [List.range_succ, List.foldl_append, hs.out]; rfl)
      have hsd : Fl.dearStep l size s k = if s.2 < Fl.worth l (t : Rat) (u : Rat) then (t, Fl.worth l (t : Rat) (u : Rat)) else s := by rw [Hu.out, Ht.out]; rfl
      obtain ⟨V, hV⟩ : ∃ x, x = Fl.worth l (t : Rat) (u : Rat) := ⟨_, rfl⟩
      rw [← hV] at wi hsd ⊢
      clear hV
      have Wi := Lib.hid wi
      clear wi
      have hsd' := Lib.hid hsd
      clear hsd
      have ha := (Below.refl _ w5).alloc (Nat.le_refl _) (.cells #[.int .i64 V.num, .int .i64 V.den] 89)
      have hp6 := hp5.below ha
      have r96 := heap_keep ha r95
      have r46 := heap_keep ha r45
      have r56 := heap_keep ha r55
      have r11 := heap_alloc_new w5 (.cells #[.int .i64 V.num, .int .i64 V.den] 89)
      have hB6 := hB5.trans (ha.mono hB5.size)
      have l9 := heap_lt r95
      clear ha hp5 r45 r55 hB5
      obtain ⟨⟨c0, c1⟩, -, -⟩ := row_fr r95
      go_wp2_with fail
      refine (compare_any V s.2 _ Wi.out.1 hsb.out.1 (by have := Wi.out.2.1; omega) (by have := hsb.out.2.1; omega) (by rw [Wi.out.2.2, hsb.out.2.2]; omega)).mono ?_
      rintro e w7 ⟨rfl, hb7⟩
      have hp7 := hp6.below hb7
      have r97 := heap_keep hb7 r96
      have r47 := heap_keep hb7 r46
      have r57 := heap_keep hb7 r56
      have r117 := heap_keep hb7 r11
      have hB7 := hB6.trans (hb7.mono hB6.size)
      clear hb7 hp6 r96 r46 r56 r11 hB6 c0 c1 r95
      obtain ⟨⟨c0, c1⟩, f0, f1⟩ := row_fr r97
      obtain ⟨⟨d0, d1⟩, -, -⟩ := row_fr r117
      have hneq : w5.heap.size ≠ G := by omega
      by_cases hlv : s.2 < V
      · have hc : Fl.cmpR V s.2 = 1 := by unfold Fl.cmpR; rw [if_neg (by grind), if_pos hlv]
        rw [hc]
        have hS : Hid ((List.range (k + 1)).foldl (Fl.dearStep l size) (0, W0) = (t, V)) := Lib.hid (by rw [hst.out, hsd'.out, if_pos hlv])
        go_wp2_with fail
        go_region
        go_wp2_with fail
        go_roundw
        case rel =>
          refine ⟨k + 1, (t, V), t + 1, by omega, Lib.hid (by rw [Ht.out]; push_cast; omega), by omega, by omega, rfl, rfl, Lib.hid hS.out.symm, Wi, two_cells (w := w7) r97 _ _, ?_, ?_, below_drewN (below_setCell (below_setCell hB7 (by omega) _) (by omega) _) 1⟩
          · show ((w7.setCell _ _).setCell _ _).heap[w.heap.size]? = _
            rw [heap_setCell_other _ _ _ _ (by show w.heap.size ≠ G; omega), heap_setCell_other _ _ _ _ (by show w.heap.size ≠ G; omega)]; exact r47
          · show ((w7.setCell _ _).setCell _ _).heap[w.heap.size + 1]? = _
            rw [heap_setCell_other _ _ _ _ (by show w.heap.size + 1 ≠ G; omega), heap_setCell_other _ _ _ _ (by show w.heap.size + 1 ≠ G; omega)]; exact r57
        case measure => have := Ht.out; simp [intOf]; omega
      · have hc : Fl.cmpR V s.2 ≤ 0 := by
          unfold Fl.cmpR; grind
        have hS : Hid ((List.range (k + 1)).foldl (Fl.dearStep l size) (0, W0) = s) := Lib.hid (by rw [hst.out, hsd'.out, if_neg hlv])
        go_wp2_with fail
        go_roundw
        case rel => exact ⟨k + 1, s, t + 1, by omega, Lib.hid (by rw [Ht.out]; push_cast; omega), by omega, by omega, rfl, rfl, Lib.hid hS.out.symm, hsb, r97, r47, r57, hB7⟩
        case measure => have := Ht.out; simp [intOf]; omega
    · have hk2 : k = M := by omega
      have i1 : ¬ t + size ≤ L := by have := Ht.out; omega
      have hDs : Hid (D = s) := Lib.hid (by rw [hD0.out, hs.out, hk2])
      obtain ⟨⟨c0, c1⟩, -, -⟩ := row_fr r92
      obtain ⟨⟨d0, d1⟩, df0, df1⟩ := row_fr r42
      obtain ⟨⟨e0, e1⟩, ef0, ef1⟩ := row_fr r52
      go_wp2_with fail
      have hN : w.heap.size + 2 ≤ G := hgG
      refine wp_region_inv (by kernel_rfl) (SD w w.heap.size G _ _ _ _ _ _ _ _ _ _ _ _ _ _ _ _ _ _ _ _ _ _ _ _ _ _ _ _ _ _ _ _ _ _ _ _ _ _ _ _ _ _ _ _ _ _ _ _ _ _ _ _ _ _ _ s.1 s.2) ⟨false, false, false, false, false, false, _, _, _, _, rfl, rfl, below_drewN hB2 1, nofun, nofun, nofun, r92, ⟨_, _, r42⟩, ⟨_, _, r52⟩, nofun, nofun, nofun⟩ ?_ ?_
      · rintro listed AA W ⟨l0, l1, l2, l3, l4, l5, v6, v56, v57, v58, rfl, rfl, hB, h0, h1, h2, hG, ⟨c4, d4, h4⟩, ⟨c5, d5, h5⟩, h3, hq4, hq5⟩ i hi
        have hm := List.mem_filter.1 hi
        have hlt : i < 6 := by simpa using hm.1
        have hm2 := hm.2
        clear hm hi
        obtain rfl | rfl | rfl | rfl | rfl | rfl : i = 0 ∨ i = 1 ∨ i = 2 ∨ i = 3 ∨ i = 4 ∨ i = 5 := by omega
        all_goals simp [Region.binds] at hm2
        all_goals clear hlt
        all_goals refine wpOp_at rfl rfl ?_
        · clear hm2
          unfold Oper.wp
          go_simp
          exact ⟨_, _, _, _, _, _, _, _, _, _, rfl, rfl, hB, fun _ => rfl, h1, h2, hG, ⟨c4, d4, h4⟩, ⟨c5, d5, h5⟩, h3, hq4, hq5⟩
        · have d0 : l0 = true := by simp [hm2]
          have q0 := h0 d0
          subst q0
          clear hm2 d0
          unfold Oper.wp
          go_simp
          refine (whole_any s.1 W).mono ?_
          rintro e W' ⟨rfl, hb'⟩
          exact ⟨_, _, _, _, _, _, _, _, _, _, rfl, rfl, hB.trans (hb'.mono hB.size), h0, fun _ => rfl, h2, heap_keep hb' hG, ⟨c4, d4, heap_keep hb' h4⟩, ⟨c5, d5, heap_keep hb' h5⟩, fun q => heap_keep hb' (h3 q), fun q => heap_keep hb' (hq4 q), hq5⟩
        · clear hm2
          refine wp_load_row _ _ rfl _ rfl _ _ _ _ hG Try.underlying89 rfl infoFr2 ?_
          exact ⟨_, _, _, _, _, _, _, _, _, _, rfl, rfl, hB, h0, h1, fun _ => rfl, hG, ⟨c4, d4, h4⟩, ⟨c5, d5, h5⟩, h3, hq4, hq5⟩
        · have d1 : l1 = true := by simp [hm2]
          have q1 := h1 d1
          subst q1
          clear hm2 d1
          refine wp_store_row _ _ _ rfl _ #[.int .i64 (s.1 : Rat).num, .int .i64 (s.1 : Rat).den] rfl rfl _ _ h4 infoRat2 rfl (fr_one _) ?_
          exact ⟨_, _, _, _, _, _, _, _, _, _, rfl, rfl, below_setRow hB (Nat.le_refl _) _, h0, h1, h2, heap_row_other _ (by omega) hG, ⟨_, _, setRow_heap W _ _ _ _ _ h4⟩, ⟨c5, d5, heap_row_other _ (by omega) h5⟩, fun _ => setRow_heap W _ _ _ _ _ h4, fun q => heap_row_other _ (by omega) (hq4 q), hq5⟩
        · have d2 : l2 = true := by simp [hm2]
          have q2 := h2 d2
          subst q2
          clear hm2 d2
          refine wp_store_row _ _ _ rfl _ #[.int .i64 s.2.num, .int .i64 s.2.den] rfl rfl _ _ h5 infoRat2 rfl (fr_one _) ?_
          exact ⟨_, _, _, _, _, _, _, _, _, _, rfl, rfl, below_setRow hB (by omega) _, h0, h1, h2, heap_row_other _ (by omega) hG, ⟨c4, d4, heap_row_other _ (by omega) h4⟩, ⟨_, _, setRow_heap W _ _ _ _ _ h5⟩, fun q => heap_row_other _ (by omega) (h3 q), fun _ => setRow_heap W _ _ _ _ _ h5, hq5⟩
        · clear hm2
          unfold Oper.wp
          go_simp
          exact ⟨_, _, _, _, _, _, _, _, _, _, rfl, rfl, hB, h0, h1, h2, hG, ⟨c4, d4, h4⟩, ⟨c5, d5, h5⟩, h3, hq4, fun _ => rfl⟩
      · rintro listed AA W ⟨l0, l1, l2, l3, l4, l5, v6, v56, v57, v58, rfl, rfl, hB, h0, h1, h2, hG, ⟨c4, d4, h4⟩, ⟨c5, d5, h5⟩, h3, hq4, hq5⟩ hr
        have hr2 := fun i hi => List.filter_eq_nil_iff.1 hr i hi
        clear hr
        have k0 := hr2 0 (by simp)
        simp [Region.binds] at k0
        subst k0
        have k1 := hr2 1 (by simp)
        simp [Region.binds] at k1
        subst k1
        have k2 := hr2 2 (by simp)
        simp [Region.binds] at k2
        subst k2
        have k3 := hr2 3 (by simp)
        simp [Region.binds] at k3
        subst k3
        have k4 := hr2 4 (by simp)
        simp [Region.binds] at k4
        subst k4
        have k5 := hr2 5 (by simp)
        simp [Region.binds] at k5
        subst k5
        have e6 := hq5 rfl
        subst e6
        have R4 := h3 (by simp)
        have R5 := hq4 (by simp)
        go_wp2
        rw [hDs.out]
        exact bodyPost_ret (results_cells3 rfl _ _ _ _ _ _ _ _ _ _ _ _ rfl R4 Try.underlying29 rfl infoRat2 rfl R5 Try.underlying29 rfl infoRat2) rfl ⟨rfl, hB⟩
end Go.Proofs.Ytemlfklipkpacaa

namespace Go.Proofs.Ytemlfklipkpacaa
open Go.RowKit

def fl : List (Int × Int) := [(4, 3), (2, 6)]
theorem fl_ok : Fl.validate fl = 0 := by decide +kernel
theorem fl_len : Fl.len fl = 6 := by decide +kernel
theorem fl_each : eachs fl 3 = [8, 8] := by decide +kernel
theorem fl_place1 : Fl.place fl 0 8 = 8 / 3 := by decide +kernel
theorem fl_cuts : (Fl.cutsF fl 0 (eachs fl 3)).map pr = [(8, 3), (14, 3)] := by decide +kernel
theorem fl_cutok : Fl.CutOk fl 0 (eachs fl 3) := by
  rw [fl_each]
  refine ⟨⟨by decide +kernel, by decide +kernel, by decide +kernel, by decide +kernel, by decide +kernel⟩, ?_, trivial⟩
  rw [fl_place1]
  exact ⟨by decide +kernel, by decide +kernel, by decide +kernel, by decide +kernel, by decide +kernel⟩
theorem fl_dear : (Fl.dear fl 3).1 = 3 ∧ (Fl.dear fl 3).2 = 15 := by decide +kernel

theorem fl_pts (w : World) : Pts (w.alloc (.cells #[.int .i64 4, .int .i64 3, .int .i64 2, .int .i64 6] 85)) (some ⟨w.heap.size, 0, none⟩) fl := by
  have hc := fun j => cell_of_row (w.alloc (.cells #[.int .i64 4, .int .i64 3, .int .i64 2, .int .i64 6] 85)) w.heap.size j _ _ _ (heap_alloc_new w _)
  refine ⟨fun _ => ⟨_, 0, rfl, by simp, fun i hi => ?_⟩⟩
  match i, hi with
  | 0, _ => exact ⟨hc 0, hc 1⟩
  | 1, _ => exact ⟨hc 2, hc 3⟩

theorem fr3 : Fr ((3 : Int) : Rat) = .agg #[.int .i64 3, .int .i64 1] := rfl
theorem fr15 : Fr (15 : Rat) = .agg #[.int .i64 15, .int .i64 1] := rfl

set_option maxRecDepth 100000 in
set_option maxHeartbeats 2000000 in
theorem known_any (w : World) : Calls Try.prog 16 #[] w fun e w' => e = .returned (.bool true) ∧ Below w.heap.size w w' := by
  have hA : Below w.heap.size w (w.alloc (.cells #[.int .i64 4, .int .i64 3, .int .i64 2, .int .i64 6] 85)) := (Below.refl _ w).alloc (Nat.le_refl _) _
  have hp := fl_pts w
  have HA := Lib.hid (And.intro hA hp)
  clear hA hp
  go_enter Try.func16, Try.ntmps16
  go_wp2_with fail
  refine (equal_ok fl 3 _ _ _ _ HA.out.2 rfl (by decide) fl_ok (by decide) (by decide) fl_cutok).mono ?_
  rintro e w1 ⟨v, rfl, hown, hb1⟩
  rw [fl_cuts] at hown
  have hp1 := HA.out.2.below hb1
  have hB1 := HA.out.1.trans (hb1.mono HA.out.1.size)
  have Hown := Lib.hid hown
  clear hown hb1 HA
  go_wp2_with fail
  refine (dear_ok fl 3 _ _ _ _ hp1 rfl (by decide) fl_ok (by decide) (by rw [fl_len]; decide)).mono ?_
  rintro e w2 ⟨rfl, hb2⟩
  rw [fl_dear.1, fl_dear.2, fr3, fr15]
  have hown2 := own_below Hown.out hb2
  obtain ⟨ao2, cap2, rfl, hcap, hpts⟩ := own_pts2 hown2 rfl
  have hB2 := hB1.trans (hb2.mono hB1.size)
  clear hown2 Hown hb2 hp1
  have ha2 := below_alloc3 w2 (.cells #[.int .i64 3, .int .i64 1] 29) (.cells #[.int .i64 15, .int .i64 1] 29) (.cells #[.int .i64 8, .int .i64 3, .int .i64 14, .int .i64 3] 29)
  have hpts2 := hpts.below ha2
  have hB3 := hB2.trans (ha2.mono hB2.size)
  have hq : Pts (((w2.alloc (.cells #[.int .i64 3, .int .i64 1] 29)).alloc (.cells #[.int .i64 15, .int .i64 1] 29)).alloc (.cells #[.int .i64 8, .int .i64 3, .int .i64 14, .int .i64 3] 29)) (some ⟨w2.heap.size + 1 + 1, 0, none⟩) [(8, 3), (14, 3)] := by
    have hc := fun j => cell_of_row _ (w2.heap.size + 1 + 1) j _ _ _ (heap_alloc3 w2 (.cells #[.int .i64 3, .int .i64 1] 29) (.cells #[.int .i64 15, .int .i64 1] 29) (.cells #[.int .i64 8, .int .i64 3, .int .i64 14, .int .i64 3] 29))
    refine ⟨fun _ => ⟨_, 0, rfl, by simp, fun i hi => ?_⟩⟩
    match i, hi with
    | 0, _ => exact ⟨hc 0, hc 1⟩
    | 1, _ => exact ⟨hc 2, hc 3⟩
  have h4 : (((w2.alloc (.cells #[.int .i64 3, .int .i64 1] 29)).alloc (.cells #[.int .i64 15, .int .i64 1] 29)).alloc (.cells #[.int .i64 8, .int .i64 3, .int .i64 14, .int .i64 3] 29)).heap[w2.heap.size]? = _ := (heap_alloc_old _ _ (by simp; try omega)).trans (heap_alloc2_old w2 _ _)
  have h5 : (((w2.alloc (.cells #[.int .i64 3, .int .i64 1] 29)).alloc (.cells #[.int .i64 15, .int .i64 1] 29)).alloc (.cells #[.int .i64 8, .int .i64 3, .int .i64 14, .int .i64 3] 29)).heap[w2.heap.size + 1]? = _ := (heap_alloc_old _ _ (by simp; try omega)).trans (heap_alloc2_new w2 _ _)
  have HH := Lib.hid (And.intro hpts2 (And.intro hq (And.intro hB3 (And.intro h4 h5))))
  clear hpts hpts2 hq ha2 hB2 hB3 h4 h5 hcap
  go_wp2_with fail
  refine (sameRats_any _ _ _ _ _ _ _ _ _ HH.out.1 HH.out.2.1 rfl rfl (by decide) (by decide)).mono ?_
  rintro e w3 ⟨rfl, hb3⟩
  have h4 := heap_keep hb3 HH.out.2.2.2.1
  have h5 := heap_keep hb3 HH.out.2.2.2.2
  have hB := HH.out.2.2.1.trans (hb3.mono HH.out.2.2.1.size)
  obtain ⟨⟨c0, c1⟩, -, -⟩ := row_fr h4
  obtain ⟨⟨d0, d1⟩, -, -⟩ := row_fr h5
  have q1 := run_eq_rt 3 1 3 1
  have q2 := run_eq_rt 15 1 15 1
  clear hb3 h4 h5 HH
  go_wp2_with fail
  go_ret
  exact ⟨ret_bool (by simp), hB⟩
end Go.Proofs.Ytemlfklipkpacaa

namespace Go.Proofs.Ytemlfklipkpacaa
open Go.RowKit

set_option maxHeartbeats 400000 in
theorem long_any (n m cap cap2 : Nat) (ao ao2 : Option Addr) (w : World) :
    Calls Try.prog 15 #[.slice ao n cap, .slice ao2 m cap2] w fun e w' => e = .returned (.bool (decide (100 < n) || decide (100 < m))) ∧ w = w' := by
  go_enter Try.func15, Try.ntmps15
  go_wp2
  all_goals
    go_ret
    refine ⟨ret_bool ?_, rfl⟩
    rw [Bool.eq_iff_iff]
    simp
    omega

theorem frOr_pair (c : Int) (q : Rat) : ∃ a b : Int, frOr c q = .agg #[.int .i64 a, .int .i64 b] := by
  unfold frOr; split
  · exact ⟨_, _, rfl⟩
  · exact ⟨_, _, rfl⟩

set_option maxRecDepth 100000 in
set_option maxHeartbeats 2000000 in
theorem soilFields_any (l : List (Int × Int)) (ao : Option Addr) (n cap : Nat) (w : World) (hp : Pts w ao l) (hln : n = l.length) :
    Calls Try.prog 3 #[.slice ao n cap] w fun e w' => e = .returned (.bool true) ∧ Below w.heap.size w w' := by
  have Hn := Lib.hid hln
  clear hln
  by_cases hlong : 100 < n
  · have hd : (decide (100 < n) || decide (100 < 0)) = true := by simp [hlong]
    go_enter Try.func3, Try.ntmps3
    go_wp2_with fail
    refine (long_any n 0 cap 0 ao none _).mono ?_
    rintro e w1 ⟨rfl, rfl⟩
    rw [hd]
    go_wp2_with fail
    refine (known_any _).mono ?_
    rintro e w1 ⟨rfl, hb⟩
    go_wp2
    go_ret
    exact ⟨rfl, hb⟩
  · have hd : (decide (100 < n) || decide (100 < 0)) = false := by simp; omega
    have hn : n ≤ 100000 := by omega
    clear hlong
    have hB := Below.refl w.heap.size w
    obtain ⟨a, b, hab⟩ := frOr_pair (Fl.validate l) ((Fl.tot l : Rat) / (Fl.len l : Rat))
    have Hab := Lib.hid hab
    clear hab
    obtain ⟨L, hL⟩ : ∃ L, (if Fl.validate l = 0 then Fl.len l else 0) = L := ⟨_, rfl⟩
    obtain ⟨T, hT⟩ : ∃ L, (if Fl.validate l = 0 then Fl.tot l else 0) = L := ⟨_, rfl⟩
    obtain ⟨C, hC⟩ : ∃ L, Fl.validate l = L := ⟨_, rfl⟩
    have HL := Lib.hid hL
    have HT := Lib.hid hT
    have HC := Lib.hid hC
    clear hL hT hC
    go_enter Try.func3, Try.ntmps3
    go_wp2_with fail
    refine (long_any n 0 cap 0 ao none _).mono ?_
    rintro e w1 ⟨rfl, rfl⟩
    rw [hd]
    clear hd
    go_wp2_with fail
    refine (Length_any l _ _ _ _ hp Hn.out hn).mono ?_
    rintro e w1 ⟨rfl, hbb⟩
    replace hp := hp.below hbb
    replace hB := hB.trans (hbb.mono hB.size)
    clear hbb
    rw [HL.out, HC.out]
    go_wp2_with fail
    refine (rLength_any l _ _ _ _ hp Hn.out hn).mono ?_
    rintro e w2 ⟨rfl, hbb⟩
    replace hp := hp.below hbb
    replace hB := hB.trans (hbb.mono hB.size)
    clear hbb
    rw [HL.out, HC.out]
    go_wp2_with fail
    refine (Total_any l _ _ _ _ hp Hn.out hn).mono ?_
    rintro e w3 ⟨rfl, hbb⟩
    replace hp := hp.below hbb
    replace hB := hB.trans (hbb.mono hB.size)
    clear hbb
    rw [HT.out, HC.out]
    go_wp2_with fail
    refine (rTotal_any l _ _ _ _ hp Hn.out hn).mono ?_
    rintro e w4 ⟨rfl, hbb⟩
    replace hp := hp.below hbb
    replace hB := hB.trans (hbb.mono hB.size)
    clear hbb
    rw [HT.out, HC.out]
    go_wp2_with fail
    refine (Mean_any l _ _ _ _ hp Hn.out hn).mono ?_
    rintro e w5 ⟨rfl, hbb⟩
    replace hp := hp.below hbb
    replace hB := hB.trans (hbb.mono hB.size)
    clear hbb
    rw [Hab.out, HC.out]
    have hA := (Below.refl _ w5).alloc (Nat.le_refl _) (.cells #[.int .i64 a, .int .i64 b] 29)
    have r1 := heap_alloc_new w5 (.cells #[.int .i64 a, .int .i64 b] 29)
    replace hp := hp.below hA
    replace hB := hB.trans (hA.mono hB.size)
    clear hA
    go_wp2_with fail
    refine (rMean_any l _ _ _ _ hp Hn.out hn).mono ?_
    rintro e w6 ⟨rfl, hbb⟩
    replace hp := hp.below hbb
    replace r1 := heap_keep hbb r1
    replace hB := hB.trans (hbb.mono hB.size)
    clear hbb
    rw [Hab.out, HC.out]
    have hA := (Below.refl _ w6).alloc (Nat.le_refl _) (.cells #[.int .i64 a, .int .i64 b] 29)
    have r2 := heap_alloc_new w6 (.cells #[.int .i64 a, .int .i64 b] 29)
    replace hp := hp.below hA
    replace r1 := heap_keep hA r1
    replace hB := hB.trans (hA.mono hB.size)
    clear hA
    go_wp2_with fail
    refine (validate_any l _ _ _ _ hp Hn.out hn).mono ?_
    rintro e w7 ⟨rfl, hbb⟩
    replace hp := hp.below hbb
    replace r1 := heap_keep hbb r1
    replace r2 := heap_keep hbb r2
    replace hB := hB.trans (hbb.mono hB.size)
    clear hbb
    rw [HC.out]
    obtain ⟨⟨c0, c1⟩, -, -⟩ := row_fr r1
    obtain ⟨⟨c2, c3⟩, -, -⟩ := row_fr r2
    have q1 := run_eq_rt a b a b
    simp only [decide_true] at q1
    go_wp2_with fail
    refine (rvalidate_any l _ _ _ _ hp Hn.out hn).mono ?_
    rintro e w9 ⟨rfl, hw9⟩
    rw [HC.out]
    subst hw9
    go_wp2_with fail
    refine (known_any _).mono ?_
    rintro e w10 ⟨rfl, hb⟩
    go_wp2
    go_ret
    exact ⟨rfl, hB.trans (hb.mono hB.size)⟩
end Go.Proofs.Ytemlfklipkpacaa
