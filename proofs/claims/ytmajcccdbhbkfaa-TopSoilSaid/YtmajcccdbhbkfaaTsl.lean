import Derived.Test.YtmajcccdbhbkfaaTsm
import Derived.Test.YtmajcccdbhbkfaaTrn
namespace Go.Proofs.Ytmajcccdbhbkfaa
open Go.RowKit

theorem tint_snoc {ps : List Int} {k : Nat} (hk : k < ps.length) : (ps.reverse.take (k + 1)).map (Value.int .i64) = (ps.reverse.take k).map (Value.int .i64) ++ [.int .i64 (ps.getD (ps.length - 1 - k) 0)] := by
  have hk2 : k < ps.reverse.length := by rw [List.length_reverse]; exact hk
  rw [List.take_succ_eq_append_getElem hk2, List.map_append]
  congr 1
  simp only [List.map_cons, List.map_nil]
  rw [← Fl.getD_rev hk, List.getD_eq_getElem?_getD, List.getElem?_eq_getElem hk2]
  rfl
theorem tpr_get {L : List Rat} {k : Nat} (hk : k < L.length) : (L.map pr).getD k (0, 0) = pr (L.getD k 0) := by
  rw [List.getD_eq_getElem?_getD, List.getElem?_map, List.getD_eq_getElem?_getD, List.getElem?_eq_getElem hk]
  rfl
theorem tpts_pr {w : World} {ao : Option Addr} {L : List Rat} (h : Pts w ao (L.map pr)) {k : Nat} (hk : k < L.length) :
    ∃ b off, ao = some ⟨b, off, none⟩ ∧ b < w.heap.size ∧ w.cell? ⟨b, off + k * 2, none⟩ = some (.int .i64 (L.getD k 0).num) ∧ w.cell? ⟨b, off + k * 2 + 1, none⟩ = some (.int .i64 (L.getD k 0).den) := by
  obtain ⟨b, off, e, hb, hc⟩ := h.cells (by rw [List.length_map]; omega)
  have := hc k (by rw [List.length_map]; exact hk)
  rw [tpr_get hk] at this
  exact ⟨b, off, e, hb, this.1, this.2⟩
theorem tfl_place : frOr (Fl.pcode fl 0 1 15 1) (Fl.place fl (mkRat 0 (1 : Int).toNat) (mkRat 15 (1 : Int).toNat)) = .agg #[.int .i64 9, .int .i64 2] := by
  have h1 : Fl.pcode fl 0 1 15 1 = 0 := by decide +kernel
  have h2 : Fl.place fl (mkRat 0 (1 : Int).toNat) (mkRat 15 (1 : Int).toNat) = 9 / 2 := by decide +kernel
  rw [h1, h2, frOr_ok]
  exact (fr_eq (by decide +kernel) (by decide +kernel)).symm
theorem tfl_code : Fl.pcode fl 0 1 15 1 = 0 := by decide +kernel
theorem twhole (n : Int) (w : World) : Calls Try.prog 41 #[.int .i64 n] w fun e w' => e = .returned (.agg #[.int .i64 n, .int .i64 1]) ∧ Below w.heap.size w w' := rwhole_any n w
/-- The worth of the whole field. -/
theorem tall {l : List (Int × Int)} (h : Fl.validate l = 0) : Fl.wcode l 0 1 (Fl.len l) 1 = 0 ∧ Fl.worth l (mkRat 0 (1 : Int).toNat) (mkRat (Fl.len l) (1 : Int).toNat) = ((Fl.tot l : Int) : Rat) := by
  have hok := (Fl.validate_ok.1 h).2
  have hlb := (Fl.len_bound hok).1
  have e1 : mkRat 0 (1 : Int).toNat = 0 := Rat.mkRat_one 0
  have e2 : mkRat (Fl.len l) (1 : Int).toNat = (Fl.len l : Rat) := Rat.mkRat_one _
  have h0 : (0 : Rat) ≤ (Fl.len l : Rat) := by exact_mod_cast (show (0 : Int) ≤ Fl.len l by omega)
  refine ⟨?_, by rw [e1, e2]; exact worth_whole hok⟩
  have := Fl.wcode_places h (a := 0) (b := (Fl.len l : Rat)) Rat.le_refl h0 h0 Rat.le_refl h0 (by decide) (by rw [Rat.den_intCast]; decide)
  exact this
theorem tdear {l : List (Int × Int)} (h : Fl.validate l = 0) : (Fl.dear l (Fl.len l)).1 = 0 ∧ (Fl.dear l (Fl.len l)).2 = ((Fl.tot l : Int) : Rat) := by
  unfold Fl.dear
  rw [show (Fl.len l - Fl.len l).toNat = 0 by omega]
  exact ⟨rfl, worth_whole (Fl.validate_ok.1 h).2⟩
/-- What is known of a cut of the field. -/
theorem tcut {l : List (Int × Int)} {ps : List Int} (h : Fl.partsC l ps = 0) : ∀ k, k < (Fl.cutsOf l ps).length → SumQ (Fl.len l : Rat) ((Fl.cutsOf l ps).getD k 0) ∧ ((Fl.cutsOf l ps).getD k 0).den ≤ 20 := by
  obtain ⟨h0, -, -, -, -⟩ := Fl.partsC_ok h
  obtain ⟨-, k2, -, -⟩ := Fl.cutsOf_ok h
  have hok := (Fl.validate_ok.1 h0).2
  have hlb := Fl.len_bound hok
  have h6 := (Fl.validate_ok.1 h0).1.2
  intro k hk
  have hm : (Fl.cutsOf l ps).getD k 0 ∈ Fl.cutsOf l ps := by rw [List.getD_eq_getElem?_getD, List.getElem?_eq_getElem hk]; exact List.getElem_mem hk
  obtain ⟨q0, q1, q2⟩ := k2 _ hm
  exact ⟨less_places (L := Fl.len l) (by exact_mod_cast (show (0 : Int) ≤ Fl.len l by omega)) q0 Rat.le_refl q1 (by omega) (by omega) (by rw [Rat.den_intCast]; omega) (by omega), q2⟩
/-- One more of the mirrored cuts. -/
theorem tmir_snoc {c : List Rat} {L : Rat} {k : Nat} (hk : k < c.length) : flat2 (((c.reverse.map fun q => L - q).take (k + 1)).map pr) = flat2 (((c.reverse.map fun q => L - q).take k).map pr) ++ [.int .i64 (L - c.getD (c.length - 1 - k) 0).num, .int .i64 (L - c.getD (c.length - 1 - k) 0).den] := by
  have hk2 : k < (c.reverse.map fun q => L - q).length := by rw [List.length_map, List.length_reverse]; exact hk
  rw [List.take_succ_eq_append_getElem hk2, List.map_append, flat2_app]
  congr 1
  rw [List.getElem_map, List.getElem_reverse]
  rw [List.getD_eq_getElem?_getD, List.getElem?_eq_getElem (by omega)]
  rfl
end Go.Proofs.Ytmajcccdbhbkfaa
