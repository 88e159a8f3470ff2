import Derived.Test.YtkpabehjehbidaaSps
namespace Go.Proofs.Ytkpabehjehbidaa
open Go.RowKit

def pr (q : Rat) : Int × Int := (q.num, (q.den : Int))
/-- A slice of fractions. -/
def Frs (w : World) (ao : Option Addr) (l : List Rat) : Prop := Pts w ao (l.map pr)
theorem Frs.below {w w' : World} {ao : Option Addr} {l : List Rat} (h : Frs w ao l) (hb : Below w.heap.size w w') : Frs w' ao l := Pts.below h hb
theorem Frs.at {w : World} {ao : Option Addr} {l : List Rat} (h : Frs w ao l) {k : Nat} (hk : k < l.length) :
    ∃ b off, ao = some ⟨b, off, none⟩ ∧ b < w.heap.size ∧ w.cell? ⟨b, off + k * 2, none⟩ = some (.int .i64 (l[k]).num) ∧ w.cell? ⟨b, off + k * 2 + 1, none⟩ = some (.int .i64 (l[k]).den) := by
  obtain ⟨b, off, rfl, hlt, hc⟩ := Pts.cells h (by simp; omega)
  have := hc k (by simpa using hk)
  have e : (l.map pr).getD k (0, 0) = pr l[k] := by simp [List.getD_eq_getElem?_getD, hk]
  rw [e] at this
  exact ⟨b, off, rfl, hlt, this.1, this.2⟩

set_option maxRecDepth 100000 in
set_option maxHeartbeats 2000000 in
theorem together_any (l : List Rat) (ao : Option Addr) (n cap : Nat) (w : World) (hp : Frs w ao l) (hln : n = l.length) (hn : n ≤ 100) (ha : Fl.Adds 0 l) :
    Calls Try.prog 90 #[.slice ao n cap, .func (.func 91) #[] #[]] w fun e w' => e = .returned (Fr (Fl.sumR l)) ∧ Below w.heap.size w w' := by
  have Hn := Lib.hid hln
  clear hln
  go_enter Try.func90, Try.ntmps90
  go_wp2_with fail
  refine (whole_any 0 _).mono ?_
  rintro e w1 ⟨rfl, hb1⟩
  have r0 := heap_at hb1 (k := w.heap.size) (by simp) (heap_alloc_new w (.cells #[.int .i64 0, .int .i64 0] 70))
  have hB1 := ((Below.refl _ w).alloc (Nat.le_refl _) (.cells #[.int .i64 0, .int .i64 0] 70)).trans (hb1.mono (by simp))
  have l0 := heap_lt r0
  clear hb1
  go_wp2_with fail
  have hB2 := hB1.alloc hB1.size (.cells #[.int .i64 0, .int .i64 1] 70)
  have r02 := heap_keep ((Below.refl _ w1).alloc (Nat.le_refl _) (.cells #[.int .i64 0, .int .i64 1] 70)) r0
  have r5 := heap_alloc_new w1 (.cells #[.int .i64 0, .int .i64 1] 70)
  have hne : w.heap.size ≠ w1.heap.size := by omega
  have hg5 : w.heap.size ≤ w1.heap.size := by omega
  generalize w1.heap.size = g5 at r5 hne hg5 ⊢
  go_loopw [11] (fun i wr => ∃ k : Nat, k ≤ n ∧ i = .int .i64 k ∧ wr.heap[g5]? = some (.cells #[.int .i64 (Fl.sumR (l.take k)).num, .int .i64 (Fl.sumR (l.take k)).den] 70 (0, 0)) ∧ wr.heap[w.heap.size]? = some (.cells #[.int .i64 0, .int .i64 0] 70 (0, 0)) ∧ Below w.heap.size w wr) (fun i _ => n - (intOf i).toNat)
  case atStart => exact ⟨0, Nat.zero_le _, rfl, r5, r02, hB2⟩
  case round =>
    clear r5 r02 hB2 r0 hB1
    obtain ⟨k, hk, rfl, r5, r4, hb⟩ := hrel
    by_cases hlt : k < n
    · have hkl : k < l.length := by have := Hn.out; omega
      obtain ⟨b, off, rfl, hbs, hc1, hc2⟩ := hp.at hkl
      have hst := Lib.hid (Fl.sumR_step l k hkl)
      have hpo := Lib.hid (plusOk (ha.at k hkl))
      clear hp ha
      rw [← hb.cell (p := ⟨b, _, none⟩) hbs] at hc1 hc2
      have i1 : (k : Int) < (n : Int) := by omega
      obtain ⟨A, hA⟩ : ∃ x, x = Fl.sumR (l.take k) := ⟨_, rfl⟩
      obtain ⟨x, hx⟩ : ∃ x, x = l[k] := ⟨_, rfl⟩
      have hA' : (l.take k).foldl (· + ·) 0 = A := hA.symm
      rw [hA'] at hpo
      rw [← hA] at r5 hst
      rw [← hx] at hc1 hc2 hst hpo
      clear hA hx hA'
      obtain ⟨⟨c0, c1⟩, -, -⟩ := row_fr r5
      have hl5 := heap_lt r5
      have hbw : b < wr.heap.size := by have := hb.size; omega
      go_wp2_with fail
      refine (plus_any A x _ hpo.out).mono ?_
      rintro e w5 ⟨rfl, hb5⟩
      have hbb := hb.alloc hb.size (.cells #[.int .i64 x.num, .int .i64 x.den] 70)
      have ha1 := (Below.refl _ wr).alloc (Nat.le_refl _) (.cells #[.int .i64 x.num, .int .i64 x.den] 70)
      have r55 := heap_keep hb5 (heap_keep ha1 r5)
      have r45 := heap_keep hb5 (heap_keep ha1 r4)
      have hB5 := hbb.trans (hb5.mono hbb.size)
      clear c0 c1 hb5 ha1 hbb r5 r4
      obtain ⟨⟨c0, c1⟩, f0, f1⟩ := row_fr r55
      go_wp2_with fail
      go_roundw
      case rel =>
        refine ⟨k + 1, by omega, by go_num, ?_, ?_, below_setCell (below_setCell hB5 hg5 _) hg5 _⟩
        · rw [hst.out]; exact two_cells r55 _ _
        · rw [heap_setCell_other _ _ _ _ hne, heap_setCell_other _ _ _ _ hne]; exact r45
      case measure => simp [intOf]; omega
    · have hk2 : k = n := by omega
      have Hk := Lib.hid hk2
      clear hk2
      have e : l.take k = l := by rw [Hk.out, Hn.out, List.take_length]
      rw [e] at r5
      clear e
      obtain ⟨⟨c0, c1⟩, -, -⟩ := row_fr r5
      obtain ⟨⟨d0, d1⟩, f0, f1⟩ := row_fr r4
      go_wp2
      exact bodyPost_ret (results_cell_row rfl _ _ _ _ _ _ _ rfl (two_cells r4 (.int .i64 (Fl.sumR l).num) (.int .i64 (Fl.sumR l).den)) Try.underlying70 rfl infoFr2) rfl ⟨rfl, below_setCell (below_setCell hb (by omega) _) (by omega) _⟩
end Go.Proofs.Ytkpabehjehbidaa
