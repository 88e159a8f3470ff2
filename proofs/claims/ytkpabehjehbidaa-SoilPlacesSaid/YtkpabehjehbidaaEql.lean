import Derived.Test.YtkpabehjehbidaaRep
namespace Go.Proofs.Ytkpabehjehbidaa
open Go.RowKit

/-- The worths of so many equal pieces, but for the last one. -/
def eachs (l : List (Int × Int)) (p : Nat) : List Rat := List.replicate (p - 1) ((Fl.tot l : Rat) / ((p : Int) : Rat))

set_option maxRecDepth 100000 in
set_option maxHeartbeats 2000000 in
theorem equal_ok (l : List (Int × Int)) (p : Nat) (ao : Option Addr) (n cap : Nat) (w : World) (hp : Pts w ao l) (hln : n = l.length) (hn : n ≤ 100000) (hv : Fl.validate l = 0) (hp1 : 1 ≤ p) (hp8 : p ≤ 8) (hco : Fl.CutOk l 0 (eachs l p)) :
    Calls Try.prog 39 #[.slice ao n cap, .int .i64 p] w fun e w' => ∃ v, e = .returned (.tuple #[v, .int .i64 0]) ∧ w'.ownsRow w.heap.size 29 2 v (p - 1) (flat2 ((Fl.cutsF l 0 (eachs l p)).map pr)) ∧ Below w.heap.size w w' := by
  have Hn := Lib.hid hln
  clear hln
  have hok := Fl.validate_ok.1 hv
  have Hv := Lib.hid hv
  clear hv
  have htb := Fl.tot_bound hok.2
  obtain ⟨E, hE⟩ : ∃ e, e = (Fl.tot l : Rat) / ((p : Int) : Rat) := ⟨_, rfl⟩
  have heq : eachs l p = (List.replicate p E).take (p - 1) := by
    unfold eachs
    rw [← hE, List.take_replicate, Nat.min_eq_left (by omega)]
  rw [heq] at hco ⊢
  clear heq
  go_enter Try.func39, Try.ntmps39
  go_wp2_with fail
  refine (validate_any l _ _ _ _ hp Hn.out hn).mono ?_
  rintro e w1 ⟨rfl, hb1⟩
  rw [Hv.out]
  have hp2 := hp.below hb1
  clear hp
  go_wp2_with fail
  refine (worthAll_any l _ _ _ _ hp2 Hn.out hok.2 hok.1.1 hok.1.2).mono ?_
  rintro e w2 ⟨rfl, hb2⟩
  have hp3 := hp2.below hb2
  have hB2 := hb1.trans (hb2.mono hb1.size)
  clear hp2 hb2 hb1
  go_wp2_with fail
  refine (over_any (Fl.tot l : Rat) (p : Int) _ (by show 0 ≤ Fl.tot l; omega) (by omega) (by show Fl.tot l ≤ _; omega) (by rw [Rat.den_intCast]; omega)).mono ?_
  rintro e w3 ⟨rfl, hb3⟩
  rw [← hE]
  have HE := Lib.hid hE
  clear hE
  have hp4 := hp3.below hb3
  have hB3 := hB2.trans (hb3.mono hB2.size)
  clear hp3 hb3 hB2
  have ha2 : Below w3.heap.size w3 ((w3.alloc (.cells #[.int .i64 E.num, .int .i64 E.den] 70)).alloc (.cells #[.int .i64 E.num, .int .i64 E.den] 70)) := below_alloc2 w3 _ _
  have hp5 := hp4.below ha2
  have hB4 := hB3.trans (ha2.mono hB3.size)
  have rE := heap_alloc2_new w3 (.cells #[.int .i64 E.num, .int .i64 E.den] 70) (.cells #[.int .i64 E.num, .int .i64 E.den] 70)
  have hq0 := cell_of_row _ _ 0 _ _ _ rE
  have hq1 := cell_of_row _ _ 1 _ _ _ rE
  have hlt := heap_lt rE
  have HQ := Lib.hid (And.intro hp5 (And.intro hB4 (And.intro hq0 (And.intro hq1 hlt))))
  clear hp4 ha2 hp5 hB4 hB3 hq0 hq1 hlt rE
  go_wp2_with fail
  refine (repeat_any E _ 0 1 p _ hp1 hp8 HQ.out.2.2.2.2 HQ.out.2.2.1 HQ.out.2.2.2.1).mono ?_
  rintro e w5 ⟨g, rfl, hfr, hb5⟩
  have hp6 := HQ.out.1.below hb5
  have hB5 := HQ.out.2.1.trans (hb5.mono HQ.out.2.1.size)
  clear hb5 HQ
  go_wp2_with fail
  refine (cut_any l (List.replicate p E) _ _ _ _ _ _ _ hp6 Hn.out hok.2 hok.1.1 hok.1.2 hfr (by rw [List.length_replicate]) hp1 (by omega) (Nat.le_refl _) hco).mono ?_
  rintro e w6 ⟨v, rfl, hown, hb6⟩
  have hB6 := hB5.trans (hb6.mono hB5.size)
  have Hown := Lib.hid (own_mono hown hB5.size)
  clear hown
  go_wp2
  go_ret2
  exact ⟨v, rfl, Hown.out, hB6⟩

/-- '!=' of two fractions. -/
theorem run_neq_rt (a1 a2 b1 b2 : Int) (w : World) : (binOp BinOp.neq 29 (.agg #[.int .i64 a1, .int .i64 a2]) (.agg #[.int .i64 b1, .int .i64 b2])).run Try.prog w = .ok (.bool (!(decide ((a1, a2) = (b1, b2))))) w := by
  by_cases e1 : a1 = b1
  · subst e1
    by_cases e2 : a2 = b2
    · simp [e2, go_sem]
    · simp [e2, go_sem]
  · simp [e1, go_sem]
theorem run_eq_rt (a1 a2 b1 b2 : Int) (w : World) : (binOp BinOp.eql 29 (.agg #[.int .i64 a1, .int .i64 a2]) (.agg #[.int .i64 b1, .int .i64 b2])).run Try.prog w = .ok (.bool (decide ((a1, a2) = (b1, b2)))) w := by
  by_cases e1 : a1 = b1
  · subst e1
    by_cases e2 : a2 = b2
    · simp [e2, go_sem]
    · simp [e2, go_sem]
  · simp [e1, go_sem]

theorem pts_at {w : World} {ao : Option Addr} {l : List (Int × Int)} (h : Pts w ao l) {k : Nat} (hk : k < l.length) :
    ∃ b off, ao = some ⟨b, off, none⟩ ∧ b < w.heap.size ∧ w.cell? ⟨b, off + k * 2, none⟩ = some (.int .i64 (l[k]).1) ∧ w.cell? ⟨b, off + k * 2 + 1, none⟩ = some (.int .i64 (l[k]).2) := by
  obtain ⟨b, off, rfl, hlt, hc⟩ := h.cells (by omega)
  have := hc k hk
  rw [List.getD_eq_getElem?_getD, List.getElem?_eq_getElem hk] at this
  exact ⟨b, off, rfl, hlt, this.1, this.2⟩

theorem list_ne {k1 k2 : List (Int × Int)} {k : Nat} (h1 : k < k1.length) (h2 : k < k2.length) (h : k1[k] ≠ k2[k]) : decide (k1 = k2) = false := by
  rw [decide_eq_false_iff_not]; rintro rfl; exact h rfl

set_option maxRecDepth 100000 in
set_option maxHeartbeats 2000000 in
theorem sameRats_any (l1 l2 : List (Int × Int)) (ao1 : Option Addr) (n1 c1 : Nat) (ao2 : Option Addr) (n2 c2 : Nat) (w : World) (h1 : Pts w ao1 l1) (h2 : Pts w ao2 l2) (e1 : n1 = l1.length) (e2 : n2 = l2.length) (hn1 : n1 ≤ 100000) (_ : n2 ≤ 100000) :
    Calls Try.prog 33 #[.slice ao1 n1 c1, .slice ao2 n2 c2] w fun e w' => e = .returned (.bool (decide (l1 = l2))) ∧ Below w.heap.size w w' := by
  have E1 := Lib.hid e1
  have E2 := Lib.hid e2
  clear e1 e2
  obtain ⟨R, hR⟩ : ∃ r, r = decide (l1 = l2) := ⟨_, rfl⟩
  rw [← hR]
  have HR := Lib.hid hR
  clear hR
  by_cases hne : n1 = n2
  · have hne2 : ((n1 : Int) != (n2 : Int)) = false := by simp [hne]
    have HN := Lib.hid hne
    clear hne
    go_enter Try.func33, Try.ntmps33
    go_wp2_with fail
    go_loopw [5] (fun i wr => ∃ k : Nat, k ≤ n1 ∧ i = .int .i64 k ∧ Below w.heap.size w wr ∧ Hid (∀ j (q1 : j < l1.length) (q2 : j < l2.length), j < k → l1[j] = l2[j])) (fun i _ => n1 - (intOf i).toNat)
    case atStart => exact ⟨0, Nat.zero_le _, rfl, Below.refl _ _, Lib.hid fun j _ _ hj => by omega⟩
    case round =>
      obtain ⟨k, hk, rfl, hb, hall⟩ := hrel
      by_cases hlt : k < n1
      · have k1 : k < l1.length := by have := E1.out; omega
        have k2 : k < l2.length := by have := E2.out; have := HN.out; omega
        obtain ⟨b, off, rfl, hbs, p1, p2⟩ := pts_at h1 k1
        obtain ⟨b2, off2, rfl, hbs2, q1, q2⟩ := pts_at h2 k2
        rw [← hb.cell (p := ⟨b, _, none⟩) hbs] at p1 p2
        rw [← hb.cell (p := ⟨b2, _, none⟩) hbs2] at q1 q2
        have i1 : (k : Int) < (n1 : Int) := by omega
        have i2 : (k : Int) < (n2 : Int) := by have := HN.out; omega
        obtain ⟨x, hx⟩ : ∃ x, x = l1[k] := ⟨_, rfl⟩
        obtain ⟨y, hy⟩ : ∃ y, y = l2[k] := ⟨_, rfl⟩
        obtain ⟨xa, xb⟩ := x
        obtain ⟨ya, yb⟩ := y
        rw [← hx] at p1 p2
        rw [← hy] at q1 q2
        simp only at p1 p2 q1 q2
        have Hx := Lib.hid hx
        have Hy := Lib.hid hy
        clear hx hy h1 h2
        have heq := run_neq_rt xa xb ya yb
        obtain ⟨bv, hbv⟩ : ∃ v, (decide ((xa, xb) = (ya, yb))) = v := ⟨_, rfl⟩
        rw [hbv] at heq
        have Hbv := Lib.hid hbv
        clear hbv
        go_wp2_with fail
        go_quiet (fail)
        clear heq
        cases bv with
        | true =>
          have hE : (xa, xb) = (ya, yb) := by simpa using Hbv.out
          have HE := Lib.hid hE
          clear hE
          go_wp2_with fail
          go_roundw
          case rel =>
            refine ⟨k + 1, by omega, by go_num, below_drewN hb _, Lib.hid fun j q1 q2 hj => ?_⟩
            by_cases e : j = k
            · subst e; rw [← Hx.out, ← Hy.out]; exact HE.out
            · exact hall.out j q1 q2 (by omega)
          case measure => simp [intOf]; omega
        | false =>
          have hE : (xa, xb) ≠ (ya, yb) := by simpa using Hbv.out
          have hr : Hid (R = false) := Lib.hid (by rw [HR.out]; exact list_ne k1 k2 (by rw [← Hx.out, ← Hy.out]; exact hE))
          clear hE
          go_wp2_with fail
          go_ret
          exact ⟨ret_bool hr.out.symm, below_drewN hb _⟩
      · have hk2 : k = n1 := by omega
        have Hk := Lib.hid hk2
        clear hk2
        have hr : Hid (R = true) := Lib.hid (by
          rw [HR.out, decide_eq_true_iff]
          refine List.ext_getElem (by rw [← E1.out, ← E2.out, HN.out]) fun j q1 q2 => hall.out j q1 q2 (by rw [Hk.out, E1.out]; exact q1))
        go_wp2_with fail
        go_ret
        exact ⟨ret_bool hr.out.symm, hb⟩
  · have hne2 : ((n1 : Int) != (n2 : Int)) = true := by simp; omega
    have hr : Hid (R = false) := Lib.hid (by
      rw [HR.out, decide_eq_false_iff_not]; rintro rfl; exact hne (by rw [E1.out, E2.out]))
    go_enter Try.func33, Try.ntmps33
    go_wp2_with fail
    go_ret
    exact ⟨ret_bool hr.out.symm, Below.refl _ _⟩
end Go.Proofs.Ytkpabehjehbidaa
