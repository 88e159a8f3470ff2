import Derived.Test.YtemlfklipkpacaaKu
/- Pieces in memory; which lists of pieces are the same; Even of package knife. -/
namespace Go.Proofs.Ytemlfklipkpacaa
open Go.RowKit
/-- A slice of pieces: where it begins, and what its cells hold. -/
structure Pcs (w : World) (ao : Option Addr) (l : List Pc) : Prop where
  cells : 0 < l.length → ∃ b off, ao = some ⟨b, off, none⟩ ∧ b < w.heap.size ∧ ∀ i (h : i < l.length), w.cell? ⟨b, off + i * 5, none⟩ = some (.int .i64 (l[i]).1) ∧ w.cell? ⟨b, off + i * 5 + 1, none⟩ = some (.int .i64 (l[i]).2.1.1) ∧ w.cell? ⟨b, off + i * 5 + 2, none⟩ = some (.int .i64 (l[i]).2.1.2) ∧ w.cell? ⟨b, off + i * 5 + 3, none⟩ = some (.int .i64 (l[i]).2.2.1) ∧ w.cell? ⟨b, off + i * 5 + 4, none⟩ = some (.int .i64 (l[i]).2.2.2)
theorem Pcs.below {w w' : World} {ao : Option Addr} {l : List Pc} (h : Pcs w ao l) (hb : Below w.heap.size w w') : Pcs w' ao l := by
  refine ⟨fun h0 => ?_⟩
  obtain ⟨b, off, rfl, hlt, hc⟩ := h.cells h0
  have hs := hb.size
  exact ⟨b, off, rfl, by omega, fun i hi => by
    obtain ⟨a1, a2, a3, a4, a5⟩ := hc i hi
    exact ⟨keep_cell hb a1, keep_cell hb a2, keep_cell hb a3, keep_cell hb a4, keep_cell hb a5⟩⟩
theorem pcs_at {w : World} {ao : Option Addr} {l : List Pc} (h : Pcs w ao l) {k : Nat} (hk : k < l.length) :
    ∃ b off, ao = some ⟨b, off, none⟩ ∧ b < w.heap.size ∧ w.cell? ⟨b, off + k * 5, none⟩ = some (.int .i64 (l[k]).1) ∧ w.cell? ⟨b, off + k * 5 + 1, none⟩ = some (.int .i64 (l[k]).2.1.1) ∧ w.cell? ⟨b, off + k * 5 + 2, none⟩ = some (.int .i64 (l[k]).2.1.2) ∧ w.cell? ⟨b, off + k * 5 + 3, none⟩ = some (.int .i64 (l[k]).2.2.1) ∧ w.cell? ⟨b, off + k * 5 + 4, none⟩ = some (.int .i64 (l[k]).2.2.2) := by
  obtain ⟨b, off, h1, h2, h3⟩ := h.cells (by omega)
  exact ⟨b, off, h1, h2, h3 k hk⟩
theorem flat5_at {L : List Pc} {k : Nat} (hk : k < L.length) :
    (flat5 L)[k * 5]? = some (.int .i64 (L[k]).1) ∧ (flat5 L)[k * 5 + 1]? = some (.int .i64 (L[k]).2.1.1) ∧ (flat5 L)[k * 5 + 2]? = some (.int .i64 (L[k]).2.1.2) ∧ (flat5 L)[k * 5 + 3]? = some (.int .i64 (L[k]).2.2.1) ∧ (flat5 L)[k * 5 + 4]? = some (.int .i64 (L[k]).2.2.2) := by
  induction L generalizing k with
  | nil => simp at hk
  | cons z r ih =>
    cases k with
    | zero => simp [flat5]
    | succ k =>
      have := ih (k := k) (by simpa using hk)
      rw [show (k + 1) * 5 = k * 5 + 5 by omega]
      simp only [flat5, List.flatMap_cons, List.getElem_cons_succ] at this ⊢
      exact this
theorem own_pcs {w : World} {base n : Nat} {e : TypeId} {v : Value} {L : List Pc} (h : w.ownsRow base e 5 v n (flat5 L)) (hn : n = L.length) :
    ∃ ao cap, v = .slice ao n cap ∧ Pcs w ao L := by
  by_cases h0 : 0 < n
  · obtain ⟨g, cap, rfl, hb, hlt, hnc, hc⟩ := own_cells h h0
    refine ⟨_, cap, rfl, ⟨fun _ => ⟨g, 0, rfl, hlt, fun i hi => ?_⟩⟩⟩
    obtain ⟨a1, a2, a3, a4, a5⟩ := flat5_at hi
    rw [Nat.zero_add]
    exact ⟨hc _ _ a1, hc _ _ a2, hc _ _ a3, hc _ _ a4, hc _ _ a5⟩
  · obtain ⟨-, h | h⟩ := h
    · exact ⟨none, 0, by rw [h.1]; congr 1; omega, ⟨fun h1 => by omega⟩⟩
    · obtain ⟨g, cap, cur, rfl, -⟩ := h
      exact ⟨_, _, rfl, ⟨fun h1 => by omega⟩⟩
theorem list_ne5 {k1 k2 : List Pc} {k : Nat} (h1 : k < k1.length) (h2 : k < k2.length) (h : k1[k] ≠ k2[k]) : decide (k1 = k2) = false := by
  rw [decide_eq_false_iff_not]; rintro rfl; exact h rfl
theorem run_neq_pc (a1 a2 a3 a4 a5 b1 b2 b3 b4 b5 : Int) (w : World) : (binOp BinOp.neq 86 (.agg #[.int .i64 a1, .int .i64 a2, .int .i64 a3, .int .i64 a4, .int .i64 a5]) (.agg #[.int .i64 b1, .int .i64 b2, .int .i64 b3, .int .i64 b4, .int .i64 b5])).run Try.prog w = .ok (.bool (!(decide (((a1, (a2, a3), (a4, a5)) : Pc) = (b1, (b2, b3), (b4, b5)))))) w := by
  by_cases e1 : a1 = b1
  · subst e1
    by_cases e2 : a2 = b2
    · subst e2
      by_cases e3 : a3 = b3
      · subst e3
        by_cases e4 : a4 = b4
        · subst e4
          by_cases e5 : a5 = b5
          · simp [e5, go_sem]
          · simp [e5, go_sem]
        · simp [e4, go_sem]
      · simp [e3, go_sem]
    · simp [e2, go_sem]
  · simp [e1, go_sem]

set_option maxRecDepth 100000 in
set_option maxHeartbeats 2000000 in
theorem samePieces_any (l1 l2 : List Pc) (ao1 : Option Addr) (n1 c1 : Nat) (ao2 : Option Addr) (n2 c2 : Nat) (w : World) (h1 : Pcs w ao1 l1) (h2 : Pcs w ao2 l2) (e1 : n1 = l1.length) (e2 : n2 = l2.length) (hn1 : n1 ≤ 100000) (_ : n2 ≤ 100000) :
    Calls Try.prog 45 #[.slice ao1 n1 c1, .slice ao2 n2 c2] w fun e w' => e = .returned (.bool (decide (l1 = l2))) ∧ Below w.heap.size w w' := by
  have E1 := Lib.hid e1
  have E2 := Lib.hid e2
  clear e1 e2
  obtain ⟨R, hR⟩ : ∃ r, r = decide (l1 = l2) := ⟨_, rfl⟩
  rw [← hR]
  have HR := Lib.hid hR
  clear hR
  by_cases hne : n1 = n2
  · have hne2 : ((n1 : Int) != (n2 : Int)) = false := by simp [hne]
    have HN := Lib.hid hne
    clear hne
    go_enter Try.func45, Try.ntmps45
    go_wp2_with fail
    go_loopw [5] (fun i wr => ∃ k : Nat, k ≤ n1 ∧ i = .int .i64 k ∧ Below w.heap.size w wr ∧ Hid (∀ j (q1 : j < l1.length) (q2 : j < l2.length), j < k → l1[j] = l2[j])) (fun i _ => n1 - (intOf i).toNat)
    case atStart => exact ⟨0, Nat.zero_le _, rfl, Below.refl _ _, Lib.hid fun j _ _ hj => by omega⟩
    case round =>
      obtain ⟨k, hk, rfl, hb, hall⟩ := hrel
      by_cases hlt : k < n1
      · have k1 : k < l1.length := by have := E1.out; omega
        have k2 : k < l2.length := by have := E2.out; have := HN.out; omega
        obtain ⟨b, off, rfl, hbs, p1, p2, p3, p4, p5⟩ := pcs_at h1 k1
        obtain ⟨b2, off2, rfl, hbs2, q1, q2, q3, q4, q5⟩ := pcs_at h2 k2
        rw [← hb.cell (p := ⟨b, _, none⟩) hbs] at p1 p2 p3 p4 p5
        rw [← hb.cell (p := ⟨b2, _, none⟩) hbs2] at q1 q2 q3 q4 q5
        have i1 : (k : Int) < (n1 : Int) := by omega
        have i2 : (k : Int) < (n2 : Int) := by have := HN.out; omega
        obtain ⟨x, hx⟩ : ∃ x, x = l1[k] := ⟨_, rfl⟩
        obtain ⟨y, hy⟩ : ∃ y, y = l2[k] := ⟨_, rfl⟩
        obtain ⟨x1, ⟨x2, x3⟩, ⟨x4, x5⟩⟩ := x
        obtain ⟨y1, ⟨y2, y3⟩, ⟨y4, y5⟩⟩ := y
        rw [← hx] at p1 p2 p3 p4 p5
        rw [← hy] at q1 q2 q3 q4 q5
        simp only at p1 p2 p3 p4 p5 q1 q2 q3 q4 q5
        have Hx := Lib.hid hx
        have Hy := Lib.hid hy
        clear hx hy h1 h2
        have heq := run_neq_pc x1 x2 x3 x4 x5 y1 y2 y3 y4 y5
        obtain ⟨bv, hbv⟩ : ∃ v, (decide (((x1, (x2, x3), (x4, x5)) : Pc) = (y1, (y2, y3), (y4, y5)))) = v := ⟨_, rfl⟩
        rw [hbv] at heq
        have Hbv := Lib.hid hbv
        clear hbv
        go_wp2_with fail
        go_quiet (fail)
        clear heq
        cases bv with
        | true =>
          have hE : ((x1, (x2, x3), (x4, x5)) : Pc) = (y1, (y2, y3), (y4, y5)) := by simpa using Hbv.out
          have HE := Lib.hid hE
          clear hE
          go_wp2_with fail
          go_roundw
          case rel =>
            refine ⟨k + 1, by omega, by go_num, below_drewN hb _, Lib.hid fun j q1 q2 hj => ?_⟩
            by_cases e : j = k
            · subst e; rw [← Hx.out, ← Hy.out]; exact HE.out
            · exact hall.out j q1 q2 (by omega)
          case measure => simp [intOf]; omega
        | false =>
          have hE : ((x1, (x2, x3), (x4, x5)) : Pc) ≠ (y1, (y2, y3), (y4, y5)) := by simpa using Hbv.out
          have hr : Hid (R = false) := Lib.hid (by rw [HR.out]; exact list_ne5 k1 k2 (by rw [← Hx.out, ← Hy.out]; exact hE))
          clear hE
          go_wp2_with fail
          go_ret
          exact ⟨ret_bool hr.out.symm, below_drewN hb _⟩
      · have hk2 : k = n1 := by omega
        have Hk := Lib.hid hk2
        clear hk2
        have hr : Hid (R = true) := Lib.hid (by
          rw [HR.out, decide_eq_true_iff]
          refine List.ext_getElem (by rw [← E1.out, ← E2.out, HN.out]) fun j q1 q2 => hall.out j q1 q2 (by rw [Hk.out, E1.out]; exact q1))
        go_wp2_with fail
        go_ret
        exact ⟨ret_bool hr.out.symm, hb⟩
  · have hne2 : ((n1 : Int) != (n2 : Int)) = true := by simp; omega
    have hr : Hid (R = false) := Lib.hid (by
      rw [HR.out, decide_eq_false_iff_not]; rintro rfl; exact hne (by rw [E1.out, E2.out]))
    go_enter Try.func45, Try.ntmps45
    go_wp2_with fail
    go_ret
    exact ⟨ret_bool hr.out.symm, Below.refl _ _⟩

set_option maxRecDepth 100000 in
set_option maxHeartbeats 4000000 in
theorem kEven_any (L : List Int) (V : List (List Int)) (aoL : Option Addr) (nL cL : Nat) (aoV : Option Addr) (nV cV : Nat) (w : World) (hf : Fld w aoL nL aoV nV L V) (hl : nL ≤ 100) (hv : nV ≤ 100) (hr : ∀ r ∈ V, r.length ≤ 100) :
    Calls Try.prog 51 #[.agg #[.slice aoL nL cL, .slice aoV nV cV]] w fun e w' => ∃ v, e = .returned (.tuple #[v, .int .i64 (Kn.val2 L V)]) ∧ w'.ownsRow w.heap.size 86 5 v (Kn.evL L V).length (flat5 (Kn.evL L V)) ∧ Below w.heap.size w w' := by
  have hA := (Below.refl _ w).alloc (Nat.le_refl _) (.cells #[.slice aoL nL cL, .slice aoV nV cV] 57)
  have rf := heap_alloc_new w (.cells #[.slice aoL nL cL, .slice aoV nV cV] 57)
  go_enter Try.func51, Try.ntmps51
  go_upto_region 1 with fail
  generalize w.alloc (.cells #[.slice aoL nL cL, .slice aoV nV cV] 57) = W0 at hA rf ⊢
  obtain ⟨⟨c0, c1⟩, -, -⟩ := row_fr rf
  go_wp2_with fail
  refine (kvalidateTwo_any L V _ _ _ _ _ _ W0 (hf.below hA) hl hv hr).mono ?_
  rintro e w1 ⟨rfl, hb1⟩
  have hB1 := hA.trans (hb1.mono hA.size)
  have rf1 := heap_keep hb1 rf
  clear c0 c1 rf hb1 hA
  by_cases hz : Kn.val2 L V = 0
  · have hz1 : Kn.val L V = 0 := by
      unfold Kn.val2 at hz
      split at hz
      · exact absurd hz (by assumption)
      · rename_i h; simpa using h
    have hz2 : V.length = 2 := by
      unfold Kn.val2 at hz
      rw [if_neg (by simpa using hz1)] at hz
      split at hz
      · assumption
      · cases hz
    have hok := Kn.val_ok.1 hz1
    have hk : Hid (Kn.evL L V = [(0, (0, 1), pr ((Kn.evenK L V).getD 0)), (1, pr ((Kn.evenK L V).getD 0), (Kn.stop L, 1))]) := Lib.hid (by unfold Kn.evL; rw [if_pos hz])
    rw [hz]
    clear hz1
    obtain ⟨⟨c0, c1⟩, -, -⟩ := row_fr rf1
    go_wp2_with fail
    refine (keven_any L V _ _ _ _ _ _ w1 (hf.below hB1) hok hz2).mono ?_
    rintro e w2 ⟨g, rfl, hov, hb2⟩
    go_wp2_with fail
    go_ret2
    refine ⟨.slice (some ⟨g, 0, none⟩) 2 2, by simp [hz], ?_, hB1.trans (hb2.mono hB1.size)⟩
    rw [hk.out]
    exact own_mono hov hB1.size
  · have hk : Hid (Kn.evL L V = []) := Lib.hid (by unfold Kn.evL; rw [if_neg hz])
    have hne : (Kn.val2 L V != 0) = true := by simp [hz]
    obtain ⟨C, hC⟩ : ∃ C, Kn.val2 L V = C := ⟨_, rfl⟩
    rw [hC] at hz hne ⊢
    have HC := Lib.hid hC
    clear hC
    go_wp2_with fail
    go_ret2
    refine ⟨.slice none 0 0, by simp [HC.out], ?_, hB1⟩
    rw [hk.out]
    exact own_none
end Go.Proofs.Ytemlfklipkpacaa
