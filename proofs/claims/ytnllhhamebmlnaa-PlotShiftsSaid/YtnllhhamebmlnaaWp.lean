import Derived.Test.YtnllhhamebmlnaaRows
import Derived.Test.YtnllhhamebmlnaaGeo
import Derived.WalkKit
import Derived.WalkSpells
import Derived.WalkLawsBesides
import Derived.Lib.Hide
namespace Go.Proofs.Ytnllhhamebmlnaa
open Go.RowKit

theorem ret_int {k : IntKind} {a b : Int} (h : a = b) : Ending.returned (.int k a) = .returned (.int k b) := by rw [h]
theorem ret_bool {a b : Bool} (h : a = b) : Ending.returned (.bool a) = .returned (.bool b) := by rw [h]
theorem bcell {W w1 : World} (hb : Below W.heap.size W w1) : (∀ b o, b < W.heap.size → w1.cell? ⟨b, o, none⟩ = W.cell? ⟨b, o, none⟩) ∧ (∀ b o, b < W.heap.size → w1.frozen? ⟨b, o, none⟩ = W.frozen? ⟨b, o, none⟩) :=
  ⟨fun b o h => hb.cell (p := ⟨b, o, none⟩) h, fun b o h => hb.frozen (p := ⟨b, o, none⟩) h⟩

theorem run_eq_pt (a1 a2 b1 b2 : Int) (w : World) : (binOp BinOp.eql 32 (.agg #[.int .i64 a1, .int .i64 a2]) (.agg #[.int .i64 b1, .int .i64 b2])).run Try.prog w = .ok (.bool (Geo.peq a1 a2 b1 b2)) w := by
  unfold Geo.peq
  by_cases e1 : a1 = b1
  · subst e1
    by_cases e2 : a2 = b2
    · simp [e2, go_sem]
    · simp [e2, go_sem]
  · simp [e1, go_sem]

/-- '==' of two points, behind a name. -/
theorem wpList_eq_pt {ops : Array Oper} {rest : List Oper} {o : Oper} {a : Act} {w : World} {Q : Exit → Act → World → Prop} (hgd : o.guard = none) (i j : Nat)
    (ho : o.op = .binOp .eql 32 (.tmp i) (.tmp j) 32) (a1 a2 b1 b2 : Int) (hx : a.tmps[i]?.getD undef = .agg #[.int .i64 a1, .int .i64 a2]) (hy : a.tmps[j]?.getD undef = .agg #[.int .i64 b1, .int .i64 b2])
    (h : wpList Try.prog ops Q rest (a.put o.dst (.bool (Geo.peq a1 a2 b1 b2))) w) : wpList Try.prog ops Q (o :: rest) a w := by
  refine wpList_plain hgd fun K hK => ?_
  have h2 := hK _ _ h
  clear h hK
  unfold Oper.wp
  have e : (execOp a.eval o).run Try.prog w = .ok (.value (.bool (Geo.peq a1 a2 b1 b2))) w := by
    unfold Geo.peq
    by_cases e1 : a1 = b1
    · subst e1
      by_cases e2 : a2 = b2
      · simp [execOp, ho, hx, hy, e2, go_sem]
      · simp [execOp, ho, hx, hy, e2, go_sem]
    · simp [execOp, ho, hx, hy, e1, go_sem]
  rw [e]
  exact h2
end Go.Proofs.Ytnllhhamebmlnaa
