/- For every input, whatever its lengths and its numbers: the statement KnifeWithout returns true; each argument reads behind the call as it read before. No condition. -/
import Derived.Test.YtemlfklipkpacaaRows
import Derived.Test.YtemlfklipkpacaaNs
import Derived.ProofKit
import Derived.Lib.SmallJoins
namespace Go.Proofs.Ytemlfklipkpacaa
open Go.Joins Go.Deep Go.ChangeShapes Go.WideShapes Go.ChangeAt Go.RowKit

theorem knifeWithoutOwn : ownKnob Try.prog.godebug = none := by kernel_rfl
theorem knifeWithoutLaid : laidOutB Try.prog = true := by kernel_rfl

set_option maxRecDepth 100000 in
theorem knifeWithout_lifted (os : Os) (started : os.Started) (H : Type) (enc : TypeId × Value → H) :
    ReturnsInHanded {} Try.checked os 13 .any (Rows.knifeWithoutSpec.pre6 enc Try.prog Try.f13 Rows.knifeWithoutRow.domain false) (Rows.knifeWithoutSpec.post enc Try.prog Try.f13 false true false false) := by
  refine returnsInHanded_of_change (C := Try.checked) knifeWithoutOwn started (by kernel_rfl) Try.func13
    (ChangeSpec.witness6 (enc := enc) (C := Try.checked) false ⟨#[], #[.agg #[.slice none 0 0, .slice none 0 0], .agg #[.int .i64 0, .int .i64 0, .int .i64 0, .int .i64 0, .int .i64 0]], []⟩ 8 (by kernel_rfl) (by kernel_rfl) (by kernel_rfl) (by kernel_rfl)) ?_
  intro W base args ds gs before hval0 hW _ _
  have hval : ∀ (j : Nat) t v, Try.f13.params[j]? = some t → args[j]? = some v → Value.okWide Try.prog W .any base t v := hval0
  have hW' := hW
  obtain ⟨p, q, hA0, hV, rfl, hfz, hnd⟩ := hW
  have hA : DataW.TrodAll enc Try.prog W 0 (fun _ => true) true Try.f13.params.toList args.toList ds p := hA0
  rw [Try.params13] at hA hval
  obtain ⟨v0, v1, d0, d1, p0, p1, rfl, rfl, rfl, h0, h1⟩ := trodAll_two hA
  obtain ⟨rfl, rfl⟩ := trodVars_none hV
  obtain ⟨aoL0, nL0, cL0, L0, aoV0, nV0, cV0, V0, rfl, hnL0, hL0, hrL0, hnV0, hV0, hrV0, hcL0, hcV0⟩ := open_field (hval 0 57 v0 rfl rfl) h0
  obtain ⟨o1, n1, d1, m1, e1, rfl, ro1, rn1, rd1, rm1, re1⟩ := open_asked (hval 1 76 v1 rfl rfl) h1
  clear hA0 hval0
  have hlt0 : ∀ x ∈ p0, x.block < W.heap.size := fun x hx => by simpa using hW'.lt x (by simp [hx])
  have hlt1 : ∀ x ∈ p1, x.block < W.heap.size := fun x hx => by simpa using hW'.lt x (by simp [hx])
  refine (knifeWithout_any L0 aoL0 nL0 cL0 V0 aoV0 nV0 cV0 o1 n1 d1 m1 e1 W ⟨hL0,hV0,hnL0,hnV0⟩ rn1 rm1).mono fun e W' ⟨he, hbelow⟩ => ?_
  subst he
  refine ⟨_, rfl, _, _, _, [], p0 ++ p1, [], hW', ?_, ?_, ?_, hbelow.frame _, fun h => by cases h⟩
  · exact trodAll_mk1 (shut_bool Try.underlying4 true)
  · exact trodAll_mk2 (Below.trod knifeWithoutLaid (by kernel_rfl) (of_decide_eq_true (by kernel_rfl)) h0 hbelow hlt0) (Below.trod knifeWithoutLaid (by kernel_rfl) (of_decide_eq_true (by kernel_rfl)) h1 hbelow hlt1)
  · rfl

theorem knifeWithout_holds : Rows.KnifeWithoutSaid :=
  OpenClaim.holds_of_wide 13 Try.f13 rfl rfl rfl rfl rfl rfl rfl ⟨rfl, rfl, rfl, rfl, rfl⟩ rfl rfl rfl rfl rfl (by kernel_rfl) Try.func13 (by kernel_rfl)
    (of_decide_eq_true (by kernel_rfl)) (by unfold Func.isWrapper; first | (rw [if_pos (by decide +kernel)]; kernel_rfl) | (rw [if_neg (by decide +kernel)]; exact ⟨rfl, rfl⟩))
    (fun os started H enc _ => knifeWithout_lifted os started H enc)
end Go.Proofs.Ytemlfklipkpacaa
