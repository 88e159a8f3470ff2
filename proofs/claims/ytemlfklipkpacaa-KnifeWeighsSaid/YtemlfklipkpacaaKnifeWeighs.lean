/- For every input, whatever its lengths and its numbers: the statement KnifeWeighs returns true; each argument reads behind the call as it read before. No condition. -/
import Derived.Test.YtemlfklipkpacaaRows
import Derived.Test.YtemlfklipkpacaaNx
import Derived.ProofKit
import Derived.Lib.SmallJoins
namespace Go.Proofs.Ytemlfklipkpacaa
open Go.Joins Go.Deep Go.ChangeShapes Go.WideShapes Go.ChangeAt Go.RowKit

theorem knifeWeighsOwn : ownKnob Try.prog.godebug = none := by kernel_rfl
theorem knifeWeighsLaid : laidOutB Try.prog = true := by kernel_rfl

set_option maxRecDepth 100000 in
theorem knifeWeighs_lifted (os : Os) (started : os.Started) (H : Type) (enc : TypeId × Value → H) :
    ReturnsInHanded {} Try.checked os 12 .any (Rows.knifeWeighsSpec.pre6 enc Try.prog Try.f12 Rows.knifeWeighsRow.domain false) (Rows.knifeWeighsSpec.post enc Try.prog Try.f12 false true false false) := by
  refine returnsInHanded_of_change (C := Try.checked) knifeWeighsOwn started (by kernel_rfl) Try.func12
    (ChangeSpec.witness6 (enc := enc) (C := Try.checked) false ⟨#[], #[.agg #[.slice none 0 0, .slice none 0 0], .int .i64 0, .int .i64 0], []⟩ 8 (by kernel_rfl) (by kernel_rfl) (by kernel_rfl) (by kernel_rfl)) ?_
  intro W base args ds gs before hval0 hW _ _
  have hval : ∀ (j : Nat) t v, Try.f12.params[j]? = some t → args[j]? = some v → Value.okWide Try.prog W .any base t v := hval0
  have hW' := hW
  obtain ⟨p, q, hA0, hV, rfl, hfz, hnd⟩ := hW
  have hA : DataW.TrodAll enc Try.prog W 0 (fun _ => true) true Try.f12.params.toList args.toList ds p := hA0
  rw [Try.params12] at hA hval
  obtain ⟨v0, v1, v2, d0, d1, d2, p0, p1, p2, rfl, rfl, rfl, h0, h1, h2⟩ := trodAll_three hA
  obtain ⟨rfl, rfl⟩ := trodVars_none hV
  obtain ⟨aoL0, nL0, cL0, L0, aoV0, nV0, cV0, V0, rfl, hnL0, hL0, hrL0, hnV0, hV0, hrV0, hcL0, hcV0⟩ := open_field (hval 0 57 v0 rfl rfl) h0
  obtain ⟨z1, rfl, -⟩ := open_one (hval 1 3 v1 rfl rfl) h1
  obtain ⟨z2, rfl, -⟩ := open_one (hval 2 3 v2 rfl rfl) h2
  clear hA0 hval0
  have hlt0 : ∀ x ∈ p0, x.block < W.heap.size := fun x hx => by simpa using hW'.lt x (by simp [hx])
  have hlt1 : ∀ x ∈ p1, x.block < W.heap.size := fun x hx => by simpa using hW'.lt x (by simp [hx])
  have hlt2 : ∀ x ∈ p2, x.block < W.heap.size := fun x hx => by simpa using hW'.lt x (by simp [hx])
  refine (knifeWeighs_any L0 aoL0 nL0 cL0 V0 aoV0 nV0 cV0 z1 z2 W ⟨hL0,hV0,hnL0,hnV0⟩).mono fun e W' ⟨he, hbelow⟩ => ?_
  subst he
  refine ⟨_, rfl, _, _, _, [], p0 ++ (p1 ++ p2), [], hW', ?_, ?_, ?_, hbelow.frame _, fun h => by cases h⟩
  · exact trodAll_mk1 (shut_bool Try.underlying4 true)
  · exact trodAll_mk3 (Below.trod knifeWeighsLaid (by kernel_rfl) (of_decide_eq_true (by kernel_rfl)) h0 hbelow hlt0) (Below.trod knifeWeighsLaid (by kernel_rfl) (of_decide_eq_true (by kernel_rfl)) h1 hbelow hlt1) (Below.trod knifeWeighsLaid (by kernel_rfl) (of_decide_eq_true (by kernel_rfl)) h2 hbelow hlt2)
  · rfl

theorem knifeWeighs_holds : Rows.KnifeWeighsSaid :=
  OpenClaim.holds_of_wide 12 Try.f12 rfl rfl rfl rfl rfl rfl rfl ⟨rfl, rfl, rfl, rfl, rfl⟩ rfl rfl rfl rfl rfl (by kernel_rfl) Try.func12 (by kernel_rfl)
    (of_decide_eq_true (by kernel_rfl)) (by unfold Func.isWrapper; first | (rw [if_pos (by decide +kernel)]; kernel_rfl) | (rw [if_neg (by decide +kernel)]; exact ⟨rfl, rfl⟩))
    (fun os started H enc _ => knifeWeighs_lifted os started H enc)
end Go.Proofs.Ytemlfklipkpacaa
