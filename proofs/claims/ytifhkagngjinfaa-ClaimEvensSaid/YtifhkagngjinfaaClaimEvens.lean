/- For every input, whatever its lengths and its numbers: the statement ClaimEvens returns true; each argument reads behind the call as it read before. No condition. -/
import Derived.Test.YtifhkagngjinfaaRows
import Derived.Test.YtifhkagngjinfaaLm
import Derived.ProofKit
import Derived.Lib.SmallJoins
namespace Go.Proofs.Ytifhkagngjinfaa
open Go.Joins Go.Deep Go.ChangeShapes Go.WideShapes Go.ChangeAt Go.RowKit

theorem claimEvensOwn : ownKnob Try.prog.godebug = none := by kernel_rfl
theorem claimEvensLaid : laidOutB Try.prog = true := by kernel_rfl

set_option maxRecDepth 100000 in
theorem claimEvens_lifted (os : Os) (started : os.Started) (H : Type) (enc : TypeId × Value → H) :
    ReturnsInHanded {} Try.checked os 11 .any (Rows.claimEvensSpec.pre6 enc Try.prog Try.f11 Rows.claimEvensRow.domain false) (Rows.claimEvensSpec.post enc Try.prog Try.f11 false true false false) := by
  refine returnsInHanded_of_change (C := Try.checked) claimEvensOwn started (by kernel_rfl) Try.func11
    (ChangeSpec.witness6 (enc := enc) (C := Try.checked) false ⟨#[], #[.agg #[.slice none 0 0, .int .i64 0], .slice none 0 0], []⟩ 8 (by kernel_rfl) (by kernel_rfl) (by kernel_rfl) (by kernel_rfl)) ?_
  intro W base args ds gs before hval0 hW _ _
  have hval : ∀ (j : Nat) t v, Try.f11.params[j]? = some t → args[j]? = some v → Value.okWide Try.prog W .any base t v := hval0
  have hW' := hW
  obtain ⟨p, q, hA0, hV, rfl, hfz, hnd⟩ := hW
  have hA : DataW.TrodAll enc Try.prog W 0 (fun _ => true) true Try.f11.params.toList args.toList ds p := hA0
  rw [Try.params11] at hA hval
  obtain ⟨v0, v1, d0, d1, p0, p1, rfl, rfl, rfl, h0, h1⟩ := trodAll_two hA
  obtain ⟨rfl, rfl⟩ := trodVars_none hV
  obtain ⟨ao0, len0, cap0, l0, z0, rfl, hlen0, hp0, hr0, rz0⟩ := open_case (hval 0 24 v0 rfl rfl) h0
  obtain ⟨ao1, len1, cap1, l1, rfl, hlen1, hcap1, hp1, hr1⟩ := open_rats (hval 1 27 v1 rfl rfl) h1
  clear hA0 hval0
  have hlt0 : ∀ x ∈ p0, x.block < W.heap.size := fun x hx => by simpa using hW'.lt x (by simp [hx])
  have hlt1 : ∀ x ∈ p1, x.block < W.heap.size := fun x hx => by simpa using hW'.lt x (by simp [hx])
  refine (claimEvens_any l0 ao0 len0 cap0 z0 l1 ao1 len1 cap1 W hp0 hlen0 hr0 rz0 hp1 hlen1 hr1).mono fun e W' ⟨he, hbelow⟩ => ?_
  subst he
  refine ⟨_, rfl, _, _, _, [], p0 ++ p1, [], hW', ?_, ?_, ?_, hbelow.frame _, fun h => by cases h⟩
  · exact trodAll_mk1 (shut_bool Try.underlying4 true)
  · exact trodAll_mk2 (Below.trod claimEvensLaid (by kernel_rfl) (of_decide_eq_true (by kernel_rfl)) h0 hbelow hlt0) (Below.trod claimEvensLaid (by kernel_rfl) (of_decide_eq_true (by kernel_rfl)) h1 hbelow hlt1)
  · rfl

theorem claimEvens_holds : Rows.ClaimEvensSaid :=
  OpenClaim.holds_of_wide 11 Try.f11 rfl rfl rfl rfl rfl rfl rfl ⟨rfl, rfl, rfl, rfl, rfl⟩ rfl rfl rfl rfl rfl (by kernel_rfl) Try.func11 (by kernel_rfl)
    (of_decide_eq_true (by kernel_rfl)) (by unfold Func.isWrapper; first | (rw [if_pos (by decide +kernel)]; kernel_rfl) | (rw [if_neg (by decide +kernel)]; exact ⟨rfl, rfl⟩))
    (fun os started H enc _ => claimEvens_lifted os started H enc)
end Go.Proofs.Ytifhkagngjinfaa
