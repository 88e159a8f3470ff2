import Derived.Orders
namespace Go.Proofs.Ytkpabehjehbidaa
open Go

/-- A region that draws its order, by an invariant: what has been carried out so far, the frame, the world. -/
theorem wpAny_inv {P : Program} {ops : Array Oper} {Q : Exit → Act → World → Prop} {md : Region.Mode} (Inv : Array Bool → Act → World → Prop)
    (hstep : ∀ listed a w, Inv listed a w → ∀ i ∈ Region.ready md ops listed, wpOp P ops Q i (Inv (listed.setIfInBounds i true)) a w)
    (hend : ∀ listed a w, Inv listed a w → Region.ready md ops listed = [] → Q .normal a w) :
    ∀ (fuel : Nat) (listed : Array Bool) (a : Act) (w : World), listed.toList.count false ≤ fuel → Inv listed a w → wpAny P md ops Q fuel listed a w := by
  intro fuel
  induction fuel with
  | zero =>
    intro listed a w hf hI
    have hr : Region.ready md ops listed = [] := by
      unfold Region.ready
      rw [List.filter_eq_nil_iff]
      intro i _ h
      rw [Bool.and_eq_true] at h
      have h1 := h.1
      rw [Bool.not_eq_true'] at h1
      have hc : false ∈ listed.toList := by
        rw [Array.getD_eq_getD_getElem?] at h1
        cases hg : listed[i]? with
        | none => rw [hg] at h1; cases h1
        | some b => rw [hg] at h1; simp only [Option.getD_some] at h1; subst h1; exact Array.mem_toList_iff.2 (Array.mem_of_getElem? hg)
      have := List.count_pos_iff.2 hc
      omega
    exact ⟨hr, hend _ _ _ hI hr⟩
  | succ fuel ih =>
    intro listed a w hf hI
    refine ⟨fun hr => hend _ _ _ hI hr, fun i hi => wpOp_mono (fun a' w' hI' => ih _ a' w' ?_ hI') (hstep _ _ _ hI i hi)⟩
    unfold Region.ready at hi
    have h := (List.mem_filter.1 hi).2
    rw [Bool.and_eq_true] at h
    have h1 := h.1
    rw [Bool.not_eq_true', Array.getD_eq_getD_getElem?] at h1
    cases hg : listed[i]? with
    | none => rw [hg] at h1; cases h1
    | some b =>
      rw [hg] at h1
      simp only [Option.getD_some] at h1
      subst h1
      obtain ⟨hlt, hv⟩ := Array.getElem?_eq_some_iff.1 hg
      have hlt' : i < listed.toList.length := by simpa using hlt
      have hcs : (listed.setIfInBounds i true).toList.count false = listed.toList.count false - 1 := by
        rw [Array.toList_setIfInBounds, List.count_set hlt']
        simp [hv]
      omega

theorem wp_region_inv {P : Program} {id : Nat} {ops : Array Oper} {Q : Exit → Act → World → Prop} {a : Act} {w : World} (hm : P.follows .mixedOrders = true) (Inv : Array Bool → Act → World → Prop)
    (h0 : Inv (Array.replicate ops.size false) a { w with drawn := w.drawn + 1 })
    (hstep : ∀ listed a w, Inv listed a w → ∀ i ∈ Region.ready .any ops listed, wpOp P ops Q i (Inv (listed.setIfInBounds i true)) a w)
    (hend : ∀ listed a w, Inv listed a w → Region.ready .any ops listed = [] → Q .normal a w) : (Code.region id ops true).wp P Q a w :=
  wp_region_any hm (wpAny_inv Inv hstep hend _ _ _ _ (by simp) h0)
theorem wpOp_at {P : Program} {ops : Array Oper} {Q : Exit → Act → World → Prop} {i : Nat} {o : Oper} {K : Act → World → Prop} {a : Act} {w : World} (ho : ops[i]? = some o) (hg : o.guard = none) (h : o.wp P a w K Q) : wpOp P ops Q i K a w := by
  unfold wpOp
  rw [ho]
  simp only []
  rw [if_pos (by simp [Region.wanted, hg])]
  exact .inl h
end Go.Proofs.Ytkpabehjehbidaa
