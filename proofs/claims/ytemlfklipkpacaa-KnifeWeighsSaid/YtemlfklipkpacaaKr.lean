import Derived.Test.YtemlfklipkpacaaKq
/- A field that is cut once. -/
namespace Go.Proofs.Ytemlfklipkpacaa
open Go.RowKit

theorem own_ten {w : World} {base g : Nat} {t : TypeId} {c : Array Value} (hg : base ≤ g) (h : w.heap[g]? = some (.cells c t (0, 0))) {n size : Nat} (hc : c.size = n * size) (hn : n ≤ 1000) : w.ownsRow base t size (.slice (some ⟨g, 0, none⟩) n n) n c.toList :=
  ⟨by simpa using hc, .inr ⟨g, n, c, rfl, hg, h, Nat.le_refl _, by unfold maxLen; omega, hc, by rw [List.take_of_length_le (by simp; omega)]⟩⟩

set_option maxRecDepth 100000 in
set_option maxHeartbeats 4000000 in
theorem ksplit_any (L : List Int) (V : List (List Int)) (l r : Int) (cut : Rat) (aoL : Option Addr) (nL cL : Nat) (aoV : Option Addr) (nV cV : Nat) (w : World) (hf : Fld w aoL nL aoV nV L V) (hok : Kn.Ok L V) :
    Calls Try.prog 146 #[.agg #[.slice aoL nL cL, .slice aoV nV cV], .int .i64 l, Fr cut, .int .i64 r] w fun e w' => ∃ g, e = .returned (.slice (some ⟨g, 0, none⟩) 2 2) ∧ w'.ownsRow w.heap.size 86 5 (.slice (some ⟨g, 0, none⟩) 2 2) 2 (flat5 [(l, (0, 1), pr cut), (r, pr cut, (Kn.stop L, 1))]) ∧ Below w.heap.size w w' := by
  have hA := below_alloc2 w (.cells #[.slice aoL nL cL, .slice aoV nV cV] 57) (.cells #[.int .i64 cut.num, .int .i64 cut.den] 124)
  have rf := heap_alloc2_old w (.cells #[.slice aoL nL cL, .slice aoV nV cV] 57) (.cells #[.int .i64 cut.num, .int .i64 cut.den] 124)
  have rc := heap_alloc2_new w (.cells #[.slice aoL nL cL, .slice aoV nV cV] 57) (.cells #[.int .i64 cut.num, .int .i64 cut.den] 124)
  go_enter Try.func146, Try.ntmps146
  go_upto_region 1 with fail
  generalize (w.alloc (.cells #[.slice aoL nL cL, .slice aoV nV cV] 57)).alloc (.cells #[.int .i64 cut.num, .int .i64 cut.den] 124) = wr at hA rf rc ⊢
  obtain ⟨⟨x0, x1⟩, -, -⟩ := row_fr rf
  obtain ⟨⟨y0, y1⟩, -, -⟩ := row_fr rc
  have hfr := hf.below hA
  have hdr : Below wr.heap.size wr wr.drew := below_drewN (Below.refl wr.heap.size wr) 1
  obtain ⟨G, hG⟩ : ∃ g, g = w.heap.size := ⟨_, rfl⟩
  rw [← hG] at x0 x1 y0 y1 ⊢
  have HG := Lib.hid hG
  clear hG
  have hS0 := And.intro x0 (And.intro x1 (And.intro y0 y1))
  have keepS : ∀ {W : World}, Below wr.heap.size wr W → (wr.cell? ⟨G, 0, none⟩ = some (.slice aoL nL cL) ∧ wr.cell? ⟨G, 1, none⟩ = some (.slice aoV nV cV) ∧ wr.cell? ⟨G + 1, 0, none⟩ = some (.int .i64 cut.num) ∧ wr.cell? ⟨G + 1, 1, none⟩ = some (.int .i64 cut.den)) → (W.cell? ⟨G, 0, none⟩ = some (.slice aoL nL cL) ∧ W.cell? ⟨G, 1, none⟩ = some (.slice aoV nV cV) ∧ W.cell? ⟨G + 1, 0, none⟩ = some (.int .i64 cut.num) ∧ W.cell? ⟨G + 1, 1, none⟩ = some (.int .i64 cut.den)) :=
    fun hb h => ⟨keep_cell hb h.1, keep_cell hb h.2.1, keep_cell hb h.2.2.1, keep_cell hb h.2.2.2⟩
  refine wp_region_held_drew (S := fun w' => w'.cell? ⟨G, 0, none⟩ = some (.slice aoL nL cL) ∧ w'.cell? ⟨G, 1, none⟩ = some (.slice aoV nV cV) ∧ w'.cell? ⟨G + 1, 0, none⟩ = some (.int .i64 cut.num) ∧ w'.cell? ⟨G + 1, 1, none⟩ = some (.int .i64 cut.den)) (by kernel_rfl) (keepS hdr hS0) (fun hHeld => ?_)
  refine wpAnyH_take (i := 0) (v := .int .i64 l) rfl (by kernel_rfl) (by kernel_rfl) (by kernel_rfl) (fun _ _ _ h => h) (Or.inl ⟨by rfl, fun w hSw => ?_⟩) (by assumption) ?_
  · obtain ⟨s0, s1, s2, s3⟩ := hSw
    (go_simp <;> omega)
  try simp only [List.getElem_toArray, List.getElem_cons_zero, Act.put, List.setIfInBounds_toArray, List.set_cons_zero, List.set_cons_succ]
  refine wpAnyH_take (i := 2) (v := Fr cut) rfl (by kernel_rfl) (by kernel_rfl) (by kernel_rfl) (fun _ _ _ h => h) (Or.inl ⟨by rfl, fun w hSw => ?_⟩) (by assumption) ?_
  · obtain ⟨s0, s1, s2, s3⟩ := hSw
    (go_simp <;> omega)
  try simp only [List.getElem_toArray, List.getElem_cons_zero, List.getElem_cons_succ, Act.put, List.setIfInBounds_toArray, List.set_cons_zero, List.set_cons_succ]
  refine wpAnyH_take (i := 4) (v := .int .i64 r) rfl (by kernel_rfl) (by kernel_rfl) (by kernel_rfl) (fun _ _ _ h => h) (Or.inl ⟨by rfl, fun w hSw => ?_⟩) (by assumption) ?_
  · obtain ⟨s0, s1, s2, s3⟩ := hSw
    (go_simp <;> omega)
  try simp only [List.getElem_toArray, List.getElem_cons_zero, List.getElem_cons_succ, Act.put, List.setIfInBounds_toArray, List.set_cons_zero, List.set_cons_succ]
  refine wpAnyH_take (i := 5) (v := Fr cut) rfl (by kernel_rfl) (by kernel_rfl) (by kernel_rfl) (fun _ _ _ h => h) (Or.inl ⟨by rfl, fun w hSw => ?_⟩) (by assumption) ?_
  · obtain ⟨s0, s1, s2, s3⟩ := hSw
    (go_simp <;> omega)
  try simp only [List.getElem_toArray, List.getElem_cons_zero, List.getElem_cons_succ, Act.put, List.setIfInBounds_toArray, List.set_cons_zero, List.set_cons_succ]
  refine wpAnyH_take (i := 6) (v := .agg #[.slice aoL nL cL, .slice aoV nV cV]) rfl (by kernel_rfl) (by kernel_rfl) (by kernel_rfl) (fun _ _ _ h => h) (Or.inl ⟨by rfl, fun w hSw => ?_⟩) (by assumption) ?_
  · obtain ⟨s0, s1, s2, s3⟩ := hSw
    (go_simp <;> omega)
  try simp only [List.getElem_toArray, List.getElem_cons_zero, List.getElem_cons_succ, Act.put, List.setIfInBounds_toArray, List.set_cons_zero, List.set_cons_succ]
  refine wpAnyH_ready (rs := [1]) (by kernel_rfl) (by simp) ?_
  refine AllReadyH.cons rfl (fun K hK => ?_) AllReadyH.nil
  go_simp
  go_at_call 124
  refine (kwhole_any 0 _).mono ?_
  rintro e z1 ⟨rfl, hb1⟩
  have hb1' := hdr.trans (hb1.mono hdr.size)
  (try dsimp only)
  refine hK.out _ _ (keepS hb1' hS0) (fun hHeld => ?_)
  clear hK K
  try simp only [List.getElem_toArray, List.getElem_cons_zero, List.getElem_cons_succ, Act.put, List.setIfInBounds_toArray, List.set_cons_zero, List.set_cons_succ]
  refine wpAnyH_ready (rs := [3]) (by kernel_rfl) (by simp) ?_
  refine AllReadyH.cons rfl (fun K hK => ?_) AllReadyH.nil
  go_simp
  go_at_call 127
  refine (kpiece_any l _ _ _ _ _).mono ?_
  rintro e z2 ⟨rfl, hb2⟩
  have hb2' := hb1'.trans (hb2.mono hb1'.size)
  (try dsimp only)
  refine hK.out _ _ (keepS hb2' hS0) (fun hHeld => ?_)
  clear hK K
  try simp only [List.getElem_toArray, List.getElem_cons_zero, List.getElem_cons_succ, Act.put, List.setIfInBounds_toArray, List.set_cons_zero, List.set_cons_succ]
  refine wpAnyH_ready (rs := [7]) (by kernel_rfl) (by simp) ?_
  refine AllReadyH.cons rfl (fun K hK => ?_) AllReadyH.nil
  go_simp
  go_at_call 125
  refine (klength_any L _ _ _ _ aoV nV cV rfl _ (hfr.below hb2').hL hf.nl hok.ln hok.l6).mono ?_
  rintro e z3 ⟨rfl, hb3⟩
  have hb3' := hb2'.trans (hb3.mono hb2'.size)
  (try dsimp only)
  refine hK.out _ _ (keepS hb3' hS0) (fun hHeld => ?_)
  clear hK K
  try simp only [List.getElem_toArray, List.getElem_cons_zero, List.getElem_cons_succ, Act.put, List.setIfInBounds_toArray, List.set_cons_zero, List.set_cons_succ]
  refine wpAnyH_ready (rs := [8]) (by kernel_rfl) (by simp) ?_
  refine AllReadyH.cons rfl (fun K hK => ?_) AllReadyH.nil
  go_simp
  go_at_call 124
  refine (kwhole_any (Kn.stop L) _).mono ?_
  rintro e z4 ⟨rfl, hb4⟩
  have hb4' := hb3'.trans (hb4.mono hb3'.size)
  (try dsimp only)
  refine hK.out _ _ (keepS hb4' hS0) (fun hHeld => ?_)
  clear hK K
  try simp only [List.getElem_toArray, List.getElem_cons_zero, List.getElem_cons_succ, Act.put, List.setIfInBounds_toArray, List.set_cons_zero, List.set_cons_succ]
  refine wpAnyH_ready (rs := [9]) (by kernel_rfl) (by simp) ?_
  refine AllReadyH.cons rfl (fun K hK => ?_) AllReadyH.nil
  go_simp
  go_at_call 127
  refine (kpiece_any r _ _ _ _ _).mono ?_
  rintro e z5 ⟨rfl, hb5⟩
  have hb5' := hb4'.trans (hb5.mono hb4'.size)
  (try dsimp only)
  refine hK.out _ _ (keepS hb5' hS0) (fun hHeld => ?_)
  clear hK K
  try simp only [List.getElem_toArray, List.getElem_cons_zero, List.getElem_cons_succ, Act.put, List.setIfInBounds_toArray, List.set_cons_zero, List.set_cons_succ]
  refine wpAnyH_ready (rs := [10]) (by kernel_rfl) (by simp) ?_
  refine AllReadyH.cons rfl (fun K hK => ?_) AllReadyH.nil
  go_simp
  have hb6' := hb5'.alloc hb5'.size (.cells #[.int .i64 l, .int .i64 (0 : Rat).num, .int .i64 (0 : Rat).den, .int .i64 cut.num, .int .i64 cut.den, .int .i64 r, .int .i64 cut.num, .int .i64 cut.den, .int .i64 (Kn.stop L : Rat).num, .int .i64 (Kn.stop L : Rat).den] 86)
  (try dsimp only)
  refine hK.out _ _ (keepS hb6' hS0) (fun hHeld => ?_)
  clear hK K
  try simp only [List.getElem_toArray, List.getElem_cons_zero, List.getElem_cons_succ, Act.put, List.setIfInBounds_toArray, List.set_cons_zero, List.set_cons_succ]
  refine wpAnyH_take (i := 11) (v := .slice (some ⟨z5.heap.size, 0, none⟩) 2 2) rfl (by kernel_rfl) (by kernel_rfl) (by kernel_rfl) (fun _ _ _ h => h) (Or.inl ⟨by rfl, fun w hSw => ?_⟩) (by assumption) ?_
  · obtain ⟨s0, s1, s2, s3⟩ := hSw
    (go_simp <;> omega)
  try simp only [List.getElem_toArray, List.getElem_cons_zero, List.getElem_cons_succ, Act.put, List.setIfInBounds_toArray, List.set_cons_zero, List.set_cons_succ]
  refine wpAnyH_done (by kernel_rfl) ?_ _
  go_wp2_with fail
  go_ret
  exact ⟨z5.heap.size, rfl, own_ten (by have := hA.size; have := hb5'.size; omega) (heap_alloc_new z5 _) rfl (by omega), hA.trans (hb6'.mono hA.size)⟩
end Go.Proofs.Ytemlfklipkpacaa
