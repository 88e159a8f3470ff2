import Derived.Test.YtemlfklipkpacaaKs
import Derived.Deep.AppendLies
/- Even of package knife. -/
namespace Go.Proofs.Ytemlfklipkpacaa
open Go.RowKit
/-- The pieces of a field that is cut once, the owner 0 on the left. -/
def Kn.evL (L : List Int) (V : List (List Int)) : List Pc := if Kn.val2 L V = 0 then [(0, (0, 1), pr ((Kn.evenK L V).getD 0)), (1, pr ((Kn.evenK L V).getD 0), (Kn.stop L, 1))] else []

set_option maxRecDepth 100000 in
set_option maxHeartbeats 8000000 in
theorem keven_any (L : List Int) (V : List (List Int)) (aoL : Option Addr) (nL cL : Nat) (aoV : Option Addr) (nV cV : Nat) (w : World) (hf : Fld w aoL nL aoV nV L V) (hok : Kn.Ok L V) (h2 : V.length = 2) :
    Calls Try.prog 110 #[.agg #[.slice aoL nL cL, .slice aoV nV cV]] w fun e w' => ∃ g, e = .returned (.slice (some ⟨g, 0, none⟩) 2 2) ∧ w'.ownsRow w.heap.size 86 5 (.slice (some ⟨g, 0, none⟩) 2 2) 2 (flat5 [(0, (0, 1), pr ((Kn.evenK L V).getD 0)), (1, pr ((Kn.evenK L V).getD 0), (Kn.stop L, 1))]) ∧ Below w.heap.size w w' := by
  obtain ⟨q, hq⟩ := even_some hok h2
  have t0 := hok.zTot (o := 0) (by omega)
  have t1 := hok.zTot (o := 1) (by omega)
  obtain ⟨o1, o2, -, o4, o5⟩ := both_ok hok h2
  have l6 := hok.l6
  have hkg := kgo_even t0.1 t0.2 t1.1 t1.2
  have r0 := hok.rowAt (o := 0) (by omega)
  have r1 := hok.rowAt (o := 1) (by omega)
  have hKE : Hid (Fl.placeK (Kn.zE L V) 0 ((Fl.tot (Kn.Z L V 0) * Fl.tot (Kn.Z L V 1) : Int) : Rat) = some q) := Lib.hid hq
  have hq2 : (Kn.evenK L V).getD 0 = q := by rw [hq]; rfl
  rw [hq2]
  clear hq hq2
  have hall0 := fun (w' : World) (ao : Option Addr) (cap : Nat) (hp : Lnd w' ao (Fl.strips 0 (Kn.Z L V 0))) => kall_any (Kn.Z L V 0) ao nL cap w' hp (by rw [hok.zLen (by omega)]; exact hf.nl) (hok.zOk (by omega)) (by rw [hok.zLen (by omega)]; exact l6)
  have hall1 := fun (w' : World) (ao : Option Addr) (cap : Nat) (hp : Lnd w' ao (Fl.strips 0 (Kn.Z L V 1))) => kall_any (Kn.Z L V 1) ao nL cap w' hp (by rw [hok.zLen (by omega)]; exact hf.nl) (hok.zOk (by omega)) (by rw [hok.zLen (by omega)]; exact l6)
  have hbat : ∀ k, k < nL → (Kn.bothL V (Fl.tot (Kn.Z L V 0)) (Fl.tot (Kn.Z L V 1))).getD k 0 = (V.getD 0 []).getD k 0 * Fl.tot (Kn.Z L V 1) + (V.getD 1 []).getD k 0 * Fl.tot (Kn.Z L V 0) := fun k hk => bothL_at (by have := hf.nl; omega) (by have := hf.nl; omega)
  have hbl : (Kn.bothL V (Fl.tot (Kn.Z L V 0)) (Fl.tot (Kn.Z L V 1))).length = nL := (bothL_len r0.1 r1.1).trans hf.nl.symm
  obtain ⟨A, hA0⟩ : ∃ x, x = Fl.tot (Kn.Z L V 0) := ⟨_, rfl⟩
  obtain ⟨B, hB0⟩ : ∃ x, x = Fl.tot (Kn.Z L V 1) := ⟨_, rfl⟩
  rw [← hA0] at t0 hall0 hbat hbl o5 hKE hkg
  rw [← hB0] at t1 hall1 hbat hbl o5 hKE hkg
  clear hA0 hB0
  have Hal0 := Lib.hid hall0
  have Hal1 := Lib.hid hall1
  obtain ⟨bo, hbo⟩ : ∃ x, x = Kn.bothL V A B := ⟨_, rfl⟩
  rw [← hbo] at hbat hbl o5
  clear hbo hall0 hall1
  have m0 : 0 < A * B := Int.mul_pos t0.1 t1.1
  have m1 : A * B ≤ 2400 * 2400 := Int.mul_le_mul t0.2 t1.2 (by omega) (by omega)
  have eAB : IntKind.i64.wrap (A * B) = A * B := IntWalk.i64_in _ (by omega)
  have HM := Lib.hid (And.intro m0 m1)
  clear m0 m1
  have HnL := Lib.hid hf.nl
  have HnV := Lib.hid hf.nv
  have hn6 : nL ≤ 6 := by have := hf.nl; omega
  have hV2 : (1 : Int) < (nV : Int) := by have := hf.nv; omega
  have hV1 : (0 : Int) < (nV : Int) := by omega
  have hV2n : 1 < nV := by omega
  have hV1n : 0 < nV := by omega
  obtain ⟨i0, hi0, hz0, hz1, hz2⟩ := info_in
  have hA := (Below.refl _ w).alloc (Nat.le_refl _) (.cells #[.slice aoL nL cL, .slice aoV nV cV] 57)
  have rf := heap_alloc_new w (.cells #[.slice aoL nL cL, .slice aoV nV cV] 57)
  go_enter Try.func110, Try.ntmps110
  go_upto_region 1 with fail
  generalize w.alloc (.cells #[.slice aoL nL cL, .slice aoV nV cV] 57) = W0 at hA rf ⊢
  obtain ⟨⟨c0, c1⟩, -, -⟩ := row_fr rf
  have hf0 := hf.below hA
  have hs0 := heap_lt rf
  obtain ⟨G, hG⟩ : ∃ g, g = w.heap.size := ⟨_, rfl⟩
  rw [← hG] at c0 c1 rf hs0 ⊢
  have HG := Lib.hid hG
  clear hG
  have hdr : Below W0.heap.size W0 W0.drew := below_drewN (Below.refl W0.heap.size W0) 1
  refine wp_region_held_drew (S := fun w' => w'.cell? ⟨G, 0, none⟩ = some (.slice aoL nL cL) ∧ w'.cell? ⟨G, 1, none⟩ = some (.slice aoV nV cV)) (by kernel_rfl) ⟨c0, c1⟩ (fun hHeld => ?_)
  refine wpAnyH_take (i := 0) (v := .agg #[.slice aoL nL cL, .slice aoV nV cV]) rfl (by kernel_rfl) (by kernel_rfl) (by kernel_rfl) (fun _ _ _ h => h) (Or.inl ⟨by rfl, fun w hSw => ?_⟩) (by assumption) ?_
  · obtain ⟨s0, s1⟩ := hSw
    (go_simp <;> omega)
  try simp only [List.getElem_toArray, List.getElem_cons_zero, Act.put, List.setIfInBounds_toArray, List.set_cons_zero, List.set_cons_succ]
  refine wpAnyH_take (i := 3) (v := .agg #[.slice aoL nL cL, .slice aoV nV cV]) rfl (by kernel_rfl) (by kernel_rfl) (by kernel_rfl) (fun _ _ _ h => h) (Or.inl ⟨by rfl, fun w hSw => ?_⟩) (by assumption) ?_
  · obtain ⟨s0, s1⟩ := hSw
    (go_simp <;> omega)
  try simp only [List.getElem_toArray, List.getElem_cons_zero, List.getElem_cons_succ, Act.put, List.setIfInBounds_toArray, List.set_cons_zero, List.set_cons_succ]
  refine wpAnyH_ready (rs := [1]) (by kernel_rfl) (by simp) ?_
  refine AllReadyH.cons rfl (fun K hK => ?_) AllReadyH.nil
  go_simp
  go_at_call 107
  refine (kown_any L V 0 _ _ _ _ _ _ _ (hf0.below hdr).hL (hf0.below hdr).hV hf.nl hf.nv hok (by omega)).mono ?_
  rintro e z1 ⟨ao1, cap1, rfl, hl1, hb1⟩
  have hb1' := hdr.trans (hb1.mono hdr.size)
  (try dsimp only)
  refine hK.out _ _ ⟨keep_cell hb1' c0, keep_cell hb1' c1⟩ (fun hHeld => ?_)
  clear hK K
  try simp only [List.getElem_toArray, List.getElem_cons_zero, List.getElem_cons_succ, Act.put, List.setIfInBounds_toArray, List.set_cons_zero, List.set_cons_succ]
  refine wpAnyH_ready (rs := [2]) (by kernel_rfl) (by simp) ?_
  refine AllReadyH.cons rfl (fun K hK => ?_) AllReadyH.nil
  go_simp
  go_at_call 149
  refine (Hal0.out _ _ _ hl1).mono ?_
  rintro e z2 ⟨rfl, hb2⟩
  have hb2' := hb1'.trans (hb2.mono hb1'.size)
  (try dsimp only)
  refine hK.out _ _ ⟨keep_cell hb2' c0, keep_cell hb2' c1⟩ (fun hHeld => ?_)
  clear hK K
  try simp only [List.getElem_toArray, List.getElem_cons_zero, List.getElem_cons_succ, Act.put, List.setIfInBounds_toArray, List.set_cons_zero, List.set_cons_succ]
  refine wpAnyH_ready (rs := [4]) (by kernel_rfl) (by simp) ?_
  refine AllReadyH.cons rfl (fun K hK => ?_) AllReadyH.nil
  go_simp
  go_at_call 107
  refine (kown_any L V 1 _ _ _ _ _ _ _ (hf0.below hb2').hL (hf0.below hb2').hV hf.nl hf.nv hok (by omega)).mono ?_
  rintro e z3 ⟨ao3, cap3, rfl, hl3, hb3⟩
  have hb3' := hb2'.trans (hb3.mono hb2'.size)
  (try dsimp only)
  refine hK.out _ _ ⟨keep_cell hb3' c0, keep_cell hb3' c1⟩ (fun hHeld => ?_)
  clear hK K
  try simp only [List.getElem_toArray, List.getElem_cons_zero, List.getElem_cons_succ, Act.put, List.setIfInBounds_toArray, List.set_cons_zero, List.set_cons_succ]
  refine wpAnyH_ready (rs := [5]) (by kernel_rfl) (by simp) ?_
  refine AllReadyH.cons rfl (fun K hK => ?_) AllReadyH.nil
  go_simp
  go_at_call 149
  refine (Hal1.out _ _ _ hl3).mono ?_
  rintro e z4 ⟨rfl, hb4⟩
  have hb4' := hb3'.trans (hb4.mono hb3'.size)
  (try dsimp only)
  refine hK.out _ _ ⟨keep_cell hb4' c0, keep_cell hb4' c1⟩ (fun hHeld => ?_)
  clear hK K
  try simp only [List.getElem_toArray, List.getElem_cons_zero, List.getElem_cons_succ, Act.put, List.setIfInBounds_toArray, List.set_cons_zero, List.set_cons_succ]
  refine wpAnyH_take (i := 6) (v := .int .i64 A) rfl (by kernel_rfl) (by kernel_rfl) (by kernel_rfl) (fun _ _ _ h => h) (Or.inl ⟨by rfl, fun w hSw => ?_⟩) (by assumption) ?_
  · obtain ⟨s0, s1⟩ := hSw
    (go_simp <;> omega)
  try simp only [List.getElem_toArray, List.getElem_cons_zero, List.getElem_cons_succ, Act.put, List.setIfInBounds_toArray, List.set_cons_zero, List.set_cons_succ]
  refine wpAnyH_take (i := 7) (v := .int .i64 B) rfl (by kernel_rfl) (by kernel_rfl) (by kernel_rfl) (fun _ _ _ h => h) (Or.inl ⟨by rfl, fun w hSw => ?_⟩) (by assumption) ?_
  · obtain ⟨s0, s1⟩ := hSw
    (go_simp <;> omega)
  try simp only [List.getElem_toArray, List.getElem_cons_zero, List.getElem_cons_succ, Act.put, List.setIfInBounds_toArray, List.set_cons_zero, List.set_cons_succ]
  refine wpAnyH_done (by kernel_rfl) ?_ _
  have hA4 := hA.trans (hb4'.mono hA.size)
  have rf4 := heap_keep hb4' rf
  have hs4 := Nat.lt_of_lt_of_le hs0 hb4'.size
  clear hb1' hb2' hb3' hb4' hb1 hb2 hb3 hb4 hl1 hl3 c0 c1 rf hs0 hdr hA hf0 Hal0 Hal1
  obtain ⟨⟨c0, c1⟩, -, -⟩ := row_fr rf4
  have hf4 := hf.below hA4
  go_wp2_with fail
  go_loopw [5, 18] (fun v i wr => ∃ k : Nat, k ≤ nL ∧ i = .int .i64 k ∧ Hid (wr.ownsRow z4.heap.size 3 1 v k ((bo.take k).map (Value.int .i64))) ∧ Below z4.heap.size z4 wr) (fun _ i _ => nL - (intOf i).toNat)
  case atStart => exact ⟨0, Nat.zero_le _, rfl, Lib.hid ⟨rfl, .inl ⟨rfl, rfl⟩⟩, Below.refl _ _⟩
  case round =>
    obtain ⟨k, hk, rfl, hown, hb⟩ := hrel
    have hsz := hb.size
    by_cases hlt : k < nL
    · have hb0 := hbat k hlt
      have v0 := int_at (k := k) r0.2.1 (by have := HnL.out; omega)
      have v1 := int_at (k := k) r1.2.1 (by have := HnL.out; omega)
      obtain ⟨bV, oV, a0, e0, rfl, zr0, -, I0⟩ := hf4.hV.at (k := 0) (by have := HnV.out; omega)
      obtain ⟨bV', oV', a1, e1, he, zr1, -, I1⟩ := hf4.hV.at (k := 1) (by have := HnV.out; omega)
      cases he
      obtain ⟨b0, f0, rfl, hb0s, y0⟩ := I0.at (k := k) (by have := HnL.out; omega)
      obtain ⟨b1, f1, rfl, hb1s, y1⟩ := I1.at (k := k) (by have := HnL.out; omega)
      rw [r0.1, ← HnL.out, Nat.add_zero] at zr0
      rw [r1.1, ← HnL.out] at zr1
      have hbVs : bV < z4.heap.size := block_lt_of_cell zr0
      replace zr0 := keep_cell hb zr0
      replace zr1 := keep_cell hb zr1
      replace y0 := keep_cell hb y0
      replace y1 := keep_cell hb y1
      have hbo : Hid (bo.take (k + 1) = bo.take k ++ [bo.getD k 0]) := Lib.hid (by rw [List.take_succ_eq_append_getElem (by omega), List.getD_eq_getElem?_getD, List.getElem?_eq_getElem (by omega)]; rfl)
      rw [hb0] at hbo
      obtain ⟨x, hx⟩ : ∃ x, x = (V.getD 0 []).getD k 0 := ⟨_, rfl⟩
      obtain ⟨y, hy⟩ : ∃ y, y = (V.getD 1 []).getD k 0 := ⟨_, rfl⟩
      rw [← hx] at y0 v0 hbo
      rw [← hy] at y1 v1 hbo
      clear hx hy hb0 I0 I1
      have n0 : 0 ≤ x * B := Int.mul_nonneg v0.1 (by omega)
      have n1 : x * B ≤ 20 * 2400 := Int.mul_le_mul v0.2 t1.2 (by omega) (by omega)
      have n2 : 0 ≤ y * A := Int.mul_nonneg v1.1 (by omega)
      have n3 : y * A ≤ 20 * 2400 := Int.mul_le_mul v1.2 t0.2 (by omega) (by omega)
      have w1 : IntKind.i64.wrap (x * B) = x * B := IntWalk.i64_in _ (by omega)
      have w2 : IntKind.i64.wrap (y * A) = y * A := IntWalk.i64_in _ (by omega)
      have w3 : IntKind.i64.wrap (x * B + y * A) = x * B + y * A := IntWalk.i64_in _ (by omega)
      have i1 : (k : Int) < (nL : Int) := by omega
      have q1 := keep_cell hb c1
      clear n0 n1 n2 n3
      go_upto_region 6 with fail
      have hdr : Below wr.heap.size wr wr.drew := below_drewN (Below.refl wr.heap.size wr) 1
      refine wp_region_held_drew (S := fun w' => w'.cell? ⟨G, 1, none⟩ = some (.slice (some ⟨bV, oV, none⟩) nV cV) ∧ w'.cell? ⟨bV, oV, none⟩ = some (.slice (some ⟨b0, f0, none⟩) nL e0) ∧ w'.cell? ⟨bV, oV + 1, none⟩ = some (.slice (some ⟨b1, f1, none⟩) nL e1) ∧ w'.cell? ⟨b0, f0 + k, none⟩ = some (.int .i64 x) ∧ w'.cell? ⟨b1, f1 + k, none⟩ = some (.int .i64 y)) (by kernel_rfl) ⟨q1, zr0, zr1, y0, y1⟩ (fun hHeld => ?_)
      refine wpAnyH_take (i := 0) (v := u5) rfl (by kernel_rfl) (by kernel_rfl) (by kernel_rfl) (fun _ _ _ h => h) (Or.inl ⟨by rfl, fun w hSw => ?_⟩) (by assumption) ?_
      · obtain ⟨s0, s1, s2, s3, s4⟩ := hSw
        (go_simp <;> omega)
      try simp only [List.getElem_toArray, List.getElem_cons_zero, Act.put, List.setIfInBounds_toArray, List.set_cons_zero, List.set_cons_succ]
      refine wpAnyH_take (i := 1) (v := .pointer (some ⟨G, 1, none⟩)) rfl (by kernel_rfl) (by kernel_rfl) (by kernel_rfl) (fun _ _ _ h => h) (Or.inl ⟨by rfl, fun w hSw => ?_⟩) (by assumption) ?_
      · obtain ⟨s0, s1, s2, s3, s4⟩ := hSw
        (go_simp <;> omega)
      try simp only [List.getElem_toArray, List.getElem_cons_zero, List.getElem_cons_succ, Act.put, List.setIfInBounds_toArray, List.set_cons_zero, List.set_cons_succ]
      refine wpAnyH_take (i := 2) (v := .slice (some ⟨bV, oV, none⟩) nV cV) rfl (by kernel_rfl) (by kernel_rfl) (by kernel_rfl) (fun _ _ _ h => h) (Or.inl ⟨by rfl, fun w hSw => ?_⟩) (by assumption) ?_
      · obtain ⟨s0, s1, s2, s3, s4⟩ := hSw
        (go_simp <;> omega)
      try simp only [List.getElem_toArray, List.getElem_cons_zero, List.getElem_cons_succ, Act.put, List.setIfInBounds_toArray, List.set_cons_zero, List.set_cons_succ]
      refine wpAnyH_take (i := 3) (v := .pointer (some ⟨bV, oV, none⟩)) rfl (by kernel_rfl) (by kernel_rfl) (by kernel_rfl) (fun _ _ _ h => h) (Or.inl ⟨by rfl, fun w hSw => ?_⟩) (by assumption) ?_
      · obtain ⟨s0, s1, s2, s3, s4⟩ := hSw
        (go_simp <;> omega)
      try simp only [List.getElem_toArray, List.getElem_cons_zero, List.getElem_cons_succ, Act.put, List.setIfInBounds_toArray, List.set_cons_zero, List.set_cons_succ]
      refine wpAnyH_take (i := 4) (v := .slice (some ⟨b0, f0, none⟩) nL e0) rfl (by kernel_rfl) (by kernel_rfl) (by kernel_rfl) (fun _ _ _ h => h) (Or.inl ⟨by rfl, fun w hSw => ?_⟩) (by assumption) ?_
      · obtain ⟨s0, s1, s2, s3, s4⟩ := hSw
        (go_simp <;> omega)
      try simp only [List.getElem_toArray, List.getElem_cons_zero, List.getElem_cons_succ, Act.put, List.setIfInBounds_toArray, List.set_cons_zero, List.set_cons_succ]
      refine wpAnyH_take (i := 5) (v := .int .i64 k) rfl (by kernel_rfl) (by kernel_rfl) (by kernel_rfl) (fun _ _ _ h => h) (Or.inl ⟨by rfl, fun w hSw => ?_⟩) (by assumption) ?_
      · obtain ⟨s0, s1, s2, s3, s4⟩ := hSw
        (go_simp <;> omega)
      try simp only [List.getElem_toArray, List.getElem_cons_zero, List.getElem_cons_succ, Act.put, List.setIfInBounds_toArray, List.set_cons_zero, List.set_cons_succ]
      refine wpAnyH_take (i := 6) (v := .pointer (some ⟨b0, f0 + k, none⟩)) rfl (by kernel_rfl) (by kernel_rfl) (by kernel_rfl) (fun _ _ _ h => h) (Or.inl ⟨by rfl, fun w hSw => ?_⟩) (by assumption) ?_
      · obtain ⟨s0, s1, s2, s3, s4⟩ := hSw
        (go_simp <;> omega)
      try simp only [List.getElem_toArray, List.getElem_cons_zero, List.getElem_cons_succ, Act.put, List.setIfInBounds_toArray, List.set_cons_zero, List.set_cons_succ]
      refine wpAnyH_take (i := 7) (v := .int .i64 x) rfl (by kernel_rfl) (by kernel_rfl) (by kernel_rfl) (fun _ _ _ h => h) (Or.inl ⟨by rfl, fun w hSw => ?_⟩) (by assumption) ?_
      · obtain ⟨s0, s1, s2, s3, s4⟩ := hSw
        (go_simp <;> omega)
      try simp only [List.getElem_toArray, List.getElem_cons_zero, List.getElem_cons_succ, Act.put, List.setIfInBounds_toArray, List.set_cons_zero, List.set_cons_succ]
      refine wpAnyH_take (i := 8) (v := .int .i64 B) rfl (by kernel_rfl) (by kernel_rfl) (by kernel_rfl) (fun _ _ _ h => h) (Or.inl ⟨by rfl, fun w hSw => ?_⟩) (by assumption) ?_
      · obtain ⟨s0, s1, s2, s3, s4⟩ := hSw
        (go_simp <;> omega)
      try simp only [List.getElem_toArray, List.getElem_cons_zero, List.getElem_cons_succ, Act.put, List.setIfInBounds_toArray, List.set_cons_zero, List.set_cons_succ]
      refine wpAnyH_take (i := 9) (v := .int .i64 (x * B)) rfl (by kernel_rfl) (by kernel_rfl) (by kernel_rfl) (fun _ _ _ h => h) (Or.inl ⟨by rfl, fun w hSw => ?_⟩) (by assumption) ?_
      · obtain ⟨s0, s1, s2, s3, s4⟩ := hSw
        (go_simp <;> omega)
      try simp only [List.getElem_toArray, List.getElem_cons_zero, List.getElem_cons_succ, Act.put, List.setIfInBounds_toArray, List.set_cons_zero, List.set_cons_succ]
      refine wpAnyH_take (i := 10) (v := .pointer (some ⟨G, 1, none⟩)) rfl (by kernel_rfl) (by kernel_rfl) (by kernel_rfl) (fun _ _ _ h => h) (Or.inl ⟨by rfl, fun w hSw => ?_⟩) (by assumption) ?_
      · obtain ⟨s0, s1, s2, s3, s4⟩ := hSw
        (go_simp <;> omega)
      try simp only [List.getElem_toArray, List.getElem_cons_zero, List.getElem_cons_succ, Act.put, List.setIfInBounds_toArray, List.set_cons_zero, List.set_cons_succ]
      refine wpAnyH_take (i := 11) (v := .slice (some ⟨bV, oV, none⟩) nV cV) rfl (by kernel_rfl) (by kernel_rfl) (by kernel_rfl) (fun _ _ _ h => h) (Or.inl ⟨by rfl, fun w hSw => ?_⟩) (by assumption) ?_
      · obtain ⟨s0, s1, s2, s3, s4⟩ := hSw
        (go_simp <;> omega)
      try simp only [List.getElem_toArray, List.getElem_cons_zero, List.getElem_cons_succ, Act.put, List.setIfInBounds_toArray, List.set_cons_zero, List.set_cons_succ]
      refine wpAnyH_take (i := 12) (v := .pointer (some ⟨bV, oV + 1, none⟩)) rfl (by kernel_rfl) (by kernel_rfl) (by kernel_rfl) (fun _ _ _ h => h) (Or.inl ⟨by rfl, fun w hSw => ?_⟩) (by assumption) ?_
      · obtain ⟨s0, s1, s2, s3, s4⟩ := hSw
        (go_simp <;> omega)
      try simp only [List.getElem_toArray, List.getElem_cons_zero, List.getElem_cons_succ, Act.put, List.setIfInBounds_toArray, List.set_cons_zero, List.set_cons_succ]
      refine wpAnyH_take (i := 13) (v := .slice (some ⟨b1, f1, none⟩) nL e1) rfl (by kernel_rfl) (by kernel_rfl) (by kernel_rfl) (fun _ _ _ h => h) (Or.inl ⟨by rfl, fun w hSw => ?_⟩) (by assumption) ?_
      · obtain ⟨s0, s1, s2, s3, s4⟩ := hSw
        (go_simp <;> omega)
      try simp only [List.getElem_toArray, List.getElem_cons_zero, List.getElem_cons_succ, Act.put, List.setIfInBounds_toArray, List.set_cons_zero, List.set_cons_succ]
      refine wpAnyH_take (i := 14) (v := .int .i64 k) rfl (by kernel_rfl) (by kernel_rfl) (by kernel_rfl) (fun _ _ _ h => h) (Or.inl ⟨by rfl, fun w hSw => ?_⟩) (by assumption) ?_
      · obtain ⟨s0, s1, s2, s3, s4⟩ := hSw
        (go_simp <;> omega)
      try simp only [List.getElem_toArray, List.getElem_cons_zero, List.getElem_cons_succ, Act.put, List.setIfInBounds_toArray, List.set_cons_zero, List.set_cons_succ]
      refine wpAnyH_take (i := 15) (v := .pointer (some ⟨b1, f1 + k, none⟩)) rfl (by kernel_rfl) (by kernel_rfl) (by kernel_rfl) (fun _ _ _ h => h) (Or.inl ⟨by rfl, fun w hSw => ?_⟩) (by assumption) ?_
      · obtain ⟨s0, s1, s2, s3, s4⟩ := hSw
        (go_simp <;> omega)
      try simp only [List.getElem_toArray, List.getElem_cons_zero, List.getElem_cons_succ, Act.put, List.setIfInBounds_toArray, List.set_cons_zero, List.set_cons_succ]
      refine wpAnyH_take (i := 16) (v := .int .i64 y) rfl (by kernel_rfl) (by kernel_rfl) (by kernel_rfl) (fun _ _ _ h => h) (Or.inl ⟨by rfl, fun w hSw => ?_⟩) (by assumption) ?_
      · obtain ⟨s0, s1, s2, s3, s4⟩ := hSw
        (go_simp <;> omega)
      try simp only [List.getElem_toArray, List.getElem_cons_zero, List.getElem_cons_succ, Act.put, List.setIfInBounds_toArray, List.set_cons_zero, List.set_cons_succ]
      refine wpAnyH_take (i := 17) (v := .int .i64 A) rfl (by kernel_rfl) (by kernel_rfl) (by kernel_rfl) (fun _ _ _ h => h) (Or.inl ⟨by rfl, fun w hSw => ?_⟩) (by assumption) ?_
      · obtain ⟨s0, s1, s2, s3, s4⟩ := hSw
        (go_simp <;> omega)
      try simp only [List.getElem_toArray, List.getElem_cons_zero, List.getElem_cons_succ, Act.put, List.setIfInBounds_toArray, List.set_cons_zero, List.set_cons_succ]
      refine wpAnyH_take (i := 18) (v := .int .i64 (y * A)) rfl (by kernel_rfl) (by kernel_rfl) (by kernel_rfl) (fun _ _ _ h => h) (Or.inl ⟨by rfl, fun w hSw => ?_⟩) (by assumption) ?_
      · obtain ⟨s0, s1, s2, s3, s4⟩ := hSw
        (go_simp <;> omega)
      try simp only [List.getElem_toArray, List.getElem_cons_zero, List.getElem_cons_succ, Act.put, List.setIfInBounds_toArray, List.set_cons_zero, List.set_cons_succ]
      refine wpAnyH_take (i := 19) (v := .int .i64 (x * B + y * A)) rfl (by kernel_rfl) (by kernel_rfl) (by kernel_rfl) (fun _ _ _ h => h) (Or.inl ⟨by rfl, fun w hSw => ?_⟩) (by assumption) ?_
      · obtain ⟨s0, s1, s2, s3, s4⟩ := hSw
        (go_simp <;> omega)
      try simp only [List.getElem_toArray, List.getElem_cons_zero, List.getElem_cons_succ, Act.put, List.setIfInBounds_toArray, List.set_cons_zero, List.set_cons_succ]
      refine wpAnyH_ready (rs := [20]) (by kernel_rfl) (by simp) ?_
      refine AllReadyH.cons rfl (fun K hK => ?_) AllReadyH.nil
      go_simp
      have hb20 := hdr.alloc (Nat.le_refl _) (.cells #[.int .i64 (x * B + y * A)] 3)
      (try dsimp only)
      refine hK.out _ _ ⟨keep_cell hb20 q1, keep_cell hb20 zr0, keep_cell hb20 zr1, keep_cell hb20 y0, keep_cell hb20 y1⟩ (fun hHeld => ?_)
      clear hK K
      try simp only [List.getElem_toArray, List.getElem_cons_zero, List.getElem_cons_succ, Act.put, List.setIfInBounds_toArray, List.set_cons_zero, List.set_cons_succ]
      refine wpAnyH_ready (rs := [21]) (by kernel_rfl) (by simp) ?_
      refine AllReadyH.cons rfl (fun K hK => ?_) AllReadyH.nil
      rw [if_pos (by rfl)]
      refine wp_append_own _ _ _ _ (by rfl) z4.heap.size 3 i0 (.int .i64 0) 1 8 Try.underlying39 hi0 hz0 hz1 hz2 rfl (by decide) _ k ((bo.take k).map (Value.int .i64)) (by rfl) (own_below hown.out hb20) ⟨wr.heap.size, 0, none⟩ 1 1 [.int .i64 (x * B + y * A)] (by rfl) rfl (World.news_of_block (cs := #[.int .i64 (x * B + y * A)]) (t := 3) (fr := (0, 0)) (heap_alloc_new wr.drew _)) (by simp [Value.oneCell']) (by unfold maxLen; omega) (by omega) (Nat.le_trans hsz hb20.size) ?_
      intro v1 z6 ho1 hg1 _
      have hb6 : Below z4.heap.size wr z6 := (hb20.mono hsz).grown hg1 (Nat.le_trans hsz hb20.size) (fun q hq => ((own_below hown.out hb20).lt q hq).1)
      clear hg1 hb20
      (try dsimp only)
      refine hK.out _ _ ⟨(hb6.cell (p := ⟨G, 1, none⟩) (show G < z4.heap.size from hs4)).trans q1, (hb6.cell (p := ⟨bV, oV, none⟩) (show bV < z4.heap.size from hbVs)).trans zr0, (hb6.cell (p := ⟨bV, oV + 1, none⟩) (show bV < z4.heap.size from hbVs)).trans zr1, (hb6.cell (p := ⟨b0, f0 + k, none⟩) (show b0 < z4.heap.size from hb0s)).trans y0, (hb6.cell (p := ⟨b1, f1 + k, none⟩) (show b1 < z4.heap.size from hb1s)).trans y1⟩ (fun hHeld => ?_)
      clear hK K
      try simp only [List.getElem_toArray, List.getElem_cons_zero, List.getElem_cons_succ, Act.put, List.setIfInBounds_toArray, List.set_cons_zero, List.set_cons_succ]
      refine wpAnyH_take (i := 22) (v := v1) rfl (by kernel_rfl) (by kernel_rfl) (by kernel_rfl) (fun _ _ _ h => h) (Or.inl ⟨by rfl, fun w hSw => ?_⟩) (by assumption) ?_
      · obtain ⟨s0, s1, s2, s3, s4⟩ := hSw
        (go_simp <;> omega)
      try simp only [List.getElem_toArray, List.getElem_cons_zero, List.getElem_cons_succ, Act.put, List.setIfInBounds_toArray, List.set_cons_zero, List.set_cons_succ]
      refine wpAnyH_done (by kernel_rfl) ?_ _
      have hb7 := hb.trans hb6
      go_wp2_with fail
      go_roundw
      case rel =>
        refine ⟨k + 1, by omega, by go_num, Lib.hid ?_, hb7⟩
        rw [hbo.out, List.map_append]
        exact ho1
      case measure => simp [intOf]; omega
    · have hk2 : k = nL := by omega
      have hownF := hown.out
      rw [hk2, List.take_of_length_le (by omega)] at hownF
      obtain ⟨aob, capb, rfl, -, hIb⟩ := own_ints hownF hbl.symm
      have Hk := Lib.hid hk2
      have hAr := hA4.trans (hb.mono hA4.size)
      have rfr := heap_keep hb rf4
      have hfr := hf.below hAr
      have hsr := Nat.lt_of_lt_of_le hs4 hsz
      clear hk2 hownF hown c0 c1 rf4 hf4 hA4
      obtain ⟨⟨c0, c1⟩, -, -⟩ := row_fr rfr
      go_wp2_with fail
      refine (klandOf_any 96000 (Kn.zE L V) _ _ _ _ _ _ wr (by rw [o4]; exact hfr.hL) (by rw [o5]; exact hIb) (by rw [o2]; exact HnL.out) (by rw [o2]; exact HnL.out) o1 (by omega)).mono ?_
      rintro e z5 ⟨v5, rfl, hov5, hb5⟩
      rw [o2, ← HnL.out] at hov5
      obtain ⟨ao5, cap5, rfl, hl5⟩ := own_lnd hov5 (by rw [strips_length, o2]; exact HnL.out)
      have hA5 := hAr.trans (hb5.mono hAr.size)
      have rf5 := heap_keep hb5 rfr
      clear hb5 hov5 c0 c1 rfr hfr hAr hb hIb
      go_wp2_with fail
      refine (kwhole_any 0 z5).mono ?_
      rintro e z6 ⟨rfl, hb6⟩
      replace hl5 := hl5.below hb6
      replace rf5 := heap_keep hb6 rf5
      replace hA5 := hA5.trans (hb6.mono hA5.size)
      clear hb6
      go_wp2_with fail
      have hWh := kwhole_any (A * B) z6
      obtain ⟨wt, hwt⟩ : ∃ q : Rat, q = ((A * B : Int) : Rat) := ⟨_, rfl⟩
      rw [← hwt] at hWh
      have HWt := Lib.hid hwt
      clear hwt
      refine hWh.mono ?_
      rintro e z7 ⟨rfl, hb7⟩
      replace hl5 := hl5.below hb7
      replace rf5 := heap_keep hb7 rf5
      replace hA5 := hA5.trans (hb7.mono hA5.size)
      clear hb7
      have hPl := kplace_any 5760000 96000 (Kn.zE L V) 0 ((A * B : Int) : Rat) ao5 nL cap5 z7 hl5 (by rw [o2]; exact HnL.out) o1 (by omega) hkg
      rw [hKE.out, ← HWt.out] at hPl
      rw [show optFr (some q) = Fr q from rfl, show (some q).isSome = true from rfl] at hPl
      have HPl := Lib.hid hPl
      clear hPl
      go_wp2_with fail
      refine HPl.out.mono ?_
      rintro e z8 ⟨rfl, hb8⟩
      replace rf5 := heap_keep hb8 rf5
      replace hA5 := hA5.trans (hb8.mono hA5.size)
      clear hb8 HPl
      go_upto_region 9 with fail
      have hal := (Below.refl z8.heap.size z8).alloc (Nat.le_refl _) (.cells #[.int .i64 q.num, .int .i64 q.den] 124)
      have rq := heap_alloc_new z8 (.cells #[.int .i64 q.num, .int .i64 q.den] 124)
      replace rf5 := heap_keep hal rf5
      replace hA5 := hA5.trans (hal.mono hA5.size)
      clear hal
      generalize z8.alloc (.cells #[.int .i64 q.num, .int .i64 q.den] 124) = W9 at rq rf5 hA5 ⊢
      obtain ⟨⟨c0, c1⟩, -, -⟩ := row_fr rf5
      obtain ⟨⟨d0, d1⟩, -, -⟩ := row_fr rq
      go_wp2_with fail
      refine (ksplit_any L V 0 1 q _ _ _ _ _ _ W9 (hf.below hA5) hok).mono ?_
      rintro e z10 ⟨g, rfl, ho10, hb10⟩
      go_wp2_with fail
      go_ret
      exact ⟨g, rfl, own_mono ho10 hA5.size, hA5.trans (hb10.mono hA5.size)⟩
end Go.Proofs.Ytemlfklipkpacaa
