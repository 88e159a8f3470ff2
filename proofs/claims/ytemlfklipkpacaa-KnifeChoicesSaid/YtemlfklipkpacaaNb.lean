import Derived.Test.YtemlfklipkpacaaNa
import Derived.Test.YtemlfklipkpacaaLl
import Derived.Test.YtemlfklipkpacaaLe
/- The reference of package knife: Even. -/
namespace Go.Proofs.Ytemlfklipkpacaa
open Go.RowKit

theorem swhole_z (w : World) : Calls Try.prog 40 #[.int .i64 0] w fun e w' => e = .returned (.agg #[.int .i64 0, .int .i64 1]) ∧ Below w.heap.size w w' := rwhole_any 0 w

theorem val2_ok {L : List Int} {V : List (List Int)} (h : Kn.val2 L V = 0) : Kn.Ok L V ∧ V.length = 2 := by
  unfold Kn.val2 at h
  split at h
  · rename_i h2; exact absurd h h2
  · rename_i h2
    split at h
    · rename_i h3; exact ⟨Kn.val_ok.1 (by simpa using h2), h3⟩
    · cases h

set_option maxRecDepth 100000 in
set_option maxHeartbeats 4000000 in
theorem spaired_any (L : List Int) (V : List (List Int)) (aoL : Option Addr) (nL cL : Nat) (aoV : Option Addr) (nV cV : Nat) (w : World) (hf : Fld w aoL nL aoV nV L V) (hl : nL ≤ 100) (hv : nV ≤ 100) (hr : ∀ r ∈ V, r.length ≤ 100) :
    Calls Try.prog 101 #[.agg #[.slice aoL nL cL, .slice aoV nV cV]] w fun e w' => e = .returned (.int .i64 (Kn.val2 L V)) ∧ Below w.heap.size w w' := by
  have Hn := Lib.hid hf.nv
  obtain ⟨R, hR⟩ : ∃ r, r = Kn.val2 L V := ⟨_, rfl⟩
  rw [← hR]
  have HR := Lib.hid hR
  clear hR
  have hA := (Below.refl _ w).alloc (Nat.le_refl _) (.cells #[.slice aoL nL cL, .slice aoV nV cV] 57)
  have rf := heap_alloc_new w (.cells #[.slice aoL nL cL, .slice aoV nV cV] 57)
  go_enter Try.func101, Try.ntmps101
  go_upto_region 1 with fail
  generalize w.alloc (.cells #[.slice aoL nL cL, .slice aoV nV cV] 57) = W0 at hA rf ⊢
  obtain ⟨⟨c0, c1⟩, -, -⟩ := row_fr rf
  go_wp2_with fail
  refine (sValidate_any L V _ _ _ _ _ _ W0 (hf.below hA) hl hv hr).mono ?_
  rintro e w1 ⟨rfl, hb1⟩
  have hB1 := hA.trans (hb1.mono hA.size)
  have rf1 := heap_keep hb1 rf
  clear c0 c1 rf hb1 hA
  obtain ⟨⟨c0, c1⟩, -, -⟩ := row_fr rf1
  by_cases hz : Kn.val L V = 0
  · rw [hz]
    by_cases h2 : nV = 2
    · have hr' := Lib.hid (show R = 0 by rw [HR.out]; unfold Kn.val2; rw [if_neg (by simpa using hz), if_pos (by rw [← Hn.out]; exact h2)])
      have q1 : ((nV : Int) != 2) = false := by simp; omega
      have H2 := Lib.hid h2
      clear h2
      go_wp2_with fail
      go_ret
      exact ⟨ret_int hr'.out.symm, hB1⟩
    · have hr' := Lib.hid (show R = 5 by rw [HR.out]; unfold Kn.val2; rw [if_neg (by simpa using hz), if_neg (by rw [← Hn.out]; exact h2)])
      have q1 : ((nV : Int) != 2) = true := by simp; omega
      clear h2
      go_wp2_with fail
      go_ret
      exact ⟨ret_int hr'.out.symm, hB1⟩
  · have hr' := Lib.hid (show R = Kn.val L V by rw [HR.out]; unfold Kn.val2; rw [if_pos hz])
    have hne : (Kn.val L V == 0) = false := by simp [hz]
    generalize Kn.val L V = C at hz hne hr' ⊢
    go_wp2_with fail
    go_ret
    exact ⟨ret_int hr'.out.symm, hB1⟩

set_option maxRecDepth 100000 in
set_option maxHeartbeats 4000000 in
theorem scutAt_any (L : List Int) (V : List (List Int)) (l m : Int) (cut : Rat) (aoL : Option Addr) (nL cL : Nat) (aoV : Option Addr) (nV cV : Nat) (w : World) (hf : Fld w aoL nL aoV nV L V) (hok : Kn.Ok L V) (hlm : IntKind.i64.wrap (1 - l) = m) :
    Calls Try.prog 106 #[.agg #[.slice aoL nL cL, .slice aoV nV cV], .int .i64 l, Fr cut] w fun e w' => ∃ g, e = .returned (.slice (some ⟨g, 0, none⟩) 2 2) ∧ w'.ownsRow w.heap.size 86 5 (.slice (some ⟨g, 0, none⟩) 2 2) 2 (flat5 [(l, (0, 1), pr cut), (m, pr cut, (Kn.stop L, 1))]) ∧ Below w.heap.size w w' := by
  have hA := below_alloc2 w (.cells #[.slice aoL nL cL, .slice aoV nV cV] 57) (.cells #[.int .i64 cut.num, .int .i64 cut.den] 29)
  have rf := heap_alloc2_old w (.cells #[.slice aoL nL cL, .slice aoV nV cV] 57) (.cells #[.int .i64 cut.num, .int .i64 cut.den] 29)
  have rc := heap_alloc2_new w (.cells #[.slice aoL nL cL, .slice aoV nV cV] 57) (.cells #[.int .i64 cut.num, .int .i64 cut.den] 29)
  go_enter Try.func106, Try.ntmps106
  go_upto_region 1 with fail
  generalize (w.alloc (.cells #[.slice aoL nL cL, .slice aoV nV cV] 57)).alloc (.cells #[.int .i64 cut.num, .int .i64 cut.den] 29) = wr at hA rf rc ⊢
  obtain ⟨⟨x0, x1⟩, -, -⟩ := row_fr rf
  obtain ⟨⟨y0, y1⟩, -, -⟩ := row_fr rc
  have hfr := hf.below hA
  have hdr : Below wr.heap.size wr wr.drew := below_drewN (Below.refl wr.heap.size wr) 1
  obtain ⟨G, hG⟩ : ∃ g, g = w.heap.size := ⟨_, rfl⟩
  rw [← hG] at x0 x1 y0 y1 ⊢
  have HG := Lib.hid hG
  clear hG
  have hS0 := And.intro x0 (And.intro x1 (And.intro y0 y1))
  have keepS : ∀ {W : World}, Below wr.heap.size wr W → (wr.cell? ⟨G, 0, none⟩ = some (.slice aoL nL cL) ∧ wr.cell? ⟨G, 1, none⟩ = some (.slice aoV nV cV) ∧ wr.cell? ⟨G + 1, 0, none⟩ = some (.int .i64 cut.num) ∧ wr.cell? ⟨G + 1, 1, none⟩ = some (.int .i64 cut.den)) → (W.cell? ⟨G, 0, none⟩ = some (.slice aoL nL cL) ∧ W.cell? ⟨G, 1, none⟩ = some (.slice aoV nV cV) ∧ W.cell? ⟨G + 1, 0, none⟩ = some (.int .i64 cut.num) ∧ W.cell? ⟨G + 1, 1, none⟩ = some (.int .i64 cut.den)) :=
    fun hb h => ⟨keep_cell hb h.1, keep_cell hb h.2.1, keep_cell hb h.2.2.1, keep_cell hb h.2.2.2⟩
  refine wp_region_held_drew (S := fun w' => w'.cell? ⟨G, 0, none⟩ = some (.slice aoL nL cL) ∧ w'.cell? ⟨G, 1, none⟩ = some (.slice aoV nV cV) ∧ w'.cell? ⟨G + 1, 0, none⟩ = some (.int .i64 cut.num) ∧ w'.cell? ⟨G + 1, 1, none⟩ = some (.int .i64 cut.den)) (by kernel_rfl) (keepS hdr hS0) (fun hHeld => ?_)
  refine wpAnyH_take (i := 0) (v := .int .i64 l) rfl (by kernel_rfl) (by kernel_rfl) (by kernel_rfl) (fun _ _ _ h => h) (Or.inl ⟨by rfl, fun w hSw => ?_⟩) (by assumption) ?_
  · obtain ⟨s0, s1, s2, s3⟩ := hSw
    (go_simp <;> omega)
  try simp only [List.getElem_toArray, List.getElem_cons_zero, Act.put, List.setIfInBounds_toArray, List.set_cons_zero, List.set_cons_succ]
  refine wpAnyH_take (i := 2) (v := Fr cut) rfl (by kernel_rfl) (by kernel_rfl) (by kernel_rfl) (fun _ _ _ h => h) (Or.inl ⟨by rfl, fun w hSw => ?_⟩) (by assumption) ?_
  · obtain ⟨s0, s1, s2, s3⟩ := hSw
    (go_simp <;> omega)
  try simp only [List.getElem_toArray, List.getElem_cons_zero, List.getElem_cons_succ, Act.put, List.setIfInBounds_toArray, List.set_cons_zero, List.set_cons_succ]
  refine wpAnyH_take (i := 4) (v := .int .i64 l) rfl (by kernel_rfl) (by kernel_rfl) (by kernel_rfl) (fun _ _ _ h => h) (Or.inl ⟨by rfl, fun w hSw => ?_⟩) (by assumption) ?_
  · obtain ⟨s0, s1, s2, s3⟩ := hSw
    (go_simp <;> omega)
  try simp only [List.getElem_toArray, List.getElem_cons_zero, List.getElem_cons_succ, Act.put, List.setIfInBounds_toArray, List.set_cons_zero, List.set_cons_succ]
  refine wpAnyH_take (i := 5) (v := .int .i64 m) rfl (by kernel_rfl) (by kernel_rfl) (by kernel_rfl) (fun _ _ _ h => h) (Or.inl ⟨by rfl, fun w hSw => ?_⟩) (by assumption) ?_
  · obtain ⟨s0, s1, s2, s3⟩ := hSw
    (go_simp <;> omega)
  try simp only [List.getElem_toArray, List.getElem_cons_zero, List.getElem_cons_succ, Act.put, List.setIfInBounds_toArray, List.set_cons_zero, List.set_cons_succ]
  refine wpAnyH_take (i := 6) (v := Fr cut) rfl (by kernel_rfl) (by kernel_rfl) (by kernel_rfl) (fun _ _ _ h => h) (Or.inl ⟨by rfl, fun w hSw => ?_⟩) (by assumption) ?_
  · obtain ⟨s0, s1, s2, s3⟩ := hSw
    (go_simp <;> omega)
  try simp only [List.getElem_toArray, List.getElem_cons_zero, List.getElem_cons_succ, Act.put, List.setIfInBounds_toArray, List.set_cons_zero, List.set_cons_succ]
  refine wpAnyH_take (i := 7) (v := .agg #[.slice aoL nL cL, .slice aoV nV cV]) rfl (by kernel_rfl) (by kernel_rfl) (by kernel_rfl) (fun _ _ _ h => h) (Or.inl ⟨by rfl, fun w hSw => ?_⟩) (by assumption) ?_
  · obtain ⟨s0, s1, s2, s3⟩ := hSw
    (go_simp <;> omega)
  try simp only [List.getElem_toArray, List.getElem_cons_zero, List.getElem_cons_succ, Act.put, List.setIfInBounds_toArray, List.set_cons_zero, List.set_cons_succ]
  refine wpAnyH_ready (rs := [1]) (by kernel_rfl) (by simp) ?_
  refine AllReadyH.cons rfl (fun K hK => ?_) AllReadyH.nil
  go_simp
  go_at_call 40
  refine (swhole_z _).mono ?_
  rintro e z1 ⟨rfl, hb1⟩
  have hb1' := hdr.trans (hb1.mono hdr.size)
  (try dsimp only)
  refine hK.out _ _ (keepS hb1' hS0) (fun hHeld => ?_)
  clear hK K
  try simp only [List.getElem_toArray, List.getElem_cons_zero, List.getElem_cons_succ, Act.put, List.setIfInBounds_toArray, List.set_cons_zero, List.set_cons_succ]
  refine wpAnyH_take (i := 3) (v := .agg #[.int .i64 l, .int .i64 0, .int .i64 1, .int .i64 cut.num, .int .i64 cut.den]) rfl (by kernel_rfl) (by kernel_rfl) (by kernel_rfl) (fun _ _ _ h => h) (Or.inl ⟨by rfl, fun w hSw => ?_⟩) (by assumption) ?_
  · obtain ⟨s0, s1, s2, s3⟩ := hSw
    (go_simp <;> omega)
  try simp only [List.getElem_toArray, List.getElem_cons_zero, List.getElem_cons_succ, Act.put, List.setIfInBounds_toArray, List.set_cons_zero, List.set_cons_succ]
  refine wpAnyH_ready (rs := [8]) (by kernel_rfl) (by simp) ?_
  refine AllReadyH.cons rfl (fun K hK => ?_) AllReadyH.nil
  go_simp
  go_at_call 93
  refine (send_any L V _ _ _ _ _ _ _ (hfr.below hb1') hok).mono ?_
  rintro e z3 ⟨rfl, hb3⟩
  have hb3' := hb1'.trans (hb3.mono hb1'.size)
  (try dsimp only)
  refine hK.out _ _ (keepS hb3' hS0) (fun hHeld => ?_)
  clear hK K
  try simp only [List.getElem_toArray, List.getElem_cons_zero, List.getElem_cons_succ, Act.put, List.setIfInBounds_toArray, List.set_cons_zero, List.set_cons_succ]
  refine wpAnyH_take (i := 9) (v := .agg #[.int .i64 m, .int .i64 cut.num, .int .i64 cut.den, .int .i64 (Kn.stop L), .int .i64 1]) rfl (by kernel_rfl) (by kernel_rfl) (by kernel_rfl) (fun _ _ _ h => h) (Or.inl ⟨by rfl, fun w hSw => ?_⟩) (by assumption) ?_
  · obtain ⟨s0, s1, s2, s3⟩ := hSw
    (go_simp <;> omega)
  try simp only [List.getElem_toArray, List.getElem_cons_zero, List.getElem_cons_succ, Act.put, List.setIfInBounds_toArray, List.set_cons_zero, List.set_cons_succ]
  refine wpAnyH_ready (rs := [10]) (by kernel_rfl) (by simp) ?_
  refine AllReadyH.cons rfl (fun K hK => ?_) AllReadyH.nil
  go_simp
  have hb6' := hb3'.alloc hb3'.size (.cells #[.int .i64 l, .int .i64 0, .int .i64 1, .int .i64 cut.num, .int .i64 cut.den, .int .i64 m, .int .i64 cut.num, .int .i64 cut.den, .int .i64 (Kn.stop L), .int .i64 1] 86)
  (try dsimp only)
  refine hK.out _ _ (keepS hb6' hS0) (fun hHeld => ?_)
  clear hK K
  try simp only [List.getElem_toArray, List.getElem_cons_zero, List.getElem_cons_succ, Act.put, List.setIfInBounds_toArray, List.set_cons_zero, List.set_cons_succ]
  refine wpAnyH_take (i := 11) (v := .slice (some ⟨z3.heap.size, 0, none⟩) 2 2) rfl (by kernel_rfl) (by kernel_rfl) (by kernel_rfl) (fun _ _ _ h => h) (Or.inl ⟨by rfl, fun w hSw => ?_⟩) (by assumption) ?_
  · obtain ⟨s0, s1, s2, s3⟩ := hSw
    (go_simp <;> omega)
  try simp only [List.getElem_toArray, List.getElem_cons_zero, List.getElem_cons_succ, Act.put, List.setIfInBounds_toArray, List.set_cons_zero, List.set_cons_succ]
  refine wpAnyH_done (by kernel_rfl) ?_ _
  go_wp2_with fail
  go_ret
  exact ⟨z3.heap.size, rfl, own_ten (by have := hA.size; have := hb3'.size; omega) (heap_alloc_new z3 _) rfl (by omega), hA.trans (hb6'.mono hA.size)⟩

/-- Where the unit by unit search stands: the cut, once it has been reached. -/
structure EvH (b : List Int) (T : Int) (q : Rat) (k : Nat) (a : Rat) : Prop where
  lo : Fl.sumI (b.take k) < T → a = 0 ∧ Fl.reachF (Fl.sumI (b.take k)) k (b.drop k) (T : Rat) = some q
  hi : T ≤ Fl.sumI (b.take k) → a = q
theorem EvH.far {b : List Int} {T : Int} {q : Rat} {k : Nat} {a : Rat} (h : EvH b T q k a) (hk : k < b.length) (h1 : Fl.sumI (b.take k) < T) (h2 : ¬ T ≤ Fl.sumI (b.take k) + b.getD k 0) : EvH b T q (k + 1) a := by
  obtain ⟨h3, h4⟩ := h.lo h1
  refine ⟨fun _ => ⟨h3, ?_⟩, fun h5 => absurd h5 (by rw [Fl.sumI_take hk]; exact h2)⟩
  rw [← h4]
  exact (reachF_drop hk (fun h6 => h2 (Rat.intCast_le_intCast.1 h6))).symm
theorem EvH.here {b : List Int} {T : Int} {q : Rat} {k : Nat} {a : Rat} (h : EvH b T q k a) (hk : k < b.length) (h1 : Fl.sumI (b.take k) < T) (h2 : T ≤ Fl.sumI (b.take k) + b.getD k 0) {m : Nat} (hm : b.getD k 0 = (m : Int)) : EvH b T q (k + 1) (((k : Int) : Rat) + mkRat (T - Fl.sumI (b.take k)) m) := by
  obtain ⟨h3, h4⟩ := h.lo h1
  have h5 := reachF_here (T := (T : Rat)) hk (Rat.intCast_le_intCast.2 h2)
  rw [h4] at h5
  refine ⟨fun h6 => absurd h6 (by rw [Fl.sumI_take hk]; omega), fun _ => ?_⟩
  rw [Option.some.inj h5, Rat.mkRat_eq_div, Rat.intCast_sub, hm]
  rfl
theorem EvH.past {b : List Int} {T : Int} {q : Rat} {k : Nat} {a : Rat} (h : EvH b T q k a) (hk : k < b.length) (h1 : T ≤ Fl.sumI (b.take k)) (h0 : 0 ≤ b.getD k 0) : EvH b T q (k + 1) a :=
  ⟨fun h6 => absurd h6 (by rw [Fl.sumI_take hk]; omega), fun _ => h.hi h1⟩
/-- What is known of the units of both. -/
structure EvB (u v b : List Int) (A B : Int) (q : Rat) : Prop where
  lu : u.length = b.length
  lv : v.length = b.length
  at_ : ∀ k, k < b.length → b.getD k 0 = u.getD k 0 * B + v.getD k 0 * A
  ub : ∀ k, k < b.length → 0 ≤ u.getD k 0 ∧ u.getD k 0 ≤ 20 ∧ 0 ≤ v.getD k 0 ∧ v.getD k 0 ≤ 20
  le : b.length ≤ 120
  pre : ∀ k, 0 ≤ Fl.sumI (b.take k) ∧ Fl.sumI (b.take k) ≤ 2 * (A * B)
  all : Fl.sumI b = 2 * (A * B)
  zero : EvH b (A * B) q 0 0
theorem evB_of {L : List Int} {V : List (List Int)} (hok : Kn.Ok L V) (h2 : V.length = 2) {q : Rat} (hq : Kn.evenK L V = some q) :
    EvB (Fl.units (Kn.Z L V 0)) (Fl.units (Kn.Z L V 1)) (Fl.units (Kn.zE L V)) (Fl.tot (Kn.Z L V 0)) (Fl.tot (Kn.Z L V 1)) q := by
  obtain ⟨o1, o2, o3, o4, o5⟩ := both_ok hok h2
  have t0 := hok.zTot (o := 0) (by omega)
  have t1 := hok.zTot (o := 1) (by omega)
  have z0 := hok.zOk (o := 0) (by omega)
  have z1 := hok.zOk (o := 1) (by omega)
  have r0 := hok.rowAt (o := 0) (by omega)
  have r1 := hok.rowAt (o := 1) (by omega)
  have s0 := hok.zStop (o := 0) (by omega)
  have s1 := hok.zStop (o := 1) (by omega)
  have l0 := Fl.units_length z0
  have l1 := Fl.units_length z1
  have hst := hok.stopB
  have m0 := Int.mul_pos t0.1 t1.1
  have hU : Fl.units (Kn.zE L V) = List.zipWith (fun x y => x * Fl.tot (Kn.Z L V 1) + y * Fl.tot (Kn.Z L V 0)) (Fl.units (Kn.Z L V 0)) (Fl.units (Kn.Z L V 1)) := by
    unfold Kn.zE Kn.bothL
    exact units_both r0.1 r1.1
  have hlen : (Fl.units (Kn.zE L V)).length = (Fl.units (Kn.Z L V 0)).length := by
    rw [hU, List.length_zipWith]; omega
  have hsum := units_sumW o1
  rw [o3] at hsum
  have hnn : ∀ x ∈ Fl.units (Kn.zE L V), 0 ≤ x := fun x hx => (units_memW o1 x hx).1
  refine ⟨hlen.symm, by omega, fun k hk => ?_, fun k hk => ?_, by omega, fun k => ?_, hsum, ⟨fun _ => ⟨rfl, ?_⟩, fun h => ?_⟩⟩
  · rw [hU]
    generalize Fl.units (Kn.Z L V 0) = P at hlen l0 ⊢
    generalize Fl.units (Kn.Z L V 1) = Q at l1 ⊢
    have k0 : k < P.length := by omega
    have k1 : k < Q.length := by omega
    simp [List.getD_eq_getElem?_getD, List.getElem?_zipWith, k0, k1]
  · have a0 := Fl.units_at z0 k
    have a1 := Fl.units_at z1 k
    exact ⟨a0.1, a0.2, a1.1, a1.2⟩
  · have := sumI_pre hnn k
    rw [hsum] at this
    exact this
  · have e := hq
    unfold Kn.evenK Fl.placeK at e
    rw [if_neg (by
      intro h
      have := Rat.intCast_eq_zero_iff.1 h
      omega)] at e
    rw [placeO_reachF (S := 0) o1 (Int.le_refl 0) (by exact_mod_cast m0)] at e
    show Fl.reachF 0 0 (Fl.units (Kn.zE L V)) _ = some q
    rw [← e]
    congr 1
    have e0 : ((0 : Int) : Rat) = 0 := rfl
    rw [e0]; grind
  · exfalso
    have : Fl.sumI ((Fl.units (Kn.zE L V)).take 0) = 0 := rfl
    omega

set_option maxRecDepth 100000 in
set_option maxHeartbeats 8000000 in
theorem sEven_any (L : List Int) (V : List (List Int)) (aoL : Option Addr) (nL cL : Nat) (aoV : Option Addr) (nV cV : Nat) (w : World) (hf : Fld w aoL nL aoV nV L V) (hl : nL ≤ 100) (hv : nV ≤ 100) (hr : ∀ r ∈ V, r.length ≤ 100) :
    Calls Try.prog 52 #[.agg #[.slice aoL nL cL, .slice aoV nV cV]] w fun e w' => ∃ v, e = .returned (.tuple #[v, .int .i64 (Kn.val2 L V)]) ∧ w'.ownsRow w.heap.size 86 5 v (Kn.evL L V).length (flat5 (Kn.evL L V)) ∧ Below w.heap.size w w' := by
  have hA := (Below.refl _ w).alloc (Nat.le_refl _) (.cells #[.slice aoL nL cL, .slice aoV nV cV] 57)
  have rf := heap_alloc_new w (.cells #[.slice aoL nL cL, .slice aoV nV cV] 57)
  go_enter Try.func52, Try.ntmps52
  go_upto_region 1 with fail
  generalize w.alloc (.cells #[.slice aoL nL cL, .slice aoV nV cV] 57) = W0 at hA rf ⊢
  obtain ⟨G, hG⟩ : ∃ g, g = w.heap.size := ⟨_, rfl⟩
  rw [← hG] at rf ⊢
  have HG := Lib.hid hG
  clear hG
  replace hf := hf.below hA
  obtain ⟨⟨x0, x1⟩, -, -⟩ := row_fr rf
  go_wp2_with fail
  refine ((spaired_any L V _ _ _ _ _ _ W0 hf hl hv hr)).mono ?_
  rintro e w1 ⟨rfl, hbb⟩
  replace hf := hf.below hbb
  replace rf := heap_keep hbb rf
  replace hA := hA.trans (hbb.mono hA.size)
  clear hbb
  clear x0 x1
  by_cases hz : Kn.val2 L V = 0
  · obtain ⟨hok, h2⟩ := val2_ok hz
    obtain ⟨q, hq⟩ := even_some hok h2
    have hEv : Hid (Kn.evL L V = [(0, (0, 1), pr q), (1, pr q, (Kn.stop L, 1))]) := Lib.hid (by unfold Kn.evL; rw [if_pos hz, hq]; rfl)
    have HB := Lib.hid (evB_of hok h2 hq)
    have t0 := hok.zTot (o := 0) (by omega)
    have t1 := hok.zTot (o := 1) (by omega)
    have hsu0 := fun w' (hf' : Fld w' aoL nL aoV nV L V) => sunits_any L V 0 aoL nL cL aoV nV cV w' hf' hok (by omega)
    have hsu1 := fun w' (hf' : Fld w' aoL nL aoV nV L V) => sunits_any L V 1 aoL nL cL aoV nV cV w' hf' hok (by omega)
    have hsa0 := fun w' (hf' : Fld w' aoL nL aoV nV L V) => sall_any L V 0 aoL nL cL aoV nV cV w' hf' hok (by omega)
    have hsa1 := fun w' (hf' : Fld w' aoL nL aoV nV L V) => sall_any L V 1 aoL nL cL aoV nV cV w' hf' hok (by omega)
    generalize Fl.units (Kn.Z L V 0) = us at HB hsu0
    generalize Fl.units (Kn.Z L V 1) = vs at HB hsu1
    generalize Fl.units (Kn.zE L V) = bs at HB
    generalize Fl.tot (Kn.Z L V 0) = A at HB t0 hsa0
    generalize Fl.tot (Kn.Z L V 1) = B at HB t1 hsa1
    have Hsu0 := Lib.hid hsu0
    have Hsu1 := Lib.hid hsu1
    have Hsa0 := Lib.hid hsa0
    have Hsa1 := Lib.hid hsa1
    rw [hz]
    have Hz := Lib.hid hz
    clear hz hq hsu0 hsu1 hsa0 hsa1
    obtain ⟨⟨x0, x1⟩, -, -⟩ := row_fr rf
    go_upto_region 4 with fail
    generalize w1 = WR at hf rf hA x0 x1 ⊢
    have hdr : Below WR.heap.size WR WR.drew := below_drewN (Below.refl WR.heap.size WR) 1
    refine wp_region_held_drew (S := fun w' => w'.cell? ⟨G, 0, none⟩ = some (.slice aoL nL cL) ∧ w'.cell? ⟨G, 1, none⟩ = some (.slice aoV nV cV)) (by kernel_rfl) ⟨keep_cell hdr x0, keep_cell hdr x1⟩ (fun hHeld => ?_)
    refine wpAnyH_take (i := 0) (v := .agg #[.slice aoL nL cL, .slice aoV nV cV]) rfl (by kernel_rfl) (by kernel_rfl) (by kernel_rfl) (fun _ _ _ h => h) (Or.inl ⟨by rfl, fun w hSw => ?_⟩) (by assumption) ?_
    · obtain ⟨s0, s1⟩ := hSw
      (go_simp <;> omega)
    try simp only [List.getElem_toArray, List.getElem_cons_zero, Act.put, List.setIfInBounds_toArray, List.set_cons_zero, List.set_cons_succ]
    refine wpAnyH_take (i := 2) (v := .agg #[.slice aoL nL cL, .slice aoV nV cV]) rfl (by kernel_rfl) (by kernel_rfl) (by kernel_rfl) (fun _ _ _ h => h) (Or.inl ⟨by rfl, fun w hSw => ?_⟩) (by assumption) ?_
    · obtain ⟨s0, s1⟩ := hSw
      (go_simp <;> omega)
    try simp only [List.getElem_toArray, List.getElem_cons_zero, List.getElem_cons_succ, Act.put, List.setIfInBounds_toArray, List.set_cons_zero, List.set_cons_succ]
    refine wpAnyH_ready (rs := [1]) (by kernel_rfl) (by simp) ?_
    refine AllReadyH.cons rfl (fun K hK => ?_) AllReadyH.nil
    go_simp
    go_at_call 104
    refine (Hsu0.out _ (hf.below hdr)).mono ?_
    rintro e z1 ⟨ao0, cap0, rfl, I0, hb1⟩
    have hb1' := hdr.trans (hb1.mono hdr.size)
    (try dsimp only)
    refine hK.out _ _ ⟨keep_cell hb1' x0, keep_cell hb1' x1⟩ (fun hHeld => ?_)
    clear hK K
    try simp only [List.getElem_toArray, List.getElem_cons_zero, List.getElem_cons_succ, Act.put, List.setIfInBounds_toArray, List.set_cons_zero, List.set_cons_succ]
    refine wpAnyH_ready (rs := [3]) (by kernel_rfl) (by simp) ?_
    refine AllReadyH.cons rfl (fun K hK => ?_) AllReadyH.nil
    go_simp
    go_at_call 104
    refine (Hsu1.out _ (hf.below hb1')).mono ?_
    rintro e z2 ⟨ao1, cap1, rfl, I1, hb2⟩
    replace I0 := I0.below hb2
    have hb2' := hb1'.trans (hb2.mono hb1'.size)
    (try dsimp only)
    refine hK.out _ _ ⟨keep_cell hb2' x0, keep_cell hb2' x1⟩ (fun hHeld => ?_)
    clear hK K
    try simp only [List.getElem_toArray, List.getElem_cons_zero, List.getElem_cons_succ, Act.put, List.setIfInBounds_toArray, List.set_cons_zero, List.set_cons_succ]
    refine wpAnyH_take (i := 4) (v := .slice ao0 us.length cap0) rfl (by kernel_rfl) (by kernel_rfl) (by kernel_rfl) (fun _ _ _ h => h) (Or.inl ⟨by rfl, fun w hSw => ?_⟩) (by assumption) ?_
    · obtain ⟨s0, s1⟩ := hSw
      (go_simp <;> omega)
    try simp only [List.getElem_toArray, List.getElem_cons_zero, List.getElem_cons_succ, Act.put, List.setIfInBounds_toArray, List.set_cons_zero, List.set_cons_succ]
    refine wpAnyH_take (i := 5) (v := .slice ao1 vs.length cap1) rfl (by kernel_rfl) (by kernel_rfl) (by kernel_rfl) (fun _ _ _ h => h) (Or.inl ⟨by rfl, fun w hSw => ?_⟩) (by assumption) ?_
    · obtain ⟨s0, s1⟩ := hSw
      (go_simp <;> omega)
    try simp only [List.getElem_toArray, List.getElem_cons_zero, List.getElem_cons_succ, Act.put, List.setIfInBounds_toArray, List.set_cons_zero, List.set_cons_succ]
    refine wpAnyH_done (by kernel_rfl) ?_ _
    replace rf := heap_keep hb2' rf
    replace hf := hf.below hb2'
    replace hA := hA.trans (hb2'.mono hA.size)
    clear hdr hb1 hb2 hb1' hb2' x0 x1 Hsu0 Hsu1
    obtain ⟨⟨x0, x1⟩, -, -⟩ := row_fr rf
    go_upto_region 5 with fail
    have hdr : Below z2.heap.size z2 z2.drew := below_drewN (Below.refl z2.heap.size z2) 1
    refine wp_region_held_drew (S := fun w' => w'.cell? ⟨G, 0, none⟩ = some (.slice aoL nL cL) ∧ w'.cell? ⟨G, 1, none⟩ = some (.slice aoV nV cV)) (by kernel_rfl) ⟨keep_cell hdr x0, keep_cell hdr x1⟩ (fun hHeld => ?_)
    refine wpAnyH_take (i := 0) (v := .agg #[.slice aoL nL cL, .slice aoV nV cV]) rfl (by kernel_rfl) (by kernel_rfl) (by kernel_rfl) (fun _ _ _ h => h) (Or.inl ⟨by rfl, fun w hSw => ?_⟩) (by assumption) ?_
    · obtain ⟨s0, s1⟩ := hSw
      (go_simp <;> omega)
    try simp only [List.getElem_toArray, List.getElem_cons_zero, Act.put, List.setIfInBounds_toArray, List.set_cons_zero, List.set_cons_succ]
    refine wpAnyH_take (i := 2) (v := .agg #[.slice aoL nL cL, .slice aoV nV cV]) rfl (by kernel_rfl) (by kernel_rfl) (by kernel_rfl) (fun _ _ _ h => h) (Or.inl ⟨by rfl, fun w hSw => ?_⟩) (by assumption) ?_
    · obtain ⟨s0, s1⟩ := hSw
      (go_simp <;> omega)
    try simp only [List.getElem_toArray, List.getElem_cons_zero, List.getElem_cons_succ, Act.put, List.setIfInBounds_toArray, List.set_cons_zero, List.set_cons_succ]
    refine wpAnyH_ready (rs := [1]) (by kernel_rfl) (by simp) ?_
    refine AllReadyH.cons rfl (fun K hK => ?_) AllReadyH.nil
    go_simp
    go_at_call 105
    refine (Hsa0.out _ (hf.below hdr)).mono ?_
    rintro e z3 ⟨rfl, hb1⟩
    have hb1' := hdr.trans (hb1.mono hdr.size)
    (try dsimp only)
    refine hK.out _ _ ⟨keep_cell hb1' x0, keep_cell hb1' x1⟩ (fun hHeld => ?_)
    clear hK K
    try simp only [List.getElem_toArray, List.getElem_cons_zero, List.getElem_cons_succ, Act.put, List.setIfInBounds_toArray, List.set_cons_zero, List.set_cons_succ]
    refine wpAnyH_ready (rs := [3]) (by kernel_rfl) (by simp) ?_
    refine AllReadyH.cons rfl (fun K hK => ?_) AllReadyH.nil
    go_simp
    go_at_call 105
    refine (Hsa1.out _ (hf.below hb1')).mono ?_
    rintro e z4 ⟨rfl, hb2⟩
    have hb2' := hb1'.trans (hb2.mono hb1'.size)
    (try dsimp only)
    refine hK.out _ _ ⟨keep_cell hb2' x0, keep_cell hb2' x1⟩ (fun hHeld => ?_)
    clear hK K
    try simp only [List.getElem_toArray, List.getElem_cons_zero, List.getElem_cons_succ, Act.put, List.setIfInBounds_toArray, List.set_cons_zero, List.set_cons_succ]
    refine wpAnyH_take (i := 4) (v := .int .i64 A) rfl (by kernel_rfl) (by kernel_rfl) (by kernel_rfl) (fun _ _ _ h => h) (Or.inl ⟨by rfl, fun w hSw => ?_⟩) (by assumption) ?_
    · obtain ⟨s0, s1⟩ := hSw
      (go_simp <;> omega)
    try simp only [List.getElem_toArray, List.getElem_cons_zero, List.getElem_cons_succ, Act.put, List.setIfInBounds_toArray, List.set_cons_zero, List.set_cons_succ]
    refine wpAnyH_take (i := 5) (v := .int .i64 B) rfl (by kernel_rfl) (by kernel_rfl) (by kernel_rfl) (fun _ _ _ h => h) (Or.inl ⟨by rfl, fun w hSw => ?_⟩) (by assumption) ?_
    · obtain ⟨s0, s1⟩ := hSw
      (go_simp <;> omega)
    try simp only [List.getElem_toArray, List.getElem_cons_zero, List.getElem_cons_succ, Act.put, List.setIfInBounds_toArray, List.set_cons_zero, List.set_cons_succ]
    refine wpAnyH_done (by kernel_rfl) ?_ _
    replace rf := heap_keep hb2' rf
    replace hf := hf.below hb2'
    replace hA := hA.trans (hb2'.mono hA.size)
    replace I0 := I0.below hb2'
    replace I1 := I1.below hb2'
    clear hdr hb1 hb2 hb1' hb2' x0 x1 Hsa0 Hsa1
    go_wp2_with fail
    refine (swhole_z z4).mono ?_
    rintro e z5 ⟨rfl, hb5⟩
    replace rf := heap_keep hb5 rf
    replace hf := hf.below hb5
    replace hA := hA.trans (hb5.mono hA.size)
    replace I0 := I0.below hb5
    replace I1 := I1.below hb5
    clear hb5
    go_upto_region 8 with fail
    have r10 := heap_alloc_new z5 (.cells #[.int .i64 0, .int .i64 1] 29)
    have hal := (Below.refl z5.heap.size z5).alloc (Nat.le_refl _) (.cells #[.int .i64 0, .int .i64 1] 29)
    generalize z5.alloc (.cells #[.int .i64 0, .int .i64 1] 29) = W6 at r10 hal ⊢
    obtain ⟨G6, hG6⟩ : ∃ g, g = z5.heap.size := ⟨_, rfl⟩
    rw [← hG6] at r10 ⊢
    have HG6 := Lib.hid hG6
    clear hG6
    obtain ⟨N, hN⟩ : ∃ n, n = bs.length := ⟨_, rfl⟩
    have hNu : us.length = N := by rw [hN]; exact HB.out.lu
    have hNv : vs.length = N := by rw [hN]; exact HB.out.lv
    have hN120 : N ≤ 120 := by rw [hN]; exact HB.out.le
    have HN := Lib.hid (And.intro hN (And.intro hNu hNv))
    rw [hNu, hNv]
    clear hN hNu hNv
    have m0 := Int.mul_pos t0.1 t1.1
    have m1 : A * B ≤ 2400 * 2400 := Int.mul_le_mul t0.2 t1.2 (by omega) (by omega)
    have eAB : IntKind.i64.wrap (A * B) = A * B := IntWalk.i64_in _ (by omega)
    obtain ⟨T, hT⟩ : ∃ t, t = A * B := ⟨_, rfl⟩
    have HT := Lib.hid hT
    rw [← hT] at m0 m1 eAB
    clear hT
    go_wp2_with fail
    go_loopw [9, 11] (fun s i wr => ∃ (k : Nat) (a : Rat), k ≤ N ∧ i = .int .i64 k ∧ s = .int .i64 (Fl.sumI (bs.take k)) ∧ Hid (EvH bs T q k a) ∧ wr.heap[G6]? = some (.cells #[.int .i64 a.num, .int .i64 a.den] 29 (0, 0)) ∧ Below z5.heap.size z5 wr) (fun _ i _ => N - (intOf i).toNat)
    case atStart => exact ⟨0, 0, Nat.zero_le _, rfl, rfl, Lib.hid (by rw [HT.out]; exact HB.out.zero), r10, hal⟩
    case round =>
      clear r10 hal
      obtain ⟨k, a, hk, rfl, rfl, HE, r10, hb⟩ := hrel
      have hpre := HB.out.pre k
      rw [← HT.out] at hpre
      by_cases hlt : k < N
      · have hkb : k < bs.length := by rw [← HN.out.1]; exact hlt
        have hat := HB.out.at_ k hkb
        obtain ⟨u0, u1, v0, v1⟩ := HB.out.ub k hkb
        obtain ⟨b0, f0, rfl, hb0s, y0⟩ := (I0.below hb).at (k := k) (by rw [HN.out.2.1]; exact hlt)
        obtain ⟨b1, f1, rfl, hb1s, y1⟩ := (I1.below hb).at (k := k) (by rw [HN.out.2.2]; exact hlt)
        have hfar := Lib.hid (HE.out.far hkb)
        have hhere := Lib.hid (fun h1 h2 (m : Nat) hm => HE.out.here hkb h1 h2 (m := m) hm)
        have hpast := Lib.hid (HE.out.past hkb)
        have hst := Lib.hid (Fl.sumI_take hkb)
        obtain ⟨x, hx⟩ : ∃ x, x = us.getD k 0 := ⟨_, rfl⟩
        obtain ⟨y, hy⟩ : ∃ y, y = vs.getD k 0 := ⟨_, rfl⟩
        obtain ⟨s, hs⟩ : ∃ s, s = Fl.sumI (bs.take k) := ⟨_, rfl⟩
        obtain ⟨mo, hmo⟩ : ∃ m, m = bs.getD k 0 := ⟨_, rfl⟩
        rw [← hx] at hat u0 u1 y0
        rw [← hy] at hat v0 v1 y1
        rw [← hmo] at hat hst hfar hhere hpast
        rw [← hs] at hst hfar hhere hpast hpre ⊢
        have n0 : 0 ≤ x * B := Int.mul_nonneg u0 (by omega)
        have n1 : x * B ≤ 20 * 2400 := Int.mul_le_mul u1 t1.2 (by omega) (by omega)
        have n2 : 0 ≤ y * A := Int.mul_nonneg v0 (by omega)
        have n3 : y * A ≤ 20 * 2400 := Int.mul_le_mul v1 t0.2 (by omega) (by omega)
        obtain ⟨m, rfl⟩ := Int.eq_ofNat_of_zero_le (show 0 ≤ mo by omega)
        have w1 : IntKind.i64.wrap (x * B) = x * B := IntWalk.i64_in _ (by omega)
        have w2 : IntKind.i64.wrap (y * A) = y * A := IntWalk.i64_in _ (by omega)
        have w3 : IntKind.i64.wrap (x * B + y * A) = (m : Int) := by rw [← hat]; exact IntWalk.i64_in _ (by omega)
        have w4 : IntKind.i64.wrap (s + (m : Int)) = s + (m : Int) := IntWalk.i64_in _ (by omega)
        have hmb : (m : Int) ≤ 96000 := by omega
        have eAB' : IntKind.i64.wrap (A * B) = T := by rw [← HT.out]; exact eAB
        have hhere2 := Lib.hid (fun h1 h2 => hhere.out h1 h2 m rfl)
        have i1 : (k : Int) < (N : Int) := by omega
        clear hx hy hs hmo hhere n0 n1 n2 n3 hat u0 u1 v0 v1 eAB
        go_wp2_with fail
        go_quiet (fail)
        have hbd := below_drewN (Below.refl wr.heap.size wr) nq
        replace r10 := heap_keep hbd r10
        replace hb := hb.trans (hbd.mono hb.size)
        clear hbd y0 y1 hb0s hb1s w1 w2 w3
        generalize wr.drewN nq = W3 at r10 hb ⊢
        by_cases c1 : T ≤ s
        · have d1 : decide (s < T) = false := by rw [decide_eq_false_iff_not]; omega
          have hE2 := Lib.hid (hpast.out c1 (by omega))
          clear hpast hfar hhere2
          go_wp2_with fail
          go_roundw
          case rel => exact ⟨k + 1, a, by omega, by go_num, by rw [hst.out], hE2, r10, hb⟩
          case measure => simp [intOf]; omega
        · have d1 : decide (s < T) = true := by rw [decide_eq_true_iff]; omega
          by_cases c2 : T ≤ s + (m : Int)
          · have d2 : decide (T ≤ s + (m : Int)) = true := by rw [decide_eq_true_iff]; exact c2
            have hm0 : 0 < m := by omega
            have hSu : SumQ ((k : Int) : Rat) (mkRat (T - s) m) := by
              obtain ⟨p1, p2⟩ := mk_num_le (n := T - s) (d := m) (by omega)
              have p3 := mk_den_le (n := T - s) (d := m) hm0
              have p4 := (mkRat (T - s) m).den_pos
              have p5 : (k : Int) * ((mkRat (T - s) m).den : Int) ≤ 120 * 96000 := Int.mul_le_mul (by omega) (by omega) (by omega) (by omega)
              have p6 : 0 ≤ (k : Int) * ((mkRat (T - s) m).den : Int) := Int.mul_nonneg (by omega) (by omega)
              unfold SumQ
              rw [Rat.num_intCast, Rat.den_intCast]
              exact ⟨by omega, p4, by omega, by omega, by omega, by omega, by omega⟩
            have w5 : IntKind.i64.wrap (T - s) = T - s := IntWalk.i64_in _ (by omega)
            have hE2 := Lib.hid (hhere2.out (by omega) c2)
            have hRt := fun w' => ratio_any (T - s) m w' hm0 (by omega) (by omega) (by omega)
            have hWh := rwhole_any (k : Int) W3
            obtain ⟨K, hK⟩ : ∃ x, x = ((k : Int) : Rat) := ⟨_, rfl⟩
            obtain ⟨R, hR⟩ : ∃ x, x = mkRat (T - s) m := ⟨_, rfl⟩
            rw [← hK] at hSu hE2 hWh
            rw [← hR] at hSu hE2 hRt
            have HRt := Lib.hid hRt
            clear hpast hfar hhere2 hK hR hRt
            go_wp2_with fail
            refine hWh.mono ?_
            rintro e z7 ⟨rfl, hb7⟩
            replace r10 := heap_keep hb7 r10
            replace hb := hb.trans (hb7.mono hb.size)
            clear hb7 hWh
            go_wp2_with fail
            refine (HRt.out z7).mono ?_
            rintro e z8 ⟨rfl, hb7⟩
            replace r10 := heap_keep hb7 r10
            replace hb := hb.trans (hb7.mono hb.size)
            clear hb7 HRt
            go_wp2_with fail
            refine (radd_q K R z8 hSu).mono ?_
            rintro e z9 ⟨rfl, hb7⟩
            replace r10 := heap_keep hb7 r10
            replace hb := hb.trans (hb7.mono hb.size)
            clear hb7 hSu
            generalize K + R = a2 at hE2 ⊢
            obtain ⟨⟨e0, e1⟩, s0, s1⟩ := row_fr r10
            have r10b := two_cells r10 (.int .i64 a2.num) (.int .i64 (a2.den : Int))
            have hb9 := below_setCell (g := G6) (o := 1) (below_setCell (g := G6) (o := 0) hb (by have := HG6.out; omega) (.int .i64 a2.num)) (by have := HG6.out; omega) (.int .i64 (a2.den : Int))
            go_wp2_with fail
            go_roundw
            case rel => exact ⟨k + 1, a2, by omega, by go_num, by rw [hst.out], hE2, r10b, hb9⟩
            case measure => simp [intOf]; omega
          · have d2 : decide (T ≤ s + (m : Int)) = false := by rw [decide_eq_false_iff_not]; exact c2
            have hE2 := Lib.hid (hfar.out (by omega) (by omega))
            clear hpast hfar hhere2
            go_wp2_with fail
            go_roundw
            case rel => exact ⟨k + 1, a, by omega, by go_num, by rw [hst.out], hE2, r10, hb⟩
            case measure => simp [intOf]; omega
      · have hk2 : k = N := by omega
        have haq : a = q := HE.out.hi (by
          rw [hk2, HN.out.1, List.take_length, HB.out.all, HT.out]
          have := HT.out
          omega)
        have Hk := Lib.hid hk2
        subst haq
        replace rf := heap_keep hb rf
        replace hf := hf.below hb
        replace hA := hA.trans (hb.mono hA.size)
        clear hk2 HE hb I0 I1 HB
        obtain ⟨⟨x0, x1⟩, -, -⟩ := row_fr rf
        obtain ⟨⟨e0, e1⟩, -, -⟩ := row_fr r10
        go_wp2_with fail
        refine (scutAt_any L V 0 1 a aoL nL cL aoV nV cV wr hf hok rfl).mono ?_
        rintro e z7 ⟨g, rfl, ho, hb7⟩
        go_wp2_with fail
        go_ret2
        refine ⟨.slice (some ⟨g, 0, none⟩) 2 2, by simp [Hz.out], ?_, hA.trans (hb7.mono hA.size)⟩
        rw [hEv.out]
        exact own_mono ho hA.size
  · have hne : (Kn.val2 L V != 0) = true := by simp [hz]
    have hEv : Hid (Kn.evL L V = []) := Lib.hid (by unfold Kn.evL; rw [if_neg hz])
    obtain ⟨C, hC⟩ : ∃ C, Kn.val2 L V = C := ⟨_, rfl⟩
    rw [hC] at hz hne ⊢
    have HC := Lib.hid hC
    clear hC
    go_wp2_with fail
    go_ret2
    refine ⟨.slice none 0 0, by simp [HC.out], ?_, hA⟩
    rw [hEv.out]
    exact own_none
end Go.Proofs.Ytemlfklipkpacaa
