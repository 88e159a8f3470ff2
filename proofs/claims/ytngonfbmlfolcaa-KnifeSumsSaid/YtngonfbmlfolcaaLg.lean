import Derived.Test.YtngonfbmlfolcaaLf
import Derived.Test.YtngonfbmlfolcaaLc
import Derived.Test.YtngonfbmlfolcaaB4
/- The reference of package knife: places, and the worth between two of them. -/
namespace Go.Proofs.Ytngonfbmlfolcaa
open Go.RowKit
theorem valid_plc6 {L n d : Int} : Fl.plc L n d 1000000 = (valB n d 1000000 && (decide (0 ≤ n) && decide (mkRat n d.toNat ≤ (L : Rat)))) := by
  by_cases h : 0 ≤ n
  · unfold Fl.plc; rw [valB_amt h]; simp [h]
  · unfold Fl.plc Fl.amt; simp [h]

set_option maxRecDepth 100000 in
set_option maxHeartbeats 8000000 in
theorem sisPlace_any (L : List Int) (V : List (List Int)) (n d : Int) (aoL : Option Addr) (nL cL : Nat) (aoV : Option Addr) (nV cV : Nat) (w : World) (hf : Fld w aoL nL aoV nV L V) (hok : Kn.Ok L V) (hn0 : -9223372036854775808 ≤ n) (hn : n ≤ 9223372036854775807) :
    Calls Try.prog 91 #[.agg #[.slice aoL nL cL, .slice aoV nV cV], .agg #[.int .i64 n, .int .i64 d]] w fun e w' => e = .returned (.bool (Fl.plc (Kn.stop L) n d 1000000)) ∧ Below w.heap.size w w' := by
  have hst := hok.stopB
  have hzs := hok.zStop (o := 0) hok.v1
  have hul := Fl.units_length (hok.zOk (o := 0) hok.v1)
  have hLs : Hid (((Fl.units (Kn.Z L V 0)).length : Int) = Kn.stop L) := Lib.hid (by rw [hul, hzs])
  have hL1 : (Fl.units (Kn.Z L V 0)).length ≤ 1000 := by omega
  clear hul hzs
  obtain ⟨R, hR⟩ : ∃ r, r = Fl.plc (Kn.stop L) n d 1000000 := ⟨_, rfl⟩
  rw [← hR]
  rw [valid_plc6] at hR
  have HR := Lib.hid hR
  clear hR
  have hA := below_alloc2 w (.cells #[.slice aoL nL cL, .slice aoV nV cV] 57) (.cells #[.int .i64 n, .int .i64 d] 29)
  have rf := heap_alloc2_old w (.cells #[.slice aoL nL cL, .slice aoV nV cV] 57) (.cells #[.int .i64 n, .int .i64 d] 29)
  have rx := heap_alloc2_new w (.cells #[.slice aoL nL cL, .slice aoV nV cV] 57) (.cells #[.int .i64 n, .int .i64 d] 29)
  go_enter Try.func91, Try.ntmps91
  go_upto_region 1 with fail
  generalize (w.alloc (.cells #[.slice aoL nL cL, .slice aoV nV cV] 57)).alloc (.cells #[.int .i64 n, .int .i64 d] 29) = wr at hA rf rx ⊢
  obtain ⟨⟨x0, x1⟩, -, -⟩ := row_fr rf
  obtain ⟨⟨y0, y1⟩, -, -⟩ := row_fr rx
  have hfr := hf.below hA
  have hdr : Below wr.heap.size wr wr.drew := below_drewN (Below.refl wr.heap.size wr) 1
  obtain ⟨G, hG⟩ : ∃ g, g = w.heap.size := ⟨_, rfl⟩
  rw [← hG] at x0 x1 y0 y1 ⊢
  have HG := Lib.hid hG
  clear hG rf rx
  have hS0 := And.intro x0 (And.intro x1 (And.intro y0 y1))
  have keepS : ∀ {W : World}, Below wr.heap.size wr W → (wr.cell? ⟨G, 0, none⟩ = some (.slice aoL nL cL) ∧ wr.cell? ⟨G, 1, none⟩ = some (.slice aoV nV cV) ∧ wr.cell? ⟨G + 1, 0, none⟩ = some (.int .i64 n) ∧ wr.cell? ⟨G + 1, 1, none⟩ = some (.int .i64 d)) → (W.cell? ⟨G, 0, none⟩ = some (.slice aoL nL cL) ∧ W.cell? ⟨G, 1, none⟩ = some (.slice aoV nV cV) ∧ W.cell? ⟨G + 1, 0, none⟩ = some (.int .i64 n) ∧ W.cell? ⟨G + 1, 1, none⟩ = some (.int .i64 d)) :=
    fun hb h => ⟨keep_cell hb h.1, keep_cell hb h.2.1, keep_cell hb h.2.2.1, keep_cell hb h.2.2.2⟩
  clear x0 x1 y0 y1
  obtain ⟨vb, hvb⟩ : ∃ b, valB n d 1000000 = b := ⟨_, rfl⟩
  have hIV := risValid_any n d 1000000 wr.drew hn0 hn (by omega)
  rw [hvb] at hIV
  have HIV := Lib.hid hIV
  clear hIV
  refine wp_region_held_drew (S := fun w' => w'.cell? ⟨G, 0, none⟩ = some (.slice aoL nL cL) ∧ w'.cell? ⟨G, 1, none⟩ = some (.slice aoV nV cV) ∧ w'.cell? ⟨G + 1, 0, none⟩ = some (.int .i64 n) ∧ w'.cell? ⟨G + 1, 1, none⟩ = some (.int .i64 d)) (by kernel_rfl) (keepS hdr hS0) (fun hHeld => ?_)
  cases vb with
  | false =>
    have hr := Lib.hid (show R = false by rw [HR.out, hvb]; rfl)
    clear hvb
    refine wpAnyH_take (i := 0) (v := .agg #[.int .i64 n, .int .i64 d]) rfl (by kernel_rfl) (by kernel_rfl) (by kernel_rfl) (fun _ _ _ h => h) (Or.inl ⟨by rfl, fun w hSw => ?_⟩) (by assumption) ?_
    · obtain ⟨s0, s1, s2, s3⟩ := hSw
      (go_simp <;> omega)
    try simp only [List.getElem_toArray, List.getElem_cons_zero, Act.put, List.setIfInBounds_toArray, List.set_cons_zero, List.set_cons_succ]
    refine wpAnyH_ready (rs := [1]) (by kernel_rfl) (by simp) ?_
    refine AllReadyH.cons rfl (fun K hK => ?_) AllReadyH.nil
    go_simp
    go_at_call 74
    refine HIV.out.mono ?_
    rintro e z1 ⟨rfl, hb1⟩
    have hb1' := hdr.trans (hb1.mono hdr.size)
    (try dsimp only)
    refine hK.out _ _ (keepS hb1' hS0) (fun hHeld => ?_)
    clear hK K
    try simp only [List.getElem_toArray, List.getElem_cons_zero, List.getElem_cons_succ, Act.put, List.setIfInBounds_toArray, List.set_cons_zero, List.set_cons_succ]
    refine wpAnyH_take (i := 2) (v := .bool false) rfl (by kernel_rfl) (by kernel_rfl) (by kernel_rfl) (fun _ _ _ h => h) (Or.inl ⟨by rfl, fun w hSw => ?_⟩) (by assumption) ?_
    · obtain ⟨s0, s1, s2, s3⟩ := hSw
      (go_simp <;> omega)
    try simp only [List.getElem_toArray, List.getElem_cons_zero, List.getElem_cons_succ, Act.put, List.setIfInBounds_toArray, List.set_cons_zero, List.set_cons_succ]
    refine wpAnyH_take (i := 3) (v := undef) rfl (by kernel_rfl) (by kernel_rfl) (by kernel_rfl) (fun _ _ _ h => h) (Or.inr ⟨by rfl, rfl⟩) (by assumption) ?_
    try simp only [List.getElem_toArray, List.getElem_cons_zero, List.getElem_cons_succ, Act.put, List.setIfInBounds_toArray, List.set_cons_zero, List.set_cons_succ]
    refine wpAnyH_take (i := 4) (v := undef) rfl (by kernel_rfl) (by kernel_rfl) (by kernel_rfl) (fun _ _ _ h => h) (Or.inr ⟨by rfl, rfl⟩) (by assumption) ?_
    try simp only [List.getElem_toArray, List.getElem_cons_zero, List.getElem_cons_succ, Act.put, List.setIfInBounds_toArray, List.set_cons_zero, List.set_cons_succ]
    refine wpAnyH_take (i := 5) (v := undef) rfl (by kernel_rfl) (by kernel_rfl) (by kernel_rfl) (fun _ _ _ h => h) (Or.inr ⟨by rfl, rfl⟩) (by assumption) ?_
    try simp only [List.getElem_toArray, List.getElem_cons_zero, List.getElem_cons_succ, Act.put, List.setIfInBounds_toArray, List.set_cons_zero, List.set_cons_succ]
    refine wpAnyH_take (i := 6) (v := undef) rfl (by kernel_rfl) (by kernel_rfl) (by kernel_rfl) (fun _ _ _ h => h) (Or.inr ⟨by rfl, rfl⟩) (by assumption) ?_
    try simp only [List.getElem_toArray, List.getElem_cons_zero, List.getElem_cons_succ, Act.put, List.setIfInBounds_toArray, List.set_cons_zero, List.set_cons_succ]
    refine wpAnyH_take (i := 7) (v := .bool false) rfl (by kernel_rfl) (by kernel_rfl) (by kernel_rfl) (fun _ _ _ h => h) (Or.inl ⟨by rfl, fun w hSw => ?_⟩) (by assumption) ?_
    · obtain ⟨s0, s1, s2, s3⟩ := hSw
      (go_simp <;> omega)
    try simp only [List.getElem_toArray, List.getElem_cons_zero, List.getElem_cons_succ, Act.put, List.setIfInBounds_toArray, List.set_cons_zero, List.set_cons_succ]
    refine wpAnyH_take (i := 8) (v := .bool false) rfl (by kernel_rfl) (by kernel_rfl) (by kernel_rfl) (fun _ _ _ h => h) (Or.inl ⟨by rfl, fun w hSw => ?_⟩) (by assumption) ?_
    · obtain ⟨s0, s1, s2, s3⟩ := hSw
      (go_simp <;> omega)
    try simp only [List.getElem_toArray, List.getElem_cons_zero, List.getElem_cons_succ, Act.put, List.setIfInBounds_toArray, List.set_cons_zero, List.set_cons_succ]
    refine wpAnyH_done (by kernel_rfl) ?_ _
    go_wp2_with fail
    go_ret
    exact ⟨ret_bool hr.out.symm, hA.trans (hb1'.mono hA.size)⟩
  | true =>
    have hd12 := valB_d hvb
    have hr := Lib.hid (show R = (decide (0 ≤ n) && decide (mkRat n d.toNat ≤ (Kn.stop L : Rat))) by rw [HR.out, hvb, Bool.true_and])
    clear hvb
    refine wpAnyH_take (i := 0) (v := .agg #[.int .i64 n, .int .i64 d]) rfl (by kernel_rfl) (by kernel_rfl) (by kernel_rfl) (fun _ _ _ h => h) (Or.inl ⟨by rfl, fun w hSw => ?_⟩) (by assumption) ?_
    · obtain ⟨s0, s1, s2, s3⟩ := hSw
      (go_simp <;> omega)
    try simp only [List.getElem_toArray, List.getElem_cons_zero, Act.put, List.setIfInBounds_toArray, List.set_cons_zero, List.set_cons_succ]
    refine wpAnyH_ready (rs := [1]) (by kernel_rfl) (by simp) ?_
    refine AllReadyH.cons rfl (fun K hK => ?_) AllReadyH.nil
    go_simp
    go_at_call 74
    refine HIV.out.mono ?_
    rintro e z1 ⟨rfl, hb1⟩
    have hb1' := hdr.trans (hb1.mono hdr.size)
    (try dsimp only)
    refine hK.out _ _ (keepS hb1' hS0) (fun hHeld => ?_)
    clear hK K
    try simp only [List.getElem_toArray, List.getElem_cons_zero, List.getElem_cons_succ, Act.put, List.setIfInBounds_toArray, List.set_cons_zero, List.set_cons_succ]
    refine wpAnyH_take (i := 2) (v := .bool true) rfl (by kernel_rfl) (by kernel_rfl) (by kernel_rfl) (fun _ _ _ h => h) (Or.inl ⟨by rfl, fun w hSw => ?_⟩) (by assumption) ?_
    · obtain ⟨s0, s1, s2, s3⟩ := hSw
      (go_simp <;> omega)
    try simp only [List.getElem_toArray, List.getElem_cons_zero, List.getElem_cons_succ, Act.put, List.setIfInBounds_toArray, List.set_cons_zero, List.set_cons_succ]
    refine wpAnyH_take (i := 3) (v := .agg #[.slice aoL nL cL, .slice aoV nV cV]) rfl (by kernel_rfl) (by kernel_rfl) (by kernel_rfl) (fun _ _ _ h => h) (Or.inl ⟨by rfl, fun w hSw => ?_⟩) (by assumption) ?_
    · obtain ⟨s0, s1, s2, s3⟩ := hSw
      (go_simp <;> omega)
    try simp only [List.getElem_toArray, List.getElem_cons_zero, List.getElem_cons_succ, Act.put, List.setIfInBounds_toArray, List.set_cons_zero, List.set_cons_succ]
    refine wpAnyH_take (i := 5) (v := .agg #[.int .i64 n, .int .i64 d]) rfl (by kernel_rfl) (by kernel_rfl) (by kernel_rfl) (fun _ _ _ h => h) (Or.inl ⟨by rfl, fun w hSw => ?_⟩) (by assumption) ?_
    · obtain ⟨s0, s1, s2, s3⟩ := hSw
      (go_simp <;> omega)
    try simp only [List.getElem_toArray, List.getElem_cons_zero, List.getElem_cons_succ, Act.put, List.setIfInBounds_toArray, List.set_cons_zero, List.set_cons_succ]
    refine wpAnyH_ready (rs := [4]) (by kernel_rfl) (by simp) ?_
    refine AllReadyH.cons rfl (fun K hK => ?_) AllReadyH.nil
    go_simp
    go_at_call 92
    refine (sunits_any L V 0 _ _ _ _ _ _ z1 (hfr.below hb1') hok hok.v1).mono ?_
    rintro e z2 ⟨ao2, cap2, rfl, hI2, hb2⟩
    have hb2' := hb1'.trans (hb2.mono hb1'.size)
    (try dsimp only)
    refine hK.out _ _ (keepS hb2' hS0) (fun hHeld => ?_)
    clear hK K
    try simp only [List.getElem_toArray, List.getElem_cons_zero, List.getElem_cons_succ, Act.put, List.setIfInBounds_toArray, List.set_cons_zero, List.set_cons_succ]
    have hIP := risPlace_any (Fl.units (Kn.Z L V 0)).length ao2 cap2 n d z2 hL1 hd12.1 hd12.2 hn
    rw [hLs.out, ← hr.out] at hIP
    have HIP := Lib.hid hIP
    clear hIP
    generalize (Fl.units (Kn.Z L V 0)).length = nu at HIP hI2 ⊢
    refine wpAnyH_ready (rs := [6]) (by kernel_rfl) (by simp) ?_
    refine AllReadyH.cons rfl (fun K hK => ?_) AllReadyH.nil
    go_simp
    go_at_call 114
    refine HIP.out.mono ?_
    rintro e z3 ⟨rfl, hb3⟩
    have hb3' := hb2'.trans (hb3.mono hb2'.size)
    (try dsimp only)
    refine hK.out _ _ (keepS hb3' hS0) (fun hHeld => ?_)
    clear hK K
    try simp only [List.getElem_toArray, List.getElem_cons_zero, List.getElem_cons_succ, Act.put, List.setIfInBounds_toArray, List.set_cons_zero, List.set_cons_succ]
    refine wpAnyH_take (i := 7) (v := .bool R) rfl (by kernel_rfl) (by kernel_rfl) (by kernel_rfl) (fun _ _ _ h => h) (Or.inl ⟨by rfl, fun w hSw => ?_⟩) (by assumption) ?_
    · obtain ⟨s0, s1, s2, s3⟩ := hSw
      (go_simp <;> omega)
    try simp only [List.getElem_toArray, List.getElem_cons_zero, List.getElem_cons_succ, Act.put, List.setIfInBounds_toArray, List.set_cons_zero, List.set_cons_succ]
    refine wpAnyH_take (i := 8) (v := .bool R) rfl (by kernel_rfl) (by kernel_rfl) (by kernel_rfl) (fun _ _ _ h => h) (Or.inl ⟨by rfl, fun w hSw => ?_⟩) (by assumption) ?_
    · obtain ⟨s0, s1, s2, s3⟩ := hSw
      (go_simp <;> omega)
    try simp only [List.getElem_toArray, List.getElem_cons_zero, List.getElem_cons_succ, Act.put, List.setIfInBounds_toArray, List.set_cons_zero, List.set_cons_succ]
    refine wpAnyH_done (by kernel_rfl) ?_ _
    go_wp2_with fail
    go_ret
    exact ⟨rfl, hA.trans (hb3'.mono hA.size)⟩
end Go.Proofs.Ytngonfbmlfolcaa
