import Derived.Test.YteecfdjphjkdkaaMd
namespace Go.Proofs.Yteecfdjphjkdkaa
open Go.RowKit
set_option maxRecDepth 100000 in
set_option maxHeartbeats 1000000 in
theorem levelU (L : List Int) (E : Int) (ao : Option Addr) (n cap : Nat) (w : World) (hI : Ints w ao L) (hln : n = L.length) (hn : n ≤ 100000) :
    Calls Try.prog 27 #[.slice ao n cap, .int .i64 E] w fun e w' => e = .returned (.tuple #[frOr (Cl.caseC L E) (Cl.lvl L (E)), .int .i64 (Cl.caseC L E)]) ∧ Below w.heap.size w w' := by
  have Hn := Lib.hid hln
  have r0 := heap_alloc_new w (.cells #[.int .i64 0, .int .i64 0] 35)
  have hB : Below w.heap.size w (w.alloc (.cells #[.int .i64 0, .int .i64 0] 35)) := (Below.refl _ w).alloc (Nat.le_refl _) _
  replace hI := hI.below hB
  clear hln
  go_enter Try.func27, Try.ntmps27
  go_wp2_with fail
  generalize (w.alloc (.cells #[.int .i64 0, .int .i64 0] 35)) = w1 at r0 hB hI ⊢
  obtain ⟨G, hG⟩ : ∃ G, G = w.heap.size := ⟨_, rfl⟩
  rw [← hG] at r0 ⊢
  have hGw : w.heap.size ≤ G := by omega
  clear hG
  refine (validate_any L E ao n cap w1 hI Hn.out hn).mono ?_
  rintro e w2 ⟨rfl, hb2⟩
  replace hI := hI.below hb2
  replace r0 := heap_keep hb2 r0
  replace hB := hB.trans (hb2.mono hB.size)
  clear hb2
  rcases (show Cl.caseC L E = 0 ∨ Cl.caseC L E = 1 by unfold Cl.caseC; split <;> simp) with hc | hc
  · obtain ⟨a1, a2, a3⟩ := Cl.caseC_ok.1 hc
    have Hz := Lib.hid hc
    rw [hc]
    have Hc := Lib.hid (And.intro a1 (And.intro a2 a3))
    clear hc a1 a2 a3
    go_wp2_with fail
    refine (level_i L E ao n cap w2 hI Hn.out Hc.out.1 Hc.out.2.1 Hc.out.2.2).mono ?_
    rintro e w3 ⟨a, d, hL, rfl, hb3⟩
    rw [Cl.lvl_eq hL]
    clear hL
    replace r0 := heap_keep hb3 r0
    replace hB := hB.trans (hb3.mono hB.size)
    clear hb3
    obtain ⟨q, hq⟩ : ∃ q, q = Cl.lvl L (E) := ⟨_, rfl⟩
    rw [← hq]
    have Hq := Lib.hid hq
    clear hq
    rw [show Fr q = .agg #[.int .i64 q.num, .int .i64 q.den] from rfl]
    obtain ⟨⟨c0, c1⟩, f0, f1⟩ := row_fr r0
    go_wp2_with fail
    exact bodyPost_ret (results_cell_tmp rfl _ _ _ _ _ _ _ rfl (two_cells r0 (.int .i64 q.num) (.int .i64 q.den)) Try.underlying35 rfl infoRat2) rfl ⟨by rw [Hz.out, frOr_ok, ← Hq.out]; rfl, below_setCell (below_setCell hB hGw _) hGw _⟩
  · have Hz := Lib.hid hc
    rw [hc]
    clear hc
    obtain ⟨⟨c0, c1⟩, f0, f1⟩ := row_fr r0
    go_wp2_with fail
    exact bodyPost_ret (results_cell_tmp rfl _ _ _ _ _ _ _ rfl (two_cells r0 (.int .i64 0) (.int .i64 0)) Try.underlying35 rfl infoRat2) rfl ⟨by rw [Hz.out, frOr_no (by decide)]; rfl, below_setCell (below_setCell hB hGw _) hGw _⟩
set_option maxRecDepth 100000 in
set_option maxHeartbeats 1000000 in
theorem lossU (L : List Int) (E : Int) (ao : Option Addr) (n cap : Nat) (w : World) (hI : Ints w ao L) (hln : n = L.length) (hn : n ≤ 100000) :
    Calls Try.prog 29 #[.slice ao n cap, .int .i64 E] w fun e w' => e = .returned (.tuple #[frOr (Cl.caseC L E) (Cl.lvl L (Fl.sumI L - E)), .int .i64 (Cl.caseC L E)]) ∧ Below w.heap.size w w' := by
  have Hn := Lib.hid hln
  have r0 := heap_alloc_new w (.cells #[.int .i64 0, .int .i64 0] 35)
  have hB : Below w.heap.size w (w.alloc (.cells #[.int .i64 0, .int .i64 0] 35)) := (Below.refl _ w).alloc (Nat.le_refl _) _
  replace hI := hI.below hB
  clear hln
  go_enter Try.func29, Try.ntmps29
  go_wp2_with fail
  generalize (w.alloc (.cells #[.int .i64 0, .int .i64 0] 35)) = w1 at r0 hB hI ⊢
  obtain ⟨G, hG⟩ : ∃ G, G = w.heap.size := ⟨_, rfl⟩
  rw [← hG] at r0 ⊢
  have hGw : w.heap.size ≤ G := by omega
  clear hG
  refine (validate_any L E ao n cap w1 hI Hn.out hn).mono ?_
  rintro e w2 ⟨rfl, hb2⟩
  replace hI := hI.below hb2
  replace r0 := heap_keep hb2 r0
  replace hB := hB.trans (hb2.mono hB.size)
  clear hb2
  rcases (show Cl.caseC L E = 0 ∨ Cl.caseC L E = 1 by unfold Cl.caseC; split <;> simp) with hc | hc
  · obtain ⟨a1, a2, a3⟩ := Cl.caseC_ok.1 hc
    have Hz := Lib.hid hc
    rw [hc]
    have Hc := Lib.hid (And.intro a1 (And.intro a2 a3))
    clear hc a1 a2 a3
    go_wp2_with fail
    refine (loss_any L E ao n cap w2 hI Hn.out Hc.out.1 Hc.out.2.1 Hc.out.2.2).mono ?_
    rintro e w3 ⟨a, d, hL, rfl, hb3⟩
    rw [Cl.lvl_eq hL]
    clear hL
    replace r0 := heap_keep hb3 r0
    replace hB := hB.trans (hb3.mono hB.size)
    clear hb3
    obtain ⟨q, hq⟩ : ∃ q, q = Cl.lvl L (Fl.sumI L - E) := ⟨_, rfl⟩
    rw [← hq]
    have Hq := Lib.hid hq
    clear hq
    rw [show Fr q = .agg #[.int .i64 q.num, .int .i64 q.den] from rfl]
    obtain ⟨⟨c0, c1⟩, f0, f1⟩ := row_fr r0
    go_wp2_with fail
    exact bodyPost_ret (results_cell_tmp rfl _ _ _ _ _ _ _ rfl (two_cells r0 (.int .i64 q.num) (.int .i64 q.den)) Try.underlying35 rfl infoRat2) rfl ⟨by rw [Hz.out, frOr_ok, ← Hq.out]; rfl, below_setCell (below_setCell hB hGw _) hGw _⟩
  · have Hz := Lib.hid hc
    rw [hc]
    clear hc
    obtain ⟨⟨c0, c1⟩, f0, f1⟩ := row_fr r0
    go_wp2_with fail
    exact bodyPost_ret (results_cell_tmp rfl _ _ _ _ _ _ _ rfl (two_cells r0 (.int .i64 0) (.int .i64 0)) Try.underlying35 rfl infoRat2) rfl ⟨by rw [Hz.out, frOr_no (by decide)]; rfl, below_setCell (below_setCell hB hGw _) hGw _⟩
set_option maxRecDepth 100000 in
set_option maxHeartbeats 1000000 in
theorem rlevelU (L : List Int) (E : Int) (ao : Option Addr) (n cap : Nat) (w : World) (hI : Ints w ao L) (hln : n = L.length) (hn : n ≤ 100000) :
    Calls Try.prog 28 #[.slice ao n cap, .int .i64 E] w fun e w' => e = .returned (.tuple #[frOr (Cl.caseC L E) (Cl.lvl L (E)), .int .i64 (Cl.caseC L E)]) ∧ Below w.heap.size w w' := by
  have Hn := Lib.hid hln
  have r0 := heap_alloc_new w (.cells #[.int .i64 0, .int .i64 0] 35)
  have hB : Below w.heap.size w (w.alloc (.cells #[.int .i64 0, .int .i64 0] 35)) := (Below.refl _ w).alloc (Nat.le_refl _) _
  replace hI := hI.below hB
  clear hln
  go_enter Try.func28, Try.ntmps28
  go_wp2_with fail
  generalize (w.alloc (.cells #[.int .i64 0, .int .i64 0] 35)) = w1 at r0 hB hI ⊢
  obtain ⟨G, hG⟩ : ∃ G, G = w.heap.size := ⟨_, rfl⟩
  rw [← hG] at r0 ⊢
  have hGw : w.heap.size ≤ G := by omega
  clear hG
  refine (rvalidate_any L E ao n cap w1 hI Hn.out hn).mono ?_
  rintro e w2 ⟨rfl, hw0⟩; obtain rfl := hw0.symm
  clear hw0
  rcases (show Cl.caseC L E = 0 ∨ Cl.caseC L E = 1 by unfold Cl.caseC; split <;> simp) with hc | hc
  · obtain ⟨a1, a2, a3⟩ := Cl.caseC_ok.1 hc
    have Hz := Lib.hid hc
    rw [hc]
    have Hc := Lib.hid (And.intro a1 (And.intro a2 a3))
    clear hc a1 a2 a3
    go_wp2_with fail
    refine (rlevel_any L E ao n cap w1 hI Hn.out Hc.out.1 Hc.out.2.1 Hc.out.2.2).mono ?_
    rintro e w3 ⟨a, d, hL, rfl, hb3⟩
    rw [Cl.lvl_eq hL]
    clear hL
    replace r0 := heap_keep hb3 r0
    replace hB := hB.trans (hb3.mono hB.size)
    clear hb3
    obtain ⟨q, hq⟩ : ∃ q, q = Cl.lvl L (E) := ⟨_, rfl⟩
    rw [← hq]
    have Hq := Lib.hid hq
    clear hq
    rw [show Fr q = .agg #[.int .i64 q.num, .int .i64 q.den] from rfl]
    obtain ⟨⟨c0, c1⟩, f0, f1⟩ := row_fr r0
    go_wp2_with fail
    exact bodyPost_ret (results_cell_tmp rfl _ _ _ _ _ _ _ rfl (two_cells r0 (.int .i64 q.num) (.int .i64 q.den)) Try.underlying35 rfl infoRat2) rfl ⟨by rw [Hz.out, frOr_ok, ← Hq.out]; rfl, below_setCell (below_setCell hB hGw _) hGw _⟩
  · have Hz := Lib.hid hc
    rw [hc]
    clear hc
    obtain ⟨⟨c0, c1⟩, f0, f1⟩ := row_fr r0
    go_wp2_with fail
    exact bodyPost_ret (results_cell_tmp rfl _ _ _ _ _ _ _ rfl (two_cells r0 (.int .i64 0) (.int .i64 0)) Try.underlying35 rfl infoRat2) rfl ⟨by rw [Hz.out, frOr_no (by decide)]; rfl, below_setCell (below_setCell hB hGw _) hGw _⟩
set_option maxRecDepth 100000 in
set_option maxHeartbeats 1000000 in
theorem rlossU (L : List Int) (E : Int) (ao : Option Addr) (n cap : Nat) (w : World) (hI : Ints w ao L) (hln : n = L.length) (hn : n ≤ 100000) :
    Calls Try.prog 30 #[.slice ao n cap, .int .i64 E] w fun e w' => e = .returned (.tuple #[frOr (Cl.caseC L E) (Cl.lvl L (Fl.sumI L - E)), .int .i64 (Cl.caseC L E)]) ∧ Below w.heap.size w w' := by
  have Hn := Lib.hid hln
  have r0 := heap_alloc_new w (.cells #[.int .i64 0, .int .i64 0] 35)
  have hB : Below w.heap.size w (w.alloc (.cells #[.int .i64 0, .int .i64 0] 35)) := (Below.refl _ w).alloc (Nat.le_refl _) _
  replace hI := hI.below hB
  clear hln
  go_enter Try.func30, Try.ntmps30
  go_wp2_with fail
  generalize (w.alloc (.cells #[.int .i64 0, .int .i64 0] 35)) = w1 at r0 hB hI ⊢
  obtain ⟨G, hG⟩ : ∃ G, G = w.heap.size := ⟨_, rfl⟩
  rw [← hG] at r0 ⊢
  have hGw : w.heap.size ≤ G := by omega
  clear hG
  refine (rvalidate_any L E ao n cap w1 hI Hn.out hn).mono ?_
  rintro e w2 ⟨rfl, hw0⟩; obtain rfl := hw0.symm
  clear hw0
  rcases (show Cl.caseC L E = 0 ∨ Cl.caseC L E = 1 by unfold Cl.caseC; split <;> simp) with hc | hc
  · obtain ⟨a1, a2, a3⟩ := Cl.caseC_ok.1 hc
    have Hz := Lib.hid hc
    rw [hc]
    have Hc := Lib.hid (And.intro a1 (And.intro a2 a3))
    clear hc a1 a2 a3
    go_wp2_with fail
    have HC := Lib.hid (Cl.okC_iff.1 Hc.out.1)
    have hS8 : 0 ≤ Fl.sumI L ∧ Fl.sumI L ≤ 8000 := by
      have h := Cl.sum_small (B := 1000) (by omega) (l := L) (fun x hx => by have := HC.out.2.2 x hx; omega)
      have h2 := Cl.sum_nonneg (l := L) (fun x hx => by have := HC.out.2.2 x hx; omega)
      have := HC.out; omega
    have e1 : IntKind.i64.wrap (Fl.sumI L - E) = Fl.sumI L - E := IntWalk.i64_in _ (by have := Hc.out; omega)
    refine (rSum_any L ao n cap w1 hI Hn.out (by have := HC.out; have := Hn.out; omega) (fun x hx => by have := HC.out.2.2 x hx; omega)).mono ?_
    rintro e wz ⟨rfl, hw0⟩; obtain rfl := hw0.symm
    clear hw0
    have Hs := Lib.hid hS8
    clear hS8
    go_wp2_with fail
    refine (rlevel_any L (Fl.sumI L - E) ao n cap w1 hI Hn.out Hc.out.1 (by have := Hc.out; omega) (by have := Hc.out; omega)).mono ?_
    rintro e w3 ⟨a, d, hL, rfl, hb3⟩
    rw [Cl.lvl_eq hL]
    clear hL
    replace r0 := heap_keep hb3 r0
    replace hB := hB.trans (hb3.mono hB.size)
    clear hb3
    obtain ⟨q, hq⟩ : ∃ q, q = Cl.lvl L (Fl.sumI L - E) := ⟨_, rfl⟩
    rw [← hq]
    have Hq := Lib.hid hq
    clear hq
    rw [show Fr q = .agg #[.int .i64 q.num, .int .i64 q.den] from rfl]
    obtain ⟨⟨c0, c1⟩, f0, f1⟩ := row_fr r0
    go_wp2_with fail
    exact bodyPost_ret (results_cell_tmp rfl _ _ _ _ _ _ _ rfl (two_cells r0 (.int .i64 q.num) (.int .i64 q.den)) Try.underlying35 rfl infoRat2) rfl ⟨by rw [Hz.out, frOr_ok, ← Hq.out]; rfl, below_setCell (below_setCell hB hGw _) hGw _⟩
  · have Hz := Lib.hid hc
    rw [hc]
    clear hc
    obtain ⟨⟨c0, c1⟩, f0, f1⟩ := row_fr r0
    go_wp2_with fail
    exact bodyPost_ret (results_cell_tmp rfl _ _ _ _ _ _ _ rfl (two_cells r0 (.int .i64 0) (.int .i64 0)) Try.underlying35 rfl infoRat2) rfl ⟨by rw [Hz.out, frOr_no (by decide)]; rfl, below_setCell (below_setCell hB hGw _) hGw _⟩
end Go.Proofs.Yteecfdjphjkdkaa
