import Derived.Test.YteecfdjphjkdkaaFe
namespace Go.Proofs.Yteecfdjphjkdkaa
open Go.RowKit
theorem level_i (L : List Int) (E : Int) (ao : Option Addr) (n cap : Nat) (w : World) (hI : Ints w ao L) (hln : n = L.length) (hok : Cl.okC L = true) (h0 : 0 ≤ E) (h1 : E ≤ Fl.sumI L) :
    Calls Try.prog 65 #[.slice ao n cap, .int .i64 E] w fun e w' => ∃ a d, Cl.LevS L E a d ∧ e = .returned (Fr (mkRat a d.toNat)) ∧ Below w.heap.size w w' := by
  have hC := Cl.okC_iff.1 hok
  obtain ⟨b, off, rfl, hlt, hc⟩ := hI.cells (by omega)
  exact level_any L E b off n cap w hc hlt hln hok h0 h1
set_option maxRecDepth 100000 in
set_option maxHeartbeats 2000000 in
theorem loss_any (L : List Int) (E : Int) (ao : Option Addr) (n cap : Nat) (w : World) (hI : Ints w ao L) (hln : n = L.length) (hok : Cl.okC L = true) (h0 : 0 ≤ E) (h1 : E ≤ Fl.sumI L) :
    Calls Try.prog 66 #[.slice ao n cap, .int .i64 E] w fun e w' => ∃ a d, Cl.LevS L (Fl.sumI L - E) a d ∧ e = .returned (Fr (mkRat a d.toNat)) ∧ Below w.heap.size w w' := by
  have Hn := Lib.hid hln
  have HC := Lib.hid (Cl.okC_iff.1 hok)
  have Hok := Lib.hid hok
  have HE := Lib.hid (And.intro h0 h1)
  have hS8 : 0 ≤ Fl.sumI L ∧ Fl.sumI L ≤ 8000 := by
    have h := Cl.sum_small (B := 1000) (by omega) (l := L) (fun x hx => by have := HC.out.2.2 x hx; omega)
    have h2 := Cl.sum_nonneg (l := L) (fun x hx => by have := HC.out.2.2 x hx; omega)
    have := HC.out; omega
  clear hln hok
  have hbox : (w.alloc (.cells #[.int .i64 0, .int .i64 0] 35)).heap[w.heap.size]? = some (.cells #[.int .i64 0, .int .i64 0] 35 (0, 0)) := heap_alloc_new w _
  have hB : Below w.heap.size w (w.alloc (.cells #[.int .i64 0, .int .i64 0] 35)) := (Below.refl _ w).alloc (Nat.le_refl _) _
  replace hI := hI.below hB
  obtain ⟨S, hS⟩ : ∃ S, S = Fl.sumI L := ⟨_, rfl⟩
  rw [← hS] at h1 hS8
  have HS := Lib.hid hS
  clear hS
  have e1 : IntKind.i64.wrap (S - E) = S - E := IntWalk.i64_in _ (by omega)
  rw [← HS.out]
  go_enter Try.func66, Try.ntmps66
  go_wp2_with fail
  obtain ⟨G, hG⟩ : ∃ G, G = w.heap.size := ⟨_, rfl⟩
  rw [← hG] at hbox hB ⊢
  have HG := Lib.hid hG
  clear hG
  generalize (w.alloc (.cells #[.int .i64 0, .int .i64 0] 35)) = w1 at hbox hB hI ⊢
  refine (sum_any L ao n cap w1 hI Hn.out (by have := Hn.out; have := HC.out; omega) (fun x hx => by have := HC.out.2.2 x hx; omega)).mono ?_
  rintro e w2 ⟨rfl, hw0⟩; obtain rfl := hw0.symm
  rw [← HS.out]
  go_wp2_with fail
  refine (level_i L (S - E) ao n cap w1 hI Hn.out Hok.out (by omega) (by rw [← HS.out]; omega)).mono ?_
  rintro ee w5 ⟨a, d, hL, rfl, hb5⟩
  have HL := Lib.hid hL
  clear hL
  have hGl := heap_lt hbox
  replace hbox := heap_keep hb5 hbox
  replace hB := hB.trans (hb5.mono (Nat.le_of_lt hGl))
  obtain ⟨⟨d0, d1⟩, f0, f1⟩ := row_fr hbox
  rw [show Fr (mkRat a d.toNat) = .agg #[.int .i64 (mkRat a d.toNat).num, .int .i64 (mkRat a d.toNat).den] from rfl]
  go_wp2_with fail
  have h4 := two_cells hbox (.int .i64 (mkRat a d.toNat).num) (.int .i64 (mkRat a d.toNat).den)
  exact bodyPost_ret (results_cell_row rfl _ _ _ _ _ _ _ rfl h4 Try.underlying35 rfl infoRat2) rfl ⟨a, d, HL.out, rfl, by rw [← HG.out]; exact below_setCell (below_setCell hB (Nat.le_refl _) _) (Nat.le_refl _) _⟩
set_option maxRecDepth 100000 in
set_option maxHeartbeats 2000000 in
theorem dlevel_any (L : List Int) (E : Int) (ao : Option Addr) (n cap : Nat) (w : World) (hI : Ints w ao L) (hln : n = L.length) (hok : Cl.okC L = true) (h0 : 0 ≤ E) (h1 : 2 * E ≤ Fl.sumI L) :
    Calls Try.prog 90 #[.slice ao n cap, .int .i64 E] w fun e w' => ∃ a d, Cl.LevS L (2 * E) a d ∧ e = .returned (Fr (mkRat a d.toNat)) ∧ Below w.heap.size w w' := by
  have Hn := Lib.hid hln
  have HC := Lib.hid (Cl.okC_iff.1 hok)
  have Hok := Lib.hid hok
  have HE := Lib.hid (And.intro h0 h1)
  have hS8 : 0 ≤ Fl.sumI L ∧ Fl.sumI L ≤ 8000 := by
    have h := Cl.sum_small (B := 1000) (by omega) (l := L) (fun x hx => by have := HC.out.2.2 x hx; omega)
    have h2 := Cl.sum_nonneg (l := L) (fun x hx => by have := HC.out.2.2 x hx; omega)
    have := HC.out; omega
  clear hln hok
  have hbox : (w.alloc (.cells #[.int .i64 0, .int .i64 0] 35)).heap[w.heap.size]? = some (.cells #[.int .i64 0, .int .i64 0] 35 (0, 0)) := heap_alloc_new w _
  have hB : Below w.heap.size w (w.alloc (.cells #[.int .i64 0, .int .i64 0] 35)) := (Below.refl _ w).alloc (Nat.le_refl _) _
  replace hI := hI.below hB
  obtain ⟨S, hS⟩ : ∃ S, S = Fl.sumI L := ⟨_, rfl⟩
  rw [← hS] at h1 hS8
  have HS := Lib.hid hS
  clear hS
  have e1 : IntKind.i64.wrap (2 * E) = 2 * E := IntWalk.i64_in _ (by omega)
  go_enter Try.func90, Try.ntmps90
  go_wp2_with fail
  obtain ⟨G, hG⟩ : ∃ G, G = w.heap.size := ⟨_, rfl⟩
  rw [← hG] at hbox hB ⊢
  have HG := Lib.hid hG
  clear hG
  generalize (w.alloc (.cells #[.int .i64 0, .int .i64 0] 35)) = w1 at hbox hB hI ⊢
  go_wp2_with fail
  refine (level_i L (2 * E) ao n cap w1 hI Hn.out Hok.out (by omega) (by rw [← HS.out]; omega)).mono ?_
  rintro ee w5 ⟨a, d, hL, rfl, hb5⟩
  have HL := Lib.hid hL
  clear hL
  have hGl := heap_lt hbox
  replace hbox := heap_keep hb5 hbox
  replace hB := hB.trans (hb5.mono (Nat.le_of_lt hGl))
  obtain ⟨⟨d0, d1⟩, f0, f1⟩ := row_fr hbox
  rw [show Fr (mkRat a d.toNat) = .agg #[.int .i64 (mkRat a d.toNat).num, .int .i64 (mkRat a d.toNat).den] from rfl]
  go_wp2_with fail
  have h4 := two_cells hbox (.int .i64 (mkRat a d.toNat).num) (.int .i64 (mkRat a d.toNat).den)
  exact bodyPost_ret (results_cell_row rfl _ _ _ _ _ _ _ rfl h4 Try.underlying35 rfl infoRat2) rfl ⟨a, d, HL.out, rfl, by rw [← HG.out]; exact below_setCell (below_setCell hB (Nat.le_refl _) _) (Nat.le_refl _) _⟩
set_option maxRecDepth 100000 in
set_option maxHeartbeats 2000000 in
theorem dloss_any (L : List Int) (E : Int) (ao : Option Addr) (n cap : Nat) (w : World) (hI : Ints w ao L) (hln : n = L.length) (hok : Cl.okC L = true) (h0 : Fl.sumI L ≤ 2 * E) (h1 : E ≤ Fl.sumI L) :
    Calls Try.prog 92 #[.slice ao n cap, .int .i64 E] w fun e w' => ∃ a d, Cl.LevS L (Fl.sumI L - (2 * E - Fl.sumI L)) a d ∧ e = .returned (Fr (mkRat a d.toNat)) ∧ Below w.heap.size w w' := by
  have Hn := Lib.hid hln
  have HC := Lib.hid (Cl.okC_iff.1 hok)
  have Hok := Lib.hid hok
  have HE := Lib.hid (And.intro h0 h1)
  have hS8 : 0 ≤ Fl.sumI L ∧ Fl.sumI L ≤ 8000 := by
    have h := Cl.sum_small (B := 1000) (by omega) (l := L) (fun x hx => by have := HC.out.2.2 x hx; omega)
    have h2 := Cl.sum_nonneg (l := L) (fun x hx => by have := HC.out.2.2 x hx; omega)
    have := HC.out; omega
  clear hln hok
  have hbox : (w.alloc (.cells #[.int .i64 0, .int .i64 0] 35)).heap[w.heap.size]? = some (.cells #[.int .i64 0, .int .i64 0] 35 (0, 0)) := heap_alloc_new w _
  have hB : Below w.heap.size w (w.alloc (.cells #[.int .i64 0, .int .i64 0] 35)) := (Below.refl _ w).alloc (Nat.le_refl _) _
  replace hI := hI.below hB
  obtain ⟨S, hS⟩ : ∃ S, S = Fl.sumI L := ⟨_, rfl⟩
  rw [← hS] at h0 h1 hS8
  have HS := Lib.hid hS
  clear hS
  have e1 : IntKind.i64.wrap (2 * E) = 2 * E := IntWalk.i64_in _ (by omega)
  have e2 : IntKind.i64.wrap (2 * E - S) = 2 * E - S := IntWalk.i64_in _ (by omega)
  rw [← HS.out]
  go_enter Try.func92, Try.ntmps92
  go_wp2_with fail
  obtain ⟨G, hG⟩ : ∃ G, G = w.heap.size := ⟨_, rfl⟩
  rw [← hG] at hbox hB ⊢
  have HG := Lib.hid hG
  clear hG
  generalize (w.alloc (.cells #[.int .i64 0, .int .i64 0] 35)) = w1 at hbox hB hI ⊢
  refine (sum_any L ao n cap w1 hI Hn.out (by have := Hn.out; have := HC.out; omega) (fun x hx => by have := HC.out.2.2 x hx; omega)).mono ?_
  rintro e w2 ⟨rfl, hw0⟩; obtain rfl := hw0.symm
  rw [← HS.out]
  go_wp2_with fail
  refine (loss_any L (2 * E - S) ao n cap w1 hI Hn.out Hok.out (by omega) (by rw [← HS.out]; omega)).mono ?_
  rintro ee w5 ⟨a, d, hL, rfl, hb5⟩
  rw [← HS.out] at hL
  have HL := Lib.hid hL
  clear hL
  have hGl := heap_lt hbox
  replace hbox := heap_keep hb5 hbox
  replace hB := hB.trans (hb5.mono (Nat.le_of_lt hGl))
  obtain ⟨⟨d0, d1⟩, f0, f1⟩ := row_fr hbox
  rw [show Fr (mkRat a d.toNat) = .agg #[.int .i64 (mkRat a d.toNat).num, .int .i64 (mkRat a d.toNat).den] from rfl]
  go_wp2_with fail
  have h4 := two_cells hbox (.int .i64 (mkRat a d.toNat).num) (.int .i64 (mkRat a d.toNat).den)
  exact bodyPost_ret (results_cell_row rfl _ _ _ _ _ _ _ rfl h4 Try.underlying35 rfl infoRat2) rfl ⟨a, d, HL.out, rfl, by rw [← HG.out]; exact below_setCell (below_setCell hB (Nat.le_refl _) _) (Nat.le_refl _) _⟩
end Go.Proofs.Yteecfdjphjkdkaa
