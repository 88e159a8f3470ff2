import Derived.Test.YteecfdjphjkdkaaFh
namespace Go.Proofs.Yteecfdjphjkdkaa
open Go.RowKit
set_option maxRecDepth 100000 in
set_option maxHeartbeats 2000000 in
theorem clo1_any (c : Int) (q : Rat) (w : World) (hc : 0 ≤ c ∧ c ≤ 1000) (hq : q.den ≤ 8000) (hn : 0 ≤ q.num ∧ q.num ≤ 8000) :
    Calls Try.prog 85 #[.int .i64 c, Fr q] w fun e w' => e = .returned (Fr (mkRat (c * q.num) q.den)) ∧ Below w.heap.size w w' := by
  have b1 : 0 ≤ c * q.num := Int.mul_nonneg hc.1 hn.1
  have b2 : c * q.num ≤ 1000 * 8000 := Int.mul_le_mul hc.2 hn.2 hn.1 (by omega)
  have hd : 0 < q.den := q.den_pos
  obtain ⟨V, hV⟩ : ∃ V : Nat, (V : Int) = c * q.num := ⟨(c * q.num).toNat, by omega⟩
  have e1 : IntKind.i64.wrap (c * q.num) = (V : Int) := by rw [hV]; exact IntWalk.i64_in _ (by omega)
  have hVb : V ≤ 8000000 := by omega
  rw [← hV]
  have HV := Lib.hid hV
  clear hV b1 b2
  have r1 := heap_alloc2_new w (.cells #[.int .i64 q.num, .int .i64 q.den] 35) (.cells #[.int .i64 0, .int .i64 0] 35)
  have r0 : ((w.alloc (.cells #[.int .i64 q.num, .int .i64 q.den] 35)).alloc (.cells #[.int .i64 0, .int .i64 0] 35)).heap[w.heap.size]? = some (.cells #[.int .i64 q.num, .int .i64 q.den] 35 (0, 0)) := heap_at ((Below.refl _ (w.alloc (.cells #[.int .i64 q.num, .int .i64 q.den] 35))).alloc (Nat.le_refl _) (.cells #[.int .i64 0, .int .i64 0] 35)) (k := w.heap.size) (by simp) (heap_alloc_new w _)
  have hB : Below w.heap.size w ((w.alloc (.cells #[.int .i64 q.num, .int .i64 q.den] 35)).alloc (.cells #[.int .i64 0, .int .i64 0] 35)) := below_alloc2 w _ _
  rw [show Fr q = .agg #[.int .i64 q.num, .int .i64 q.den] from rfl]
  go_enter Try.func85, Try.ntmps85
  go_upto_region 1 with fail
  generalize ((w.alloc (.cells #[.int .i64 q.num, .int .i64 q.den] 35)).alloc (.cells #[.int .i64 0, .int .i64 0] 35)) = W at r0 r1 hB ⊢
  obtain ⟨G, hG⟩ : ∃ G, G = w.heap.size := ⟨_, rfl⟩
  rw [← hG] at r0 r1 hB ⊢
  have HG := Lib.hid hG
  clear hG
  obtain ⟨⟨c0, c1⟩, -, -⟩ := row_fr r0
  go_wp2_with fail
  refine (lowest_any V q.den W (by omega) (by omega) (by omega)).mono ?_
  rintro e w5 ⟨rfl, hbb⟩
  have r5 := heap_keep hbb r1
  obtain ⟨⟨d0, d1⟩, f0, f1⟩ := row_fr r5
  rw [show Fr (mkRat V q.den) = .agg #[.int .i64 (mkRat V q.den).num, .int .i64 (mkRat V q.den).den] from rfl]
  go_wp2_with fail
  have hB6 := hB.trans (hbb.mono (Nat.le_of_lt (heap_lt r0)))
  have h4 := two_cells r5 (.int .i64 (mkRat V q.den).num) (.int .i64 (mkRat V q.den).den)
  exact bodyPost_ret (results_cell_row rfl _ _ _ _ _ _ _ rfl h4 Try.underlying35 rfl infoRat2) rfl ⟨rfl, by rw [← HG.out]; exact below_setCell (below_setCell hB6 (Nat.le_succ G) _) (Nat.le_succ G) _⟩
set_option maxRecDepth 100000 in
set_option maxHeartbeats 2000000 in
theorem share_any (L : List Int) (E : Int) (ao : Option Addr) (n cap : Nat) (w : World) (hI : Ints w ao L) (hln : n = L.length) (hok : Cl.okC L = true) (h0 : 0 ≤ E) (h1 : E ≤ Fl.sumI L) :
    Calls Try.prog 84 #[.slice ao n cap, .int .i64 E] w fun e w' => e = .returned (Fr (mkRat E (max 1 (Fl.sumI L)).toNat)) ∧ Below w.heap.size w w' := by
  have Hn := Lib.hid hln
  have HC := Lib.hid (Cl.okC_iff.1 hok)
  have hS8 : 0 ≤ Fl.sumI L ∧ Fl.sumI L ≤ 8000 := by
    have h := Cl.sum_small (B := 1000) (by omega) (l := L) (fun x hx => by have := HC.out.2.2 x hx; omega)
    have h2 := Cl.sum_nonneg (l := L) (fun x hx => by have := HC.out.2.2 x hx; omega)
    have := HC.out; omega
  clear hln hok
  have hbox : (w.alloc (.cells #[.int .i64 0, .int .i64 0] 35)).heap[w.heap.size]? = some (.cells #[.int .i64 0, .int .i64 0] 35 (0, 0)) := heap_alloc_new w _
  have hB : Below w.heap.size w (w.alloc (.cells #[.int .i64 0, .int .i64 0] 35)) := (Below.refl _ w).alloc (Nat.le_refl _) _
  replace hI := hI.below hB
  obtain ⟨S, hS⟩ : ∃ S, S = Fl.sumI L := ⟨_, rfl⟩
  rw [← hS] at h1 hS8 ⊢
  have HS := Lib.hid hS
  clear hS
  obtain ⟨en, rfl⟩ := Int.eq_ofNat_of_zero_le h0
  obtain ⟨m, hm⟩ : ∃ m : Nat, (m : Int) = max 1 S := ⟨(max 1 S).toNat, by omega⟩
  have hmb : 1 ≤ m ∧ m ≤ 8000 := by omega
  rw [← hm, Int.toNat_natCast]
  have Hm := Lib.hid hm
  clear hm
  go_enter Try.func84, Try.ntmps84
  go_wp2_with fail
  obtain ⟨G, hG⟩ : ∃ G, G = w.heap.size := ⟨_, rfl⟩
  rw [← hG] at hbox hB ⊢
  have HG := Lib.hid hG
  clear hG
  generalize (w.alloc (.cells #[.int .i64 0, .int .i64 0] 35)) = w1 at hbox hB hI ⊢
  refine (sum_any L ao n cap w1 hI Hn.out (by have := Hn.out; have := HC.out; omega) (fun x hx => by have := HC.out.2.2 x hx; omega)).mono ?_
  rintro e w2 ⟨rfl, hw0⟩; obtain rfl := hw0.symm
  rw [← HS.out]
  by_cases hS1 : 1 < S
  · have hSm : S = (m : Int) := by have := Hm.out; omega
    rw [hSm] at hS1 ⊢
    clear hSm
    go_wp2_with fail
    refine (lowest_any en m w1 (by omega) (by omega) (by omega)).mono ?_
    rintro e w5 ⟨rfl, hbb⟩
    have r5 := heap_keep hbb hbox
    obtain ⟨⟨d0, d1⟩, f0, f1⟩ := row_fr r5
    rw [show Fr (mkRat en m) = .agg #[.int .i64 (mkRat en m).num, .int .i64 (mkRat en m).den] from rfl]
    go_wp2_with fail
    have hB6 := hB.trans (hbb.mono (Nat.le_of_lt (heap_lt hbox)))
    have h4 := two_cells r5 (.int .i64 (mkRat en m).num) (.int .i64 (mkRat en m).den)
    exact bodyPost_ret (results_cell_row rfl _ _ _ _ _ _ _ rfl h4 Try.underlying35 rfl infoRat2) rfl ⟨rfl, by rw [← HG.out]; exact below_setCell (below_setCell hB6 (Nat.le_refl G) _) (Nat.le_refl G) _⟩
  · have hSm : m = 1 := by have := Hm.out; omega
    have hS2 : S ≤ 1 := by omega
    have Hone := Lib.hid hSm
    clear hSm
    go_wp2_with fail
    have ho : (1 : Int) = (m : Int) := by have := Hone.out; omega
    rw [show Value.int .i64 (1 : Int) = .int .i64 (m : Int) from congrArg _ ho]
    refine (lowest_any en m w1 (by omega) (by omega) (by omega)).mono ?_
    rintro e w5 ⟨rfl, hbb⟩
    have r5 := heap_keep hbb hbox
    obtain ⟨⟨d0, d1⟩, f0, f1⟩ := row_fr r5
    rw [show Fr (mkRat en m) = .agg #[.int .i64 (mkRat en m).num, .int .i64 (mkRat en m).den] from rfl]
    go_wp2_with fail
    have hB6 := hB.trans (hbb.mono (Nat.le_of_lt (heap_lt hbox)))
    have h4 := two_cells r5 (.int .i64 (mkRat en m).num) (.int .i64 (mkRat en m).den)
    exact bodyPost_ret (results_cell_row rfl _ _ _ _ _ _ _ rfl h4 Try.underlying35 rfl infoRat2) rfl ⟨rfl, by rw [← HG.out]; exact below_setCell (below_setCell hB6 (Nat.le_refl G) _) (Nat.le_refl G) _⟩
end Go.Proofs.Yteecfdjphjkdkaa
