import Derived.Test.YtmdkdkiejcjmaaaTe
/- Package term: iterators made; the nth day onward and back. -/
namespace Go.Proofs.Ytmdkdkiejcjmaaa
open Go.RowKit Go.Shelf
theorem onward_any (d : Int) (w : World) : Calls Try.prog 97 #[.int .i64 d] w fun e w' => e = .returned (.func (.func 112) #[] #[.pointer (some ⟨w.heap.size, 0, none⟩)]) ∧ w' = w.alloc (.cells #[.int .i64 d] 3) := by
  go_enter Try.func97, Try.ntmps97
  go_wp2
  go_ret
  exact ⟨rfl, rfl⟩
theorem back_any (d : Int) (w : World) : Calls Try.prog 98 #[.int .i64 d] w fun e w' => e = .returned (.func (.func 113) #[] #[.pointer (some ⟨w.heap.size, 0, none⟩)]) ∧ w' = w.alloc (.cells #[.int .i64 d] 3) := by
  go_enter Try.func98, Try.ntmps98
  go_wp2
  go_ret
  exact ⟨rfl, rfl⟩
theorem between_any (a b : Int) (w : World) : Calls Try.prog 72 #[.int .i64 a, .int .i64 b] w fun e w' => e = .returned (.func (.func 100) #[] #[.pointer (some ⟨w.heap.size, 0, none⟩), .pointer (some ⟨w.heap.size + 1, 0, none⟩)]) ∧ w' = (w.alloc (.cells #[.int .i64 a] 3)).alloc (.cells #[.int .i64 b] 3) := by
  go_enter Try.func72, Try.ntmps72
  go_wp2
  go_ret
  exact ⟨rfl, rfl⟩
theorem only_any (g1 g2 : Nat) (b1 b2 c1 c2 : Array Value) (w : World) : Calls Try.prog 71 #[.func (.func g1) b1 c1, .func (.func g2) b2 c2] w fun e w' => e = .returned (.func (.func 99) #[] #[.pointer (some ⟨w.heap.size, 0, none⟩), .pointer (some ⟨w.heap.size + 1, 0, none⟩)]) ∧ w' = (w.alloc (.cells #[.func (.func g1) b1 c1] 85)).alloc (.cells #[.func (.func g2) b2 c2] 74) := by
  go_enter Try.func71, Try.ntmps71
  go_wp2
  go_ret
  exact ⟨rfl, rfl⟩

set_option maxRecDepth 100000 in
theorem nthOnW_any (n0 d N B0 BD BI : Nat) (f : Int) (F : List Int) (S : List (Int × Int)) (aoF : Option Addr) (nF cF : Nat) (aoS : Option Addr) (nS cS : Nat) (w : World) (h1 : 1 ≤ n0) (hn : n0 ≤ 4611686018427387904) (hcl : Cl w aoF nF aoS nS F S) (h9 : nF ≤ 100000) (hdN : d + N ≤ 4611686018427387904)
    (hN : ∀ k, ((up d k).filter (Tm.work f F)).length < n0 → k < N) (hB0 : w.cell? ⟨B0, 0, none⟩ = some (.int .i64 d)) (hBD : w.cell? ⟨BD, 0, none⟩ = some (.func (.func 112) #[] #[.pointer (some ⟨B0, 0, none⟩)])) (hBI : w.cell? ⟨BI, 0, none⟩ = some (.func (.func 73) #[.agg #[.int .i64 f, .slice aoF nF cF, .slice aoS nS cS]] #[])) :
    Calls Try.prog 96 #[.func (.func 99) #[] #[.pointer (some ⟨BD, 0, none⟩), .pointer (some ⟨BI, 0, none⟩)], .int .i64 n0] w fun e w' => (∃ x : Nat, e = .returned (.tuple #[.int .i64 x, .bool true]) ∧ ∃ pre k, (up d k).filter (Tm.work f F) = pre ++ [x] ∧ (pre ++ [x]).length = n0) ∧ Below w.heap.size w w' := by
  obtain ⟨_, _, _, q0, -⟩ := cell_block hB0
  obtain ⟨_, _, _, q1, -⟩ := cell_block hBD
  obtain ⟨_, _, _, q2, -⟩ := cell_block hBI
  have l0 := heap_lt q0
  have l1 := heap_lt q1
  have l2 := heap_lt q2
  refine (nth_any n0 BD BI h1 hn _ _ w (fun w' hb hs k hk => onlyW_seq k w.heap.size BD BI 112 #[.pointer (some ⟨B0, 0, none⟩)] (enters_of Try.func112 (by kernel_rfl) rfl) _ _ _ hk f F S aoF nF cF aoS nS cS w w' (Nat.le_refl _) hb (by omega) hcl h9 l1 l2 (keep_cell hb hBD) (keep_cell hb hBI)
    (fun k2 => onward_seq k2 B0 d N _ w' (by have := hb.size; omega) (keep_cell hb hB0) hdN) (fun ys => ys.length < n0) (fun xs h j e => hN j (by rw [← e]; exact h)))).mono ?_
  rintro e w' ⟨⟨x, b, rfl, h⟩, hb⟩
  refine ⟨?_, hb⟩
  rcases h with ⟨rfl, pre, ⟨xs, ⟨k, rfl⟩, e⟩, hl⟩ | ⟨-, -, ys, ⟨xs, hf, -⟩, -⟩
  · exact ⟨x, rfl, pre, k, e.symm, hl⟩
  · exact hf.elim

set_option maxRecDepth 100000 in
theorem nthOnC_any (n0 d N B0 BD BI : Nat) (f : Int) (F : List Int) (S : List (Int × Int)) (aoF : Option Addr) (nF cF : Nat) (aoS : Option Addr) (nS cS : Nat) (w : World) (h1 : 1 ≤ n0) (hn : n0 ≤ 4611686018427387904) (hcl : Cl w aoF nF aoS nS F S) (h9 : nS ≤ 100000) (hdN : d + N ≤ 4611686018427387904)
    (hN : ∀ k, ((up d k).filter (Tm.count S)).length < n0 → k < N) (hB0 : w.cell? ⟨B0, 0, none⟩ = some (.int .i64 d)) (hBD : w.cell? ⟨BD, 0, none⟩ = some (.func (.func 112) #[] #[.pointer (some ⟨B0, 0, none⟩)])) (hBI : w.cell? ⟨BI, 0, none⟩ = some (.func (.func 74) #[.agg #[.int .i64 f, .slice aoF nF cF, .slice aoS nS cS]] #[])) :
    Calls Try.prog 96 #[.func (.func 99) #[] #[.pointer (some ⟨BD, 0, none⟩), .pointer (some ⟨BI, 0, none⟩)], .int .i64 n0] w fun e w' => (∃ x : Nat, e = .returned (.tuple #[.int .i64 x, .bool true]) ∧ ∃ pre k, (up d k).filter (Tm.count S) = pre ++ [x] ∧ (pre ++ [x]).length = n0) ∧ Below w.heap.size w w' := by
  obtain ⟨_, _, _, q0, -⟩ := cell_block hB0
  obtain ⟨_, _, _, q1, -⟩ := cell_block hBD
  obtain ⟨_, _, _, q2, -⟩ := cell_block hBI
  have l0 := heap_lt q0
  have l1 := heap_lt q1
  have l2 := heap_lt q2
  refine (nth_any n0 BD BI h1 hn _ _ w (fun w' hb hs k hk => onlyC_seq k w.heap.size BD BI 112 #[.pointer (some ⟨B0, 0, none⟩)] (enters_of Try.func112 (by kernel_rfl) rfl) _ _ _ hk f F S aoF nF cF aoS nS cS w w' (Nat.le_refl _) hb (by omega) hcl h9 l1 l2 (keep_cell hb hBD) (keep_cell hb hBI)
    (fun k2 => onward_seq k2 B0 d N _ w' (by have := hb.size; omega) (keep_cell hb hB0) hdN) (fun ys => ys.length < n0) (fun xs h j e => hN j (by rw [← e]; exact h)))).mono ?_
  rintro e w' ⟨⟨x, b, rfl, h⟩, hb⟩
  refine ⟨?_, hb⟩
  rcases h with ⟨rfl, pre, ⟨xs, ⟨k, rfl⟩, e⟩, hl⟩ | ⟨-, -, ys, ⟨xs, hf, -⟩, -⟩
  · exact ⟨x, rfl, pre, k, e.symm, hl⟩
  · exact hf.elim

set_option maxRecDepth 100000 in
theorem nthBackW_any (n0 d B0 BD BI : Nat) (f : Int) (F : List Int) (S : List (Int × Int)) (aoF : Option Addr) (nF cF : Nat) (aoS : Option Addr) (nS cS : Nat) (w : World) (h1 : 1 ≤ n0) (hn : n0 ≤ 4611686018427387904) (hcl : Cl w aoF nF aoS nS F S) (h9 : nF ≤ 100000) (hd : d ≤ 4611686018427387904)
    (hB0 : w.cell? ⟨B0, 0, none⟩ = some (.int .i64 d)) (hBD : w.cell? ⟨BD, 0, none⟩ = some (.func (.func 113) #[] #[.pointer (some ⟨B0, 0, none⟩)])) (hBI : w.cell? ⟨BI, 0, none⟩ = some (.func (.func 73) #[.agg #[.int .i64 f, .slice aoF nF cF, .slice aoS nS cS]] #[])) :
    Calls Try.prog 96 #[.func (.func 99) #[] #[.pointer (some ⟨BD, 0, none⟩), .pointer (some ⟨BI, 0, none⟩)], .int .i64 n0] w fun e w' => (∃ (x : Nat) (b : Bool), e = .returned (.tuple #[.int .i64 x, .bool b]) ∧ ((b = true ∧ ∃ pre k, k ≤ d + 1 ∧ (down d k).filter (Tm.work f F) = pre ++ [x] ∧ (pre ++ [x]).length = n0) ∨ (b = false ∧ x = 0 ∧ ((down d (d + 1)).filter (Tm.work f F)).length < n0))) ∧ Below w.heap.size w w' := by
  obtain ⟨_, _, _, q0, -⟩ := cell_block hB0
  obtain ⟨_, _, _, q1, -⟩ := cell_block hBD
  obtain ⟨_, _, _, q2, -⟩ := cell_block hBI
  have l0 := heap_lt q0
  have l1 := heap_lt q1
  have l2 := heap_lt q2
  refine (nth_any n0 BD BI h1 hn _ _ w (fun w' hb hs k hk => onlyW_seq k w.heap.size BD BI 113 #[.pointer (some ⟨B0, 0, none⟩)] (enters_of Try.func113 (by kernel_rfl) rfl) _ _ _ hk f F S aoF nF cF aoS nS cS w w' (Nat.le_refl _) hb (by omega) hcl h9 l1 l2 (keep_cell hb hBD) (keep_cell hb hBI)
    (fun k2 => back_seq k2 B0 d _ w' (by have := hb.size; omega) (keep_cell hb hB0) hd) (fun ys => ys.length < n0) (fun xs _ => trivial))).mono ?_
  rintro e w' ⟨⟨x, b, rfl, h⟩, hb⟩
  refine ⟨⟨x, b, rfl, ?_⟩, hb⟩
  rcases h with ⟨rfl, pre, ⟨xs, ⟨k, hk, rfl⟩, e⟩, hl⟩ | ⟨rfl, rfl, ys, ⟨xs, rfl, rfl⟩, hl⟩
  · exact .inl ⟨rfl, pre, k, hk, e.symm, hl⟩
  · exact .inr ⟨rfl, rfl, hl⟩
end Go.Proofs.Ytmdkdkiejcjmaaa
