import Derived.Test.YtmdkdkiejcjmaaaTv
/- Package term: number, over working and counting days from a day to another. -/
namespace Go.Proofs.Ytmdkdkiejcjmaaa
open Go.RowKit Go.Shelf

attribute [local go_sem] Oper.semAt_some

set_option maxRecDepth 100000 in
set_option maxHeartbeats 2000000 in
/-- between: the days from one to another. -/
theorem between_seq2 (n B1 B2 f t : Nat) (Kp : World → World → Prop) (hKp : ∀ W W', Kp W W' → W.cell? ⟨B2, 0, none⟩ = some (.int .i64 t) → W'.cell? ⟨B2, 0, none⟩ = some (.int .i64 t)) (w : World) (hB1 : B1 < w.heap.size) (hB2 : B2 < w.heap.size) (hc1 : w.cell? ⟨B1, 0, none⟩ = some (.int .i64 f)) (hc2 : w.cell? ⟨B2, 0, none⟩ = some (.int .i64 t)) (hN : t ≤ 4611686018427387904) (hft : f ≤ t + 1) :
    SeqB Fence.wide n Try.prog 100 #[.pointer (some ⟨B1, 0, none⟩), .pointer (some ⟨B2, 0, none⟩)] dayV Kp (fun xs => xs = up f (t + 1 - f)) (fun pre => ∃ k, k ≤ t + 1 - f ∧ pre = up f k) (fun _ => True) w := by
  intro l J Jx W hW _ hJ hJx hBd hY h0
  have c0 := keep_cell8 hW hB1 hc1
  have c1 := keep_cell8 hW hB2 hc2
  refine callsIn_of_wp Try.func100 rfl trivial ?_ rfl
  simp only [Try.ntmps100, List.size_toArray, List.length_cons, List.length_nil, Nat.reduceAdd, Nat.reduceSub, Array.replicate_succ, Array.replicate_zero, List.push_toArray, List.append_toArray, List.nil_append, List.cons_append]
  gi_wp2
  gi_loopw [4] (fun dv wr => ∃ k x : Nat, x = f + k ∧ k ≤ t + 1 - f ∧ dv = .int .i64 x ∧ J (up f k) wr ∧ wr.cell? ⟨B2, 0, none⟩ = some (.int .i64 t)) (fun dv _ => t + 1 - (intOf dv).toNat)
  case atStart => exact ⟨0, f, rfl, by omega, rfl, h0, c1⟩
  case round =>
    obtain ⟨k, x, hx, hk, rfl, hJs, c2⟩ := hrel
    by_cases hlt : x ≤ t
    · have hY2 := hY _ x _ hJs
      rw [show up f k ++ [x] = up f (k + 1) by rw [up_succ, hx]] at hY2
      obtain ⟨fn, tmps, assign, body, hy, hR⟩ := hY2
      unfold dayV at hy
      have Hx := Lib.hid hx
      have hxi : (x : Int) ≤ (t : Int) := by omega
      clear hx hY hJ hJx c0 c1
      gi_wp2
      refine ⟨fun h => (by cases h), hR.mono ?_⟩
      rintro e W' (⟨rfl, h2, h3⟩ | ⟨rfl, h2, -⟩)
      · have c3 := hKp _ _ h3 c2
        gi_wp2
        go_roundw
        case rel => exact ⟨k + 1, x + 1, by have := Hx.out; omega, by have := Hx.out; omega, by go_num, h2, c3⟩
        case measure => simp [intOf]; omega
      · gi_wp2
        go_end0
        exact ⟨⟨_, rfl⟩, .inr ⟨_, ⟨k + 1, by have := Hx.out; omega, rfl⟩, h2⟩⟩
    · have hk2 : k = t + 1 - f := by omega
      have HJ := Lib.hid (show J (up f (t + 1 - f)) wr by rw [← hk2]; exact hJs)
      have hxi : ¬ (x : Int) ≤ (t : Int) := by omega
      clear hx hk2 hJs
      gi_wp2
      case h_2 =>
        refine ⟨fun _ h => (by cases h), ?_⟩
        gi_wp2
        go_end0
        exact ⟨⟨_, rfl⟩, .inl ⟨_, rfl, HJ.out⟩⟩

set_option maxRecDepth 100000 in
theorem numW_any (d t B1 B2 BD BI : Nat) (f : Int) (F : List Int) (S : List (Int × Int)) (aoF : Option Addr) (nF cF : Nat) (aoS : Option Addr) (nS cS : Nat) (w : World) (hcl : Cl w aoF nF aoS nS F S) (h9 : nF ≤ 100000) (ht : t ≤ 1000000) (hdt : d ≤ t + 1)
    (hB1 : w.cell? ⟨B1, 0, none⟩ = some (.int .i64 d)) (hB2 : w.cell? ⟨B2, 0, none⟩ = some (.int .i64 t)) (hBD : w.cell? ⟨BD, 0, none⟩ = some (.func (.func 100) #[] #[.pointer (some ⟨B1, 0, none⟩), .pointer (some ⟨B2, 0, none⟩)])) (hBI : w.cell? ⟨BI, 0, none⟩ = some (.func (.func 73) #[.agg #[.int .i64 f, .slice aoF nF cF, .slice aoS nS cS]] #[])) :
    Calls Try.prog 70 #[.func (.func 99) #[] #[.pointer (some ⟨BD, 0, none⟩), .pointer (some ⟨BI, 0, none⟩)]] w fun e w' => e = .returned (.int .i64 ((Tm.cnt (Tm.work f F) d (t + 1 - d) : Nat) : Int)) ∧ Below w.heap.size w w' := by
  obtain ⟨_, _, _, q0, -⟩ := cell_block hB1
  obtain ⟨_, _, _, q3, -⟩ := cell_block hB2
  obtain ⟨_, _, _, q1, -⟩ := cell_block hBD
  obtain ⟨_, _, _, q2, -⟩ := cell_block hBI
  have l0 := heap_lt q0
  have l3 := heap_lt q3
  have l1 := heap_lt q1
  have l2 := heap_lt q2
  refine (number_any 4611686018427387904 BD BI (Nat.le_refl _) (fun ys => ∃ xs, xs = up d (t + 1 - d) ∧ ys = xs.filter (Tm.work f F)) _ w (fun ys ⟨xs, h1, h2⟩ => by
      have := List.length_filter_le (Tm.work f F) xs
      rw [h2]; rw [h1] at this ⊢; rw [up_len] at this; omega) (fun w' hb hs k hk => onlyW_seq3 k w.heap.size BD BI 100 #[.pointer (some ⟨B1, 0, none⟩), .pointer (some ⟨B2, 0, none⟩)] (enters_of Try.func100 (by kernel_rfl) rfl) _ _ _ hk f F S aoF nF cF aoS nS cS w w' (Nat.le_refl _) hb (by omega) hcl h9 l1 l2 (keep_cell hb hBD) (keep_cell hb hBI)
    (fun k2 => between_seq2 k2 B1 B2 d t _ (fun W W' h hc => h _ _ _ l3 hc) w' (by have := hb.size; omega) (by have := hb.size; omega) (keep_cell hb hB1) (keep_cell hb hB2) (by omega) hdt) (fun _ => True) (fun xs _ => trivial))).mono ?_
  rintro e w' ⟨⟨ys, ⟨xs, rfl, rfl⟩, rfl⟩, hb⟩
  exact ⟨rfl, hb⟩

set_option maxRecDepth 100000 in
theorem numC_any (d t B1 B2 BD BI : Nat) (f : Int) (F : List Int) (S : List (Int × Int)) (aoF : Option Addr) (nF cF : Nat) (aoS : Option Addr) (nS cS : Nat) (w : World) (hcl : Cl w aoF nF aoS nS F S) (h9 : nS ≤ 100000) (ht : t ≤ 1000000) (hdt : d ≤ t + 1)
    (hB1 : w.cell? ⟨B1, 0, none⟩ = some (.int .i64 d)) (hB2 : w.cell? ⟨B2, 0, none⟩ = some (.int .i64 t)) (hBD : w.cell? ⟨BD, 0, none⟩ = some (.func (.func 100) #[] #[.pointer (some ⟨B1, 0, none⟩), .pointer (some ⟨B2, 0, none⟩)])) (hBI : w.cell? ⟨BI, 0, none⟩ = some (.func (.func 74) #[.agg #[.int .i64 f, .slice aoF nF cF, .slice aoS nS cS]] #[])) :
    Calls Try.prog 70 #[.func (.func 99) #[] #[.pointer (some ⟨BD, 0, none⟩), .pointer (some ⟨BI, 0, none⟩)]] w fun e w' => e = .returned (.int .i64 ((Tm.cnt (Tm.count S) d (t + 1 - d) : Nat) : Int)) ∧ Below w.heap.size w w' := by
  obtain ⟨_, _, _, q0, -⟩ := cell_block hB1
  obtain ⟨_, _, _, q3, -⟩ := cell_block hB2
  obtain ⟨_, _, _, q1, -⟩ := cell_block hBD
  obtain ⟨_, _, _, q2, -⟩ := cell_block hBI
  have l0 := heap_lt q0
  have l3 := heap_lt q3
  have l1 := heap_lt q1
  have l2 := heap_lt q2
  refine (number_any 4611686018427387904 BD BI (Nat.le_refl _) (fun ys => ∃ xs, xs = up d (t + 1 - d) ∧ ys = xs.filter (Tm.count S)) _ w (fun ys ⟨xs, h1, h2⟩ => by
      have := List.length_filter_le (Tm.count S) xs
      rw [h2]; rw [h1] at this ⊢; rw [up_len] at this; omega) (fun w' hb hs k hk => onlyC_seq3 k w.heap.size BD BI 100 #[.pointer (some ⟨B1, 0, none⟩), .pointer (some ⟨B2, 0, none⟩)] (enters_of Try.func100 (by kernel_rfl) rfl) _ _ _ hk f F S aoF nF cF aoS nS cS w w' (Nat.le_refl _) hb (by omega) hcl h9 l1 l2 (keep_cell hb hBD) (keep_cell hb hBI)
    (fun k2 => between_seq2 k2 B1 B2 d t _ (fun W W' h hc => h _ _ _ l3 hc) w' (by have := hb.size; omega) (by have := hb.size; omega) (keep_cell hb hB1) (keep_cell hb hB2) (by omega) hdt) (fun _ => True) (fun xs _ => trivial))).mono ?_
  rintro e w' ⟨⟨ys, ⟨xs, rfl, rfl⟩, rfl⟩, hb⟩
  exact ⟨rfl, hb⟩
end Go.Proofs.Ytmdkdkiejcjmaaa
