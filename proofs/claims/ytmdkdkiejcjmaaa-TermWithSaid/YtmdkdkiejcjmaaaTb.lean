import Derived.Test.YtmdkdkiejcjmaaaTa
/- Package term: the iterators of days. -/
namespace Go.Proofs.Ytmdkdkiejcjmaaa
open Go.RowKit Go.Shelf

attribute [local go_sem] Oper.semAt_some
/-- k days from a day on. -/
def up (d k : Nat) : List Nat := (List.range k).map (d + ·)
theorem up_succ (d k : Nat) : up d (k + 1) = up d k ++ [d + k] := by unfold up; rw [List.range_succ, List.map_append]; rfl
theorem up_len (d k : Nat) : (up d k).length = k := by unfold up; simp
def dayV (x : Nat) : Array Value := #[.int .i64 x]
theorem keep_cell8 {n₀ : Nat} {W W' : World} {b o : Nat} {v : Value} (h : Below n₀ W W') (hb : b < n₀) (hc : W.cell? ⟨b, o, none⟩ = some v) : W'.cell? ⟨b, o, none⟩ = some v :=
  (h.cell (p := ⟨b, o, none⟩) hb).trans hc

set_option maxRecDepth 100000 in
set_option maxHeartbeats 2000000 in
/-- onward: the days from a day on, without an end. -/
theorem onward_seq (n B d N : Nat) (Kp : World → World → Prop) (w : World) (hB : B < w.heap.size) (hc : w.cell? ⟨B, 0, none⟩ = some (.int .i64 d)) (hN : d + N ≤ 4611686018427387904) :
    SeqB Fence.wide n Try.prog 112 #[.pointer (some ⟨B, 0, none⟩)] dayV Kp (fun _ => False) (fun pre => ∃ k, pre = up d k) (fun pre => ∀ k, pre = up d k → k < N) w := by
  intro l J Jx W hW _ hJ hJx hBd hY h0
  have c0 := keep_cell8 hW hB hc
  refine callsIn_of_wp Try.func112 rfl trivial ?_ rfl
  simp only [Try.ntmps112, List.size_toArray, List.length_cons, List.length_nil, Nat.reduceAdd, Nat.reduceSub, Array.replicate_succ, Array.replicate_zero, List.push_toArray, List.append_toArray, List.nil_append, List.cons_append]
  gi_wp2
  gi_loopw [3] (fun dv wr => ∃ k x : Nat, x = d + k ∧ k < N ∧ dv = .int .i64 x ∧ J (up d k) wr) (fun dv _ => d + N - (intOf dv).toNat)
  case atStart => exact ⟨0, d, rfl, hBd _ _ h0 0 rfl, rfl, h0⟩
  case round =>
    obtain ⟨k, x, hx, hk, rfl, hJs⟩ := hrel
    have hY2 := hY _ x _ hJs
    rw [show up d k ++ [x] = up d (k + 1) by rw [up_succ, hx]] at hY2
    obtain ⟨fn, tmps, assign, body, hy, hR⟩ := hY2
    unfold dayV at hy
    have Hx := Lib.hid hx
    have hx62 : x < 4611686018427387904 := by omega
    clear hx hY hJ hJx c0
    gi_wp2
    refine ⟨fun h => (by cases h), hR.mono ?_⟩
    rintro e W' (⟨rfl, h2, -⟩ | ⟨rfl, h2, -⟩)
    · have hk2 := hBd _ _ h2 (k + 1) rfl
      gi_wp2
      go_roundw
      case rel => exact ⟨k + 1, x + 1, by have := Hx.out; omega, hk2, by go_num, h2⟩
      case measure => have := Hx.out; simp [intOf]; omega
    · gi_wp2
      go_end0
      exact ⟨⟨_, rfl⟩, .inr ⟨_, ⟨k + 1, rfl⟩, h2⟩⟩

/-- k days from a day back. -/
def down (d k : Nat) : List Nat := (List.range k).map (d - ·)
theorem down_succ (d k : Nat) : down d (k + 1) = down d k ++ [d - k] := by unfold down; rw [List.range_succ, List.map_append]; rfl

set_option maxRecDepth 100000 in
set_option maxHeartbeats 2000000 in
/-- back: the days from a day back to 0. -/
theorem back_seq (n B d : Nat) (Kp : World → World → Prop) (w : World) (hB : B < w.heap.size) (hc : w.cell? ⟨B, 0, none⟩ = some (.int .i64 d)) (hN : d ≤ 4611686018427387904) :
    SeqB Fence.wide n Try.prog 113 #[.pointer (some ⟨B, 0, none⟩)] dayV Kp (fun xs => xs = down d (d + 1)) (fun pre => ∃ k, k ≤ d + 1 ∧ pre = down d k) (fun _ => True) w := by
  intro l J Jx W hW _ hJ hJx hBd hY h0
  have c0 := keep_cell8 hW hB hc
  refine callsIn_of_wp Try.func113 rfl trivial ?_ rfl
  simp only [Try.ntmps113, List.size_toArray, List.length_cons, List.length_nil, Nat.reduceAdd, Nat.reduceSub, Array.replicate_succ, Array.replicate_zero, List.push_toArray, List.append_toArray, List.nil_append, List.cons_append]
  gi_wp2
  gi_loopw [3] (fun dv wr => ∃ k : Nat, ∃ x : Int, x = (d : Int) - k ∧ k ≤ d + 1 ∧ dv = .int .i64 x ∧ J (down d k) wr) (fun dv _ => (intOf dv + 1).toNat)
  case atStart => exact ⟨0, d, by omega, by omega, rfl, h0⟩
  case round =>
    obtain ⟨k, x, hx, hk, rfl, hJs⟩ := hrel
    by_cases hlt : k ≤ d
    · have hY2 := hY _ (d - k) _ hJs
      rw [← down_succ] at hY2
      obtain ⟨fn, tmps, assign, body, hy, hR⟩ := hY2
      unfold dayV at hy
      rw [show ((d - k : Nat) : Int) = x by omega] at hy
      have Hx := Lib.hid hx
      have hx0 : 0 ≤ x := by omega
      have hx62 : x ≤ 4611686018427387904 := by omega
      clear hx hY hJ hJx c0
      gi_wp2
      refine ⟨fun h => (by cases h), hR.mono ?_⟩
      rintro e W' (⟨rfl, h2, -⟩ | ⟨rfl, h2, -⟩)
      · gi_wp2
        go_roundw
        case rel => exact ⟨k + 1, x - 1, by have := Hx.out; omega, by omega, by go_num, h2⟩
        case measure => simp [intOf]; omega
      · gi_wp2
        go_end0
        exact ⟨⟨_, rfl⟩, .inr ⟨_, ⟨k + 1, by omega, rfl⟩, h2⟩⟩
    · obtain rfl : k = d + 1 := by omega
      have hx1 : x = -1 := by omega
      subst hx1
      clear hx
      gi_wp2
      case h_2 =>
        refine ⟨fun _ h => (by cases h), ?_⟩
        gi_wp2
        go_end0
        exact ⟨⟨_, rfl⟩, .inl ⟨_, rfl, hJs⟩⟩

set_option maxRecDepth 100000 in
set_option maxHeartbeats 2000000 in
/-- between: the days from one to another. -/
theorem between_seq (n B1 B2 f t : Nat) (Kp : World → World → Prop) (hKp : ∀ W W', Kp W W' → W'.cell? ⟨B2, 0, none⟩ = W.cell? ⟨B2, 0, none⟩) (w : World) (hB1 : B1 < w.heap.size) (hB2 : B2 < w.heap.size) (hc1 : w.cell? ⟨B1, 0, none⟩ = some (.int .i64 f)) (hc2 : w.cell? ⟨B2, 0, none⟩ = some (.int .i64 t)) (hN : t ≤ 4611686018427387904) (hft : f ≤ t + 1) :
    SeqB Fence.wide n Try.prog 100 #[.pointer (some ⟨B1, 0, none⟩), .pointer (some ⟨B2, 0, none⟩)] dayV Kp (fun xs => xs = up f (t + 1 - f)) (fun pre => ∃ k, k ≤ t + 1 - f ∧ pre = up f k) (fun _ => True) w := by
  intro l J Jx W hW _ hJ hJx hBd hY h0
  have c0 := keep_cell8 hW hB1 hc1
  have c1 := keep_cell8 hW hB2 hc2
  refine callsIn_of_wp Try.func100 rfl trivial ?_ rfl
  simp only [Try.ntmps100, List.size_toArray, List.length_cons, List.length_nil, Nat.reduceAdd, Nat.reduceSub, Array.replicate_succ, Array.replicate_zero, List.push_toArray, List.append_toArray, List.nil_append, List.cons_append]
  gi_wp2
  gi_loopw [4] (fun dv wr => ∃ k x : Nat, x = f + k ∧ k ≤ t + 1 - f ∧ dv = .int .i64 x ∧ J (up f k) wr ∧ wr.cell? ⟨B2, 0, none⟩ = some (.int .i64 t)) (fun dv _ => t + 1 - (intOf dv).toNat)
  case atStart => exact ⟨0, f, rfl, by omega, rfl, h0, c1⟩
  case round =>
    obtain ⟨k, x, hx, hk, rfl, hJs, c2⟩ := hrel
    by_cases hlt : x ≤ t
    · have hY2 := hY _ x _ hJs
      rw [show up f k ++ [x] = up f (k + 1) by rw [up_succ, hx]] at hY2
      obtain ⟨fn, tmps, assign, body, hy, hR⟩ := hY2
      unfold dayV at hy
      have Hx := Lib.hid hx
      have hxi : (x : Int) ≤ (t : Int) := by omega
      clear hx hY hJ hJx c0 c1
      gi_wp2
      refine ⟨fun h => (by cases h), hR.mono ?_⟩
      rintro e W' (⟨rfl, h2, h3⟩ | ⟨rfl, h2, -⟩)
      · have c3 := (hKp _ _ h3).trans c2
        gi_wp2
        go_roundw
        case rel => exact ⟨k + 1, x + 1, by have := Hx.out; omega, by have := Hx.out; omega, by go_num, h2, c3⟩
        case measure => simp [intOf]; omega
      · gi_wp2
        go_end0
        exact ⟨⟨_, rfl⟩, .inr ⟨_, ⟨k + 1, by have := Hx.out; omega, rfl⟩, h2⟩⟩
    · have hk2 : k = t + 1 - f := by omega
      have HJ := Lib.hid (show J (up f (t + 1 - f)) wr by rw [← hk2]; exact hJs)
      have hxi : ¬ (x : Int) ≤ (t : Int) := by omega
      clear hx hk2 hJs
      gi_wp2
      case h_2 =>
        refine ⟨fun _ h => (by cases h), ?_⟩
        gi_wp2
        go_end0
        exact ⟨⟨_, rfl⟩, .inl ⟨_, rfl, HJ.out⟩⟩
end Go.Proofs.Ytmdkdkiejcjmaaa
