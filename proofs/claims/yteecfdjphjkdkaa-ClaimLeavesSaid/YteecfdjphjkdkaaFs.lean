import Derived.Test.YteecfdjphjkdkaaFa
namespace Go.Proofs.Yteecfdjphjkdkaa
open Go.RowKit
set_option maxRecDepth 100000 in
set_option maxHeartbeats 1000000 in
theorem max_any (l : List Int) (ao : Option Addr) (n cap : Nat) (w : World) (hI : Ints w ao l) (hln : n = l.length) (hn : n ≤ 100000) (hn1 : 1 ≤ n) :
    Calls Try.prog 75 #[.slice ao n cap] w fun e w' => ∃ m, e = .returned (.int .i64 m) ∧ m ∈ l ∧ (∀ x ∈ l, x ≤ m) ∧ w' = w := by
  have Hn := Lib.hid hln
  have h0l : 0 < l.length := by omega
  clear hln
  obtain ⟨b, off, rfl, hbs, hc0⟩ := hI.at h0l
  rw [Nat.add_zero] at hc0
  obtain ⟨x0, hx0⟩ : ∃ x, x = l.getD 0 0 := ⟨_, rfl⟩
  rw [← hx0] at hc0
  have Hx0 := Lib.hid hx0
  have i0 : (0 : Int) < (n : Int) := by omega
  have i2 : ¬ ((n : Int) < 1) := by omega
  clear hx0
  go_enter Try.func75, Try.ntmps75
  go_wp2
  go_loopw [3, 4] (fun m i wr => ∃ (k : Nat) (M : Int), 1 ≤ k ∧ k ≤ n ∧ i = .int .i64 k ∧ m = .int .i64 M ∧ Hid (M ∈ l ∧ ∀ x ∈ l.take k, x ≤ M) ∧ wr = w) (fun _ i _ => n - (intOf i).toNat)
  case atStart =>
    refine ⟨1, x0, Nat.le_refl _, hn1, rfl, rfl, Lib.hid ?_, rfl⟩
    rw [Hx0.out]
    cases l with
    | nil => simp at h0l
    | cons a r => simp
  case round =>
    obtain ⟨k, M, hk1, hk, rfl, rfl, hM, hw⟩ := hrel
    rw [hw]
    clear hw wr
    by_cases hlt : k < n
    · have hkl : k < l.length := by have := Hn.out; omega
      obtain ⟨b2, off2, he, hbs2, hc⟩ := hI.at hkl
      rw [Option.some.injEq, Addr.mk.injEq] at he
      obtain ⟨rfl, rfl, -⟩ := he
      obtain ⟨x, hx⟩ : ∃ x, x = l[k] := ⟨_, rfl⟩
      rw [show l.getD k 0 = l[k] by rw [List.getD_eq_getElem?_getD, List.getElem?_eq_getElem hkl]; rfl, ← hx] at hc
      have hxl : Hid (x ∈ l) := Lib.hid (by rw [hx]; exact List.getElem_mem hkl)
      have Hx := Lib.hid hx
      clear hx
      have i1 : (k : Int) < (n : Int) := by omega
      by_cases hg : M < x
      · have hnx : Hid (x ∈ l ∧ ∀ y ∈ l.take (k + 1), y ≤ x) := Lib.hid ⟨hxl.out, by
          intro y hy
          rw [List.take_succ_eq_append_getElem hkl] at hy
          rcases List.mem_append.1 hy with h1 | h1
          · have := hM.out.2 y h1; omega
          · rw [List.mem_singleton] at h1; rw [h1, Hx.out]; omega⟩
        go_wp2
        go_roundw
        case rel => exact ⟨k + 1, x, by omega, by omega, by go_num, rfl, hnx, trivial⟩
        case measure => simp [intOf]; omega
      · have hnx : Hid (M ∈ l ∧ ∀ y ∈ l.take (k + 1), y ≤ M) := Lib.hid ⟨hM.out.1, by
          intro y hy
          rw [List.take_succ_eq_append_getElem hkl] at hy
          rcases List.mem_append.1 hy with h1 | h1
          · exact hM.out.2 y h1
          · rw [List.mem_singleton] at h1; rw [h1, ← Hx.out]; omega⟩
        go_wp2
        go_roundw
        case rel => exact ⟨k + 1, M, by omega, by omega, by go_num, rfl, hnx, trivial⟩
        case measure => simp [intOf]; omega
    · have hkn : k = n := by omega
      have hfin : Hid (M ∈ l ∧ ∀ y ∈ l, y ≤ M) := Lib.hid (by
        have h := hM.out
        rw [hkn, Hn.out, List.take_length] at h
        exact h)
      clear hkn
      go_wp2
      go_ret
      exact ⟨M, rfl, hfin.out.1, hfin.out.2, rfl⟩
set_option maxRecDepth 100000 in
set_option maxHeartbeats 1000000 in
theorem index_any (l : List Int) (v : Int) (ao : Option Addr) (n cap : Nat) (w : World) (hI : Ints w ao l) (hln : n = l.length) (hn : n ≤ 100000) (hv : v ∈ l) :
    Calls Try.prog 74 #[.slice ao n cap, .int .i64 v] w fun e w' => ∃ k : Nat, e = .returned (.int .i64 k) ∧ k < n ∧ l.getD k 0 = v ∧ (∀ j, j < k → l.getD j 0 ≠ v) ∧ w' = w := by
  have Hn := Lib.hid hln
  have Hv := Lib.hid hv
  clear hln hv
  go_enter Try.func74, Try.ntmps74
  go_wp2
  go_loopw [5, 8] (fun _ i wr => ∃ (k : Nat), k ≤ n ∧ i = .int .i64 k ∧ Hid (∀ j, j < k → l.getD j 0 ≠ v) ∧ wr = w) (fun _ i _ => n - (intOf i).toNat)
  case atStart => exact ⟨0, Nat.zero_le _, rfl, Lib.hid (by intro j hj; omega), rfl⟩
  case round =>
    obtain ⟨k, hk, rfl, hS, hw⟩ := hrel
    rw [hw]
    clear hw wr
    by_cases hlt : k < n
    · have hkl : k < l.length := by have := Hn.out; omega
      obtain ⟨b, off, rfl, hbs, hc⟩ := hI.at hkl
      obtain ⟨x, hx⟩ : ∃ x, x = l.getD k 0 := ⟨_, rfl⟩
      rw [← hx] at hc
      have Hx := Lib.hid hx
      clear hx
      have i1 : (k : Int) < (n : Int) := by omega
      by_cases hg : v = x
      · have e1 : (v == x) = true := by simp [hg]
        have Hg := Lib.hid hg
        clear hg
        go_wp2
        go_ret
        exact ⟨k, rfl, hlt, by rw [← Hx.out, Hg.out], hS.out, rfl⟩
      · have e1 : (v == x) = false := by simp [hg]
        have hnx : Hid (∀ j, j < k + 1 → l.getD j 0 ≠ v) := Lib.hid (by
          intro j hj
          by_cases e : j = k
          · rw [e, ← Hx.out]; exact fun h => hg h.symm
          · exact hS.out j (by omega))
        go_wp2
        go_roundw
        case rel => exact ⟨k + 1, by omega, by go_num, hnx, trivial⟩
        case measure => simp [intOf]; omega
    · exfalso
      obtain ⟨i, hi, he⟩ := List.mem_iff_getElem.1 Hv.out
      have := Hn.out
      exact hS.out i (by omega) (by rw [List.getD_eq_getElem?_getD, List.getElem?_eq_getElem hi]; exact he)
end Go.Proofs.Yteecfdjphjkdkaa
