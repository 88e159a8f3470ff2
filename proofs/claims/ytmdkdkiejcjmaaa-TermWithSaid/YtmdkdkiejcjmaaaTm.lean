import Derived.Test.YtmdkdkiejcjmaaaTl
/- Package selionref08: votes. -/
namespace Go.Proofs.Ytmdkdkiejcjmaaa
open Go.RowKit
theorem Ve_yes (l : List (Int × Bool)) (k : Nat) : Ve.yes l (-1) k = (l.getD k (0, false)).2 := by
  unfold Ve.yes
  rw [decide_eq_false (by omega)]
  simp

set_option maxRecDepth 100000 in
set_option maxHeartbeats 2000000 in
theorem within_any (x a b : Int) (w : World) :
    Calls Try.prog 65 #[.int .i64 x, .int .i64 a, .int .i64 b] w fun e w' => e = .returned (.bool (decide (a ≤ x) && decide (x ≤ b))) ∧ w' = w := by
  go_enter Try.func65, Try.ntmps65
  by_cases h1 : a ≤ x
  · by_cases h2 : x ≤ b
    · go_wp2_with fail
      go_ret
      exact ⟨ret_bool (by simp [h1, h2]), rfl⟩
    · go_wp2_with fail
      go_ret
      exact ⟨ret_bool (by simp [h2]), rfl⟩
  · go_wp2_with fail
    go_ret
    exact ⟨ret_bool (by rw [decide_eq_false (by omega)]; rfl), rfl⟩

set_option maxRecDepth 100000 in
set_option maxHeartbeats 4000000 in
theorem voted_any (l : List (Int × Bool)) (ao : Option Addr) (n cap : Nat) (w : World) (hI : Vts w ao l) (hn : n = l.length) (hn9 : n ≤ 100000) :
    Calls Try.prog 85 #[.slice ao n cap] w fun e w' => e = .returned (.int .i64 (Ve.code l)) ∧ w' = w := by
  have Hn := Lib.hid hn
  clear hn
  obtain ⟨C, hC⟩ : ∃ r, r = Ve.code l := ⟨_, rfl⟩
  rw [← hC]
  have HC := Lib.hid hC
  clear hC
  go_enter Try.func85, Try.ntmps85
  by_cases h20 : 20 < n
  · have hc : Hid (C = 3) := Lib.hid (by rw [HC.out]; unfold Ve.code; rw [if_pos (by rw [← Hn.out]; exact h20)])
    have h20i : (20 : Int) < (n : Int) := by omega
    go_wp2_with fail
    go_ret
    exact ⟨ret_int hc.out.symm, rfl⟩
  · have h20i : ¬ (20 : Int) < (n : Int) := by omega
    have hc0 : Hid (C = if (l.drop 0).all Ve.okv then 0 else 1) := Lib.hid (by rw [HC.out]; unfold Ve.code; rw [if_neg (by rw [← Hn.out]; exact h20)]; rfl)
    clear HC
    go_wp2_with fail
    go_loopw [3] (fun i wr => ∃ k : Nat, k ≤ n ∧ i = .int .i64 k ∧ Hid (C = if (l.drop k).all Ve.okv then 0 else 1) ∧ wr = w) (fun i _ => n - (intOf i).toNat)
    case atStart => exact ⟨0, Nat.zero_le _, rfl, hc0, rfl⟩
    case round =>
      obtain ⟨k, hk, rfl, HK, hwr⟩ := hrel
      subst hwr
      by_cases hlt : k < n
      · have hkl : k < l.length := by have := Hn.out; omega
        obtain ⟨b, off, x, y, rfl, hbs, he, z0, z1⟩ := hI.at hkl
        have hst := Lib.hid (Ve.all_drop hkl)
        rw [he] at hst
        clear he z1
        have i1 : (k : Int) < (n : Int) := by omega
        go_wp2_with fail
        refine (within_any x 0 10000 wr).mono ?_
        rintro e w1 ⟨rfl, rfl⟩
        have ho : Hid (Ve.okv (x, y) = (decide (0 ≤ x) && decide (x ≤ 10000))) := Lib.hid (by simp [Ve.okv, Tm.upTo])
        generalize (decide (0 ≤ x) && decide (x ≤ 10000)) = b1 at ho ⊢
        cases b1 with
        | false =>
          have hc : Hid (C = 1) := Lib.hid (by rw [HK.out, hst.out, ho.out]; rfl)
          clear HK hst
          go_wp2_with fail
          go_ret
          exact ⟨ret_int hc.out.symm, rfl⟩
        | true =>
          have hc : Hid (C = if (l.drop (k + 1)).all Ve.okv then 0 else 1) := Lib.hid (by rw [HK.out, hst.out, ho.out]; rfl)
          clear HK hst
          go_wp2_with fail
          go_roundw
          case rel => exact ⟨k + 1, by omega, by go_num, hc, trivial⟩
          case measure => simp [intOf]; omega
      · have hc : Hid (C = 0) := Lib.hid (by rw [HK.out, List.drop_eq_nil_of_le (by have := Hn.out; omega)]; rfl)
        go_wp2_with fail
        go_ret
        exact ⟨ret_int hc.out.symm, rfl⟩

set_option maxRecDepth 100000 in
set_option maxHeartbeats 4000000 in
theorem passes_any (l : List (Int × Bool)) (ao : Option Addr) (n cap : Nat) (w : World) (hI : Vts w ao l) (hn : n = l.length) (hok : Ve.code l = 0) :
    Calls Try.prog 86 #[.slice ao n cap] w fun e w' => e = .returned (.tuple #[.bool (Ve.heads l (-1)), .bool (Ve.land l (-1))]) ∧ w' = w := by
  have Hn := Lib.hid hn
  obtain ⟨h20, hOk⟩ := Ve.code_ok hok
  rw [← hn] at h20
  have HO := Lib.hid hOk
  clear hn hok hOk
  obtain ⟨p1, hp1⟩ : ∃ r, r = Ve.heads l (-1) := ⟨_, rfl⟩
  obtain ⟨p2, hp2⟩ : ∃ r, r = Ve.land l (-1) := ⟨_, rfl⟩
  rw [← hp1, ← hp2]
  have H1 := Lib.hid hp1
  have H2 := Lib.hid hp2
  clear hp1 hp2
  go_enter Try.func86, Try.ntmps86
  go_wp2
  go_loop [4, 5, 6] (fun h a i => ∃ k : Nat, ∃ x y : Int, k ≤ n ∧ i = .int .i64 k ∧ h = .int .i64 x ∧ a = .int .i64 y ∧ Hid (x = 2 * Ve.hd l (-1) k - k ∧ y = 2 * Ve.ld l (-1) k - Ve.al l k) ∧ -k ≤ x ∧ x ≤ k ∧ -(10000 * k) ≤ y ∧ y ≤ 10000 * k) (fun _ _ i => n - (intOf i).toNat)
  case atStart => exact ⟨0, 0, 0, Nat.zero_le _, rfl, rfl, rfl, Lib.hid ⟨rfl, rfl⟩, by omega, by omega, by omega, by omega⟩
  case round =>
    obtain ⟨k, x, y, hk, rfl, rfl, rfl, HE, b1, b2, b3, b4⟩ := hrel
    by_cases hlt : k < n
    · have hkl : k < l.length := by have := Hn.out; omega
      obtain ⟨b, off, u, v, rfl, hbs, he, z0, z1⟩ := hI.at hkl
      have hu := HO.out k hkl
      have hs : Hid (2 * Ve.hd l (-1) (k + 1) - ((k + 1 : Nat) : Int) = x + (if v = true then 1 else -1) ∧ 2 * Ve.ld l (-1) (k + 1) - Ve.al l (k + 1) = y + (if v = true then u else -u)) := Lib.hid (by
        obtain ⟨e1, e2⟩ := HE.out
        rw [e1, e2]
        simp only [Ve.hd, Ve.ld, Ve.al, Ve_yes, he]
        cases v <;> simp <;> omega)
      rw [he] at hu
      obtain ⟨u0, u1⟩ := hu
      simp only at u0 u1
      clear he HE
      have i1 : (k : Int) < (n : Int) := by omega
      cases v with
      | true =>
        have hs2 : Hid (x + 1 = 2 * Ve.hd l (-1) (k + 1) - ((k + 1 : Nat) : Int) ∧ y + u = 2 * Ve.ld l (-1) (k + 1) - Ve.al l (k + 1)) := Lib.hid (by obtain ⟨a, b⟩ := hs.out; exact ⟨by rw [a]; simp, by rw [b]; simp⟩)
        clear hs
        go_wp2
        go_round
        case rel => exact ⟨k + 1, x + 1, y + u, by omega, by go_num, by go_num, by go_num, hs2, by omega, by omega, by omega, by omega⟩
        case measure => simp [intOf]; omega
      | false =>
        have hs2 : Hid (x - 1 = 2 * Ve.hd l (-1) (k + 1) - ((k + 1 : Nat) : Int) ∧ y - u = 2 * Ve.ld l (-1) (k + 1) - Ve.al l (k + 1)) := Lib.hid (by obtain ⟨a, b⟩ := hs.out; exact ⟨by rw [a]; simp; omega, by rw [b]; simp; omega⟩)
        clear hs
        go_wp2
        go_round
        case rel => exact ⟨k + 1, x - 1, y - u, by omega, by go_num, by go_num, by go_num, hs2, by omega, by omega, by omega, by omega⟩
        case measure => simp [intOf]; omega
    · have hkn : k = n := by omega
      have q1 : Hid (p1 = decide (0 < x)) := Lib.hid (by rw [H1.out]; unfold Ve.heads; rw [HE.out.1, hkn, ← Hn.out]; exact decide_eq_decide.2 (by omega))
      have q2 : Hid (p2 = decide (0 < y)) := Lib.hid (by rw [H2.out]; unfold Ve.land; rw [HE.out.2, hkn, ← Hn.out]; exact decide_eq_decide.2 (by omega))
      clear hkn HE H1 H2
      go_wp2_with fail
      go_ret2
      exact ⟨by rw [q1.out, q2.out]; first | rfl | simp, rfl⟩

set_option maxRecDepth 100000 in
set_option maxHeartbeats 4000000 in
theorem refPasses_any (l : List (Int × Bool)) (ao : Option Addr) (n cap : Nat) (w : World) (hI : Vts w ao l) (hn : n = l.length) (hn9 : n ≤ 100000) :
    Calls Try.prog 49 #[.slice ao n cap] w fun e w' => e = .returned (.tuple #[.bool (Ve.ph l), .bool (Ve.pl l), .int .i64 (Ve.code l)]) ∧ w' = w := by
  have Hn := Lib.hid hn
  have hV := voted_any l ao n cap w hI hn hn9
  obtain ⟨C, hC⟩ : ∃ r, r = Ve.code l := ⟨_, rfl⟩
  obtain ⟨p1, hp1⟩ : ∃ r, r = Ve.ph l := ⟨_, rfl⟩
  obtain ⟨p2, hp2⟩ : ∃ r, r = Ve.pl l := ⟨_, rfl⟩
  rw [← hC, ← hp1, ← hp2]
  rw [← hC] at hV
  have HC := Lib.hid hC
  have H1 := Lib.hid hp1
  have H2 := Lib.hid hp2
  clear hC hp1 hp2 hn
  go_enter Try.func49, Try.ntmps49
  go_wp2_with fail
  refine hV.mono ?_
  clear hV
  rintro e w1 ⟨rfl, rfl⟩
  by_cases hz : C = 0
  · have hc := Lib.hid (HC.out.symm.trans hz)
    have q1 : Hid (p1 = Ve.heads l (-1)) := Lib.hid (by rw [H1.out]; unfold Ve.ph; rw [if_pos hc.out])
    have q2 : Hid (p2 = Ve.land l (-1)) := Lib.hid (by rw [H2.out]; unfold Ve.pl; rw [if_pos hc.out])
    subst hz
    have hX := passes_any l _ _ cap w1 hI Hn.out hc.out
    rw [← q1.out, ← q2.out] at hX
    go_wp2_with fail
    refine hX.mono ?_
    clear hX
    rintro e w2 ⟨rfl, rfl⟩
    go_wp2_with fail
    go_ret3
    exact ⟨rfl, rfl⟩
  · have hne : (C != 0) = true := by simp [hz]
    have q1 : Hid (p1 = false) := Lib.hid (by rw [H1.out]; unfold Ve.ph; rw [if_neg (by rw [← HC.out]; exact hz)])
    have q2 : Hid (p2 = false) := Lib.hid (by rw [H2.out]; unfold Ve.pl; rw [if_neg (by rw [← HC.out]; exact hz)])
    go_wp2_with fail
    go_ret3
    exact ⟨by rw [q1.out, q2.out]; rfl, rfl⟩
end Go.Proofs.Ytmdkdkiejcjmaaa
