import Derived.Test.YteecfdjphjkdkaaFa
namespace Go.Proofs.Yteecfdjphjkdkaa
open Go.RowKit
set_option maxRecDepth 100000 in
set_option maxHeartbeats 2000000 in
theorem sameRats_any (l1 l2 : List (Int × Int)) (ao1 : Option Addr) (n1 c1 : Nat) (ao2 : Option Addr) (n2 c2 : Nat) (w : World) (h1 : Pts w ao1 l1) (h2 : Pts w ao2 l2) (e1 : n1 = l1.length) (e2 : n2 = l2.length) (hn1 : n1 ≤ 100000) (_ : n2 ≤ 100000) :
    Calls Try.prog 21 #[.slice ao1 n1 c1, .slice ao2 n2 c2] w fun e w' => e = .returned (.bool (decide (l1 = l2))) ∧ Below w.heap.size w w' := by
  have E1 := Lib.hid e1
  have E2 := Lib.hid e2
  clear e1 e2
  obtain ⟨R, hR⟩ : ∃ r, r = decide (l1 = l2) := ⟨_, rfl⟩
  rw [← hR]
  have HR := Lib.hid hR
  clear hR
  by_cases hne : n1 = n2
  · have hne2 : ((n1 : Int) != (n2 : Int)) = false := by simp [hne]
    have HN := Lib.hid hne
    clear hne
    go_enter Try.func21, Try.ntmps21
    go_wp2_with fail
    go_loopw [5] (fun i wr => ∃ k : Nat, k ≤ n1 ∧ i = .int .i64 k ∧ Below w.heap.size w wr ∧ Hid (∀ j (q1 : j < l1.length) (q2 : j < l2.length), j < k → l1[j] = l2[j])) (fun i _ => n1 - (intOf i).toNat)
    case atStart => exact ⟨0, Nat.zero_le _, rfl, Below.refl _ _, Lib.hid fun j _ _ hj => by omega⟩
    case round =>
      obtain ⟨k, hk, rfl, hb, hall⟩ := hrel
      by_cases hlt : k < n1
      · have k1 : k < l1.length := by have := E1.out; omega
        have k2 : k < l2.length := by have := E2.out; have := HN.out; omega
        obtain ⟨b, off, rfl, hbs, p1, p2⟩ := pts_at h1 k1
        obtain ⟨b2, off2, rfl, hbs2, q1, q2⟩ := pts_at h2 k2
        rw [← hb.cell (p := ⟨b, _, none⟩) hbs] at p1 p2
        rw [← hb.cell (p := ⟨b2, _, none⟩) hbs2] at q1 q2
        have i1 : (k : Int) < (n1 : Int) := by omega
        have i2 : (k : Int) < (n2 : Int) := by have := HN.out; omega
        obtain ⟨x, hx⟩ : ∃ x, x = l1[k] := ⟨_, rfl⟩
        obtain ⟨y, hy⟩ : ∃ y, y = l2[k] := ⟨_, rfl⟩
        obtain ⟨xa, xb⟩ := x
        obtain ⟨ya, yb⟩ := y
        rw [← hx] at p1 p2
        rw [← hy] at q1 q2
        simp only at p1 p2 q1 q2
        have Hx := Lib.hid hx
        have Hy := Lib.hid hy
        clear hx hy h1 h2
        have heq := run_neq_rt xa xb ya yb
        obtain ⟨bv, hbv⟩ : ∃ v, (decide ((xa, xb) = (ya, yb))) = v := ⟨_, rfl⟩
        rw [hbv] at heq
        have Hbv := Lib.hid hbv
        clear hbv
        go_wp2_with fail
        go_quiet (fail)
        clear heq
        cases bv with
        | true =>
          have hE : (xa, xb) = (ya, yb) := by simpa using Hbv.out
          have HE := Lib.hid hE
          clear hE
          go_wp2_with fail
          go_roundw
          case rel =>
            refine ⟨k + 1, by omega, by go_num, below_drewN hb _, Lib.hid fun j q1 q2 hj => ?_⟩
            by_cases e : j = k
            · subst e; rw [← Hx.out, ← Hy.out]; exact HE.out
            · exact hall.out j q1 q2 (by omega)
          case measure => simp [intOf]; omega
        | false =>
          have hE : (xa, xb) ≠ (ya, yb) := by simpa using Hbv.out
          have hr : Hid (R = false) := Lib.hid (by rw [HR.out]; exact list_ne k1 k2 (by rw [← Hx.out, ← Hy.out]; exact hE))
          clear hE
          go_wp2_with fail
          go_ret
          exact ⟨ret_bool hr.out.symm, below_drewN hb _⟩
      · have hk2 : k = n1 := by omega
        have Hk := Lib.hid hk2
        clear hk2
        have hr : Hid (R = true) := Lib.hid (by
          rw [HR.out, decide_eq_true_iff]
          refine List.ext_getElem (by rw [← E1.out, ← E2.out, HN.out]) fun j q1 q2 => hall.out j q1 q2 (by rw [Hk.out, E1.out]; exact q1))
        go_wp2_with fail
        go_ret
        exact ⟨ret_bool hr.out.symm, hb⟩
  · have hne2 : ((n1 : Int) != (n2 : Int)) = true := by simp; omega
    have hr : Hid (R = false) := Lib.hid (by
      rw [HR.out, decide_eq_false_iff_not]; rintro rfl; exact hne (by rw [E1.out, E2.out]))
    go_enter Try.func21, Try.ntmps21
    go_wp2_with fail
    go_ret
    exact ⟨ret_bool hr.out.symm, Below.refl _ _⟩
set_option maxRecDepth 100000 in
set_option maxHeartbeats 2000000 in
theorem sameInts_any (l1 l2 : List Int) (ao1 : Option Addr) (n1 c1 : Nat) (ao2 : Option Addr) (n2 c2 : Nat) (w : World) (h1 : Ints w ao1 l1) (h2 : Ints w ao2 l2) (e1 : n1 = l1.length) (e2 : n2 = l2.length) (hn1 : n1 ≤ 100000) (_ : n2 ≤ 100000) :
    Calls Try.prog 45 #[.slice ao1 n1 c1, .slice ao2 n2 c2] w fun e w' => e = .returned (.bool (decide (l1 = l2))) ∧ Below w.heap.size w w' := by
  have E1 := Lib.hid e1
  have E2 := Lib.hid e2
  clear e1 e2
  obtain ⟨R, hR⟩ : ∃ r, r = decide (l1 = l2) := ⟨_, rfl⟩
  rw [← hR]
  have HR := Lib.hid hR
  clear hR
  by_cases hne : n1 = n2
  · have hne2 : ((n1 : Int) != (n2 : Int)) = false := by simp [hne]
    have HN := Lib.hid hne
    clear hne
    go_enter Try.func45, Try.ntmps45
    go_wp2_with fail
    go_loopw [5] (fun i wr => ∃ k : Nat, k ≤ n1 ∧ i = .int .i64 k ∧ Below w.heap.size w wr ∧ Hid (∀ j (q1 : j < l1.length) (q2 : j < l2.length), j < k → l1[j] = l2[j])) (fun i _ => n1 - (intOf i).toNat)
    case atStart => exact ⟨0, Nat.zero_le _, rfl, Below.refl _ _, Lib.hid fun j _ _ hj => by omega⟩
    case round =>
      obtain ⟨k, hk, rfl, hb, hall⟩ := hrel
      by_cases hlt : k < n1
      · have k1 : k < l1.length := by have := E1.out; omega
        have k2 : k < l2.length := by have := E2.out; have := HN.out; omega
        obtain ⟨b, off, rfl, hbs, p1⟩ := h1.at k1
        obtain ⟨b2, off2, rfl, hbs2, q1⟩ := h2.at k2
        rw [← hb.cell (p := ⟨b, _, none⟩) hbs, show l1.getD k 0 = l1[k] by rw [List.getD_eq_getElem?_getD, List.getElem?_eq_getElem k1]; rfl] at p1
        rw [← hb.cell (p := ⟨b2, _, none⟩) hbs2, show l2.getD k 0 = l2[k] by rw [List.getD_eq_getElem?_getD, List.getElem?_eq_getElem k2]; rfl] at q1
        have i1 : (k : Int) < (n1 : Int) := by omega
        have i2 : (k : Int) < (n2 : Int) := by have := HN.out; omega
        obtain ⟨x, hx⟩ : ∃ x, x = l1[k] := ⟨_, rfl⟩
        obtain ⟨y, hy⟩ : ∃ y, y = l2[k] := ⟨_, rfl⟩
        rw [← hx] at p1
        rw [← hy] at q1
        have Hx := Lib.hid hx
        have Hy := Lib.hid hy
        clear hx hy h1 h2
        by_cases hxy : x = y
        · have hE : (x != y) = false := by simp [hxy]
          have HE := Lib.hid hxy
          clear hxy
          go_wp2_with fail
          go_quiet (fail)
          go_wp2_with fail
          go_roundw
          case rel =>
            refine ⟨k + 1, by omega, by go_num, below_drewN hb _, Lib.hid fun j q1 q2 hj => ?_⟩
            by_cases e : j = k
            · subst e; rw [← Hx.out, ← Hy.out]; exact HE.out
            · exact hall.out j q1 q2 (by omega)
          case measure => simp [intOf]; omega
        · have hE : (x != y) = true := by simp [hxy]
          have hr : Hid (R = false) := Lib.hid (by rw [HR.out]; exact list_neI k1 k2 (by rw [← Hx.out, ← Hy.out]; exact hxy))
          clear hxy
          go_wp2_with fail
          go_quiet (fail)
          go_wp2_with fail
          go_ret
          exact ⟨ret_bool hr.out.symm, below_drewN hb _⟩
      · have hk2 : k = n1 := by omega
        have Hk := Lib.hid hk2
        clear hk2
        have hr : Hid (R = true) := Lib.hid (by
          rw [HR.out, decide_eq_true_iff]
          refine List.ext_getElem (by rw [← E1.out, ← E2.out, HN.out]) fun j q1 q2 => hall.out j q1 q2 (by rw [Hk.out, E1.out]; exact q1))
        go_wp2_with fail
        go_ret
        exact ⟨ret_bool hr.out.symm, hb⟩
  · have hne2 : ((n1 : Int) != (n2 : Int)) = true := by simp; omega
    have hr : Hid (R = false) := Lib.hid (by
      rw [HR.out, decide_eq_false_iff_not]; rintro rfl; exact hne (by rw [E1.out, E2.out]))
    go_enter Try.func45, Try.ntmps45
    go_wp2_with fail
    go_ret
    exact ⟨ret_bool hr.out.symm, Below.refl _ _⟩
end Go.Proofs.Yteecfdjphjkdkaa
