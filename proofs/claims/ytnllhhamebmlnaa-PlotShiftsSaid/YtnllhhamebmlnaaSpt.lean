import Derived.Test.YtnllhhamebmlnaaRrg
import Derived.Test.YtnllhhamebmlnaaTwc
namespace Go.Proofs.Ytnllhhamebmlnaa
open Go.RowKit

theorem run_neq_pt (a1 a2 b1 b2 : Int) (w : World) : (binOp BinOp.neq 32 (.agg #[.int .i64 a1, .int .i64 a2]) (.agg #[.int .i64 b1, .int .i64 b2])).run Try.prog w = .ok (.bool (!Geo.peq a1 a2 b1 b2)) w := by
  unfold Geo.peq
  by_cases e1 : a1 = b1
  · subst e1
    by_cases e2 : a2 = b2
    · simp [e2, go_sem]
    · simp [e2, go_sem]
  · simp [e1, go_sem]

theorem pts_ext {l1 l2 : List (Int × Int)} (h : l1.length = l2.length) (hj : ∀ j, j < l1.length → Geo.peq (Geo.px l1 j) (Geo.py l1 j) (Geo.px l2 j) (Geo.py l2 j) = true) : l1 = l2 := by
  refine List.ext_getElem h fun i h1 h2 => ?_
  have k := Geo.peq_true.1 (hj i h1)
  unfold Geo.px Geo.py at k
  rw [List.getD_eq_getElem?_getD, List.getD_eq_getElem?_getD, List.getElem?_eq_getElem h1, List.getElem?_eq_getElem h2] at k
  exact Prod.ext k.1 k.2

set_option maxRecDepth 100000 in
set_option maxHeartbeats 1000000 in
theorem samePoints_any (l1 l2 : List (Int × Int)) (ao1 ao2 : Option Addr) (n1 c1 n2 c2 : Nat) (w : World) (hp1 : Pts w ao1 l1) (hp2 : Pts w ao2 l2) (hl1 : n1 = l1.length) (hl2 : n2 = l2.length) (hn : n1 ≤ 100000) :
    Calls Try.prog 31 #[.slice ao1 n1 c1, .slice ao2 n2 c2] w fun e w' => e = .returned (.bool (decide (l1 = l2))) ∧ Below w.heap.size w w' := by
  have Hn1 := Lib.hid hl1
  have Hn2 := Lib.hid hl2
  by_cases hne : n1 = n2
  · have hneq : ((n1 : Int) != (n2 : Int)) = false := by simp; omega
    have Hne := Lib.hid hne
    clear hl1 hl2
    clear hne
    go_enter Try.func31, Try.ntmps31
    go_wp2
    go_loopw [5] (fun i wr => ∃ k : Nat, k ≤ n1 ∧ i = .int .i64 k ∧ Below w.heap.size w wr ∧ Hid (∀ j, j < k → Geo.peq (Geo.px l1 j) (Geo.py l1 j) (Geo.px l2 j) (Geo.py l2 j) = true)) (fun i _ => n1 - (intOf i).toNat)
    case atStart => exact ⟨0, Nat.zero_le _, rfl, Below.refl _ _, Lib.hid (fun j hj => by omega)⟩
    case round =>
      obtain ⟨k, hk, rfl, hb, hall⟩ := hrel
      by_cases hlt : k < n1
      · obtain ⟨b, off, rfl, hbs, hc⟩ := hp1.cells (by have := Hn1.out; omega)
        obtain ⟨b2, off2, rfl, hbs2, hc2⟩ := hp2.cells (by have := Hn1.out; have := Hn2.out; have := Hne.out; omega)
        obtain ⟨a1, a2⟩ := Pts.at Hn1.out hc (k := k) hlt
        obtain ⟨a3, a4⟩ := Pts.at Hn2.out hc2 (k := k) (by have := Hne.out; omega)
        clear hc hc2 hp1 hp2
        rw [← hb.cell (p := ⟨b, _, none⟩) hbs] at a1 a2
        rw [← hb.cell (p := ⟨b2, _, none⟩) hbs2] at a3 a4
        have i1 : (k : Int) < (n2 : Int) := by have := Hne.out; omega
        have i2 : k < n2 := by have := Hne.out; omega
        go_wp2
        have heq := run_neq_pt (Geo.px l1 k) (Geo.py l1 k) (Geo.px l2 k) (Geo.py l2 k)
        go_quiet (fail)
        clear heq
        obtain ⟨bv, hbv⟩ : ∃ v, Geo.peq (Geo.px l1 k) (Geo.py l1 k) (Geo.px l2 k) (Geo.py l2 k) = v := ⟨_, rfl⟩
        rw [hbv]
        have Hq := Lib.hid hbv
        clear hbv
        cases bv with
        | false =>
          go_wp2_with fail
          go_ret
          refine ⟨ret_bool ?_, below_drewN hb _⟩
          refine (decide_eq_false fun e => ?_).symm
          subst e
          have := Hq.out
          rw [Geo.peq_false] at this
          exact this ⟨rfl, rfl⟩
        | true =>
          go_wp2_with fail
          go_roundw
          case rel =>
            refine ⟨k + 1, by omega, by go_num, below_drewN hb _, Lib.hid (fun j hj => ?_)⟩
            by_cases e : j = k
            · rw [e]; exact Hq.out
            · exact hall.out j (by omega)
          case measure => simp [intOf]; omega
      · have hk2 : k = n1 := by omega
        have Hk := Lib.hid hk2
        clear hk2
        go_wp2
        go_ret
        refine ⟨ret_bool ?_, hb⟩
        exact (decide_eq_true (pts_ext (by rw [← Hn1.out, ← Hn2.out]; exact Hne.out) fun j hj => hall.out j (by rw [Hk.out, Hn1.out]; exact hj))).symm
  · have hneq : ((n1 : Int) != (n2 : Int)) = true := by simp; omega
    have Hne := Lib.hid hne
    clear hl1 hl2 hne
    go_enter Try.func31, Try.ntmps31
    go_wp2
    go_ret
    refine ⟨ret_bool ?_, Below.refl _ _⟩
    refine (decide_eq_false fun e => Hne.out ?_).symm
    rw [Hn1.out, Hn2.out, e]
end Go.Proofs.Ytnllhhamebmlnaa
