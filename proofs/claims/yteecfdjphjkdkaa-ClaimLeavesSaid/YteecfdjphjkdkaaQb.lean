import Derived.Test.YteecfdjphjkdkaaQa
namespace Go.Proofs.Yteecfdjphjkdkaa
open Go.RowKit
set_option maxRecDepth 100000 in
set_option maxHeartbeats 2000000 in
theorem over_any (A : List (Int × Int)) (D : Int) (ao : Option Addr) (n cap : Nat) (w : World) (hP : Pts w ao A) (hln : n = A.length) (hn : n ≤ 1000) (hA : ∀ x ∈ A, Cl.rtOk x = true) (hD : 1 ≤ D ∧ D ≤ 100000000) :
    Calls Try.prog 69 #[.slice ao n cap, .int .i64 D] w fun e w' => ∃ v, e = .returned v ∧ w'.ownsRow w.heap.size 3 1 v n ((Cl.ovL A D).map (Value.int .i64)) ∧ Below w.heap.size w w' := by
  obtain ⟨i0, hi0, hz0, hz1, hz2⟩ := info_in
  have HP := Lib.hid hP
  have Hn := Lib.hid hln
  have HA := Lib.hid hA
  have hB := Below.refl w.heap.size w
  clear hln hP hA
  go_enter Try.func69, Try.ntmps69
  go_wp2_with fail
  go_loopw [5, 6] (fun v i wr => ∃ (k : Nat), k ≤ n ∧ i = .int .i64 k ∧ Hid (wr.ownsRow w.heap.size 3 1 v k ((Cl.ovL (A.take k) D).map (Value.int .i64))) ∧ Below w.heap.size w wr) (fun _ i _ => n - (intOf i).toNat)
  case atStart => exact ⟨0, Nat.zero_le _, rfl, Lib.hid ⟨rfl, .inl ⟨rfl, rfl⟩⟩, hB⟩
  case round =>
    clear hB
    obtain ⟨k, hk, rfl, hown, hB⟩ := hrel
    by_cases hlt : k < n
    · have hkl : k < A.length := by have := Hn.out; omega
      obtain ⟨b, off, rfl, hbs, hx1, hx2⟩ := pts_at HP.out hkl
      rw [← hB.cell (p := ⟨b, _, none⟩) hbs] at hx1 hx2
      have hbs2 : b < wr.heap.size := Nat.lt_of_lt_of_le hbs hB.size
      have hrt := Cl.rtOk_iff.1 (HA.out _ (List.getElem_mem hkl))
      have Hst := Lib.hid (Cl.ovL_take D hkl)
      generalize A[k] = x at hx1 hx2 hrt Hst
      obtain ⟨x1, x2⟩ := x
      simp only at hx1 hx2 hrt
      have hxb : 0 ≤ x1 ∧ x1 ≤ 10000000 ∧ 1 ≤ x2 ∧ x2 ≤ 10000 := ⟨hrt.1, hrt.2.1, hrt.2.2.1, hrt.2.2.2.1⟩
      clear hrt
      have i1 : (k : Int) < (n : Int) := by omega
      have hfree : Hid (∀ q, u5.ownBlock = some q → w.heap.size ≤ q) := Lib.hid (fun q hq => (hown.out.lt q hq).1)
      have hblt : b < wr.heap.size := hbs2
      go_upto_region 5 with fail
      have q0 : ¬ (x2 = 0) := by omega
      have q1 : D.tdiv x2 = D / x2 := Int.tdiv_eq_ediv_of_nonneg (by omega)
      have q2 : 0 ≤ D / x2 ∧ D / x2 ≤ D := ⟨Int.ediv_nonneg (by omega) (by omega), Int.ediv_le_self _ (by omega)⟩
      generalize D / x2 = Q at q1 q2 Hst
      have q3 : IntKind.i64.wrap Q = Q := IntWalk.i64_in _ (by omega)
      have p1 : 0 ≤ x1 * Q := Int.mul_nonneg hxb.1 q2.1
      have p2 : x1 * Q ≤ 10000000 * 100000000 := Int.mul_le_mul hxb.2.1 (by omega) q2.1 (by omega)
      obtain ⟨P, hP⟩ : ∃ P, P = x1 * Q := ⟨_, rfl⟩
      rw [← hP] at p1 p2 Hst
      have q4 : IntKind.i64.wrap (x1 * Q) = P := by rw [← hP]; exact IntWalk.i64_in _ (by omega)
      clear hP
      have hsz := hB.size
      go_region_held3 (fun w' => w'.cell? ⟨b, off + k * 2, none⟩ = some (.int .i64 x1) ∧ w'.cell? ⟨b, off + k * 2 + 1, none⟩ = some (.int .i64 x2))
        (first
          | go_keep
          | (go_split_ands
             refine ⟨?_, ?_⟩
             · (rw [hgrow.cell_far _ (by simp; omega) (fun h => absurd (hfree.out b h.symm) (by omega))]; assumption)
             · (rw [hgrow.cell_far _ (by simp; omega) (fun h => absurd (hfree.out b h.symm) (by omega))]; assumption)))
        ((refine step_append_lies _ (by rfl) _ _ _ (by rfl) w.heap.size 3 i0 _ 1 8 Try.underlying22 hi0 hz0 hz1 hz2 rfl (by omega) _ k _ (by rfl) ((hown.out.alloc _).drew)
            ⟨wr.heap.size, 0, none⟩ 1 1 [.int .i64 P] (by rfl) (by rfl) (World.news_of_block (cs := #[.int .i64 P]) (t := 3) (fr := (0, 0)) (heap_alloc_new wr _)) (by simp [Value.oneCell'])
            (by omega) (by unfold maxLen; omega) (by omega) (by simp; omega) (wr.heap.size + 1) (by simp) ?_; intro gg cap7 w7 hown1 hgrow hat hlt5))
      have hb5 : Below w.heap.size w w7 := ((hB.alloc hsz _).drew).grown hgrow (by simp; omega) (fun q hq => (hown.out.lt _ hq).1)
      clear hgrow hat hlt5
      go_wp2_with fail
      go_roundw
      case rel => exact ⟨k + 1, by omega, by go_num, Lib.hid (by rw [Hst.out]; exact hown1), hb5⟩
      case measure => simp [intOf]; omega
    · have hkn : k = n := by omega
      have Ho : Hid (wr.ownsRow w.heap.size 3 1 u5 n ((Cl.ovL A D).map (Value.int .i64))) := Lib.hid (by
        have h := hown.out
        rw [hkn, Hn.out, List.take_length] at h
        rw [Hn.out]
        exact h)
      clear hkn hown
      go_wp2_with fail
      go_ret
      exact ⟨_, rfl, Ho.out, hB⟩
end Go.Proofs.Yteecfdjphjkdkaa
