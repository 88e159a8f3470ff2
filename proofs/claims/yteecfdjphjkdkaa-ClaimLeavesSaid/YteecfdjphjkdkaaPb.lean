import Derived.Test.YteecfdjphjkdkaaPa
namespace Go.Proofs.Yteecfdjphjkdkaa
open Go.RowKit
set_option maxRecDepth 100000 in
set_option maxHeartbeats 4000000 in
theorem rpay_any (cs ls : List Int) (p : Int) (aoC : Option Addr) (nC capC : Nat) (aoL : Option Addr) (nL capL : Nat) (w : World) (hC : Ints w aoC cs) (hL : Ints w aoL ls) (hlc : nC = cs.length) (hll : nL = ls.length) (hb1 : nC ≤ 100000) (hb2 : nL ≤ 100000) :
    Calls Try.prog 49 #[.slice aoC nC capC, .slice aoL nL capL, .int .i64 p] w fun e w' => ∃ ao cap, e = .returned (.tuple #[.slice ao (Cl.payR cs ls p).length cap, .int .i64 (Cl.payC cs ls p)]) ∧ Ints w' ao (Cl.payR cs ls p) ∧ Below w.heap.size w w' := by
  obtain ⟨i0, hi0, hz0, hz1, hz2⟩ := info_in
  have HIC := Lib.hid hC
  have HIL := Lib.hid hL
  have Hc := Lib.hid hlc
  have Hl := Lib.hid hll
  have hB := Below.refl w.heap.size w
  have Hno : Hid (¬ Cl.payOk cs ls p → Cl.payC cs ls p = 1 ∧ Cl.payR cs ls p = []) := Lib.hid Cl.pay_no
  have Hyes : Hid (Cl.payOk cs ls p → Cl.payC cs ls p = 0 ∧ Cl.payR cs ls p = Cl.payL cs ls p) := Lib.hid Cl.pay_ok
  generalize hRR : Cl.payR cs ls p = R at Hno Hyes ⊢
  generalize hCC : Cl.payC cs ls p = C at Hno Hyes ⊢
  clear hRR hCC hlc hll hC hL
  go_enter Try.func49, Try.ntmps49
  go_wp2_with fail
  refine (rareClaims_any cs aoC nC capC w HIC.out Hc.out hb1).mono ?_
  rintro e w1 ⟨rfl, hw0⟩; obtain rfl := hw0.symm
  clear hw0
  obtain ⟨v, hv⟩ : ∃ v, v = Cl.okC cs := ⟨_, rfl⟩
  rw [← hv]
  have Hv := Lib.hid hv
  clear hv
  cases v
  · have Hr := Lib.hid (Hno.out (fun h => by have := Hv.out; rw [h.1] at this; cases this))
    go_wp2_with fail
    go_ret2
    exact ⟨none, 0, by rw [Hr.out.1, Hr.out.2]; rfl, by rw [Hr.out.2]; exact ⟨fun h => by cases h⟩, hB⟩
  · by_cases hne : nL = nC
    · have e1 : ((nL : Int) != (nC : Int)) = false := by rw [hne]; simp
      have Hne := Lib.hid hne
      clear hne
      go_wp2_with fail
      refine (rwithin_any p 0 1000 w).mono ?_
      rintro e w2 ⟨rfl, hw0⟩; obtain rfl := hw0.symm
      clear hw0
      by_cases hp : 0 ≤ p ∧ p ≤ 1000
      · have e2 : (decide (0 ≤ p) && decide (p ≤ 1000)) = true := by simp [hp]
        rw [e2]
        clear e2
        have hcb := Lib.hid (Cl.okC_iff.1 Hv.out.symm)
        have hn8 : nC ≤ 8 := by have := hcb.out; have := Hc.out; omega
        clear e1
        go_wp2_with fail
        go_loopw [8, 9] (fun v i wr => ∃ k : Nat, k ≤ nC ∧ i = .int .i64 k ∧ Hid (wr.ownsRow w.heap.size 3 1 v k ((Cl.payL (cs.take k) (ls.take k) p).map (Value.int .i64))) ∧ Hid (∀ x ∈ ls.take k, 0 ≤ x ∧ x ≤ 10000) ∧ Below w.heap.size w wr) (fun _ i _ => nC - (intOf i).toNat)
        case atStart => exact ⟨0, Nat.zero_le _, rfl, Lib.hid ⟨rfl, .inl ⟨rfl, rfl⟩⟩, Lib.hid (by simp), hB⟩
        case round =>
          clear hB
          obtain ⟨k, hk, rfl, hown, hok, hB⟩ := hrel
          by_cases hlt : k < nC
          · have hkc : k < cs.length := by have := Hc.out; omega
            have hkl : k < ls.length := by have := Hl.out; have := Hne.out; omega
            obtain ⟨b, off, rfl, hbs, hcx⟩ := HIC.out.at hkc
            obtain ⟨b2, off2, rfl, hbs2, hcx2⟩ := HIL.out.at hkl
            rw [← hB.cell (p := ⟨b, _, none⟩) hbs] at hcx
            rw [← hB.cell (p := ⟨b2, _, none⟩) hbs2] at hcx2
            rw [show cs.getD k 0 = cs[k] by rw [List.getD_eq_getElem?_getD, List.getElem?_eq_getElem hkc]; rfl] at hcx
            rw [show ls.getD k 0 = ls[k] by rw [List.getD_eq_getElem?_getD, List.getElem?_eq_getElem hkl]; rfl] at hcx2
            have hxb := hcb.out.2.2 _ (List.getElem_mem hkc)
            have hst := Cl.payL_take p hkc hkl
            have hmy : Hid (ls.take (k + 1) = ls.take k ++ [ls[k]] ∧ ls[k] ∈ ls) := Lib.hid ⟨List.take_succ_eq_append_getElem hkl, List.getElem_mem hkl⟩
            generalize cs[k] = x at hcx hxb hst
            generalize ls[k] = y at hcx2 hmy hst
            have Hst := Lib.hid hst
            clear hst
            have i1 : (k : Int) < (nC : Int) := by omega
            have i2 : (k : Int) < (nL : Int) := by have := Hne.out; omega
            go_wp2_with fail
            refine (rwithin_any y 0 10000 wr).mono ?_
            rintro e w2 ⟨rfl, hw0⟩; obtain rfl := hw0.symm
            clear hw0
            by_cases hy : 0 ≤ y ∧ y ≤ 10000
            · have e2 : (decide (0 ≤ y) && decide (y ≤ 10000)) = true := by simp [hy]
              rw [e2]
              clear e2
              have m1 : (x - y) * p ≤ 1000 * p := Int.mul_le_mul_of_nonneg_right (by omega) hp.1
              have m2 : (-10000) * p ≤ (x - y) * p := Int.mul_le_mul_of_nonneg_right (by omega) hp.1
              have e2 : IntKind.i64.wrap (x - y) = x - y := IntWalk.i64_in _ (by omega)
              obtain ⟨P, hP⟩ : ∃ P, P = (x - y) * p := ⟨_, rfl⟩
              rw [← hP] at m1 m2
              have e3 : IntKind.i64.wrap ((x - y) * p) = P := by rw [hP]; exact IntWalk.i64_in _ (by omega)
              rw [← hP] at Hst
              clear hP m1 m2
              have hsz := hB.size
              have hok2 : Hid (∀ x ∈ ls.take (k + 1), 0 ≤ x ∧ x ≤ 10000) := Lib.hid (by
                rw [hmy.out.1]
                intro z hz
                rcases List.mem_append.1 hz with h | h
                · exact hok.out z h
                · rw [List.mem_singleton] at h; rw [h]; exact hy)
              go_upto_region 9 with fail
              go_region_held3 (fun w' => w'.cell? ⟨b, off + k, none⟩ = some (.int .i64 x) ∧ w'.cell? ⟨b2, off2 + k, none⟩ = some (.int .i64 y))
                (first
                  | go_keep
                  | (go_split_ands
                     refine ⟨?_, ?_⟩
                     · (rw [hgrow.cell_far _ (by simp; omega) (fun h => absurd (hown.out.lt b h.symm).1 (by omega))]; assumption)
                     · (rw [hgrow.cell_far _ (by simp; omega) (fun h => absurd (hown.out.lt b2 h.symm).1 (by omega))]; assumption)))
                ((refine step_append_lies _ (by rfl) _ _ _ (by rfl) w.heap.size 3 i0 _ 1 8 Try.underlying22 hi0 hz0 hz1 hz2 rfl (by omega) _ k _ (by rfl) ((hown.out.alloc _).drew)
                    ⟨wr.heap.size, 0, none⟩ 1 1 [.int .i64 P] (by rfl) (by rfl) (World.news_of_block (cs := #[.int .i64 P]) (t := 3) (fr := (0, 0)) (heap_alloc_new wr _)) (by simp [Value.oneCell'])
                    (by omega) (by unfold maxLen; omega) (by omega) (by simp; omega) (wr.heap.size + 1) (by simp) ?_; intro gg cap7 w7 hown1 hgrow hat hlt5))
              have hb5 : Below w.heap.size w w7 := ((hB.alloc hsz _).drew).grown hgrow (by simp; omega) (fun q hq => (hown.out.lt _ hq).1)
              clear hgrow hat hlt5
              go_wp2_with fail
              go_roundw
              case rel => exact ⟨k + 1, by omega, by go_num, Lib.hid (by rw [Hst.out]; exact hown1), hok2, hb5⟩
              case measure => simp [intOf]; omega
            · have e2 : (decide (0 ≤ y) && decide (y ≤ 10000)) = false := by simp; omega
              rw [e2]
              have Hr := Lib.hid (Hno.out (fun h => hy (Cl.okL_iff.1 h.2.2.1 y hmy.out.2)))
              go_wp2_with fail
              go_ret2
              exact ⟨none, 0, by rw [Hr.out.1, Hr.out.2]; rfl, by rw [Hr.out.2]; exact ⟨fun h => by cases h⟩, hB⟩
          · have hkn : k = nC := by omega
            have Hok : Hid (Cl.payOk cs ls p) := Lib.hid ⟨Hv.out.symm, by have := Hne.out; have := Hc.out; have := Hl.out; omega, by
              rw [Cl.okL_iff]
              have h1 := hok.out
              rw [hkn, ← Hne.out, Hl.out, List.take_length] at h1
              exact h1, hp.1, hp.2⟩
            have Hr := Lib.hid (Hyes.out Hok.out)
            have Ho : Hid (wr.ownsRow w.heap.size 3 1 u8 nC (R.map (Value.int .i64)) ∧ nC = R.length) := Lib.hid (by
              have h1 := hown.out
              rw [hkn, Hc.out, List.take_length, ← Hok.out.2.1, List.take_length, Hok.out.2.1] at h1
              rw [Hr.out.2, Hc.out]
              exact ⟨h1, by unfold Cl.payL; rw [List.length_zipWith, Hok.out.2.1, Nat.min_self]⟩)
            clear hkn hown
            obtain ⟨ao, cap, rfl, -, hI⟩ := own_ints Ho.out.1 Ho.out.2
            go_wp2_with fail
            go_ret2
            exact ⟨ao, cap, by rw [Hr.out.1, ← Ho.out.2]; rfl, hI, hB⟩
      · have e2 : (decide (0 ≤ p) && decide (p ≤ 1000)) = false := by simp; omega
        rw [e2]
        have Hr := Lib.hid (Hno.out (fun h => hp h.2.2.2))
        go_wp2_with fail
        go_ret2
        exact ⟨none, 0, by rw [Hr.out.1, Hr.out.2]; rfl, by rw [Hr.out.2]; exact ⟨fun h => by cases h⟩, hB⟩
    · have e1 : ((nL : Int) != (nC : Int)) = true := by simp; omega
      have Hr := Lib.hid (Hno.out (fun h => hne (by have := h.2.1; have := Hc.out; have := Hl.out; omega)))
      go_wp2_with fail
      go_ret2
      exact ⟨none, 0, by rw [Hr.out.1, Hr.out.2]; rfl, by rw [Hr.out.2]; exact ⟨fun h => by cases h⟩, hB⟩
end Go.Proofs.Yteecfdjphjkdkaa
