import Derived.Test.YteecfdjphjkdkaaGc
namespace Go.Proofs.Yteecfdjphjkdkaa
open Go.RowKit
namespace Cl
def payOk (cs ls : List Int) (p : Int) : Prop := okC cs = true ∧ ls.length = cs.length ∧ okL 10000 ls = true ∧ 0 ≤ p ∧ p ≤ 1000
instance (cs ls : List Int) (p : Int) : Decidable (payOk cs ls p) := by unfold payOk; infer_instance
def payC (cs ls : List Int) (p : Int) : Int := if payOk cs ls p then 0 else 1
def payL (cs ls : List Int) (p : Int) : List Int := List.zipWith (fun c l => (c - l) * p) cs ls
def payR (cs ls : List Int) (p : Int) : List Int := if payOk cs ls p then payL cs ls p else []
theorem pay_no {cs ls : List Int} {p : Int} (h : ¬ payOk cs ls p) : payC cs ls p = 1 ∧ payR cs ls p = [] := ⟨if_neg h, if_neg h⟩
theorem pay_ok {cs ls : List Int} {p : Int} (h : payOk cs ls p) : payC cs ls p = 0 ∧ payR cs ls p = payL cs ls p := ⟨if_pos h, if_pos h⟩
theorem payL_take {cs ls : List Int} (p : Int) {k : Nat} (h1 : k < cs.length) (h2 : k < ls.length) : (payL (cs.take (k + 1)) (ls.take (k + 1)) p).map (Value.int .i64) = (payL (cs.take k) (ls.take k) p).map (Value.int .i64) ++ [.int .i64 ((cs[k] - ls[k]) * p)] := by
  unfold payL
  rw [List.take_succ_eq_append_getElem h1, List.take_succ_eq_append_getElem h2, List.zipWith_append (by rw [List.length_take, List.length_take]; omega), List.map_append]
  rfl
theorem payL_sum {cs ls : List Int} (p : Int) (h : ls.length = cs.length) : Fl.sumI (payL cs ls p) = (Fl.sumI cs - Fl.sumI ls) * p := by
  induction cs generalizing ls with
  | nil => cases ls with
    | nil => simp [payL, Fl.sumI]
    | cons => simp at h
  | cons c r ih => cases ls with
    | nil => simp at h
    | cons l t =>
      have := ih (ls := t) (by simpa using h)
      unfold payL at this ⊢
      rw [List.zipWith_cons_cons, Fl.sumI_cons, Fl.sumI_cons, Fl.sumI_cons, this, ← Int.add_mul]
      congr 1
      omega
theorem payR_bound {cs ls : List Int} {p : Int} (h : payOk cs ls p) : ∀ x ∈ payL cs ls p, -10000000 ≤ x ∧ x ≤ 10000000 := by
  obtain ⟨h1, h2, h3, h4, h5⟩ := h
  have hc := (okC_iff.1 h1).2.2
  have hl := okL_iff.1 h3
  intro x hx
  unfold payL at hx
  obtain ⟨i, hi, rfl⟩ := List.mem_iff_getElem.1 hx
  rw [List.length_zipWith] at hi
  rw [List.getElem_zipWith]
  have a := hc _ (List.getElem_mem (show i < cs.length by omega))
  have b := hl _ (List.getElem_mem (show i < ls.length by omega))
  generalize cs[i]'(by omega) = c at a
  generalize ls[i]'(by omega) = l at b
  have m1 : (c - l) * p ≤ 1000 * p := Int.mul_le_mul_of_nonneg_right (by omega) h4
  have m2 : (-10000) * p ≤ (c - l) * p := Int.mul_le_mul_of_nonneg_right (by omega) h4
  omega
end Cl
set_option maxRecDepth 100000 in
set_option maxHeartbeats 2000000 in
theorem pay_any (cs ls : List Int) (p : Int) (aoC : Option Addr) (nC capC : Nat) (aoL : Option Addr) (nL capL : Nat) (w : World) (hC : Ints w aoC cs) (hL : Ints w aoL ls) (hlc : nC = cs.length) (hll : nL = ls.length) (hb1 : nC ≤ 100000) (hb2 : nL ≤ 100000) :
    Calls Try.prog 48 #[.slice aoC nC capC, .slice aoL nL capL, .int .i64 p] w fun e w' => ∃ ao cap, e = .returned (.tuple #[.slice ao (Cl.payR cs ls p).length cap, .int .i64 (Cl.payC cs ls p)]) ∧ Ints w' ao (Cl.payR cs ls p) ∧ Below w.heap.size w w' := by
  obtain ⟨i0, hi0, hz0, hz1, hz2⟩ := info_in
  have HIC := Lib.hid hC
  have HIL := Lib.hid hL
  have Hc := Lib.hid hlc
  have Hl := Lib.hid hll
  have Hno : Hid (¬ Cl.payOk cs ls p → Cl.payC cs ls p = 1 ∧ Cl.payR cs ls p = []) := Lib.hid Cl.pay_no
  have Hyes : Hid (Cl.payOk cs ls p → Cl.payC cs ls p = 0 ∧ Cl.payR cs ls p = Cl.payL cs ls p) := Lib.hid Cl.pay_ok
  generalize hRR : Cl.payR cs ls p = R at Hno Hyes ⊢
  generalize hCC : Cl.payC cs ls p = C at Hno Hyes ⊢
  clear hRR hCC hlc hll hC hL
  go_enter Try.func48, Try.ntmps48
  go_wp2_with fail
  refine (areClaims_any cs aoC nC capC w HIC.out Hc.out hb1).mono ?_
  rintro e w1 ⟨rfl, hB⟩
  obtain ⟨v, hv⟩ : ∃ v, v = Cl.okC cs := ⟨_, rfl⟩
  rw [← hv]
  have Hv := Lib.hid hv
  clear hv
  cases v
  · have Hr := Lib.hid (Hno.out (fun h => by have := Hv.out; rw [h.1] at this; cases this))
    go_wp2_with fail
    go_ret2
    exact ⟨none, 0, by rw [Hr.out.1, Hr.out.2]; rfl, by rw [Hr.out.2]; exact ⟨fun h => by cases h⟩, hB⟩
  · by_cases hne : nL = nC
    · have e1 : ((nL : Int) != (nC : Int)) = false := by rw [hne]; simp
      have Hne := Lib.hid hne
      clear hne
      go_wp2_with fail
      refine (areFrom_any 10000 ls aoL nL capL w1 (HIL.out.below hB) Hl.out hb2).mono ?_
      rintro e w2 ⟨rfl, hb2⟩
      replace hB := hB.trans (hb2.mono hB.size)
      clear hb2
      obtain ⟨v, hv⟩ : ∃ v, v = Cl.okL 10000 ls := ⟨_, rfl⟩
      rw [← hv]
      have Hv2 := Lib.hid hv
      clear hv
      cases v
      · have Hr := Lib.hid (Hno.out (fun h => by have := Hv2.out; rw [h.2.2.1] at this; cases this))
        go_wp2_with fail
        go_ret2
        exact ⟨none, 0, by rw [Hr.out.1, Hr.out.2]; rfl, by rw [Hr.out.2]; exact ⟨fun h => by cases h⟩, hB⟩
      · by_cases hp0 : p < 0
        · have Hr := Lib.hid (Hno.out (fun h => by have := h.2.2.2.1; omega))
          go_wp2_with fail
          go_ret2
          exact ⟨none, 0, by rw [Hr.out.1, Hr.out.2]; rfl, by rw [Hr.out.2]; exact ⟨fun h => by cases h⟩, hB⟩
        · by_cases hp1 : p > 1000
          · have Hr := Lib.hid (Hno.out (fun h => by have := h.2.2.2.2; omega))
            go_wp2_with fail
            go_ret2
            exact ⟨none, 0, by rw [Hr.out.1, Hr.out.2]; rfl, by rw [Hr.out.2]; exact ⟨fun h => by cases h⟩, hB⟩
          · have hok : Cl.payOk cs ls p := ⟨Hv.out.symm, by have := Hne.out; have := Hc.out; have := Hl.out; omega, Hv2.out.symm, by omega, by omega⟩
            have Hok := Lib.hid hok
            have Hr := Lib.hid (Hyes.out hok)
            have hcb := Lib.hid (Cl.okC_iff.1 hok.1)
            have hlb := Lib.hid (Cl.okL_iff.1 hok.2.2.1)
            have hn8 : nC ≤ 8 := by have := hcb.out; have := Hc.out; omega
            clear hok
            have hpb : 0 ≤ p ∧ p ≤ 1000 := by omega
            clear e1
            go_wp2_with fail
            go_loopw [8, 9, 10, 36] (fun v _ _ i wr => ∃ k : Nat, k ≤ nC ∧ i = .int .i64 k ∧ Hid (wr.ownsRow w.heap.size 3 1 v k ((Cl.payL (cs.take k) (ls.take k) p).map (Value.int .i64))) ∧ Below w.heap.size w wr) (fun _ _ _ i _ => nC - (intOf i).toNat)
            case atStart => exact ⟨0, Nat.zero_le _, rfl, Lib.hid ⟨rfl, .inl ⟨rfl, rfl⟩⟩, hB⟩
            case round =>
              clear hB
              obtain ⟨k, hk, rfl, hown, hB⟩ := hrel
              by_cases hlt : k < nC
              · have hkc : k < cs.length := by have := Hc.out; omega
                have hkl : k < ls.length := by have := Hl.out; have := Hne.out; omega
                obtain ⟨b, off, rfl, hbs, hcx⟩ := (HIC.out.below hB).at hkc
                obtain ⟨b2, off2, rfl, hbs2, hcx2⟩ := (HIL.out.below hB).at hkl
                rw [show cs.getD k 0 = cs[k] by rw [List.getD_eq_getElem?_getD, List.getElem?_eq_getElem hkc]; rfl] at hcx
                rw [show ls.getD k 0 = ls[k] by rw [List.getD_eq_getElem?_getD, List.getElem?_eq_getElem hkl]; rfl] at hcx2
                have hxb := hcb.out.2.2 _ (List.getElem_mem hkc)
                have hyb := hlb.out _ (List.getElem_mem hkl)
                have hst := Cl.payL_take p hkc hkl
                generalize cs[k] = x at hcx hxb hst
                generalize ls[k] = y at hcx2 hyb hst
                have Hst := Lib.hid hst
                clear hst
                have i1 : (k : Int) < (nC : Int) := by omega
                have i2 : (k : Int) < (nL : Int) := by have := Hne.out; omega
                have m1 : (x - y) * p ≤ 1000 * p := Int.mul_le_mul_of_nonneg_right (by omega) hpb.1
                have m2 : (-10000) * p ≤ (x - y) * p := Int.mul_le_mul_of_nonneg_right (by omega) hpb.1
                have e2 : IntKind.i64.wrap (x - y) = x - y := IntWalk.i64_in _ (by omega)
                obtain ⟨P, hP⟩ : ∃ P, P = (x - y) * p := ⟨_, rfl⟩
                rw [← hP] at m1 m2
                have e3 : IntKind.i64.wrap ((x - y) * p) = P := by rw [hP]; exact IntWalk.i64_in _ (by omega)
                rw [← hP] at Hst
                clear hP m1 m2
                have hsz := hB.size
                go_wp2_with (at_builtin; refine wpList_append_own _ rfl _ _ 22 rfl w.heap.size 3 i0 _ 1 8 Try.underlying22 hi0 hz0 hz1 hz2 rfl (by decide) _ k _ rfl (hown.out.alloc _) ⟨wr.heap.size, 0, none⟩ 1 1 [.int .i64 P] rfl rfl (World.news_of_block (cs := #[.int .i64 P]) (t := 3) (fr := (0, 0)) (heap_alloc_new wr _)) (by simp [Value.oneCell']) (by unfold maxLen; omega) (by omega) (by simp; omega) ?_; intro v' w3 hown3 hgrow3 hnil3; have hb5 : Below w.heap.size w w3 := (hB.alloc hB.size _).grown hgrow3 (by have := hB.size; simp; omega) (fun q hq => (hown.out.lt _ hq).1); clear hgrow3 hnil3)
                go_roundw
                case rel => exact ⟨k + 1, by omega, by go_num, Lib.hid (by rw [Hst.out]; exact hown3), hb5⟩
                case measure => simp [intOf]; omega
              · have hkn : k = nC := by omega
                have Ho : Hid (wr.ownsRow w.heap.size 3 1 u8 nC (R.map (Value.int .i64)) ∧ nC = R.length) := Lib.hid (by
                  have h1 := hown.out
                  rw [hkn, Hc.out, List.take_length, ← Hok.out.2.1, List.take_length, Hok.out.2.1] at h1
                  rw [Hr.out.2, Hc.out]
                  exact ⟨h1, by unfold Cl.payL; rw [List.length_zipWith, Hok.out.2.1, Nat.min_self]⟩)
                clear hkn hown
                obtain ⟨ao, cap, rfl, -, hI⟩ := own_ints Ho.out.1 Ho.out.2
                go_wp2_with fail
                go_ret2
                exact ⟨ao, cap, by rw [Hr.out.1, ← Ho.out.2]; rfl, hI, hB⟩
    · have e1 : ((nL : Int) != (nC : Int)) = true := by simp; omega
      have Hr := Lib.hid (Hno.out (fun h => hne (by have := h.2.1; have := Hc.out; have := Hl.out; omega)))
      go_wp2_with fail
      go_ret2
      exact ⟨none, 0, by rw [Hr.out.1, Hr.out.2]; rfl, by rw [Hr.out.2]; exact ⟨fun h => by cases h⟩, hB⟩
end Go.Proofs.Yteecfdjphjkdkaa
