import Derived.Test.YteecfdjphjkdkaaFs
import Derived.Test.YteecfdjphjkdkaaFo
namespace Go.Proofs.Yteecfdjphjkdkaa
open Go.RowKit
namespace Cl
def wDown (L : List Int) (E : Int) : List Int := L.map fun c => c * E / max 1 (Fl.sumI L)
def wRest (L : List Int) (E : Int) : List Int := L.map fun c => c * E % max 1 (Fl.sumI L)
end Cl
/-- Two rows of one's own that lie apart. -/
def Apt (v u : Value) : Prop := v.ownBlock = none ∨ v.ownBlock ≠ u.ownBlock
theorem Apt.symm {v u : Value} (h : Apt v u) : Apt u v := by
  unfold Apt at h ⊢
  rcases h with h | h
  · rw [h]; cases u.ownBlock <;> simp
  · exact .inr fun e => h e.symm
theorem Apt.next {v u : Value} {g H : Nat} (h : Apt v u) (hat : v.ownBlock = some g ∨ g = H) (hu : ∀ q, u.ownBlock = some q → q < H) (n cap : Nat) : Apt (.slice (some ⟨g, 0, none⟩) n cap) u := by
  right
  intro e
  have e1 : some g = u.ownBlock := e
  rcases hat with hat | rfl
  · rcases h with h | h
    · rw [h] at hat; cases hat
    · exact h (by rw [hat, e1])
  · have := hu g e1.symm; omega
theorem Apt.nil (u : Value) : Apt (.slice none 0 0) u := .inl rfl
theorem Apt.grow {w w' : World} {v u : Value} {base size n : Nat} {e : TypeId} {xs : List Value} (h : Apt v u) (hu : w.ownsRow base e size u n xs) (hg : w.grownBy w' v.ownBlock) : w'.ownsRow base e size u n xs := hu.kept hg h.symm
theorem tint_take (f : Int → Int) (L : List Int) (k : Nat) (hk : k < L.length) : ((L.take (k + 1)).map f).map (Value.int .i64) = ((L.take k).map f).map (Value.int .i64) ++ [.int .i64 (f L[k])] := by
  rw [List.take_succ_eq_append_getElem hk, List.map_append, List.map_append]
  rfl
set_option maxRecDepth 100000 in
set_option maxHeartbeats 1000000 in
theorem parts_any (L : List Int) (E : Int) (ao : Option Addr) (n cap : Nat) (w : World) (hI : Ints w ao L) (hln : n = L.length) (hok : Cl.okC L = true) (h0 : 0 ≤ E) (h1 : E ≤ Fl.sumI L) :
    Calls Try.prog 73 #[.slice ao n cap, .int .i64 E] w fun e w' => ∃ v u, e = .returned (.tuple #[v, u]) ∧ w'.ownsRow w.heap.size 3 1 v n ((Cl.wDown L E).map (Value.int .i64)) ∧ w'.ownsRow w.heap.size 3 1 u n ((Cl.wRest L E).map (Value.int .i64)) ∧ Apt v u ∧ Below w.heap.size w w' := by
  obtain ⟨i0, hi0, hz0, hz1, hz2⟩ := info_in
  have HI0 := Lib.hid hI
  have Hn := Lib.hid hln
  have HC := Lib.hid (Cl.okC_iff.1 hok)
  have hn8 : n ≤ 8 := by have := HC.out; omega
  have hS8 : 0 ≤ Fl.sumI L ∧ Fl.sumI L ≤ 8000 := by
    have h := Cl.sum_small (B := 1000) (by omega) (l := L) (fun x hx => by have := HC.out.2.2 x hx; omega)
    have h2 := Cl.sum_nonneg (l := L) (fun x hx => by have := HC.out.2.2 x hx; omega)
    have := HC.out; omega
  have hE : 0 ≤ E ∧ E ≤ 8000 := by omega
  clear hln hok h0 h1
  obtain ⟨M, hM⟩ : ∃ M, M = max 1 (Fl.sumI L) := ⟨_, rfl⟩
  have hMb : 1 ≤ M ∧ M ≤ 8000 := by omega
  have HM := Lib.hid hM
  clear hM
  go_enter Try.func73, Try.ntmps73
  go_upto_region 1 with fail
  go_cut [6] from 9 to 11 (fun s6 wx => s6 = .int .i64 M ∧ wx = w)
  case first =>
    go_wp2_with fail
    refine (sum_any L ao n cap w hI Hn.out (by omega) (fun x hx => by have := HC.out.2.2 x hx; omega)).mono ?_
    rintro e w1 ⟨rfl, hw0⟩; obtain rfl := hw0.symm
    by_cases hS1 : 1 < Fl.sumI L
    · have hSm : Fl.sumI L = M := by have := HM.out; omega
      rw [hSm] at hS1 ⊢
      clear hSm hS8
      go_wp2_with fail
      all_goals go_meet
      all_goals first | exact ⟨rfl, rfl⟩ | (exfalso; omega)
    · have hSm : (1 : Int) = M := by have := HM.out; omega
      go_wp2_with fail
      all_goals go_meet
      all_goals first | exact ⟨by rw [← hSm], rfl⟩ | exact ⟨congrArg _ hSm, rfl⟩
  case rest =>
    obtain ⟨rfl, rfl⟩ := hcut
    go_wp2_with fail
    go_loopw [4, 5, 8, 14] (fun v u _ i wr => ∃ k : Nat, k ≤ n ∧ i = .int .i64 k ∧ Hid (wr.ownsRow wc.heap.size 3 1 v k (((L.take k).map fun c => c * E / M).map (Value.int .i64))) ∧ Hid (wr.ownsRow wc.heap.size 3 1 u k (((L.take k).map fun c => c * E % M).map (Value.int .i64))) ∧ Hid (Apt v u) ∧ Below wc.heap.size wc wr) (fun _ _ _ i _ => n - (intOf i).toNat)
    case atStart => exact ⟨0, Nat.zero_le _, rfl, Lib.hid ⟨rfl, .inl ⟨rfl, rfl⟩⟩, Lib.hid ⟨rfl, .inl ⟨rfl, rfl⟩⟩, Lib.hid (Apt.nil _), Below.refl _ _⟩
    case round =>
      obtain ⟨k, hk, rfl, hown, hown2, hap, hB⟩ := hrel
      by_cases hlt : k < n
      · have hkl : k < L.length := by have := Hn.out; omega
        obtain ⟨b, off, rfl, hbs, hcx⟩ := (HI0.out.below hB).at hkl
        have hxe : L.getD k 0 = L[k] := by rw [List.getD_eq_getElem?_getD, List.getElem?_eq_getElem hkl]; rfl
        rw [hxe] at hcx
        have hxb : 0 ≤ L[k] ∧ L[k] ≤ 1000 := HC.out.2.2 _ (List.getElem_mem hkl)
        have hst1 := tint_take (fun c => c * E / M) L k hkl
        have hst2 := tint_take (fun c => c * E % M) L k hkl
        generalize L[k] = x at hcx hxb hst1 hst2
        have i1 : (k : Int) < (n : Int) := by omega
        obtain ⟨P, hP⟩ : ∃ P, P = x * E := ⟨_, rfl⟩
        have hPb : 0 ≤ P ∧ P ≤ 8000000 := by
          have p1 : 0 ≤ x * E := Int.mul_nonneg hxb.1 hE.1
          have p2 : x * E ≤ 1000 * 8000 := Int.mul_le_mul hxb.2 hE.2 hE.1 (by omega)
          omega
        have e1 : IntKind.i64.wrap (x * E) = P := by rw [← hP]; exact IntWalk.i64_in _ (by omega)
        simp only [← hP] at hst1 hst2
        have HH := Lib.hid (And.intro hst1 hst2)
        clear hst1 hst2 hP
        have hsz := hB.size
        go_wp2_with (first
          | (at_builtin; refine wpList_append_lies _ rfl _ _ 22 rfl wc.heap.size 3 i0 _ 1 8 Try.underlying22 hi0 hz0 hz1 hz2 rfl (by decide) _ k _ rfl (hown.out.alloc _) ⟨wr.heap.size, 0, none⟩ 1 1 [.int .i64 (P / M)] rfl rfl (World.news_of_block (cs := #[.int .i64 (P / M)]) (t := 3) (fr := (0, 0)) (heap_alloc_new wr _)) (by simp [Value.oneCell']) (by decide) (by unfold maxLen; omega) (by omega) (by simp; omega) (wr.heap.size + 1) (by simp) ?_; intro g1 cap1 w1 hown1 hgrow hat hlt5; have ho2 := Lib.hid (hap.out.grow (hown2.out.alloc _) hgrow); have hap1 := Lib.hid (hap.out.next hat (fun q hq => by have := (hown2.out.lt q hq).2; omega) (k + 1) cap1); have hB1 : Below wc.heap.size wc w1 := (hB.alloc hB.size _).grown hgrow (by simp; omega) (fun q hq => (hown.out.lt _ hq).1); replace hown1 := Lib.hid hown1; clear hgrow hat hown hown2 hap hB)
          | (at_builtin; have hsz1 := hB1.size; refine wpList_append_lies _ rfl _ _ 22 rfl wc.heap.size 3 i0 _ 1 8 Try.underlying22 hi0 hz0 hz1 hz2 rfl (by decide) _ k _ rfl (ho2.out.alloc _) ⟨w1.heap.size, 0, none⟩ 1 1 [.int .i64 (P % M)] rfl rfl (World.news_of_block (cs := #[.int .i64 (P % M)]) (t := 3) (fr := (0, 0)) (heap_alloc_new w1 _)) (by simp [Value.oneCell']) (by decide) (by unfold maxLen; omega) (by omega) (by simp; omega) (w1.heap.size + 1) (by simp) ?_; intro g2 cap2 w2 hown2 hgrow hat hlt6; have ho1 := Lib.hid (hap1.out.symm.grow (hown1.out.alloc _) hgrow); have hap2 := Lib.hid ((hap1.out.symm.next hat (fun q hq => by have := (hown1.out.lt q hq).2; omega) (k + 1) cap2).symm); have hB2 : Below wc.heap.size wc w2 := (hB1.alloc hB1.size _).grown hgrow (by simp; omega) (fun q hq => (ho2.out.lt _ hq).1); replace hown2 := Lib.hid hown2; clear hgrow hat hown1 ho2 hap1 hB1))
        go_roundw
        case rel => exact ⟨k + 1, by omega, by go_num, Lib.hid (by rw [HH.out.1]; exact ho1.out), Lib.hid (by rw [HH.out.2]; exact hown2.out), hap2, hB2⟩
        case measure => simp [intOf]; omega
      · have hkn : k = n := by omega
        have Ho : Hid (wr.ownsRow wc.heap.size 3 1 u4 n ((Cl.wDown L E).map (Value.int .i64)) ∧ wr.ownsRow wc.heap.size 3 1 u5 n ((Cl.wRest L E).map (Value.int .i64))) := Lib.hid (by
          have h1 := hown.out
          have h2 := hown2.out
          rw [hkn, Hn.out, List.take_length] at h1 h2
          unfold Cl.wDown Cl.wRest
          rw [Hn.out, ← HM.out]
          exact ⟨h1, h2⟩)
        clear hkn
        go_wp2
        go_ret2
        exact ⟨_, _, rfl, Ho.out.1, Ho.out.2, hap.out, hB⟩
end Go.Proofs.Yteecfdjphjkdkaa
