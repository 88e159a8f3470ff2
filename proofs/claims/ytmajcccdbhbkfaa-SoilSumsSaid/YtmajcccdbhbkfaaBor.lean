import Derived.Test.YtmajcccdbhbkfaaSmo
import Derived.Test.YtmajcccdbhbkfaaPln
namespace Go.Proofs.Ytmajcccdbhbkfaa
open Go.RowKit

theorem infoBoAll : (Try.prog.info? 4).map (fun i => (i.zero, i.size, i.bytes)) = some (some (.bool false), 1, 1) := by kernel_rfl
theorem info_bo : ∃ i, Try.prog.info? 4 = some i ∧ i.zero = some (.bool false) ∧ i.size = 1 ∧ i.bytes = 1 := by
  have h := infoBoAll
  cases hi : Try.prog.info? 4 with
  | none => rw [hi] at h; cases h
  | some i =>
    rw [hi] at h
    simp only [Option.map_some, Option.some.injEq, Prod.mk.injEq] at h
    exact ⟨i, rfl, h.1, h.2.1, h.2.2⟩
/-- The marks of a zone, as far as they are made. -/
def preB : Nat → List Bool
  | 0 => []
  | j + 1 => true :: List.replicate j false
theorem preB_length (j : Nat) : (preB j).length = j := by
  match j with
  | 0 => rfl
  | j + 1 => simp [preB]
theorem preB_next (j : Nat) (hj : 1 ≤ j) : preB (j + 1) = preB j ++ [false] := by
  match j, hj with
  | j + 1, _ => simp only [preB, List.cons_append]; rw [List.replicate_succ']

set_option maxRecDepth 100000 in
set_option maxHeartbeats 2000000 in
theorem borders_any (l : List (Int × Int)) (ao : Option Addr) (n cap : Nat) (w : World) (hp : Pts w ao l) (hln : n = l.length) (hok : Fl.Ok l) (h6 : l.length ≤ 6) :
    Calls Try.prog 94 #[.slice ao n cap] w fun e w' => ∃ v, e = .returned v ∧ w'.ownsRow w.heap.size 4 1 v (Fl.bords l).length ((Fl.bords l).map Value.bool) ∧ Below w.heap.size w w' := by
  have Hn := Lib.hid hln
  have hn6 : n ≤ 6 := by omega
  obtain ⟨i0, hi0, hz0, hz1, hz2⟩ := info_bo
  clear hln
  go_enter Try.func94, Try.ntmps94
  go_wp2
  go_loopw [3, 4] (fun v i wr => ∃ k : Nat, k ≤ n ∧ i = .int .i64 k ∧ Hid (wr.ownsRow w.heap.size 4 1 v (Fl.bords (l.take k)).length ((Fl.bords (l.take k)).map Value.bool)) ∧ Below w.heap.size w wr) (fun _ i _ => n - (intOf i).toNat)
  case atStart => exact ⟨0, Nat.zero_le _, rfl, Lib.hid ⟨rfl, .inl ⟨rfl, rfl⟩⟩, Below.refl _ _⟩
  case round =>
    obtain ⟨k, hk, rfl, hown, hb⟩ := hrel
    by_cases hlt : k < n
    · obtain ⟨b, off, rfl, hbs, hc⟩ := hp.cells (by have := Hn.out; omega)
      have hkl : k < l.length := by have := Hn.out; omega
      obtain ⟨hc1, -⟩ := hc k hkl
      have hut := Fl.bords_take hkl
      have hul : (Fl.bords (l.take k)).length ≤ 120 := by
        have h1 := Fl.bords_length (ok_take hok k)
        have h2 := len_take_bound hok h6 k
        omega
      have b2 := ok_at hok hkl
      clear hc hp
      have i1 : (k : Int) < (n : Int) := by omega
      obtain ⟨U, hU⟩ : ∃ x, x = Fl.bords (l.take k) := ⟨_, rfl⟩
      obtain ⟨x, hx⟩ : ∃ x : Nat, x = (l.getD k (0, 0)).1.toNat := ⟨_, rfl⟩
      have hx1 : (l.getD k (0, 0)).1 = (x : Int) := by omega
      rw [hx1] at hc1 b2
      rw [← hx] at hut
      rw [← hU] at hown hut hul
      have hut2 : Hid (Fl.bords (l.take (k + 1)) = U ++ preB x) := Lib.hid (by
        rw [hut]
        match x, b2 with
        | 0, b2 => omega
        | x + 1, _ => rfl)
      clear hx hU hx1 hut
      have hx20 : x ≤ 20 := by omega
      obtain ⟨wo, rfl⟩ : ∃ wo : World, wo = wr := ⟨_, rfl⟩
      go_wp2
      go_loopw [3, 5] (fun v j wr => ∃ m : Nat, m ≤ x ∧ j = .int .i64 m ∧ Hid (wr.ownsRow w.heap.size 4 1 v (U.length + m) ((U ++ preB m).map Value.bool)) ∧ Below w.heap.size w wr) (fun _ j _ => x - (intOf j).toNat)
      case atStart => exact ⟨0, Nat.zero_le _, rfl, Lib.hid (by simpa [preB] using hown.out), hb⟩
      case round =>
        obtain ⟨m, hm, rfl, hown2, hb2⟩ := hrel
        have hd1 : wr.cell? ⟨b, off + k * 2, none⟩ = some (.int .i64 x) := (hb2.cell (p := ⟨b, _, none⟩) hbs).trans hc1
        have hs := hb2.size
        clear hown
        by_cases hmx : m < x
        · have i2 : (m : Int) < (x : Int) := by omega
          clear hc1
          by_cases hm0 : m = 0
          · subst hm0
            go_wp2_with (first | (at_builtin; refine wpList_append_own _ rfl _ _ 106 rfl w.heap.size 4 i0 (.bool false) 1 1 Try.underlying106 hi0 hz0 hz1 hz2 rfl (by decide) _ (U.length + 0) _ rfl (hown2.out.alloc _) ⟨wr.heap.size, 0, none⟩ 1 1 [.bool true] rfl rfl (World.news_of_block (cs := #[.bool true]) (t := 4) (fr := (0, 0)) (heap_alloc_new wr _)) (by simp [Value.oneCell']) (by unfold maxLen; omega) (by omega) (by simp; omega) ?_; intro v' w3 hown3 hgrow3 hnil3; have hb5 : Below w.heap.size w w3 := (hb2.alloc hs _).grown hgrow3 (by simp; omega) (fun q hq => (hown2.out.lt _ hq).1); clear hgrow3 hnil3))
            go_roundw
            case rel => exact ⟨1, by omega, by go_num, Lib.hid (by simpa [preB] using hown3), hb5⟩
            case measure => simp [intOf]; omega
          · have hm1 : ((m : Int) == 0) = false := by simp; omega
            have hpn := Lib.hid (preB_next m (by omega))
            clear hm0
            go_wp2_with (first | (at_builtin; refine wpList_append_own _ rfl _ _ 106 rfl w.heap.size 4 i0 (.bool false) 1 1 Try.underlying106 hi0 hz0 hz1 hz2 rfl (by decide) _ (U.length + m) _ rfl (hown2.out.alloc _) ⟨wr.heap.size, 0, none⟩ 1 1 [.bool false] rfl rfl (World.news_of_block (cs := #[.bool false]) (t := 4) (fr := (0, 0)) (heap_alloc_new wr _)) (by simp [Value.oneCell']) (by unfold maxLen; omega) (by omega) (by simp; omega) ?_; intro v' w3 hown3 hgrow3 hnil3; have hb5 : Below w.heap.size w w3 := (hb2.alloc hs _).grown hgrow3 (by simp; omega) (fun q hq => (hown2.out.lt _ hq).1); clear hgrow3 hnil3))
            go_roundw
            case rel => exact ⟨m + 1, by omega, by go_num, Lib.hid (by rw [hpn.out, ← List.append_assoc, List.map_append]; exact hown3), hb5⟩
            case measure => simp [intOf]; omega
        · have hm2 : m = x := by omega
          have Hm := Lib.hid hm2
          clear hm2 hc1
          go_wp2
          go_roundw
          case rel =>
            refine ⟨k + 1, by omega, by go_num, Lib.hid ?_, hb2⟩
            rw [hut2.out, List.length_append, preB_length, ← Hm.out]
            exact hown2.out
          case measure => simp [intOf]; omega
    · have hk2 : k = n := by omega
      have ho := hown.out
      rw [hk2, Hn.out, List.take_length] at ho
      have Ho := Lib.hid ho
      clear ho hown hk2
      go_wp2
      go_ret
      exact ⟨_, rfl, Ho.out, hb⟩
end Go.Proofs.Ytmajcccdbhbkfaa
