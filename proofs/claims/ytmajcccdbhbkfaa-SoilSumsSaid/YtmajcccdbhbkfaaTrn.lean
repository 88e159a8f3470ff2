import Derived.Test.YtmajcccdbhbkfaaRvz
namespace Go.Proofs.Ytmajcccdbhbkfaa
open Go.RowKit

theorem swap_zero {l : List (Int × Int)} {n : Nat} (hn : n = l.length) {cur : Array Value} (h : cur.toList.take (n * 2) = flat2 l) : SwapRow l n 0 cur := by
  intro i hi
  have hil : i < l.length := by omega
  obtain ⟨h1, h2⟩ := flat2_at hil
  rw [← h, List.getElem?_take, if_pos (by omega)] at h1 h2
  have e : swapAt l n 0 i = l[i] := by unfold swapAt; rw [if_neg (by omega), List.getD_eq_getElem?_getD, List.getElem?_eq_getElem hil]; rfl
  rw [e]
  exact ⟨by simpa using h1, by simpa using h2⟩

/-- A list of zones that a call hands back: with the code 0, in memory of its own; else nil. -/
def FieldMade (w : World) (v : Value) (c : Int) (L : List (Int × Int)) : Prop :=
  ∃ ao cap, v = .slice ao (if c = 0 then L else []).length cap ∧ (if c = 0 then L else []).length ≤ cap ∧ Pts w ao (if c = 0 then L else [])
theorem FieldMade.below {w w' : World} {v : Value} {c : Int} {L : List (Int × Int)} (h : FieldMade w v c L) (hb : Below w.heap.size w w') : FieldMade w' v c L := by
  obtain ⟨ao, cap, e, h1, h2⟩ := h
  exact ⟨ao, cap, e, h1, h2.below hb⟩
theorem fieldMade_ok {w : World} {ao : Option Addr} {cap n : Nat} {L : List (Int × Int)} (hn : n = L.length) (hc : n ≤ cap) (hp : Pts w ao L) : FieldMade w (.slice ao n cap) 0 L :=
  ⟨ao, cap, by rw [if_pos rfl, hn], by rw [if_pos rfl, ← hn]; exact hc, by rw [if_pos rfl]; exact hp⟩
theorem fieldMade_no {w : World} {c : Int} (hc : c ≠ 0) {L : List (Int × Int)} : FieldMade w (.slice none 0 0) c L :=
  ⟨none, 0, by rw [if_neg hc]; rfl, by rw [if_neg hc]; exact Nat.le_refl _, by rw [if_neg hc]; exact ⟨fun h => absurd h (by simp)⟩⟩

set_option maxRecDepth 100000 in
set_option maxHeartbeats 2000000 in
theorem Turn_any (l : List (Int × Int)) (ao : Option Addr) (n cap : Nat) (w : World) (hp : Pts w ao l) (hln : n = l.length) (hn : n ≤ 100000) :
    Calls Try.prog 39 #[.slice ao n cap] w fun e w' => (∃ v, e = .returned (.tuple #[v, .int .i64 (Fl.validate l)]) ∧ FieldMade w' v (Fl.validate l) l.reverse) ∧ Below w.heap.size w w' := by
  have Hn := Lib.hid hln
  clear hln
  obtain ⟨C, hC⟩ : ∃ c, Fl.validate l = c := ⟨_, rfl⟩
  rw [hC]
  have hC0 : C = 0 ∨ (C != 0) = true := by by_cases h : C = 0 <;> simp [h]
  have HC := Lib.hid hC
  clear hC
  have hB := Below.refl w.heap.size w
  go_enter Try.func39, Try.ntmps39
  go_wp2_with fail
  refine (validate_any l _ _ _ _ hp Hn.out hn).mono ?_
  rintro e w1 ⟨rfl, hbb⟩
  replace hp := hp.below hbb
  replace hB := hB.trans (hbb.mono hB.size)
  clear hbb
  rw [HC.out]
  rcases hC0 with rfl | hC0
  · have h1 := (Fl.validate_ok.1 HC.out).1.1
    have hn1 : 0 < n := by have := Hn.out; omega
    go_wp2_with fail
    refine (cloneZ_any l _ _ _ _ hp Hn.out hn).mono ?_
    rintro e w2 ⟨v, rfl, hown, hb2⟩
    have hs1 := hB.size
    rcases hown.2 with ⟨-, h0⟩ | ⟨g, cp, cur, rfl, hg0, hg, hnc, -, -, htk⟩
    · omega
    have hB2 := hB.trans (hb2.mono hB.size)
    have hsw := Lib.hid (swap_zero Hn.out htk)
    clear hown htk hb2 hB hp
    go_wp2_with fail
    refine (reverseZ_any l g n cp cur _ hg Hn.out hn hnc hsw.out).mono ?_
    rintro e w3 ⟨rfl, hp3, hb3⟩
    have hB3 := hB2.trans (hb3.mono (show w.heap.size ≤ g by omega))
    have HP := Lib.hid hp3
    clear hp3 hb3 hB2 hg hsw
    go_wp2
    go_ret2
    exact ⟨⟨_, rfl, fieldMade_ok (by rw [List.length_reverse]; exact Hn.out) hnc HP.out⟩, hB3⟩
  · go_wp2
    go_ret2
    exact ⟨⟨_, rfl, fieldMade_no (code_ne hC0)⟩, hB⟩
end Go.Proofs.Ytmajcccdbhbkfaa
