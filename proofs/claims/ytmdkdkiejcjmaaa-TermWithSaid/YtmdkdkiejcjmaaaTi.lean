import Derived.Test.YtmdkdkiejcjmaaaTh
/- Package term: which calendars, days and terms are right. -/
namespace Go.Proofs.Ytmdkdkiejcjmaaa
open Go.RowKit
namespace Tm
def upTo (g : Int) (l : List Int) : Bool := l.all fun x => decide (0 ≤ x) && decide (x ≤ g)
def days : Int → List Int → Bool
  | _, [] => true
  | m, x :: r => decide (m ≤ x) && (decide (x ≤ 10000) && days (x + 1) r)
def spans : Int → List (Int × Int) → Bool
  | _, [] => true
  | m, s :: r => decide (m ≤ s.1) && (decide (s.1 ≤ s.2) && (decide (s.2 ≤ 10000) && spans (s.2 + 1) r))
/-- Why a calendar is none. -/
def vcode (f : Int) (F : List Int) (S : List (Int × Int)) : Int :=
  if ¬(0 ≤ f ∧ f ≤ 6) then 1 else if 12 < F.length ∨ 4 < S.length then 3 else if days 0 F && spans 0 S then 0 else 1
theorem days_mem {m : Int} {l : List Int} (h : days m l = true) : ∀ x ∈ l, m ≤ x ∧ x ≤ 10000 := by
  induction l generalizing m with
  | nil => intro x hx; cases hx
  | cons y r ih =>
    unfold days at h
    simp only [Bool.and_eq_true, decide_eq_true_eq] at h
    intro x hx
    rcases List.mem_cons.1 hx with rfl | hx
    · exact ⟨h.1, h.2.1⟩
    · have := ih h.2.2 x hx; omega
theorem spans_mem {m : Int} {l : List (Int × Int)} (h : spans m l = true) : ∀ s ∈ l, m ≤ s.1 ∧ s.1 ≤ s.2 ∧ s.2 ≤ 10000 := by
  induction l generalizing m with
  | nil => intro x hx; cases hx
  | cons y r ih =>
    unfold spans at h
    simp only [Bool.and_eq_true, decide_eq_true_eq] at h
    intro x hx
    rcases List.mem_cons.1 hx with rfl | hx
    · exact ⟨h.1, h.2.1, h.2.2.1⟩
    · have := ih h.2.2.2 x hx; omega
theorem vcode_ok {f : Int} {F : List Int} {S : List (Int × Int)} (h : vcode f F S = 0) : Ok 10000 f F S ∧ F.length ≤ 12 ∧ S.length ≤ 4 := by
  unfold vcode at h
  split at h
  · cases h
  · rename_i h1
    split at h
    · cases h
    · rename_i h2
      split at h
      · rename_i h3
        rw [Bool.and_eq_true] at h3
        exact ⟨⟨by omega, fun x hx => by have := days_mem h3.1 x hx; omega, fun s hs => by have := spans_mem h3.2 s hs; omega⟩, by omega, by omega⟩
      · cases h
theorem days_drop {l : List Int} {k : Nat} (hk : k < l.length) (m : Int) : days m (l.drop k) = (decide (m ≤ l.getD k 0) && (decide (l.getD k 0 ≤ 10000) && days (l.getD k 0 + 1) (l.drop (k + 1)))) := by
  rw [List.drop_eq_getElem_cons hk, List.getD_eq_getElem?_getD, List.getElem?_eq_getElem hk]; rfl
theorem spans_drop {l : List (Int × Int)} {k : Nat} (hk : k < l.length) (m : Int) : spans m (l.drop k) = (decide (m ≤ (l.getD k (0, 0)).1) && (decide ((l.getD k (0, 0)).1 ≤ (l.getD k (0, 0)).2) && (decide ((l.getD k (0, 0)).2 ≤ 10000) && spans ((l.getD k (0, 0)).2 + 1) (l.drop (k + 1))))) := by
  rw [List.drop_eq_getElem_cons hk, List.getD_eq_getElem?_getD, List.getElem?_eq_getElem hk]; rfl
end Tm

set_option maxRecDepth 100000 in
set_option maxHeartbeats 4000000 in
theorem areDays_any (l : List Int) (ao : Option Addr) (n cap : Nat) (w : World) (hI : Ints w ao l) (hn : n = l.length) (hn9 : n ≤ 100000) :
    Calls Try.prog 63 #[.slice ao n cap] w fun e w' => e = .returned (.bool (Tm.days 0 l)) ∧ w' = w := by
  have Hn := Lib.hid hn
  clear hn
  obtain ⟨R, hR⟩ : ∃ r, r = Tm.days 0 l := ⟨_, rfl⟩
  rw [← hR]
  have HR := Lib.hid hR
  clear hR
  go_enter Try.func63, Try.ntmps63
  go_wp2
  go_loop [3, 5, 8] (fun m _ i => ∃ k : Nat, ∃ z : Int, k ≤ n ∧ i = .int .i64 k ∧ m = .int .i64 z ∧ 0 ≤ z ∧ z ≤ 10001 ∧ Hid (R = Tm.days z (l.drop k))) (fun _ _ i => n - (intOf i).toNat)
  case atStart => exact ⟨0, 0, Nat.zero_le _, rfl, rfl, by omega, by omega, HR⟩
  case round =>
    obtain ⟨k, z, hk, rfl, rfl, hz0, hz1, HK⟩ := hrel
    by_cases hlt : k < n
    · have hkl : k < l.length := by have := Hn.out; omega
      obtain ⟨b, off, rfl, hbs, z0⟩ := hI.at hkl
      have hst := Lib.hid (Tm.days_drop hkl z)
      obtain ⟨x, hx⟩ : ∃ x, x = l.getD k 0 := ⟨_, rfl⟩
      rw [← hx] at z0 hst
      clear hx
      have i1 : (k : Int) < (n : Int) := by omega
      by_cases h1 : z ≤ x
      · by_cases h2 : x ≤ 10000
        · have hr : Hid (R = Tm.days (x + 1) (l.drop (k + 1))) := Lib.hid (by rw [HK.out, hst.out, decide_eq_true h1, decide_eq_true h2]; rfl)
          clear hst HK
          go_wp2
          go_round
          case rel => exact ⟨k + 1, x + 1, by omega, by go_num, by go_num, by omega, by omega, hr⟩
          case measure => simp [intOf]; omega
        · have hr : Hid (R = false) := Lib.hid (by rw [HK.out, hst.out, decide_eq_false h2, Bool.false_and, Bool.and_false])
          clear hst HK
          go_wp2
          go_ret
          exact ⟨ret_bool hr.out.symm, rfl⟩
      · have hr : Hid (R = false) := Lib.hid (by rw [HK.out, hst.out, decide_eq_false h1, Bool.false_and])
        clear hst HK
        go_wp2
        go_ret
        exact ⟨ret_bool hr.out.symm, rfl⟩
    · have hr : Hid (R = true) := Lib.hid (by rw [HK.out, List.drop_eq_nil_of_le (by have := Hn.out; omega)]; rfl)
      go_wp2
      go_ret
      exact ⟨ret_bool hr.out.symm, rfl⟩

set_option maxRecDepth 100000 in
set_option maxHeartbeats 4000000 in
theorem areSpans_any (l : List (Int × Int)) (ao : Option Addr) (n cap : Nat) (w : World) (hI : Pts w ao l) (hn : n = l.length) (hn9 : n ≤ 100000) :
    Calls Try.prog 64 #[.slice ao n cap] w fun e w' => e = .returned (.bool (Tm.spans 0 l)) ∧ Below w.heap.size w w' := by
  have Hn := Lib.hid hn
  clear hn
  obtain ⟨R, hR⟩ : ∃ r, r = Tm.spans 0 l := ⟨_, rfl⟩
  rw [← hR]
  have HR := Lib.hid hR
  clear hR
  go_enter Try.func64, Try.ntmps64
  go_wp2
  go_loopw [3, 8] (fun m i wr => ∃ k : Nat, ∃ z : Int, k ≤ n ∧ i = .int .i64 k ∧ m = .int .i64 z ∧ 0 ≤ z ∧ z ≤ 10001 ∧ Hid (R = Tm.spans z (l.drop k)) ∧ Below w.heap.size w wr) (fun _ i _ => n - (intOf i).toNat)
  case atStart => exact ⟨0, 0, Nat.zero_le _, rfl, rfl, by omega, by omega, HR, Below.refl _ _⟩
  case round =>
    obtain ⟨k, z, hk, rfl, rfl, hz0, hz1, HK, hb⟩ := hrel
    by_cases hlt : k < n
    · have hkl : k < l.length := by have := Hn.out; omega
      obtain ⟨b, off, rfl, hbs, hcc⟩ := (hI.below hb).cells (by omega)
      obtain ⟨z0, z1⟩ := hcc k hkl
      have hst := Lib.hid (Tm.spans_drop hkl z)
      obtain ⟨s, hs⟩ : ∃ s, s = l.getD k (0, 0) := ⟨_, rfl⟩
      rw [← hs] at z0 z1 hst
      obtain ⟨x, y⟩ := s
      simp only at z0 z1 hst
      clear hs hcc
      have i1 : (k : Int) < (n : Int) := by omega
      go_upto_region 5 with fail
      have r5 := heap_alloc_new wr (.cells #[.int .i64 x, .int .i64 y] 64)
      have hb2 := hb.alloc hb.size (.cells #[.int .i64 x, .int .i64 y] 64)
      generalize wr.alloc (.cells #[.int .i64 x, .int .i64 y] 64) = W5 at r5 hb2 ⊢
      obtain ⟨G5, hG5⟩ : ∃ g, g = wr.heap.size := ⟨_, rfl⟩
      rw [← hG5] at r5 ⊢
      clear hG5 z0 z1
      obtain ⟨⟨y0, y1⟩, -, -⟩ := row_fr r5
      by_cases h1 : z ≤ x
      · by_cases h2 : x ≤ y
        · by_cases h3 : y ≤ 10000
          · have hr : Hid (R = Tm.spans (y + 1) (l.drop (k + 1))) := Lib.hid (by rw [HK.out, hst.out, decide_eq_true h1, decide_eq_true h2, decide_eq_true h3]; rfl)
            clear hst HK
            go_wp2_with fail
            go_roundw
            case rel => exact ⟨k + 1, y + 1, by omega, by go_num, by go_num, by omega, by omega, hr, hb2⟩
            case measure => simp [intOf]; omega
          · have hr : Hid (R = false) := Lib.hid (by rw [HK.out, hst.out, decide_eq_false h3, Bool.false_and, Bool.and_false, Bool.and_false])
            clear hst HK
            go_wp2_with fail
            go_ret
            exact ⟨ret_bool hr.out.symm, hb2⟩
        · have hr : Hid (R = false) := Lib.hid (by rw [HK.out, hst.out, decide_eq_false h2, Bool.false_and, Bool.and_false])
          clear hst HK
          go_wp2_with fail
          go_ret
          exact ⟨ret_bool hr.out.symm, hb2⟩
      · have hr : Hid (R = false) := Lib.hid (by rw [HK.out, hst.out, decide_eq_false h1, Bool.false_and])
        clear hst HK
        go_wp2_with fail
        go_ret
        exact ⟨ret_bool hr.out.symm, hb2⟩
    · have hr : Hid (R = true) := Lib.hid (by rw [HK.out, List.drop_eq_nil_of_le (by have := Hn.out; omega)]; rfl)
      go_wp2_with fail
      go_ret
      exact ⟨ret_bool hr.out.symm, hb⟩

set_option maxRecDepth 100000 in
set_option maxHeartbeats 2000000 in
theorem upTo1_any (x g : Int) (B : Nat) (w : World) (hc : w.cell? ⟨B, 0, none⟩ = some (.int .i64 g)) :
    Calls Try.prog 95 #[.int .i64 x, .pointer (some ⟨B, 0, none⟩)] w fun e w' => e = .returned (.bool (!(decide (0 ≤ x) && decide (x ≤ g)))) ∧ w' = w := by
  obtain ⟨R, hR⟩ : ∃ r, r = !(decide (0 ≤ x) && decide (x ≤ g)) := ⟨_, rfl⟩
  rw [← hR]
  have HR := Lib.hid hR
  clear hR
  go_enter Try.func95, Try.ntmps95
  by_cases h1 : 0 ≤ x
  · by_cases h2 : x ≤ g
    · have hr : Hid (R = false) := Lib.hid (by rw [HR.out, decide_eq_true h1, decide_eq_true h2]; rfl)
      have d1 : decide (x < 0) = false := decide_eq_false (by omega)
      have d2 : decide (g < x) = false := decide_eq_false (by omega)
      go_wp2_with fail
      go_ret
      exact ⟨ret_bool hr.out.symm, rfl⟩
    · have hr : Hid (R = true) := Lib.hid (by rw [HR.out, decide_eq_false h2, Bool.and_false]; rfl)
      go_wp2_with fail
      go_ret
      exact ⟨ret_bool hr.out.symm, rfl⟩
  · have hr : Hid (R = true) := Lib.hid (by rw [HR.out, decide_eq_false h1]; rfl)
    go_wp2_with fail
    go_ret
    exact ⟨ret_bool hr.out.symm, rfl⟩

set_option maxRecDepth 100000 in
set_option maxHeartbeats 4000000 in
theorem indexUp_any (g : Int) (B : Nat) (l : List Int) (ao : Option Addr) (n cap : Nat) (w : World) (hc : w.cell? ⟨B, 0, none⟩ = some (.int .i64 g)) (hI : Ints w ao l) (hn : n = l.length) (hn9 : n ≤ 100000) :
    Calls Try.prog 111 #[.slice ao n cap, .func (.func 95) #[] #[.pointer (some ⟨B, 0, none⟩)]] w fun e w' => (∃ i : Int, e = .returned (.int .i64 i) ∧ (0 ≤ i ↔ Tm.upTo g l = false)) ∧ w' = w := by
  have Hn := Lib.hid hn
  clear hn
  go_enter Try.func111, Try.ntmps111
  go_wp2_with fail
  go_loopw [5, 8] (fun _ i wr => ∃ k : Nat, k ≤ n ∧ i = .int .i64 k ∧ Hid (∀ j, j < k → (decide (0 ≤ l.getD j 0) && decide (l.getD j 0 ≤ g)) = true) ∧ wr = w) (fun _ i _ => n - (intOf i).toNat)
  case atStart => exact ⟨0, Nat.zero_le _, rfl, Lib.hid fun j hj => (by omega), rfl⟩
  case round =>
    obtain ⟨k, hk, rfl, hall, hwr⟩ := hrel
    subst hwr
    by_cases hlt : k < n
    · have hkl : k < l.length := by have := Hn.out; omega
      obtain ⟨b, off, rfl, hbs, z0⟩ := hI.at hkl
      have hmem : Hid (l.getD k 0 ∈ l) := Lib.hid (by rw [List.getD_eq_getElem?_getD, List.getElem?_eq_getElem hkl]; exact List.getElem_mem hkl)
      obtain ⟨x, hx⟩ : ∃ x, x = l.getD k 0 := ⟨_, rfl⟩
      rw [← hx] at z0 hmem
      have Hx := Lib.hid hx
      clear hx
      have i1 : (k : Int) < (n : Int) := by omega
      go_wp2_with fail
      refine (upTo1_any x g B wr hc).mono ?_
      rintro e w1 ⟨rfl, rfl⟩
      obtain ⟨bv, hbv⟩ : ∃ b, (decide (0 ≤ x) && decide (x ≤ g)) = b := ⟨_, rfl⟩
      rw [hbv]
      cases bv with
      | false =>
        have hv := Lib.hid (show Tm.upTo g l = false by unfold Tm.upTo; rw [List.all_eq_false]; exact ⟨_, hmem.out, by rw [hbv]; simp⟩)
        clear hbv
        go_wp2_with fail
        go_ret
        exact ⟨⟨_, rfl, ⟨fun _ => hv.out, fun _ => by omega⟩⟩, rfl⟩
      | true =>
        have hall2 : Hid (∀ j, j < k + 1 → (decide (0 ≤ l.getD j 0) && decide (l.getD j 0 ≤ g)) = true) := Lib.hid fun j hj => by
          rcases Nat.lt_or_ge j k with h | h
          · exact hall.out j h
          · rw [show j = k by omega, ← Hx.out]; exact hbv
        clear hbv
        go_wp2_with fail
        go_roundw
        case rel => exact ⟨k + 1, by omega, by go_num, hall2, trivial⟩
        case measure => simp [intOf]; omega
    · have hkn : k = n := by omega
      have hv : Hid (¬ Tm.upTo g l = false) := Lib.hid fun hm => by
        unfold Tm.upTo at hm
        rw [List.all_eq_false] at hm
        obtain ⟨s, hs, e⟩ := hm
        obtain ⟨j, hj, rfl⟩ := List.getElem_of_mem hs
        have := hall.out j (by rw [hkn, Hn.out]; exact hj)
        rw [List.getD_eq_getElem?_getD, List.getElem?_eq_getElem hj] at this
        exact e this
      clear hkn
      go_wp2_with fail
      go_ret
      exact ⟨⟨_, rfl, ⟨fun h => absurd h (by omega), fun h => absurd h hv.out⟩⟩, rfl⟩

set_option maxRecDepth 100000 in
set_option maxHeartbeats 2000000 in
theorem containsUp_any (g : Int) (B : Nat) (l : List Int) (ao : Option Addr) (n cap : Nat) (w : World) (hc : w.cell? ⟨B, 0, none⟩ = some (.int .i64 g)) (hI : Ints w ao l) (hn : n = l.length) (hn9 : n ≤ 100000) :
    Calls Try.prog 94 #[.slice ao n cap, .func (.func 95) #[] #[.pointer (some ⟨B, 0, none⟩)]] w fun e w' => e = .returned (.bool (!Tm.upTo g l)) ∧ w' = w := by
  obtain ⟨bv, hbv⟩ : ∃ b, Tm.upTo g l = b := ⟨_, rfl⟩
  rw [hbv]
  have Hb := Lib.hid hbv
  clear hbv
  have hX := indexUp_any g B l ao n cap w hc hI hn hn9
  clear hn hI
  go_enter Try.func94, Try.ntmps94
  go_wp2_with fail
  refine hX.mono ?_
  clear hX
  rintro e w' ⟨⟨i, rfl, hi⟩, rfl⟩
  cases bv with
  | false =>
    have h0 : 0 ≤ i := hi.2 Hb.out
    clear hi Hb
    go_wp2_with fail
    go_ret
    exact ⟨rfl, rfl⟩
  | true =>
    have h0 : decide (0 ≤ i) = false := decide_eq_false fun h => by have := hi.1 h; rw [Hb.out] at this; cases this
    clear hi Hb
    go_wp2_with fail
    go_ret
    exact ⟨rfl, rfl⟩

set_option maxRecDepth 100000 in
set_option maxHeartbeats 2000000 in
theorem areUpTo_any (g : Int) (l : List Int) (ao : Option Addr) (n cap : Nat) (w : World) (hI : Ints w ao l) (hn : n = l.length) (hn9 : n ≤ 100000) :
    Calls Try.prog 62 #[.int .i64 g, .slice ao n cap] w fun e w' => e = .returned (.bool (Tm.upTo g l)) ∧ Below w.heap.size w w' := by
  have hA := (Below.refl _ w).alloc (Nat.le_refl _) (.cells #[.int .i64 g] 3)
  obtain ⟨bv, hbv⟩ : ∃ b, Tm.upTo g l = b := ⟨_, rfl⟩
  have hX := containsUp_any g w.heap.size l ao n cap _ (row_one (heap_alloc_new w (.cells #[.int .i64 g] 3))).1 (hI.below hA) hn hn9
  rw [hbv] at hX ⊢
  clear hn hI hbv
  go_enter Try.func62, Try.ntmps62
  go_wp2_with fail
  refine hX.mono ?_
  rintro e w' ⟨rfl, rfl⟩
  clear hX
  cases bv <;>
  · go_wp2_with fail
    go_ret
    exact ⟨rfl, hA⟩
end Go.Proofs.Ytmdkdkiejcjmaaa
