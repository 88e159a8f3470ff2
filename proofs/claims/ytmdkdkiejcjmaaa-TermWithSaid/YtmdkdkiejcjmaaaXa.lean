import Derived.Test.YtmdkdkiejcjmaaaK
import Derived.Test.YtmdkdkiejcjmaaaTc
import Derived.Lib.OwnBridge
import Derived.Lib.SliceRun
/- slices.Clone of spans and of numbers; slices.SortFunc of spans of the call's own. -/
namespace Go.Proofs.Ytmdkdkiejcjmaaa
open Go.RowKit

theorem own_new1 (w : World) (e : TypeId) : (w.alloc (.cells #[] e)).ownsRow w.heap.size e 1 (.slice (some ⟨w.heap.size, 0, none⟩) 0 0) 0 [] :=
  ⟨rfl, .inr ⟨w.heap.size, 0, #[], rfl, Nat.le_refl _, heap_alloc_new w _, Nat.le_refl _, Nat.zero_le _, rfl, rfl⟩⟩
theorem ints_one (l : List Int) : ∀ v ∈ l.map (Value.int .i64), v.oneCell' = true := by
  intro v hv
  rw [List.mem_map] at hv
  obtain ⟨x, -, rfl⟩ := hv
  rfl
theorem ints_flat {w : World} {ad : Addr} {l : List Int} (h : Ints w (some ad) l) : ∀ j u, (l.map (Value.int .i64))[j]? = some u → w.cell? (ad.add j) = some u := by
  intro j u hu
  rw [List.getElem?_map] at hu
  have hj : j < l.length := by
    rcases Nat.lt_or_ge j l.length with h1 | h1
    · exact h1
    · rw [List.getElem?_eq_none h1] at hu; cases hu
  obtain ⟨b, off, e, hlt, hc⟩ := h.cells (by omega)
  cases e
  rw [List.getElem?_eq_getElem hj] at hu
  cases hu
  rw [add_none, hc j hj, List.getD_eq_getElem?_getD, List.getElem?_eq_getElem hj]
  rfl

set_option maxRecDepth 100000 in
set_option maxHeartbeats 4000000 in
theorem cloneInts_any (l : List Int) (ao : Option Addr) (n cap : Nat) (w : World) (hI : Ints w ao l) (hn : n = l.length) (hn9 : n ≤ 100000) :
    Calls Try.prog 109 #[.slice ao n cap] w fun e w' => (∃ v, e = .returned v ∧ w'.ownsRow w.heap.size 3 1 v n (l.map (Value.int .i64))) ∧ Below w.heap.size w w' := by
  have Hn := Lib.hid hn
  clear hn
  obtain ⟨i0, hi0, hz0, hz1, hz2⟩ := info_in
  have q := fun (w : World) (a : Option Addr) (n c n' c' : Nat) => Lib.run_eql_slice_nil (P := Try.prog) w 22 3 a n c n' c' Try.underlying22
  cases ao with
  | none =>
    have hl : Hid (l = []) := Lib.hid (by
      refine List.eq_nil_of_length_eq_zero (Nat.eq_zero_of_not_pos fun h => ?_)
      obtain ⟨b, off, e, -⟩ := hI.cells h
      cases e)
    have hn0 : n = 0 := by rw [Hn.out, hl.out]; rfl
    have hq : Hid (l.map (Value.int .i64) = []) := Lib.hid (by rw [hl.out]; rfl)
    subst hn0
    go_enter Try.func109, Try.ntmps109
    go_wp2_with fail
    go_ret
    exact ⟨⟨_, rfl, by rw [hq.out]; exact ⟨rfl, .inl ⟨rfl, rfl⟩⟩⟩, Below.refl _ _⟩
  | some ad =>
    have hal := (Below.refl w.heap.size w).alloc (Nat.le_refl _) (.cells #[] 3)
    have Hs := Lib.hid (ints_flat (hI.below hal))
    clear hal
    go_enter Try.func109, Try.ntmps109
    go_wp2_with (first | (at_builtin; refine wpList_append_own _ rfl _ _ 22 rfl w.heap.size 3 i0 (.int .i64 0) 1 8 Try.underlying22 hi0 hz0 hz1 hz2 rfl (by decide) _ 0 [] rfl (own_new1 w _) ad n cap (l.map (Value.int .i64)) rfl (by rw [List.length_map, Hn.out, Nat.mul_one]) Hs.out (ints_one l) (by unfold maxLen; omega) (by omega) (by simp) ?_; intro v' w3 hown' hgrow3 hnil3; have hgb : Below w.heap.size w w3 := ((Below.refl _ w).alloc (Nat.le_refl _) _).grown hgrow3 (by simp) (fun x hx => by cases hx; exact Nat.le_refl _); have hown2 : w3.ownsRow w.heap.size 3 1 v' n (l.map (Value.int .i64)) := (by have h := hown'; rw [Nat.zero_add, List.nil_append] at h; exact h); clear hown' hgrow3 hnil3 Hs))
    go_ret
    exact ⟨⟨_, rfl, hown2⟩, hgb⟩

set_option maxRecDepth 100000 in
set_option maxHeartbeats 4000000 in
theorem cloneSpans_any (l : List (Int × Int)) (ao : Option Addr) (n cap : Nat) (w : World) (hI : Pts w ao l) (hn : n = l.length) (hn9 : n ≤ 100000) :
    Calls Try.prog 105 #[.slice ao n cap] w fun e w' => (∃ v, e = .returned v ∧ w'.ownsRow w.heap.size 64 2 v n (flat2 l)) ∧ Below w.heap.size w w' := by
  have Hn := Lib.hid hn
  clear hn
  obtain ⟨i0, hi0, hz0, hz1, hz2⟩ := info_rt
  have q := fun (w : World) (a : Option Addr) (n c n' c' : Nat) => Lib.run_eql_slice_nil (P := Try.prog) w 23 64 a n c n' c' Try.underlying23
  cases ao with
  | none =>
    have hl : Hid (l = []) := Lib.hid (by
      refine List.eq_nil_of_length_eq_zero (Nat.eq_zero_of_not_pos fun h => ?_)
      obtain ⟨b, off, e, -⟩ := hI.cells h
      cases e)
    have hn0 : n = 0 := by rw [Hn.out, hl.out]; rfl
    have hq : Hid (flat2 l = []) := Lib.hid (by rw [hl.out]; rfl)
    subst hn0
    go_enter Try.func105, Try.ntmps105
    go_wp2_with fail
    go_ret
    exact ⟨⟨_, rfl, by rw [hq.out]; exact ⟨rfl, .inl ⟨rfl, rfl⟩⟩⟩, Below.refl _ _⟩
  | some ad =>
    have hal := (Below.refl w.heap.size w).alloc (Nat.le_refl _) (.cells #[] 64)
    have Hs := Lib.hid (pts_flat (hI.below hal))
    clear hal
    go_enter Try.func105, Try.ntmps105
    go_wp2_with (first | (at_builtin; refine wpList_append_own _ rfl _ _ 23 rfl w.heap.size 64 i0 (.agg #[.int .i64 0, .int .i64 0]) 2 16 Try.underlying23 hi0 hz0 hz1 hz2 rfl (by decide) _ 0 [] rfl (own_new2 w _) ad n cap (flat2 l) rfl (by rw [flat2_length, Hn.out]) Hs.out (flat2_one l) (by unfold maxLen; omega) (by omega) (by simp) ?_; intro v' w3 hown' hgrow3 hnil3; have hgb : Below w.heap.size w w3 := ((Below.refl _ w).alloc (Nat.le_refl _) _).grown hgrow3 (by simp) (fun x hx => by cases hx; exact Nat.le_refl _); have hown2 : w3.ownsRow w.heap.size 64 2 v' n (flat2 l) := (by have h := hown'; rw [Nat.zero_add, List.nil_append] at h; exact h); clear hown' hgrow3 hnil3 Hs))
    go_ret
    exact ⟨⟨_, rfl, hown2⟩, hgb⟩

def cmpI (x y : Int) : Int := if x < y then -1 else if y < x then 1 else 0
set_option maxRecDepth 100000 in
set_option maxHeartbeats 4000000 in
theorem compare_any (x y : Int) (w : World) : Calls Try.prog 108 #[.int .i64 x, .int .i64 y] w fun e w' => e = .returned (.int .i64 (cmpI x y)) ∧ w' = w := by
  obtain ⟨R, hR⟩ : ∃ r, r = cmpI x y := ⟨_, rfl⟩
  rw [← hR]
  have HR := Lib.hid hR
  clear hR
  go_enter Try.func108, Try.ntmps108
  by_cases h1 : x < y
  · have hr : Hid (R = -1) := Lib.hid (by rw [HR.out]; unfold cmpI; rw [if_pos h1])
    go_wp2
    go_ret
    exact ⟨ret_int hr.out.symm, rfl⟩
  · by_cases h2 : y < x
    · have hr : Hid (R = 1) := Lib.hid (by rw [HR.out]; unfold cmpI; rw [if_neg h1, if_pos h2])
      go_wp2
      go_ret
      exact ⟨ret_int hr.out.symm, rfl⟩
    · have hr : Hid (R = 0) := Lib.hid (by rw [HR.out]; unfold cmpI; rw [if_neg h1, if_neg h2])
      go_wp2
      go_ret
      exact ⟨ret_int hr.out.symm, rfl⟩

def cmpS (a b : Int × Int) : Int := cmpI a.1 b.1
set_option maxRecDepth 100000 in
set_option maxHeartbeats 4000000 in
theorem with1_any (a b c d : Int) (w : World) : Calls Try.prog 107 #[.agg #[.int .i64 a, .int .i64 b], .agg #[.int .i64 c, .int .i64 d]] w fun e w' => e = .returned (.int .i64 (cmpI a c)) ∧ w' = (w.alloc (.cells #[.int .i64 a, .int .i64 b] 64)).alloc (.cells #[.int .i64 c, .int .i64 d] 64) := by
  have ra := heap_alloc2_old w (.cells #[.int .i64 a, .int .i64 b] 64) (.cells #[.int .i64 c, .int .i64 d] 64)
  have rb := heap_alloc2_new w (.cells #[.int .i64 a, .int .i64 b] 64) (.cells #[.int .i64 c, .int .i64 d] 64)
  go_enter Try.func107, Try.ntmps107
  go_upto_region 1 with fail
  generalize hW : (w.alloc (.cells #[.int .i64 a, .int .i64 b] 64)).alloc (.cells #[.int .i64 c, .int .i64 d] 64) = W0 at ra rb ⊢
  obtain ⟨⟨a0, a1⟩, -, -⟩ := row_fr ra
  obtain ⟨⟨b0, b1⟩, -, -⟩ := row_fr rb
  go_wp2_with fail
  refine (compare_any a c W0).mono ?_
  rintro e w1 ⟨rfl, rfl⟩
  go_wp2_with fail
  go_ret
  exact ⟨rfl, hW.symm⟩

end Go.Proofs.Ytmdkdkiejcjmaaa
