import Derived.Test.YteecfdjphjkdkaaK
namespace Go.Proofs.Yteecfdjphjkdkaa
open Go.RowKit
namespace Cl
/-- A list of small numbers. -/
def okL (most : Int) (l : List Int) : Bool := l.all fun n => decide (0 ≤ n) && decide (n ≤ most)
theorem okL_iff {most : Int} {l : List Int} : okL most l = true ↔ ∀ n ∈ l, 0 ≤ n ∧ n ≤ most := by
  unfold okL; simp
/-- The claims of a case. -/
def okC (cs : List Int) : Bool := decide (1 ≤ cs.length) && (decide (cs.length ≤ 8) && okL 1000 cs)
def caseC (cs : List Int) (e : Int) : Int := if okC cs = true ∧ 0 ≤ e ∧ e ≤ Fl.sumI cs then 0 else 1
theorem okC_iff {cs : List Int} : okC cs = true ↔ 1 ≤ cs.length ∧ cs.length ≤ 8 ∧ ∀ n ∈ cs, 0 ≤ n ∧ n ≤ 1000 := by
  unfold okC
  rw [Bool.and_eq_true, Bool.and_eq_true, okL_iff]
  simp
theorem caseC_ok {cs : List Int} {e : Int} : caseC cs e = 0 ↔ okC cs = true ∧ 0 ≤ e ∧ e ≤ Fl.sumI cs := by
  unfold caseC
  by_cases h : okC cs = true ∧ 0 ≤ e ∧ e ≤ Fl.sumI cs
  · simp [h]
  · rw [if_neg h]; simp [h]
theorem caseC_no {cs : List Int} {e : Int} (h : ¬ (okC cs = true ∧ 0 ≤ e ∧ e ≤ Fl.sumI cs)) : caseC cs e = 1 := if_neg h
theorem sum_small {B : Int} (hB : 0 ≤ B) {l : List Int} (h : ∀ n ∈ l, -B ≤ n ∧ n ≤ B) : -(B * l.length) ≤ Fl.sumI l ∧ Fl.sumI l ≤ B * l.length := by
  induction l with
  | nil => simp [Fl.sumI]
  | cons x r ih =>
    have h1 := h x (by simp)
    have h2 := ih fun n hn => h n (by simp [hn])
    rw [Fl.sumI_cons, List.length_cons]
    push_cast
    rw [Int.mul_add]
    omega
theorem sum_nonneg {l : List Int} (h : ∀ n ∈ l, 0 ≤ n) : 0 ≤ Fl.sumI l := by
  induction l with
  | nil => simp [Fl.sumI]
  | cons x r ih =>
    have h1 := h x (by simp)
    have h2 := ih fun n hn => h n (by simp [hn])
    rw [Fl.sumI_cons]
    omega
theorem sum_take_small {l : List Int} (h : ∀ n ∈ l, -1000000000 ≤ n ∧ n ≤ 1000000000) (hl : l.length ≤ 1000) (k : Nat) : -1000000000000 ≤ Fl.sumI (l.take k) ∧ Fl.sumI (l.take k) ≤ 1000000000000 := by
  have := sum_small (B := 1000000000) (by omega) (l := l.take k) fun n hn => h n (List.mem_of_mem_take hn)
  have h2 : (l.take k).length ≤ 1000 := by rw [List.length_take]; omega
  have h3 : (1000000000 : Int) * ((l.take k).length : Int) ≤ 1000000000 * 1000 := Int.mul_le_mul_of_nonneg_left (by omega) (by omega)
  omega
end Cl

set_option maxRecDepth 100000 in
set_option maxHeartbeats 1000000 in
theorem sum_any (l : List Int) (ao : Option Addr) (n cap : Nat) (w : World) (hI : Ints w ao l) (hln : n = l.length) (hn : n ≤ 1000) (hb : ∀ x ∈ l, -1000000000 ≤ x ∧ x ≤ 1000000000) :
    Calls Try.prog 56 #[.slice ao n cap] w fun e w' => e = .returned (.int .i64 (Fl.sumI l)) ∧ w' = w := by
  have Hn := Lib.hid hln
  have Hb := Lib.hid (fun k => Cl.sum_take_small hb (by rw [← hln]; exact hn) k)
  clear hln
  go_enter Try.func56, Try.ntmps56
  go_wp2
  go_loopw [3, 8] (fun s i wr => ∃ (k : Nat) (S : Int), k ≤ n ∧ i = .int .i64 k ∧ s = .int .i64 S ∧ Hid (S = Fl.sumI (l.take k)) ∧ wr = w) (fun _ i _ => n - (intOf i).toNat)
  case atStart => exact ⟨0, 0, Nat.zero_le _, rfl, rfl, Lib.hid rfl, rfl⟩
  case round =>
    obtain ⟨k, S, hk, rfl, rfl, hS, hw⟩ := hrel
    rw [hw]
    clear hw wr
    by_cases hlt : k < n
    · have hkl : k < l.length := by have := Hn.out; omega
      obtain ⟨b, off, rfl, hbs, hc⟩ := hI.at hkl
      have hst := Fl.sumI_take hkl
      rw [← hS.out] at hst
      have b1 := Hb.out (k + 1)
      rw [hst] at b1
      obtain ⟨x, hx⟩ : ∃ x, x = l.getD k 0 := ⟨_, rfl⟩
      rw [← hx] at hc hst b1
      have Hst := Lib.hid hst
      have i1 : (k : Int) < (n : Int) := by omega
      have e1 : IntKind.i64.wrap (S + x) = S + x := IntWalk.i64_in _ (by omega)
      clear hx hst
      go_wp2
      go_roundw
      case rel => exact ⟨k + 1, S + x, by omega, by go_num, rfl, Lib.hid Hst.out.symm, trivial⟩
      case measure => simp [intOf]; omega
    · have hkn : k = n := by omega
      have hfin : Hid (S = Fl.sumI l) := Lib.hid (by rw [hS.out, hkn, Hn.out, List.take_length])
      clear hkn
      go_wp2
      go_ret
      exact ⟨ret_int hfin.out, rfl⟩

set_option maxRecDepth 100000 in
set_option maxHeartbeats 1000000 in
theorem rSum_any (l : List Int) (ao : Option Addr) (n cap : Nat) (w : World) (hI : Ints w ao l) (hln : n = l.length) (hn : n ≤ 1000) (hb : ∀ x ∈ l, -1000000000 ≤ x ∧ x ≤ 1000000000) :
    Calls Try.prog 36 #[.slice ao n cap] w fun e w' => e = .returned (.int .i64 (Fl.sumI l)) ∧ w' = w := by
  have Hn := Lib.hid hln
  have Hb := Lib.hid (fun k => Cl.sum_take_small hb (by rw [← hln]; exact hn) k)
  clear hln
  go_enter Try.func36, Try.ntmps36
  go_wp2
  go_loopw [3, 4] (fun s i wr => ∃ (k : Nat) (S : Int), k ≤ n ∧ i = .int .i64 k ∧ s = .int .i64 S ∧ Hid (S = Fl.sumI (l.take k)) ∧ wr = w) (fun _ i _ => n - (intOf i).toNat)
  case atStart => exact ⟨0, 0, Nat.zero_le _, rfl, rfl, Lib.hid rfl, rfl⟩
  case round =>
    obtain ⟨k, S, hk, rfl, rfl, hS, hw⟩ := hrel
    rw [hw]
    clear hw wr
    by_cases hlt : k < n
    · have hkl : k < l.length := by have := Hn.out; omega
      obtain ⟨b, off, rfl, hbs, hc⟩ := hI.at hkl
      have hst := Fl.sumI_take hkl
      rw [← hS.out] at hst
      have b1 := Hb.out (k + 1)
      rw [hst] at b1
      obtain ⟨x, hx⟩ : ∃ x, x = l.getD k 0 := ⟨_, rfl⟩
      rw [← hx] at hc hst b1
      have Hst := Lib.hid hst
      have i1 : (k : Int) < (n : Int) := by omega
      have e1 : IntKind.i64.wrap (S + x) = S + x := IntWalk.i64_in _ (by omega)
      clear hx hst
      go_wp2
      go_roundw
      case rel => exact ⟨k + 1, S + x, by omega, by go_num, rfl, Lib.hid Hst.out.symm, trivial⟩
      case measure => simp [intOf]; omega
    · have hkn : k = n := by omega
      have hfin : Hid (S = Fl.sumI l) := Lib.hid (by rw [hS.out, hkn, Hn.out, List.take_length])
      clear hkn
      go_wp2
      go_ret
      exact ⟨ret_int hfin.out, rfl⟩

set_option maxHeartbeats 400000 in
theorem rwithin_any (n lo hi : Int) (w : World) :
    Calls Try.prog 58 #[.int .i64 n, .int .i64 lo, .int .i64 hi] w fun e w' => e = .returned (.bool (decide (lo ≤ n) && decide (n ≤ hi))) ∧ w' = w := by
  go_enter Try.func58, Try.ntmps58
  go_wp2
  all_goals
    go_ret
    refine ⟨ret_bool ?_, rfl⟩
    rw [Bool.eq_iff_iff]
    simp
    try omega
set_option maxRecDepth 100000 in
set_option maxHeartbeats 1000000 in
theorem isBad_any (n most : Int) (b : Nat) (w : World) (h : w.cell? ⟨b, 0, none⟩ = some (.int .i64 most)) :
    Calls Try.prog 83 #[.int .i64 n, .pointer (some ⟨b, 0, none⟩)] w fun e w' => e = .returned (.bool (!(decide (0 ≤ n) && decide (n ≤ most)))) ∧ w' = w := by
  go_enter Try.func83, Try.ntmps83
  go_wp2
  all_goals
    go_ret
    refine ⟨ret_bool ?_, rfl⟩
    rw [Bool.eq_iff_iff]
    simp
    try omega
set_option maxRecDepth 100000 in
set_option maxHeartbeats 1000000 in
theorem idx_any (most : Int) (B : Nat) (l : List Int) (ao : Option Addr) (n cap : Nat) (w : World) (hI : Ints w ao l) (hln : n = l.length) (hn : n ≤ 100000) (h : w.cell? ⟨B, 0, none⟩ = some (.int .i64 most)) :
    Calls Try.prog 105 #[.slice ao n cap, .func (Fn.func 83) #[] #[.pointer (some ⟨B, 0, none⟩)]] w fun e w' => ∃ r : Int, e = .returned (.int .i64 r) ∧ (r ≥ 0 ↔ Cl.okL most l = false) ∧ w' = w := by
  have Hn := Lib.hid hln
  clear hln
  go_enter Try.func105, Try.ntmps105
  go_wp2
  go_loopw [5, 8] (fun _ i wr => ∃ (k : Nat), k ≤ n ∧ i = .int .i64 k ∧ Hid (∀ x ∈ l.take k, 0 ≤ x ∧ x ≤ most) ∧ wr = w) (fun _ i _ => n - (intOf i).toNat)
  case atStart => exact ⟨0, Nat.zero_le _, rfl, Lib.hid (by simp), rfl⟩
  case round =>
    obtain ⟨k, hk, rfl, hS, hw⟩ := hrel
    rw [hw]
    clear hw wr
    by_cases hlt : k < n
    · have hkl : k < l.length := by have := Hn.out; omega
      obtain ⟨b, off, rfl, hbs, hc⟩ := hI.at hkl
      obtain ⟨x, hx⟩ : ∃ x, x = l.getD k 0 := ⟨_, rfl⟩
      rw [← hx] at hc
      have Hx := Lib.hid hx
      clear hx
      have i1 : (k : Int) < (n : Int) := by omega
      go_wp2_with fail
      refine (isBad_any x most B w h).mono ?_
      rintro e w1 ⟨rfl, rfl⟩
      by_cases hg : 0 ≤ x ∧ x ≤ most
      · have e1 : (!(decide (0 ≤ x) && decide (x ≤ most))) = false := by simp [hg]
        rw [e1]
        go_wp2
        go_roundw
        case rel => exact ⟨k + 1, by omega, by go_num, Lib.hid (by
          intro y hy
          rw [List.take_succ_eq_append_getElem hkl] at hy
          rcases List.mem_append.1 hy with h1 | h1
          · exact hS.out y h1
          · rw [List.mem_singleton] at h1
            have h2 : l.getD k 0 = l[k] := by rw [List.getD_eq_getElem?_getD, List.getElem?_eq_getElem hkl]; rfl
            rw [h1, ← h2, ← Hx.out]; exact hg), trivial⟩
        case measure => simp [intOf]; omega
      · have e1 : (!(decide (0 ≤ x) && decide (x ≤ most))) = true := by simp; omega
        rw [e1]
        have hfin : Hid (Cl.okL most l = false) := Lib.hid (by
          rw [Bool.eq_false_iff]
          intro hh
          apply hg
          rw [Hx.out]
          have := Cl.okL_iff.1 hh (l.getD k 0) (by rw [List.getD_eq_getElem?_getD, List.getElem?_eq_getElem hkl]; simp)
          exact this)
        go_wp2
        go_ret
        exact ⟨k, rfl, ⟨fun _ => hfin.out, fun _ => by omega⟩, rfl⟩
    · have hkn : k = n := by omega
      have hfin : Hid (Cl.okL most l = true) := Lib.hid (by
        rw [Cl.okL_iff]
        have := hS.out
        rw [hkn, Hn.out, List.take_length] at this
        exact this)
      clear hkn
      go_wp2
      go_ret
      exact ⟨-1, rfl, ⟨fun hh => absurd hh (by omega), fun hh => by rw [hfin.out] at hh; cases hh⟩, rfl⟩
set_option maxRecDepth 100000 in
set_option maxHeartbeats 1000000 in
theorem con_any (most : Int) (B : Nat) (l : List Int) (ao : Option Addr) (n cap : Nat) (w : World) (hI : Ints w ao l) (hln : n = l.length) (hn : n ≤ 100000) (h : w.cell? ⟨B, 0, none⟩ = some (.int .i64 most)) :
    Calls Try.prog 82 #[.slice ao n cap, .func (Fn.func 83) #[] #[.pointer (some ⟨B, 0, none⟩)]] w fun e w' => e = .returned (.bool (!Cl.okL most l)) ∧ w' = w := by
  have Hn := Lib.hid hln
  clear hln
  go_enter Try.func82, Try.ntmps82
  go_wp2_with fail
  refine (idx_any most B l ao n cap w hI Hn.out hn h).mono ?_
  rintro e w1 ⟨r, rfl, hr, rfl⟩
  have Hr := Lib.hid hr
  clear hr
  go_wp2_with fail
  go_ret
  refine ⟨ret_bool ?_, rfl⟩
  have h1 := Hr.out
  cases h2 : Cl.okL most l
  · simp [h2] at h1 ⊢; omega
  · simp [h2] at h1 ⊢; omega
set_option maxRecDepth 100000 in
set_option maxHeartbeats 1000000 in
theorem areFrom_any (most : Int) (l : List Int) (ao : Option Addr) (n cap : Nat) (w : World) (hI : Ints w ao l) (hln : n = l.length) (hn : n ≤ 100000) :
    Calls Try.prog 76 #[.int .i64 most, .slice ao n cap] w fun e w' => e = .returned (.bool (Cl.okL most l)) ∧ Below w.heap.size w w' := by
  have Hn := Lib.hid hln
  clear hln
  go_enter Try.func76, Try.ntmps76
  go_wp2_with fail
  refine (con_any most w.heap.size l ao n cap _ (hI.below ((Below.refl _ w).alloc (Nat.le_refl _) _)) Hn.out hn (by simp)).mono ?_
  rintro e w1 ⟨rfl, rfl⟩
  have hfb : Below w.heap.size w (w.alloc (.cells #[.int .i64 most] 3)) := (Below.refl _ w).alloc (Nat.le_refl _) _
  obtain ⟨v, hv⟩ : ∃ v, v = Cl.okL most l := ⟨_, rfl⟩
  rw [← hv]
  have Hv := Lib.hid hv
  clear hv
  go_wp2_with fail
  go_ret
  exact ⟨ret_bool Hv.out, hfb⟩
set_option maxHeartbeats 1000000 in
theorem areClaims_any (l : List Int) (ao : Option Addr) (n cap : Nat) (w : World) (hI : Ints w ao l) (hln : n = l.length) (hn : n ≤ 100000) :
    Calls Try.prog 55 #[.slice ao n cap] w fun e w' => e = .returned (.bool (Cl.okC l)) ∧ Below w.heap.size w w' := by
  have Hn := Lib.hid hln
  clear hln
  go_enter Try.func55, Try.ntmps55
  go_wp2_with fail
  · refine (areFrom_any 1000 l ao n cap w hI Hn.out hn).mono ?_
    rintro e w1 ⟨rfl, hb1⟩
    obtain ⟨v, hv⟩ : ∃ v, v = Cl.okL 1000 l := ⟨_, rfl⟩
    rw [← hv]
    have Hv := Lib.hid hv
    clear hv
    go_wp2_with fail
    go_ret
    refine ⟨ret_bool ?_, hb1⟩
    have h1 := Hn.out
    have h2 := Hv.out
    unfold Cl.okC
    rw [← h2, ← h1]
    have e1 : decide (1 ≤ n) = true := by simp; omega
    have e2 : decide (n ≤ 8) = true := by simp; omega
    rw [e1, e2]
    cases v <;> rfl
  · go_ret
    refine ⟨ret_bool ?_, Below.refl _ w⟩
    have h1 := Hn.out
    unfold Cl.okC
    rw [← h1]
    have e2 : decide (n ≤ 8) = false := by simp; omega
    rw [e2]
    simp
  · go_ret
    refine ⟨ret_bool ?_, Below.refl _ w⟩
    have h1 := Hn.out
    unfold Cl.okC
    rw [← h1]
    have e2 : decide (1 ≤ n) = false := by simp; omega
    rw [e2]
    simp
set_option maxHeartbeats 1000000 in
theorem validate_any (l : List Int) (E : Int) (ao : Option Addr) (n cap : Nat) (w : World) (hI : Ints w ao l) (hln : n = l.length) (hn : n ≤ 100000) :
    Calls Try.prog 19 #[.slice ao n cap, .int .i64 E] w fun e w' => e = .returned (.int .i64 (Cl.caseC l E)) ∧ Below w.heap.size w w' := by
  have Hn := Lib.hid hln
  clear hln
  go_enter Try.func19, Try.ntmps19
  go_wp2_with fail
  refine (areClaims_any l ao n cap w hI Hn.out hn).mono ?_
  rintro e w1 ⟨rfl, hb1⟩
  replace hI := hI.below hb1
  obtain ⟨v, hv⟩ : ∃ v, v = Cl.okC l := ⟨_, rfl⟩
  rw [← hv]
  have Hv := Lib.hid hv
  clear hv
  cases v
  · have hfin : Hid (Cl.caseC l E = 1) := Lib.hid (Cl.caseC_no (by rw [← Hv.out]; simp))
    go_wp2_with fail
    go_ret
    exact ⟨ret_int hfin.out.symm, hb1⟩
  · by_cases hE : E < 0
    · have hfin : Hid (Cl.caseC l E = 1) := Lib.hid (Cl.caseC_no (by omega))
      go_wp2_with fail
      go_ret
      exact ⟨ret_int hfin.out.symm, hb1⟩
    · go_wp2_with fail
      have hC := Cl.okC_iff.1 Hv.out.symm
      refine (sum_any l ao n cap w1 hI Hn.out (by have := Hn.out; omega) (fun x hx => by have := hC.2.2 x hx; omega)).mono ?_
      rintro e w2 ⟨rfl, rfl⟩
      clear hC
      obtain ⟨S, hS⟩ : ∃ S, S = Fl.sumI l := ⟨_, rfl⟩
      rw [← hS]
      have HS := Lib.hid hS
      clear hS
      by_cases hg : E > S
      · have hfin : Hid (Cl.caseC l E = 1) := Lib.hid (Cl.caseC_no (by rw [← HS.out]; omega))
        go_wp2_with fail
        go_ret
        exact ⟨ret_int hfin.out.symm, hb1⟩
      · have hfin : Hid (Cl.caseC l E = 0) := Lib.hid (Cl.caseC_ok.2 ⟨Hv.out.symm, by omega, by rw [← HS.out]; omega⟩)
        go_wp2_with fail
        go_ret
        exact ⟨ret_int hfin.out.symm, hb1⟩
end Go.Proofs.Yteecfdjphjkdkaa
