import Derived.Test.YteecfdjphjkdkaaFa
namespace Go.Proofs.Yteecfdjphjkdkaa
open Go.RowKit
set_option maxRecDepth 100000 in
set_option maxHeartbeats 1000000 in
theorem divisor_any (a0 b0 : Nat) (w : World) (h1 : a0 ≤ 9223372036854775807) (h2 : b0 ≤ 9223372036854775807) :
    Calls Try.prog 79 #[.int .i64 a0, .int .i64 b0] w fun e w' => e = .returned (.int .i64 (Nat.gcd a0 b0 : Nat)) ∧ Below w.heap.size w w' := by
  obtain ⟨g, hg⟩ : ∃ g, g = Nat.gcd a0 b0 := ⟨_, rfl⟩
  rw [← hg]
  have Hg := Lib.hid hg
  clear hg
  go_enter Try.func79, Try.ntmps79
  go_wp2
  go_loopw [0, 1] (fun a b wr => ∃ x y : Nat, a = .int .i64 x ∧ b = .int .i64 y ∧ x ≤ 9223372036854775807 ∧ y ≤ 9223372036854775807 ∧ Hid (g = Nat.gcd x y) ∧ Below w.heap.size w wr) (fun _ b _ => (intOf b).toNat)
  case atStart => exact ⟨a0, b0, rfl, rfl, h1, h2, Hg, Below.refl _ _⟩
  case round =>
    obtain ⟨x, y, rfl, rfl, hx, hy, hgc, hb⟩ := hrel
    by_cases h0 : y = 0
    · subst h0
      go_wp2
      go_ret
      refine ⟨ret_int ?_, hb⟩
      have := hgc.out
      rw [Nat.gcd_zero_right] at this
      rw [this]
    · have hm : x % y < y := Nat.mod_lt _ (by omega)
      have hy1 : (1 : Int) ≤ (y : Int) := by omega
      have hq : ((y : Int) == 0) = false := by simp [h0]
      have hq2 : ((y : Int) != 0) = true := by simp [h0]
      go_wp2
      go_quiet (fail)
      go_wp2
      go_roundw
      case rel => exact ⟨y, x % y, rfl, by simp, hy, by omega, Lib.hid (hgc.out.trans (gcd_step x y).symm), below_drewN hb _⟩
      case measure =>
        have : intOf (.int .i64 ((x : Int) % (y : Int))) = ((x % y : Nat) : Int) := by simp [intOf]
        rw [this]
        simp [intOf]
        omega
set_option maxHeartbeats 400000 in
theorem lowest_any (n d : Nat) (w : World) (hd : 0 < d) (h1 : n ≤ 9223372036854775807) (h2 : d ≤ 9223372036854775807) :
    Calls Try.prog 70 #[.int .i64 n, .int .i64 d] w fun e w' => e = .returned (Fr (mkRat n d)) ∧ Below w.heap.size w w' := by
  have hg : 0 < Nat.gcd n d := Nat.gcd_pos_of_pos_right _ hd
  have hL := low_eq n d hd
  have HL := Lib.hid hL
  clear hL
  obtain ⟨g, hg0⟩ : ∃ g, g = Nat.gcd n d := ⟨_, rfl⟩
  go_enter Try.func70, Try.ntmps70
  go_wp2_with (first | (go_at_call 79; refine (divisor_any n d _ h1 h2).mono ?_; rintro e w' ⟨rfl, hb'⟩))
  rw [← hg0]
  rw [← hg0] at HL hg
  have Hg := Lib.hid hg0
  clear hg0
  have hh := heap_at hb' (k := w.heap.size) (by simp) (heap_alloc_new w (.cells #[.int .i64 0, .int .i64 0] 35))
  have hB := ((Below.refl _ w).alloc (Nat.le_refl _) (.cells #[.int .i64 0, .int .i64 0] 35)).trans (hb'.mono (by simp))
  clear hb'
  have hg1 : (1 : Int) ≤ (g : Int) := by omega
  have hq : ((g : Int) == 0) = false := by simp; omega
  obtain ⟨⟨c0, c1⟩, f0, f1⟩ := row_fr hh
  have b1 := IntWalk.tdiv_le n g (by omega) hg1
  have b2 := IntWalk.tdiv_le d g (by omega) hg1
  have q1 : IntKind.i64.wrap ((n : Int) / (g : Int)) = (n : Int) / (g : Int) := IntWalk.i64_in _ (by omega)
  have q2 : IntKind.i64.wrap ((d : Int) / (g : Int)) = (d : Int) / (g : Int) := IntWalk.i64_in _ (by omega)
  clear b1 b2
  go_region
  go_wp2
  have h3 := two_cells hh (.int .i64 (n / g)) (.int .i64 (d / g))
  exact bodyPost_ret (results_cell_row rfl _ _ _ _ _ _ _ rfl h3 Try.underlying35 rfl infoRat2) rfl ⟨ret_fr HL.out.1 HL.out.2, below_drewN (below_setCell (below_setCell hB (Nat.le_refl _) _) (Nat.le_refl _) _) 1⟩

set_option maxRecDepth 100000 in
set_option maxHeartbeats 1000000 in
theorem rgcd_any (a0 b0 : Nat) (w : World) (h1 : a0 ≤ 9223372036854775807) (h2 : b0 ≤ 9223372036854775807) :
    Calls Try.prog 78 #[.int .i64 a0, .int .i64 b0] w fun e w' => e = .returned (.int .i64 (Nat.gcd a0 b0 : Nat)) ∧ w' = w := by
  obtain ⟨g, hg⟩ : ∃ g, g = Nat.gcd a0 b0 := ⟨_, rfl⟩
  rw [← hg]
  have Hg := Lib.hid hg
  clear hg
  go_enter Try.func78, Try.ntmps78
  go_wp2
  go_loopw [0, 1, 5] (fun a b _ wr => ∃ x y : Nat, a = .int .i64 x ∧ b = .int .i64 y ∧ x ≤ 9223372036854775807 ∧ y ≤ 9223372036854775807 ∧ Hid (g = Nat.gcd x y) ∧ wr = w) (fun _ b _ _ => (intOf b).toNat)
  case atStart => exact ⟨a0, b0, rfl, rfl, h1, h2, Hg, rfl⟩
  case round =>
    obtain ⟨x, y, rfl, rfl, hx, hy, hgc, hw⟩ := hrel
    rw [hw]
    clear hw wr
    by_cases h0 : y = 0
    · subst h0
      go_wp2
      go_ret
      refine ⟨ret_int ?_, rfl⟩
      have := hgc.out
      rw [Nat.gcd_zero_right] at this
      rw [this]
    · have hm : x % y < y := Nat.mod_lt _ (by omega)
      have hy1 : (1 : Int) ≤ (y : Int) := by omega
      have hq : ((y : Int) == 0) = false := by simp [h0]
      have hq2 : ((y : Int) != 0) = true := by simp [h0]
      go_wp2
      go_roundw
      case rel => exact ⟨y, x % y, rfl, by simp, hy, by omega, Lib.hid (hgc.out.trans (gcd_step x y).symm), trivial⟩
      case measure =>
        have : intOf (.int .i64 ((x : Int) % (y : Int))) = ((x % y : Nat) : Int) := by simp [intOf]
        rw [this]
        simp [intOf]
        omega
set_option maxRecDepth 100000 in
set_option maxHeartbeats 1000000 in
theorem ratio_any (n : Nat) (d : Nat) (w : World) (hd : 0 < d) (h2 : n ≤ 4611686018427387904) (h3 : d ≤ 4611686018427387904) :
    Calls Try.prog 54 #[.int .i64 n, .int .i64 d] w fun e w' => e = .returned (Fr (mkRat n d)) ∧ Below w.heap.size w w' := by
  have hg : 0 < Nat.gcd n d := Nat.gcd_pos_of_pos_right _ hd
  have HL := Lib.hid (low_eq n d hd)
  obtain ⟨g, hg0⟩ : ∃ g, g = Nat.gcd n d := ⟨_, rfl⟩
  have nn : IntKind.i64.wrap (-(n : Int)) = -(n : Int) := IntWalk.i64_in _ (by omega)
  go_enter Try.func54, Try.ntmps54
  go_wp2_with fail
  refine (rgcd_any n d _ (by omega) (by omega)).mono ?_
  rintro e w' ⟨rfl, hw0⟩; obtain rfl := hw0.symm
  rw [← hg0]
  rw [← hg0] at HL hg
  have Hg := Lib.hid hg0
  clear hg0
  have hh := heap_alloc_new w (.cells #[.int .i64 0, .int .i64 0] 35)
  have hB := ((Below.refl _ w).alloc (Nat.le_refl _) (.cells #[.int .i64 0, .int .i64 0] 35))
  generalize (w.alloc (.cells #[.int .i64 0, .int .i64 0] 35)) = w1 at hh hB ⊢
  have hg1 : (1 : Int) ≤ (g : Int) := by omega
  have hq : ((g : Int) == 0) = false := by simp; omega
  obtain ⟨⟨c0, c1⟩, f0, f1⟩ := row_fr hh
  have b1 := IntWalk.tdiv_le n g (by omega) hg1
  have b2 := IntWalk.tdiv_le d g (by omega) hg1
  have q1 : IntKind.i64.wrap ((n : Int) / (g : Int)) = (n : Int) / (g : Int) := IntWalk.i64_in _ (by omega)
  have q2 : IntKind.i64.wrap ((d : Int) / (g : Int)) = (d : Int) / (g : Int) := IntWalk.i64_in _ (by omega)
  clear b1 b2
  go_wp2
  go_region
  go_wp2
  have h3 := two_cells hh (.int .i64 (n / g)) (.int .i64 (d / g))
  exact bodyPost_ret (results_cell_row rfl _ _ _ _ _ _ _ rfl h3 Try.underlying35 rfl infoRat2) rfl ⟨ret_fr HL.out.1 HL.out.2, below_drewN (below_setCell (below_setCell hB (Nat.le_refl _) _) (Nat.le_refl _) _) 1⟩
set_option maxRecDepth 100000 in
set_option maxHeartbeats 1000000 in
theorem rareClaims_any (l : List Int) (ao : Option Addr) (n cap : Nat) (w : World) (hI : Ints w ao l) (hln : n = l.length) (hn : n ≤ 100000) :
    Calls Try.prog 57 #[.slice ao n cap] w fun e w' => e = .returned (.bool (Cl.okC l)) ∧ w' = w := by
  have Hn := Lib.hid hln
  clear hln
  go_enter Try.func57, Try.ntmps57
  go_wp2_with fail
  refine (rwithin_any n 1 8 w).mono ?_
  rintro e w1 ⟨rfl, hw0⟩; obtain rfl := hw0.symm
  by_cases hg : 1 ≤ n ∧ n ≤ 8
  · have e1 : (decide (1 ≤ (n : Int)) && decide ((n : Int) ≤ 8)) = true := by simp; omega
    rw [e1]
    go_wp2
    go_loopw [3] (fun i wr => ∃ (k : Nat), k ≤ n ∧ i = .int .i64 k ∧ Hid (∀ x ∈ l.take k, 0 ≤ x ∧ x ≤ 1000) ∧ wr = w) (fun i _ => n - (intOf i).toNat)
    case atStart => exact ⟨0, Nat.zero_le _, rfl, Lib.hid (by simp), rfl⟩
    case round =>
      obtain ⟨k, hk, rfl, hS, hw⟩ := hrel
      rw [hw]
      clear hw wr
      by_cases hlt : k < n
      · have hkl : k < l.length := by have := Hn.out; omega
        obtain ⟨b, off, rfl, hbs, hc⟩ := hI.at hkl
        obtain ⟨x, hx⟩ : ∃ x, x = l.getD k 0 := ⟨_, rfl⟩
        rw [← hx] at hc
        have Hx := Lib.hid hx
        clear hx
        have i1 : (k : Int) < (n : Int) := by omega
        go_wp2_with fail
        refine (rwithin_any x 0 1000 w).mono ?_
        rintro e w1 ⟨rfl, hw0⟩; obtain rfl := hw0.symm
        by_cases hg2 : 0 ≤ x ∧ x ≤ 1000
        · have e2 : (decide (0 ≤ x) && decide (x ≤ 1000)) = true := by simp [hg2]
          rw [e2]
          go_wp2
          go_roundw
          case rel => exact ⟨k + 1, by omega, by go_num, Lib.hid (by
            intro y hy
            rw [List.take_succ_eq_append_getElem hkl] at hy
            rcases List.mem_append.1 hy with h1 | h1
            · exact hS.out y h1
            · rw [List.mem_singleton] at h1
              have h2 : l.getD k 0 = l[k] := by rw [List.getD_eq_getElem?_getD, List.getElem?_eq_getElem hkl]; rfl
              rw [h1, ← h2, ← Hx.out]; exact hg2), trivial⟩
          case measure => simp [intOf]; omega
        · have e2 : (decide (0 ≤ x) && decide (x ≤ 1000)) = false := by simp; omega
          rw [e2]
          have hfin : Hid (Cl.okC l = false) := Lib.hid (by
            rw [Bool.eq_false_iff]
            intro hh
            apply hg2
            rw [Hx.out]
            exact (Cl.okC_iff.1 hh).2.2 (l.getD k 0) (by rw [List.getD_eq_getElem?_getD, List.getElem?_eq_getElem hkl]; simp))
          go_wp2
          go_ret
          exact ⟨ret_bool hfin.out.symm, rfl⟩
      · have hkn : k = n := by omega
        have hfin : Hid (Cl.okC l = true) := Lib.hid (by
          rw [Cl.okC_iff]
          have h1 := hS.out
          rw [hkn, Hn.out, List.take_length] at h1
          have h2 := Hn.out
          exact ⟨by omega, by omega, h1⟩)
        clear hkn
        go_wp2
        go_ret
        exact ⟨ret_bool hfin.out.symm, rfl⟩
  · have e1 : (decide (1 ≤ (n : Int)) && decide ((n : Int) ≤ 8)) = false := by simp; omega
    rw [e1]
    have hfin : Hid (Cl.okC l = false) := Lib.hid (by
      rw [Bool.eq_false_iff]
      intro hh
      have h1 := Cl.okC_iff.1 hh
      have h2 := Hn.out
      omega)
    go_wp2
    go_ret
    exact ⟨ret_bool hfin.out.symm, rfl⟩
set_option maxRecDepth 100000 in
set_option maxHeartbeats 1000000 in
theorem rvalidate_any (l : List Int) (E : Int) (ao : Option Addr) (n cap : Nat) (w : World) (hI : Ints w ao l) (hln : n = l.length) (hn : n ≤ 100000) :
    Calls Try.prog 20 #[.slice ao n cap, .int .i64 E] w fun e w' => e = .returned (.int .i64 (Cl.caseC l E)) ∧ w' = w := by
  have Hn := Lib.hid hln
  clear hln
  go_enter Try.func20, Try.ntmps20
  go_wp2_with fail
  refine (rareClaims_any l ao n cap w hI Hn.out hn).mono ?_
  rintro e w1 ⟨rfl, hw0⟩; obtain rfl := hw0.symm
  obtain ⟨v, hv⟩ : ∃ v, v = Cl.okC l := ⟨_, rfl⟩
  rw [← hv]
  have Hv := Lib.hid hv
  clear hv
  cases v
  · have hfin : Hid (Cl.caseC l E = 1) := Lib.hid (Cl.caseC_no (by rw [← Hv.out]; simp))
    go_wp2_with fail
    go_ret
    exact ⟨ret_int hfin.out.symm, rfl⟩
  · go_wp2_with fail
    have hC := Cl.okC_iff.1 Hv.out.symm
    refine (rSum_any l ao n cap w hI Hn.out (by have := Hn.out; omega) (fun x hx => by have := hC.2.2 x hx; omega)).mono ?_
    rintro e w2 ⟨rfl, hw0⟩; obtain rfl := hw0.symm
    clear hC
    obtain ⟨S, hS⟩ : ∃ S, S = Fl.sumI l := ⟨_, rfl⟩
    rw [← hS]
    have HS := Lib.hid hS
    clear hS
    go_wp2_with fail
    refine (rwithin_any E 0 S w).mono ?_
    rintro e w2 ⟨rfl, hw0⟩; obtain rfl := hw0.symm
    by_cases hg : 0 ≤ E ∧ E ≤ S
    · have e1 : (decide (0 ≤ E) && decide (E ≤ S)) = true := by simp [hg]
      rw [e1]
      have hfin : Hid (Cl.caseC l E = 0) := Lib.hid (Cl.caseC_ok.2 ⟨Hv.out.symm, by omega, by rw [← HS.out]; omega⟩)
      go_wp2_with fail
      go_ret
      exact ⟨ret_int hfin.out.symm, rfl⟩
    · have e1 : (decide (0 ≤ E) && decide (E ≤ S)) = false := by simp; omega
      rw [e1]
      have hfin : Hid (Cl.caseC l E = 1) := Lib.hid (Cl.caseC_no (by rw [← HS.out]; omega))
      go_wp2_with fail
      go_ret
      exact ⟨ret_int hfin.out.symm, rfl⟩
end Go.Proofs.Yteecfdjphjkdkaa
