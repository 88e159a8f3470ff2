import Derived.Test.YteecfdjphjkdkaaMe
import Derived.Test.YteecfdjphjkdkaaFp
namespace Go.Proofs.Yteecfdjphjkdkaa
open Go.RowKit
namespace Cl
def rtOk (x : Int × Int) : Bool := decide (0 ≤ x.1) && (decide (x.1 ≤ 10000000) && (decide (1 ≤ x.2) && (decide (x.2 ≤ 10000) && decide (Nat.gcd x.1.toNat x.2.toNat = 1))))
theorem rtOk_iff {x : Int × Int} : rtOk x = true ↔ (0 ≤ x.1 ∧ x.1 ≤ 10000000 ∧ 1 ≤ x.2 ∧ x.2 ≤ 10000 ∧ Nat.gcd x.1.toNat x.2.toNat = 1) := by
  unfold rtOk; simp only [Bool.and_eq_true, decide_eq_true_eq]
/-- The common denominator; 0 if the list is not fit. -/
def comF (a : Nat) : List (Int × Int) → Nat
  | [] => a
  | x :: r => if rtOk x = true ∧ Nat.lcm a x.2.toNat ≤ 10000 then comF (Nat.lcm a x.2.toNat) r else 0
def com (A : List (Int × Int)) : Nat := comF 1 A
def fit (A : List (Int × Int)) : Bool := decide (com A ≠ 0)
theorem fit_no {A : List (Int × Int)} (h : com A = 0) : fit A = false := by unfold fit; rw [h]; rfl
theorem fit_ok {A : List (Int × Int)} (h : com A ≠ 0) : fit A = true := decide_eq_true h
theorem comF_bad {a : Nat} {x : Int × Int} {r : List (Int × Int)} (h : ¬ rtOk x = true) : comF a (x :: r) = 0 := if_neg fun hh => h hh.1
theorem comF_big {a : Nat} {x : Int × Int} {r : List (Int × Int)} (h : ¬ Nat.lcm a x.2.toNat ≤ 10000) : comF a (x :: r) = 0 := if_neg fun hh => h hh.2
theorem comF_ok {a : Nat} {x : Int × Int} {r : List (Int × Int)} (h : rtOk x = true) (h2 : Nat.lcm a x.2.toNat ≤ 10000) : comF a (x :: r) = comF (Nat.lcm a x.2.toNat) r := if_pos ⟨h, h2⟩
theorem lcm_eq (a d : Nat) : a * (d / Nat.gcd a d) = Nat.lcm a d := by
  rw [Nat.lcm, Nat.mul_div_assoc _ (Nat.gcd_dvd_right a d)]
end Cl
set_option maxRecDepth 100000 in
set_option maxHeartbeats 2000000 in
theorem commonDen_any (A : List (Int × Int)) (ao : Option Addr) (n cap : Nat) (w : World) (hP : Pts w ao A) (hln : n = A.length) (hn : n ≤ 100000) :
    Calls Try.prog 59 #[.slice ao n cap] w fun e w' => e = .returned (.tuple #[.int .i64 (Cl.com A : Nat), .bool (Cl.fit A)]) ∧ Below w.heap.size w w' := by
  have HP := Lib.hid hP
  have Hn := Lib.hid hln
  have HF0 := Lib.hid (@Cl.fit_no A)
  have HF1 := Lib.hid (@Cl.fit_ok A)
  obtain ⟨R, hR⟩ : ∃ R, R = Cl.com A := ⟨_, rfl⟩
  rw [← hR] at HF0 HF1 ⊢
  generalize Cl.fit A = bb at HF0 HF1 ⊢
  have HR : Hid (Cl.comF 1 A = R) := Lib.hid (by rw [hR]; rfl)
  have hB := Below.refl w.heap.size w
  clear hln hP hR
  go_enter Try.func59, Try.ntmps59
  go_wp2_with fail
  go_loopw [4, 6, 9] (fun d _ i wr => ∃ (k D : Nat), k ≤ n ∧ i = .int .i64 k ∧ d = .int .i64 D ∧ 1 ≤ D ∧ D ≤ 10000 ∧ Hid (Cl.comF D (A.drop k) = R) ∧ Below w.heap.size w wr) (fun _ _ i _ => n - (intOf i).toNat)
  case atStart => exact ⟨0, 1, Nat.zero_le _, rfl, rfl, by omega, by omega, Lib.hid (by rw [List.drop_zero]; exact HR.out), hB⟩
  case round =>
    clear hB
    obtain ⟨k, D, hk, rfl, rfl, hD1, hD2, hr, hB⟩ := hrel
    by_cases hlt : k < n
    · have hkl : k < A.length := by have := Hn.out; omega
      obtain ⟨b, off, rfl, hbs, hx1, hx2⟩ := pts_at (HP.out.below hB) hkl
      have hdr : Hid (Cl.comF D (A[k] :: A.drop (k + 1)) = R) := Lib.hid (by rw [← List.drop_eq_getElem_cons hkl]; exact hr.out)
      generalize A[k] = x at hx1 hx2 hdr
      obtain ⟨x1, x2⟩ := x
      simp only at hx1 hx2
      have i1 : (k : Int) < (n : Int) := by omega
      have hbad : Hid (¬ (0 ≤ x1 ∧ x1 ≤ 10000000 ∧ 1 ≤ x2 ∧ x2 ≤ 10000 ∧ Nat.gcd x1.toNat x2.toNat = 1) → R = 0) := Lib.hid (fun h => by
        rw [← hdr.out]; exact Cl.comF_bad (fun hh => h (Cl.rtOk_iff.1 hh)))
      have r0 := heap_alloc_new wr (.cells #[.int .i64 x1, .int .i64 x2] 35)
      have hBa : Below w.heap.size w (wr.alloc (.cells #[.int .i64 x1, .int .i64 x2] 35)) := hB.alloc hB.size _
      have hEnd : Hid (∀ w', Below w.heap.size w w' → R = 0 → (Ending.returned (.tuple #[.int .i64 0, .bool false]) = .returned (.tuple #[.int .i64 (R : Nat), .bool bb]) ∧ Below w.heap.size w w')) := Lib.hid (fun w' h1 h2 => ⟨by rw [HF0.out h2, h2]; rfl, h1⟩)
      by_cases h1 : x1 < 0
      · have hR0 := Lib.hid (hbad.out (by omega))
        go_wp2_with fail
        go_ret2
        exact hEnd.out _ hBa hR0.out
      · by_cases h2 : x1 > 10000000
        · have hR0 := Lib.hid (hbad.out (by omega))
          go_wp2_with fail
          go_ret2
          exact hEnd.out _ hBa hR0.out
        · by_cases h3 : x2 < 1
          · have hR0 := Lib.hid (hbad.out (by omega))
            go_wp2_with fail
            go_ret2
            exact hEnd.out _ hBa hR0.out
          · by_cases h4 : x2 > 10000
            · have hR0 := Lib.hid (hbad.out (by omega))
              go_wp2_with fail
              go_ret2
              exact hEnd.out _ hBa hR0.out
            · obtain ⟨u, rfl⟩ := Int.eq_ofNat_of_zero_le (show 0 ≤ x1 by omega)
              obtain ⟨d, rfl⟩ := Int.eq_ofNat_of_zero_le (show 0 ≤ x2 by omega)
              rw [Int.toNat_natCast, Int.toNat_natCast] at hbad
              have hd1 : 1 ≤ d := by omega
              have hd2 : d ≤ 10000 := by omega
              go_upto_region 5 with fail
              generalize wr.alloc (.cells #[.int .i64 (u : Int), .int .i64 (d : Int)] 35) = W at r0 hBa ⊢
              generalize wr.heap.size = G at r0 ⊢
              obtain ⟨⟨c0, c1⟩, -, -⟩ := row_fr r0
              go_wp2_with fail
              refine (divisor_any u d W (by omega) (by omega)).mono ?_
              rintro e w2 ⟨rfl, hb2⟩
              replace hB := hBa.trans (hb2.mono hBa.size)
              replace r0 := heap_keep hb2 r0
              clear hb2 hBa c0 c1
              obtain ⟨⟨c0, c1⟩, -, -⟩ := row_fr r0
              by_cases h5 : Nat.gcd u d = 1
              · have e5 : (((Nat.gcd u d : Nat) : Int) != 1) = false := by rw [h5]; rfl
                have hrt : Hid (Cl.rtOk ((u : Int), (d : Int)) = true) := Lib.hid (Cl.rtOk_iff.2 ⟨by omega, by omega, by omega, by omega, by simpa using h5⟩)
                have hL := Cl.lcm_eq D d
                have hg1 : 1 ≤ Nat.gcd D d := Nat.gcd_pos_of_pos_left _ (by omega)
                have hg2 : Nat.gcd D d ≤ D := Nat.gcd_le_left _ (by omega)
                have hgd : Hid (d / Nat.gcd D d ≤ d) := Lib.hid (Nat.div_le_self _ _)
                obtain ⟨g, hg⟩ : ∃ g, g = Nat.gcd D d := ⟨_, rfl⟩
                obtain ⟨c, hc⟩ : ∃ c, c = d / g := ⟨_, rfl⟩
                rw [← hg, ← hc] at hL hgd
                rw [← hg] at hg1 hg2
                have hcb := hgd.out
                have hLb : D * c ≤ 10000 * 10000 := Nat.mul_le_mul hD2 (by omega)
                have hLe : Hid (Nat.lcm D ((d : Int)).toNat = D * c) := Lib.hid (by rw [hL]; simp)
                have q0 : ¬ (g = 0) := by omega
                have q1 : (d : Int).tdiv (g : Int) = (c : Int) := by rw [hc]; exact (Int.ofNat_tdiv d g).symm
                have q2 : IntKind.i64.wrap (c : Int) = (c : Int) := IntWalk.i64_in _ (by omega)
                obtain ⟨M, hM⟩ : ∃ M, M = D * c := ⟨_, rfl⟩
                have q3 : IntKind.i64.wrap ((D : Int) * (c : Int)) = (M : Int) := by rw [hM, Int.natCast_mul]; exact IntWalk.i64_in _ (by rw [← Int.natCast_mul]; omega)
                rw [← hM] at hLe hLb
                have Hg := Lib.hid hg
                clear hL hc hM hgd hg h5
                go_upto_region 7 with fail
                have hbq := below_drewN (Below.refl w2.heap.size w2) 1
                go_region_held3 (fun w' => w'.cell? ⟨G, 0, none⟩ = some (.int .i64 (u : Int)) ∧ w'.cell? ⟨G, 1, none⟩ = some (.int .i64 (d : Int)))
                  (first | exact ⟨c0, c1⟩ | exact ka)
                  ((go_at_call 79; refine (divisor_any D d _ (by omega) (by omega)).mono ?_; rintro e w3 ⟨rfl, hb3⟩; rw [← Hg.out]; have ka := And.intro (keep_cell (g := G) (o := 0) hb3 c0) (keep_cell (g := G) (o := 1) hb3 c1); have hB3 := (below_drewN hB 1).trans (hb3.mono hB.size)))
                by_cases h6 : M ≤ 10000
                · have hM1 : 1 ≤ M := by
                    have h := Nat.lcm_pos (show 0 < D by omega) (show 0 < ((d : Int)).toNat by omega)
                    rw [hLe.out] at h; omega
                  have hN : Hid (Cl.comF M (A.drop (k + 1)) = R) := Lib.hid (by
                    have h := hdr.out
                    rw [Cl.comF_ok hrt.out (by rw [hLe.out]; exact h6), hLe.out] at h
                    exact h)
                  go_wp2_with fail
                  go_roundw
                  case rel => exact ⟨k + 1, M, by omega, by go_num, rfl, hM1, h6, hN, hB3⟩
                  case measure => simp [intOf]; omega
                · have hR0 : Hid (R = 0) := Lib.hid (by
                    have h := hdr.out
                    rw [Cl.comF_big (by rw [hLe.out]; exact h6)] at h
                    exact h.symm)
                  go_wp2_with fail
                  go_ret2
                  exact hEnd.out _ hB3 hR0.out
              · have e5 : (((Nat.gcd u d : Nat) : Int) != 1) = true := by simp; omega
                have hR0 := Lib.hid (hbad.out (fun h => h5 h.2.2.2.2))
                go_wp2_with fail
                go_ret2
                exact hEnd.out _ hB hR0.out
    · have hkn : k = n := by omega
      have hRD : Hid (R = D) := Lib.hid (by
        have h := hr.out
        rw [hkn, Hn.out, List.drop_length] at h
        exact h.symm)
      clear hkn
      go_wp2_with fail
      go_ret2
      exact ⟨by rw [HF1.out (by rw [hRD.out]; omega), hRD.out]; rfl, hB⟩
end Go.Proofs.Yteecfdjphjkdkaa
