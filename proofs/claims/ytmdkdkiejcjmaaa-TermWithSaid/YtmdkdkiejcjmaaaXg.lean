import Derived.Test.YtmdkdkiejcjmaaaXd
import Derived.Test.YtmdkdkiejcjmaaaSk
import Derived.Test.YtmdkdkiejcjmaaaSo
import Derived.Test.YtmdkdkiejcjmaaaWb
/- The law TopTerms. -/
namespace Go.Proofs.Ytmdkdkiejcjmaaa
open Go.Joins Go.Deep Go.ChangeShapes Go.WideShapes Go.ChangeAt Go.RowKit

namespace Tm
theorem ends_more {c c' p : Nat → Bool} (h : ∀ x, c' x = true → c x = true) {d n x y : Nat} (hx : Ends c p d n x) (hy : Ends c' p d n y) : x ≤ y := by
  have hc : ∀ D k, cnt c' D k ≤ cnt c D k := fun D k => by
    induction k with
    | zero => exact Nat.le_refl _
    | succ k ih =>
      rw [cnt_succ, cnt_succ]
      cases h1 : c' (D + k) with
      | false => simp; omega
      | true => rw [h _ h1]; simp; omega
  obtain ⟨a, h1, h2⟩ := hx
  obtain ⟨b, k1, k2⟩ := hy
  have hab : a ≤ b := by
    rcases h1 with ⟨h3, rfl⟩ | ⟨h3, h4⟩ <;> rcases k1 with ⟨k3, rfl⟩ | ⟨k3, k4⟩
    · exact Nat.le_refl _
    · omega
    · omega
    · refine Nat.le_of_not_lt fun hlt => ?_
      have e1 := h4.num
      have e2 := k4.num
      have e3 := k4.le
      have e4 := hc (d + 1) (b - (d + 1) + 1)
      rw [cnt_succ c', show d + 1 + (b - (d + 1)) = b by omega, k4.is] at e4
      simp at e4
      have e5 := cnt_mono (p := c) (d := d + 1) (show b - (d + 1) + 1 ≤ a - (d + 1) by omega)
      omega
  exact Nth.mono hab (Nat.le_refl _) h2 k2
theorem count_perm {S L : List (Int × Int)} {x y : Int} (h : L.Perm (S ++ [(x, y)])) (z : Nat) (hz : count L z = true) : count S z = true := by
  unfold count still at *
  rw [Bool.not_eq_true', List.any_eq_false] at *
  exact fun s hs => hz s ((h.mem_iff).2 (List.mem_append_left _ hs))
theorem spans_pair : ∀ {l : List (Int × Int)} {m : Int}, spans m l = true → l.Pairwise (fun a b => a.2 < b.1)
  | [], _, _ => List.Pairwise.nil
  | s :: r, m, h => by
    unfold spans at h
    simp only [Bool.and_eq_true, decide_eq_true_eq] at h
    obtain ⟨h1, h2, h3, h4⟩ := h
    exact List.Pairwise.cons (fun b hb => by have := (spans_mem h4 b hb).1; omega) (spans_pair h4)
theorem spans_of : ∀ {l : List (Int × Int)} {m : Int}, (∀ s ∈ l, m ≤ s.1 ∧ s.1 ≤ s.2 ∧ s.2 ≤ 10000) → l.Pairwise (fun a b => a.2 < b.1) → spans m l = true
  | [], _, _, _ => rfl
  | s :: r, m, h, hp => by
    obtain ⟨h1, h2, h3⟩ := h s (by simp)
    have hc := List.pairwise_cons.1 hp
    unfold spans
    rw [decide_eq_true h1, decide_eq_true h2, decide_eq_true h3, spans_of (fun t ht => ⟨by have := hc.1 t ht; omega, (h t (by simp [ht])).2⟩) hc.2]
    rfl
theorem wcode_ok {f x y : Int} {F : List Int} {S : List (Int × Int)} (h : wcode f F S x y = 0) : vcode f F S = 0 ∧ S.length < 4 ∧ spans 0 [(x, y)] = true ∧ shares x y S = false := by
  unfold wcode at h
  split at h
  · rename_i h1; exact absurd h h1
  · rename_i h1
    split at h
    · cases h
    · rename_i h2
      split at h
      · rename_i h3
        split at h
        · cases h
        · rename_i h4
          exact ⟨by simpa using h1, by omega, h3, by simpa using h4⟩
      · cases h
theorem new_valid {f x y : Int} {F : List Int} {S L : List (Int × Int)} (h : wcode f F S x y = 0) (hp : L.Perm (S ++ [(x, y)])) (hs : L.Pairwise (fun a b => a.1 ≤ b.1)) : vcode f F L = 0 := by
  obtain ⟨h1, h2, h3, h4⟩ := wcode_ok h
  unfold vcode at h1
  split at h1
  · cases h1
  · rename_i g1
    split at h1
    · cases h1
    · rename_i g2
      split at h1
      · rename_i g3
        rw [Bool.and_eq_true] at g3
        have hsp := spans_pair g3.2
        have hal : ∀ s ∈ S ++ [(x, y)], 0 ≤ s.1 ∧ s.1 ≤ s.2 ∧ s.2 ≤ 10000 := fun s hs => by
          rcases List.mem_append.1 hs with h5 | h5
          · exact spans_mem g3.2 s h5
          · exact spans_mem h3 s h5
        have hd : (S ++ [(x, y)]).Pairwise (fun a b => a.2 < b.1 ∨ b.2 < a.1) := by
          refine List.pairwise_append.2 ⟨hsp.imp fun h => .inl h, by simp, fun a ha b hb => ?_⟩
          have hb2 : b = (x, y) := by simpa using hb
          subst hb2
          unfold shares at h4
          rw [List.any_eq_false] at h4
          have h5 := h4 a ha
          simp at h5
          by_cases h6 : x ≤ a.2
          · right; exact h5 h6
          · left; show a.2 < x; omega
        have hd2 : L.Pairwise (fun a b => a.2 < b.1 ∨ b.2 < a.1) := (hp.pairwise_iff (fun {a b} h => h.symm)).2 hd
        have hL : L.Pairwise (fun a b => a.2 < b.1) := by
          have := (hd2.and hs).imp_of_mem (S := fun a b => a.2 < b.1) (fun {a b} ha hb h => by
            obtain ⟨h5, h6⟩ := h
            have h7 := (hal b ((hp.mem_iff).1 hb)).2.1
            rcases h5 with h5 | h5
            · exact h5
            · omega)
          exact this
        have hsl : spans 0 L = true := spans_of (fun s hs => hal s ((hp.mem_iff).1 hs)) hL
        have hlen : L.length = S.length + 1 := by rw [hp.length_eq, List.length_append]; rfl
        unfold vcode
        rw [if_neg g1, if_neg (by omega), g3.1, hsl]
        rfl
      · cases h1
theorem ch_one {f A B e : Int} {F : List Int} {S : List (Int × Int)} {v : List Int} {z : Nat} (h0 : tcode f F S A [B] = 0) (hz : Ends (count S) (work f F) A.toNat B.toNat z) (h : Ch f F S A [B] v e) : (10000 < z ∧ e = 10) ∨ (z ≤ 10000 ∧ e = 0 ∧ v = [(z : Int)]) := by
  rcases h with ⟨h1, -⟩ | ⟨-, ⟨h1, -⟩ | ⟨-, ⟨h1, rfl, rfl⟩ | ⟨rfl, x, h1⟩⟩⟩
  · exact absurd h0 h1
  · simp at h1
  · obtain ⟨k, y, o, x, hk, h2, h3, h4⟩ := h1
    have : k = 0 := by simpa using hk
    subst this
    obtain ⟨rfl, rfl⟩ := h2
    obtain rfl := h3.unique hz
    exact .inl ⟨h4, rfl⟩
  · obtain ⟨y, o, h2, h3, h4, rfl⟩ := h1
    obtain ⟨rfl, rfl⟩ := h2
    obtain rfl := h3.unique hz
    exact .inr ⟨h4, rfl, rfl⟩
theorem lat_end {p c : Nat → Bool} {A n e x : Nat} {b : Bool} (hE : Ends c p A n e) (hex : ∃ z, Ends c p 0 n z) (hex2 : ∃ z, Ends c p (x + 1) n z) (h : Lat p c e n x b) : b = true ∧ A ≤ x ∧ x ≤ e ∧ ∀ z, Ends c p x n z → z ≤ e := by
  obtain ⟨l1, l2⟩ := lat_facts h
  have hle := lat_le h
  have hb : b = true := by
    cases b with
    | true => rfl
    | false =>
      exfalso
      have hx0 : x = 0 := by
        obtain ⟨l, o, hB, h2⟩ := h
        rcases h2 with ⟨-, h3, -⟩ | ⟨-, ⟨h3, -⟩ | ⟨-, h3, -⟩⟩
        · exact h3
        · cases h3
        · exact h3
      subst hx0
      obtain ⟨z, hz⟩ := hex
      have h3 := (l1 z hz).2 rfl
      have h4 := Ends.mono (Nat.zero_le A) (Nat.le_refl n) hz hE
      omega
  refine ⟨hb, ?_, hle, fun z hz => (l1 z hz).1 hb⟩
  refine Nat.le_of_not_lt fun hlt => ?_
  obtain ⟨z, hz⟩ := hex2
  have h3 := l2 z hb hz
  have h4 := Ends.mono (show x + 1 ≤ A from hlt) (Nat.le_refl n) hz hE
  omega
theorem icode_of {f A B o : Int} {F : List Int} {S : List (Int × Int)} (h : tcode f F S A [B] = 0) (h1 : 0 ≤ o) (h2 : o ≤ 10000) : icode f F S A B o = 0 := by
  unfold icode
  rw [if_neg (by simpa using h), if_pos]
  unfold upTo
  simpa using ⟨h1, h2⟩
theorem ends_zero {c p : Nat → Bool} {A n : Nat} (h : Ends c p A n A) : n = 0 := by
  obtain ⟨a, h1, h2⟩ := h
  rcases h1 with ⟨h3, -⟩ | ⟨h3, h4⟩
  · exact h3
  · have := h4.le
    have := h2.le
    omega
theorem ends_cnt2 {c p : Nat → Bool} {d n x : Nat} (h : Ends c p d n x) : n ≤ cnt c (d + 1) (x + 1 - (d + 1)) := by
  obtain ⟨a, h1, h2⟩ := h
  have h3 := h2.le
  rcases h1 with ⟨rfl, rfl⟩ | ⟨h4, h5⟩
  · exact Nat.zero_le _
  · have h6 := h5.le
    have h7 := h5.num
    have h9 := cnt_succ c (d + 1) (a - (d + 1))
    rw [show d + 1 + (a - (d + 1)) = a by omega, h5.is] at h9
    simp only [if_true] at h9
    have h10 := cnt_mono (p := c) (d := d + 1) (show a - (d + 1) + 1 ≤ x + 1 - (d + 1) by omega)
    omega
theorem aw_const {x : Nat} (h : Aw 0 [] [] 5 1 x) : x = 7 := by
  rcases h with ⟨-, h1, -⟩ | ⟨h1, -⟩
  · have h2 : After (work 0 []) (5 : Int).toNat (1 : Int).toNat 7 := .inr ⟨by decide, by decide, by decide +kernel, by decide +kernel⟩
    exact h1.unique h2
  · exact absurd (by decide +kernel) h1
theorem tc_const : tcode 0 [] [] 5 [1] = 0 := by decide +kernel
end Tm

namespace Tm
theorem ends_ex2 {f : Int} {F : List Int} {S : List (Int × Int)} (hok : Ok 10000 f F S) (d n : Nat) (hd : d ≤ 100000) (hn : n ≤ 10000) : ∃ x, Ends (count S) (work f F) d n x := by
  have h1 : ∃ a, After (count S) d n a := by
    by_cases h0 : n = 0
    · exact ⟨d, .inl ⟨h0, rfl⟩⟩
    · obtain ⟨a, ha⟩ := nth_ex2 (p := count S) (D := d + 1) (m := n) (by omega) _ (cnt_enough (M := 10000) (X := d + 1 + (10000 + 1 + 2 * n)) (fun x hx _ => .inl (count_all hok x hx)) (d + 1) n (Nat.le_refl _))
      exact ⟨a, .inr ⟨by omega, ha⟩⟩
  obtain ⟨a, ha⟩ := h1
  have hab := Tm_after_le (M := 10000) (X := 4611686018427387904) (fun x h1 _ => .inl (count_all hok x h1)) (by omega) ha
  obtain ⟨x, hx⟩ := nth_ex2 (p := work f F) (D := a) (m := 1) (Nat.le_refl _) _ (cnt_enough (M := 10000) (X := 4611686018427387904) (fun x h1 h2 => work_two hok x h1 h2) a 1 (by omega))
  exact ⟨x, a, ha, hx⟩
end Tm

set_option maxRecDepth 100000 in
set_option maxHeartbeats 16000000 in
theorem topTerms_any (f : Int) (F : List Int) (S : List (Int × Int)) (aoF : Option Addr) (nF cF : Nat) (aoS : Option Addr) (nS cS : Nat) (A B x y : Int) (w : World) (hcl : Cl w aoF nF aoS nS F S) :
    Calls Try.prog 16 #[.agg #[.int .i64 f, .slice aoF nF cF, .slice aoS nS cS], .agg #[.int .i64 A, .int .i64 B], .agg #[.int .i64 x, .int .i64 y]] w fun e w' => e = .returned (.bool true) ∧ Below w.heap.size w w' := by
  have hA := below_alloc3 w (.cells #[.int .i64 f, .slice aoF nF cF, .slice aoS nS cS] 25) (.cells #[.int .i64 A, .int .i64 B] 38) (.cells #[.int .i64 x, .int .i64 y] 64)
  obtain ⟨rc, rt, rs⟩ := heap3 w (.cells #[.int .i64 f, .slice aoF nF cF, .slice aoS nS cS] 25) (.cells #[.int .i64 A, .int .i64 B] 38) (.cells #[.int .i64 x, .int .i64 y] 64)
  go_enter Try.func16, Try.ntmps16
  go_upto_region 1 with fail
  generalize ((w.alloc (.cells #[.int .i64 f, .slice aoF nF cF, .slice aoS nS cS] 25)).alloc (.cells #[.int .i64 A, .int .i64 B] 38)).alloc (.cells #[.int .i64 x, .int .i64 y] 64) = W0 at hA rc rt rs ⊢
  obtain ⟨G, hG⟩ : ∃ g, g = w.heap.size := ⟨_, rfl⟩
  rw [← hG] at rc rt rs ⊢
  have HG := Lib.hid hG
  clear hG
  replace hcl := hcl.below hA
  have c0 := cell_of_row W0 G 0 _ _ _ rc
  have c1 := cell_of_row W0 G 1 _ _ _ rc
  have c2 := cell_of_row W0 G 2 _ _ _ rc
  simp at c0 c1 c2
  obtain ⟨⟨d0, d1⟩, -, -⟩ := row_fr rt
  obtain ⟨⟨e0, e1⟩, -, -⟩ := row_fr rs
  clear rc rt rs
  have hX := AddWork_any 0 [] [] none 0 0 none 0 0 5 1 W0 ⟨ints_none _ _, pts_none _ _, rfl, rfl⟩ (by omega) (by omega)
  rw [Tm.tc_const] at hX
  go_wp2_with fail
  refine hX.mono ?_
  clear hX
  rintro e w1 ⟨⟨q, rfl, hq⟩, hbb⟩
  replace hcl := hcl.below hbb
  replace c0 := keep_cell hbb c0
  replace c1 := keep_cell hbb c1
  replace c2 := keep_cell hbb c2
  replace d0 := keep_cell hbb d0
  replace d1 := keep_cell hbb d1
  replace e0 := keep_cell hbb e0
  replace e1 := keep_cell hbb e1
  replace hA := hA.trans (hbb.mono hA.size)
  clear hbb
  obtain rfl := Tm.aw_const hq
  clear hq
  go_wp2_with fail
  refine (tlong_any f F S aoF nF cF aoS nS cS w1).mono ?_
  rintro e w2 ⟨rfl, hbb⟩
  replace hcl := hcl.below hbb
  replace c0 := keep_cell hbb c0
  replace c1 := keep_cell hbb c1
  replace c2 := keep_cell hbb c2
  replace d0 := keep_cell hbb d0
  replace d1 := keep_cell hbb d1
  replace e0 := keep_cell hbb e0
  replace e1 := keep_cell hbb e1
  replace hA := hA.trans (hbb.mono hA.size)
  clear hbb
  obtain ⟨B9, hB9⟩ : ∃ t, (decide (100 < nF) || decide (100 < nS)) = t := ⟨_, rfl⟩
  rw [hB9]
  cases B9 with
  | true =>
    clear hB9
    go_wp2_with fail
    go_ret
    exact ⟨rfl, hA⟩
  | false =>
    rw [Bool.or_eq_false_iff, decide_eq_false_iff_not, decide_eq_false_iff_not] at hB9
    obtain ⟨h9a, h8a⟩ := hB9
    have h9 : nF ≤ 100000 := by omega
    have h8 : nS ≤ 100000 := by omega
    clear h9a h8a
    obtain ⟨C, hC⟩ : ∃ c, c = Tm.tcode f F S A [B] := ⟨_, rfl⟩
    have HC := Lib.hid hC
    have hX := Ends_any f F S aoF nF cF aoS nS cS A B w2 hcl h9 h8
    rw [← hC] at hX
    clear hC
    go_wp2_with fail
    refine hX.mono ?_
    clear hX
    rintro e w3 ⟨⟨z, rfl, hz⟩, hbb⟩
    replace hcl := hcl.below hbb
    replace c0 := keep_cell hbb c0
    replace c1 := keep_cell hbb c1
    replace c2 := keep_cell hbb c2
    replace d0 := keep_cell hbb d0
    replace d1 := keep_cell hbb d1
    replace e0 := keep_cell hbb e0
    replace e1 := keep_cell hbb e1
    replace hA := hA.trans (hbb.mono hA.size)
    clear hbb
    by_cases hz0 : C = 0
    · have Htc := Lib.hid (HC.out.symm.trans hz0)
      obtain ⟨hv, hd, hts⟩ := Tm.tcode_ok Htc.out
      have ht := hts B (by simp)
      obtain ⟨hok, -, -⟩ := Tm.vcode_ok hv
      have Hv := Lib.hid hv
      have Hok := Lib.hid hok
      have hE : Tm.Ends (Tm.count S) (Tm.work f F) A.toNat B.toNat z := by
        rcases hz with ⟨-, h, -⟩ | ⟨h, -⟩
        · exact h
        · exact absurd hz0 h
      subst hz0
      obtain ⟨A0, rfl⟩ := Int.eq_ofNat_of_zero_le hd.1
      obtain ⟨B0, rfl⟩ := Int.eq_ofNat_of_zero_le ht.1
      rw [Int.toNat_natCast, Int.toNat_natCast] at hE
      have HE := Lib.hid hE
      obtain ⟨k1, k2, -⟩ := Tm.ends_cnt hE
      have Hz2 := Lib.hid k1
      have Hz1 := Lib.hid k2
      have hA4 : A0 ≤ 10000 := by omega
      have hB4 : B0 ≤ 400 := by omega
      have i2 : ¬ (z : Int) < (A0 : Int) := by omega
      clear hv hts hok hz hE k1 k2 HC hd ht
      obtain ⟨C2, hC2⟩ : ∃ c, c = Tm.wcode f F S x y := ⟨_, rfl⟩
      have hX := With_any f F S aoF nF cF aoS nS cS x y w3 hcl h9 h8
      rw [← hC2] at hX
      have HC2 := Lib.hid hC2
      clear hC2
      go_wp2_with fail
      refine hX.mono ?_
      clear hX
      rintro e w4 ⟨⟨f2, vF, vS, F2, L, rfl, hwr, ho1, ho2⟩, hbb⟩
      replace hcl := hcl.below hbb
      replace c0 := keep_cell hbb c0
      replace c1 := keep_cell hbb c1
      replace c2 := keep_cell hbb c2
      replace d0 := keep_cell hbb d0
      replace d1 := keep_cell hbb d1
      replace e0 := keep_cell hbb e0
      replace e1 := keep_cell hbb e1
      replace hA := hA.trans (hbb.mono hA.size)
      clear hbb
      obtain ⟨aF, kF, rfl, -, hI1⟩ := own_ints ho1 rfl
      obtain ⟨aS, kS, rfl, -, hI2⟩ := own_pts2 ho2 rfl
      clear ho1 ho2
      obtain ⟨mF, hmF⟩ : ∃ m, m = F2.length := ⟨_, rfl⟩
      obtain ⟨mS, hmS⟩ : ∃ m, m = L.length := ⟨_, rfl⟩
      rw [← hmF, ← hmS]
      have HmF := Lib.hid hmF
      have HmS := Lib.hid hmS
      clear hmF hmS
      go_upto_region 13 with fail
      have hal5 := (Below.refl w4.heap.size w4).alloc (Nat.le_refl _) (.cells #[.int .i64 f2, .slice aF mF kF, .slice aS mS kS] 25)
      have r5 := heap_alloc_new w4 (.cells #[.int .i64 f2, .slice aF mF kF, .slice aS mS kS] 25)
      generalize w4.alloc (.cells #[.int .i64 f2, .slice aF mF kF, .slice aS mS kS] 25) = w5 at hal5 r5 ⊢
      obtain ⟨G5, hG5⟩ : ∃ g, g = w4.heap.size := ⟨_, rfl⟩
      rw [← hG5] at r5 ⊢
      clear hG5
      replace hcl := hcl.below hal5
      replace c0 := keep_cell hal5 c0
      replace c1 := keep_cell hal5 c1
      replace c2 := keep_cell hal5 c2
      replace d0 := keep_cell hal5 d0
      replace d1 := keep_cell hal5 d1
      replace e0 := keep_cell hal5 e0
      replace e1 := keep_cell hal5 e1
      replace hA := hA.trans (hal5.mono hA.size)
      replace hI1 := hI1.below hal5
      replace hI2 := hI2.below hal5
      clear hal5
      by_cases hc2 : C2 = 0
      · obtain ⟨hf, hF, hp, hs⟩ : f = f2 ∧ F = F2 ∧ L.Perm (S ++ [(x, y)]) ∧ L.Pairwise (fun a b => a.1 ≤ b.1) := by
          rcases hwr with ⟨h, -⟩ | ⟨-, h⟩
          · exact absurd (HC2.out.symm.trans hc2) h
          · exact ⟨h.1.symm, h.2.1.symm, h.2.2⟩
        subst hf hF
        have hw := HC2.out.symm.trans hc2
        have hv2 := Tm.new_valid hw hp hs
        have ht2 := Tm.tcode_of (x := (A0 : Int)) (t := (B0 : Int)) hv2 (by omega) (by omega) (by omega) (by omega)
        have hl9 := (Tm.vcode_ok hv2).2
        have g0 := cell_of_row w5 G5 0 _ _ _ r5
        have g1 := cell_of_row w5 G5 1 _ _ _ r5
        have g2 := cell_of_row w5 G5 2 _ _ _ r5
        simp at g0 g1 g2
        have hE5 := Ends_any f F L aF mF kF aS mS kS (A0 : Int) (B0 : Int) w5 ⟨hI1, hI2, HmF.out, HmS.out⟩ (by have := HmF.out; omega) (by have := HmS.out; omega)
        rw [ht2] at hE5
        have Hp := Lib.hid hp
        subst hc2
        clear hp hs hw hv2 ht2 hl9 r5 hI1 hI2 hwr HC2
        go_wp2_with fail
        refine hE5.mono ?_
        clear hE5
        rintro e w6 ⟨⟨z5, rfl, hz5⟩, hbb⟩
        replace hcl := hcl.below hbb
        replace c0 := keep_cell hbb c0
        replace c1 := keep_cell hbb c1
        replace c2 := keep_cell hbb c2
        replace d0 := keep_cell hbb d0
        replace d1 := keep_cell hbb d1
        replace e0 := keep_cell hbb e0
        replace e1 := keep_cell hbb e1
        replace hA := hA.trans (hbb.mono hA.size)
        clear hbb g0 g1 g2
        have hzz : z ≤ z5 := by
          rcases hz5 with ⟨-, h, -⟩ | ⟨h, -⟩
          · exact Tm.ends_more (fun t ht => Tm.count_perm Hp.out t ht) HE.out (by simpa using h)
          · exact absurd rfl h
        have i9 : ¬ (z5 : Int) < (z : Int) := by omega
        clear hz5 Hp HmF HmS
        have i3 : (A0 : Int) ≤ (z : Int) := by have := Hz1.out; omega
        have hal := (Below.refl w6.heap.size w6).alloc (Nat.le_refl _) (.cells #[.int .i64 (B0 : Nat)] 3)
        by_cases hbig : 10000 < z
        · have i4 : (10000 : Int) < (z : Int) := by omega
          go_wp2_with fail
          refine (Chain_any f F S aoF nF cF aoS nS cS A0 [(B0 : Int)] (some ⟨w6.heap.size, 0, none⟩) 1 1 _ (hcl.below hal) h9 h8 (ints_new1 w6 B0) rfl (by omega)).mono ?_
          rintro e v2 ⟨⟨ao2, m2, cap2, v, C3, rfl, hm2, hI2, hch⟩, hbb⟩
          replace hcl := hcl.below hal
          replace c0 := keep_cell hal c0
          replace c1 := keep_cell hal c1
          replace c2 := keep_cell hal c2
          replace d0 := keep_cell hal d0
          replace d1 := keep_cell hal d1
          replace e0 := keep_cell hal e0
          replace e1 := keep_cell hal e1
          replace hA := hA.trans (hal.mono hA.size)
          replace hcl := hcl.below hbb
          replace c0 := keep_cell hbb c0
          replace c1 := keep_cell hbb c1
          replace c2 := keep_cell hbb c2
          replace d0 := keep_cell hbb d0
          replace d1 := keep_cell hbb d1
          replace e0 := keep_cell hbb e0
          replace e1 := keep_cell hbb e1
          replace hA := hA.trans (hbb.mono hA.size)
          clear hal hbb hm2 hI2
          have hC3 : C3 = 10 := by
            rcases Tm.ch_one Htc.out (by simpa using HE.out) hch with ⟨-, h⟩ | ⟨h, -⟩
            · exact h
            · omega
          subst hC3
          clear hch
          go_wp2_with fail
          go_ret
          exact ⟨rfl, hA⟩
        · have hz4 : z ≤ 10000 := by omega
          have i4 : ¬ (10000 : Int) < (z : Int) := by omega
          obtain ⟨t1, t2⟩ : Tm.tcode f F S (z : Int) [(B0 : Int)] = 0 ∧ Tm.dcode f F S [(z : Int)] = 0 := ⟨Tm.tcode_of Hv.out (by omega) (by omega) (by omega) (by omega), Tm.dcode_of Hv.out (by omega) (by omega)⟩
          have hL := Latest_any f F S aoF nF cF aoS nS cS (z : Int) (B0 : Int) w6 hcl h9 h8
          rw [t1] at hL
          clear hbig hal
          go_wp2_with fail
          refine hL.mono ?_
          clear hL
          rintro e v1 ⟨⟨l0, b, rfl, hl⟩, hbb⟩
          replace hcl := hcl.below hbb
          replace c0 := keep_cell hbb c0
          replace c1 := keep_cell hbb c1
          replace c2 := keep_cell hbb c2
          replace d0 := keep_cell hbb d0
          replace d1 := keep_cell hbb d1
          replace e0 := keep_cell hbb e0
          replace e1 := keep_cell hbb e1
          replace hA := hA.trans (hbb.mono hA.size)
          clear hbb
          have hl2 : Tm.Lat (Tm.work f F) (Tm.count S) z B0 l0 b := by
            rcases hl with ⟨-, h⟩ | ⟨h, -⟩
            · simpa using h
            · exact absurd t1 h
          have hl0 : l0 ≤ z := Tm.lat_le hl2
          obtain ⟨hb, hAl, hlz, hle⟩ := Tm.lat_end HE.out (Tm.ends_ex Hok.out 0 B0 (by omega) (by omega)) (by
            obtain ⟨z2, hz2⟩ := Tm.ends_ex2 Hok.out (l0 + 1) B0 (by omega) (by omega)
            exact ⟨z2, hz2⟩) hl2
          subst hb
          have Hle := Lib.hid hle
          clear hl hl2 hle
          go_wp2_with fail
          have hal := (Below.refl v1.heap.size v1).alloc (Nat.le_refl _) (.cells #[.int .i64 (B0 : Nat)] 3)
          refine (Chain_any f F S aoF nF cF aoS nS cS A0 [(B0 : Int)] (some ⟨v1.heap.size, 0, none⟩) 1 1 _ (hcl.below hal) h9 h8 (ints_new1 v1 B0) rfl (by omega)).mono ?_
          rintro e v2 ⟨⟨ao2, m2, cap2, v, C3, rfl, hm2, hI2, hch⟩, hbb⟩
          replace hcl := hcl.below hal
          replace c0 := keep_cell hal c0
          replace c1 := keep_cell hal c1
          replace c2 := keep_cell hal c2
          replace d0 := keep_cell hal d0
          replace d1 := keep_cell hal d1
          replace e0 := keep_cell hal e0
          replace e1 := keep_cell hal e1
          replace hA := hA.trans (hal.mono hA.size)
          replace hcl := hcl.below hbb
          replace c0 := keep_cell hbb c0
          replace c1 := keep_cell hbb c1
          replace c2 := keep_cell hbb c2
          replace d0 := keep_cell hbb d0
          replace d1 := keep_cell hbb d1
          replace e0 := keep_cell hbb e0
          replace e1 := keep_cell hbb e1
          replace hA := hA.trans (hbb.mono hA.size)
          clear hal hbb
          obtain ⟨hC3, hv3⟩ : C3 = 0 ∧ v = [(z : Int)] := by
            rcases Tm.ch_one Htc.out (by simpa using HE.out) hch with ⟨h, -⟩ | ⟨-, h⟩
            · omega
            · exact h
          subst hC3 hv3
          have Hm2 := Lib.hid hm2
          clear hch hm2
          have hT := InTime_any f F S aoF nF cF aoS nS cS (A0 : Int) (B0 : Int) (z : Int) v2 hcl h9 h8
          rw [Tm.icode_of Htc.out (show (0 : Int) ≤ (z : Int) by omega) (show (z : Int) ≤ 10000 by omega)] at hT
          go_wp2_with fail
          refine hT.mono ?_
          clear hT
          rintro e v3 ⟨⟨b, rfl, hit⟩, hbb⟩
          replace hcl := hcl.below hbb
          replace c0 := keep_cell hbb c0
          replace c1 := keep_cell hbb c1
          replace c2 := keep_cell hbb c2
          replace d0 := keep_cell hbb d0
          replace d1 := keep_cell hbb d1
          replace e0 := keep_cell hbb e0
          replace e1 := keep_cell hbb e1
          replace hA := hA.trans (hbb.mono hA.size)
          replace hI2 := hI2.below hbb
          clear hbb
          have hb2 : b = true := by
            rcases hit with ⟨h, -⟩ | ⟨-, z2, h2, rfl⟩
            · exact absurd (Tm.icode_of Htc.out (show (0 : Int) ≤ (z : Int) by omega) (show (z : Int) ≤ 10000 by omega)) h
            · have := h2.unique (show Tm.Ends (Tm.count S) (Tm.work f F) (A0 : Int).toNat (B0 : Int).toNat z by simpa using HE.out)
              subst this
              rw [decide_eq_true i3, decide_eq_true (show (z2 : Int) ≤ (z2 : Int) from Int.le_refl _)]; rfl
          subst hb2
          clear hit
          have hBf := Before_any f F S aoF nF cF aoS nS cS (z : Int) v3 hcl h9 h8
          rw [t2] at hBf
          go_wp2_with fail
          refine hBf.mono ?_
          clear hBf
          rintro e v4 ⟨⟨y0, b, rfl, hbf⟩, hbb⟩
          replace hcl := hcl.below hbb
          replace c0 := keep_cell hbb c0
          replace c1 := keep_cell hbb c1
          replace c2 := keep_cell hbb c2
          replace d0 := keep_cell hbb d0
          replace d1 := keep_cell hbb d1
          replace e0 := keep_cell hbb e0
          replace e1 := keep_cell hbb e1
          replace hA := hA.trans (hbb.mono hA.size)
          replace hI2 := hI2.below hbb
          clear hbb
          obtain ⟨hy0, hb3⟩ : y0 = z ∧ b = true := by
            rcases hbf with ⟨-, h⟩ | ⟨h, -⟩
            · rw [Int.toNat_natCast] at h
              exact h.unique (.inl ⟨rfl, Nat.le_refl _, Hz2.out, fun y h1 h2 => by omega⟩)
            · exact absurd t2 h
          subst hy0 hb3
          clear hbf
          have i5 : (A0 : Int) ≤ (l0 : Int) := by omega
          go_wp2_with fail
          have hal := (Below.refl v4.heap.size v4).alloc (Nat.le_refl _) (.cells #[.int .i64 (y0 : Nat)] 3)
          have hSI := sameInts_any [(y0 : Int)] [(y0 : Int)] ao2 m2 cap2 (some ⟨v4.heap.size, 0, none⟩) 1 1 _ (hI2.below hal) Hm2.out (ints_new1 v4 y0) rfl (by have := Hm2.out; simp at this; omega) (by omega)
          rw [decide_eq_true rfl] at hSI
          refine hSI.mono ?_
          clear hSI
          rintro e v5 ⟨rfl, hbb⟩
          replace hcl := hcl.below hal
          replace c0 := keep_cell hal c0
          replace c1 := keep_cell hal c1
          replace c2 := keep_cell hal c2
          replace d0 := keep_cell hal d0
          replace d1 := keep_cell hal d1
          replace e0 := keep_cell hal e0
          replace e1 := keep_cell hal e1
          replace hA := hA.trans (hal.mono hA.size)
          replace hcl := hcl.below hbb
          replace c0 := keep_cell hbb c0
          replace c1 := keep_cell hbb c1
          replace c2 := keep_cell hbb c2
          replace d0 := keep_cell hbb d0
          replace d1 := keep_cell hbb d1
          replace e0 := keep_cell hbb e0
          replace e1 := keep_cell hbb e1
          replace hA := hA.trans (hbb.mono hA.size)
          clear hal hbb hI2
          have t3 := Tm.tcode_of (f := f) (F := F) (S := S) (x := (l0 : Int)) (t := (B0 : Int)) Hv.out (by omega) (by omega) (by omega) (by omega)
          have hE2 := Ends_any f F S aoF nF cF aoS nS cS (l0 : Int) (B0 : Int) v5 hcl h9 h8
          rw [t3] at hE2
          go_wp2_with fail
          refine hE2.mono ?_
          clear hE2
          rintro e v6 ⟨⟨z2, rfl, hz3⟩, hbb⟩
          replace hcl := hcl.below hbb
          replace c0 := keep_cell hbb c0
          replace c1 := keep_cell hbb c1
          replace c2 := keep_cell hbb c2
          replace d0 := keep_cell hbb d0
          replace d1 := keep_cell hbb d1
          replace e0 := keep_cell hbb e0
          replace e1 := keep_cell hbb e1
          replace hA := hA.trans (hbb.mono hA.size)
          clear hbb
          have hz5 : z2 ≤ y0 := Hle.out z2 (by
            rcases hz3 with ⟨-, h, -⟩ | ⟨h, -⟩
            · simpa using h
            · exact absurd rfl h)
          have i6 : ¬ (y0 : Int) < (z2 : Int) := by omega
          clear hz3
          obtain ⟨R, hR⟩ : ∃ r, r = Tm.icode f F S (A0 : Int) (B0 : Int) ((y0 : Int) + 1) := ⟨_, rfl⟩
          have hT := InTime_any f F S aoF nF cF aoS nS cS (A0 : Int) (B0 : Int) ((y0 : Int) + 1) v6 hcl h9 h8
          rw [← hR] at hT
          go_wp2_with fail
          refine hT.mono ?_
          clear hT
          rintro e v7 ⟨⟨b, rfl, hit⟩, hbb⟩
          replace hcl := hcl.below hbb
          replace c0 := keep_cell hbb c0
          replace c1 := keep_cell hbb c1
          replace c2 := keep_cell hbb c2
          replace d0 := keep_cell hbb d0
          replace d1 := keep_cell hbb d1
          replace e0 := keep_cell hbb e0
          replace e1 := keep_cell hbb e1
          replace hA := hA.trans (hbb.mono hA.size)
          clear hbb
          have hb4 : b = false := by
            rcases hit with ⟨-, h⟩ | ⟨-, z3, h2, rfl⟩
            · exact h
            · have := h2.unique (show Tm.Ends (Tm.count S) (Tm.work f F) (A0 : Int).toNat (B0 : Int).toNat y0 by simpa using HE.out)
              subst this
              rw [decide_eq_false (show ¬ ((z3 : Int) + 1 ≤ (z3 : Int)) by omega), Bool.and_false]
          subst hb4
          clear hit hR
          have hR2 : (R == 0) = true ∨ (R == 0) = false := by cases (R == 0) <;> simp
          by_cases hEA : y0 = A0
          · subst hEA
            have hB0 : B0 = 0 := Tm.ends_zero HE.out
            subst hB0
            rcases hR2 with hR2 | hR2
            all_goals
              go_wp2_with fail
              go_ret
              exact ⟨rfl, hA⟩
          · have i7 : ((y0 : Int) == (A0 : Int)) = false := by simp; omega
            have hAz : A0 < y0 := by omega
            have r1 : Tm.rcode f F S ((A0 : Int) + 1) (y0 : Int) = 0 := Tm.rcode_of Hv.out (by omega) (by omega) (by omega)
            obtain ⟨N, hN⟩ : ∃ N, N = Tm.cnt (Tm.count S) (A0 + 1) (y0 + 1 - (A0 + 1)) := ⟨_, rfl⟩
            have hNB : B0 ≤ N := by rw [hN]; exact Tm.ends_cnt2 HE.out
            have r2 : Tm.nval f F S (Tm.count S) ((A0 : Int) + 1) (y0 : Int) = (N : Int) := by
              unfold Tm.nval
              rw [if_pos r1, Int.toNat_natCast, show ((A0 : Int) + 1).toNat = A0 + 1 by omega, ← hN]
            have hCn := Counting_any f F S aoF nF cF aoS nS cS ((A0 : Int) + 1) (y0 : Int) v7 hcl h9 h8
            rw [r1, r2] at hCn
            have i8 : (B0 : Int) ≤ (N : Int) := by omega
            clear hN r1 r2
            rcases hR2 with hR2 | hR2
            all_goals
              go_wp2_with fail
              refine hCn.mono ?_
              clear hCn
              rintro e v8 ⟨rfl, hbb⟩
              replace hcl := hcl.below hbb
              replace c0 := keep_cell hbb c0
              replace c1 := keep_cell hbb c1
              replace c2 := keep_cell hbb c2
              replace d0 := keep_cell hbb d0
              replace d1 := keep_cell hbb d1
              replace e0 := keep_cell hbb e0
              replace e1 := keep_cell hbb e1
              replace hA := hA.trans (hbb.mono hA.size)
              clear hbb
              go_wp2_with fail
              go_ret
              exact ⟨rfl, hA⟩
      · have hne : (C2 == 0) = false := by simp [hc2]
        clear r5 hI1 hI2 hwr HC2 HmF HmS
        have i3 : (A0 : Int) ≤ (z : Int) := by have := Hz1.out; omega
        have hal := (Below.refl w5.heap.size w5).alloc (Nat.le_refl _) (.cells #[.int .i64 (B0 : Nat)] 3)
        by_cases hbig : 10000 < z
        · have i4 : (10000 : Int) < (z : Int) := by omega
          go_wp2_with fail
          refine (Chain_any f F S aoF nF cF aoS nS cS A0 [(B0 : Int)] (some ⟨w5.heap.size, 0, none⟩) 1 1 _ (hcl.below hal) h9 h8 (ints_new1 w5 B0) rfl (by omega)).mono ?_
          rintro e v2 ⟨⟨ao2, m2, cap2, v, C3, rfl, hm2, hI2, hch⟩, hbb⟩
          replace hcl := hcl.below hal
          replace c0 := keep_cell hal c0
          replace c1 := keep_cell hal c1
          replace c2 := keep_cell hal c2
          replace d0 := keep_cell hal d0
          replace d1 := keep_cell hal d1
          replace e0 := keep_cell hal e0
          replace e1 := keep_cell hal e1
          replace hA := hA.trans (hal.mono hA.size)
          replace hcl := hcl.below hbb
          replace c0 := keep_cell hbb c0
          replace c1 := keep_cell hbb c1
          replace c2 := keep_cell hbb c2
          replace d0 := keep_cell hbb d0
          replace d1 := keep_cell hbb d1
          replace e0 := keep_cell hbb e0
          replace e1 := keep_cell hbb e1
          replace hA := hA.trans (hbb.mono hA.size)
          clear hal hbb hm2 hI2
          have hC3 : C3 = 10 := by
            rcases Tm.ch_one Htc.out (by simpa using HE.out) hch with ⟨-, h⟩ | ⟨h, -⟩
            · exact h
            · omega
          subst hC3
          clear hch
          go_wp2_with fail
          go_ret
          exact ⟨rfl, hA⟩
        · have hz4 : z ≤ 10000 := by omega
          have i4 : ¬ (10000 : Int) < (z : Int) := by omega
          obtain ⟨t1, t2⟩ : Tm.tcode f F S (z : Int) [(B0 : Int)] = 0 ∧ Tm.dcode f F S [(z : Int)] = 0 := ⟨Tm.tcode_of Hv.out (by omega) (by omega) (by omega) (by omega), Tm.dcode_of Hv.out (by omega) (by omega)⟩
          have hL := Latest_any f F S aoF nF cF aoS nS cS (z : Int) (B0 : Int) w5 hcl h9 h8
          rw [t1] at hL
          clear hbig hal
          go_wp2_with fail
          refine hL.mono ?_
          clear hL
          rintro e v1 ⟨⟨l0, b, rfl, hl⟩, hbb⟩
          replace hcl := hcl.below hbb
          replace c0 := keep_cell hbb c0
          replace c1 := keep_cell hbb c1
          replace c2 := keep_cell hbb c2
          replace d0 := keep_cell hbb d0
          replace d1 := keep_cell hbb d1
          replace e0 := keep_cell hbb e0
          replace e1 := keep_cell hbb e1
          replace hA := hA.trans (hbb.mono hA.size)
          clear hbb
          have hl2 : Tm.Lat (Tm.work f F) (Tm.count S) z B0 l0 b := by
            rcases hl with ⟨-, h⟩ | ⟨h, -⟩
            · simpa using h
            · exact absurd t1 h
          have hl0 : l0 ≤ z := Tm.lat_le hl2
          obtain ⟨hb, hAl, hlz, hle⟩ := Tm.lat_end HE.out (Tm.ends_ex Hok.out 0 B0 (by omega) (by omega)) (by
            obtain ⟨z2, hz2⟩ := Tm.ends_ex2 Hok.out (l0 + 1) B0 (by omega) (by omega)
            exact ⟨z2, hz2⟩) hl2
          subst hb
          have Hle := Lib.hid hle
          clear hl hl2 hle
          go_wp2_with fail
          have hal := (Below.refl v1.heap.size v1).alloc (Nat.le_refl _) (.cells #[.int .i64 (B0 : Nat)] 3)
          refine (Chain_any f F S aoF nF cF aoS nS cS A0 [(B0 : Int)] (some ⟨v1.heap.size, 0, none⟩) 1 1 _ (hcl.below hal) h9 h8 (ints_new1 v1 B0) rfl (by omega)).mono ?_
          rintro e v2 ⟨⟨ao2, m2, cap2, v, C3, rfl, hm2, hI2, hch⟩, hbb⟩
          replace hcl := hcl.below hal
          replace c0 := keep_cell hal c0
          replace c1 := keep_cell hal c1
          replace c2 := keep_cell hal c2
          replace d0 := keep_cell hal d0
          replace d1 := keep_cell hal d1
          replace e0 := keep_cell hal e0
          replace e1 := keep_cell hal e1
          replace hA := hA.trans (hal.mono hA.size)
          replace hcl := hcl.below hbb
          replace c0 := keep_cell hbb c0
          replace c1 := keep_cell hbb c1
          replace c2 := keep_cell hbb c2
          replace d0 := keep_cell hbb d0
          replace d1 := keep_cell hbb d1
          replace e0 := keep_cell hbb e0
          replace e1 := keep_cell hbb e1
          replace hA := hA.trans (hbb.mono hA.size)
          clear hal hbb
          obtain ⟨hC3, hv3⟩ : C3 = 0 ∧ v = [(z : Int)] := by
            rcases Tm.ch_one Htc.out (by simpa using HE.out) hch with ⟨h, -⟩ | ⟨-, h⟩
            · omega
            · exact h
          subst hC3 hv3
          have Hm2 := Lib.hid hm2
          clear hch hm2
          have hT := InTime_any f F S aoF nF cF aoS nS cS (A0 : Int) (B0 : Int) (z : Int) v2 hcl h9 h8
          rw [Tm.icode_of Htc.out (show (0 : Int) ≤ (z : Int) by omega) (show (z : Int) ≤ 10000 by omega)] at hT
          go_wp2_with fail
          refine hT.mono ?_
          clear hT
          rintro e v3 ⟨⟨b, rfl, hit⟩, hbb⟩
          replace hcl := hcl.below hbb
          replace c0 := keep_cell hbb c0
          replace c1 := keep_cell hbb c1
          replace c2 := keep_cell hbb c2
          replace d0 := keep_cell hbb d0
          replace d1 := keep_cell hbb d1
          replace e0 := keep_cell hbb e0
          replace e1 := keep_cell hbb e1
          replace hA := hA.trans (hbb.mono hA.size)
          replace hI2 := hI2.below hbb
          clear hbb
          have hb2 : b = true := by
            rcases hit with ⟨h, -⟩ | ⟨-, z2, h2, rfl⟩
            · exact absurd (Tm.icode_of Htc.out (show (0 : Int) ≤ (z : Int) by omega) (show (z : Int) ≤ 10000 by omega)) h
            · have := h2.unique (show Tm.Ends (Tm.count S) (Tm.work f F) (A0 : Int).toNat (B0 : Int).toNat z by simpa using HE.out)
              subst this
              rw [decide_eq_true i3, decide_eq_true (show (z2 : Int) ≤ (z2 : Int) from Int.le_refl _)]; rfl
          subst hb2
          clear hit
          have hBf := Before_any f F S aoF nF cF aoS nS cS (z : Int) v3 hcl h9 h8
          rw [t2] at hBf
          go_wp2_with fail
          refine hBf.mono ?_
          clear hBf
          rintro e v4 ⟨⟨y0, b, rfl, hbf⟩, hbb⟩
          replace hcl := hcl.below hbb
          replace c0 := keep_cell hbb c0
          replace c1 := keep_cell hbb c1
          replace c2 := keep_cell hbb c2
          replace d0 := keep_cell hbb d0
          replace d1 := keep_cell hbb d1
          replace e0 := keep_cell hbb e0
          replace e1 := keep_cell hbb e1
          replace hA := hA.trans (hbb.mono hA.size)
          replace hI2 := hI2.below hbb
          clear hbb
          obtain ⟨hy0, hb3⟩ : y0 = z ∧ b = true := by
            rcases hbf with ⟨-, h⟩ | ⟨h, -⟩
            · rw [Int.toNat_natCast] at h
              exact h.unique (.inl ⟨rfl, Nat.le_refl _, Hz2.out, fun y h1 h2 => by omega⟩)
            · exact absurd t2 h
          subst hy0 hb3
          clear hbf
          have i5 : (A0 : Int) ≤ (l0 : Int) := by omega
          go_wp2_with fail
          have hal := (Below.refl v4.heap.size v4).alloc (Nat.le_refl _) (.cells #[.int .i64 (y0 : Nat)] 3)
          have hSI := sameInts_any [(y0 : Int)] [(y0 : Int)] ao2 m2 cap2 (some ⟨v4.heap.size, 0, none⟩) 1 1 _ (hI2.below hal) Hm2.out (ints_new1 v4 y0) rfl (by have := Hm2.out; simp at this; omega) (by omega)
          rw [decide_eq_true rfl] at hSI
          refine hSI.mono ?_
          clear hSI
          rintro e v5 ⟨rfl, hbb⟩
          replace hcl := hcl.below hal
          replace c0 := keep_cell hal c0
          replace c1 := keep_cell hal c1
          replace c2 := keep_cell hal c2
          replace d0 := keep_cell hal d0
          replace d1 := keep_cell hal d1
          replace e0 := keep_cell hal e0
          replace e1 := keep_cell hal e1
          replace hA := hA.trans (hal.mono hA.size)
          replace hcl := hcl.below hbb
          replace c0 := keep_cell hbb c0
          replace c1 := keep_cell hbb c1
          replace c2 := keep_cell hbb c2
          replace d0 := keep_cell hbb d0
          replace d1 := keep_cell hbb d1
          replace e0 := keep_cell hbb e0
          replace e1 := keep_cell hbb e1
          replace hA := hA.trans (hbb.mono hA.size)
          clear hal hbb hI2
          have t3 := Tm.tcode_of (f := f) (F := F) (S := S) (x := (l0 : Int)) (t := (B0 : Int)) Hv.out (by omega) (by omega) (by omega) (by omega)
          have hE2 := Ends_any f F S aoF nF cF aoS nS cS (l0 : Int) (B0 : Int) v5 hcl h9 h8
          rw [t3] at hE2
          go_wp2_with fail
          refine hE2.mono ?_
          clear hE2
          rintro e v6 ⟨⟨z2, rfl, hz3⟩, hbb⟩
          replace hcl := hcl.below hbb
          replace c0 := keep_cell hbb c0
          replace c1 := keep_cell hbb c1
          replace c2 := keep_cell hbb c2
          replace d0 := keep_cell hbb d0
          replace d1 := keep_cell hbb d1
          replace e0 := keep_cell hbb e0
          replace e1 := keep_cell hbb e1
          replace hA := hA.trans (hbb.mono hA.size)
          clear hbb
          have hz5 : z2 ≤ y0 := Hle.out z2 (by
            rcases hz3 with ⟨-, h, -⟩ | ⟨h, -⟩
            · simpa using h
            · exact absurd rfl h)
          have i6 : ¬ (y0 : Int) < (z2 : Int) := by omega
          clear hz3
          obtain ⟨R, hR⟩ : ∃ r, r = Tm.icode f F S (A0 : Int) (B0 : Int) ((y0 : Int) + 1) := ⟨_, rfl⟩
          have hT := InTime_any f F S aoF nF cF aoS nS cS (A0 : Int) (B0 : Int) ((y0 : Int) + 1) v6 hcl h9 h8
          rw [← hR] at hT
          go_wp2_with fail
          refine hT.mono ?_
          clear hT
          rintro e v7 ⟨⟨b, rfl, hit⟩, hbb⟩
          replace hcl := hcl.below hbb
          replace c0 := keep_cell hbb c0
          replace c1 := keep_cell hbb c1
          replace c2 := keep_cell hbb c2
          replace d0 := keep_cell hbb d0
          replace d1 := keep_cell hbb d1
          replace e0 := keep_cell hbb e0
          replace e1 := keep_cell hbb e1
          replace hA := hA.trans (hbb.mono hA.size)
          clear hbb
          have hb4 : b = false := by
            rcases hit with ⟨-, h⟩ | ⟨-, z3, h2, rfl⟩
            · exact h
            · have := h2.unique (show Tm.Ends (Tm.count S) (Tm.work f F) (A0 : Int).toNat (B0 : Int).toNat y0 by simpa using HE.out)
              subst this
              rw [decide_eq_false (show ¬ ((z3 : Int) + 1 ≤ (z3 : Int)) by omega), Bool.and_false]
          subst hb4
          clear hit hR
          have hR2 : (R == 0) = true ∨ (R == 0) = false := by cases (R == 0) <;> simp
          by_cases hEA : y0 = A0
          · subst hEA
            have hB0 : B0 = 0 := Tm.ends_zero HE.out
            subst hB0
            rcases hR2 with hR2 | hR2
            all_goals
              go_wp2_with fail
              go_ret
              exact ⟨rfl, hA⟩
          · have i7 : ((y0 : Int) == (A0 : Int)) = false := by simp; omega
            have hAz : A0 < y0 := by omega
            have r1 : Tm.rcode f F S ((A0 : Int) + 1) (y0 : Int) = 0 := Tm.rcode_of Hv.out (by omega) (by omega) (by omega)
            obtain ⟨N, hN⟩ : ∃ N, N = Tm.cnt (Tm.count S) (A0 + 1) (y0 + 1 - (A0 + 1)) := ⟨_, rfl⟩
            have hNB : B0 ≤ N := by rw [hN]; exact Tm.ends_cnt2 HE.out
            have r2 : Tm.nval f F S (Tm.count S) ((A0 : Int) + 1) (y0 : Int) = (N : Int) := by
              unfold Tm.nval
              rw [if_pos r1, Int.toNat_natCast, show ((A0 : Int) + 1).toNat = A0 + 1 by omega, ← hN]
            have hCn := Counting_any f F S aoF nF cF aoS nS cS ((A0 : Int) + 1) (y0 : Int) v7 hcl h9 h8
            rw [r1, r2] at hCn
            have i8 : (B0 : Int) ≤ (N : Int) := by omega
            clear hN r1 r2
            rcases hR2 with hR2 | hR2
            all_goals
              go_wp2_with fail
              refine hCn.mono ?_
              clear hCn
              rintro e v8 ⟨rfl, hbb⟩
              replace hcl := hcl.below hbb
              replace c0 := keep_cell hbb c0
              replace c1 := keep_cell hbb c1
              replace c2 := keep_cell hbb c2
              replace d0 := keep_cell hbb d0
              replace d1 := keep_cell hbb d1
              replace e0 := keep_cell hbb e0
              replace e1 := keep_cell hbb e1
              replace hA := hA.trans (hbb.mono hA.size)
              clear hbb
              go_wp2_with fail
              go_ret
              exact ⟨rfl, hA⟩
    · have hz1 : z = 0 := by
        rcases hz with ⟨h, -⟩ | ⟨-, h⟩
        · exact absurd h hz0
        · exact h
      subst hz1
      have hne : (C != 0) = true := by simp [hz0]
      have hX := AddWork_any f F S aoF nF cF aoS nS cS A B w3 hcl h9 h8
      rw [← HC.out] at hX
      clear hz
      go_wp2_with fail
      refine hX.mono ?_
      clear hX
      rintro e w4 ⟨⟨q, rfl, hq⟩, hbb⟩
      replace hcl := hcl.below hbb
      replace c0 := keep_cell hbb c0
      replace c1 := keep_cell hbb c1
      replace c2 := keep_cell hbb c2
      replace d0 := keep_cell hbb d0
      replace d1 := keep_cell hbb d1
      replace e0 := keep_cell hbb e0
      replace e1 := keep_cell hbb e1
      replace hA := hA.trans (hbb.mono hA.size)
      clear hbb hq
      go_wp2_with fail
      go_ret
      exact ⟨rfl, hA⟩
end Go.Proofs.Ytmdkdkiejcjmaaa
