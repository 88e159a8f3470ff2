import Derived.Test.YtmdkdkiejcjmaaaSn
import Derived.Test.YtmdkdkiejcjmaaaTr
import Derived.Test.YtmdkdkiejcjmaaaTp
/- The law TermChains. -/
namespace Go.Proofs.Ytmdkdkiejcjmaaa
open Go.Joins Go.Deep Go.ChangeShapes Go.WideShapes Go.ChangeAt Go.RowKit

namespace Tm
theorem nth_ex {p : Nat → Bool} {D m : Nat} (h1 : 1 ≤ m) : ∀ K, m ≤ cnt p D K → ∃ x, Nth p D m x
  | 0, h => by rw [cnt_zero] at h; omega
  | K + 1, h => by
    by_cases hk : m ≤ cnt p D K
    · exact nth_ex h1 K hk
    · rw [cnt_succ] at h
      cases hp : p (D + K) with
      | false => rw [hp] at h; simp at h; omega
      | true =>
        rw [hp] at h
        simp at h
        exact ⟨D + K, by omega, hp, by rw [show D + K - D = K by omega]; omega⟩
theorem after_split {c : Nat → Bool} {d m t a : Nat} (h : After c d (m + t) a) : ∃ b, After c d m b ∧ After c b t a := by
  by_cases hm : m = 0
  · subst hm
    exact ⟨d, .inl ⟨rfl, rfl⟩, by simpa using h⟩
  · by_cases ht : t = 0
    · subst ht
      exact ⟨a, by simpa using h, .inl ⟨rfl, rfl⟩⟩
    · rcases h with ⟨h0, -⟩ | ⟨-, h⟩
      · omega
      · have h2 := h.num
        have h3 := h.le
        obtain ⟨b, hb⟩ := nth_ex (p := c) (D := d + 1) (m := m) (by omega) (a - (d + 1)) (by omega)
        have h4 := hb.num
        have h5 := hb.le
        have hba : b < a := by
          refine Nat.lt_of_not_le fun hle => ?_
          have := cnt_mono (p := c) (d := d + 1) (show a - (d + 1) ≤ b - (d + 1) by omega)
          omega
        have h6 := cnt_add c (d + 1) (b - (d + 1) + 1) (a - (b + 1))
        rw [show b - (d + 1) + 1 + (a - (b + 1)) = a - (d + 1) by omega, cnt_succ, show d + 1 + (b - (d + 1)) = b by omega, hb.is, show d + 1 + (b - (d + 1) + 1) = b + 1 by omega] at h6
        simp at h6
        exact ⟨b, .inr ⟨by omega, hb⟩, .inr ⟨by omega, by omega, h.is, by omega⟩⟩
def sm (l : List Int) : Nat → Nat
  | 0 => 0
  | k + 1 => sm l k + (l.getD k 0).toNat
theorem sm_le {l : List Int} (h : ∀ t ∈ l, 0 ≤ t ∧ t ≤ 400) : ∀ k, k ≤ l.length → sm l k ≤ 400 * k
  | 0, _ => Nat.le_refl _
  | k + 1, hk => by
    have h1 := sm_le h k (by omega)
    have h2 := h (l.getD k 0) (by rw [List.getD_eq_getElem?_getD, List.getElem?_eq_getElem (show k < l.length by omega)]; exact List.getElem_mem _)
    unfold sm
    omega
theorem chn_after {c p : Nat → Bool} {d : Nat} {l : List Int} : ∀ (k : Nat) {x a : Nat} {u : List Int}, Chn c p d l k x u → After c d (sm l k) a → a ≤ x
  | 0, _, _, _, ⟨rfl, _⟩, h => by
    rcases h with ⟨-, rfl⟩ | ⟨h, -⟩
    · exact Nat.le_refl _
    · unfold sm at h; omega
  | k + 1, x, a, _, ⟨y, o, h1, ⟨b, h2, h3⟩, _, _⟩, h => by
    obtain ⟨a', h4, h5⟩ := after_split (m := sm l k) h
    have h6 := chn_after k h1 h4
    have h7 := After.mono h6 (Nat.le_refl _) h5 h2
    have := h3.le
    omega
theorem chn_ends {c p : Nat → Bool} {d : Nat} {l : List Int} {k x z : Nat} {u : List Int} (hk : 1 ≤ k) (h : Chn c p d l k x u) (hz : Ends c p d (sm l k) z) : z ≤ x := by
  obtain ⟨a, h1, h2⟩ := hz
  have h3 := chn_after k h h1
  obtain ⟨j, rfl⟩ : ∃ j, k = j + 1 := ⟨k - 1, by omega⟩
  obtain ⟨y, o, -, ⟨b, -, h4⟩, -, -⟩ := h
  refine Nat.le_of_not_lt fun hlt => ?_
  have h5 := h2.num
  have h6 := cnt_mono (p := p) (d := a) (show x - a + 1 ≤ z - a by omega)
  rw [cnt_succ, show a + (x - a) = x by omega, h4.is] at h6
  simp at h6
  omega
theorem chn_last {c p : Nat → Bool} {d : Nat} {l : List Int} {k x : Nat} {u : List Int} (h : Chn c p d l (k + 1) x u) : u.getD k 0 = (x : Int) := by
  obtain ⟨y, o, h1, -, -, rfl⟩ := h
  have := Chn.len k h1
  rw [List.getD_eq_getElem?_getD, List.getElem?_append_right (by omega), this]
  simp
end Tm

set_option maxRecDepth 100000 in
set_option maxHeartbeats 8000000 in
theorem termChains_any (f : Int) (F : List Int) (S : List (Int × Int)) (aoF : Option Addr) (nF cF : Nat) (aoS : Option Addr) (nS cS : Nat) (d : Int) (ts : List Int) (ao : Option Addr) (n cap : Nat) (w : World) (hcl : Cl w aoF nF aoS nS F S) (hI : Ints w ao ts) (hn : n = ts.length) (_ : ∀ x ∈ ts, Rng x) :
    Calls Try.prog 12 #[.agg #[.int .i64 f, .slice aoF nF cF, .slice aoS nS cS], .int .i64 d, .slice ao n cap] w fun e w' => e = .returned (.bool true) ∧ Below w.heap.size w w' := by
  have Hn := Lib.hid hn
  clear hn
  have hA := (Below.refl _ w).alloc (Nat.le_refl _) (.cells #[.int .i64 f, .slice aoF nF cF, .slice aoS nS cS] 25)
  have rc := heap_alloc_new w (.cells #[.int .i64 f, .slice aoF nF cF, .slice aoS nS cS] 25)
  replace hcl := hcl.below hA
  replace hI := hI.below hA
  go_enter Try.func12, Try.ntmps12
  go_upto_region 1 with fail
  generalize w.alloc (.cells #[.int .i64 f, .slice aoF nF cF, .slice aoS nS cS] 25) = W0 at hA rc hcl hI ⊢
  obtain ⟨G, hG⟩ : ∃ g, g = w.heap.size := ⟨_, rfl⟩
  rw [← hG] at rc ⊢
  have HG := Lib.hid hG
  clear hG
  have c0 := cell_of_row W0 G 0 _ _ _ rc
  have c1 := cell_of_row W0 G 1 _ _ _ rc
  have c2 := cell_of_row W0 G 2 _ _ _ rc
  simp at c0 c1 c2
  clear rc
  go_wp2_with fail
  refine ((tlong_any f F S aoF nF cF aoS nS cS W0)).mono ?_
  rintro e w1 ⟨rfl, hbb⟩
  replace hcl := hcl.below hbb
  replace hI := hI.below hbb
  replace c0 := keep_cell hbb c0
  replace c1 := keep_cell hbb c1
  replace c2 := keep_cell hbb c2
  replace hA := hA.trans (hbb.mono hA.size)
  clear hbb
  obtain ⟨B, hB⟩ : ∃ t, (decide (100 < nF) || decide (100 < nS)) = t := ⟨_, rfl⟩
  rw [hB]
  cases B with
  | true =>
    clear hB
    go_wp2_with fail
    refine (tknown_any w1).mono ?_
    rintro e w9 ⟨rfl, hbb⟩
    go_wp2_with fail
    go_ret
    exact ⟨rfl, hA.trans (hbb.mono hA.size)⟩
  | false =>
    rw [Bool.or_eq_false_iff, decide_eq_false_iff_not, decide_eq_false_iff_not] at hB
    obtain ⟨h9a, h8a⟩ := hB
    have h9 : nF ≤ 100000 := by omega
    have h8 : nS ≤ 100000 := by omega
    clear h9a h8a
    by_cases h100 : 100 < n
    · have i1 : (100 : Int) < (n : Int) := by omega
      go_wp2_with fail
      refine (tknown_any w1).mono ?_
      rintro e w9 ⟨rfl, hbb⟩
      go_wp2_with fail
      go_ret
      exact ⟨rfl, hA.trans (hbb.mono hA.size)⟩
    · have i1 : ¬ (100 : Int) < (n : Int) := by omega
      go_wp2_with fail
      refine (Chain_any f F S aoF nF cF aoS nS cS d ts ao n cap w1 hcl h9 h8 hI Hn.out (by omega)).mono ?_
      rintro e w2 ⟨⟨ao2, m2, cap2, v, C, rfl, hm2, hI2, hch⟩, hbb⟩
      replace hcl := hcl.below hbb
      replace hI := hI.below hbb
      replace c0 := keep_cell hbb c0
      replace c1 := keep_cell hbb c1
      replace c2 := keep_cell hbb c2
      replace hA := hA.trans (hbb.mono hA.size)
      clear hbb
      have HM2 := Lib.hid hm2
      clear hm2
      go_wp2_with fail
      refine (refChain_any f F S aoF nF cF aoS nS cS d ts ao n cap w2 hcl h9 h8 hI Hn.out (by omega)).mono ?_
      rintro e w3 ⟨⟨ao3, m3, cap3, v3, C3, rfl, hm3, hI3, hch3⟩, hbb⟩
      replace hcl := hcl.below hbb
      replace hI := hI.below hbb
      replace c0 := keep_cell hbb c0
      replace c1 := keep_cell hbb c1
      replace c2 := keep_cell hbb c2
      replace hA := hA.trans (hbb.mono hA.size)
      replace hI2 := hI2.below hbb
      clear hbb
      obtain ⟨rfl, rfl⟩ := hch.unique hch3
      have HCH := Lib.hid hch
      have HM3 := Lib.hid hm3
      have hl := hch.len
      clear hm3 hch hch3
      have hX := sameInts_any v v ao2 m2 cap2 ao3 m3 cap3 w3 hI2 HM2.out hI3 HM3.out (by have := HM2.out; omega) (by have := HM3.out; omega)
      rw [decide_eq_true rfl] at hX
      have hcc : (C != C) = false := by simp
      go_wp2_with fail
      refine hX.mono ?_
      clear hX
      rintro e w4 ⟨rfl, hbb⟩
      replace hcl := hcl.below hbb
      replace hI := hI.below hbb
      replace c0 := keep_cell hbb c0
      replace c1 := keep_cell hbb c1
      replace c2 := keep_cell hbb c2
      replace hA := hA.trans (hbb.mono hA.size)
      replace hI2 := hI2.below hbb
      clear hbb hI3 HM3
      by_cases hz : C = 0
      · subst hz
        by_cases hm0 : m2 = 0
        · have i2 : ((m2 : Int) == 0) = true := by simp; omega
          clear hm0
          go_wp2_with fail
          refine (tknown_any w4).mono ?_
          rintro e w9 ⟨rfl, hbb⟩
          go_wp2_with fail
          go_ret
          exact ⟨rfl, hA.trans (hbb.mono hA.size)⟩
        · have i2 : ((m2 : Int) == 0) = false := by simp; omega
          obtain ⟨hok, h10, x, hx⟩ : Tm.tcode f F S d ts = 0 ∧ ts.length ≤ 10 ∧ ∃ x, Tm.Chn (Tm.count S) (Tm.work f F) d.toNat ts ts.length x v := by
            rcases HCH.out with ⟨h1, h2, -⟩ | ⟨h1, ⟨-, h2, -⟩ | ⟨h3, ⟨-, h2, -⟩ | ⟨-, h4⟩⟩⟩
            · exact absurd h2.symm h1
            · cases h2
            · cases h2
            · exact ⟨h1, h3, h4⟩
          have hlen := Tm.Chn.len _ hx
          have hnm : Hid (n = m2) := Lib.hid (by rw [Hn.out, HM2.out, hlen])
          obtain ⟨hv, hd, hts⟩ := Tm.tcode_ok hok
          have Ht := Lib.hid hts
          have HX := Lib.hid hx
          obtain ⟨d0, rfl⟩ := Int.eq_ofNat_of_zero_le hd.1
          have hn10 : n ≤ 10 := by rw [Hn.out]; exact h10
          clear hx hv hts hok hd hlen HCH h10 h100 i1 hcc
          go_wp2_with fail
          go_loopw [11, 12] (fun s i wr => ∃ k m : Nat, k ≤ n ∧ i = .int .i64 k ∧ s = .int .i64 m ∧ m ≤ 400 * k ∧ Hid (m = Tm.sm ts k) ∧ Below w4.heap.size w4 wr) (fun _ i _ => n - (intOf i).toNat)
          case atStart => exact ⟨0, 0, Nat.zero_le _, rfl, rfl, by omega, Lib.hid rfl, Below.refl _ _⟩
          case round =>
            obtain ⟨k, m, hk, rfl, rfl, hm4, HM, hb⟩ := hrel
            by_cases hlt : k < n
            · have hkl : k < ts.length := by have := Hn.out; omega
              obtain ⟨b, off, rfl, hbs, hcc⟩ := (hI.below hb).cells (by omega)
              have z0 := hcc k hkl
              clear hcc
              have hmem : ts.getD k 0 ∈ ts := by rw [List.getD_eq_getElem?_getD, List.getElem?_eq_getElem hkl]; exact List.getElem_mem hkl
              obtain ⟨t1, t2⟩ := Ht.out _ hmem
              obtain ⟨t, htt⟩ : ∃ t : Nat, t = (ts.getD k 0).toNat := ⟨_, rfl⟩
              rw [show ts.getD k 0 = (t : Int) by omega] at z0
              have ht4 : t ≤ 400 := by omega
              have hq : Hid (m + t = Tm.sm ts (k + 1)) := Lib.hid (by rw [HM.out, htt]; rfl)
              clear htt hmem t1 t2 HM
              have i3 : (k : Int) < (n : Int) := by omega
              go_wp2_with fail
              go_roundw
              case rel => exact ⟨k + 1, m + t, by omega, by go_num, by go_num, by omega, hq, hb⟩
              case measure => simp [intOf]; omega
            · have hkn : k = n := by omega
              have hnk : ¬ (k : Int) < (n : Int) := by omega
              have hm5 : Hid (m = Tm.sm ts n) := Lib.hid (by rw [HM.out, hkn])
              have hm6 : m ≤ 4000 := by omega
              clear HM hkn hlt hm4
              replace hcl := hcl.below hb
              replace c0 := keep_cell hb c0
              replace c1 := keep_cell hb c1
              replace c2 := keep_cell hb c2
              replace hI2 := hI2.below hb
              replace hI := hI.below hb
              replace hA := hA.trans (hb.mono hA.size)
              obtain ⟨C2, hC2⟩ : ∃ c, c = Tm.tcode f F S (d0 : Int) [(m : Int)] := ⟨_, rfl⟩
              have hE2 := Ends_any f F S aoF nF cF aoS nS cS (d0 : Int) (m : Int) wr hcl h9 h8
              rw [← hC2] at hE2
              clear hC2
              go_wp2_with fail
              refine hE2.mono ?_
              clear hE2
              rintro e w5 ⟨⟨z, rfl, hz3⟩, hbb⟩
              replace hcl := hcl.below hbb
              replace hI := hI.below hbb
              replace c0 := keep_cell hbb c0
              replace c1 := keep_cell hbb c1
              replace c2 := keep_cell hbb c2
              replace hA := hA.trans (hbb.mono hA.size)
              replace hI2 := hI2.below hbb
              clear hbb
              by_cases hc2 : C2 = 0
              · have hz4 : Tm.Ends (Tm.count S) (Tm.work f F) d0 m z := by
                  rcases hz3 with ⟨-, h, -⟩ | ⟨h, -⟩
                  · simpa using h
                  · exact absurd hc2 h
                subst hc2
                obtain ⟨j, hj1, hj2⟩ : ∃ j, j + 1 ≤ m2 ∧ m2 ≤ j + 1 := ⟨m2 - 1, by omega, by omega⟩
                have hx2 := HX.out
                rw [← Hn.out, hnm.out, show m2 = j + 1 by omega, Int.toNat_natCast] at hx2
                rw [hm5.out, hnm.out, show m2 = j + 1 by omega] at hz4
                have hle := Tm.chn_ends (by omega) hx2 hz4
                have hla := Tm.chn_last hx2
                obtain ⟨b, off, rfl, hbs, hcc⟩ := hI2.cells (by have := HM2.out; omega)
                have z0 := hcc j (by have := HM2.out; omega)
                rw [hla] at z0
                have i3 : (z : Int) ≤ (x : Int) := by omega
                have hj10 : j < 10 := by have := HM2.out; omega
                have hw : IntKind.i64.wrap ((m2 : Int) - 1) = (j : Int) := (IntWalk.i64_in _ (by omega)).trans (by omega)
                clear hx2 hz4 hz3 hle hla hcc HX hm5 hnm HM2 hnk hm0 hbs
                go_wp2_with fail
                refine (tknown_any w5).mono ?_
                rintro e w9 ⟨rfl, hbb⟩
                go_wp2_with fail
                go_ret
                exact ⟨rfl, hA.trans (hbb.mono hA.size)⟩
              · have hne : (C2 != 0) = true := by simp [hc2]
                clear hz3
                go_wp2_with fail
                refine (tknown_any w5).mono ?_
                rintro e w9 ⟨rfl, hbb⟩
                go_wp2_with fail
                go_ret
                exact ⟨rfl, hA.trans (hbb.mono hA.size)⟩
      · have hne : (C != 0) = true := by simp [hz]
        go_wp2_with fail
        refine (tknown_any w4).mono ?_
        rintro e w9 ⟨rfl, hbb⟩
        go_wp2_with fail
        go_ret
        exact ⟨rfl, hA.trans (hbb.mono hA.size)⟩
end Go.Proofs.Ytmdkdkiejcjmaaa
