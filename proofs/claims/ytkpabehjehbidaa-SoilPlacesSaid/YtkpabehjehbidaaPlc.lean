import Derived.Test.YtkpabehjehbidaaCmr
import Derived.Test.YtkpabehjehbidaaLtm
namespace Go.Proofs.Ytkpabehjehbidaa
open Go.RowKit
namespace Fl
/-- Numbers of a valid fraction that is not below 0, with a denominator of at most so much. -/
def amt (n d most : Int) : Bool := decide (0 ≤ n) && (decide (1 ≤ d) && (decide (d ≤ most) && decide (Nat.gcd n.natAbs d.natAbs = 1)))
/-- Numbers of a place of a field of a length. -/
def plc (L n d most : Int) : Bool := amt n d most && decide (mkRat n d.toNat ≤ (L : Rat))
theorem amt_iff {n d most : Int} : amt n d most = true ↔ 0 ≤ n ∧ 1 ≤ d ∧ d ≤ most ∧ Nat.gcd n.natAbs d.natAbs = 1 := by
  unfold amt; simp
theorem amt_rat {n d most : Int} (h : amt n d most = true) : (mkRat n d.toNat).num = n ∧ ((mkRat n d.toNat).den : Int) = d ∧ 0 ≤ mkRat n d.toNat ∧ 0 ≤ n ∧ 1 ≤ d ∧ d ≤ most := by
  obtain ⟨h1, h2, h3, h4⟩ := amt_iff.1 h
  have hd : d.toNat ≠ 0 := by omega
  have hg : Nat.gcd d.toNat n.natAbs = 1 := by rw [Nat.gcd_comm, show d.toNat = d.natAbs by omega]; exact h4
  have e1 : (mkRat n d.toNat).num = n := by rw [Rat.num_mkRat, if_neg hd, hg]; simp
  have e2 : (mkRat n d.toNat).den = d.toNat := by rw [Rat.den_mkRat, if_neg hd, hg]; simp
  refine ⟨e1, by rw [e2]; omega, ?_, h1, h2, h3⟩
  rw [← Rat.num_nonneg, e1]; exact h1
theorem plc_amt {L n d most : Int} (h : plc L n d most = true) : amt n d most = true ∧ mkRat n d.toNat ≤ (L : Rat) := by
  unfold plc at h; simpa using h
end Fl

theorem fr_of_amt {n d most : Int} (h : Fl.amt n d most = true) : (.agg #[.int .i64 n, .int .i64 d] : Value) = Fr (mkRat n d.toNat) := by
  obtain ⟨h1, h2, -⟩ := Fl.amt_rat h
  exact fr_eq h1.symm h2.symm

set_option maxRecDepth 100000 in
set_option maxHeartbeats 1000000 in
theorem isAmount_any (n d most : Int) (w : World) (hn : n ≤ 9223372036854775807) (hm : most ≤ 1000000) :
    Calls Try.prog 67 #[.agg #[.int .i64 n, .int .i64 d], .int .i64 most] w fun e w' => e = .returned (.bool (Fl.amt n d most)) ∧ Below w.heap.size w w' := by
  have hB : Below w.heap.size w (w.alloc (.cells #[.int .i64 n, .int .i64 d] 29)) := (Below.refl _ w).alloc (Nat.le_refl _) _
  have HB := Lib.hid hB
  clear hB
  by_cases h1 : 0 ≤ n
  · by_cases h2 : 0 < d
    · by_cases h3 : d ≤ most
      · obtain ⟨N, rfl⟩ := Int.eq_ofNat_of_zero_le h1
        obtain ⟨D, rfl⟩ := Int.eq_ofNat_of_zero_le (Int.le_of_lt h2)
        have hv : Fl.amt N D most = (((Nat.gcd N D : Nat) : Int) == 1) := by
          rw [Bool.eq_iff_iff, Fl.amt_iff, Int.natAbs_natCast, Int.natAbs_natCast, beq_iff_eq]
          omega
        have Hv := Lib.hid hv
        clear hv
        go_enter Try.func67, Try.ntmps67
        go_wp2_with fail
        refine (divisor_any N D _ (by omega) (by omega)).mono ?_
        rintro e w1 ⟨rfl, hbb⟩
        have hB := HB.out.trans (hbb.mono HB.out.size)
        clear hbb HB
        go_wp2
        go_ret
        refine ⟨ret_bool ?_, hB⟩
        rw [Hv.out]
      · have hv : Hid (Fl.amt n d most = false) := Lib.hid (by rw [Bool.eq_false_iff, Ne, Fl.amt_iff]; omega)
        go_enter Try.func67, Try.ntmps67
        go_wp2
        go_ret
        exact ⟨ret_bool hv.out.symm, HB.out⟩
    · have hv : Hid (Fl.amt n d most = false) := Lib.hid (by rw [Bool.eq_false_iff, Ne, Fl.amt_iff]; omega)
      go_enter Try.func67, Try.ntmps67
      go_wp2
      go_ret
      exact ⟨ret_bool hv.out.symm, HB.out⟩
  · have hv : Hid (Fl.amt n d most = false) := Lib.hid (by rw [Bool.eq_false_iff, Ne, Fl.amt_iff]; omega)
    go_enter Try.func67, Try.ntmps67
    go_wp2
    go_ret
    exact ⟨ret_bool hv.out.symm, HB.out⟩

theorem cmp_le (a b : Rat) : decide (Fl.cmpR a b ≤ 0) = decide (a ≤ b) := by
  rw [decide_eq_decide]
  unfold Fl.cmpR
  split
  · rename_i h; constructor <;> intro _
    · grind
    · omega
  · split
    · rename_i h1 h2; constructor <;> intro h
      · omega
      · grind
    · rename_i h1 h2; constructor <;> intro h
      · grind
      · omega

set_option maxRecDepth 100000 in
set_option maxHeartbeats 2000000 in
theorem isPlace_any (l : List (Int × Int)) (ao : Option Addr) (m cap : Nat) (n d most : Int) (w : World) (hp : Pts w ao l) (hln : m = l.length) (hok : Fl.Ok l) (h6 : l.length ≤ 6) (hn : n ≤ 9223372036854775807) (hm : most ≤ 1000000) :
    Calls Try.prog 61 #[.slice ao m cap, .agg #[.int .i64 n, .int .i64 d], .int .i64 most] w fun e w' => e = .returned (.bool (Fl.plc (Fl.len l) n d most)) ∧ Below w.heap.size w w' := by
  have Hn := Lib.hid hln
  clear hln
  have hB : Below w.heap.size w (w.alloc (.cells #[.int .i64 n, .int .i64 d] 29)) := (Below.refl _ w).alloc (Nat.le_refl _) _
  have r3 := heap_alloc_new w (.cells #[.int .i64 n, .int .i64 d] 29)
  replace hp := hp.below hB
  have HA := Lib.hid (And.intro hB r3)
  clear hB r3
  cases hav : Fl.amt n d most with
  | false =>
    have hv : Hid (Fl.plc (Fl.len l) n d most = false) := Lib.hid (by unfold Fl.plc; rw [hav]; rfl)
    have Hav := Lib.hid hav
    clear hav
    go_enter Try.func61, Try.ntmps61
    go_wp2_with fail
    obtain ⟨hB, r3⟩ := HA.out
    generalize w.alloc (.cells #[.int .i64 n, .int .i64 d] 29) = wx at hB r3 hp ⊢
    obtain ⟨⟨c0, c1⟩, -, -⟩ := row_fr r3
    clear HA r3
    first | (go_region_with (go_at_call 67; refine (isAmount_any n d most _ hn hm).mono ?_; rintro e w1 ⟨rfl, hbb⟩; rw [Hav.out])) | fail
    all_goals
      go_wp2
      go_ret
      refine ⟨ret_bool hv.out.symm, ?_⟩
      exact (below_drewN hB 1).trans (hbb.mono hB.size)
  | true =>
    obtain ⟨q1, q2, q3, q4, q5, q6⟩ := Fl.amt_rat hav
    have hfr := fr_of_amt hav
    have hlb := Fl.len_bound hok
    have hv : Fl.plc (Fl.len l) n d most = decide (mkRat n d.toNat ≤ (Fl.len l : Rat)) := by unfold Fl.plc; rw [hav]; rfl
    obtain ⟨q, hq⟩ : ∃ q, q = mkRat n d.toNat := ⟨_, rfl⟩
    rw [← hq] at q1 q2 q3 hfr hv
    have hv2 : Hid (decide (Fl.cmpR q (Fl.len l : Rat) ≤ 0) = Fl.plc (Fl.len l) n d most) := Lib.hid (by rw [hv, cmp_le])
    have hlen : Hid (0 ≤ (Fl.len l : Rat).num ∧ (Fl.len l : Rat).num ≤ 9223372036854775807 ∧ (q.den : Int) * (((Fl.len l : Rat).den : Nat) : Int) ≤ 4000000000000000000) :=
      Lib.hid ⟨by show 0 ≤ Fl.len l; omega, by show Fl.len l ≤ _; omega, by rw [Rat.den_intCast]; omega⟩
    have hqn : 0 ≤ q.num ∧ q.num ≤ 9223372036854775807 := by omega
    have Hav := Lib.hid hav
    have Hfr := Lib.hid hfr
    clear hav hfr hv hq q1 q2
    go_enter Try.func61, Try.ntmps61
    go_wp2_with fail
    obtain ⟨hB, r3⟩ := HA.out
    generalize w.alloc (.cells #[.int .i64 n, .int .i64 d] 29) = wx at hB r3 hp ⊢
    clear HA
    obtain ⟨⟨c0, c1⟩, -, -⟩ := row_fr r3
    replace hB := below_drewN hB 1
    replace hp : Pts (wx.drewN 1) ao l := ⟨hp.cells⟩
    replace r3 : (wx.drewN 1).heap[w.heap.size]? = _ := r3
    first | (go_region_with (first
      | (go_at_call 67; refine (isAmount_any n d most _ hn hm).mono ?_; rintro e w1 ⟨rfl, hbb⟩; rw [Hav.out]; replace hp := hp.below hbb; replace r3 := heap_keep hbb r3; replace hB := hB.trans (hbb.mono hB.size); obtain ⟨⟨c2, c3⟩, -, -⟩ := row_fr r3; clear hbb)
      | (go_at_call 54; refine (length_any l _ _ _ _ hp Hn.out hok h6).mono ?_; rintro e w2 ⟨rfl, hbb⟩; replace r3 := heap_keep hbb r3; replace hB := hB.trans (hbb.mono hB.size); obtain ⟨⟨c4, c5⟩, -, -⟩ := row_fr r3; clear hbb)
      | (go_at_call 69; refine (whole_any _ _).mono ?_; rintro e w3 ⟨rfl, hbb⟩; replace r3 := heap_keep hbb r3; replace hB := hB.trans (hbb.mono hB.size); obtain ⟨⟨c6, c7⟩, -, -⟩ := row_fr r3; clear hbb)
      | (go_at_call 68; rw [Hfr.out]; refine (compare_any q _ _ hqn.1 hlen.out.1 hqn.2 hlen.out.2.1 hlen.out.2.2).mono ?_; rintro e w4 ⟨rfl, hbb⟩; replace hB := hB.trans (hbb.mono hB.size); clear hbb))) | fail
    all_goals
      go_wp2
      go_ret
      exact ⟨ret_bool (by rw [← hv2.out]), hB⟩
end Go.Proofs.Ytkpabehjehbidaa
