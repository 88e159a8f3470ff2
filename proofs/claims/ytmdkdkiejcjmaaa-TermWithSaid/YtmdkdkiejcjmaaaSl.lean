import Derived.Test.YtmdkdkiejcjmaaaSb
import Derived.Test.YtmdkdkiejcjmaaaTr
import Derived.Test.YtmdkdkiejcjmaaaTy
/- Math of term, for the laws of days. -/
namespace Go.Proofs.Ytmdkdkiejcjmaaa
open Go.RowKit Go.Shelf

namespace Tm
theorem nx_bf {f d : Int} {F : List Int} {S : List (Int × Int)} {x y : Nat} {b : Bool} (h : dcode f F S [d] = 0) (hx : Nx f F S d x) (hy : Bf f F S d y b) : d.toNat ≤ x ∧ (b = true → y ≤ d.toNat ∧ (y = d.toNat ↔ x = d.toNat)) := by
  rcases hx with ⟨-, h1⟩ | ⟨h1, -⟩
  · refine ⟨h1.le, fun hb => ?_⟩
    rcases hy with ⟨-, h2⟩ | ⟨h2, -⟩
    · rcases h2 with ⟨-, h3, h4, h5⟩ | ⟨h3, -⟩
      · refine ⟨h3, fun e => ?_, fun e => ?_⟩
        · subst e
          exact h1.unique (nth_first (Nat.le_refl _) (fun y a b => by omega) h4)
        · rcases Nat.lt_or_ge y d.toNat with h6 | h6
          · have h7 := h5 d.toNat h6 (Nat.le_refl _)
            have := h1.is
            rw [e, h7] at this
            cases this
          · omega
      · rw [hb] at h3; cases h3
    · exact absurd h h2
  · exact absurd h h1
theorem after_cnt {p : Nat → Bool} {d n x : Nat} (h : After p d n x) (h1 : 1 ≤ n) : d + 1 ≤ x ∧ cnt p (d + 1) (x + 1 - (d + 1)) = n ∧ p x = true := by
  rcases h with ⟨h2, -⟩ | ⟨-, h2⟩
  · omega
  · have := h2.le
    have h3 := h2.num
    have h4 := h2.is
    refine ⟨this, ?_, h4⟩
    rw [show x + 1 - (d + 1) = x - (d + 1) + 1 by omega, cnt_succ, show d + 1 + (x - (d + 1)) = x by omega, h4]
    simpa using h3
theorem ends_cnt {c p : Nat → Bool} {d n x : Nat} (h : Ends c p d n x) : p x = true ∧ d ≤ x ∧ n ≤ cnt c d (x + 1 - d) := by
  obtain ⟨a, h1, h2⟩ := h
  have h3 := h2.le
  rcases h1 with ⟨rfl, rfl⟩ | ⟨h4, h5⟩
  · exact ⟨h2.is, h3, Nat.zero_le _⟩
  · have h6 := h5.le
    refine ⟨h2.is, by omega, ?_⟩
    have h7 := h5.num
    have h8 := h5.is
    have h9 := cnt_succ c (d + 1) (a - (d + 1))
    rw [show d + 1 + (a - (d + 1)) = a by omega, h8] at h9
    simp only [if_true] at h9
    have h10 := cnt_mono (p := c) (d := d + 1) (show a - (d + 1) + 1 ≤ x - d by omega)
    have h11 := cnt_add c d 1 (x - d)
    rw [show 1 + (x - d) = x + 1 - d by omega] at h11
    omega
theorem dcode_of {f x : Int} {F : List Int} {S : List (Int × Int)} (hv : vcode f F S = 0) (h1 : 0 ≤ x) (h2 : x ≤ 10000) : dcode f F S [x] = 0 := by
  unfold dcode
  rw [if_neg (by simpa using hv), if_pos]
  unfold upTo
  simpa using ⟨h1, h2⟩
end Tm
end Go.Proofs.Ytmdkdkiejcjmaaa
