import Derived.Test.YtmdkdkiejcjmaaaXg
import Derived.Test.YtmdkdkiejcjmaaaXm
/- What With answers is one (TermWith). -/
namespace Go.Proofs.Ytmdkdkiejcjmaaa
open Go.RowKit
namespace Tm
theorem first_one {S : List (Int × Int)} (hs : S.Pairwise (fun a b => a.1 < b.1)) {a b : Int × Int} (ha : a ∈ S) (hb : b ∈ S) (h : a.1 = b.1) : a = b := by
  obtain ⟨i, hi, rfl⟩ := List.mem_iff_getElem.1 ha
  obtain ⟨j, hj, rfl⟩ := List.mem_iff_getElem.1 hb
  rw [List.pairwise_iff_getElem] at hs
  rcases Nat.lt_trichotomy i j with h1 | h1 | h1
  · have := hs i j hi hj h1
    omega
  · subst h1
    rfl
  · have := hs j i hj hi h1
    omega
theorem wr_unique {f f2 f3 x y : Int} {F F2 F3 : List Int} {S L L3 : List (Int × Int)} (h : WR f F S x y f2 F2 L) (h2 : WR f F S x y f3 F3 L3) : f2 = f3 ∧ F2 = F3 ∧ L = L3 := by
  rcases h with ⟨h1, rfl, rfl, rfl⟩ | ⟨h1, rfl, rfl, hp, hs⟩
  · rcases h2 with ⟨-, rfl, rfl, rfl⟩ | ⟨k1, -⟩
    · exact ⟨rfl, rfl, rfl⟩
    · exact absurd k1 h1
  · rcases h2 with ⟨k1, -⟩ | ⟨-, rfl, rfl, kp, ks⟩
    · exact absurd h1 k1
    · refine ⟨rfl, rfl, List.Perm.eq_of_pairwise (fun a b ha hb h3 h4 => ?_) hs ks (hp.trans kp.symm)⟩
      obtain ⟨hv, -, hsp, hsh⟩ := wcode_ok h1
      have hst := (vcode_ok hv).1.st
      have hfi := firsts hv
      have hxy := (spans_mem hsp (x, y) (by simp)).2.1
      simp only at hxy
      have hno : ∀ c ∈ S, c.1 = x → False := fun c hc e => by
        unfold shares at hsh
        rw [List.any_eq_false] at hsh
        have h5 := hsh c hc
        have h6 := (hst c hc).2.1
        rw [Bool.and_eq_true, decide_eq_true_eq, decide_eq_true_eq] at h5
        exact h5 ⟨by omega, by omega⟩
      have e : a.1 = b.1 := by omega
      rcases List.mem_append.1 (hp.mem_iff.1 ha) with ha2 | ha2 <;> rcases List.mem_append.1 (kp.mem_iff.1 hb) with hb2 | hb2
      · exact first_one hfi ha2 hb2 e
      · rw [List.mem_singleton] at hb2
        subst hb2
        exact (hno a ha2 e).elim
      · rw [List.mem_singleton] at ha2
        subst ha2
        exact (hno b hb2 e.symm).elim
      · rw [List.mem_singleton] at ha2 hb2
        rw [ha2, hb2]
theorem tcode_same {f d : Int} {F : List Int} {S L : List (Int × Int)} {ts : List Int} (h : vcode f F S = 0) (h2 : vcode f F L = 0) : tcode f F L d ts = tcode f F S d ts := by
  have e : dcode f F L [d] = dcode f F S [d] := by
    unfold dcode
    rw [h, h2]
  unfold tcode
  rw [e]
end Tm
end Go.Proofs.Ytmdkdkiejcjmaaa
