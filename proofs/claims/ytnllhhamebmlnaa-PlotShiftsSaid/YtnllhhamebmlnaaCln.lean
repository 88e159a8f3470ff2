import Derived.Test.YtnllhhamebmlnaaRing
import Derived.Laws.AppendOwn
import Derived.Lib.SliceRun
namespace Go.Proofs.Ytnllhhamebmlnaa
open Go.RowKit

theorem infoPtAll : (Try.prog.info? 32).map (fun i => (i.zero, i.size, i.bytes)) = some (some (.agg #[.int .i64 0, .int .i64 0]), 2, 16) := by kernel_rfl
theorem info_pt : ∃ i, Try.prog.info? 32 = some i ∧ i.zero = some (.agg #[.int .i64 0, .int .i64 0]) ∧ i.size = 2 ∧ i.bytes = 16 := by
  have h := infoPtAll
  cases hi : Try.prog.info? 32 with
  | none => rw [hi] at h; cases h
  | some i =>
    rw [hi] at h
    simp only [Option.map_some, Option.some.injEq, Prod.mk.injEq] at h
    exact ⟨i, rfl, h.1, h.2.1, h.2.2⟩

/-- A slice of points in memory that the call itself has made. -/
def OwnPts (w : World) (base : Nat) (v : Value) (l : List (Int × Int)) : Prop := w.ownsRow base 32 2 v l.length (flat l)

theorem own_new (w : World) : (w.alloc (.cells #[] 32)).ownsRow w.heap.size 32 2 (.slice (some ⟨w.heap.size, 0, none⟩) 0 0) 0 [] :=
  ⟨rfl, .inr ⟨w.heap.size, 0, #[], rfl, Nat.le_refl _, heap_alloc_new _ _, Nat.le_refl _, Nat.zero_le _, rfl, rfl⟩⟩

set_option maxRecDepth 100000 in
set_option maxHeartbeats 1000000 in
theorem clone_any (l : List (Int × Int)) (ad : Addr) (n cap : Nat) (w : World) (hln : n = l.length) (hn : n ≤ 100000)
    (hc : ∀ j u, (flat l)[j]? = some u → w.cell? (ad.add j) = some u) (hbl : ad.block < w.heap.size) :
    Calls Try.prog 104 #[.slice (some ad) n cap] w fun e w' => ∃ v, e = .returned v ∧ OwnPts w' w.heap.size v l ∧ Below w.heap.size w w' := by
  have Hn := Lib.hid hln
  obtain ⟨i0, hi, hz0, hz1, hz2⟩ := info_pt
  have q := fun (w : World) (a : Option Addr) (n c n' c' : Nat) => Lib.run_eql_slice_nil (P := Try.prog) w 22 32 a n c n' c' Try.underlying22
  have hsrc : ∀ j u, (flat l)[j]? = some u → (w.alloc (.cells #[] 32)).cell? (ad.add j) = some u := fun j u h => by
    rw [← hc j u h]
    exact ((Below.refl _ w).alloc (Nat.le_refl _) _).cell (by unfold Addr.add; split <;> exact hbl)
  have Hs := Lib.hid hsrc
  clear hln hc hsrc
  go_enter Try.func104, Try.ntmps104
  go_wp2_with (first | (at_builtin; refine wpList_append_own _ rfl _ _ 22 rfl w.heap.size 32 i0 (.agg #[.int .i64 0, .int .i64 0]) 2 16 Try.underlying22 hi hz0 hz1 hz2 rfl (by decide) _ 0 [] rfl (own_new w) ad n cap (flat l) rfl (by rw [flat_length, Hn.out]) Hs.out (flat_one l) (by unfold maxLen; omega) (by omega) (by simp) ?_; intro v' w3 hown' hgrow3 hnil3))
  have hgb : Below w.heap.size w w3 := ((Below.refl _ w).alloc (Nat.le_refl _) _).grown hgrow3 (by simp) (fun k hk => by cases hk; exact Nat.le_refl _)
  have hown2 : OwnPts w3 w.heap.size v' l := by
    have h := hown'
    rw [Nat.zero_add, List.nil_append] at h
    unfold OwnPts
    rw [← Hn.out]
    exact h
  clear hown' hgrow3 hnil3
  go_ret
  exact ⟨_, rfl, hown2, hgb⟩
end Go.Proofs.Ytnllhhamebmlnaa
