import Derived.Test.YtnllhhamebmlnaaEcs
import Derived.Test.YtnllhhamebmlnaaEcm
import Derived.Test.YtnllhhamebmlnaaEcq
import Derived.Test.YtnllhhamebmlnaaRdr
namespace Go.Proofs.Ytnllhhamebmlnaa
open Go.RowKit

attribute [local go_sem] Oper.semAt_some
attribute [local go_sem ↓] loadAt_ring

/-- What a call that makes a plot hands back. -/
def Made (w0 w : World) (v : Value) (c : Int) (l : List (Int × Int)) : Prop := (c = 0 ∧ OwnPts w w0.heap.size v l) ∨ (c ≠ 0 ∧ v = .slice none 0 0)

set_option maxRecDepth 100000 in
set_option maxHeartbeats 2000000 in
theorem quarter_any (l : List (Int × Int)) (ao : Option Addr) (n cap : Nat) (w : World) (hp : Pts w ao l) (hln : n = l.length) (hn : n ≤ 100000) (hcap : n ≤ cap) :
    Calls Try.prog 47 #[.slice ao n cap] w fun e w' => ∃ v, e = .returned (.tuple #[v, .int .i64 (validate l)]) ∧ Made w w' v (validate l) (l.map Geo.quarterP) ∧ Below w.heap.size w w' := by
  have Hn := Lib.hid hln
  clear hln
  have Hsz := Lib.hid (readRow_info l)
  obtain ⟨c, hc⟩ : ∃ c, c = validate l := ⟨_, rfl⟩
  have Hc := Lib.hid hc
  have hc0 : c = 0 ∨ (c == 0) = false ∧ (c != 0) = true := by by_cases h : c = 0 <;> simp [h]
  clear hc
  go_enter Try.func47, Try.ntmps47
  go_wp2_with fail
  refine (read_any l ao n cap _ hp Hn.out hn hcap).mono ?_
  rintro e w1 ⟨rfl, hb1⟩
  rw [← Hc.out]
  have HZ := Lib.hid (heap_alloc_new w1 (.cells (z21 0) 51))
  rcases hc0 with rfl | ⟨hc0, hc1⟩
  · have hX := isRing_read Hc.out.symm
    have hlen := validate_len Hc.out.symm
    have hS := allSm_of (validate_sm Hc.out.symm) (by omega)
    have Hlen := Lib.hid hlen
    have HX := Lib.hid hX
    have xs := Lib.hid hX.size
    clear hlen hX
    go_wp2_with (refine wpList_store_row_b rfl _ _ _ rfl _ (readRow l) rfl rfl _ _ HZ.out Hsz.out (by rw [readRow_size]; rfl) (readRow_one l) ?_; intro w4 hw4 hb4 hs4; have hl4 := run_loadRing hw4 xs.out; clear hw4; have Hb := Lib.hid (And.intro hb4 hs4); clear hb4 hs4)
    go_wp2_with fail
    refine (eachQuarter_any _ l _ HX.out (by have := Hlen.out; omega) Hlen.out.2 hS).mono ?_
    rintro e w5 ⟨Y, rfl, hY, hb5⟩
    have HY := Lib.hid hY
    clear hY
    go_wp2_with fail
    refine (corners_any Y _ _ HY.out (by have := Hlen.out; simp; omega) (by have := Hlen.out; simp; omega)).mono ?_
    rintro e w6 ⟨v, rfl, ho, hb6⟩
    have Ho := Lib.hid ho
    clear ho
    go_wp2_with fail
    go_ret2
    have hs1 := hb1.size
    have hs4 := Hb.out.2
    simp only [World.size_alloc] at hs4
    refine ⟨v, by rw [← Hc.out]; rfl, .inl ⟨Hc.out.symm, Ho.out.base (by have := hb5.size; omega)⟩, hb1.trans ((((Below.refl _ _).alloc (Nat.le_refl _) _).trans (Hb.out.1.trans ((hb5.mono (by omega)).trans (hb6.mono (by have := hb5.size; omega))))).mono hs1)⟩
  · go_wp2_with (refine wpList_store_row_b rfl _ _ _ rfl _ (readRow l) rfl rfl _ _ HZ.out Hsz.out (by rw [readRow_size]; rfl) (readRow_one l) ?_; intro w4 hw4 hb4 hs4; clear hw4; have Hb := Lib.hid (And.intro hb4 hs4); clear hb4 hs4)
    go_ret2
    refine ⟨.slice none 0 0, by rw [← Hc.out]; rfl, .inr ⟨(fun h => by rw [← Hc.out] at h; rw [h] at hc0; exact Bool.noConfusion hc0), rfl⟩, hb1.trans ((((Below.refl _ _).alloc (Nat.le_refl _) _).trans Hb.out.1).mono hb1.size)⟩

set_option maxRecDepth 100000 in
set_option maxHeartbeats 2000000 in
theorem mirror_any (l : List (Int × Int)) (ao : Option Addr) (n cap : Nat) (w : World) (hp : Pts w ao l) (hln : n = l.length) (hn : n ≤ 100000) (hcap : n ≤ cap) :
    Calls Try.prog 49 #[.slice ao n cap] w fun e w' => ∃ v, e = .returned (.tuple #[v, .int .i64 (validate l)]) ∧ Made w w' v (validate l) (l.map Geo.mirrorP) ∧ Below w.heap.size w w' := by
  have Hn := Lib.hid hln
  clear hln
  have Hsz := Lib.hid (readRow_info l)
  obtain ⟨c, hc⟩ : ∃ c, c = validate l := ⟨_, rfl⟩
  have Hc := Lib.hid hc
  have hc0 : c = 0 ∨ (c == 0) = false ∧ (c != 0) = true := by by_cases h : c = 0 <;> simp [h]
  clear hc
  go_enter Try.func49, Try.ntmps49
  go_wp2_with fail
  refine (read_any l ao n cap _ hp Hn.out hn hcap).mono ?_
  rintro e w1 ⟨rfl, hb1⟩
  rw [← Hc.out]
  have HZ := Lib.hid (heap_alloc_new w1 (.cells (z21 0) 51))
  rcases hc0 with rfl | ⟨hc0, hc1⟩
  · have hX := isRing_read Hc.out.symm
    have hlen := validate_len Hc.out.symm
    have Hlen := Lib.hid hlen
    have HX := Lib.hid hX
    have xs := Lib.hid hX.size
    clear hlen hX
    go_wp2_with (refine wpList_store_row_b rfl _ _ _ rfl _ (readRow l) rfl rfl _ _ HZ.out Hsz.out (by rw [readRow_size]; rfl) (readRow_one l) ?_; intro w4 hw4 hb4 hs4; have hl4 := run_loadRing hw4 xs.out; clear hw4; have Hb := Lib.hid (And.intro hb4 hs4); clear hb4 hs4)
    go_wp2_with fail
    refine (eachMirror_any _ l _ HX.out (by have := Hlen.out; omega) Hlen.out.2).mono ?_
    rintro e w5 ⟨Y, rfl, hY, hb5⟩
    have HY := Lib.hid hY
    clear hY
    go_wp2_with fail
    refine (corners_any Y _ _ HY.out (by have := Hlen.out; simp; omega) (by have := Hlen.out; simp; omega)).mono ?_
    rintro e w6 ⟨v, rfl, ho, hb6⟩
    have Ho := Lib.hid ho
    clear ho
    go_wp2_with fail
    go_ret2
    have hs1 := hb1.size
    have hs4 := Hb.out.2
    simp only [World.size_alloc] at hs4
    refine ⟨v, by rw [← Hc.out]; rfl, .inl ⟨Hc.out.symm, Ho.out.base (by have := hb5.size; omega)⟩, hb1.trans ((((Below.refl _ _).alloc (Nat.le_refl _) _).trans (Hb.out.1.trans ((hb5.mono (by omega)).trans (hb6.mono (by have := hb5.size; omega))))).mono hs1)⟩
  · go_wp2_with (refine wpList_store_row_b rfl _ _ _ rfl _ (readRow l) rfl rfl _ _ HZ.out Hsz.out (by rw [readRow_size]; rfl) (readRow_one l) ?_; intro w4 hw4 hb4 hs4; clear hw4; have Hb := Lib.hid (And.intro hb4 hs4); clear hb4 hs4)
    go_ret2
    refine ⟨.slice none 0 0, by rw [← Hc.out]; rfl, .inr ⟨(fun h => by rw [← Hc.out] at h; rw [h] at hc0; exact Bool.noConfusion hc0), rfl⟩, hb1.trans ((((Below.refl _ _).alloc (Nat.le_refl _) _).trans Hb.out.1).mono hb1.size)⟩
end Go.Proofs.Ytnllhhamebmlnaa
