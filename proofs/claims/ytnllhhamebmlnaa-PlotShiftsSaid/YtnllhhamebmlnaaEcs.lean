import Derived.Test.YtnllhhamebmlnaaEch
import Derived.Test.YtnllhhamebmlnaaMap
import Derived.Test.YtnllhhamebmlnaaCrs
namespace Go.Proofs.Ytnllhhamebmlnaa
open Go.RowKit

attribute [local go_sem] Oper.semAt_some
attribute [local go_sem ↓] loadAt_ring

set_option maxRecDepth 100000 in
set_option maxHeartbeats 2000000 in
theorem eachShift_any (X : Array Value) (pl : List (Int × Int)) (dx dy : Int) (pb : Nat) (w : World) (hX : IsRing X pl) (h1 : 1 ≤ pl.length) (h10 : pl.length ≤ 10) (hS : Geo.AllSm pl) (hdx : Geo.Sm dx) (hdy : Geo.Sm dy) (hpb : pb < w.heap.size) (hp0 : w.cell? ⟨pb, 0, none⟩ = some (.int .i64 dx)) (hp1 : w.cell? ⟨pb, 1, none⟩ = some (.int .i64 dy)) :
    Calls Try.prog 91 #[.agg X, .func (.func 92) #[] #[.pointer (some ⟨pb, 0, none⟩)]] w fun e w' => ∃ Y, e = .returned (.agg Y) ∧ IsRing Y (pl.map (Geo.shiftP (dx, dy))) ∧ Below w.heap.size w w' := by
  have bR := (RowAt.new w X 51).alloc (.cells (z21 0) 51)
  have bZ := RowAt.new' (w := w.alloc (.cells X 51)) (X := z21 0) (t := 51) (B := w.heap.size + 1) (by simp)
  have hB0 : Below w.heap.size w ((w.alloc (.cells X 51)).alloc (.cells (z21 0) 51)) := ((Below.refl _ w).alloc (Nat.le_refl _) _).alloc (by simp) _
  have c0 := hX.n
  have Hb := Lib.hid (And.intro bR (And.intro bZ hB0))
  clear bR bZ hB0
  have HP := Lib.hid (And.intro hp0 hp1)
  clear hp0 hp1
  go_enter Try.func91, Try.ntmps91
  go_wp2_with fail
  obtain ⟨W0, hW0⟩ : ∃ W0, ((w.alloc (.cells X 51)).alloc (.cells (z21 0) 51)) = W0 := ⟨_, rfl⟩
  rw [hW0] at Hb
  unfold z21 at hW0
  rw [hW0]
  clear hW0
  obtain ⟨bR, bZ, hB0⟩ := Hb.out
  clear Hb
  go_loopw [8] (fun s wr => ∃ (k : Nat) (Y : Array Value), k ≤ pl.length ∧ s = .int .i64 k ∧ Hid (IsRing Y (upTo (Geo.shiftP (dx, dy)) pl k)) ∧ Hid (RowAt wr w.heap.size Y 51) ∧ Hid (RowAt wr (w.heap.size + 1) (z21 0) 51) ∧ Below w.heap.size w wr) (fun s _ => pl.length - (intOf s).toNat)
  case atStart => exact ⟨0, X, Nat.zero_le _, rfl, Lib.hid hX, Lib.hid bR, Lib.hid bZ, hB0⟩
  case round =>
    clear hX bR bZ hB0
    obtain ⟨k, Y, hk, rfl, hY, hR, hZ, hb⟩ := hrel
    by_cases hlt : k < pl.length
    · have i1 : (k : Int) < (pl.length : Int) := by omega
      have eg : (upTo (Geo.shiftP (dx, dy)) pl k).getD k (0, 0) = pl.getD k (0, 0) := by
        rw [List.getD_eq_getElem?_getD, upTo_at _ _ _ _ hlt, if_neg (by omega)]; rfl
      have c1 : wr.cell? ⟨w.heap.size, 1 + k * 2, none⟩ = some (.int .i64 (Geo.px pl k)) := by
        have h := hR.out.cell (hY.out.x k (by rw [upTo_length]; exact hlt))
        rw [eg] at h; exact h
      have c2 : wr.cell? ⟨w.heap.size, 1 + k * 2 + 1, none⟩ = some (.int .i64 (Geo.py pl k)) := by
        have h := hR.out.cell (hY.out.y k (by rw [upTo_length]; exact hlt))
        rw [eg] at h; exact h
      have i2 : (k : Int) < 10 := by omega
      have i3 : k < 10 := by omega
      clear eg
      go_wp2_with fail
      refine (shift1_any _ _ dx dy pb _ (hS.x k) (hS.y k) hdx hdy (Nat.lt_of_lt_of_le hpb hb.size) ((hb.cell (p := ⟨pb, 0, none⟩) hpb).trans HP.out.1) ((hb.cell (p := ⟨pb, 1, none⟩) hpb).trans HP.out.2)).mono ?_
      rintro e w1 ⟨rfl, hb1⟩
      have hR1 := hR.out.below hb1
      have f1 := hR1.free (1 + k * 2)
      have f2 := hR1.free (1 + k * 2 + 1)
      rw [← hb1.cell (p := ⟨w.heap.size, _, none⟩) hR.out.lt] at c1 c2
      have HR1 := Lib.hid hR1
      clear hR1
      go_wp2_with fail
      go_roundw
      case rel =>
        have hY2 := isRing_set hY.out (k := k) (by rw [upTo_length]; exact hlt) (by rw [upTo_length]; exact h10) ((Geo.shiftP (dx, dy)) (pl.getD k (0, 0)))
        exact ⟨k + 1, _, by omega, by go_num, Lib.hid hY2, Lib.hid ((HR1.out.set _ _).set _ _), Lib.hid (((hZ.out.below hb1).other (by omega) _ _).other (by omega) _ _), ((hb.trans (hb1.mono hb.size)).setCell (p := ⟨w.heap.size, _, none⟩) (by simp) _).setCell (p := ⟨w.heap.size, _, none⟩) (by simp) _⟩
      case measure => simp [intOf]; omega
    · have hk2 : k = pl.length := by omega
      have hY2 := hY.out
      rw [hk2, upTo_all] at hY2
      have hl := run_loadRing hR.out hY2.size
      have hsz : (Try.prog.info? 51).map (·.size) = some Y.size := by rw [Try.infoRing, hY2.size]
      have Hk := Lib.hid hk2
      have HY := Lib.hid hY2
      have Hsz := Lib.hid hsz
      clear hk2 hY2 hsz hY
      go_wp2_with (refine wpList_store_row_b rfl _ _ _ rfl _ Y rfl rfl _ _ hZ.out Hsz.out (by rw [HY.out.size]; rfl) HY.out.one ?_; intro w4 hw4 hb4 hs4)
      refine bodyPost_ret (results_cell_row rfl _ _ _ _ _ _ _ rfl hw4 Try.underlying51 rfl Hsz.out) rfl ⟨_, rfl, HY.out, ?_⟩
      exact hb.trans (hb4.mono (by omega))
end Go.Proofs.Ytnllhhamebmlnaa
