import Derived.Test.YtnllhhamebmlnaaShm
namespace Go.Proofs.Ytnllhhamebmlnaa
open Go.RowKit

attribute [local go_sem] Oper.semAt_some
attribute [local go_sem ↓] loadAt_ring

theorem OwnPts.below {w w' : World} {b : Nat} {v : Value} {l : List (Int × Int)} (h : OwnPts w b v l) (hb : Below w.heap.size w w') : OwnPts w' b v l := by
  obtain ⟨h1, h2⟩ := h
  refine ⟨h1, ?_⟩
  rcases h2 with h | ⟨g, cap, cur, e1, e2, hg, e3⟩
  · exact .inl h
  · exact .inr ⟨g, cap, cur, e1, e2, (hb.block g (Array.getElem?_eq_some_iff.1 hg).1).trans hg, e3⟩

theorem shiftCode_no {l : List (Int × Int)} {d : Int × Int} (h : validate l ≠ 0) : shiftCode l d = validate l := by unfold shiftCode; rw [if_pos h]
theorem shiftCode_far {l : List (Int × Int)} {d : Int × Int} (h : validate l = 0) (hw : Geo.within d.1 d.2 60 = false) : shiftCode l d = 1 := by unfold shiftCode; rw [if_neg (by simpa using h), if_pos hw]
theorem shiftCode_out {l : List (Int × Int)} {d : Int × Int} (h : validate l = 0) (hw : Geo.within d.1 d.2 60 = true) (ha : ((l.map (Geo.shiftP d)).all fun p => Geo.within p.1 p.2 30) = false) : shiftCode l d = 1 := by unfold shiftCode; rw [if_neg (by simpa using h), if_neg (by rw [hw]; simp), if_pos ha]
theorem shiftCode_yes {l : List (Int × Int)} {d : Int × Int} (h : validate l = 0) (hw : Geo.within d.1 d.2 60 = true) (ha : ((l.map (Geo.shiftP d)).all fun p => Geo.within p.1 p.2 30) = true) : shiftCode l d = 0 := by unfold shiftCode; rw [if_neg (by simpa using h), if_neg (by rw [hw]; simp), if_neg (by rw [ha]; simp)]
theorem within_sm {x y : Int} (h : Geo.within x y 60 = true) : Geo.Sm x ∧ Geo.Sm y := by
  unfold Geo.within at h
  simp only [Bool.and_eq_true, decide_eq_true_eq] at h
  unfold Geo.Sm
  omega

set_option maxRecDepth 100000 in
set_option maxHeartbeats 3200000 in
theorem shift_any (l : List (Int × Int)) (dx dy : Int) (ao : Option Addr) (n cap : Nat) (w : World) (hp : Pts w ao l) (hln : n = l.length) (hn : n ≤ 100000) (hcap : n ≤ cap) :
    Calls Try.prog 45 #[.slice ao n cap, .agg #[.int .i64 dx, .int .i64 dy]] w fun e w' => ∃ v, e = .returned (.tuple #[v, .int .i64 (shiftCode l (dx, dy))]) ∧ Made w w' v (shiftCode l (dx, dy)) (l.map (Geo.shiftP (dx, dy))) ∧ Below w.heap.size w w' := by
  have Hn := Lib.hid hln
  clear hln
  have Hsz := Lib.hid (readRow_info l)
  have hA : Below w.heap.size w (w.alloc (.cells #[.int .i64 dx, .int .i64 dy] 32)) := (Below.refl _ _).alloc (Nat.le_refl _) _
  have hpA := hp.below hA
  have q0 : (w.alloc (.cells #[.int .i64 dx, .int .i64 dy] 32)).cell? ⟨w.heap.size, 0, none⟩ = some (.int .i64 dx) := by simp
  have q1 : (w.alloc (.cells #[.int .i64 dx, .int .i64 dy] 32)).cell? ⟨w.heap.size, 1, none⟩ = some (.int .i64 dy) := by simp
  have Hq := Lib.hid (And.intro q0 (And.intro q1 hA))
  clear q0 q1 hA
  obtain ⟨c, hc⟩ : ∃ c, c = validate l := ⟨_, rfl⟩
  have Hc := Lib.hid hc
  have hc0 : c = 0 ∨ (c == 0) = false ∧ (c != 0) = true := by by_cases h : c = 0 <;> simp [h]
  clear hc
  go_enter Try.func45, Try.ntmps45
  go_wp2_with fail
  refine (read_any l ao n cap _ hpA Hn.out hn hcap).mono ?_
  rintro e w1 ⟨rfl, hb1⟩
  rw [← Hc.out]
  have HB1 := Lib.hid hb1
  have s1 : w.heap.size < w1.heap.size := by have := hb1.size; simp only [World.size_alloc] at this; omega
  have HZ := Lib.hid (heap_alloc_new w1 (.cells (z21 0) 51))
  have HD : Hid (∀ W, Below w1.heap.size (w1.alloc (.cells (z21 0) 51)) W → W.cell? ⟨w.heap.size, 0, none⟩ = some (.int .i64 dx) ∧ W.cell? ⟨w.heap.size, 1, none⟩ = some (.int .i64 dy)) := Lib.hid (fun W hW =>
    have h := ((Below.refl _ w1).alloc (Nat.le_refl _) (.cells (z21 0) 51)).trans hW
    ⟨(h.cell (p := ⟨w.heap.size, 0, none⟩) s1).trans ((hb1.cell (p := ⟨w.heap.size, 0, none⟩) (by simp)).trans Hq.out.1), (h.cell (p := ⟨w.heap.size, 1, none⟩) s1).trans ((hb1.cell (p := ⟨w.heap.size, 1, none⟩) (by simp)).trans Hq.out.2.1)⟩)
  clear hb1
  have hB1 : Below w.heap.size w w1 := Hq.out.2.2.trans (HB1.out.mono (by simp))
  rcases hc0 with rfl | ⟨hc0, hc1⟩
  · have hX := isRing_read Hc.out.symm
    have hlen := validate_len Hc.out.symm
    have hS := allSm_of (validate_sm Hc.out.symm) (by omega)
    have Hlen := Lib.hid hlen
    have HX := Lib.hid hX
    have xs := Lib.hid hX.size
    clear hlen hX
    go_wp2_with (refine wpList_store_row_b rfl _ _ _ rfl _ (readRow l) rfl rfl _ _ HZ.out Hsz.out (by rw [readRow_size]; rfl) (readRow_one l) ?_; intro w4 hw4 hb4 hs4; have Hw4 := Lib.hid hw4; clear hw4; have Hb := Lib.hid (And.intro hb4 hs4); obtain ⟨d0, d1⟩ := HD.out _ hb4; clear hb4 hs4)
    go_wp2_with fail
    refine (within_any dx dy 60 _ (by omega) (by omega)).mono ?_
    rintro e w5 ⟨rfl, hb5⟩
    have hs4 := Hb.out.2
    simp only [World.size_alloc] at hs4
    have hl5 := run_loadRing ((hb5.block w1.heap.size (by omega)).trans Hw4.out) xs.out
    have p0 := (hb5.cell (p := ⟨w.heap.size, 0, none⟩) (by show w.heap.size < w4.heap.size; omega)).trans d0
    have p1 := (hb5.cell (p := ⟨w.heap.size, 1, none⟩) (by show w.heap.size < w4.heap.size; omega)).trans d1
    have s5 := hb5.size
    have hB5 : Below w.heap.size w w5 := hB1.trans ((((Below.refl _ _).alloc (Nat.le_refl _) _).trans (Hb.out.1.trans (hb5.mono (by omega)))).mono (by omega))
    clear d0 d1 hb5
    obtain ⟨bv, hbv⟩ : ∃ v, Geo.within dx dy 60 = v := ⟨_, rfl⟩
    rw [hbv]
    have Hw := Lib.hid hbv
    clear hbv
    cases bv with
    | false =>
      go_wp2_with fail
      go_ret2
      have e := shiftCode_far (d := (dx, dy)) Hc.out.symm Hw.out
      refine ⟨.slice none 0 0, by rw [e]; rfl, .inr ⟨(by rw [e]; decide), rfl⟩, hB5⟩
    | true =>
      go_wp2_with fail
      have hd := within_sm Hw.out
      refine (eachShift_any _ l dx dy w.heap.size _ HX.out (by have := Hlen.out; omega) Hlen.out.2 hS hd.1 hd.2 (by omega) p0 p1).mono ?_
      rintro e w6 ⟨Y, rfl, hY, hb6⟩
      have HY := Lib.hid hY
      clear hY
      have hB6 := hB5.trans (hb6.mono (by omega))
      have s6 := hb6.size
      clear hb6 p0 p1
      go_wp2_with fail
      refine (corners_any Y _ _ HY.out (by have := Hlen.out; simp; omega) (by have := Hlen.out; simp; omega)).mono ?_
      rintro e w7 ⟨v, rfl, ho, hb7⟩
      have hB7 := hB6.trans (hb7.mono (by omega))
      have Ho := Lib.hid (ho.base (b' := w.heap.size) (by omega))
      clear ho hb7
      obtain ⟨ao2, n2, cap2, rfl, hn2, hcap2, hp2⟩ := own_pts Ho.out
      have s7 := hB7.size
      have Hn2 := Lib.hid hn2
      have hn2' : n2 ≤ 100000 := by rw [hn2, List.length_map]; have := Hlen.out; omega
      clear hn2
      go_wp2_with fail
      refine (allWithin_any _ ao2 n2 cap2 30 _ hp2 Hn2.out hn2' (by omega) (by omega)).mono ?_
      rintro e w8 ⟨rfl, hb8⟩
      have hB8 := hB7.trans (hb8.mono s7)
      have Ho8 := Lib.hid (Ho.out.below hb8)
      clear hb8
      obtain ⟨bw, hbw⟩ : ∃ v, ((l.map (Geo.shiftP (dx, dy))).all fun p => Geo.within p.1 p.2 30) = v := ⟨_, rfl⟩
      rw [hbw]
      have Hw2 := Lib.hid hbw
      clear hbw
      cases bw with
      | false =>
        go_wp2_with fail
        go_ret2
        have e := shiftCode_out (d := (dx, dy)) Hc.out.symm Hw.out Hw2.out
        refine ⟨.slice none 0 0, by rw [e]; rfl, .inr ⟨(by rw [e]; decide), rfl⟩, hB8⟩
      | true =>
        go_wp2_with fail
        go_ret2
        have e := shiftCode_yes (d := (dx, dy)) Hc.out.symm Hw.out Hw2.out
        refine ⟨.slice ao2 n2 cap2, by rw [e]; rfl, .inl ⟨e, Ho8.out⟩, hB8⟩
  · go_wp2_with (refine wpList_store_row_b rfl _ _ _ rfl _ (readRow l) rfl rfl _ _ HZ.out Hsz.out (by rw [readRow_size]; rfl) (readRow_one l) ?_; intro w4 hw4 hb4 hs4; clear hw4; have Hb := Lib.hid (And.intro hb4 hs4); clear hb4 hs4)
    go_ret2
    have hne : validate l ≠ 0 := fun h => by rw [← Hc.out] at h; rw [h] at hc0; exact Bool.noConfusion hc0
    have e := shiftCode_no (d := (dx, dy)) hne
    refine ⟨.slice none 0 0, by rw [e, ← Hc.out]; rfl, .inr ⟨(by rw [e]; exact hne), rfl⟩, hB1.trans ((((Below.refl _ _).alloc (Nat.le_refl _) _).trans Hb.out.1).mono (by omega))⟩
end Go.Proofs.Ytnllhhamebmlnaa
