import Derived.Test.YtnllhhamebmlnaaShp
import Derived.Test.YtnllhhamebmlnaaRmv
namespace Go.Proofs.Ytnllhhamebmlnaa
open Go.RowKit

theorem own_done {w : World} {b k n : Nat} {v : Value} {l : List (Int × Int)} {T : Int × Int → Int × Int} (hk : k = n) (hn : n = l.length) (h : w.ownsRow b 32 2 v k (flat ((l.take k).map T))) : OwnPts w b v (l.map T) := by
  rw [hk, hn, List.take_length] at h
  unfold OwnPts
  rw [List.length_map]
  exact h
theorem within60 (x y : Int) : Geo.within x y 60 = ((decide (-60 ≤ x) && decide (x ≤ 60)) && (decide (-60 ≤ y) && decide (y ≤ 60))) := by
  unfold Geo.within
  rw [Bool.and_assoc]

set_option maxRecDepth 100000 in
set_option maxHeartbeats 3200000 in
theorem rshift_any (l : List (Int × Int)) (dx dy : Int) (ao : Option Addr) (n cap : Nat) (w : World) (hp : Pts w ao l) (hln : n = l.length) (hn : n ≤ 100000) :
    Calls Try.prog 46 #[.slice ao n cap, .agg #[.int .i64 dx, .int .i64 dy]] w fun e w' => ∃ v, e = .returned (.tuple #[v, .int .i64 (shiftCode l (dx, dy))]) ∧ Made w w' v (shiftCode l (dx, dy)) (l.map (Geo.shiftP (dx, dy))) ∧ Below w.heap.size w w' := by
  obtain ⟨i0, hi0, hz0, hz1, hz2⟩ := info_pt
  have Hn := Lib.hid hln
  clear hln
  have hA : Below w.heap.size w (w.alloc (.cells #[.int .i64 dx, .int .i64 dy] 32)) := (Below.refl _ _).alloc (Nat.le_refl _) _
  have hpA := hp.below hA
  have q0 : (w.alloc (.cells #[.int .i64 dx, .int .i64 dy] 32)).cell? ⟨w.heap.size, 0, none⟩ = some (.int .i64 dx) := by simp
  have q1 : (w.alloc (.cells #[.int .i64 dx, .int .i64 dy] 32)).cell? ⟨w.heap.size, 1, none⟩ = some (.int .i64 dy) := by simp
  have Hq := Lib.hid (And.intro q0 (And.intro q1 hA))
  clear q0 q1 hA
  obtain ⟨c, hc⟩ : ∃ c, c = rvalidate l := ⟨_, rfl⟩
  have Hc := Lib.hid hc
  have hc0 : c = 0 ∨ (c != 0) = true := by by_cases h : c = 0 <;> simp [h]
  clear hc
  go_enter Try.func46, Try.ntmps46
  go_wp2_with fail
  refine (rvalidate_any l ao n cap _ hpA Hn.out hn).mono ?_
  rintro e w1 ⟨rfl, hb1⟩
  rw [← Hc.out]
  have s1 : w.heap.size < w1.heap.size := by have := hb1.size; simp only [World.size_alloc] at this; omega
  have d0 := (hb1.cell (p := ⟨w.heap.size, 0, none⟩) (by simp)).trans Hq.out.1
  have d1 := (hb1.cell (p := ⟨w.heap.size, 1, none⟩) (by simp)).trans Hq.out.2.1
  have hp1 := hpA.below hb1
  have hB1 : Below w.heap.size w w1 := Hq.out.2.2.trans (hb1.mono (by simp))
  have HD := Lib.hid (And.intro d0 d1)
  clear hb1
  rcases hc0 with rfl | hc0
  · have hlen := rvalidate_len Hc.out.symm
    have hS := rvalidate_sm Hc.out.symm
    have hv0 : validate l = 0 := by rw [validate_eq]; exact Hc.out.symm
    have Hv0 := Lib.hid hv0
    have Hlen := Lib.hid hlen
    clear hlen hv0
    go_wp2_with fail
    refine (rwithin_any _ _ _ _).mono ?_
    rintro e w' ⟨rfl, rfl⟩
    have H60 := Lib.hid (within60 dx dy)
    obtain ⟨b1, hb1⟩ : ∃ v, (decide (-60 ≤ dx) && decide (dx ≤ 60)) = v := ⟨_, rfl⟩
    rw [hb1]
    have Hb1 := Lib.hid hb1
    clear hb1
    cases b1 with
    | false =>
      go_wp2_with fail
      go_ret2
      have e := shiftCode_far (d := (dx, dy)) Hv0.out (by show Geo.within dx dy 60 = false; rw [H60.out, Hb1.out]; rfl)
      refine ⟨.slice none 0 0, by rw [e]; rfl, .inr ⟨(by rw [e]; decide), rfl⟩, hB1⟩
    | true =>
      go_wp2_with fail
      refine (rwithin_any _ _ _ _).mono ?_
      rintro e w' ⟨rfl, rfl⟩
      obtain ⟨b2, hb2⟩ : ∃ v, (decide (-60 ≤ dy) && decide (dy ≤ 60)) = v := ⟨_, rfl⟩
      rw [hb2]
      have Hb2 := Lib.hid hb2
      clear hb2
      cases b2 with
      | false =>
        go_wp2_with fail
        go_ret2
        have e := shiftCode_far (d := (dx, dy)) Hv0.out (by show Geo.within dx dy 60 = false; rw [H60.out, Hb1.out, Hb2.out]; rfl)
        refine ⟨.slice none 0 0, by rw [e]; rfl, .inr ⟨(by rw [e]; decide), rfl⟩, hB1⟩
      | true =>
        have hw : Geo.within dx dy 60 = true := by rw [H60.out, Hb1.out, Hb2.out]; rfl
        have hd := within_sm hw
        have Hw := Lib.hid hw
        clear hw
        clear d0 d1 hpA
        have s0 := s1
        go_wp2_with fail
        go_loopw [7, 8] (fun v s wr => ∃ k : Nat, k ≤ n ∧ s = .int .i64 k ∧ Hid (wr.ownsRow (w.heap.size + 1) 32 2 v k (flat ((l.take k).map (Geo.shiftP (dx, dy))))) ∧ Below (w.heap.size + 1) w1 wr) (fun _ s _ => n - (intOf s).toNat)
        case atStart => exact ⟨0, Nat.zero_le _, rfl, Lib.hid ⟨rfl, .inl ⟨rfl, rfl⟩⟩, Below.refl _ _⟩
        case round =>
          obtain ⟨k, hk, rfl, hown, hb⟩ := hrel
          by_cases hlt : k < n
          · obtain ⟨b, off, rfl, hbs, hc⟩ := hp.cells (by have := Hn.out; omega)
            obtain ⟨a1, a2⟩ := Pts.at Hn.out hc (k := k) hlt
            clear hc hp
            have hq : ∀ o, wr.cell? ⟨b, o, none⟩ = w.cell? ⟨b, o, none⟩ := fun o => (hb.cell (p := ⟨b, o, none⟩) (by show b < _; omega)).trans (hB1.cell (p := ⟨b, o, none⟩) hbs)
            rw [← hq] at a1 a2
            have d0 : wr.cell? ⟨w.heap.size, 0, none⟩ = some (.int .i64 dx) := (hb.cell (p := ⟨w.heap.size, 0, none⟩) (by simp)).trans HD.out.1
            have d1 : wr.cell? ⟨w.heap.size, 1, none⟩ = some (.int .i64 dy) := (hb.cell (p := ⟨w.heap.size, 1, none⟩) (by simp)).trans HD.out.2
            clear hq hp1
            have i1 : (k : Int) < (n : Int) := by omega
            have e1 : IntKind.i64.wrap (Geo.px l k + dx) = Geo.px l k + dx := IntWalk.i64_in _ (by have := hS.x k; have := hd.1; unfold Geo.Sm at *; omega)
            have e2 : IntKind.i64.wrap (Geo.py l k + dy) = Geo.py l k + dy := IntWalk.i64_in _ (by have := hS.y k; have := hd.2; unfold Geo.Sm at *; omega)
            have hs := hb.size
            have hbr : b < wr.heap.size := by omega
            have hwr : w.heap.size < wr.heap.size := by omega
            go_wp2_with fail
            go_region_held3 (fun w' => w'.cell? ⟨b, off + k * 2, none⟩ = some (.int .i64 (Geo.px l k)) ∧ w'.cell? ⟨b, off + k * 2 + 1, none⟩ = some (.int .i64 (Geo.py l k)) ∧ w'.cell? ⟨w.heap.size, 0, none⟩ = some (.int .i64 dx) ∧ w'.cell? ⟨w.heap.size, 1, none⟩ = some (.int .i64 dy))
              (first
                | go_keep
                | (go_split_ands
                   refine ⟨?_, ?_, ?_, ?_⟩
                   · (rw [hgrow.cell_far _ (by simp; omega) (fun h => absurd (hown.out.lt b h.symm).1 (by omega))]; assumption)
                   · (rw [hgrow.cell_far _ (by simp; omega) (fun h => absurd (hown.out.lt b h.symm).1 (by omega))]; assumption)
                   · (rw [hgrow.cell_far _ (by simp; omega) (fun h => absurd (hown.out.lt w.heap.size h.symm).1 (by omega))]; assumption)
                   · (rw [hgrow.cell_far _ (by simp; omega) (fun h => absurd (hown.out.lt w.heap.size h.symm).1 (by omega))]; assumption)))
              ((refine step_append_lies _ (by rfl) _ _ _ (by rfl) (w.heap.size + 1) 32 i0 _ 2 16 Try.underlying22 hi0 hz0 hz1 hz2 rfl (by omega) _ k _ (by rfl) ((hown.out.alloc _).drew)
                  ⟨wr.heap.size, 0, none⟩ 1 1 [.int .i64 (Geo.px l k + dx), .int .i64 (Geo.py l k + dy)] (by rfl) (by rfl) (World.news_of_block (cs := #[.int .i64 (Geo.px l k + dx), .int .i64 (Geo.py l k + dy)]) (t := 32) (fr := (0, 0)) (heap_alloc_new wr _)) (by simp [Value.oneCell'])
                  (by omega) (by unfold maxLen; omega) (by omega) (by simp; omega) (wr.heap.size + 1) (by simp) ?_; intro gg cap2 w5 hown1 hgrow hat hlt5))
            have hb5 : Below (w.heap.size + 1) w1 w5 := ((hb.alloc (by omega) _).drew).grown hgrow (by simp; omega) (fun q hq => (hown.out.lt _ hq).1)
            have hown5 : w5.ownsRow (w.heap.size + 1) 32 2 (.slice (some ⟨gg, 0, none⟩) (k + 1) cap2) (k + 1) (flat ((l.take (k + 1)).map (Geo.shiftP (dx, dy)))) := by
              rw [take_map_snoc _ _ (by have := Hn.out; omega), flat_snoc]
              exact hown1
            have Ho5 := Lib.hid hown5
            clear hown5 hown1 hgrow hat hlt5
            go_wp2_with fail
            go_roundw
            case rel => exact ⟨k + 1, by omega, by go_num, Lib.hid Ho5.out, hb5⟩
            case measure => simp [intOf]; omega
          · have hk2 : k = n := by omega
            have Hk := Lib.hid hk2
            clear hk2
            have hB2 : Below w.heap.size w wr := hB1.trans (hb.mono (by omega))
            have hs := hb.size
            have ho := own_done Hk.out Hn.out hown.out
            have Ho := Lib.hid (ho.base (b' := w.heap.size) (by omega))
            clear ho hown
            obtain ⟨ao2, n2, cap2, rfl, hn2, hcap2, hp2⟩ := own_pts Ho.out
            have Hn2 := Lib.hid hn2
            have hn2' : n2 ≤ 100000 := by rw [hn2, List.length_map]; have := Hlen.out; omega
            clear hn2
            go_wp2_with fail
            refine (ranged_any _ ao2 n2 cap2 _ hp2 Hn2.out hn2').mono ?_
            rintro e w8 ⟨rfl, rfl⟩
            obtain ⟨bw, hbw⟩ : ∃ v, ((l.map (Geo.shiftP (dx, dy))).all fun p => Geo.within p.1 p.2 30) = v := ⟨_, rfl⟩
            rw [hbw]
            have Hw2 := Lib.hid hbw
            clear hbw
            cases bw with
            | false =>
              go_wp2_with fail
              go_ret2
              have e := shiftCode_out (d := (dx, dy)) Hv0.out Hw.out Hw2.out
              refine ⟨.slice none 0 0, by rw [e]; rfl, .inr ⟨(by rw [e]; decide), rfl⟩, hB2⟩
            | true =>
              go_wp2_with fail
              go_ret2
              have e := shiftCode_yes (d := (dx, dy)) Hv0.out Hw.out Hw2.out
              refine ⟨.slice ao2 n2 cap2, by rw [e]; rfl, .inl ⟨e, Ho.out⟩, hB2⟩
  · go_wp2
    go_ret2
    have hne : validate l ≠ 0 := fun h => by rw [validate_eq, ← Hc.out] at h; rw [h] at hc0; exact Bool.noConfusion hc0
    have e := shiftCode_no (d := (dx, dy)) hne
    refine ⟨.slice none 0 0, by rw [e, validate_eq, ← Hc.out]; rfl, .inr ⟨(by rw [e]; exact hne), rfl⟩, hB1⟩
end Go.Proofs.Ytnllhhamebmlnaa
