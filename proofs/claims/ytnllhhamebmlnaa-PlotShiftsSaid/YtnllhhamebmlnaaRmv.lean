import Derived.Test.YtnllhhamebmlnaaMov
import Derived.Test.YtnllhhamebmlnaaRtl
import Derived.Deep.AppendLies
import Derived.Deep.RegionHeld3
namespace Go.Proofs.Ytnllhhamebmlnaa
open Go.RowKit

theorem flat_snoc (l : List (Int × Int)) (p : Int × Int) : flat (l ++ [p]) = flat l ++ [.int .i64 p.1, .int .i64 p.2] := by
  induction l with
  | nil => rfl
  | cons q l ih => simp [flat, ih]
theorem take_map_snoc (T : Int × Int → Int × Int) (l : List (Int × Int)) {k : Nat} (hk : k < l.length) : (l.take (k + 1)).map T = (l.take k).map T ++ [T (l.getD k (0, 0))] := by
  rw [List.take_add_one, List.map_append]
  simp [List.getD_eq_getElem?_getD, hk]

set_option maxRecDepth 100000 in
set_option maxHeartbeats 3200000 in
theorem rquarter_any (l : List (Int × Int)) (ao : Option Addr) (n cap : Nat) (w : World) (hp : Pts w ao l) (hln : n = l.length) (hn : n ≤ 100000) :
    Calls Try.prog 48 #[.slice ao n cap] w fun e w' => ∃ v, e = .returned (.tuple #[v, .int .i64 (rvalidate l)]) ∧ Made w w' v (rvalidate l) (l.map Geo.quarterP) ∧ Below w.heap.size w w' := by
  obtain ⟨i0, hi0, hz0, hz1, hz2⟩ := info_pt
  have Hn := Lib.hid hln
  clear hln
  obtain ⟨c, hc⟩ : ∃ c, c = rvalidate l := ⟨_, rfl⟩
  have Hc := Lib.hid hc
  have hc0 : c = 0 ∨ (c != 0) = true := by by_cases h : c = 0 <;> simp [h]
  clear hc
  go_enter Try.func48, Try.ntmps48
  go_wp2_with fail
  refine (rvalidate_any l ao n cap _ hp Hn.out hn).mono ?_
  rintro e w1 ⟨rfl, hb1⟩
  rw [← Hc.out]
  rcases hc0 with rfl | hc0
  · have hlen := rvalidate_len Hc.out.symm
    have hS := rvalidate_sm Hc.out.symm
    have Hlen := Lib.hid hlen
    clear hlen
    go_wp2_with fail
    go_loopw [5, 6] (fun v s wr => ∃ k : Nat, k ≤ n ∧ s = .int .i64 k ∧ Hid (wr.ownsRow w.heap.size 32 2 v k (flat ((l.take k).map Geo.quarterP))) ∧ Below w.heap.size w wr) (fun _ s _ => n - (intOf s).toNat)
    case atStart => exact ⟨0, Nat.zero_le _, rfl, Lib.hid ⟨rfl, .inl ⟨rfl, rfl⟩⟩, hb1⟩
    case round =>
      obtain ⟨k, hk, rfl, hown, hb⟩ := hrel
      by_cases hlt : k < n
      · obtain ⟨b, off, rfl, hbs, hc⟩ := hp.cells (by have := Hn.out; omega)
        obtain ⟨a1, a2⟩ := Pts.at Hn.out hc (k := k) hlt
        clear hc hp
        rw [← hb.cell (p := ⟨b, _, none⟩) hbs] at a1 a2
        have i1 : (k : Int) < (n : Int) := by omega
        have e1 : IntKind.i64.wrap (-Geo.py l k) = -Geo.py l k := IntWalk.i64_in _ (by have := hS.y k; unfold Geo.Sm at this; omega)
        have hs := hb.size
        have hbr : b < wr.heap.size := Nat.lt_of_lt_of_le hbs hs
        go_wp2_with fail
        go_region_held3 (fun w' => w'.cell? ⟨b, off + k * 2, none⟩ = some (.int .i64 (Geo.px l k)) ∧ w'.cell? ⟨b, off + k * 2 + 1, none⟩ = some (.int .i64 (Geo.py l k)))
          (first
            | go_keep
            | (go_split_ands
               refine ⟨?_, ?_⟩
               · (rw [hgrow.cell_far _ (by simp; omega) (fun h => absurd (hown.out.lt b h.symm).1 (by omega))]; assumption)
               · (rw [hgrow.cell_far _ (by simp; omega) (fun h => absurd (hown.out.lt b h.symm).1 (by omega))]; assumption)))
          ((refine step_append_lies _ (by rfl) _ _ _ (by rfl) w.heap.size 32 i0 _ 2 16 Try.underlying22 hi0 hz0 hz1 hz2 rfl (by omega) _ k _ (by rfl) ((hown.out.alloc _).drew)
              ⟨wr.heap.size, 0, none⟩ 1 1 [.int .i64 (-Geo.py l k), .int .i64 (Geo.px l k)] (by rfl) (by rfl) (World.news_of_block (cs := #[.int .i64 (-Geo.py l k), .int .i64 (Geo.px l k)]) (t := 32) (fr := (0, 0)) (heap_alloc_new wr _)) (by simp [Value.oneCell'])
              (by omega) (by unfold maxLen; omega) (by omega) (by simp; omega) (wr.heap.size + 1) (by simp) ?_; intro gg cap2 w5 hown1 hgrow hat hlt5))
        have hb5 : Below w.heap.size w w5 := ((hb.alloc hs _).drew).grown hgrow (by simp; omega) (fun q hq => (hown.out.lt _ hq).1)
        have hown5 : w5.ownsRow w.heap.size 32 2 (.slice (some ⟨gg, 0, none⟩) (k + 1) cap2) (k + 1) (flat ((l.take (k + 1)).map Geo.quarterP)) := by
          rw [take_map_snoc _ _ (by have := Hn.out; omega), flat_snoc]
          exact hown1
        have Ho5 := Lib.hid hown5
        clear hown5 hown1 hgrow hat hlt5
        go_wp2_with fail
        go_roundw
        case rel => exact ⟨k + 1, by omega, by go_num, Lib.hid Ho5.out, hb5⟩
        case measure => simp [intOf]; omega
      · have hk2 : k = n := by omega
        have Hk := Lib.hid hk2
        clear hk2
        go_wp2
        go_ret2
        refine ⟨_, by rw [← Hc.out]; rfl, .inl ⟨Hc.out.symm, ?_⟩, hb⟩
        have h := hown.out
        rw [Hk.out, Hn.out, List.take_length] at h
        unfold OwnPts
        rw [List.length_map]
        exact h
  · go_wp2
    go_ret2
    refine ⟨.slice none 0 0, by rw [← Hc.out]; rfl, .inr ⟨(fun h => by rw [← Hc.out] at h; rw [h] at hc0; exact Bool.noConfusion hc0), rfl⟩, hb1⟩
end Go.Proofs.Ytnllhhamebmlnaa
