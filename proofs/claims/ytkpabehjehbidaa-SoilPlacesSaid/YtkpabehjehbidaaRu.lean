import Derived.Test.YtkpabehjehbidaaRq
import Derived.Test.YtkpabehjehbidaaUn
import Derived.Test.YtkpabehjehbidaaWth
namespace Go.Proofs.Ytkpabehjehbidaa
open Go.RowKit

/-- A slice of whole numbers. -/
structure Ints (w : World) (ao : Option Addr) (l : List Int) : Prop where
  cells : 0 < l.length → ∃ b off, ao = some ⟨b, off, none⟩ ∧ b < w.heap.size ∧ ∀ i, i < l.length → w.cell? ⟨b, off + i, none⟩ = some (.int .i64 (l.getD i 0))
theorem Ints.below {w w' : World} {ao : Option Addr} {l : List Int} (h : Ints w ao l) (hb : Below w.heap.size w w') : Ints w' ao l := by
  refine ⟨fun h0 => ?_⟩
  obtain ⟨b, off, rfl, hlt, hc⟩ := h.cells h0
  exact ⟨b, off, rfl, by have := hb.size; omega, fun i hi => keep_cell hb (hc i hi)⟩
theorem Ints.at {w : World} {ao : Option Addr} {l : List Int} (h : Ints w ao l) {k : Nat} (hk : k < l.length) :
    ∃ b off, ao = some ⟨b, off, none⟩ ∧ b < w.heap.size ∧ w.cell? ⟨b, off + k, none⟩ = some (.int .i64 (l.getD k 0)) := by
  obtain ⟨b, off, rfl, hlt, hc⟩ := h.cells (by omega)
  exact ⟨b, off, rfl, hlt, hc k hk⟩
theorem own_ints {w : World} {base n : Nat} {e : TypeId} {v : Value} {L : List Int} (h : w.ownsRow base e 1 v n (L.map (Value.int .i64))) (hn : n = L.length) :
    ∃ ao cap, v = .slice ao n cap ∧ n ≤ cap ∧ Ints w ao L := by
  by_cases h0 : 0 < n
  · obtain ⟨g, cap, rfl, hb, hlt, hnc, hc⟩ := own_cells h h0
    refine ⟨_, cap, rfl, hnc, ⟨fun _ => ⟨g, 0, rfl, hlt, fun i hi => ?_⟩⟩⟩
    rw [Nat.zero_add, List.getD_eq_getElem?_getD, List.getElem?_eq_getElem hi]
    exact hc _ _ (by rw [List.getElem?_map, List.getElem?_eq_getElem hi]; rfl)
  · have hn0 : n = 0 := by omega
    rcases h.2 with ⟨rfl, _⟩ | ⟨g, cap, cur, rfl, _, _, hnc, _⟩
    · exact ⟨none, 0, by rw [hn0], by omega, ⟨fun hl => by omega⟩⟩
    · exact ⟨_, cap, rfl, hnc, ⟨fun hl => by omega⟩⟩

theorem infoInAll : (Try.prog.info? 3).map (fun i => (i.zero, i.size, i.bytes)) = some (some (.int .i64 0), 1, 8) := by kernel_rfl
theorem info_in : ∃ i, Try.prog.info? 3 = some i ∧ i.zero = some (.int .i64 0) ∧ i.size = 1 ∧ i.bytes = 8 := by
  have h := infoInAll
  cases hi : Try.prog.info? 3 with
  | none => rw [hi] at h; cases h
  | some i =>
    rw [hi] at h
    simp only [Option.map_some, Option.some.injEq, Prod.mk.injEq] at h
    exact ⟨i, rfl, h.1, h.2.1, h.2.2⟩

theorem units_take {l : List (Int × Int)} {k : Nat} (hk : k < l.length) : Fl.units (l.take (k + 1)) = Fl.units (l.take k) ++ List.replicate (l.getD k (0, 0)).1.toNat (l.getD k (0, 0)).2 := by
  induction l generalizing k with
  | nil => simp at hk
  | cons z r ih =>
    cases k with
    | zero => simp [Fl.units]
    | succ k =>
      have := ih (k := k) (by simpa using hk)
      simp only [List.take_succ_cons, Fl.units]
      rw [this]
      simp [List.append_assoc]
theorem rep_snoc (j : Nat) (y : Int) (U : List Int) : ((U ++ List.replicate (j + 1) y).map (Value.int .i64)) = ((U ++ List.replicate j y).map (Value.int .i64)) ++ [.int .i64 y] := by
  rw [List.replicate_succ']; simp
theorem rep_len (j : Nat) (y : Int) (U : List Int) : (U ++ List.replicate j y).length = U.length + j := by simp
theorem units_take_len {l : List (Int × Int)} (hok : Fl.Ok l) (h6 : l.length ≤ 6) (k : Nat) : (Fl.units (l.take k)).length ≤ 120 := by
  have h := Fl.units_length (ok_take hok k)
  have := len_take_bound hok h6 k
  omega

set_option maxRecDepth 100000 in
set_option maxHeartbeats 2000000 in
theorem units_any (l : List (Int × Int)) (ao : Option Addr) (n cap : Nat) (w : World) (hp : Pts w ao l) (hln : n = l.length) (hok : Fl.Ok l) (h6 : l.length ≤ 6) :
    Calls Try.prog 55 #[.slice ao n cap] w fun e w' => ∃ ao2 cap2, e = .returned (.slice ao2 (Fl.units l).length cap2) ∧ Ints w' ao2 (Fl.units l) ∧ Below w.heap.size w w' := by
  have Hn := Lib.hid hln
  have hn6 : n ≤ 6 := by omega
  obtain ⟨i0, hi0, hz0, hz1, hz2⟩ := info_in
  clear hln
  go_enter Try.func55, Try.ntmps55
  go_wp2
  go_loopw [3, 4] (fun v i wr => ∃ k : Nat, k ≤ n ∧ i = .int .i64 k ∧ Hid (wr.ownsRow w.heap.size 3 1 v (Fl.units (l.take k)).length ((Fl.units (l.take k)).map (Value.int .i64))) ∧ Below w.heap.size w wr) (fun _ i _ => n - (intOf i).toNat)
  case atStart => exact ⟨0, Nat.zero_le _, rfl, Lib.hid ⟨rfl, .inl ⟨rfl, rfl⟩⟩, Below.refl _ _⟩
  case round =>
    obtain ⟨k, hk, rfl, hown, hb⟩ := hrel
    by_cases hlt : k < n
    · obtain ⟨b, off, rfl, hbs, hc⟩ := hp.cells (by have := Hn.out; omega)
      have hkl : k < l.length := by have := Hn.out; omega
      obtain ⟨hc1, hc2⟩ := hc k hkl
      have hut := Lib.hid (units_take hkl)
      have hul := units_take_len hok h6 k
      have b2 := ok_at hok hkl
      clear hc hp
      have i1 : (k : Int) < (n : Int) := by omega
      obtain ⟨U, hU⟩ : ∃ x, x = Fl.units (l.take k) := ⟨_, rfl⟩
      obtain ⟨x, hx⟩ : ∃ x : Nat, x = (l.getD k (0, 0)).1.toNat := ⟨_, rfl⟩
      obtain ⟨y, hy⟩ : ∃ y, y = (l.getD k (0, 0)).2 := ⟨_, rfl⟩
      have hx1 : (l.getD k (0, 0)).1 = (x : Int) := by omega
      rw [hx1] at hc1 b2
      rw [← hx, ← hy] at hut
      rw [← hy] at hc2 b2
      rw [← hU] at hown hut hul
      clear hx hy hU hx1
      have hx20 : x ≤ 20 := by omega
      obtain ⟨wo, rfl⟩ : ∃ wo : World, wo = wr := ⟨_, rfl⟩
      go_wp2
      go_loopw [3, 5] (fun v j wr => ∃ m : Nat, m ≤ x ∧ j = .int .i64 m ∧ Hid (wr.ownsRow w.heap.size 3 1 v (U.length + m) ((U ++ List.replicate m y).map (Value.int .i64))) ∧ Below w.heap.size w wr) (fun _ j _ => x - (intOf j).toNat)
      case atStart => exact ⟨0, Nat.zero_le _, rfl, Lib.hid (by simpa using hown.out), hb⟩
      case round =>
        obtain ⟨m, hm, rfl, hown2, hb2⟩ := hrel
        have hd1 : wr.cell? ⟨b, off + k * 2, none⟩ = some (.int .i64 x) := (hb2.cell (p := ⟨b, _, none⟩) hbs).trans hc1
        have hd2 : wr.cell? ⟨b, off + k * 2 + 1, none⟩ = some (.int .i64 y) := (hb2.cell (p := ⟨b, _, none⟩) hbs).trans hc2
        have hs := hb2.size
        clear hown
        by_cases hmx : m < x
        · have i2 : (m : Int) < (x : Int) := by omega
          clear hc1 hc2
          go_wp2_with (first | (at_builtin; refine wpList_append_own _ rfl _ _ 43 rfl w.heap.size 3 i0 (.int .i64 0) 1 8 Try.underlying43 hi0 hz0 hz1 hz2 rfl (by decide) _ (U.length + m) _ rfl (hown2.out.alloc _) ⟨wr.heap.size, 0, none⟩ 1 1 [.int .i64 y] rfl rfl (World.news_of_block (cs := #[.int .i64 y]) (t := 3) (fr := (0, 0)) (heap_alloc_new wr _)) (by simp [Value.oneCell']) (by unfold maxLen; omega) (by omega) (by simp; omega) ?_; intro v' w3 hown3 hgrow3 hnil3; have hb5 : Below w.heap.size w w3 := (hb2.alloc hs _).grown hgrow3 (by simp; omega) (fun q hq => (hown2.out.lt _ hq).1); clear hgrow3 hnil3))
          go_roundw
          case rel => exact ⟨m + 1, by omega, by go_num, Lib.hid (by rw [rep_snoc]; exact hown3), hb5⟩
          case measure => simp [intOf]; omega
        · have hm2 : m = x := by omega
          have Hm := Lib.hid hm2
          clear hm2 hc1 hc2
          go_wp2
          go_roundw
          case rel =>
            refine ⟨k + 1, by omega, by go_num, Lib.hid ?_, hb2⟩
            rw [hut.out, rep_len, ← Hm.out]
            exact hown2.out
          case measure => simp [intOf]; omega
    · have hk2 : k = n := by omega
      have Hk := Lib.hid hk2
      clear hk2
      have ho := hown.out
      rw [Hk.out, Hn.out, List.take_length] at ho
      obtain ⟨ao2, cap2, rfl, hcap, hI⟩ := own_ints ho rfl
      have HI := Lib.hid hI
      clear ho hI hown
      go_wp2
      go_ret
      exact ⟨ao2, cap2, rfl, HI.out, hb⟩
end Go.Proofs.Ytkpabehjehbidaa
