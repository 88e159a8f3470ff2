import Derived.Test.YtkpabehjehbidaaWth
namespace Go.Proofs.Ytkpabehjehbidaa
open Go.RowKit

theorem piece_whole {s l v : Int} {L : Rat} (h0 : 0 ≤ s) (h1 : 1 ≤ l) (hL : ((s + l : Int) : Rat) ≤ L) : Fl.piece (s, s + l, v) 0 L = ((l * v : Int) : Rat) := by
  have r6 : (0 : Rat) ≤ (s : Rat) := by exact_mod_cast h0
  have r1 : (1 : Rat) ≤ (l : Rat) := by exact_mod_cast h1
  have e1 : ((s + l : Int) : Rat) = (s : Rat) + (l : Rat) := Rat.intCast_add s l
  have e2 : ((l * v : Int) : Rat) = (l : Rat) * (v : Rat) := Rat.intCast_mul l v
  have eh : Fl.sooner L ((s + l : Int) : Rat) = (s : Rat) + (l : Rat) := by rw [Fl.sooner_eq]; grind
  have el : Fl.later 0 (s : Rat) = (s : Rat) := by rw [Fl.later_eq]; grind
  unfold Fl.piece
  simp only [eh, el]
  rw [if_neg (by grind), e2]
  grind
theorem sum_whole {f : List (Int × Int)} : ∀ {s : Int} {A L : Rat}, Fl.Ok f → 0 ≤ s → ((s + Fl.len f : Int) : Rat) ≤ L →
    ((Fl.strips s f).map fun x => Fl.piece x 0 L).foldl (· + ·) A = A + (Fl.tot f : Rat) := by
  induction f with
  | nil => intro s A L _ _ _; simp [Fl.strips, Fl.tot, Rat.add_zero]
  | cons z r ih =>
    intro s A L hok hs hL
    have hz := hok.head
    have hl := (Fl.len_bound hok.tail).1
    have hL2 : ((s + z.1 : Int) : Rat) ≤ L := Rat.le_trans (Rat.intCast_le_intCast.2 (by simp only [Fl.len]; omega)) hL
    simp only [Fl.strips, List.map_cons, List.foldl_cons]
    rw [piece_whole hs hz.1 hL2, ih hok.tail (by omega) (by rw [show s + z.1 + Fl.len r = s + Fl.len (z :: r) by simp only [Fl.len]; omega]; exact hL)]
    have : ((Fl.tot (z :: r) : Int) : Rat) = ((z.1 * z.2 : Int) : Rat) + ((Fl.tot r : Int) : Rat) := by
      rw [← Rat.intCast_add]; rfl
    rw [this]
    grind
theorem worth_whole {f : List (Int × Int)} (hok : Fl.Ok f) : Fl.worth f 0 (Fl.len f : Rat) = (Fl.tot f : Rat) := by
  have := sum_whole (A := 0) (s := 0) (L := (Fl.len f : Rat)) hok (Int.le_refl _) (by rw [Int.zero_add]; exact Rat.le_refl)
  rw [Rat.zero_add] at this
  exact this

set_option maxRecDepth 100000 in
set_option maxHeartbeats 1000000 in
theorem worthAll_any (l : List (Int × Int)) (ao : Option Addr) (n cap : Nat) (w : World) (hp : Pts w ao l) (hln : n = l.length) (hok : Fl.Ok l) (h1 : 1 ≤ l.length) (h6 : l.length ≤ 6) :
    Calls Try.prog 56 #[.slice ao n cap] w fun e w' => e = .returned (Fr (Fl.tot l : Rat)) ∧ Below w.heap.size w w' := by
  have Hn := Lib.hid hln
  clear hln
  have hb := Fl.len_bound hok
  have hpo : PlaceOk 0 (Fl.len l : Rat) := ⟨by decide, by exact_mod_cast (show (0 : Int) ≤ Fl.len l by omega), by decide, by show Fl.len l ≤ _; omega, by show 1 * 1 ≤ _; decide⟩
  have hw := Lib.hid (worth_whole hok)
  have hA : Below w.heap.size w (w.alloc (.cells #[.int .i64 0, .int .i64 0] 70)) := (Below.refl _ w).alloc (Nat.le_refl _) _
  have r0 := heap_alloc_new w (.cells #[.int .i64 0, .int .i64 0] 70)
  have hp1 := hp.below hA
  have HA := Lib.hid (And.intro hA r0)
  clear hA r0 hp
  go_enter Try.func56, Try.ntmps56
  go_wp2_with fail
  refine (whole_any 0 _).mono ?_
  rintro e w1 ⟨rfl, hb1⟩
  have hp2 := hp1.below hb1
  have r1 := heap_keep hb1 HA.out.2
  have hB1 := HA.out.1.trans (hb1.mono HA.out.1.size)
  clear hb1 hp1
  go_wp2_with fail
  refine (length_any l _ _ _ _ hp2 Hn.out hok h6).mono ?_
  rintro e w2 ⟨rfl, hb2⟩
  have hp3 := hp2.below hb2
  have r2 := heap_keep hb2 r1
  have hB2 := hB1.trans (hb2.mono hB1.size)
  clear hb2 hp2 r1
  go_wp2_with fail
  refine (whole_any _ _).mono ?_
  rintro e w3 ⟨rfl, hb3⟩
  have hp4 := hp3.below hb3
  have r3 := heap_keep hb3 r2
  have hB3 := hB2.trans (hb3.mono hB2.size)
  clear hb3 hp3 r2
  go_wp2_with fail
  refine (worth_any l 0 (Fl.len l : Rat) _ _ _ _ hp4 Hn.out hok h1 h6 hpo).mono ?_
  rintro e w4 ⟨rfl, hb4⟩
  have r4 := heap_keep hb4 r3
  have hB4 := hB3.trans (hb4.mono hB3.size)
  clear hb4 hp4 r3
  obtain ⟨⟨d0, d1⟩, f0, f1⟩ := row_fr r4
  rw [hw.out]
  go_wp2
  exact bodyPost_ret (results_cell_row rfl _ _ _ _ _ _ _ rfl (two_cells r4 (.int .i64 (Fl.tot l : Rat).num) (.int .i64 (Fl.tot l : Rat).den)) Try.underlying70 rfl infoFr2) rfl ⟨rfl, below_setCell (below_setCell hB4 (by omega) _) (by omega) _⟩

theorem bad_zone {l : List (Int × Int)} {k : Nat} (hk : k < l.length) (hb : Fl.okZ (l.getD k (0, 0)) = false) (h : 1 ≤ l.length ∧ l.length ≤ 6) : Fl.validate l = 1 := by
  unfold Fl.validate
  rw [if_neg (by omega), if_neg]
  intro ha
  rw [List.all_eq_true] at ha
  have := ha _ (List.getElem_mem hk)
  rw [List.getD_eq_getElem?_getD, List.getElem?_eq_getElem hk] at hb
  simp [this] at hb
theorem good_zones {l : List (Int × Int)} (hb : ∀ k, k < l.length → Fl.okZ (l.getD k (0, 0)) = true) (h : 1 ≤ l.length ∧ l.length ≤ 6) : Fl.validate l = 0 := by
  unfold Fl.validate
  rw [if_neg (by omega), if_pos]
  rw [List.all_eq_true]
  intro x hx
  obtain ⟨j, hj, rfl⟩ := List.mem_iff_getElem.1 hx
  have := hb j hj
  rwa [List.getD_eq_getElem?_getD, List.getElem?_eq_getElem hj] at this

set_option maxRecDepth 100000 in
set_option maxHeartbeats 4000000 in
theorem validate_any (l : List (Int × Int)) (ao : Option Addr) (n cap : Nat) (w : World) (hp : Pts w ao l) (hln : n = l.length) (hn : n ≤ 100000) :
    Calls Try.prog 23 #[.slice ao n cap] w fun e w' => e = .returned (.int .i64 (Fl.validate l)) ∧ Below w.heap.size w w' := by
  have Hn := Lib.hid hln
  clear hln
  by_cases hlen : n < 1 ∨ 6 < n
  · have hv : Hid (Fl.validate l = 3) := Lib.hid (by unfold Fl.validate; rw [if_pos (by rw [← Hn.out]; exact hlen)])
    go_enter Try.func23, Try.ntmps23
    rcases hlen with hlen | hlen
    · go_wp2
      go_ret
      exact ⟨ret_int hv.out.symm, Below.refl _ _⟩
    · go_wp2
      go_ret
      exact ⟨ret_int hv.out.symm, Below.refl _ _⟩
  · have h16 : 1 ≤ n ∧ n ≤ 6 := by omega
    obtain ⟨hh1, hh2⟩ := h16
    clear hlen
    go_enter Try.func23, Try.ntmps23
    go_wp2
    go_loopw [15] (fun i wr => ∃ k : Nat, k ≤ n ∧ i = .int .i64 k ∧ Below w.heap.size w wr ∧ Hid (∀ j, j < k → Fl.okZ (l.getD j (0, 0)) = true)) (fun i _ => n - (intOf i).toNat)
    case atStart => exact ⟨0, Nat.zero_le _, rfl, Below.refl _ _, Lib.hid fun j hj => by omega⟩
    case round =>
      obtain ⟨k, hk, rfl, hb, hall⟩ := hrel
      by_cases hlt : k < n
      · obtain ⟨b, off, rfl, hbs, hc⟩ := hp.cells (by have := Hn.out; omega)
        have hkl : k < l.length := by have := Hn.out; omega
        obtain ⟨hc1, hc2⟩ := hc k hkl
        clear hc hp
        rw [← hb.cell (p := ⟨b, _, none⟩) hbs] at hc1 hc2
        have i1 : (k : Int) < (n : Int) := by omega
        obtain ⟨z, hz⟩ : ∃ x, x = l.getD k (0, 0) := ⟨_, rfl⟩
        rw [← hz] at hc1 hc2
        obtain ⟨x, y⟩ := z
        simp only at hc1 hc2
        have Hz := Lib.hid hz
        clear hz
        cases hokz : Fl.okZ (x, y) with
        | true =>
          have hq := Fl.okZ_iff.1 hokz
          obtain ⟨q1, q2, q3, q4⟩ := hq
          simp only at q1 q2 q3 q4
          go_wp2
          go_roundw
          case rel =>
            refine ⟨k + 1, by omega, by go_num, hb.alloc hb.size _, Lib.hid fun j hj => ?_⟩
            by_cases e : j = k
            · subst e; rw [← Hz.out]; exact hokz
            · exact hall.out j (by omega)
          case measure => simp [intOf]; omega
        | false =>
          have hv : Hid (Fl.validate l = 1) := Lib.hid (bad_zone hkl (by rw [← Hz.out]; exact hokz) (by have := Hn.out; omega))
          have hq : x < 1 ∨ (1 ≤ x ∧ 20 < x) ∨ (1 ≤ x ∧ x ≤ 20 ∧ y < 0) ∨ (1 ≤ x ∧ x ≤ 20 ∧ 0 ≤ y ∧ 20 < y) := by
            have : ¬ (1 ≤ x ∧ x ≤ 20 ∧ 0 ≤ y ∧ y ≤ 20) := fun h => by rw [Fl.okZ_iff.2 h] at hokz; cases hokz
            omega
          rcases hq with q | ⟨q1, q2⟩ | ⟨q1, q2, q3⟩ | ⟨q1, q2, q3, q4⟩ <;>
          · go_wp2
            go_ret
            exact ⟨ret_int hv.out.symm, hb.alloc hb.size _⟩
      · have hk2 : k = n := by omega
        have Hk := Lib.hid hk2
        clear hk2
        have hv : Hid (Fl.validate l = 0) := Lib.hid (good_zones (fun j hj => hall.out j (by rw [Hk.out, Hn.out]; exact hj)) (by have := Hn.out; omega))
        go_wp2
        go_ret
        exact ⟨ret_int hv.out.symm, hb⟩
end Go.Proofs.Ytkpabehjehbidaa
