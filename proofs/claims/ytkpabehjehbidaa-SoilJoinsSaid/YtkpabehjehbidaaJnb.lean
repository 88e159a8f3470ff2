import Derived.Test.YtkpabehjehbidaaJna
namespace Go.Proofs.Ytkpabehjehbidaa
open Go.RowKit

set_option maxRecDepth 100000 in
set_option maxHeartbeats 2000000 in
/-- Room for so many zones, in memory of its own. -/
theorem grow_nil (n : Nat) (w : World) (h1 : 1 ≤ n) (h2 : n ≤ 100) :
    Calls Try.prog 98 #[.slice none 0 0, .int .i64 n] w fun e w' => ∃ v, e = .returned v ∧ w'.ownsRow w.heap.size 52 2 v 0 [] ∧ Below w.heap.size w w' := by
  obtain ⟨i0, hi, hz0, hz1, hz2⟩ := info_zn
  have hr := fun ty => Lib.run_append_nil_zeros (P := Try.prog) w 22 3 ty 52 i0 _ .i64 .i64 Try.underlying22 Try.underlying3 hi hz0 n (by omega) (by rw [hz1]; decide) (by omega) (by rw [hz2]; omega)
  have hge := grownCap_ge w n 0 52
  have hle := grownCap_le_maxLen w n 0 52 (by unfold maxLen; omega)
  obtain ⟨G, hG⟩ : ∃ G, G = grownCap w n 0 52 := ⟨_, rfl⟩
  rw [← hG] at hr hge hle
  obtain ⟨cur, hcur⟩ : ∃ c, c = Builtin.zeroCells (Value.agg #[.int .i64 0, .int .i64 0]).cells n ++ Builtin.zeroCells (Value.agg #[.int .i64 0, .int .i64 0]).cells (G - n) := ⟨_, rfl⟩
  have hsz : cur.size = G * 2 := by
    rw [hcur, Array.size_append, size_zeroCells, size_zeroCells]
    simp [Value.cells]; omega
  rw [← hcur] at hr
  have Hr := Lib.hid hr
  have hB : Below w.heap.size w (w.drew.alloc (.cells cur 52)) := (below_drewN (Below.refl _ w) 1).alloc (by simp [World.drewN]) _
  have hnew := heap_alloc_new w.drew (.cells cur 52)
  have HB := Lib.hid (And.intro hB hnew)
  have hn1 : (0 : Int) < (n : Int) := by omega
  have hn2 : ¬ (n : Int) < 0 := by omega
  have y1 : IntKind.i64.wrap (n : Int) = (n : Int) := IntWalk.i64_in _ (by omega)
  clear hr hB hnew hcur hG
  go_enter Try.func98, Try.ntmps98
  go_wp2_with (first | (at_builtin; refine Lib.wpList_append_run _ rfl _ _ _ _ rfl _ _ rfl rfl _ _ (Hr.out _) ?_))
  go_ret
  exact ⟨_, rfl, ⟨rfl, .inr ⟨w.heap.size, G, cur, rfl, Nat.le_refl _, HB.out.2, Nat.zero_le _, hle, hsz, rfl⟩⟩, HB.out.1⟩

set_option maxRecDepth 100000 in
set_option maxHeartbeats 4000000 in
theorem concat_any (l l2 : List (Int × Int)) (ao : Option Addr) (n cap : Nat) (ao2 : Option Addr) (m cap2 : Nat) (g : Nat) (w : World) (hp : Pts w ao l) (hln : n = l.length) (hn1 : 1 ≤ n) (hn : n ≤ 6) (hp2 : Pts w ao2 l2) (hlm : m = l2.length) (hm1 : 1 ≤ m) (hm : m ≤ 6)
    (c0 : w.cell? ⟨g, 0, none⟩ = some (.slice ao n cap)) (c1 : w.cell? ⟨g, 1, none⟩ = some (.slice ao2 m cap2)) :
    Calls Try.prog 86 #[.slice (some ⟨g, 0, none⟩) 2 2] w fun e w' => (∃ v, e = .returned v ∧ FieldMade w' v 0 (l ++ l2)) ∧ Below w.heap.size w w' := by
  have Hn := Lib.hid hln
  have Hm := Lib.hid hlm
  clear hln hlm
  obtain ⟨b, off, rfl, hbs, -⟩ := hp.cells (by have := Hn.out; omega)
  obtain ⟨b2, off2, rfl, hbs2, -⟩ := hp2.cells (by have := Hm.out; omega)
  obtain ⟨i0, hi0, hz0, hz1, hz2⟩ := info_zn
  obtain ⟨N, hN⟩ : ∃ N, N = n + m := ⟨_, rfl⟩
  have hN1 : 1 ≤ N ∧ N ≤ 12 := by omega
  have HN := Lib.hid hN
  have y0 : IntKind.i64.wrap (0 + (n : Int)) = (n : Int) := (IntWalk.i64_in _ (by omega)).trans (by omega)
  have y1 : IntKind.i64.wrap ((n : Int) + (m : Int)) = (N : Int) := (IntWalk.i64_in _ (by omega)).trans (by omega)
  have y2 : ¬ (n : Int) < 0 := by omega
  have y3 : ¬ (N : Int) < 0 := by omega
  have HP := Lib.hid (And.intro hp hp2)
  have hgl : g < w.heap.size := block_lt_of_cell c0
  clear hN hp hp2
  go_enter Try.func86, Try.ntmps86
  go_wp2
  go_loopw [3, 11] (fun s i wr => ∃ (k : Nat), k ≤ 2 ∧ i = .int .i64 k ∧ Hid ((k = 0 ∧ s = .int .i64 0) ∨ (k = 1 ∧ s = .int .i64 n) ∨ (k = 2 ∧ s = .int .i64 N)) ∧ wr = w) (fun _ i _ => 2 - (intOf i).toNat)
  case atStart => exact ⟨0, by omega, rfl, Lib.hid (.inl ⟨rfl, rfl⟩), rfl⟩
  case round =>
    obtain ⟨k, hk, rfl, hs, hw⟩ := hrel
    rw [hw]
    clear hw wr
    rcases hs.out with ⟨rfl, rfl⟩ | ⟨rfl, rfl⟩ | ⟨rfl, rfl⟩
    · clear hs
      go_wp2
      go_roundw
      case rel => exact ⟨1, by omega, by go_num, Lib.hid (.inr (.inl ⟨rfl, rfl⟩)), trivial⟩
      case measure => simp [intOf]
    · clear hs
      go_wp2
      go_roundw
      case rel => exact ⟨2, by omega, by go_num, Lib.hid (.inr (.inr ⟨rfl, rfl⟩)), trivial⟩
      case measure => simp [intOf]
    · clear hs
      go_wp2_with fail
      refine (grow_nil N _ hN1.1 (by omega)).mono ?_
      rintro e w3 ⟨v, rfl, hown3, hb3⟩
      have HO3 := Lib.hid hown3
      clear hown3 y0 y1
      go_wp2
      go_loopw [6, 27] (fun v i wr => ∃ (k : Nat), k ≤ 2 ∧ i = .int .i64 k ∧ Hid ((k = 0 ∧ wr.ownsRow w.heap.size 52 2 v 0 []) ∨ (k = 1 ∧ wr.ownsRow w.heap.size 52 2 v n (flat2 l)) ∨ (k = 2 ∧ wr.ownsRow w.heap.size 52 2 v N (flat2 (l ++ l2)))) ∧ Below w.heap.size w wr) (fun _ i _ => 2 - (intOf i).toNat)
      case atStart => exact ⟨0, by omega, rfl, Lib.hid (.inl ⟨rfl, HO3.out⟩), hb3⟩
      case round =>
        obtain ⟨k, hk, rfl, hs, hb⟩ := hrel
        have d0 := keep_cell hb c0
        have d1 := keep_cell hb c1
        have hsw := hb.size
        have hgw : g < wr.heap.size := by omega
        rcases hs.out with ⟨rfl, ho⟩ | ⟨rfl, ho⟩ | ⟨rfl, ho⟩
        · have hown := Lib.hid ho
          have Hs := pts_flat (HP.out.1.below hb)
          clear hs ho
          go_wp2_with (first | (at_builtin; refine wpList_append_own _ rfl _ _ 22 rfl w.heap.size 52 i0 (.agg #[.int .i64 0, .int .i64 0]) 2 16 Try.underlying22 hi0 hz0 hz1 hz2 rfl (by decide) _ 0 [] rfl hown.out ⟨b, off, none⟩ n cap (flat2 l) rfl (by rw [flat2_length, Hn.out]) Hs (flat2_one l) (by unfold maxLen; omega) (by omega) (by omega) ?_; intro v' w4 hown4 hgrow4 hnil4; have hb5 : Below w.heap.size w w4 := hb.grown hgrow4 (by omega) (fun q hq => (hown.out.lt _ hq).1); clear hgrow4 hnil4))
          have Ho4 := Lib.hid hown4
          rw [Nat.zero_add, List.nil_append] at Ho4
          clear hown4
          go_roundw
          case rel => exact ⟨1, by omega, by go_num, Lib.hid (.inr (.inl ⟨rfl, Ho4.out⟩)), hb5⟩
          case measure => simp [intOf]
        · have hown := Lib.hid ho
          have Hs := pts_flat (HP.out.2.below hb)
          clear hs ho
          go_wp2_with (first | (at_builtin; refine wpList_append_own _ rfl _ _ 22 rfl w.heap.size 52 i0 (.agg #[.int .i64 0, .int .i64 0]) 2 16 Try.underlying22 hi0 hz0 hz1 hz2 rfl (by decide) _ n (flat2 l) rfl hown.out ⟨b2, off2, none⟩ m cap2 (flat2 l2) rfl (by rw [flat2_length, Hm.out]) Hs (flat2_one l2) (by unfold maxLen; omega) (by omega) (by omega) ?_; intro v' w4 hown4 hgrow4 hnil4; have hb5 : Below w.heap.size w w4 := hb.grown hgrow4 (by omega) (fun q hq => (hown.out.lt _ hq).1); clear hgrow4 hnil4))
          have Ho4 := Lib.hid hown4
          rw [← HN.out, ← flat2_app] at Ho4
          clear hown4
          go_roundw
          case rel => exact ⟨2, by omega, by go_num, Lib.hid (.inr (.inr ⟨rfl, Ho4.out⟩)), hb5⟩
          case measure => simp [intOf]
        · have hNl : N = (l ++ l2).length := by rw [List.length_append, HN.out, Hn.out, Hm.out]
          obtain ⟨ao5, cap5, rfl, hc5, hp5⟩ := own_pts2 ho hNl
          have HM := Lib.hid (fieldMade_ok hNl hc5 hp5)
          clear hs ho hNl hp5
          go_wp2
          go_ret
          exact ⟨⟨_, rfl, HM.out⟩, hb⟩
end Go.Proofs.Ytkpabehjehbidaa
