import Derived.RangeFuncNested
import Derived.RangeFuncBound
import Derived.RangeFuncCalls
import Derived.RangeFuncLeaves
import Derived.Shelf.Abstract
import Derived.Shelf.RegionOpen
import Derived.Stop.RegionWithIn
import Derived.OwnWalkIn
import Derived.TacticsInMore
import Derived.LoopNIn
import Derived.LoopIn
import Derived.Test.YtnllhhamebmlnaaRof
namespace Go.Proofs.Ytnllhhamebmlnaa
open Go.RowKit Go.Shelf

attribute [local go_sem] Oper.semAt_some

/-- A row that holds the corners of a ring. -/
structure IsRing (X : Array Value) (l : List (Int × Int)) : Prop where
  size : X.size = 21
  one : X.all (·.oneCell') = true
  n : X[0]? = some (.int .i64 l.length)
  x : ∀ i, i < l.length → X[1 + i * 2]? = some (.int .i64 (l.getD i (0, 0)).1)
  y : ∀ i, i < l.length → X[1 + i * 2 + 1]? = some (.int .i64 (l.getD i (0, 0)).2)

theorem isRing_cells {l : List (Int × Int)} (h : l.length ≤ 10) : IsRing (ringCells l).toArray l :=
  ⟨by simp [ringCells_length h], ringCells_one l, by simp [ringCells_n], fun i hi => by simpa using ringCells_x hi, fun i hi => by simpa using ringCells_y hi⟩

set_option maxHeartbeats 400000 in
theorem next_any (X : Array Value) (n i m : Nat) (w : World) (hX : X[0]? = some (.int .i64 n)) (hn : 1 ≤ n) (hn2 : n ≤ 1000) (hi : i < n) (hm : Hid (m = (i + 1) % n)) :
    Calls Try.prog 111 #[.agg X, .int .i64 i] w fun e w' => e = .returned (.int .i64 m) ∧ w' = w.alloc (.cells X 51) := by
  have hc : (w.alloc (.cells X 51)).cell? ⟨w.heap.size, 0, none⟩ = some (.int .i64 n) := by
    simp [hX]
  go_enter Try.func111, Try.ntmps111
  go_wp2
  go_ret
  exact ⟨ret_int (by rw [hm.out]; simp), rfl⟩

set_option maxHeartbeats 400000 in
theorem sides_any (X : Array Value) (w : World) :
    Calls Try.prog 97 #[.agg X] w fun e w' => e = .returned (.func (.func 114) #[] #[.pointer (some ⟨w.heap.size, 0, none⟩)]) ∧ w' = w.alloc (.cells X 51) := by
  go_enter Try.func97, Try.ntmps97
  go_wp2
  go_ret
  exact ⟨rfl, rfl⟩

theorem grownBy_drew {w w' : World} {row : Option Nat} (h : w.grownBy w' row) : w.grownBy w'.drew row := ⟨h.os, h.tape, h.output, h.size, h.block⟩

/-- A load of a whole ring, behind a name that the walk does not open. -/
def loadRing (v : Value) : Sem Value := Instr.loadAt 51 v
theorem loadAt_ring (v : Value) : Instr.loadAt 51 v = loadRing v := rfl
theorem run_loadRing {w : World} {b : Nat} {X : Array Value} {t : TypeId} {fr : Nat × Nat} (hb : w.heap[b]? = some (.cells X t fr)) (hs : X.size = 21) :
    (loadRing (.pointer (some ⟨b, 0, none⟩))).run Try.prog w = .ok (.agg X) w := by
  unfold loadRing
  simp [Instr.loadAt, Instr.sureAddr, run_loadVar_row w b t 51 X fr _ hb Try.underlying51 rfl (by rw [Try.infoRing, hs])]

/-- A side: from corner i to the next one. -/
def sideV (l : List (Int × Int)) (i : Nat) : Value :=
  .agg #[.int .i64 (l.getD i (0, 0)).1, .int .i64 (l.getD i (0, 0)).2, .int .i64 (l.getD ((i + 1) % l.length) (0, 0)).1, .int .i64 (l.getD ((i + 1) % l.length) (0, 0)).2]

attribute [local go_sem ↓] loadAt_ring

/-- Block B lies as it lay, and no block has gone. -/
structure KeepB (B : Nat) (W W' : World) : Prop where
  same : W'.heap[B]? = W.heap[B]?
  size : W.heap.size ≤ W'.heap.size
theorem KeepB.refl (B : Nat) (W : World) : KeepB B W W := ⟨rfl, Nat.le_refl _⟩
theorem KeepB.trans {B : Nat} {X Y Z : World} (h : KeepB B X Y) (k : KeepB B Y Z) : KeepB B X Z := ⟨k.same.trans h.same, Nat.le_trans h.size k.size⟩
theorem KeepB.alloc {B : Nat} (W : World) (hB : B < W.heap.size) (o : Obj) : KeepB B W (W.alloc o) := ⟨Below.heap_alloc W o B hB, by simp⟩
theorem KeepB.drew {B : Nat} {X Y : World} (h : KeepB B X Y) : KeepB B X Y.drew := ⟨h.same, h.size⟩
theorem KeepB.drewN {B : Nat} {X Y : World} (h : KeepB B X Y) (n : Nat) : KeepB B X (Y.drewN n) := ⟨h.same, h.size⟩
theorem KeepB.setCell {B : Nat} (W : World) (a : Addr) (h : B ≠ a.block) (v : Value) : KeepB B W (W.setCell a v) := ⟨Below.heap_setCell _ _ _ _ h, by simp [World.setCell]⟩
theorem KeepB.below {n₀ B : Nat} {W W' : World} (h : Below n₀ W W') (hB : B < n₀) : KeepB B W W' := ⟨h.block B hB, h.size⟩
theorem KeepB.put {B : Nat} {w : World} (hB : B < w.heap.size) (W : World) (l : Nat) (o o' : Obj) (hl : w.heap.size ≤ l) (h : W.heap[l]? = some o) (_ : o.isCells = false) (_ : o.isWalk = false) : KeepB B W (W.putObj l o') := by
  have hg := grownBy_putObj' W l o'
  refine ⟨?_, hg.size⟩
  rcases Nat.lt_or_ge B W.heap.size with h1 | h1
  · exact hg.block B h1 (fun e => by cases e; omega)
  · exact absurd (Array.getElem?_eq_some_iff.1 h).1 (by omega)

set_option maxRecDepth 100000 in
set_option maxHeartbeats 2000000 in
theorem sides1_in (n l Bn : Nat) (X : Array Value) (pl : List (Int × Int)) (hX : IsRing X pl) (h1 : 1 ≤ pl.length) (h10 : pl.length ≤ 10) (J Jx : List Nat → World → Prop)
    (W : World) (hJ : AbidesFrom W.heap.size J)
    (hY : ∀ pre x W1, J pre W1 → pre.length < pl.length → YieldAt Fence.wide (n - 1) Try.prog l #[.int .i64 (x : Nat), sideV pl x] W1 fun e W' =>
      (e = .returned (.bool true) ∧ J (pre ++ [x]) W' ∧ KeepB Bn W1 W') ∨ (e = .returned (.bool false) ∧ Jx (pre ++ [x]) W'))
    (hBn : W.heap[Bn]? = some (.cells X 51 (0, 0))) (h0 : J [] W) :
    CallsIn Fence.wide n Try.prog 114 #[.func (.yield l) #[] #[], .pointer (some ⟨Bn, 0, none⟩)] W fun e W' => (∃ v, e = .returned v) ∧
      ((∃ ys, ys = List.range pl.length ∧ J ys W') ∨ (∃ pre, (∃ k, k ≤ pl.length ∧ pre = List.range k) ∧ Jx pre W')) := by
  have hc0 : W.cell? ⟨Bn, 0, none⟩ = some (.int .i64 pl.length) := by
    unfold World.cell?; simp [hBn, hX.n]
  refine callsIn_of_wp Try.func114 rfl trivial ?_ rfl
  simp only [Try.ntmps114, List.size_toArray, List.length_cons, List.length_nil, Nat.reduceAdd, Nat.reduceSub, Array.replicate_succ, Array.replicate_zero, List.push_toArray, List.append_toArray, List.nil_append, List.cons_append]
  obtain ⟨N, hN⟩ : ∃ N, N = pl.length := ⟨_, rfl⟩
  rw [← hN] at hc0 h1 h10 ⊢
  have HN := Lib.hid hN
  clear hN
  gi_wp2
  gi_loopw [6] (fun i wr => ∃ k : Nat, k ≤ N ∧ i = .int .i64 k ∧ J (List.range k) wr ∧ KeepB Bn W wr) (fun i _ => N - (intOf i).toNat)
  case atStart => exact ⟨0, Nat.zero_le _, rfl, h0, KeepB.refl _ _⟩
  case round =>
    obtain ⟨k, hk, rfl, hJs, hnx⟩ := hrel
    by_cases hlt : k < N
    · obtain ⟨m, hm⟩ : ∃ m, m = (k + 1) % N := ⟨_, rfl⟩
      have hmN : m < N := by rw [hm]; exact Nat.mod_lt _ (by omega)
      have Hm := Lib.hid hm
      clear hm
      have hBr : wr.heap[Bn]? = some (.cells X 51 (0, 0)) := hnx.same.trans hBn
      have hBlt : Bn < wr.heap.size := (Array.getElem?_eq_some_iff.1 hBr).1
      have hl := run_loadRing (w := wr.drew) (show wr.drew.heap[Bn]? = _ from hBr) hX.size
      obtain ⟨xk, hxk⟩ : ∃ x, x = (pl.getD k (0, 0)).1 := ⟨_, rfl⟩
      obtain ⟨yk, hyk⟩ : ∃ x, x = (pl.getD k (0, 0)).2 := ⟨_, rfl⟩
      obtain ⟨xm, hxm⟩ : ∃ x, x = (pl.getD m (0, 0)).1 := ⟨_, rfl⟩
      obtain ⟨ym, hym⟩ : ∃ x, x = (pl.getD m (0, 0)).2 := ⟨_, rfl⟩
      have hcx : ∀ j v, X[j]? = some v → wr.cell? ⟨Bn, j, none⟩ = some v := fun j v h => by unfold World.cell?; simp [hBr, h]
      have c1 := hcx _ _ (hX.x k (by rw [← HN.out]; exact hlt))
      have c2 := hcx _ _ (hX.y k (by rw [← HN.out]; exact hlt))
      have c3 := hcx _ _ (hX.x m (by rw [← HN.out]; exact hmN))
      have c4 := hcx _ _ (hX.y m (by rw [← HN.out]; exact hmN))
      rw [← hxk] at c1
      rw [← hyk] at c2
      rw [← hxm] at c3
      rw [← hym] at c4
      have hJ2 := hJ _ _ ((wr.alloc (.cells X 51)).drew) none hJs (grownBy_drew (World.grownBy_alloc wr _ none)) (fun r e => by cases e)
      obtain ⟨fn, tmps, assign, body, hy, hR⟩ := (hY _ k _ hJ2 (by rw [List.length_range, ← HN.out]; exact hlt)).mono (R' := fun e W' => ∃ b : Bool, e = .returned (.bool b) ∧ Hid ((b = true ∧ J (List.range (k + 1)) W' ∧ KeepB Bn W W') ∨ (b = false ∧ Jx (List.range (k + 1)) W'))) (by
        rintro e W' (⟨rfl, h2, h3⟩ | ⟨rfl, h2⟩)
        · exact ⟨true, rfl, .inl ⟨rfl, by rw [List.range_succ]; exact h2, hnx.trans ((KeepB.alloc wr hBlt _).drew.trans h3)⟩⟩
        · exact ⟨false, rfl, .inr ⟨rfl, by rw [List.range_succ]; exact h2⟩⟩)
      unfold sideV at hy
      rw [← HN.out, ← Hm.out, ← hxk, ← hyk, ← hxm, ← hym] at hy
      have HH := Lib.hid (And.intro hxk (And.intro hyk (And.intro hxm hym)))
      have Hj := Lib.hid (And.intro hJs (And.intro hJ2 (And.intro hnx hY)))
      clear hxk hyk hxm hym hcx hJs hJ2 hnx hY hBr hJ h0
      have k0 : (0 : Int) ≤ (k : Int) := by omega
      have k1 : (k : Int) < 10 := by omega
      have m0 : (0 : Int) ≤ (m : Int) := by omega
      have m1 : (m : Int) < 10 := by omega
      have hw1 : ∀ f, Fence.wide.fn f = True := fun _ => rfl
      have hw2 : Fence.wide.depth.isSome = false := rfl
      gi_wp2
      gi_region_with (first | (gi_at_call 111; refine (callsIn_wide.2 (next_any X N k m _ (by rw [HN.out]; exact hX.n) h1 (by omega) hlt Hm)).mono ?_; rintro e w' ⟨rfl, rfl⟩) | (refine hR.mono ?_; rintro e W3 ⟨b, rfl, hb⟩))
      all_goals
        cases b with
        | false =>
          rcases hb.out with ⟨h, _⟩ | ⟨_, h2⟩
          · cases h
          · gi_wp2
            refine bodyPost_ret (results_none rfl _ _ _) rfl ?_
            exact ⟨⟨_, rfl⟩, .inr ⟨_, ⟨k + 1, by omega, rfl⟩, h2⟩⟩
        | true =>
          rcases hb.out with ⟨_, h2, h3⟩ | ⟨h, _⟩
          · gi_wp2
            go_roundw
            case rel => exact ⟨k + 1, by omega, by go_num, h2, h3⟩
            case measure => simp [intOf]; omega
          · cases h
    · obtain rfl : k = N := by omega
      gi_wp2
      go_end0
      exact ⟨⟨_, rfl⟩, .inl ⟨_, rfl, hJs⟩⟩

/-- **sides() HANDS BACK AN ITERATOR THAT GIVES EACH SIDE WITH ITS NUMBER.** -/
theorem sides_stops (n Bn : Nat) (X : Array Value) (pl : List (Int × Int)) (hX : IsRing X pl) (h1 : 1 ≤ pl.length) (h10 : pl.length ≤ 10) (w : World)
    (hBn : w.heap[Bn]? = some (.cells X 51 (0, 0))) :
    SeqStopsK Fence.wide n Try.prog 114 #[.pointer (some ⟨Bn, 0, none⟩)] (fun x : Nat => #[.int .i64 x, sideV pl x]) (KeepB Bn) (fun ys => ys = List.range pl.length) (fun pre => ∃ k, k ≤ pl.length ∧ pre = List.range k) pl.length w :=
  fun l J Jx W hW hJ _ hY h0 => sides1_in n l Bn X pl hX h1 h10 J Jx W hJ hY ((hW.block _ (Array.getElem?_eq_some_iff.1 hBn).1).trans hBn) h0
end Go.Proofs.Ytnllhhamebmlnaa
