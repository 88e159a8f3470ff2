import Derived.Test.YtnllhhamebmlnaaTwc
import Derived.Laws.CopyOwn
namespace Go.Proofs.Ytnllhhamebmlnaa
open Go.RowKit

/-- The cells of points, one after another. -/
def flat : List (Int × Int) → List Value
  | [] => []
  | p :: l => .int .i64 p.1 :: .int .i64 p.2 :: flat l

theorem flat_length (l : List (Int × Int)) : (flat l).length = l.length * 2 := by
  induction l with
  | nil => rfl
  | cons p l ih => simp [flat, ih]; omega

theorem flat_even (l : List (Int × Int)) : ∀ i, i < l.length → (flat l)[i * 2]? = some (.int .i64 (l.getD i (0, 0)).1) := by
  induction l with
  | nil => intro i hi; simp at hi
  | cons p l ih =>
    intro i hi
    cases i with
    | zero => simp [flat]
    | succ i =>
      have := ih i (by simpa using hi)
      rw [show (i + 1) * 2 = i * 2 + 1 + 1 by omega]
      simpa [flat] using this

theorem flat_odd (l : List (Int × Int)) : ∀ i, i < l.length → (flat l)[i * 2 + 1]? = some (.int .i64 (l.getD i (0, 0)).2) := by
  induction l with
  | nil => intro i hi; simp at hi
  | cons p l ih =>
    intro i hi
    cases i with
    | zero => simp [flat]
    | succ i =>
      have := ih i (by simpa using hi)
      rw [show (i + 1) * 2 + 1 = i * 2 + 1 + 1 + 1 by omega]
      simpa [flat] using this

theorem flat_one (l : List (Int × Int)) : ∀ v ∈ flat l, v.oneCell' = true := by
  induction l with
  | nil => intro v hv; simp [flat] at hv
  | cons p l ih =>
    intro v hv
    simp only [flat, List.mem_cons] at hv
    rcases hv with rfl | rfl | hv
    · rfl
    · rfl
    · exact ih v hv

/-- The cells of a ring. -/
def ringCells (l : List (Int × Int)) : List Value := .int .i64 l.length :: (flat l ++ List.replicate (20 - l.length * 2) (.int .i64 0))

theorem ringCells_length {l : List (Int × Int)} (h : l.length ≤ 10) : (ringCells l).length = 21 := by
  simp [ringCells, flat_length]; omega

theorem ringCells_one (l : List (Int × Int)) : (ringCells l).toArray.all (·.oneCell') = true := by
  rw [Array.all_eq_true_iff_forall_mem]
  intro v hv
  simp only [ringCells, List.mem_toArray, List.mem_cons, List.mem_append, List.mem_replicate] at hv
  rcases hv with rfl | hv | ⟨_, rfl⟩
  · rfl
  · exact flat_one l v hv
  · rfl

theorem ringCells_n (l : List (Int × Int)) : (ringCells l)[0]? = some (.int .i64 l.length) := rfl
theorem ringCells_x {l : List (Int × Int)} {i : Nat} (h : i < l.length) : (ringCells l)[1 + i * 2]? = some (.int .i64 (l.getD i (0, 0)).1) := by
  rw [show 1 + i * 2 = i * 2 + 1 by omega]
  simp only [ringCells, List.getElem?_cons_succ]
  rw [List.getElem?_append_left (by rw [flat_length]; omega)]
  exact flat_even l i h
theorem ringCells_y {l : List (Int × Int)} {i : Nat} (h : i < l.length) : (ringCells l)[1 + i * 2 + 1]? = some (.int .i64 (l.getD i (0, 0)).2) := by
  rw [show 1 + i * 2 + 1 = i * 2 + 1 + 1 by omega]
  simp only [ringCells, List.getElem?_cons_succ]
  rw [List.getElem?_append_left (by rw [flat_length]; omega)]
  exact flat_odd l i h

/-- What Go's copy does to a row, whatever the size of an element. -/
theorem run_copy_sized {P : Program} (w : World) (dT sT ty elem : TypeId) (g o dLen dCap : Nat) (a : Addr) (sLen sCap sz : Nat) (cur : Array Value) (t : TypeId) (cs : List Value)
    (hu : P.underlying dT = some (.slice elem)) (hs : (P.info? elem).map (·.size) = some sz)
    (hg : w.heap[g]? = some (.cells cur t (0, 0))) (hn : cs.length = Nat.min sLen dLen * sz)
    (hsrc : ∀ j v, cs[j]? = some v → w.cell? (a.add j) = some v) (hfit : o + cs.length ≤ cur.size) (h1 : ∀ v ∈ cs, v.oneCell' = true) :
    (Builtin.copy_ #[dT, sT] ty #[.slice (some ⟨g, o, none⟩) dLen dCap, .slice (some a) sLen sCap]).run P w =
      .ok (goInt (Nat.min sLen dLen)) (w.setRow g (cur.toList.take o ++ cs ++ cur.toList.drop (o + cs.length)).toArray) := by
  have hl := run_loadCells_list (P := P) w a cs hsrc
  have hst := run_storeCells_at P g o t cs 0 cur w hg (by simpa using hfit) h1
  cases hq : P.info? elem with
  | none => simp [hq] at hs
  | some i =>
    have hi : i.size = sz := by simpa [hq] using hs
    simp [Builtin.copy_, run_underlying hu, Builtin.lenOf, Builtin.firstCells, sizeOf, typeInfo, hq, hi, ← hn, hl, hst]

theorem wpList_copy_sized {P : Program} {w : World} {ops : Array Oper} {rest : List Oper} {o : Oper} {a : Act} {Q : Exit → Act → World → Prop} (hgd : o.guard = none) (d s : Operand) (dT sT : TypeId)
    (ho : o.op = .call { callee := .builtin .copy, args := #[d, s], argTypes := #[dT, sT] }) (elem : TypeId) (hu : P.underlying dT = some (.slice elem)) (sz : Nat) (hsz : (P.info? elem).map (·.size) = some sz)
    (g off dLen dCap : Nat) (ad : Addr) (sLen sCap : Nat) (hd : a.eval d = .slice (some ⟨g, off, none⟩) dLen dCap) (hs : a.eval s = .slice (some ad) sLen sCap)
    (cur : Array Value) (t : TypeId) (hg : w.heap[g]? = some (.cells cur t (0, 0))) (cs : List Value) (hn : cs.length = Nat.min sLen dLen * sz)
    (hsrc : ∀ j v, cs[j]? = some v → w.cell? (ad.add j) = some v) (hfit : off + cs.length ≤ cur.size) (h1 : ∀ v ∈ cs, v.oneCell' = true)
    (h : ∀ w', w'.heap[g]? = some (.cells (cur.toList.take off ++ cs ++ cur.toList.drop (off + cs.length)).toArray t (0, 0)) → Below g w w' → wpList P ops Q rest (a.put o.dst (goInt (Nat.min sLen dLen))) w') : wpList P ops Q (o :: rest) a w := by
  refine wpList_plain hgd fun K hK => ?_
  have hrun := run_copy_sized (P := P) w dT sT o.type elem g off dLen dCap ad sLen sCap sz cur t cs hu hsz hg hn hsrc hfit h1
  have h2 := hK _ _ (h _ (setRow_heap w g _ _ t _ hg) (below_setRow (Below.refl _ _) (Nat.le_refl _) _))
  unfold Oper.wp
  simp [execOp, ho, resolve, invoke, builtin, hd, hs, hrun, Result.andThen]
  rw [Oper.upon_value]
  simpa using h2


/-- A store of a whole row: what is known of the world behind it. -/
theorem wpList_store_row_b {P : Program} {ops : Array Oper} {rest : List Oper} {o : Oper} {a : Act} {w : World} {Q : Exit → Act → World → Prop} (hgd : o.guard = none) (ty : TypeId) (x y : Operand) (ho : o.op = .store ty x y)
    (g : Nat) (cells : Array Value) (hx : a.eval x = .pointer (some ⟨g, 0, none⟩)) (hy : a.eval y = .agg cells)
    (t : TypeId) (old : Array Value) (hg : w.heap[g]? = some (.cells old t (0, 0))) (hi : (P.info? ty).map (·.size) = some cells.size)
    (hold : old.size = cells.size) (h1 : cells.all (·.oneCell') = true)
    (h : ∀ w', w'.heap[g]? = some (.cells cells t (0, 0)) → Below g w w' → w'.heap.size = w.heap.size → wpList P ops Q rest (a.put o.dst undef) w') : wpList P ops Q (o :: rest) a w :=
  wpList_store_row hgd ty x y ho g cells hx hy t old hg hi hold h1 (h _ (setRow_heap w g _ _ t _ hg) (below_setRow (Below.refl _ _) (Nat.le_refl _) _) (by simp [World.setRow]))

theorem Try.infoRing : (Try.prog.info? 51).map (·.size) = some 21 := by kernel_rfl
theorem Try.infoPt : (Try.prog.info? 32).map (·.size) = some 2 := by kernel_rfl
theorem Try.infoLine : (Try.prog.info? 82).map (·.size) = some 4 := by kernel_rfl

def z21 (v : Int) : Array Value := #[.int .i64 v, .int .i64 0, .int .i64 0, .int .i64 0, .int .i64 0, .int .i64 0, .int .i64 0, .int .i64 0, .int .i64 0, .int .i64 0, .int .i64 0, .int .i64 0, .int .i64 0, .int .i64 0, .int .i64 0, .int .i64 0, .int .i64 0, .int .i64 0, .int .i64 0, .int .i64 0, .int .i64 0]

theorem z21_one (v : Int) : (z21 v).all (·.oneCell') = true := by simp [z21, Value.oneCell']
theorem z21_size (v : Int) : (z21 v).size = 21 := rfl

theorem ringCells_splice (l : List (Int × Int)) : ((z21 l.length).toList.take 1 ++ flat l ++ (z21 l.length).toList.drop (1 + (flat l).length)).toArray = (ringCells l).toArray := by
  congr 1
  rw [flat_length]
  have e : (z21 l.length).toList = .int .i64 l.length :: List.replicate 20 (.int .i64 0) := rfl
  rw [e, show 1 + l.length * 2 = l.length * 2 + 1 by omega, List.drop_succ_cons, List.drop_replicate]
  rfl
end Go.Proofs.Ytnllhhamebmlnaa
