import Derived.Test.YtmdkdkiejcjmaaaTd
/- Package term: nth, over days of which a condition holds. -/
namespace Go.Proofs.Ytmdkdkiejcjmaaa
open Go.RowKit Go.Shelf

attribute [local go_sem] Oper.semAt_some

theorem own_rowAt {β : Type} {B k : Nat} {o : Obj} (hk : k < B) : OwnFrom B (fun (_ : β) W => W.heap[k]? = some o) :=
  fun _ _ _ _ hs hg hr => (hg.block k (Array.getElem?_eq_some_iff.1 hs).1 (fun e => by have := (hr k e.symm).1; omega)).trans hs
theorem own_below2 {β : Type} {B m : Nat} {w : World} (hm : m ≤ B) (hw : m ≤ w.heap.size) : OwnFrom B (fun (_ : β) W => Below m w W) :=
  fun _ _ _ _ hs hg hr => hs.grown hg (Nat.le_trans hw hs.size) (fun k e => Nat.le_trans hm (hr k e).1)

theorem heap3 (w : World) (A B C : Obj) : (((w.alloc A).alloc B).alloc C).heap[w.heap.size]? = some A ∧ (((w.alloc A).alloc B).alloc C).heap[w.heap.size + 1]? = some B ∧ (((w.alloc A).alloc B).alloc C).heap[w.heap.size + 1 + 1]? = some C :=
  ⟨(Below.heap_alloc _ _ _ (by simp; try omega)).trans (heap_alloc2_old w A B), (Below.heap_alloc _ _ _ (by simp; try omega)).trans (heap_alloc2_new w A B), heap_alloc3 w A B C⟩
theorem row_one {w : World} {g : Nat} {a : Value} {t : TypeId} (hh : w.heap[g]? = some (.cells #[a] t (0, 0))) : w.cell? ⟨g, 0, none⟩ = some a ∧ w.frozen? ⟨g, 0, none⟩ = false :=
  ⟨cell_of_row w g 0 _ _ _ hh, frozen_of_row w g 0 _ _ hh⟩
theorem set_one {w : World} {g : Nat} {a : Value} {t : TypeId} (hh : w.heap[g]? = some (.cells #[a] t (0, 0))) (v : Value) : (w.setCell ⟨g, 0, none⟩ v).heap[g]? = some (.cells #[v] t (0, 0)) :=
  heap_setCell_same w g 0 _ t v hh
theorem set_other {w : World} {g k : Nat} {o : Obj} (hne : k ≠ g) (hh : w.heap[k]? = some o) (v : Value) : (w.setCell ⟨g, 0, none⟩ v).heap[k]? = some o :=
  (heap_setCell_other _ _ _ _ hne).trans hh
theorem KX.set {m g : Nat} (hg : m ≤ g ∧ g < m + 5) (W : World) (v : Value) : KX m W (W.setCell ⟨g, 0, none⟩ v) :=
  ⟨by simp [World.setCell], fun k _ hx => heap_setCell_other _ _ _ _ (by show k ≠ g; rintro rfl; exact hx hg)⟩

set_option maxRecDepth 100000 in
set_option maxHeartbeats 4000000 in
theorem nth_any (n0 BD BI : Nat) (h1 : 1 ≤ n0) (hn : n0 ≤ 4611686018427387904) (S Sp : List Nat → Prop) (w : World)
    (hseq : ∀ w', Below w.heap.size w w' → w'.heap.size = w.heap.size + 3 → ∀ k, 8 ≤ k → SeqB Fence.wide k Try.prog 99 #[.pointer (some ⟨BD, 0, none⟩), .pointer (some ⟨BI, 0, none⟩)] dayV (KX w.heap.size) S Sp (fun ys => ys.length < n0) w') :
    Calls Try.prog 96 #[.func (.func 99) #[] #[.pointer (some ⟨BD, 0, none⟩), .pointer (some ⟨BI, 0, none⟩)], .int .i64 n0] w fun e w' => (∃ (x : Nat) (b : Bool), e = .returned (.tuple #[.int .i64 x, .bool b]) ∧ ((b = true ∧ ∃ pre, Sp (pre ++ [x]) ∧ (pre ++ [x]).length = n0) ∨ (b = false ∧ x = 0 ∧ ∃ ys, S ys ∧ ys.length < n0))) ∧ Below w.heap.size w w' := by
  refine (callsIn_wide (n := 20)).1 ?_
  refine callsIn_of_wp_marks Try.func96 rfl trivial ?_ rfl
  simp only [Try.ntmps96, List.size_toArray, List.length_cons, List.length_nil, Nat.reduceAdd, Nat.reduceSub, Array.replicate_succ, Array.replicate_zero, List.push_toArray, List.append_toArray, List.nil_append, List.cons_append]
  have hw1 : ∀ f, Fence.wide.fn f = True := fun _ => rfl
  have hw2 : Fence.wide.depth.isSome = false := rfl
  have hA := below_alloc3 w (.cells #[.int .i64 n0] 3) (.cells #[.int .i64 0] 3) (.cells #[.bool false] 4)
  obtain ⟨r0, r1, r2⟩ := heap3 w (.cells #[.int .i64 n0] 3) (.cells #[.int .i64 0] 3) (.cells #[.bool false] 4)
  gi_wp2
  obtain ⟨W1, hW1⟩ : ∃ W1, W1 = ((w.alloc (.cells #[.int .i64 n0] 3)).alloc (.cells #[.int .i64 0] 3)).alloc (.cells #[.bool false] 4) := ⟨_, rfl⟩
  have hsz : W1.heap.size = w.heap.size + 3 := by rw [hW1]; simp
  rw [← hW1] at hA r0 r1 r2 ⊢
  clear hW1
  have hseq1 := hseq W1 hA hsz
  clear hseq
  obtain ⟨m, hm⟩ : ∃ m, m = w.heap.size := ⟨_, rfl⟩
  have hmw : m ≤ w.heap.size := by omega
  have Hm := Lib.hid hm
  rw [← hm] at hA r0 r1 r2 hsz hseq1 ⊢
  clear hm
  refine range_bounded rfl (by omega) (gf := 99) (lb := #[.pointer (some ⟨BD, 0, none⟩), .pointer (some ⟨BI, 0, none⟩)]) rfl trivial (enters_of Try.func99 (by kernel_rfl) rfl) (hseq1 _ (by omega)) KX.trans (fun V o o' _ _ => KX.put (by omega) V o') (Below.refl _ _) (fun _ => rfl)
    (fun pre V => pre.length < n0 ∧ (V.heap[m]? = some (.cells #[.int .i64 ((n0 - pre.length : Nat) : Int)] 3 (0, 0)) ∧ (V.heap[m + 1]? = some (.cells #[.int .i64 0] 3 (0, 0)) ∧ (V.heap[m + 1 + 1]? = some (.cells #[.bool false] 4 (0, 0)) ∧ Below m w V))))
    (fun pre V => (∃ p d, pre = p ++ [d] ∧ pre.length = n0 ∧ V.heap[m + 1]? = some (.cells #[.int .i64 (d : Nat)] 3 (0, 0))) ∧ (V.heap[m + 1 + 1]? = some (.cells #[.bool true] 4 (0, 0)) ∧ Below m w V))
    ?hI ?hIx (fun pre V h => h.1) ⟨by simp; omega, by simpa using r0, r1, r2, hA⟩
    (fun x => { tmps := #[.func (.func 99) #[] #[.pointer (some ⟨BD, 0, none⟩), .pointer (some ⟨BI, 0, none⟩)], .int .i64 n0, undef, .pointer (some ⟨m, 0, none⟩), .pointer (some ⟨m + 1, 0, none⟩), .pointer (some ⟨m + 1 + 1, 0, none⟩), .int .i64 x, .func (.func 99) #[] #[.pointer (some ⟨BD, 0, none⟩), .pointer (some ⟨BI, 0, none⟩)], .int .i64 x, undef, undef, undef, undef, undef], defers := [] }) ?assign ?body ?done ?stop
  case hI =>
    refine OwnFrom.and (fun _ _ _ _ hs _ _ => hs) (OwnFrom.and (fun s W W' row hs hg hr => own_rowAt (B := W1.heap.size) (by omega) s W W' row hs hg hr) (OwnFrom.and (own_rowAt (by omega)) (OwnFrom.and (own_rowAt (by omega)) (own_below2 (by omega) hmw))))
  case hIx =>
    refine OwnFrom.and (fun s W W' row hs hg hr => ?_) (OwnFrom.and (own_rowAt (by omega)) (own_below2 (by omega) hmw))
    obtain ⟨p, d, e1, e2, e3⟩ := hs
    exact ⟨p, d, e1, e2, own_rowAt (β := Unit) (B := W1.heap.size) (by omega) () W W' row e3 hg hr⟩
  case assign =>
    intro lr x V K hK
    unfold dayV
    gi_wp2
    exact hK
  case body =>
    rintro lr pre x V hlr - ⟨hp, q0, q1, q2, hB⟩
    obtain ⟨c0, f0⟩ := row_one q0
    obtain ⟨c1, f1⟩ := row_one q1
    obtain ⟨c2, f2⟩ := row_one q2
    have hw3 : ∀ f, (Fence.wide.inRound lr).fn f = True := fun _ => rfl
    have hw4 : (Fence.wide.inRound lr).depth.isSome = false := rfl
    obtain ⟨k, hk⟩ : ∃ k : Nat, k = n0 - pre.length := ⟨_, rfl⟩
    rw [← hk] at q0 c0
    have hk1 : 1 ≤ k := by omega
    have hk2 : k ≤ 4611686018427387904 := by omega
    have Hk := Lib.hid hk
    clear hk
    by_cases h2 : k = 1
    · have hke : Hid (k = 1) := Lib.hid h2
      subst h2
      gi_wp2
      refine ⟨(((KeepsOthers.setCell _ _ _).trans (KeepsOthers.setCell _ _ _)).trans (KeepsOthers.setCell _ _ _)).from _, ((KX.set (by omega) _ _).trans (KX.set (by omega) _ _)).trans (KX.set (by omega) _ _), ⟨pre, x, rfl, by have := Hk.out; simp; omega, ?_⟩, ?_, ?_⟩
      · exact set_other (by omega) (set_one (set_other (by omega) q1 _) _) _
      · exact set_one (set_other (by omega) (set_other (by omega) q2 _) _) _
      · exact below_setCell (below_setCell (below_setCell hB (by omega) _) (by omega) _) (by omega) _
    · have hne : ((k : Int) - 1 == 0) = false := by simp; omega
      have hke : Hid (((n0 - (pre ++ [x]).length : Nat) : Int) = (k : Int) - 1) := Lib.hid (by have := Hk.out; simp; omega)
      gi_wp2
      refine ⟨(KeepsOthers.setCell _ _ _).from _, KX.set (by omega) _ _, by have := Hk.out; simp; omega, ?_, ?_, ?_, ?_⟩
      · rw [hke.out]; exact set_one q0 _
      · exact set_other (by omega) q1 _
      · exact set_other (by omega) q2 _
      · exact below_setCell hB (by omega) _
  case done =>
    rintro D ys V hD hS ⟨hp, q0, q1, q2, hB⟩ hK
    obtain ⟨c1, f1⟩ := row_one q1
    obtain ⟨c2, f2⟩ := row_one q2
    have hs1 := hsz
    gi_wp2
    have q1' := set_other (k := m + 1) (g := m + 1 + 1) (by omega) (set_one q1 (.int .i64 0)) (.bool false)
    have q2' := set_one (set_other (k := m + 1 + 1) (g := m + 1) (by omega) q2 (.int .i64 0)) (.bool false)
    have hB' := below_setCell (g := m + 1 + 1) (o := 0) (below_setCell (g := m + 1) (o := 0) hB (by omega) (.int .i64 0)) (by omega) (.bool false)
    have hK' := ((KeepsOthers.setCell V ⟨m + 1, 0, none⟩ (.int .i64 0)).trans (KeepsOthers.setCell _ ⟨m + 1 + 1, 0, none⟩ (.bool false))).same D _ hK rfl
    refine ⟨by simp, .inl ⟨_, _, rfl, run_takeDeferred hK', ?_⟩⟩
    have c5 := cell_kept (row_one q1').1 (grownBy_putObj' _ D (.deferred none)) (fun r e => by cases e; exact ⟨_, hK', rfl⟩)
    have c6 := cell_kept (row_one q2').1 (grownBy_putObj' _ D (.deferred none)) (fun r e => by cases e; exact ⟨_, hK', rfl⟩)
    refine ⟨.tuple #[.int .i64 0, .bool false], ?_, ⟨⟨0, false, rfl, .inr ⟨rfl, rfl, ys, hS, hp⟩⟩, by rw [← Hm.out]; exact hB'.grown (grownBy_putObj' _ D (.deferred none)) (by have := hB'.size; omega) (fun k e => by cases e; omega)⟩⟩
    simp [results, Try.f96, go_sem, c5, c6]
  case stop =>
    rintro D pre V hD hSp ⟨⟨p, d, rfl, hl, q1⟩, q2, hB⟩ hK
    obtain ⟨c1, f1⟩ := row_one q1
    obtain ⟨c2, f2⟩ := row_one q2
    have hs1 := hsz
    gi_wp2
    have q1' := q1
    have q2' := q2
    have hB' := hB
    have hK' := hK
    refine ⟨by simp, .inl ⟨_, _, rfl, run_takeDeferred hK', ?_⟩⟩
    have c5 := cell_kept (row_one q1').1 (grownBy_putObj' _ D (.deferred none)) (fun r e => by cases e; exact ⟨_, hK', rfl⟩)
    have c6 := cell_kept (row_one q2').1 (grownBy_putObj' _ D (.deferred none)) (fun r e => by cases e; exact ⟨_, hK', rfl⟩)
    refine ⟨.tuple #[.int .i64 (d : Nat), .bool true], ?_, ⟨⟨d, true, rfl, .inl ⟨rfl, p, hSp, hl⟩⟩, by rw [← Hm.out]; exact hB'.grown (grownBy_putObj' _ D (.deferred none)) (by have := hB'.size; omega) (fun k e => by cases e; omega)⟩⟩
    simp [results, Try.f96, go_sem, c5, c6]
end Go.Proofs.Ytmdkdkiejcjmaaa
