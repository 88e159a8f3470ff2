import Derived.Test.YtmdkdkiejcjmaaaTu
/- Package term: number. -/
namespace Go.Proofs.Ytmdkdkiejcjmaaa
open Go.RowKit Go.Shelf

attribute [local go_sem] Oper.semAt_some

theorem KY.set {m g : Nat} (hg : m ≤ g ∧ g < m + 3) (W : World) (v : Value) : KY m W (W.setCell ⟨g, 0, none⟩ v) :=
  ⟨by simp [World.setCell], fun k _ hx => heap_setCell_other _ _ _ _ (by show k ≠ g; rintro rfl; exact hx hg)⟩

theorem wrap_succ (a : Int) : wrap64 (wrap64 a + 1) = wrap64 (a + 1) := by unfold wrap64; omega
theorem wrap_id {a : Int} (h1 : -9223372036854775808 ≤ a) (h2 : a ≤ 9223372036854775807) : wrap64 a = a := by unfold wrap64; omega

set_option maxRecDepth 100000 in
set_option maxHeartbeats 4000000 in
theorem number_any (N BD BI : Nat) (hN : N ≤ 4611686018427387904) (S Sp : List Nat → Prop) (w : World) (hlen : ∀ ys, S ys → ys.length ≤ N)
    (hseq : ∀ w', Below w.heap.size w w' → w'.heap.size = w.heap.size + 1 → ∀ k, 8 ≤ k → SeqB Fence.wide k Try.prog 99 #[.pointer (some ⟨BD, 0, none⟩), .pointer (some ⟨BI, 0, none⟩)] dayV (KY w.heap.size) S Sp (fun _ => True) w') :
    Calls Try.prog 70 #[.func (.func 99) #[] #[.pointer (some ⟨BD, 0, none⟩), .pointer (some ⟨BI, 0, none⟩)]] w fun e w' => (∃ ys, S ys ∧ e = .returned (.int .i64 ys.length)) ∧ Below w.heap.size w w' := by
  refine (callsIn_wide (n := 20)).1 ?_
  refine callsIn_of_wp_marks Try.func70 rfl trivial ?_ rfl
  simp only [Try.ntmps70, List.size_toArray, List.length_cons, List.length_nil, Nat.reduceAdd, Nat.reduceSub, Array.replicate_succ, Array.replicate_zero, List.push_toArray, List.append_toArray, List.nil_append, List.cons_append]
  have hw1 : ∀ f, Fence.wide.fn f = True := fun _ => rfl
  have hw2 : Fence.wide.depth.isSome = false := rfl
  have hA := (Below.refl w.heap.size w).alloc (Nat.le_refl _) (.cells #[.int .i64 0] 3)
  have r0 := heap_alloc_new w (.cells #[.int .i64 0] 3)
  gi_wp2
  obtain ⟨W1, hW1⟩ : ∃ W1, W1 = w.alloc (.cells #[.int .i64 0] 3) := ⟨_, rfl⟩
  have hsz : W1.heap.size = w.heap.size + 1 := by rw [hW1]; simp
  rw [← hW1] at hA r0 ⊢
  clear hW1
  have hseq1 := hseq W1 hA hsz
  clear hseq
  obtain ⟨m, hm⟩ : ∃ m, m = w.heap.size := ⟨_, rfl⟩
  have hmw : m ≤ w.heap.size := by omega
  have Hm := Lib.hid hm
  rw [← hm] at hA r0 hsz hseq1 ⊢
  clear hm
  refine range_bounded rfl (by omega) (gf := 99) (lb := #[.pointer (some ⟨BD, 0, none⟩), .pointer (some ⟨BI, 0, none⟩)]) rfl trivial (enters_of Try.func99 (by kernel_rfl) rfl) (hseq1 _ (by omega)) KY.trans (fun V o o' _ _ => KY.put (by omega) V o') (Below.refl _ _) (fun _ => rfl)
    (fun pre V => V.heap[m]? = some (.cells #[.int .i64 (wrap64 (pre.length : Nat))] 3 (0, 0)) ∧ Below m w V)
    (fun _ _ => False)
    ?hI ?hIx (fun pre V h => trivial) ⟨by simpa [wrap64] using r0, hA⟩
    (fun x => { tmps := #[.func (.func 99) #[] #[.pointer (some ⟨BD, 0, none⟩), .pointer (some ⟨BI, 0, none⟩)], undef, .int .i64 0, .pointer (some ⟨m, 0, none⟩), .func (.func 99) #[] #[.pointer (some ⟨BD, 0, none⟩), .pointer (some ⟨BI, 0, none⟩)], .int .i64 x, undef, undef, undef], defers := [] }) ?assign ?body ?done ?stop
  case hI =>
    exact OwnFrom.and (fun s W W' row hs hg hr => own_rowAt (B := W1.heap.size) (by omega) s W W' row hs hg hr) (own_below2 (by omega) hmw)
  case hIx =>
    exact fun _ _ _ _ hs _ _ => hs
  case assign =>
    intro lr x V K hK
    unfold dayV
    gi_wp2
    simpa using hK
  case body =>
    rintro lr pre x V hlr - ⟨q0, hB⟩
    obtain ⟨c0, f0⟩ := row_one q0
    have hw3 : ∀ f, (Fence.wide.inRound lr).fn f = True := fun _ => rfl
    have hw4 : (Fence.wide.inRound lr).depth.isSome = false := rfl
    have hnx : Hid (wrap64 (((pre ++ [x]).length : Nat) : Int) = wrap64 (wrap64 ((pre.length : Nat) : Int) + 1)) := Lib.hid (by rw [wrap_succ]; simp)
    generalize wrap64 ((pre.length : Nat) : Int) = z at c0 q0 hnx
    gi_wp2
    refine ⟨(KeepsOthers.setCell _ _ _).from _, KY.set (by omega) _ _, ?_, below_setCell hB (by omega) _⟩
    rw [hnx.out]
    exact set_one q0 _
  case done =>
    rintro D ys V hD hS ⟨q0, hB⟩ hK
    obtain ⟨c0, f0⟩ := row_one q0
    have hs1 := hsz
    have hl := hlen ys hS
    rw [wrap_id (by omega) (by omega)] at q0 c0
    gi_wp2
    refine ⟨by simp, .inl ⟨_, _, rfl, run_takeDeferred hK, ?_⟩⟩
    refine ⟨.int .i64 ys.length, ?_, ⟨⟨ys, hS, rfl⟩, by rw [← Hm.out]; exact hB.grown (grownBy_putObj' _ D (.deferred none)) (by have := hB.size; omega) (fun k e => by cases e; omega)⟩⟩
    simp [results, Try.f70, go_sem]
  case stop =>
    rintro D pre V hD hSp h hK
    exact h.elim
end Go.Proofs.Ytmdkdkiejcjmaaa
