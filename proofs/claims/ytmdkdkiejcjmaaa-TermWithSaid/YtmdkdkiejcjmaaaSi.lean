import Derived.Test.YtmdkdkiejcjmaaaSd
/- Package term: latest, Latest. -/
namespace Go.Proofs.Ytmdkdkiejcjmaaa
open Go.RowKit Go.Shelf

attribute [local go_sem] Oper.semAt_some

namespace Tm
def q (c : Nat → Bool) (xs : List Nat) : Nat := (xs.filter c).length
theorem q_snoc (c : Nat → Bool) (xs : List Nat) (x : Nat) : q c (xs ++ [x]) = q c xs + if c x then 1 else 0 := by
  unfold q
  rw [List.filter_append, List.length_append]
  cases h : c x <;> simp [h]
theorem down_len (d k : Nat) : (down d k).length = k := by unfold down; simp
theorem q_down (c : Nat → Bool) (d : Nat) : ∀ k, k ≤ d + 1 → q c (down d k) = cnt c (d + 1 - k) k
  | 0, _ => rfl
  | k + 1, h => by
    rw [down_succ, q_snoc, q_down c d k (by omega), show k + 1 = 1 + k by omega, cnt_add, cnt_one, show d + 1 - (1 + k) = d - k by omega, show d - k + 1 = d + 1 - k by omega]
    omega
/-- The last day x up to a day l, behind which at least n days have counted up to l; b: whether there is one. -/
def IsLat (c : Nat → Bool) (l n x : Nat) (b : Bool) : Prop := (b = true ∧ x ≤ l ∧ n ≤ cnt c (x + 1) (l - x) ∧ ∀ y, x < y → y ≤ l → cnt c (y + 1) (l - y) < n) ∨ (b = false ∧ x = 0 ∧ ∀ y, y ≤ l → cnt c (y + 1) (l - y) < n)
theorem IsLat.unique {c : Nat → Bool} {l n x y : Nat} {a b : Bool} (h : IsLat c l n x a) (k : IsLat c l n y b) : x = y ∧ a = b := by
  rcases h with ⟨rfl, h1, h2, h3⟩ | ⟨rfl, rfl, h3⟩ <;> rcases k with ⟨rfl, k1, k2, k3⟩ | ⟨rfl, rfl, k3⟩
  · refine ⟨?_, rfl⟩
    rcases Nat.lt_trichotomy x y with h | h | h
    · have := h3 y h k1; omega
    · exact h
    · have := k3 x h h1; omega
  · have := k3 x h1; omega
  · have := h3 y k1; omega
  · exact ⟨rfl, rfl⟩
theorem lat_mono {c : Nat → Bool} {l x y : Nat} (h : x ≤ y) (hl : y ≤ l) : cnt c (y + 1) (l - y) ≤ cnt c (x + 1) (l - x) := by
  rw [show l - x = (y - x) + (l - y) by omega, cnt_add, show x + 1 + (y - x) = y + 1 by omega]
  omega
def Lat (p c : Nat → Bool) (d n x : Nat) (b : Bool) : Prop := ∃ y o, IsBef p d y o ∧ ((o = false ∧ x = 0 ∧ b = false) ∨ (o = true ∧ IsLat c y n x b))
theorem Lat.unique {p c : Nat → Bool} {d n x y : Nat} {a b : Bool} (h : Lat p c d n x a) (k : Lat p c d n y b) : x = y ∧ a = b := by
  obtain ⟨z, o, h1, h2⟩ := h
  obtain ⟨z2, o2, k1, k2⟩ := k
  obtain ⟨rfl, rfl⟩ := h1.unique k1
  rcases h2 with ⟨rfl, rfl, rfl⟩ | ⟨h3, h4⟩ <;> rcases k2 with ⟨k3, rfl, rfl⟩ | ⟨k3, k4⟩
  · exact ⟨rfl, rfl⟩
  · cases k3
  · rw [h3] at k3; cases k3
  · exact h4.unique k4
def Lt (f : Int) (F : List Int) (S : List (Int × Int)) (d t : Int) (x : Nat) (b : Bool) : Prop := (tcode f F S d [t] = 0 ∧ Lat (work f F) (count S) d.toNat t.toNat x b) ∨ (tcode f F S d [t] ≠ 0 ∧ x = 0 ∧ b = false)
theorem Lt.unique {f d t : Int} {F : List Int} {S : List (Int × Int)} {x y : Nat} {a b : Bool} (h : Lt f F S d t x a) (k : Lt f F S d t y b) : x = y ∧ a = b := by
  rcases h with ⟨h1, h2⟩ | ⟨h1, rfl, rfl⟩ <;> rcases k with ⟨k1, k2⟩ | ⟨k1, rfl, rfl⟩
  · exact h2.unique k2
  · exact absurd h1 k1
  · exact absurd k1 h1
  · exact ⟨rfl, rfl⟩
theorem lat_done {c : Nat → Bool} {l n : Nat} (h : ∀ p y, down l (l + 1) = p ++ [y] → q c p < n) : IsLat c l n 0 false := by
  have h1 := h _ _ (down_succ l l)
  rw [q_down c l l (by omega), show l + 1 - l = 0 + 1 by omega] at h1
  exact .inr ⟨rfl, rfl, fun y hy => Nat.lt_of_le_of_lt (lat_mono (Nat.zero_le y) hy) (by simpa using h1)⟩
theorem lat_stop {c : Nat → Bool} {l n k x : Nat} {p : List Nat} (hk : k ≤ l + 1) (he : p ++ [x] = down l k) (hq : q c p = n) (h : ∀ p' y, p = p' ++ [y] → q c p' < n) : IsLat c l n x true := by
  cases k with
  | zero => unfold down at he; simp at he
  | succ k =>
    rw [down_succ] at he
    obtain ⟨rfl, e2⟩ := List.append_inj' he rfl
    obtain rfl : x = l - k := by simpa using e2
    rw [q_down c l k (by omega)] at hq
    refine .inl ⟨rfl, by omega, by rw [show l - (l - k) = k by omega, show l - k + 1 = l + 1 - k by omega]; omega, fun y h1 h2 => ?_⟩
    have h3 := h (down l (k - 1)) (l - (k - 1)) (by rw [← down_succ, show k - 1 + 1 = k by omega])
    rw [q_down c l (k - 1) (by omega)] at h3
    have h4 := lat_mono (c := c) (x := l - (k - 1)) (y := y) (l := l) (by omega) h2
    rw [show l - (l - (k - 1)) = k - 1 by omega, show l - (k - 1) + 1 = l + 1 - (k - 1) by omega] at h4
    omega
end Tm
theorem heap4 (w : World) (A B C D : Obj) : ((((w.alloc A).alloc B).alloc C).alloc D).heap[w.heap.size]? = some A ∧ ((((w.alloc A).alloc B).alloc C).alloc D).heap[w.heap.size + 1]? = some B ∧ ((((w.alloc A).alloc B).alloc C).alloc D).heap[w.heap.size + 1 + 1]? = some C ∧ ((((w.alloc A).alloc B).alloc C).alloc D).heap[w.heap.size + 1 + 1 + 1]? = some D := by
  obtain ⟨a, b, c⟩ := heap3 w A B C
  have hs : (((w.alloc A).alloc B).alloc C).heap.size = w.heap.size + 3 := by simp
  have k : ∀ i o, i < w.heap.size + 3 → (((w.alloc A).alloc B).alloc C).heap[i]? = some o → ((((w.alloc A).alloc B).alloc C).alloc D).heap[i]? = some o := fun i o hi h => (Below.heap_alloc _ _ _ (by omega)).trans h
  refine ⟨k _ _ (by omega) a, k _ _ (by omega) b, k _ _ (by omega) c, ?_⟩
  have := World.alloc_heap_new (((w.alloc A).alloc B).alloc C) D
  rw [hs] at this
  exact this

set_option maxRecDepth 100000 in
set_option maxHeartbeats 4000000 in
theorem latest_any (d0 t0 : Nat) (f : Int) (F : List Int) (S : List (Int × Int)) (aoF : Option Addr) (nF cF : Nat) (aoS : Option Addr) (nS cS : Nat) (w : World) (hcl : Cl w aoF nF aoS nS F S) (h9 : nF ≤ 100000) (h8 : nS ≤ 100000) (hd : d0 ≤ 1000000) (ht : t0 ≤ 1000000) :
    Calls Try.prog 79 #[.agg #[.int .i64 f, .slice aoF nF cF, .slice aoS nS cS], .int .i64 d0, .int .i64 t0] w fun e w' => (∃ (x : Nat) (b : Bool), e = .returned (.tuple #[.int .i64 x, .bool b]) ∧ Tm.Lat (Tm.work f F) (Tm.count S) d0 t0 x b) ∧ Below w.heap.size w w' := by
  refine (callsIn_wide (n := 20)).1 ?_
  refine callsIn_of_wp_marks Try.func79 rfl trivial ?_ rfl
  simp only [Try.ntmps79, List.size_toArray, List.length_cons, List.length_nil, Nat.reduceAdd, Nat.reduceSub, Array.replicate_succ, Array.replicate_zero, List.push_toArray, List.append_toArray, List.nil_append, List.cons_append]
  have hw1 : ∀ f, Fence.wide.fn f = True := fun _ => rfl
  have hw2 : Fence.wide.depth.isSome = false := rfl
  have hA := (below_alloc3 w (.cells #[.int .i64 f, .slice aoF nF cF, .slice aoS nS cS] 71) (.cells #[.int .i64 (t0 : Nat)] 3) (.cells #[.int .i64 0] 3)).alloc (by simp; omega) (.cells #[.bool false] 4)
  obtain ⟨r0, r1, r2, r3⟩ := heap4 w (.cells #[.int .i64 f, .slice aoF nF cF, .slice aoS nS cS] 71) (.cells #[.int .i64 (t0 : Nat)] 3) (.cells #[.int .i64 0] 3) (.cells #[.bool false] 4)
  have hszW : ((((w.alloc (.cells #[.int .i64 f, .slice aoF nF cF, .slice aoS nS cS] 71)).alloc (.cells #[.int .i64 (t0 : Nat)] 3)).alloc (.cells #[.int .i64 0] 3)).alloc (.cells #[.bool false] 4)).heap.size = w.heap.size + 4 := by simp
  gi_wp2_with fail
  obtain ⟨W0, hW0⟩ : ∃ W0, W0 = (((w.alloc (.cells #[.int .i64 f, .slice aoF nF cF, .slice aoS nS cS] 71)).alloc (.cells #[.int .i64 (t0 : Nat)] 3)).alloc (.cells #[.int .i64 0] 3)).alloc (.cells #[.bool false] 4) := ⟨_, rfl⟩
  rw [← hW0] at hA r0 r1 r2 r3 hszW ⊢
  clear hW0
  have hclW : Cl W0 aoF nF aoS nS F S := hcl.below hA
  obtain ⟨m, hm⟩ : ∃ m, m = w.heap.size := ⟨_, rfl⟩
  have hmw : m ≤ w.heap.size := by omega
  have Hm := Lib.hid hm
  rw [← hm] at hA r0 r1 r2 r3 hszW ⊢
  clear hm
  refine (callsIn_wide.2 (before_any d0 f F S aoF nF cF aoS nS cS W0 hclW h9 hd)).mono ?_
  rintro e W1 ⟨⟨y, o, rfl, hB⟩, hb1⟩
  have HB := Lib.hid hB
  have hcl1 := hclW.below hb1
  have kr : ∀ i o, i < m + 4 → W0.heap[i]? = some o → W1.heap[i]? = some o := fun i o hi h => (hb1.block i (by omega)).trans h
  replace r0 := kr _ _ (by omega) r0
  replace r1 := kr _ _ (by omega) r1
  replace r2 := kr _ _ (by omega) r2
  replace r3 := kr _ _ (by omega) r3
  have hA1 := hA.trans (hb1.mono (by omega))
  have hs1 : m + 4 ≤ W1.heap.size := by have := hb1.size; omega
  clear hB kr hb1 hclW hszW hA
  cases o with
  | false =>
    obtain ⟨c2, f2⟩ := row_one r2
    obtain ⟨c3, f3⟩ := row_one r3
    gi_wp2_with fail
    have q2 := set_other (k := m + 1 + 1) (g := m + 1 + 1 + 1) (by omega) (set_one r2 (.int .i64 0)) (.bool false)
    have q3 := set_one (set_other (k := m + 1 + 1 + 1) (g := m + 1 + 1) (by omega) r3 (.int .i64 0)) (.bool false)
    have hB2 := below_setCell (g := m + 1 + 1 + 1) (o := 0) (below_setCell (g := m + 1 + 1) (o := 0) hA1 (by omega) (.int .i64 0)) (by omega) (.bool false)
    refine ⟨.tuple #[.int .i64 0, .bool false], ?_, ⟨⟨0, false, rfl, y, false, HB.out, .inl ⟨rfl, rfl, rfl⟩⟩, by rw [← Hm.out]; exact hB2⟩⟩
    simp [results, Try.f79, go_sem, (row_one q2).1, (row_one q3).1]
  | true =>
    have hyd : y ≤ d0 := by
      rcases HB.out with ⟨-, h, -⟩ | ⟨h, -⟩
      · exact h
      · cases h
    have hbk : CallsIn Fence.wide 19 Try.prog 98 #[.int .i64 (y : Nat)] W1 _ := callsIn_wide.2 (back_any (y : Int) W1)
    gi_wp2_with fail
    refine hbk.mono ?_
    clear hbk
    rintro e W2 ⟨rfl, hW2⟩
    have hb2 : Below W1.heap.size W1 W2 := by rw [hW2]; exact (Below.refl _ _).alloc (Nat.le_refl _) _
    have rB : W2.heap[W1.heap.size]? = some (.cells #[.int .i64 (y : Nat)] 3 (0, 0)) := by rw [hW2]; exact heap_alloc_new _ _
    have hs2 : W2.heap.size = W1.heap.size + 1 := by rw [hW2]; simp
    clear hW2
    obtain ⟨BD, hBD⟩ : ∃ b, b = W1.heap.size := ⟨_, rfl⟩
    rw [← hBD] at rB hs2 hs1 ⊢
    have kr : ∀ i o, i < m + 4 → W1.heap[i]? = some o → W2.heap[i]? = some o := fun i o hi h => (hb2.block i (by omega)).trans h
    replace r0 := kr _ _ (by omega) r0
    replace r1 := kr _ _ (by omega) r1
    replace r2 := kr _ _ (by omega) r2
    replace r3 := kr _ _ (by omega) r3
    have hcl2 := hcl1.below hb2
    have hA2 := hA1.trans (hb2.mono (by omega))
    have cB := (row_one rB).1
    clear kr hb2 hcl1 hA1 hBD rB
    have hq0 : Tm.q (Tm.count S) [] = 0 := rfl
    gi_wp2_with fail
    refine range_bounded rfl (by omega) (gf := 113) (lb := #[.pointer (some ⟨BD, 0, none⟩)]) rfl trivial (enters_of Try.func113 (by kernel_rfl) rfl) (back_seq _ BD y (fun _ _ => True) W2 (by omega) cB (by omega)) (fun _ _ => trivial) (fun V o o' _ _ => trivial) (Below.refl _ _) (fun _ => rfl)
      (fun pre V => Tm.q (Tm.count S) pre ≤ t0 ∧ ((∀ p z, pre = p ++ [z] → Tm.q (Tm.count S) p < t0) ∧ (V.heap[m]? = some (.cells #[.int .i64 f, .slice aoF nF cF, .slice aoS nS cS] 71 (0, 0)) ∧ (V.heap[m + 1]? = some (.cells #[.int .i64 ((t0 - Tm.q (Tm.count S) pre : Nat) : Int)] 3 (0, 0)) ∧ (V.heap[m + 1 + 1]? = some (.cells #[.int .i64 0] 3 (0, 0)) ∧ (V.heap[m + 1 + 1 + 1]? = some (.cells #[.bool false] 4 (0, 0)) ∧ Below m w V))))))
      (fun pre V => (∃ p x, pre = p ++ [x] ∧ Tm.q (Tm.count S) p = t0 ∧ (∀ p' z, p = p' ++ [z] → Tm.q (Tm.count S) p' < t0) ∧ V.heap[m + 1 + 1]? = some (.cells #[.int .i64 (x : Nat)] 3 (0, 0))) ∧ (V.heap[m + 1 + 1 + 1]? = some (.cells #[.bool true] 4 (0, 0)) ∧ Below m w V))
      ?hI ?hIx (fun pre V h => trivial) ⟨by rw [hq0]; omega, fun p z h => by simp at h, r0, by rw [hq0]; exact r1, r2, r3, hA2⟩
      (fun x => { tmps := #[.agg #[.int .i64 f, .slice aoF nF cF, .slice aoS nS cS], .int .i64 d0, .int .i64 t0, .pointer (some ⟨m, 0, none⟩), undef, .pointer (some ⟨m + 1, 0, none⟩), .pointer (some ⟨m + 1 + 1, 0, none⟩), .pointer (some ⟨m + 1 + 1 + 1, 0, none⟩), .int .i64 y, .bool true, .int .i64 x, .tuple #[.int .i64 y, .bool true], .agg #[.int .i64 f, .slice aoF nF cF, .slice aoS nS cS], .int .i64 d0, .tuple #[.int .i64 y, .bool true], .int .i64 y, .bool true, .bool true, .bool false, .int .i64 y, .func (.func 113) #[] #[.pointer (some ⟨BD, 0, none⟩)], .int .i64 x, undef, undef, undef, undef, undef, undef, undef, undef], defers := [] }) ?assign ?body ?done ?stop
    case hI =>
      exact OwnFrom.and (fun _ _ _ _ hs _ _ => hs) (OwnFrom.and (fun _ _ _ _ hs _ _ => hs) (OwnFrom.and (own_rowAt (by omega)) (OwnFrom.and (fun s W W' row hs hg hr => own_rowAt (B := W2.heap.size) (by omega) s W W' row hs hg hr) (OwnFrom.and (own_rowAt (by omega)) (OwnFrom.and (own_rowAt (by omega)) (own_below2 (by omega) hmw))))))
    case hIx =>
      refine OwnFrom.and (fun s W W' row hs hg hr => ?_) (OwnFrom.and (own_rowAt (by omega)) (own_below2 (by omega) hmw))
      obtain ⟨p, d, e1, e2, e3, e4⟩ := hs
      exact ⟨p, d, e1, e2, e3, own_rowAt (β := Unit) (B := W2.heap.size) (by omega) () W W' row e4 hg hr⟩
    case assign =>
      intro lr x V K hK
      unfold dayV
      gi_wp2
      exact hK
    case body =>
      rintro lr pre x V hlr - ⟨hp, hnp, q0, q1, q2, q3, hB⟩
      have e0 := cell_of_row V m 0 _ _ _ q0
      have e1 := cell_of_row V m 1 _ _ _ q0
      have e2 := cell_of_row V m 2 _ _ _ q0
      simp at e0 e1 e2
      obtain ⟨c2, f2⟩ := row_one q2
      obtain ⟨c3, f3⟩ := row_one q3
      have hw3 : ∀ f, (Fence.wide.inRound lr).fn f = True := fun _ => rfl
      have hw4 : (Fence.wide.inRound lr).depth.isSome = false := rfl
      have hclV := hcl.below (w' := V) (by rw [← Hm.out]; exact hB)
      have hx1 := Tm.q_snoc (Tm.count S) pre x
      have hlt := heap_lt q3
      obtain ⟨k, hk⟩ : ∃ k : Nat, k = t0 - Tm.q (Tm.count S) pre := ⟨_, rfl⟩
      rw [← hk] at q1
      have Hk := Lib.hid hk
      clear hk
      by_cases h0 : k = 0
      · have hq : Tm.q (Tm.count S) pre = t0 := by have := Hk.out; omega
        subst h0
        rw [show ((0 : Nat) : Int) = 0 from rfl] at q1
        obtain ⟨c1, f1⟩ := row_one q1
        clear Hk hx1
        gi_wp2
        exact ⟨((KeepsOthers.setCell _ _ _).trans (KeepsOthers.setCell _ _ _)).from _, trivial, ⟨pre, x, rfl, hq, hnp, set_other (by omega) (set_one q2 _) _⟩, set_one (set_other (by omega) q3 _) _, below_setCell (below_setCell hB (by omega) _) (by omega) _⟩
      · have hne : ((k : Int) == 0) = false := by simp; omega
        obtain ⟨c1, f1⟩ := row_one q1
        have hkb : k ≤ 1000000 := by have := Hk.out; omega
        have hnp2 : ∀ p z, pre ++ [x] = p ++ [z] → Tm.q (Tm.count S) p < t0 := fun p z h => by
          obtain ⟨rfl, -⟩ := List.append_inj' h rfl
          have := Hk.out
          omega
        have hIs := isCounting_any f F S x aoF nF cF aoS nS cS V hclV h8
        rw [show (!Tm.still S (x : Int)) = Tm.count S x from rfl] at hIs
        obtain ⟨bv, hbv⟩ : ∃ b, Tm.count S x = b := ⟨_, rfl⟩
        rw [hbv] at hIs hx1
        clear hbv hclV
        gi_wp2_with fail
        refine (CallsIn.inRound lr (callsIn_wide.2 hIs)).mono ?_
        clear hIs
        rintro e V2 ⟨rfl, hb2⟩
        have kr : ∀ i o, i < m + 4 → V.heap[i]? = some o → V2.heap[i]? = some o := fun i o hi h => (hb2.block i (by omega)).trans h
        replace q0 := kr _ _ (by omega) q0
        replace q1 := kr _ _ (by omega) q1
        replace q2 := kr _ _ (by omega) q2
        replace q3 := kr _ _ (by omega) q3
        have hB2 := hB.trans (hb2.mono (by omega))
        clear e0 e1 e2 c1 c2 c3 f1 f2 f3 kr
        obtain ⟨c1, f1⟩ := row_one q1
        cases bv with
        | true =>
          have hval : Hid (((t0 - Tm.q (Tm.count S) (pre ++ [x]) : Nat) : Int) = (k : Int) - 1) := Lib.hid (by rw [hx1]; simp; have := Hk.out; omega)
          have hle : Tm.q (Tm.count S) (pre ++ [x]) ≤ t0 := by rw [hx1]; simp; have := Hk.out; omega
          gi_wp2
          refine ⟨(keepsFrom_below hb2).trans ((KeepsOthers.setCell _ _ _).from _), trivial, hle, hnp2, set_other (by omega) q0 _, ?_, set_other (by omega) q2 _, set_other (by omega) q3 _, below_setCell hB2 (by omega) _⟩
          rw [hval.out]
          exact set_one q1 _
        | false =>
          have hx2 : Tm.q (Tm.count S) (pre ++ [x]) = Tm.q (Tm.count S) pre := by rw [hx1]; simp
          gi_wp2
          refine ⟨keepsFrom_below hb2, trivial, by rw [hx2]; exact hp, hnp2, q0, ?_, q2, q3, hB2⟩
          rw [hx2, ← Hk.out]
          exact q1
    case done =>
      rintro D xs V hD hS ⟨hp, hnp, q0, q1, q2, q3, hB⟩ hK
      subst hS
      have hl := Tm.lat_done hnp
      obtain ⟨c2, f2⟩ := row_one q2
      obtain ⟨c3, f3⟩ := row_one q3
      gi_wp2
      have q2' := set_other (k := m + 1 + 1) (g := m + 1 + 1 + 1) (by omega) (set_one q2 (.int .i64 0)) (.bool false)
      have q3' := set_one (set_other (k := m + 1 + 1 + 1) (g := m + 1 + 1) (by omega) q3 (.int .i64 0)) (.bool false)
      have hB' := below_setCell (g := m + 1 + 1 + 1) (o := 0) (below_setCell (g := m + 1 + 1) (o := 0) hB (by omega) (.int .i64 0)) (by omega) (.bool false)
      have hK' := ((KeepsOthers.setCell V ⟨m + 1 + 1, 0, none⟩ (.int .i64 0)).trans (KeepsOthers.setCell _ ⟨m + 1 + 1 + 1, 0, none⟩ (.bool false))).same D _ hK rfl
      refine ⟨by simp, .inl ⟨_, _, rfl, run_takeDeferred hK', ?_⟩⟩
      have c5 := cell_kept (row_one q2').1 (grownBy_putObj' _ D (.deferred none)) (fun r e => by cases e; exact ⟨_, hK', rfl⟩)
      have c6 := cell_kept (row_one q3').1 (grownBy_putObj' _ D (.deferred none)) (fun r e => by cases e; exact ⟨_, hK', rfl⟩)
      refine ⟨.tuple #[.int .i64 0, .bool false], ?_, ⟨⟨0, false, rfl, y, true, HB.out, .inr ⟨rfl, hl⟩⟩, by rw [← Hm.out]; exact hB'.grown (grownBy_putObj' _ D (.deferred none)) (by have := hB'.size; omega) (fun k e => by cases e; omega)⟩⟩
      simp [results, Try.f79, go_sem, c5, c6]
    case stop =>
      rintro D pre V hD ⟨k, hk, hSp⟩ ⟨⟨p, x, rfl, hq, hnp, q2⟩, q3, hB⟩ hK
      have hl := Tm.lat_stop hk hSp hq hnp
      gi_wp2
      refine ⟨by simp, .inl ⟨_, _, rfl, run_takeDeferred hK, ?_⟩⟩
      have c5 := cell_kept (row_one q2).1 (grownBy_putObj' _ D (.deferred none)) (fun r e => by cases e; exact ⟨_, hK, rfl⟩)
      have c6 := cell_kept (row_one q3).1 (grownBy_putObj' _ D (.deferred none)) (fun r e => by cases e; exact ⟨_, hK, rfl⟩)
      refine ⟨.tuple #[.int .i64 (x : Nat), .bool true], ?_, ⟨⟨x, true, rfl, y, true, HB.out, .inr ⟨rfl, hl⟩⟩, by rw [← Hm.out]; exact hB.grown (grownBy_putObj' _ D (.deferred none)) (by have := hB.size; omega) (fun k e => by cases e; omega)⟩⟩
      simp [results, Try.f79, go_sem, c5, c6]
end Go.Proofs.Ytmdkdkiejcjmaaa
