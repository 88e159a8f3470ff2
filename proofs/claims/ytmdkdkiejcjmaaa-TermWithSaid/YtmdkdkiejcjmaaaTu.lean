import Derived.Test.YtmdkdkiejcjmaaaTh
import Derived.Test.YtmdkdkiejcjmaaaTj
/- Package term: only, in a window of three blocks. -/
namespace Go.Proofs.Ytmdkdkiejcjmaaa
open Go.RowKit Go.Shelf

attribute [local go_sem] Oper.semAt_some

/-- All blocks but three from block m on lie as they lay. -/
structure KY (m : Nat) (W W' : World) : Prop where
  size : W.heap.size ≤ W'.heap.size
  same : ∀ k, k < W.heap.size → ¬(m ≤ k ∧ k < m + 3) → W'.heap[k]? = W.heap[k]?
theorem KY.refl (m : Nat) (W : World) : KY m W W := ⟨Nat.le_refl _, fun _ _ _ => rfl⟩
theorem KY.trans {m : Nat} {A B C : World} (h : KY m A B) (k : KY m B C) : KY m A C :=
  ⟨Nat.le_trans h.size k.size, fun i hi hx => (k.same i (Nat.lt_of_lt_of_le hi h.size) hx).trans (h.same i hi hx)⟩
theorem KY.below {m : Nat} {W W' : World} (h : Below W.heap.size W W') : KY m W W' := ⟨h.size, fun k hk _ => h.block k hk⟩
theorem KY.put {m L : Nat} (hL : m ≤ L ∧ L < m + 3) (W : World) (o' : Obj) : KY m W (W.putObj L o') := by
  have hg := grownBy_putObj' W L o'
  exact ⟨hg.size, fun k hk hx => hg.block k hk (fun e => by cases e; exact hx hL)⟩
theorem KY.row {m k : Nat} {W W' : World} {o : Obj} (h : KY m W W') (hx : ¬(m ≤ k ∧ k < m + 3)) (hk : W.heap[k]? = some o) : W'.heap[k]? = some o :=
  (h.same k (Array.getElem?_eq_some_iff.1 hk).1 hx).trans hk
theorem KY.cell {m b o : Nat} {W W' : World} {v : Value} (h : KY m W W') (hx : ¬(m ≤ b ∧ b < m + 3)) (hc : W.cell? ⟨b, o, none⟩ = some v) : W'.cell? ⟨b, o, none⟩ = some v := by
  obtain ⟨cs, t, fr, hb, hv⟩ := cell_block hc
  rw [cell_of_row W' b o cs t fr (h.row hx hb)]
  exact hv
theorem KY.km {m : Nat} {W W' : World} (h : KY m W W') : KM m W W' := fun b o v hb hc => h.cell (by omega) hc
theorem Cl.ky {m : Nat} {w W W' : World} {aoF aoS : Option Addr} {nF nS : Nat} {F : List Int} {S : List (Int × Int)} (h : Cl w aoF nF aoS nS F S) (hm : w.heap.size ≤ m) (hb : Below w.heap.size w W) (hk : KY m W W') : Cl W' aoF nF aoS nS F S := by
  refine ⟨⟨fun h0 => ?_⟩, ⟨fun h0 => ?_⟩, h.nf, h.ns⟩
  · obtain ⟨b, off, e, hlt, hc⟩ := h.hF.cells h0
    refine ⟨b, off, e, by have := hb.size; have := hk.size; omega, fun i hi => ?_⟩
    exact hk.cell (by omega) (keep_cell hb (hc i hi))
  · obtain ⟨b, off, e, hlt, hc⟩ := h.hS.cells h0
    refine ⟨b, off, e, by have := hb.size; have := hk.size; omega, fun i hi => ?_⟩
    exact ⟨hk.cell (by omega) (keep_cell hb (hc i hi).1), hk.cell (by omega) (keep_cell hb (hc i hi).2)⟩
theorem ownFrom_ky {β : Type} (m : Nat) (W0 : World) : OwnFrom W0.heap.size (fun (_ : β) W => KY m W0 W) :=
  fun _ _ _ _ hs hg hr => ⟨Nat.le_trans hs.size hg.size, fun k hk hx => (hg.block k (Nat.lt_of_lt_of_le hk hs.size) (fun e => by have := (hr k e.symm).1; omega)).trans (hs.same k hk hx)⟩
theorem keepsFrom_ky {B m : Nat} {W W' : World} (hB : m + 3 ≤ B) (h : KY m W W') : KeepsFrom B W W' := ⟨h.size, fun k o hl hk _ => h.row (by omega) hk⟩
set_option maxRecDepth 100000 in
set_option maxHeartbeats 4000000 in
theorem onlyW_seq3 (n m BD BI gd : Nat) (lbd : Array Value) (eg : ∀ args w, (callFunc gd args).run Try.prog w = .ok (.enter gd args) w) (Sd Sdp Bdd : List Nat → Prop) (hn : 8 ≤ n)
    (f : Int) (F : List Int) (S : List (Int × Int)) (aoF : Option Addr) (nF cF : Nat) (aoS : Option Addr) (nS cS : Nat) (w0 w : World) (hm0 : w0.heap.size ≤ m) (hw0 : Below w0.heap.size w0 w) (hm : m + 1 ≤ w.heap.size) (hcl : Cl w0 aoF nF aoS nS F S) (h9 : nF ≤ 100000)
    (hmD : BD < m) (hmI : BI < m) (hBD : w.cell? ⟨BD, 0, none⟩ = some (.func (.func gd) #[] lbd)) (hBI : w.cell? ⟨BI, 0, none⟩ = some (.func (.func 73) #[.agg #[.int .i64 f, .slice aoF nF cF, .slice aoS nS cS]] #[]))
    (hin : ∀ k, SeqB Fence.wide k Try.prog gd lbd dayV (KM m) Sd Sdp Bdd w) (Bd : List Nat → Prop) (hBd : ∀ xs, Bd (xs.filter (Tm.work f F)) → Bdd xs) :
    SeqB Fence.wide n Try.prog 99 #[.pointer (some ⟨BD, 0, none⟩), .pointer (some ⟨BI, 0, none⟩)] dayV (KY m) (fun ys => ∃ xs, Sd xs ∧ ys = xs.filter (Tm.work f F)) (fun ys => ∃ xs, Sdp xs ∧ ys = xs.filter (Tm.work f F)) Bd w := by
  intro l J Jx W hW hW2 hJ hJx hBJ hY h0
  have cD := keep_cell8 hW (by omega) hBD
  have cI := keep_cell8 hW (by omega) hBI
  have hsW := hW.size
  refine callsIn_of_wp_marks Try.func99 rfl trivial ?_ rfl
  simp only [Try.ntmps99, List.size_toArray, List.length_cons, List.length_nil, Nat.reduceAdd, Nat.reduceSub, Array.replicate_succ, Array.replicate_zero, List.push_toArray, List.append_toArray, List.nil_append, List.cons_append]
  have hw1 : ∀ f, Fence.wide.fn f = True := fun _ => rfl
  have hw2 : Fence.wide.depth.isSome = false := rfl
  have hA := (Below.refl _ W).alloc (Nat.le_refl _) (.cells #[.func (.yield l) #[] #[]] 74)
  have rY := heap_alloc_new W (.cells #[.func (.yield l) #[] #[]] 74)
  have cD1 := keep_cell hA cD
  have cI1 := keep_cell hA cI
  gi_wp2
  obtain ⟨W1, hW1⟩ : ∃ W1, W1 = W.alloc (.cells #[.func (.yield l) #[] #[]] 74) := ⟨_, rfl⟩
  rw [← hW1] at hA rY cD1 cI1 ⊢
  clear hW1
  obtain ⟨BY, hBY⟩ : ∃ b, b = W.heap.size := ⟨_, rfl⟩
  rw [← hBY] at rY ⊢
  have hmY : m + 3 ≤ BY := by omega
  have hJ1 : J [] W1 := own_step hJ h0 hA
  have hs1 := hA.size
  have hw01 : Below w0.heap.size w0 W1 := hw0.trans ((hW.trans (hA.mono hsW)).mono hw0.size)
  have hs1Y : m + 3 ≤ W1.heap.size := by omega
  clear hBY
  refine range_bounded rfl (by omega) (gf := gd) (lb := lbd) rfl trivial eg (hin _) KM.trans (fun V o o' h hc => KM.put V o' h hc) (hW.trans (hA.mono hsW)) (fun _ => rfl)
    (fun xs V => J (xs.filter (Tm.work f F)) V ∧ KY m W1 V) (fun xs V => Jx (xs.filter (Tm.work f F)) V)
    (OwnFrom.and (own_on (own_up hJ hs1) _) (ownFrom_ky m W1)) (own_on (own_up hJx hs1) _) (fun xs V h => hBd xs (hBJ _ _ h.1)) ⟨hJ1, KY.refl _ _⟩
    (fun x => { tmps := #[.func (.yield l) #[] #[], .pointer (some ⟨BD, 0, none⟩), .pointer (some ⟨BI, 0, none⟩), .pointer (some ⟨BY, 0, none⟩), .int .i64 x, .func (.func gd) #[] lbd, .int .i64 x, undef, undef, undef, undef, undef, undef, undef, undef, undef], defers := [] }) ?assign ?body ?done ?stop
  case assign =>
    intro lr x V K hK
    unfold dayV
    gi_wp2
    exact hK
  case body =>
    rintro lr xs x V hlr - ⟨hJV, hKV⟩
    have cIV := hKV.cell (by omega) cI1
    have cYV := cell_of_row V BY 0 _ _ _ (hKV.row (by omega) rY)
    simp at cYV
    have hclV := hcl.ky hm0 hw01 hKV
    have hw3 : ∀ f, (Fence.wide.inRound lr).fn f = True := fun _ => rfl
    have hw4 : (Fence.wide.inRound lr).depth.isSome = false := rfl
    have hIs := isWorking_any f F S x aoF nF cF aoS nS cS V hclV h9
    rw [show (!Tm.free f F (x : Int)) = Tm.work f F x from rfl] at hIs
    obtain ⟨bv, hbv⟩ : ∃ b, Tm.work f F x = b := ⟨_, rfl⟩
    rw [hbv] at hIs
    gi_wp2_with fail
    refine (CallsIn.inRound lr (callsIn_wide.2 hIs)).mono ?_
    rintro e V2 ⟨rfl, hb2⟩
    have hJ2 := own_step hJ hJV hb2
    have hK2 := hKV.trans (KY.below hb2)
    have cY2 := cell_of_row V2 BY 0 _ _ _ (hK2.row (by omega) rY)
    simp at cY2
    cases bv with
    | true =>
      obtain ⟨fn, tmps, assign, body, hy, hR⟩ := hY _ x V2 hJ2
      unfold dayV at hy
      rw [← filter_yes hbv] at hR
      clear hIs cIV cYV
      gi_wp2
      refine (roundIn_in hR).mono ?_
      rintro e V3 (⟨rfl, h3, hk3⟩ | ⟨rfl, h3, hk3⟩)
      · gi_wp2
        exact ⟨(keepsFrom_below hb2).trans (keepsFrom_ky hs1Y hk3), KM.trans (KY.below hb2).km hk3.km, h3, hK2.trans hk3⟩
      · gi_wp2
        exact ⟨(keepsFrom_below hb2).trans (keepsFrom_ky hs1Y hk3), KM.trans (KY.below hb2).km hk3.km, h3⟩
    | false =>
      rw [← filter_no hbv] at hJ2
      clear hIs cIV cYV
      gi_wp2
      exact ⟨keepsFrom_below hb2, (KY.below hb2).km, hJ2, hK2⟩
  case done =>
    rintro D xs V hD hS ⟨hJV, -⟩ hK
    gi_wp2
    refine ⟨by simp, .inl ⟨_, _, rfl, run_takeDeferred hK, ?_⟩⟩
    have hJD := own_up hJ (show W.heap.size ≤ W.heap.size from Nat.le_refl _) _ V (V.putObj D (.deferred none)) (some D) hJV (grownBy_putObj' V D (.deferred none)) (fun r e => by cases e; exact ⟨by omega, _, hK, rfl⟩)
    refine ⟨_, results_none rfl _ _ _, ⟨_, rfl⟩, .inl ⟨_, ⟨xs, hS, rfl⟩, hJD⟩⟩
  case stop =>
    rintro D xs V hD hS hJV hK
    gi_wp2
    refine ⟨by simp, .inl ⟨_, _, rfl, run_takeDeferred hK, ?_⟩⟩
    have hJD := own_up hJx (show W.heap.size ≤ W.heap.size from Nat.le_refl _) _ V (V.putObj D (.deferred none)) (some D) hJV (grownBy_putObj' V D (.deferred none)) (fun r e => by cases e; exact ⟨by omega, _, hK, rfl⟩)
    refine ⟨_, results_none rfl _ _ _, ⟨_, rfl⟩, .inr ⟨_, ⟨xs, hS, rfl⟩, hJD⟩⟩

set_option maxRecDepth 100000 in
set_option maxHeartbeats 4000000 in
theorem onlyC_seq3 (n m BD BI gd : Nat) (lbd : Array Value) (eg : ∀ args w, (callFunc gd args).run Try.prog w = .ok (.enter gd args) w) (Sd Sdp Bdd : List Nat → Prop) (hn : 8 ≤ n)
    (f : Int) (F : List Int) (S : List (Int × Int)) (aoF : Option Addr) (nF cF : Nat) (aoS : Option Addr) (nS cS : Nat) (w0 w : World) (hm0 : w0.heap.size ≤ m) (hw0 : Below w0.heap.size w0 w) (hm : m + 1 ≤ w.heap.size) (hcl : Cl w0 aoF nF aoS nS F S) (h9 : nS ≤ 100000)
    (hmD : BD < m) (hmI : BI < m) (hBD : w.cell? ⟨BD, 0, none⟩ = some (.func (.func gd) #[] lbd)) (hBI : w.cell? ⟨BI, 0, none⟩ = some (.func (.func 74) #[.agg #[.int .i64 f, .slice aoF nF cF, .slice aoS nS cS]] #[]))
    (hin : ∀ k, SeqB Fence.wide k Try.prog gd lbd dayV (KM m) Sd Sdp Bdd w) (Bd : List Nat → Prop) (hBd : ∀ xs, Bd (xs.filter (Tm.count S)) → Bdd xs) :
    SeqB Fence.wide n Try.prog 99 #[.pointer (some ⟨BD, 0, none⟩), .pointer (some ⟨BI, 0, none⟩)] dayV (KY m) (fun ys => ∃ xs, Sd xs ∧ ys = xs.filter (Tm.count S)) (fun ys => ∃ xs, Sdp xs ∧ ys = xs.filter (Tm.count S)) Bd w := by
  intro l J Jx W hW hW2 hJ hJx hBJ hY h0
  have cD := keep_cell8 hW (by omega) hBD
  have cI := keep_cell8 hW (by omega) hBI
  have hsW := hW.size
  refine callsIn_of_wp_marks Try.func99 rfl trivial ?_ rfl
  simp only [Try.ntmps99, List.size_toArray, List.length_cons, List.length_nil, Nat.reduceAdd, Nat.reduceSub, Array.replicate_succ, Array.replicate_zero, List.push_toArray, List.append_toArray, List.nil_append, List.cons_append]
  have hw1 : ∀ f, Fence.wide.fn f = True := fun _ => rfl
  have hw2 : Fence.wide.depth.isSome = false := rfl
  have hA := (Below.refl _ W).alloc (Nat.le_refl _) (.cells #[.func (.yield l) #[] #[]] 74)
  have rY := heap_alloc_new W (.cells #[.func (.yield l) #[] #[]] 74)
  have cD1 := keep_cell hA cD
  have cI1 := keep_cell hA cI
  gi_wp2
  obtain ⟨W1, hW1⟩ : ∃ W1, W1 = W.alloc (.cells #[.func (.yield l) #[] #[]] 74) := ⟨_, rfl⟩
  rw [← hW1] at hA rY cD1 cI1 ⊢
  clear hW1
  obtain ⟨BY, hBY⟩ : ∃ b, b = W.heap.size := ⟨_, rfl⟩
  rw [← hBY] at rY ⊢
  have hmY : m + 3 ≤ BY := by omega
  have hJ1 : J [] W1 := own_step hJ h0 hA
  have hs1 := hA.size
  have hw01 : Below w0.heap.size w0 W1 := hw0.trans ((hW.trans (hA.mono hsW)).mono hw0.size)
  have hs1Y : m + 3 ≤ W1.heap.size := by omega
  clear hBY
  refine range_bounded rfl (by omega) (gf := gd) (lb := lbd) rfl trivial eg (hin _) KM.trans (fun V o o' h hc => KM.put V o' h hc) (hW.trans (hA.mono hsW)) (fun _ => rfl)
    (fun xs V => J (xs.filter (Tm.count S)) V ∧ KY m W1 V) (fun xs V => Jx (xs.filter (Tm.count S)) V)
    (OwnFrom.and (own_on (own_up hJ hs1) _) (ownFrom_ky m W1)) (own_on (own_up hJx hs1) _) (fun xs V h => hBd xs (hBJ _ _ h.1)) ⟨hJ1, KY.refl _ _⟩
    (fun x => { tmps := #[.func (.yield l) #[] #[], .pointer (some ⟨BD, 0, none⟩), .pointer (some ⟨BI, 0, none⟩), .pointer (some ⟨BY, 0, none⟩), .int .i64 x, .func (.func gd) #[] lbd, .int .i64 x, undef, undef, undef, undef, undef, undef, undef, undef, undef], defers := [] }) ?assign ?body ?done ?stop
  case assign =>
    intro lr x V K hK
    unfold dayV
    gi_wp2
    exact hK
  case body =>
    rintro lr xs x V hlr - ⟨hJV, hKV⟩
    have cIV := hKV.cell (by omega) cI1
    have cYV := cell_of_row V BY 0 _ _ _ (hKV.row (by omega) rY)
    simp at cYV
    have hclV := hcl.ky hm0 hw01 hKV
    have hw3 : ∀ f, (Fence.wide.inRound lr).fn f = True := fun _ => rfl
    have hw4 : (Fence.wide.inRound lr).depth.isSome = false := rfl
    have hIs := isCounting_any f F S x aoF nF cF aoS nS cS V hclV h9
    rw [show (!Tm.still S (x : Int)) = Tm.count S x from rfl] at hIs
    obtain ⟨bv, hbv⟩ : ∃ b, Tm.count S x = b := ⟨_, rfl⟩
    rw [hbv] at hIs
    gi_wp2_with fail
    refine (CallsIn.inRound lr (callsIn_wide.2 hIs)).mono ?_
    rintro e V2 ⟨rfl, hb2⟩
    have hJ2 := own_step hJ hJV hb2
    have hK2 := hKV.trans (KY.below hb2)
    have cY2 := cell_of_row V2 BY 0 _ _ _ (hK2.row (by omega) rY)
    simp at cY2
    cases bv with
    | true =>
      obtain ⟨fn, tmps, assign, body, hy, hR⟩ := hY _ x V2 hJ2
      unfold dayV at hy
      rw [← filter_yes hbv] at hR
      clear hIs cIV cYV
      gi_wp2
      refine (roundIn_in hR).mono ?_
      rintro e V3 (⟨rfl, h3, hk3⟩ | ⟨rfl, h3, hk3⟩)
      · gi_wp2
        exact ⟨(keepsFrom_below hb2).trans (keepsFrom_ky hs1Y hk3), KM.trans (KY.below hb2).km hk3.km, h3, hK2.trans hk3⟩
      · gi_wp2
        exact ⟨(keepsFrom_below hb2).trans (keepsFrom_ky hs1Y hk3), KM.trans (KY.below hb2).km hk3.km, h3⟩
    | false =>
      rw [← filter_no hbv] at hJ2
      clear hIs cIV cYV
      gi_wp2
      exact ⟨keepsFrom_below hb2, (KY.below hb2).km, hJ2, hK2⟩
  case done =>
    rintro D xs V hD hS ⟨hJV, -⟩ hK
    gi_wp2
    refine ⟨by simp, .inl ⟨_, _, rfl, run_takeDeferred hK, ?_⟩⟩
    have hJD := own_up hJ (show W.heap.size ≤ W.heap.size from Nat.le_refl _) _ V (V.putObj D (.deferred none)) (some D) hJV (grownBy_putObj' V D (.deferred none)) (fun r e => by cases e; exact ⟨by omega, _, hK, rfl⟩)
    refine ⟨_, results_none rfl _ _ _, ⟨_, rfl⟩, .inl ⟨_, ⟨xs, hS, rfl⟩, hJD⟩⟩
  case stop =>
    rintro D xs V hD hS hJV hK
    gi_wp2
    refine ⟨by simp, .inl ⟨_, _, rfl, run_takeDeferred hK, ?_⟩⟩
    have hJD := own_up hJx (show W.heap.size ≤ W.heap.size from Nat.le_refl _) _ V (V.putObj D (.deferred none)) (some D) hJV (grownBy_putObj' V D (.deferred none)) (fun r e => by cases e; exact ⟨by omega, _, hK, rfl⟩)
    refine ⟨_, results_none rfl _ _ _, ⟨_, rfl⟩, .inr ⟨_, ⟨xs, hS, rfl⟩, hJD⟩⟩
end Go.Proofs.Ytmdkdkiejcjmaaa
