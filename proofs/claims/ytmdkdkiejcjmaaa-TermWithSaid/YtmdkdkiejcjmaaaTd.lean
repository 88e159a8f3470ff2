import Derived.Test.YtmdkdkiejcjmaaaTb
import Derived.Test.YtmdkdkiejcjmaaaTc
/- Package term: only, over any iterator of days. -/
namespace Go.Proofs.Ytmdkdkiejcjmaaa
open Go.RowKit Go.Shelf

attribute [local go_sem] Oper.semAt_some

/-- All blocks but five from block m on lie as they lay. -/
structure KX (m : Nat) (W W' : World) : Prop where
  size : W.heap.size ≤ W'.heap.size
  same : ∀ k, k < W.heap.size → ¬(m ≤ k ∧ k < m + 5) → W'.heap[k]? = W.heap[k]?
theorem KX.refl (m : Nat) (W : World) : KX m W W := ⟨Nat.le_refl _, fun _ _ _ => rfl⟩
theorem KX.trans {m : Nat} {A B C : World} (h : KX m A B) (k : KX m B C) : KX m A C :=
  ⟨Nat.le_trans h.size k.size, fun i hi hx => (k.same i (Nat.lt_of_lt_of_le hi h.size) hx).trans (h.same i hi hx)⟩
theorem KX.below {m : Nat} {W W' : World} (h : Below W.heap.size W W') : KX m W W' := ⟨h.size, fun k hk _ => h.block k hk⟩
theorem KX.put {m L : Nat} (hL : m ≤ L ∧ L < m + 5) (W : World) (o' : Obj) : KX m W (W.putObj L o') := by
  have hg := grownBy_putObj' W L o'
  exact ⟨hg.size, fun k hk hx => hg.block k hk (fun e => by cases e; exact hx hL)⟩
theorem KX.row {m k : Nat} {W W' : World} {o : Obj} (h : KX m W W') (hx : ¬(m ≤ k ∧ k < m + 5)) (hk : W.heap[k]? = some o) : W'.heap[k]? = some o :=
  (h.same k (Array.getElem?_eq_some_iff.1 hk).1 hx).trans hk
theorem cell_block {W : World} {b o : Nat} {v : Value} (h : W.cell? ⟨b, o, none⟩ = some v) : ∃ cs t fr, W.heap[b]? = some (.cells cs t fr) ∧ cs[o]? = some v := by
  unfold World.cell? at h
  simp only at h
  split at h
  · rename_i cs t fr hb
    exact ⟨cs, t, fr, hb, h⟩
  · cases h
theorem KX.cell {m b o : Nat} {W W' : World} {v : Value} (h : KX m W W') (hx : ¬(m ≤ b ∧ b < m + 5)) (hc : W.cell? ⟨b, o, none⟩ = some v) : W'.cell? ⟨b, o, none⟩ = some v := by
  obtain ⟨cs, t, fr, hb, hv⟩ := cell_block hc
  rw [cell_of_row W' b o cs t fr (h.row hx hb)]
  exact hv
/-- The cells of the blocks below m hold what they held. -/
def KM (m : Nat) (W W' : World) : Prop := ∀ b o v, b < m → W.cell? ⟨b, o, none⟩ = some v → W'.cell? ⟨b, o, none⟩ = some v
theorem KM.trans {m : Nat} {A B C : World} (h : KM m A B) (k : KM m B C) : KM m A C := fun b o v hb hc => k b o v hb (h b o v hb hc)
theorem KM.put {m L : Nat} {o : Obj} (W : World) (o' : Obj) (h : W.heap[L]? = some o) (hc : o.isCells = false) : KM m W (W.putObj L o') := fun b i v _ hv =>
  cell_kept hv (grownBy_putObj' W L o') (fun r e => by cases e; exact ⟨o, h, hc⟩)
theorem KX.km {m : Nat} {W W' : World} (h : KX m W W') : KM m W W' := fun b o v hb hc => h.cell (by omega) hc
theorem Cl.kx {m : Nat} {w W W' : World} {aoF aoS : Option Addr} {nF nS : Nat} {F : List Int} {S : List (Int × Int)} (h : Cl w aoF nF aoS nS F S) (hm : w.heap.size ≤ m) (hb : Below w.heap.size w W) (hk : KX m W W') : Cl W' aoF nF aoS nS F S := by
  refine ⟨⟨fun h0 => ?_⟩, ⟨fun h0 => ?_⟩, h.nf, h.ns⟩
  · obtain ⟨b, off, e, hlt, hc⟩ := h.hF.cells h0
    refine ⟨b, off, e, by have := hb.size; have := hk.size; omega, fun i hi => ?_⟩
    exact hk.cell (by omega) (keep_cell hb (hc i hi))
  · obtain ⟨b, off, e, hlt, hc⟩ := h.hS.cells h0
    refine ⟨b, off, e, by have := hb.size; have := hk.size; omega, fun i hi => ?_⟩
    exact ⟨hk.cell (by omega) (keep_cell hb (hc i hi).1), hk.cell (by omega) (keep_cell hb (hc i hi).2)⟩
theorem roundIn_any {n m : Nat} {P : Program} {l : Nat} {f : FuncId} {tmps : Array Value} {assign body : Code} {w : World} {R : Ending → World → Prop} (h : RoundIn Fence.wide n P l f tmps assign body w R) : RoundIn Fence.wide m P l f tmps assign body w R :=
  ⟨h.1, fun c cs _ => h.2 c cs (fun d hd => by cases hd)⟩
theorem roundIn_in {n m : Nat} {P : Program} {l k : Nat} {f : FuncId} {tmps : Array Value} {assign body : Code} {w : World} {R : Ending → World → Prop} (h : RoundIn Fence.wide n P l f tmps assign body w R) : RoundIn (Fence.wide.inRound k) m P l f tmps assign body w R :=
  ⟨h.1, fun c cs _ => h.2 c cs (fun d hd => by cases hd)⟩
theorem grown_of_below {w w' : World} (h : Below w.heap.size w w') : w.grownBy w' none := ⟨h.os, h.tape, h.output, h.size, fun k hk _ => h.block k hk⟩
theorem own_step {β : Type} {B : Nat} {I : β → World → Prop} (h : OwnFrom B I) {s : β} {W W' : World} (hs : I s W) (hb : Below W.heap.size W W') : I s W' :=
  h s W W' none hs (grown_of_below hb) (fun r e => by cases e)
theorem own_up {β : Type} {B B' : Nat} {I : β → World → Prop} (h : OwnFrom B I) (hB : B ≤ B') : OwnFrom B' I :=
  fun s X Y row hs hg hr => h s X Y row hs hg (fun r e => ⟨Nat.le_trans hB (hr r e).1, (hr r e).2⟩)
theorem own_on {β γ : Type} {B : Nat} {I : β → World → Prop} (h : OwnFrom B I) (f : γ → β) : OwnFrom B (fun s W => I (f s) W) := fun s X Y row hs hg hr => h (f s) X Y row hs hg hr
theorem ownFrom_kx {β : Type} (m : Nat) (W0 : World) : OwnFrom W0.heap.size (fun (_ : β) W => KX m W0 W) :=
  fun _ _ _ _ hs hg hr => ⟨Nat.le_trans hs.size hg.size, fun k hk hx => (hg.block k (Nat.lt_of_lt_of_le hk hs.size) (fun e => by have := (hr k e.symm).1; omega)).trans (hs.same k hk hx)⟩
theorem keepsFrom_below {B : Nat} {W W' : World} (h : Below W.heap.size W W') : KeepsFrom B W W' := ⟨h.size, fun k _ _ hk _ => (h.block k (Array.getElem?_eq_some_iff.1 hk).1).trans hk⟩
theorem keepsFrom_kx {B m : Nat} {W W' : World} (hB : m + 5 ≤ B) (h : KX m W W') : KeepsFrom B W W' := ⟨h.size, fun k o hl hk _ => h.row (by omega) hk⟩
namespace Tm
/-- Working days; counting days. -/
def work (f : Int) (F : List Int) (x : Nat) : Bool := !free f F (x : Int)
def count (S : List (Int × Int)) (x : Nat) : Bool := !still S (x : Int)
end Tm
theorem filter_no {p : Nat → Bool} {xs : List Nat} {x : Nat} (h : p x = false) : (xs ++ [x]).filter p = xs.filter p := by
  rw [List.filter_append]; simp [h]
theorem filter_yes {p : Nat → Bool} {xs : List Nat} {x : Nat} (h : p x = true) : (xs ++ [x]).filter p = xs.filter p ++ [x] := by
  rw [List.filter_append]; simp [h]

set_option maxRecDepth 100000 in
set_option maxHeartbeats 4000000 in
theorem onlyW_seq (n m BD BI gd : Nat) (lbd : Array Value) (eg : ∀ args w, (callFunc gd args).run Try.prog w = .ok (.enter gd args) w) (Sd Sdp Bdd : List Nat → Prop) (hn : 8 ≤ n)
    (f : Int) (F : List Int) (S : List (Int × Int)) (aoF : Option Addr) (nF cF : Nat) (aoS : Option Addr) (nS cS : Nat) (w0 w : World) (hm0 : w0.heap.size ≤ m) (hw0 : Below w0.heap.size w0 w) (hm : m + 3 ≤ w.heap.size) (hcl : Cl w0 aoF nF aoS nS F S) (h9 : nF ≤ 100000)
    (hmD : BD < m) (hmI : BI < m) (hBD : w.cell? ⟨BD, 0, none⟩ = some (.func (.func gd) #[] lbd)) (hBI : w.cell? ⟨BI, 0, none⟩ = some (.func (.func 73) #[.agg #[.int .i64 f, .slice aoF nF cF, .slice aoS nS cS]] #[]))
    (hin : ∀ k, SeqB Fence.wide k Try.prog gd lbd dayV (KM m) Sd Sdp Bdd w) (Bd : List Nat → Prop) (hBd : ∀ xs, Bd (xs.filter (Tm.work f F)) → Bdd xs) :
    SeqB Fence.wide n Try.prog 99 #[.pointer (some ⟨BD, 0, none⟩), .pointer (some ⟨BI, 0, none⟩)] dayV (KX m) (fun ys => ∃ xs, Sd xs ∧ ys = xs.filter (Tm.work f F)) (fun ys => ∃ xs, Sdp xs ∧ ys = xs.filter (Tm.work f F)) Bd w := by
  intro l J Jx W hW hW2 hJ hJx hBJ hY h0
  have cD := keep_cell8 hW (by omega) hBD
  have cI := keep_cell8 hW (by omega) hBI
  have hsW := hW.size
  refine callsIn_of_wp_marks Try.func99 rfl trivial ?_ rfl
  simp only [Try.ntmps99, List.size_toArray, List.length_cons, List.length_nil, Nat.reduceAdd, Nat.reduceSub, Array.replicate_succ, Array.replicate_zero, List.push_toArray, List.append_toArray, List.nil_append, List.cons_append]
  have hw1 : ∀ f, Fence.wide.fn f = True := fun _ => rfl
  have hw2 : Fence.wide.depth.isSome = false := rfl
  have hA := (Below.refl _ W).alloc (Nat.le_refl _) (.cells #[.func (.yield l) #[] #[]] 74)
  have rY := heap_alloc_new W (.cells #[.func (.yield l) #[] #[]] 74)
  have cD1 := keep_cell hA cD
  have cI1 := keep_cell hA cI
  gi_wp2
  obtain ⟨W1, hW1⟩ : ∃ W1, W1 = W.alloc (.cells #[.func (.yield l) #[] #[]] 74) := ⟨_, rfl⟩
  rw [← hW1] at hA rY cD1 cI1 ⊢
  clear hW1
  obtain ⟨BY, hBY⟩ : ∃ b, b = W.heap.size := ⟨_, rfl⟩
  rw [← hBY] at rY ⊢
  have hmY : m + 5 ≤ BY := by omega
  have hJ1 : J [] W1 := own_step hJ h0 hA
  have hs1 := hA.size
  have hw01 : Below w0.heap.size w0 W1 := hw0.trans ((hW.trans (hA.mono hsW)).mono hw0.size)
  have hs1Y : m + 5 ≤ W1.heap.size := by omega
  clear hBY
  refine range_bounded rfl (by omega) (gf := gd) (lb := lbd) rfl trivial eg (hin _) KM.trans (fun V o o' h hc => KM.put V o' h hc) (hW.trans (hA.mono hsW)) (fun _ => rfl)
    (fun xs V => J (xs.filter (Tm.work f F)) V ∧ KX m W1 V) (fun xs V => Jx (xs.filter (Tm.work f F)) V)
    (OwnFrom.and (own_on (own_up hJ hs1) _) (ownFrom_kx m W1)) (own_on (own_up hJx hs1) _) (fun xs V h => hBd xs (hBJ _ _ h.1)) ⟨hJ1, KX.refl _ _⟩
    (fun x => { tmps := #[.func (.yield l) #[] #[], .pointer (some ⟨BD, 0, none⟩), .pointer (some ⟨BI, 0, none⟩), .pointer (some ⟨BY, 0, none⟩), .int .i64 x, .func (.func gd) #[] lbd, .int .i64 x, undef, undef, undef, undef, undef, undef, undef, undef, undef], defers := [] }) ?assign ?body ?done ?stop
  case assign =>
    intro lr x V K hK
    unfold dayV
    gi_wp2
    exact hK
  case body =>
    rintro lr xs x V hlr - ⟨hJV, hKV⟩
    have cIV := hKV.cell (by omega) cI1
    have cYV := cell_of_row V BY 0 _ _ _ (hKV.row (by omega) rY)
    simp at cYV
    have hclV := hcl.kx hm0 hw01 hKV
    have hw3 : ∀ f, (Fence.wide.inRound lr).fn f = True := fun _ => rfl
    have hw4 : (Fence.wide.inRound lr).depth.isSome = false := rfl
    have hIs := isWorking_any f F S x aoF nF cF aoS nS cS V hclV h9
    rw [show (!Tm.free f F (x : Int)) = Tm.work f F x from rfl] at hIs
    obtain ⟨bv, hbv⟩ : ∃ b, Tm.work f F x = b := ⟨_, rfl⟩
    rw [hbv] at hIs
    gi_wp2_with fail
    refine (CallsIn.inRound lr (callsIn_wide.2 hIs)).mono ?_
    rintro e V2 ⟨rfl, hb2⟩
    have hJ2 := own_step hJ hJV hb2
    have hK2 := hKV.trans (KX.below hb2)
    have cY2 := cell_of_row V2 BY 0 _ _ _ (hK2.row (by omega) rY)
    simp at cY2
    cases bv with
    | true =>
      obtain ⟨fn, tmps, assign, body, hy, hR⟩ := hY _ x V2 hJ2
      unfold dayV at hy
      rw [← filter_yes hbv] at hR
      clear hIs cIV cYV
      gi_wp2
      refine (roundIn_in hR).mono ?_
      rintro e V3 (⟨rfl, h3, hk3⟩ | ⟨rfl, h3, hk3⟩)
      · gi_wp2
        exact ⟨(keepsFrom_below hb2).trans (keepsFrom_kx hs1Y hk3), KM.trans (KX.below hb2).km hk3.km, h3, hK2.trans hk3⟩
      · gi_wp2
        exact ⟨(keepsFrom_below hb2).trans (keepsFrom_kx hs1Y hk3), KM.trans (KX.below hb2).km hk3.km, h3⟩
    | false =>
      rw [← filter_no hbv] at hJ2
      clear hIs cIV cYV
      gi_wp2
      exact ⟨keepsFrom_below hb2, (KX.below hb2).km, hJ2, hK2⟩
  case done =>
    rintro D xs V hD hS ⟨hJV, -⟩ hK
    gi_wp2
    refine ⟨by simp, .inl ⟨_, _, rfl, run_takeDeferred hK, ?_⟩⟩
    have hJD := own_up hJ (show W.heap.size ≤ W.heap.size from Nat.le_refl _) _ V (V.putObj D (.deferred none)) (some D) hJV (grownBy_putObj' V D (.deferred none)) (fun r e => by cases e; exact ⟨by omega, _, hK, rfl⟩)
    refine ⟨_, results_none rfl _ _ _, ⟨_, rfl⟩, .inl ⟨_, ⟨xs, hS, rfl⟩, hJD⟩⟩
  case stop =>
    rintro D xs V hD hS hJV hK
    gi_wp2
    refine ⟨by simp, .inl ⟨_, _, rfl, run_takeDeferred hK, ?_⟩⟩
    have hJD := own_up hJx (show W.heap.size ≤ W.heap.size from Nat.le_refl _) _ V (V.putObj D (.deferred none)) (some D) hJV (grownBy_putObj' V D (.deferred none)) (fun r e => by cases e; exact ⟨by omega, _, hK, rfl⟩)
    refine ⟨_, results_none rfl _ _ _, ⟨_, rfl⟩, .inr ⟨_, ⟨xs, hS, rfl⟩, hJD⟩⟩

set_option maxRecDepth 100000 in
set_option maxHeartbeats 4000000 in
theorem onlyC_seq (n m BD BI gd : Nat) (lbd : Array Value) (eg : ∀ args w, (callFunc gd args).run Try.prog w = .ok (.enter gd args) w) (Sd Sdp Bdd : List Nat → Prop) (hn : 8 ≤ n)
    (f : Int) (F : List Int) (S : List (Int × Int)) (aoF : Option Addr) (nF cF : Nat) (aoS : Option Addr) (nS cS : Nat) (w0 w : World) (hm0 : w0.heap.size ≤ m) (hw0 : Below w0.heap.size w0 w) (hm : m + 3 ≤ w.heap.size) (hcl : Cl w0 aoF nF aoS nS F S) (h9 : nS ≤ 100000)
    (hmD : BD < m) (hmI : BI < m) (hBD : w.cell? ⟨BD, 0, none⟩ = some (.func (.func gd) #[] lbd)) (hBI : w.cell? ⟨BI, 0, none⟩ = some (.func (.func 74) #[.agg #[.int .i64 f, .slice aoF nF cF, .slice aoS nS cS]] #[]))
    (hin : ∀ k, SeqB Fence.wide k Try.prog gd lbd dayV (KM m) Sd Sdp Bdd w) (Bd : List Nat → Prop) (hBd : ∀ xs, Bd (xs.filter (Tm.count S)) → Bdd xs) :
    SeqB Fence.wide n Try.prog 99 #[.pointer (some ⟨BD, 0, none⟩), .pointer (some ⟨BI, 0, none⟩)] dayV (KX m) (fun ys => ∃ xs, Sd xs ∧ ys = xs.filter (Tm.count S)) (fun ys => ∃ xs, Sdp xs ∧ ys = xs.filter (Tm.count S)) Bd w := by
  intro l J Jx W hW hW2 hJ hJx hBJ hY h0
  have cD := keep_cell8 hW (by omega) hBD
  have cI := keep_cell8 hW (by omega) hBI
  have hsW := hW.size
  refine callsIn_of_wp_marks Try.func99 rfl trivial ?_ rfl
  simp only [Try.ntmps99, List.size_toArray, List.length_cons, List.length_nil, Nat.reduceAdd, Nat.reduceSub, Array.replicate_succ, Array.replicate_zero, List.push_toArray, List.append_toArray, List.nil_append, List.cons_append]
  have hw1 : ∀ f, Fence.wide.fn f = True := fun _ => rfl
  have hw2 : Fence.wide.depth.isSome = false := rfl
  have hA := (Below.refl _ W).alloc (Nat.le_refl _) (.cells #[.func (.yield l) #[] #[]] 74)
  have rY := heap_alloc_new W (.cells #[.func (.yield l) #[] #[]] 74)
  have cD1 := keep_cell hA cD
  have cI1 := keep_cell hA cI
  gi_wp2
  obtain ⟨W1, hW1⟩ : ∃ W1, W1 = W.alloc (.cells #[.func (.yield l) #[] #[]] 74) := ⟨_, rfl⟩
  rw [← hW1] at hA rY cD1 cI1 ⊢
  clear hW1
  obtain ⟨BY, hBY⟩ : ∃ b, b = W.heap.size := ⟨_, rfl⟩
  rw [← hBY] at rY ⊢
  have hmY : m + 5 ≤ BY := by omega
  have hJ1 : J [] W1 := own_step hJ h0 hA
  have hs1 := hA.size
  have hw01 : Below w0.heap.size w0 W1 := hw0.trans ((hW.trans (hA.mono hsW)).mono hw0.size)
  have hs1Y : m + 5 ≤ W1.heap.size := by omega
  clear hBY
  refine range_bounded rfl (by omega) (gf := gd) (lb := lbd) rfl trivial eg (hin _) KM.trans (fun V o o' h hc => KM.put V o' h hc) (hW.trans (hA.mono hsW)) (fun _ => rfl)
    (fun xs V => J (xs.filter (Tm.count S)) V ∧ KX m W1 V) (fun xs V => Jx (xs.filter (Tm.count S)) V)
    (OwnFrom.and (own_on (own_up hJ hs1) _) (ownFrom_kx m W1)) (own_on (own_up hJx hs1) _) (fun xs V h => hBd xs (hBJ _ _ h.1)) ⟨hJ1, KX.refl _ _⟩
    (fun x => { tmps := #[.func (.yield l) #[] #[], .pointer (some ⟨BD, 0, none⟩), .pointer (some ⟨BI, 0, none⟩), .pointer (some ⟨BY, 0, none⟩), .int .i64 x, .func (.func gd) #[] lbd, .int .i64 x, undef, undef, undef, undef, undef, undef, undef, undef, undef], defers := [] }) ?assign ?body ?done ?stop
  case assign =>
    intro lr x V K hK
    unfold dayV
    gi_wp2
    exact hK
  case body =>
    rintro lr xs x V hlr - ⟨hJV, hKV⟩
    have cIV := hKV.cell (by omega) cI1
    have cYV := cell_of_row V BY 0 _ _ _ (hKV.row (by omega) rY)
    simp at cYV
    have hclV := hcl.kx hm0 hw01 hKV
    have hw3 : ∀ f, (Fence.wide.inRound lr).fn f = True := fun _ => rfl
    have hw4 : (Fence.wide.inRound lr).depth.isSome = false := rfl
    have hIs := isCounting_any f F S x aoF nF cF aoS nS cS V hclV h9
    rw [show (!Tm.still S (x : Int)) = Tm.count S x from rfl] at hIs
    obtain ⟨bv, hbv⟩ : ∃ b, Tm.count S x = b := ⟨_, rfl⟩
    rw [hbv] at hIs
    gi_wp2_with fail
    refine (CallsIn.inRound lr (callsIn_wide.2 hIs)).mono ?_
    rintro e V2 ⟨rfl, hb2⟩
    have hJ2 := own_step hJ hJV hb2
    have hK2 := hKV.trans (KX.below hb2)
    have cY2 := cell_of_row V2 BY 0 _ _ _ (hK2.row (by omega) rY)
    simp at cY2
    cases bv with
    | true =>
      obtain ⟨fn, tmps, assign, body, hy, hR⟩ := hY _ x V2 hJ2
      unfold dayV at hy
      rw [← filter_yes hbv] at hR
      clear hIs cIV cYV
      gi_wp2
      refine (roundIn_in hR).mono ?_
      rintro e V3 (⟨rfl, h3, hk3⟩ | ⟨rfl, h3, hk3⟩)
      · gi_wp2
        exact ⟨(keepsFrom_below hb2).trans (keepsFrom_kx hs1Y hk3), KM.trans (KX.below hb2).km hk3.km, h3, hK2.trans hk3⟩
      · gi_wp2
        exact ⟨(keepsFrom_below hb2).trans (keepsFrom_kx hs1Y hk3), KM.trans (KX.below hb2).km hk3.km, h3⟩
    | false =>
      rw [← filter_no hbv] at hJ2
      clear hIs cIV cYV
      gi_wp2
      exact ⟨keepsFrom_below hb2, (KX.below hb2).km, hJ2, hK2⟩
  case done =>
    rintro D xs V hD hS ⟨hJV, -⟩ hK
    gi_wp2
    refine ⟨by simp, .inl ⟨_, _, rfl, run_takeDeferred hK, ?_⟩⟩
    have hJD := own_up hJ (show W.heap.size ≤ W.heap.size from Nat.le_refl _) _ V (V.putObj D (.deferred none)) (some D) hJV (grownBy_putObj' V D (.deferred none)) (fun r e => by cases e; exact ⟨by omega, _, hK, rfl⟩)
    refine ⟨_, results_none rfl _ _ _, ⟨_, rfl⟩, .inl ⟨_, ⟨xs, hS, rfl⟩, hJD⟩⟩
  case stop =>
    rintro D xs V hD hS hJV hK
    gi_wp2
    refine ⟨by simp, .inl ⟨_, _, rfl, run_takeDeferred hK, ?_⟩⟩
    have hJD := own_up hJx (show W.heap.size ≤ W.heap.size from Nat.le_refl _) _ V (V.putObj D (.deferred none)) (some D) hJV (grownBy_putObj' V D (.deferred none)) (fun r e => by cases e; exact ⟨by omega, _, hK, rfl⟩)
    refine ⟨_, results_none rfl _ _ _, ⟨_, rfl⟩, .inr ⟨_, ⟨xs, hS, rfl⟩, hJD⟩⟩
end Go.Proofs.Ytmdkdkiejcjmaaa
