import Derived.Test.YtmdkdkiejcjmaaaK
import Derived.Deep.Upon
import Derived.ArgAppend
/- A region that draws its order and whose operations but the last only make memory: in whatever order they come, the last one finds what each has made. -/
namespace Go.Proofs.Ytmdkdkiejcjmaaa
open Go.RowKit

/-- Which slots hold what the listed operations gave; the others are as they were. -/
structure Agree (ops : Array Oper) (L : Nat → Bool) (vals : Nat → Value) (a0 a : Act) : Prop where
  defers : a.defers = a0.defers
  size : a.tmps.size = a0.tmps.size
  got : ∀ k o t, ops[k]? = some o → o.dst = some t → L k = true → t < a0.tmps.size → a.tmps[t]? = some (vals k)
  old : ∀ t, (∀ k o, ops[k]? = some o → o.dst = some t → L k = false) → a.tmps[t]? = a0.tmps[t]?
def dstsApart (ops : Array Oper) : Bool := (List.range ops.size).all fun j => (List.range ops.size).all fun k => j == k || ((ops[j]?.bind (·.dst)).isNone || (ops[j]?.bind (·.dst)) != (ops[k]?.bind (·.dst)))
theorem dsts_inj {ops : Array Oper} (h : dstsApart ops = true) {j k : Nat} {p q : Oper} {t : Tmp} (hj : ops[j]? = some p) (hk : ops[k]? = some q) (h1 : p.dst = some t) (h2 : q.dst = some t) : j = k := by
  have hjl : j < ops.size := (Array.getElem?_eq_some_iff.1 hj).1
  have hkl : k < ops.size := (Array.getElem?_eq_some_iff.1 hk).1
  unfold dstsApart at h
  have h3 := (List.all_eq_true.1 ((List.all_eq_true.1 h) j (List.mem_range.2 hjl))) k (List.mem_range.2 hkl)
  simpa [hj, hk, h1, h2] using h3
theorem Act.put_some (a : Act) (t : Tmp) (v : Value) : a.put (some t) v = { a with tmps := a.tmps.setIfInBounds t v } := rfl
theorem Agree.step {ops : Array Oper} {L : Nat → Bool} {vals : Nat → Value} {a0 a : Act} (h : Agree ops L vals a0 a) (hap : dstsApart ops = true) {k : Nat} {o : Oper} (hk : ops[k]? = some o) (v : Value) :
    Agree ops (fun j => decide (j = k) || L j) (fun j => if j = k then v else vals j) a0 (a.put o.dst v) := by
  cases hd : o.dst with
  | none =>
    refine ⟨h.defers, h.size, fun j p t hj hp hL ht => ?_, fun t ho => h.old t fun j p hj hp => ?_⟩
    · have hne : j ≠ k := fun e => by
        subst e
        rw [hk] at hj
        cases hj
        rw [hd] at hp
        cases hp
      simp only [hne, decide_false, Bool.false_or] at hL
      simp only [hne, if_false]
      exact h.got j p t hj hp hL ht
    · have := ho j p hj hp
      rw [Bool.or_eq_false_iff] at this
      exact this.2
  | some d =>
    refine ⟨h.defers, by rw [Act.put_some]; simpa using h.size, fun j p t hj hp hL ht => ?_, fun t ho => ?_⟩
    · rw [Act.put_some]
      by_cases hjk : j = k
      · subst hjk
        rw [hk] at hj
        cases hj
        rw [hd] at hp
        cases hp
        simp [h.size, ht]
      · have hne : d ≠ t := fun e => by
          subst e
          exact hjk (dsts_inj hap hj hk hp hd)
        simp only [hjk, decide_false, Bool.false_or] at hL
        simp only [hjk, if_false]
        rw [Array.getElem?_setIfInBounds_ne hne]
        exact h.got j p t hj hp hL ht
    · have hne : d ≠ t := fun e => by
        subst e
        have := ho k o hk hd
        simp at this
      rw [Act.put_some, Array.getElem?_setIfInBounds_ne hne]
      refine h.old t fun j p hj hp => ?_
      have := ho j p hj hp
      rw [Bool.or_eq_false_iff] at this
      exact this.2
theorem Agree.unique {ops : Array Oper} {L : Nat → Bool} {vals : Nat → Value} {a0 a b : Act} (h : Agree ops L vals a0 a) (k : Agree ops L vals a0 b) : a = b := by
  have ht : a.tmps = b.tmps := by
    refine Array.ext_getElem? fun t => ?_
    by_cases hx : ∃ k o, ops[k]? = some o ∧ o.dst = some t ∧ L k = true
    · obtain ⟨j, o, h1, h2, h3⟩ := hx
      by_cases hs : t < a0.tmps.size
      · rw [h.got j o t h1 h2 h3 hs, k.got j o t h1 h2 h3 hs]
      · rw [Array.getElem?_eq_none (by rw [h.size]; omega), Array.getElem?_eq_none (by rw [k.size]; omega)]
    · have hn : ∀ k o, ops[k]? = some o → o.dst = some t → L k = false := fun j o h1 h2 => by
        cases hL : L j with
        | false => rfl
        | true => exact absurd ⟨j, o, h1, h2, hL⟩ hx
      rw [h.old t hn, k.old t hn]
  cases a
  cases b
  have hd := h.defers.trans k.defers.symm
  simp only at ht hd
  rw [ht, hd]
/-- The frame after the first n operations. -/
def canon (ops : Array Oper) (vals : Nat → Value) (a0 : Act) : Nat → Act
  | 0 => a0
  | n + 1 => (canon ops vals a0 n).put ((ops[n]?).bind (·.dst)) (vals n)
theorem Agree.congr {ops : Array Oper} {L L' : Nat → Bool} {vals vals' : Nat → Value} {a0 a : Act} (h : Agree ops L vals a0 a) (hL : ∀ k, k < ops.size → L k = L' k) (hv : ∀ k, L k = true → vals k = vals' k) : Agree ops L' vals' a0 a := by
  refine ⟨h.defers, h.size, fun k o t h1 h2 h3 h4 => ?_, fun t ho => h.old t fun k o h1 h2 => ?_⟩
  · have hk : k < ops.size := (Array.getElem?_eq_some_iff.1 h1).1
    have h5 : L k = true := (hL k hk).trans h3
    rw [← hv k h5]
    exact h.got k o t h1 h2 h5 h4
  · exact (hL k (Array.getElem?_eq_some_iff.1 h1).1).trans (ho k o h1 h2)
theorem agree_canon {ops : Array Oper} (hap : dstsApart ops = true) (vals : Nat → Value) (a0 : Act) : ∀ n, n ≤ ops.size → Agree ops (fun j => decide (j < n)) vals a0 (canon ops vals a0 n)
  | 0, _ => ⟨rfl, rfl, fun _ _ _ _ _ h => by simp at h, fun _ _ => rfl⟩
  | n + 1, hn => by
    have hlt : n < ops.size := by omega
    have h := (agree_canon hap vals a0 n (by omega)).step hap (Array.getElem?_eq_getElem hlt) (vals n)
    unfold canon
    rw [Array.getElem?_eq_getElem hlt]
    refine h.congr (fun k _ => ?_) (fun k _ => ?_)
    · by_cases h1 : k = n
      · simp [h1]
      · by_cases h2 : k < n
        · simp [h2, show k < n + 1 by omega]
        · simp [h1, h2, show ¬ k < n + 1 by omega]
    · by_cases h1 : k = n
      · simp [h1]
      · simp [h1]
/-- Each operation comes behind smaller ones only, none is guarded, the last one behind all. -/
def inOrder (ops : Array Oper) : Bool := (List.range ops.size).all fun i => ((ops[i]?).map fun o => o.after.all (fun e => decide (e.on < i)) && o.guard.isNone).getD false
def lastLast (ops : Array Oper) (n : Nat) : Bool := ((ops[n]?).map fun o => (List.range n).all fun k => o.after.any fun e => Region.binds .any e && e.on == k).getD false

theorem ready_ne {ops : Array Oper} {listed : Array Bool} (ho : inOrder ops = true) (hs : listed.size = ops.size) : ∀ (m i : Nat), i < m → i < ops.size → listed.getD i false = false → Region.ready .any ops listed ≠ []
  | 0, _, h, _, _ => by omega
  | m + 1, i, hm, hi, hl => by
    unfold inOrder at ho
    have h1 := (List.all_eq_true.1 ho) i (List.mem_range.2 hi)
    rw [Array.getElem?_eq_getElem hi] at h1
    simp only [Option.map_some, Option.getD_some, Bool.and_eq_true] at h1
    by_cases hall : (ops[i].after.all fun e => !Region.binds .any e || listed.getD e.on false) = true
    · intro hr
      have hmem : i ∈ Region.ready .any ops listed := by
        unfold Region.ready
        refine List.mem_filter.2 ⟨List.mem_range.2 hi, ?_⟩
        rw [Array.getElem?_eq_getElem hi]
        simp only [Option.map_some, Option.getD_some]
        rw [hall, Bool.and_true]
        have : listed[i]? = some (listed[i]'(by omega)) := Array.getElem?_eq_getElem (by omega)
        rw [Array.getD_eq_getD_getElem?, this] at hl ⊢
        simp only [Option.getD_some] at hl ⊢
        rw [hl]; rfl
      rw [hr] at hmem
      cases hmem
    · have : ∃ e ∈ ops[i].after, (!Region.binds .any e || listed.getD e.on false) = false := by
        rw [Array.all_eq_true_iff_forall_mem] at hall
        refine Classical.byContradiction fun hno => hall fun e he => ?_
        cases hx : (!Region.binds .any e || listed.getD e.on false) with
        | true => rfl
        | false => exact absurd ⟨e, he, hx⟩ hno
      obtain ⟨e, he, hx⟩ := this
      rw [Bool.or_eq_false_iff] at hx
      have h2 := (Array.all_eq_true_iff_forall_mem.1 h1.1) e he
      have h3 : e.on < i := by simpa using h2
      exact ready_ne (by unfold inOrder; exact ho) hs m e.on (by omega) (by omega) hx.2

theorem wp_region_grow {P : Program} {id : Nat} {ops : Array Oper} {Q : Exit → Act → World → Prop} {a0 : Act} {w0 : World} (hm : P.follows .mixedOrders = true) (hap : dstsApart ops = true) (hord : inOrder ops = true) (n : Nat) (hn : ops.size = n + 1) (hlast0 : lastLast ops n = true)
    (Φ : Nat → Value → World → Prop) (mono : ∀ k v w w', Φ k v w → Below w.heap.size w w' → Φ k v w')
    (hstep : ∀ k o, k < n → ops[k]? = some o → ∀ (vals : Nat → Value) (a : Act) (w : World), Below w0.heap.size w0 w →
      (∀ e ∈ o.after, Region.binds .any e = true → Φ e.on (vals e.on) w ∧ ∀ oj t, ops[e.on]? = some oj → oj.dst = some t → t < a0.tmps.size → a.eval (.tmp t) = vals e.on) →
      (∀ t : Tmp, (∀ (j : Nat) (oj : Oper), ops[j]? = some oj → oj.dst ≠ some t) → a.eval (.tmp t) = a0.eval (.tmp t)) →
      o.wp P a w (fun a' w' => ∃ v, a' = a.put o.dst v ∧ Φ k v w' ∧ Below w.heap.size w w') Q)
    (hlast : ∀ (vals : Nat → Value) (w : World), (∀ k, k < n → Φ k (vals k) w) → Below w0.heap.size w0 w → ∀ o a', ops[n]? = some o → a' = canon ops vals a0 n → o.wp P a' w (fun a' w' => Q .normal a' w') Q) :
    (Code.region id ops true).wp P Q a0 w0 := by
  have hgn : ∀ (k : Nat) (o : Oper), ops[k]? = some o → o.guard = none := fun k o hk => by
    have hkl : k < ops.size := (Array.getElem?_eq_some_iff.1 hk).1
    have h1 := (List.all_eq_true.1 (show (List.range ops.size).all _ = true from hord)) k (List.mem_range.2 hkl)
    rw [hk] at h1
    simp only [Option.map_some, Option.getD_some, Bool.and_eq_true] at h1
    simpa using h1.2
  have hrd : ∀ (listed : Array Bool) i, i ∈ Region.ready .any ops listed → i < ops.size ∧ listed.getD i true = false ∧ ∀ o, ops[i]? = some o → ∀ e ∈ o.after, Region.binds .any e = true → listed.getD e.on false = true := fun listed i hi => by
    unfold Region.ready at hi
    rw [List.mem_filter, Bool.and_eq_true] at hi
    refine ⟨List.mem_range.1 hi.1, by simpa using hi.2.1, fun o ho e he hb => ?_⟩
    have h2 := hi.2.2
    rw [ho] at h2
    simp only [Option.map_some, Option.getD_some] at h2
    have h3 := (Array.all_eq_true_iff_forall_mem.1 h2) e he
    rw [hb] at h3
    simpa using h3
  have hset : ∀ (listed : Array Bool) i j, i < listed.size → (listed.setIfInBounds i true).getD j false = (decide (j = i) || listed.getD j false) := fun listed i j hi => by
    rw [Array.getD_eq_getD_getElem?, Array.getD_eq_getD_getElem?]
    by_cases hji : j = i
    · subst hji
      simp [hi]
    · rw [Array.getElem?_setIfInBounds_ne (fun e => hji e.symm)]
      simp [hji]
  refine wp_region_inv hm (fun listed a w => listed.size = n + 1 ∧ ((listed.getD n false = false ∧ ∃ vals, Agree ops (fun k => listed.getD k false) vals a0 a ∧ Below w0.heap.size w0 w ∧ ∀ k, k < n → listed.getD k false = true → Φ k (vals k) w) ∨ ((∀ k, k ≤ n → listed.getD k false = true) ∧ Q .normal a w))) ?_ ?_ ?_
  · refine ⟨by simpa using hn, .inl ⟨?_, fun _ => undef, ⟨rfl, rfl, fun k o t hk h1 h2 => ?_, fun _ _ => rfl⟩, below_drewN (Below.refl _ w0) 1, fun k hk h => ?_⟩⟩
    · rw [Array.getD_eq_getD_getElem?]; simp [hn]
    · rw [Array.getD_eq_getD_getElem?] at h2
      by_cases hx : k < ops.size <;> simp [hx] at h2
    · rw [Array.getD_eq_getD_getElem?] at h
      by_cases hx : k < ops.size <;> simp [hx] at h
  · rintro listed a w ⟨hs, h⟩ i hi
    obtain ⟨hil, hiu, hia⟩ := hrd listed i hi
    have hiL : listed.getD i false = false := by
      rw [Array.getD_eq_getD_getElem?, Array.getElem?_eq_getElem (by omega)] at hiu ⊢
      exact hiu
    rcases h with ⟨hln, vals, hag, hB, hΦ⟩ | ⟨hall, -⟩
    · have ho : ops[i]? = some ops[i] := Array.getElem?_eq_getElem hil
      refine wpOp_at ho (hgn i _ ho) ?_
      by_cases hin : i = n
      · subst hin
        have hallk : ∀ k, k < i → listed.getD k false = true := fun k hk => by
          unfold lastLast at hlast0
          rw [ho] at hlast0
          simp only [Option.map_some, Option.getD_some] at hlast0
          have h1 := (List.all_eq_true.1 hlast0) k (List.mem_range.2 hk)
          rw [← Array.any_toList, List.any_eq_true] at h1
          obtain ⟨e, he, h2⟩ := h1
          rw [Bool.and_eq_true] at h2
          have h3 : e.on = k := by simpa using h2.2
          rw [← h3]
          exact hia _ ho e (Array.mem_toList_iff.1 he) h2.1
        have hcan : a = canon ops vals a0 i := hag.unique ((agree_canon hap vals a0 i (by omega)).congr (fun k hk => by
          by_cases h1 : k < i
          · rw [hallk k h1, decide_eq_true h1]
          · rw [show k = i by omega, hln]; simp) (fun _ _ => rfl))
        rw [hcan]
        refine Oper.wp_mono (fun a' w' hq => ?_) (hlast vals w (fun k hk => hΦ k hk (hallk k hk)) hB _ _ ho rfl)
        refine ⟨by simpa using hs, .inr ⟨fun k hk => ?_, hq⟩⟩
        rw [hset listed i k (by omega)]
        by_cases h1 : k = i
        · simp [h1]
        · rw [hallk k (by omega)]; simp
      · refine Oper.wp_mono (fun a' w' hq => ?_) (hstep i _ (by omega) ho vals a w hB (fun e he hb => ?_) (fun t ht => ?_))
        · obtain ⟨v, rfl, hv, hb⟩ := hq
          refine ⟨by simpa using hs, .inl ⟨?_, _, (hag.step hap ho v).congr (fun k hk => (hset listed i k (by omega)).symm) (fun _ _ => rfl), hB.trans (hb.mono hB.size), fun k hk hL => ?_⟩⟩
          · rw [hset listed i n (by omega), hln]
            simp; omega
          · rw [hset listed i k (by omega)] at hL
            by_cases h1 : k = i
            · subst h1
              simpa using hv
            · simp only [h1, decide_false, Bool.false_or] at hL
              simp only [h1, if_false]
              exact mono _ _ _ _ (hΦ k hk hL) hb
        · have h1 := hia _ ho e he hb
          have h2 : e.on < i := by
            have h3 := (List.all_eq_true.1 (show (List.range ops.size).all _ = true from hord)) i (List.mem_range.2 hil)
            rw [ho] at h3
            simp only [Option.map_some, Option.getD_some, Bool.and_eq_true] at h3
            simpa using (Array.all_eq_true_iff_forall_mem.1 h3.1) e he
          refine ⟨hΦ _ (by omega) h1, fun oj t hj ht hts => ?_⟩
          show a.tmps.getD t undef = _
          rw [Array.getD_eq_getD_getElem?, hag.got _ oj t hj ht h1 hts]
          rfl
        · show a.tmps.getD t undef = a0.tmps.getD t undef
          rw [Array.getD_eq_getD_getElem?, Array.getD_eq_getD_getElem?, hag.old t fun k o hk hd => absurd hd (ht k o hk)]
    · have := hall i (by omega)
      rw [hiL] at this
      cases this
  · rintro listed a w ⟨hs, h⟩ hr
    rcases h with ⟨hln, -⟩ | ⟨-, hq⟩
    · exact absurd hr (ready_ne hord (by omega) (n + 1) n (by omega) (by omega) hln)
    · exact hq

def notDst (ops : Array Oper) (t : Tmp) : Bool := (List.range ops.size).all fun k => (ops[k]?).map (fun o => o.dst != some t) == some true
theorem not_dst {ops : Array Oper} {t : Tmp} (h : notDst ops t = true) : ∀ (j : Nat) (oj : Oper), ops[j]? = some oj → oj.dst ≠ some t := fun j oj hj => by
  have h1 := (List.all_eq_true.1 h) j (List.mem_range.2 (Array.getElem?_eq_some_iff.1 hj).1)
  rw [hj] at h1
  simpa using h1
/-- `append([]T{}, l...)`: a copy in new memory. -/
theorem wp_copy {P : Program} {o : Oper} {a : Act} {w : World} {K : Act → World → Prop} {Q : Exit → Act → World → Prop} (s x : Operand) (t e : TypeId) (hop : o.op = Op.call { callee := Callee.builtin Builtin.append, args := #[s, x], argTypes := #[t, t] })
    (i : TypeInfo) (z : Value) (size bytes : Nat) (h1 : P.underlying t = some (.slice e)) (h2 : P.info? e = some i) (h3 : i.zero = some z) (h4 : i.size = size) (h5 : i.bytes = bytes) (h6 : z.cells.size = size) (h7 : 0 < size)
    (b base : Nat) (hs : a.eval s = .slice (some ⟨b, 0, none⟩) 0 0) (hb : w.heap[b]? = some (.cells #[] e (0, 0))) (hbb : base ≤ b) (hbw : base ≤ w.heap.size)
    (ao : Option Addr) (m c : Nat) (news : List Value) (hx : a.eval x = .slice ao m c) (hl : news.length = m * size) (hnone : ao = none → m = 0) (hnews : ∀ ad, ao = some ad → ∀ j u, news[j]? = some u → w.cell? (ad.add j) = some u)
    (b1 : m ≤ maxLen) (b2 : m * bytes ≤ 140737488355328)
    (hK : ∀ v' w', w'.ownsRow base e size v' m news → Below w.heap.size w w' → K (a.put o.dst v') w') : o.wp P a w K Q := by
  by_cases hm : m = 0
  · subst hm
    obtain rfl : news = [] := List.eq_nil_of_length_eq_zero (by simpa using hl)
    have hsrc : Src P i.size t (.slice ao 0 c) 0 [] w := by
      cases ao with
      | none => exact Src.ofNil w h1 c
      | some ad => exact Src.ofSlice w h1 ad 0 c [] (by simp) (by simp) (by simp)
    have hrun := run_append_nothing (P := P) w t t o.type e i h1 h2 (some ⟨b, 0, none⟩) 0 0 (Nat.le_refl _) _ hsrc
    unfold Oper.wp
    simp [execOp, hop, resolve, invoke, builtin, hs, hx, hrun, Result.andThen]
    exact hK _ _ ⟨by simp, .inr ⟨b, 0, #[], rfl, hbb, hb, Nat.le_refl _, Nat.zero_le _, by simp, by simp⟩⟩ (Below.refl _ _)
  · cases ao with
    | none => exact absurd (hnone rfl) hm
    | some ad =>
      obtain ⟨v', w', hrun, r1, r2⟩ := run_append_arg_grows (P := P) w t o.type e i z size bytes h1 h2 h3 h4 h5 h6 h7 ⟨b, 0, none⟩ 0 0 [] (by simp) (by simp) ad m c news hl (hnews ad rfl) (by omega) (by omega) (by simpa using b2)
      rw [Nat.zero_add, List.nil_append] at r1
      unfold Oper.wp
      simp [execOp, hop, resolve, invoke, builtin, hs, hx, hrun, Result.andThen]
      exact hK v' w' (own_mono r1 hbw) ((Below.refl _ w).grown r2 (Nat.le_refl _) (fun k e => by cases e))
/-- Rows of other types are other rows. -/
theorem own_grown {w w' : World} {base n size : Nat} {e : TypeId} {v : Value} {xs : List Value} {row : Option Nat} (h : w.ownsRow base e size v n xs) (hg : w.grownBy w' row) (hr : ∀ k, row = some k → ∀ cs fr, w.heap[k]? ≠ some (.cells cs e fr)) : w'.ownsRow base e size v n xs := by
  refine ⟨h.1, ?_⟩
  rcases h.2 with h2 | ⟨k, cap, cur, e1, h3, h4, rest⟩
  · exact .inl h2
  · exact .inr ⟨k, cap, cur, e1, h3, (hg.block k (Array.getElem?_eq_some_iff.1 h4).1 (fun h5 => hr k h5.symm cur (0, 0) h4)).trans h4, rest⟩
theorem heap_grown {w w' : World} {g : Nat} {e : TypeId} {cs : Array Value} {fr : Nat × Nat} {row : Option Nat} (h : w.heap[g]? = some (.cells cs e fr)) (hg : w.grownBy w' row) (hr : ∀ k, row = some k → ∀ cs fr, w.heap[k]? ≠ some (.cells cs e fr)) : w'.heap[g]? = some (.cells cs e fr) :=
  (hg.block g (Array.getElem?_eq_some_iff.1 h).1 (fun h5 => hr g h5.symm cs fr h)).trans h
theorem own_set_type {w : World} {base n size g o : Nat} {e e2 : TypeId} {v u : Value} {xs : List Value} {cs : Array Value} {fr : Nat × Nat} (h : w.ownsRow base e size v n xs) (hg : w.heap[g]? = some (.cells cs e2 fr)) (hne : e ≠ e2) : (w.setCell ⟨g, o, none⟩ u).ownsRow base e size v n xs := by
  refine ⟨h.1, ?_⟩
  rcases h.2 with h2 | ⟨k, cap, cur, e1, h3, h4, rest⟩
  · exact .inl h2
  · refine .inr ⟨k, cap, cur, e1, h3, (heap_setCell_other w ⟨g, o, none⟩ k u (fun (e4 : k = g) => ?_)).trans h4, rest⟩
    subst e4
    rw [hg] at h4
    cases h4
    exact hne rfl
/-- The row that a slice owns has its element's type. -/
theorem own_row {w : World} {base n size : Nat} {e : TypeId} {v : Value} {xs : List Value} (h : w.ownsRow base e size v n xs) (k : Nat) (hk : v.ownBlock = some k) : ∃ cs, w.heap[k]? = some (.cells cs e (0, 0)) := by
  rcases h.2 with ⟨rfl, -⟩ | ⟨g, cap, cur, rfl, h3, h4, rest⟩
  · cases hk
  · cases hk
    exact ⟨cur, h4⟩
end Go.Proofs.Ytmdkdkiejcjmaaa
