import Derived.Test.YtemlfklipkpacaaNe
import Derived.Test.YtemlfklipkpacaaNc
import Derived.Test.YtemlfklipkpacaaNb
/- The reference of package knife: Knife. -/
namespace Go.Proofs.Ytemlfklipkpacaa
open Go.RowKit
namespace Kn
/-- Who calls first so far, and where. -/
def rstep (P : Nat → Rat) (s : Option (Nat × Rat)) (o : Nat) : Option (Nat × Rat) :=
  match s with
  | none => some (o, P o)
  | some s => some (if P o < s.2 then (o, P o) else s)
def rfirst (P : Nat → Rat) (l : List Nat) : Option (Nat × Rat) := l.foldl (rstep P) none
def fI : Option (Nat × Rat) → Int
  | none => -1
  | some s => s.1
def toQ (E : Rat) : Option (Nat × Rat) → Rat
  | none => E
  | some s => s.2
/-- Where an owner calls when so many others are left. -/
def pQ (L : List Int) (V : List (List Int)) (f : Nat) (a : Rat) (o : Nat) : Rat := if f = 0 then (stop L : Rat) else callQ L V o a
/-- Who goes, and where his piece ends. -/
def res (L : List Int) (V : List (List Int)) (f : Nat) (left : List Nat) (a : Rat) : Nat × Rat := if f = 0 then (left.getD 0 0, (stop L : Rat)) else first L V left a
theorem callQ_le {L : List Int} {V : List (List Int)} (hok : Ok L V) {o : Nat} (ho : o < V.length) {a : Rat} (ha : KFrom a) (h1 : a ≤ (stop L : Rat)) : callQ L V o a ≤ (stop L : Rat) := by
  unfold callQ
  cases h : callK L V o a with
  | none => exact Rat.le_refl
  | some t => exact (call_at hok ho ha h1 h).2.2
theorem step_q {L : List Int} {V : List (List Int)} (_ : Ok L V) {o : Nat} (_ : o < V.length) {a : Rat} (_ : KFrom a) (_ : a ≤ (stop L : Rat)) {s : Nat × Rat} (hs : s.2 ≤ (stop L : Rat)) :
    step L V a s o = if callQ L V o a < s.2 then (o, callQ L V o a) else s := by
  unfold callQ
  cases h : callK L V o a with
  | none => rw [step_none h]; simp only [Option.getD_none]; rw [if_neg (by grind)]
  | some t => rw [step_some h]; rfl
theorem rfold_first {L : List Int} {V : List (List Int)} (hok : Ok L V) {a : Rat} (ha : KFrom a) (h1 : a ≤ (stop L : Rat)) {r : List Nat} : (∀ o ∈ r, o < V.length) → ∀ {s : Nat × Rat}, s.2 ≤ (stop L : Rat) →
    r.foldl (rstep fun o => callQ L V o a) (some s) = some (r.foldl (step L V a) s) := by
  induction r with
  | nil => intro _ s _; rfl
  | cons o r ih =>
    intro hr s hs
    have ho := hr o (by simp)
    have hq := step_q hok ho ha h1 hs
    have hc := callQ_le hok ho ha h1
    show r.foldl _ (some (if callQ L V o a < s.2 then (o, callQ L V o a) else s)) = some (r.foldl (step L V a) (step L V a s o))
    rw [← hq]
    refine ih (fun x hx => hr x (by simp [hx])) ?_
    rw [hq]
    split
    · exact hc
    · exact hs
theorem rfirst_first {L : List Int} {V : List (List Int)} (hok : Ok L V) {a : Rat} (ha : KFrom a) (h1 : a ≤ (stop L : Rat)) {left : List Nat} (hl : 1 ≤ left.length) (hlo : ∀ o ∈ left, o < V.length) :
    rfirst (fun o => callQ L V o a) left = some (first L V left a) := by
  cases left with
  | nil => simp at hl
  | cons o r =>
    have ho := hlo o (by simp)
    have hc := callQ_le hok ho ha h1
    have hq := step_q hok ho ha h1 (s := (o, (stop L : Rat))) Rat.le_refl
    have e : step L V a (o, (stop L : Rat)) o = (o, callQ L V o a) := by
      rw [hq]
      split
      · rfl
      · rename_i h
        have : callQ L V o a = (stop L : Rat) := by
          have h2 : ¬ callQ L V o a < (stop L : Rat) := h
          grind
        rw [this]
    show r.foldl (rstep fun o => callQ L V o a) (some (o, callQ L V o a)) = some (r.foldl (step L V a) (step L V a (o, (stop L : Rat)) o))
    rw [e]
    exact rfold_first hok ha h1 (fun x hx => hlo x (by simp [hx])) hc
theorem rfirst_res {L : List Int} {V : List (List Int)} (hok : Ok L V) {f : Nat} {left : List Nat} {a : Rat} (h : St L V f left a) : rfirst (pQ L V f a) left = some (res L V f left a) := by
  have hfrom := h.from' hok
  have hlen := h.len
  unfold res
  by_cases hf : f = 0
  · subst hf
    rw [if_pos rfl]
    cases left with
    | nil => simp at hlen
    | cons o r =>
      cases r with
      | nil =>
        show some (o, pQ L V 0 a o) = _
        unfold pQ
        rw [if_pos rfl]; rfl
      | cons p r => simp at hlen
  · rw [if_neg hf]
    have e : pQ L V f a = fun o => callQ L V o a := by
      funext o; unfold pQ; rw [if_neg hf]
    rw [e]
    exact rfirst_first hok hfrom h.a1 (by omega) h.mem
/-- Between two owners who are left: where one calls. -/
theorem St.call {L : List Int} {V : List (List Int)} (hok : Ok L V) {f : Nat} {left : List Nat} {a : Rat} (h : St L V f left a) {o : Nat} (ho : o ∈ left) :
    a ≤ pQ L V f a o ∧ pQ L V f a o ≤ (stop L : Rat) ∧ (pQ L V f a o).den ≤ 800000 := by
  unfold pQ
  by_cases hf : f = 0
  · rw [if_pos hf]
    exact ⟨h.a1, Rat.le_refl, by rw [Rat.den_intCast]; decide⟩
  · rw [if_neg hf]
    unfold callQ
    cases hc : callK L V o a with
    | none => exact ⟨h.a1, Rat.le_refl, by rw [Option.getD_none, Rat.den_intCast]; decide⟩
    | some t =>
      rw [Option.getD_some]
      obtain ⟨M, hM1, hM2, hF⟩ := h.fr
      have v1 := hok.v1
      have hle := h.le
      have hov := h.mem o ho
      have hs := hok.zStop hov
      unfold callK at hc
      have hT := hok.zTot hov
      have hW : 0 ≤ mkRat (Fl.tot (Z L V o)) V.length := Rat.num_nonneg.1 (mk_num_le (by omega)).1
      obtain ⟨q1, q2, v, hv1, hv2, hq⟩ := placeK_facts (V := 20) (by omega) hF (hok.zOk hov) h.a0 (by rw [hs]; exact h.a1) hW ((Frac.mk _ (by omega)).up M) hc
      rw [hs] at q2
      refine ⟨q1, q2, ?_⟩
      have h1 := Nat.le_of_dvd (Nat.mul_pos (Nat.mul_pos (by omega) hM1) hv1) hq.den
      have hp : 20 ^ (V.length - f) = 20 ^ (V.length - (f + 1)) * 20 := by
        rw [show V.length - f = V.length - (f + 1) + 1 by omega, Nat.pow_succ]
      have h2 : M * v ≤ 20 ^ (V.length - f) := by rw [hp]; exact Nat.mul_le_mul hM2 (by omega)
      have h3 : V.length * (M * v) ≤ V.length * 20 ^ (V.length - f) := Nat.mul_le_mul_left _ h2
      have h4 := pow_bound (n := V.length) (f := f - 1) (by omega) hok.v5
      rw [show f - 1 + 1 = f by omega] at h4
      rw [← Nat.mul_assoc] at h3
      omega
/-- What is known when c owners are left. -/
structure SI (L : List Int) (V : List (List Int)) (c : Nat) (left : List Nat) (a : Rat) (ps : List (Nat × Rat × Rat)) : Prop where
  srt : (List.range V.length).filter (fun o => decide (o ∈ left)) = left
  len : left.length = c
  run : ∀ f, c = f + 1 → St L V f left a ∧ ps ++ divF L V f left a = divide L V
  fin : c = 0 → ps = divide L V
theorem SI.start {L : List Int} {V : List (List Int)} (hok : Ok L V) : SI L V V.length (List.range V.length) 0 [] := by
  have v1 := hok.v1
  refine ⟨?_, by simp, fun f hf => ?_, fun h => by omega⟩
  · rw [List.filter_eq_self]
    intro o ho
    exact decide_eq_true ho
  · have e : f = V.length - 1 := by omega
    subst e
    exact ⟨St.start hok, rfl⟩
theorem SI.next {L : List Int} {V : List (List Int)} (hok : Ok L V) {f : Nat} {left : List Nat} {a : Rat} {ps : List (Nat × Rat × Rat)} (h : SI L V (f + 1) left a ps) :
    (res L V f left a).1 ∈ left ∧ SI L V f (left.filter fun o => !decide (o = (res L V f left a).1)) (res L V f left a).2 (ps ++ [((res L V f left a).1, a, (res L V f left a).2)]) := by
  obtain ⟨hS, hR⟩ := h.run f rfl
  have hlen := h.len
  have hmem : (res L V f left a).1 ∈ left := by
    unfold res
    split
    · exact getD_mem (by omega)
    · rename_i hf
      obtain ⟨g, rfl⟩ : ∃ g, f = g + 1 := ⟨f - 1, by omega⟩
      exact (hS.next hok).1
  refine ⟨hmem, ?_, ?_, fun g hg => ?_, fun h0 => ?_⟩
  · generalize (res L V f left a).1 = x
    conv => rhs; rw [← h.srt]
    rw [List.filter_filter]
    apply List.filter_congr
    intro o ho
    simp only [List.mem_filter]
    by_cases h1 : o ∈ left <;> by_cases h2 : o = x <;> simp [h1, h2]
  · have := filter_len hS.nd hmem
    omega
  · subst hg
    have e : res L V (g + 1) left a = first L V left a := by unfold res; rw [if_neg (by omega)]
    rw [e]
    refine ⟨(hS.next hok).2.2, ?_⟩
    rw [List.append_assoc, ← hR]
    rfl
  · subst h0
    have e : res L V 0 left a = (left.getD 0 0, (stop L : Rat)) := by unfold res; rw [if_pos rfl]
    rw [e, ← hR]
    rfl
/-- Who has gone. -/
def goneL (V : List (List Int)) (left : List Nat) : List Value := (List.range V.length).map fun o => .bool (!decide (o ∈ left))
theorem goneL_len (V : List (List Int)) (left : List Nat) : (goneL V left).length = V.length := by unfold goneL; simp
theorem goneL_at {V : List (List Int)} {left : List Nat} {k : Nat} (hk : k < V.length) (h : k < (goneL V left).length) : (goneL V left)[k] = .bool (!decide (k ∈ left)) := by
  have e : (goneL V left)[k]? = some (.bool (!decide (k ∈ left))) := by unfold goneL; simp [hk]
  exact Option.some.inj ((List.getElem?_eq_getElem h).symm.trans e)
theorem goneL_all (V : List (List Int)) : goneL V (List.range V.length) = List.replicate V.length (.bool false) := by
  unfold goneL
  rw [List.eq_replicate_iff]
  refine ⟨by simp, fun b hb => ?_⟩
  simp only [List.mem_map, List.mem_range] at hb
  obtain ⟨o, ho, rfl⟩ := hb
  simp [ho]
theorem goneL_set {V : List (List Int)} {left : List Nat} (x : Nat) : (goneL V left).set x (.bool true) = goneL V (left.filter fun o => !decide (o = x)) := by
  apply List.ext_getElem
  · simp [goneL]
  · intro i h1 h2
    rw [List.getElem_set]
    simp only [goneL, List.getElem_map, List.getElem_range, List.mem_filter]
    by_cases h : x = i
    · subst h; simp
    · rw [if_neg h]
      have : ¬ i = x := fun e => h e.symm
      simp [this]
theorem rfirst_snoc {P : Nat → Rat} {left : List Nat} {k : Nat} : rfirst P ((List.range (k + 1)).filter fun o => decide (o ∈ left)) = if k ∈ left then rstep P (rfirst P ((List.range k).filter fun o => decide (o ∈ left))) k else rfirst P ((List.range k).filter fun o => decide (o ∈ left)) := by
  unfold rfirst
  rw [List.range_succ, List.filter_append, List.foldl_append]
  by_cases h : k ∈ left
  · rw [if_pos h]; simp [h]
  · rw [if_neg h]; simp [h]
/-- What stands in the search is a place. -/
theorem rfirst_at {L : List Int} {V : List (List Int)} (hok : Ok L V) {f : Nat} {left : List Nat} {a : Rat} (h : St L V f left a) {l : List Nat} (hl : ∀ o ∈ l, o ∈ left) : 
    ∀ {s}, (0 ≤ toQ (stop L : Rat) s ∧ toQ (stop L : Rat) s ≤ (stop L : Rat) ∧ (toQ (stop L : Rat) s).den ≤ 800000) → 
    0 ≤ toQ (stop L : Rat) (l.foldl (rstep (pQ L V f a)) s) ∧ toQ (stop L : Rat) (l.foldl (rstep (pQ L V f a)) s) ≤ (stop L : Rat) ∧ (toQ (stop L : Rat) (l.foldl (rstep (pQ L V f a)) s)).den ≤ 800000 := by
  induction l with
  | nil => intro s hs; exact hs
  | cons o r ih =>
    intro s hs
    obtain ⟨c1, c2, c3⟩ := h.call hok (hl o (by simp))
    have a0 := h.a0
    refine ih (fun x hx => hl x (by simp [hx])) (s := rstep (pQ L V f a) s o) ?_
    cases s with
    | none => exact ⟨Rat.le_trans a0 c1, c2, c3⟩
    | some s =>
      show 0 ≤ (if pQ L V f a o < s.2 then (o, pQ L V f a o) else s).2 ∧ (if pQ L V f a o < s.2 then (o, pQ L V f a o) else s).2 ≤ (stop L : Rat) ∧ ((if pQ L V f a o < s.2 then (o, pQ L V f a o) else s).2).den ≤ 800000
      split
      · exact ⟨Rat.le_trans a0 c1, c2, c3⟩
      · exact hs
end Kn

theorem infoBlAll : (Try.prog.info? 4).map (fun i => (i.zero, i.size, i.bytes)) = some (some (.bool false), 1, 1) := by kernel_rfl
theorem info_bl : ∃ i, Try.prog.info? 4 = some i ∧ i.zero = some (.bool false) ∧ i.size = 1 ∧ i.bytes = 1 := by
  have h := infoBlAll
  cases hi : Try.prog.info? 4 with
  | none => rw [hi] at h; cases h
  | some i =>
    rw [hi] at h
    simp only [Option.map_some, Option.some.injEq, Prod.mk.injEq] at h
    exact ⟨i, rfl, h.1, h.2.1, h.2.2⟩
theorem made1 : ∀ n, n ≤ 5 → (madeCells (Value.bool false).cells (n * 1)).toList = List.replicate n (.bool false) := by
  intro n hn
  have h : n = 0 ∨ n = 1 ∨ n = 2 ∨ n = 3 ∨ n = 4 ∨ n = 5 := by omega
  rcases h with rfl | rfl | rfl | rfl | rfl | rfl <;> simp [madeCells, List.range, List.range.loop, List.replicate, Value.cells]
theorem own_made1 {w : World} {base g n : Nat} {cs : Array Value} {t : TypeId} {xs : List Value} (h : w.heap[g]? = some (.cells cs t (0, 0))) (hc : cs.toList = xs) (hb : base ≤ g) (hn : xs.length = n) (h5 : n ≤ 1000) : w.ownsRow base t 1 (.slice (some ⟨g, 0, none⟩) n n) n xs := by
  have hs : cs.size = n * 1 := by rw [← Array.length_toList, hc, hn]; omega
  refine ⟨by omega, .inr ⟨g, n, cs, rfl, hb, h, Nat.le_refl _, by unfold maxLen; omega, hs, ?_⟩⟩
  rw [hc, List.take_of_length_le (by omega)]
theorem sumQ_places {E : Int} (hE : E ≤ 120) {x y : Rat} (hx : 0 ≤ x ∧ x ≤ (E : Rat) ∧ x.den ≤ 800000) (hy : 0 ≤ y ∧ y ≤ (E : Rat) ∧ y.den ≤ 800000) : SumQ x y := by
  have h1 : (E : Rat) ≤ ((120 : Int) : Rat) := Rat.intCast_le_intCast.2 hE
  have h2 : ((120 : Int) : Rat) = ((120 : Nat) : Rat) := rfl
  have m : x.den * y.den ≤ 800000 * 800000 := Nat.mul_le_mul hx.2.2 hy.2.2
  exact sumQ_of hx.1 hy.1 120 120 (by grind) (by grind) (800000 * 800000) m (by omega) (by omega) (by omega)

theorem heap_two_eq {w : World} {g k o p : Nat} (u v : Value) (hne : k ≠ g) : ((w.setCell ⟨g, o, none⟩ u).setCell ⟨g, p, none⟩ v).heap[k]? = w.heap[k]? := by
  rw [heap_setCell_other _ _ _ _ (by show k ≠ g; exact hne), heap_setCell_other _ _ _ _ (by show k ≠ g; exact hne)]

set_option maxRecDepth 100000 in
set_option maxHeartbeats 8000000 in
theorem sKnife_any (L : List Int) (V : List (List Int)) (aoL : Option Addr) (nL cL : Nat) (aoV : Option Addr) (nV cV : Nat) (w : World) (hf : Fld w aoL nL aoV nV L V) (hl : nL ≤ 100) (hv : nV ≤ 100) (hr : ∀ r ∈ V, r.length ≤ 100) :
    Calls Try.prog 44 #[.agg #[.slice aoL nL cL, .slice aoV nV cV]] w fun e w' => ∃ v, e = .returned (.tuple #[v, .int .i64 (Kn.val L V)]) ∧ w'.ownsRow w.heap.size 86 5 v (Kn.knL L V).length (flat5 (Kn.knL L V)) ∧ Below w.heap.size w w' := by
  have hA := (Below.refl _ w).alloc (Nat.le_refl _) (.cells #[.slice aoL nL cL, .slice aoV nV cV] 57)
  have rf := heap_alloc_new w (.cells #[.slice aoL nL cL, .slice aoV nV cV] 57)
  go_enter Try.func44, Try.ntmps44
  go_upto_region 1 with fail
  generalize w.alloc (.cells #[.slice aoL nL cL, .slice aoV nV cV] 57) = W0 at hA rf ⊢
  obtain ⟨G, hG⟩ : ∃ g, g = w.heap.size := ⟨_, rfl⟩
  rw [← hG] at rf ⊢
  have HG := Lib.hid hG
  clear hG
  replace hf := hf.below hA
  obtain ⟨⟨x0, x1⟩, -, -⟩ := row_fr rf
  go_wp2_with fail
  refine ((sValidate_any L V _ _ _ _ _ _ W0 hf hl hv hr)).mono ?_
  rintro e w1 ⟨rfl, hbb⟩
  replace hf := hf.below hbb
  replace rf := heap_keep hbb rf
  replace hA := hA.trans (hbb.mono hA.size)
  clear hbb
  clear x0 x1
  by_cases hz : Kn.val L V = 0
  · have hok := Kn.val_ok.1 hz
    have hk : Hid (Kn.knL L V = (Kn.divide L V).map pc) := Lib.hid (by unfold Kn.knL; rw [if_pos hz])
    have Hz := Lib.hid hz
    have HnV := Lib.hid hf.nv
    have hn5 : nV ≤ 5 := by have := hf.nv; have := hok.v5; omega
    have hn1 : 1 ≤ nV := by have := hf.nv; have := hok.v1; omega
    have hst := hok.stopB
    rw [hz]
    clear hz
    obtain ⟨i0, hi0, hz0, hz1, hz2⟩ := info_bl
    obtain ⟨i1, hi1, hy0, hy1, hy2⟩ := info_pc
    have hmk : ∀ w0 : World, (Instr.makeSlice 111 (.int .i64 nV) (.int .i64 nV)).run Try.prog w0 = .ok (.slice (some ⟨w0.heap.size, 0, none⟩) nV nV) (w0.alloc (.cells (madeCells (Value.bool false).cells (nV * 1)) 4)) := fun w0 => by
      have h := run_make (P := Try.prog) w0 111 4 i0 _ Try.underlying111 hi0 hz0 .i64 .i64 nV nV (by omega) (Int.le_refl _) (by rw [hz2]; omega) (by omega)
      rw [Int.toNat_natCast, hz1] at h
      exact h
    have hmd := made1 nV hn5
    generalize madeCells (Value.bool false).cells (nV * 1) = cur0 at hmk hmd
    have hg0 := own_made1 (base := w1.heap.size) (n := nV) (xs := List.replicate nV (.bool false)) (heap_alloc_new w1 (.cells cur0 4)) hmd (Nat.le_refl _) (by simp) (by omega)
    have hal := (Below.refl w1.heap.size w1).alloc (Nat.le_refl _) (.cells cur0 4)
    obtain ⟨⟨x0, x1⟩, -, -⟩ := row_fr rf
    go_upto_region 5 with (first | (at_make; refine wpList_make rfl _ _ _ rfl (.int .i64 nV) (.int .i64 nV) rfl rfl _ _ (hmk _) ?_))
    generalize w1.alloc (.cells cur0 4) = W2 at hg0 hal ⊢
    obtain ⟨Gg, hGg⟩ : ∃ g, g = w1.heap.size := ⟨_, rfl⟩
    rw [← hGg] at hg0 ⊢
    have HGg := Lib.hid hGg
    have hGG : G < Gg := by have := heap_lt rf; omega
    have hGgs : Gg < W2.heap.size := by
      obtain ⟨g, cap, he, -, -, -, ⟨cs, hh⟩, -⟩ := own_slot hg0 (k := 0) (by simp; omega)
      cases he
      exact heap_lt hh
    clear hGg hmk hmd hi0 hz0 hz1 hz2 x0 x1
    go_wp2_with fail
    refine (swhole_z W2).mono ?_
    rintro e w2 ⟨rfl, hbb⟩
    replace hg0 := own_below hg0 hbb
    replace hal := hal.trans (hbb.mono hal.size)
    replace hGgs := Nat.lt_of_lt_of_le hGgs hbb.size
    clear hbb
    go_upto_region 6 with fail
    have r6 := heap_alloc_new w2 (.cells #[.int .i64 0, .int .i64 1] 29)
    have hal2 := (Below.refl w2.heap.size w2).alloc (Nat.le_refl _) (.cells #[.int .i64 0, .int .i64 1] 29)
    replace hg0 := own_below hg0 hal2
    replace hal := hal.trans (hal2.mono hal.size)
    have hs6 : (w2.alloc (.cells #[.int .i64 0, .int .i64 1] 29)).heap.size = w2.heap.size + 1 := by simp
    clear hal2
    generalize w2.alloc (.cells #[.int .i64 0, .int .i64 1] 29) = W3 at hg0 hal r6 hs6 ⊢
    obtain ⟨G6, hG6⟩ : ∃ g, g = w2.heap.size := ⟨_, rfl⟩
    rw [← hG6] at r6 hGgs hs6 ⊢
    clear hG6
    have hfB := fun w' (hb : Below w1.heap.size w1 w') => hf.below hb
    have rfB := fun w' (hb : Below w1.heap.size w1 w') => heap_keep hb rf
    have HfB := Lib.hid hfB
    have HrfB := Lib.hid rfB
    clear hfB rfB
    replace hf := HfB.out _ hal
    obtain ⟨⟨x0, x1⟩, -, -⟩ := row_fr (HrfB.out _ hal)
    go_wp2_with fail
    clear x0 x1
    go_loopw [7, 8] (fun vo c wr => ∃ (cn : Nat) (left : List Nat) (a : Rat) (ps : List (Nat × Rat × Rat)), cn ≤ nV ∧ c = .int .i64 cn ∧ Hid (Kn.SI L V cn left a ps) ∧ Hid (wr.ownsRow Gg 4 1 (.slice (some ⟨Gg, 0, none⟩) nV nV) nV (Kn.goneL V left)) ∧ wr.heap[G6]? = some (.cells #[.int .i64 a.num, .int .i64 a.den] 29 (0, 0)) ∧ Hid (wr.ownsRow W3.heap.size 86 5 vo ps.length (flat5 (ps.map pc))) ∧ ps.length + cn = nV ∧ W3.heap.size ≤ wr.heap.size ∧ Below w1.heap.size w1 wr) (fun _ c _ => (intOf c).toNat)
    case atStart =>
      refine ⟨nV, List.range nV, 0, [], Nat.le_refl _, rfl, Lib.hid ?_, Lib.hid ?_, r6, Lib.hid ⟨rfl, .inl ⟨rfl, rfl⟩⟩, by simp, Nat.le_refl _, hal⟩
      · rw [HnV.out]; exact Kn.SI.start hok
      · rw [HnV.out, Kn.goneL_all, ← HnV.out]; exact hg0
    case round =>
      clear hg0 r6 hal
      obtain ⟨cn, left, a, ps, hcn, rfl, HSI, HO, r6, HP, hpl, hsz, hb⟩ := hrel
      cases cn with
      | zero =>
        have HF := Lib.hid (HSI.out.fin rfl)
        have hwb : w.heap.size ≤ W3.heap.size := by have := hA.size; have := HGg.out; omega
        clear HO HSI r6
        go_wp2_with fail
        go_ret2
        refine ⟨u7, by simp [Hz.out], ?_, hA.trans (hb.mono hA.size)⟩
        rw [hk.out, ← HF.out, List.length_map]
        exact own_mono HP.out hwb
      | succ f =>
        obtain ⟨hStt, -⟩ := HSI.out.run f rfl
        obtain ⟨hxm, hnx⟩ := HSI.out.next hok
        have hra := Kn.rfirst_res hok hStt
        obtain ⟨X, hX⟩ : ∃ x, x = Kn.res L V f left a := ⟨_, rfl⟩
        rw [← hX] at hxm hnx hra
        clear hX
        obtain ⟨x, t⟩ := X
        simp only at hxm hnx
        have Hnx := Lib.hid hnx
        have hxn : x < V.length := hStt.mem x hxm
        have Hra := Lib.hid hra
        have Hsrt := Lib.hid HSI.out.srt
        have HSt := Lib.hid hStt
        have i0 : (0 : Int) < ((f + 1 : Nat) : Int) := by omega
        clear hnx hxm hra hStt HSI
        obtain ⟨⟨x0, x1⟩, -, -⟩ := row_fr (HrfB.out _ hb)
        have hf1 := HfB.out _ hb
        go_wp2_with fail
        refine (send_any L V _ _ _ _ _ _ wr hf1 hok).mono ?_
        rintro e z1 ⟨rfl, hbb⟩
        replace HO := Lib.hid (own_below HO.out hbb)
        replace HP := Lib.hid (own_below HP.out hbb)
        replace r6 := heap_keep hbb r6
        replace hsz := Nat.le_trans hsz hbb.size
        replace hb := hb.trans (hbb.mono hb.size)
        clear hbb x0 x1 hf1
        go_upto_region 11 with fail
        have r10 := heap_alloc_new z1 (.cells #[.int .i64 (Kn.stop L), .int .i64 1] 29)
        have hal := (Below.refl z1.heap.size z1).alloc (Nat.le_refl _) (.cells #[.int .i64 (Kn.stop L), .int .i64 1] 29)
        generalize z1.alloc (.cells #[.int .i64 (Kn.stop L), .int .i64 1] 29) = W5 at r10 hal ⊢
        obtain ⟨G10, hG10⟩ : ∃ g, g = z1.heap.size := ⟨_, rfl⟩
        rw [← hG10] at r10 ⊢
        have hG10z : z1.heap.size ≤ G10 := by omega
        have HG10 := Lib.hid hG10
        have h610 : G6 < G10 := by have := hsz; omega
        clear hG10
        go_wp2_with fail
        go_loopw [9, 11] (fun fi i wr => ∃ (k : Nat) (s : Option (Nat × Rat)), k ≤ nV ∧ i = .int .i64 k ∧ fi = .int .i64 (Kn.fI s) ∧ Hid (s = Kn.rfirst (Kn.pQ L V f a) ((List.range k).filter fun o => decide (o ∈ left))) ∧ wr.heap[G10]? = some (.cells #[.int .i64 (Kn.toQ (Kn.stop L : Rat) s).num, .int .i64 (Kn.toQ (Kn.stop L : Rat) s).den] 29 (0, 0)) ∧ Below z1.heap.size z1 wr) (fun _ i _ => nV - (intOf i).toNat)
        case atStart => exact ⟨0, none, Nat.zero_le _, rfl, rfl, Lib.hid rfl, r10, hal⟩
        case round =>
          clear r10 hal
          obtain ⟨k, s, hk, rfl, rfl, HS, r10, hq⟩ := hrel
          have hbq := hb.trans (hq.mono hb.size)
          have hfq := HfB.out _ hbq
          obtain ⟨⟨x0, x1⟩, -, -⟩ := row_fr (HrfB.out _ hbq)
          by_cases hlt : k < nV
          · have hkv : k < V.length := by have := HnV.out; omega
            obtain ⟨g, cap, he, -, -, hgc, -, -⟩ := own_slot (own_below HO.out hq) (k := k) (by rw [Kn.goneL_len]; exact hkv)
            cases he
            rw [Kn.goneL_at hkv] at hgc
            have hsn := Lib.hid (Kn.rfirst_snoc (P := Kn.pQ L V f a) (left := left) (k := k))
            have i1 : (k : Int) < (nV : Int) := by omega
            by_cases hkl : k ∈ left
            · rw [decide_eq_true hkl, Bool.not_true] at hgc
              have hPf := HSt.out.call hok hkl
              have hS3 := Kn.rfirst_at hok HSt.out (l := (List.range k).filter fun o => decide (o ∈ left)) (fun o ho => by simpa using (List.mem_filter.1 ho).2) (s := none) ⟨by show (0 : Rat) ≤ (Kn.stop L : Rat); exact_mod_cast (show (0 : Int) ≤ Kn.stop L by omega), Rat.le_refl, by show ((Kn.stop L : Int) : Rat).den ≤ 800000; rw [Rat.den_intCast]; decide⟩
              have a0 := HSt.out.a0
              have hSu : SumQ (Kn.pQ L V f a k) (Kn.toQ (Kn.stop L : Rat) s) := by
                rw [HS.out]
                exact sumQ_places hst.2 ⟨Rat.le_trans a0 hPf.1, hPf.2.1, hPf.2.2⟩ hS3
              obtain ⟨P, hPe⟩ : ∃ p, p = Kn.pQ L V f a k := ⟨_, rfl⟩
              rw [← hPe] at hSu
              have HPe := Lib.hid hPe
              have hfrom := HSt.out.from' hok
              have ha1 := HSt.out.a1
              clear hPf hS3 hPe
              go_wp2_with fail
              refine (send_any L V _ _ _ _ _ _ wr hfq hok).mono ?_
              rintro e z2 ⟨rfl, hb2⟩
              replace r10 := heap_keep hb2 r10
              replace hq := hq.trans (hb2.mono hq.size)
              have h10z : G10 < z2.heap.size := heap_lt r10
              clear hb2 x0 x1 hgc hbq hfq
              go_upto_region 16 with fail
              have r12 := heap_alloc_new z2 (.cells #[.int .i64 (Kn.stop L), .int .i64 1] 29)
              have hal := (Below.refl z2.heap.size z2).alloc (Nat.le_refl _) (.cells #[.int .i64 (Kn.stop L), .int .i64 1] 29)
              replace r10 := heap_keep hal r10
              replace hq := hq.trans (hal.mono hq.size)
              clear hal
              generalize z2.alloc (.cells #[.int .i64 (Kn.stop L), .int .i64 1] 29) = WT at r12 r10 hq ⊢
              obtain ⟨G12, hG12⟩ : ∃ g, g = z2.heap.size := ⟨_, rfl⟩
              rw [← hG12] at r12 h10z ⊢
              clear hG12
              by_cases hf0 : f = 0
              · have hP0 : P = (Kn.stop L : Rat) := by rw [HPe.out]; unfold Kn.pQ; rw [if_pos hf0]
                have g1 : ¬ (1 : Int) < ((f + 1 : Nat) : Int) := by omega
                have g2 : decide ((1 : Int) < (f : Int) + 1) = false := by rw [decide_eq_false_iff_not]; omega
                have g3 : ¬ (0 : Int) < (f : Int) := by omega
                have g4 : ¬ 0 < f := by omega
                have r12' : WT.heap[G12]? = some (.cells #[.int .i64 P.num, .int .i64 P.den] 29 (0, 0)) := by rw [hP0]; exact r12
                replace r12 := r12'
                clear hP0 hf0 r12'
                go_upto_region 18 with fail
                cases s with
                | none =>
                  rw [show Kn.fI none = -1 from rfl]
                  have hnew : Hid (some (k, P) = Kn.rfirst (Kn.pQ L V f a) ((List.range (k + 1)).filter fun o => decide (o ∈ left))) := Lib.hid (by rw [hsn.out, if_pos hkl, ← HS.out, HPe.out]; rfl)
                  obtain ⟨⟨y0, y1⟩, -, -⟩ := row_fr r12
                  obtain ⟨⟨t0, t1⟩, s0, s1⟩ := row_fr r10
                  have r10b := two_cells r10 (.int .i64 P.num) (.int .i64 (P.den : Int))
                  have hq2 := below_setCell (g := G10) (o := 1) (below_setCell (g := G10) (o := 0) hq hG10z (.int .i64 P.num)) hG10z (.int .i64 (P.den : Int))
                  clear HS hsn hSu
                  go_wp2_with fail
                  go_roundw
                  case rel => exact ⟨k + 1, some (k, P), by omega, by go_num, rfl, hnew, r10b, hq2⟩
                  case measure => simp [intOf]; omega
                | some yu =>
                  obtain ⟨y, u⟩ := yu
                  rw [show Kn.fI (some (y, u)) = (y : Int) from rfl]
                  have d0 : decide ((y : Int) < 0) = false := by rw [decide_eq_false_iff_not]; omega
                  have hSu2 : SumQ P u := hSu
                  have r10u : WT.heap[G10]? = some (.cells #[.int .i64 u.num, .int .i64 u.den] 29 (0, 0)) := r10
                  have hnew : Hid (some (if P < u then (k, P) else (y, u)) = Kn.rfirst (Kn.pQ L V f a) ((List.range (k + 1)).filter fun o => decide (o ∈ left))) := Lib.hid (by rw [hsn.out, if_pos hkl, ← HS.out, HPe.out]; rfl)
                  clear r10 hSu HS hsn
                  obtain ⟨⟨y0, y1⟩, -, -⟩ := row_fr r12
                  obtain ⟨⟨t0, t1⟩, -, -⟩ := row_fr r10u
                  go_wp2_with fail
                  refine (rless_q P u WT hSu2).mono ?_
                  rintro e z4 ⟨rfl, hb4⟩
                  replace r12 := heap_keep hb4 r12
                  replace r10u := heap_keep hb4 r10u
                  replace hq := hq.trans (hb4.mono hq.size)
                  clear hb4 y0 y1 t0 t1 hSu2
                  by_cases hc : P < u
                  · rw [if_pos hc] at hnew
                    rw [decide_eq_true hc]
                    clear hc
                    obtain ⟨⟨y0, y1⟩, -, -⟩ := row_fr r12
                    obtain ⟨⟨t0, t1⟩, s0, s1⟩ := row_fr r10u
                    have r10b := two_cells r10u (.int .i64 P.num) (.int .i64 (P.den : Int))
                    have hq2 := below_setCell (g := G10) (o := 1) (below_setCell (g := G10) (o := 0) hq hG10z (.int .i64 P.num)) hG10z (.int .i64 (P.den : Int))
                    go_wp2_with fail
                    go_roundw
                    case rel => exact ⟨k + 1, some (k, P), by omega, by go_num, rfl, hnew, r10b, hq2⟩
                    case measure => simp [intOf]; omega
                  · rw [if_neg hc] at hnew
                    rw [decide_eq_false hc]
                    clear hc
                    go_wp2_with fail
                    go_roundw
                    case rel => exact ⟨k + 1, some (y, u), by omega, by go_num, rfl, hnew, r10u, hq⟩
                    case measure => simp [intOf]; omega
              · have hP0 : P = Kn.callQ L V k a := by rw [HPe.out]; unfold Kn.pQ; rw [if_neg hf0]
                have g1 : (1 : Int) < ((f + 1 : Nat) : Int) := by omega
                have g2 : decide ((1 : Int) < (f : Int) + 1) = true := by rw [decide_eq_true_iff]; omega
                have g3 : (0 : Int) < (f : Int) := by omega
                have g4 : 0 < f := by omega
                have hbq := hb.trans (hq.mono hb.size)
                have hfq := HfB.out _ hbq
                obtain ⟨⟨x0, x1⟩, -, -⟩ := row_fr (HrfB.out _ hbq)
                obtain ⟨⟨y0, y1⟩, -, -⟩ := row_fr (heap_keep hq r6)
                have hsc := scall_any L V k a aoL nL cL aoV nV cV WT hfq hok hkv hfrom ha1
                rw [← hP0] at hsc
                clear hP0 hf0
                go_wp2_with fail
                refine hsc.mono ?_
                rintro e z3 ⟨rfl, hb3⟩
                replace r10 := heap_keep hb3 r10
                replace r12 := heap_keep hb3 r12
                replace hq := hq.trans (hb3.mono hq.size)
                clear hb3 x0 x1 y0 y1 hsc hbq hfq
                obtain ⟨⟨y0, y1⟩, s0, s1⟩ := row_fr r12
                have r12b := two_cells r12 (.int .i64 P.num) (.int .i64 (P.den : Int))
                have r10b := heap_two_other (.int .i64 P.num) (.int .i64 (P.den : Int)) (show G10 ≠ G12 by omega) r10
                have hq2 := below_setCell (g := G12) (o := 1) (below_setCell (g := G12) (o := 0) hq (by omega) (.int .i64 P.num)) (by omega) (.int .i64 (P.den : Int))
                go_upto_region 18 with fail
                clear y0 y1 s0 s1 r10 r12 hq
                generalize (z3.setCell ⟨G12, 0, none⟩ (.int .i64 P.num)).setCell ⟨G12, 1, none⟩ (.int .i64 (P.den : Int)) = WU at r12b r10b hq2 ⊢
                have r12 := r12b
                have r10 := r10b
                have hq := hq2
                clear r12b r10b hq2 WT
                rename World => WT
                cases s with
                | none =>
                  rw [show Kn.fI none = -1 from rfl]
                  have hnew : Hid (some (k, P) = Kn.rfirst (Kn.pQ L V f a) ((List.range (k + 1)).filter fun o => decide (o ∈ left))) := Lib.hid (by rw [hsn.out, if_pos hkl, ← HS.out, HPe.out]; rfl)
                  obtain ⟨⟨y0, y1⟩, -, -⟩ := row_fr r12
                  obtain ⟨⟨t0, t1⟩, s0, s1⟩ := row_fr r10
                  have r10b := two_cells r10 (.int .i64 P.num) (.int .i64 (P.den : Int))
                  have hq2 := below_setCell (g := G10) (o := 1) (below_setCell (g := G10) (o := 0) hq hG10z (.int .i64 P.num)) hG10z (.int .i64 (P.den : Int))
                  clear HS hsn hSu
                  go_wp2_with fail
                  go_roundw
                  case rel => exact ⟨k + 1, some (k, P), by omega, by go_num, rfl, hnew, r10b, hq2⟩
                  case measure => simp [intOf]; omega
                | some yu =>
                  obtain ⟨y, u⟩ := yu
                  rw [show Kn.fI (some (y, u)) = (y : Int) from rfl]
                  have d0 : decide ((y : Int) < 0) = false := by rw [decide_eq_false_iff_not]; omega
                  have hSu2 : SumQ P u := hSu
                  have r10u : WT.heap[G10]? = some (.cells #[.int .i64 u.num, .int .i64 u.den] 29 (0, 0)) := r10
                  have hnew : Hid (some (if P < u then (k, P) else (y, u)) = Kn.rfirst (Kn.pQ L V f a) ((List.range (k + 1)).filter fun o => decide (o ∈ left))) := Lib.hid (by rw [hsn.out, if_pos hkl, ← HS.out, HPe.out]; rfl)
                  clear r10 hSu HS hsn
                  obtain ⟨⟨y0, y1⟩, -, -⟩ := row_fr r12
                  obtain ⟨⟨t0, t1⟩, -, -⟩ := row_fr r10u
                  go_wp2_with fail
                  refine (rless_q P u WT hSu2).mono ?_
                  rintro e z4 ⟨rfl, hb4⟩
                  replace r12 := heap_keep hb4 r12
                  replace r10u := heap_keep hb4 r10u
                  replace hq := hq.trans (hb4.mono hq.size)
                  clear hb4 y0 y1 t0 t1 hSu2
                  by_cases hc : P < u
                  · rw [if_pos hc] at hnew
                    rw [decide_eq_true hc]
                    clear hc
                    obtain ⟨⟨y0, y1⟩, -, -⟩ := row_fr r12
                    obtain ⟨⟨t0, t1⟩, s0, s1⟩ := row_fr r10u
                    have r10b := two_cells r10u (.int .i64 P.num) (.int .i64 (P.den : Int))
                    have hq2 := below_setCell (g := G10) (o := 1) (below_setCell (g := G10) (o := 0) hq hG10z (.int .i64 P.num)) hG10z (.int .i64 (P.den : Int))
                    go_wp2_with fail
                    go_roundw
                    case rel => exact ⟨k + 1, some (k, P), by omega, by go_num, rfl, hnew, r10b, hq2⟩
                    case measure => simp [intOf]; omega
                  · rw [if_neg hc] at hnew
                    rw [decide_eq_false hc]
                    clear hc
                    go_wp2_with fail
                    go_roundw
                    case rel => exact ⟨k + 1, some (y, u), by omega, by go_num, rfl, hnew, r10u, hq⟩
                    case measure => simp [intOf]; omega
            · rw [decide_eq_false hkl, Bool.not_false] at hgc
              have hnew : Hid (s = Kn.rfirst (Kn.pQ L V f a) ((List.range (k + 1)).filter fun o => decide (o ∈ left))) := Lib.hid (by rw [hsn.out, if_neg hkl]; exact HS.out)
              clear HS hsn
              go_wp2_with fail
              go_roundw
              case rel => exact ⟨k + 1, s, by omega, by go_num, rfl, hnew, r10, hq⟩
              case measure => simp [intOf]; omega
          · have hk2 : k = nV := by omega
            have hsx : s = some (x, t) := by rw [HS.out, hk2, HnV.out, Hsrt.out]; exact Hra.out
            subst hsx
            rw [show Kn.fI (some (x, t)) = (x : Int) from rfl]
            have r10' : wr.heap[G10]? = some (.cells #[.int .i64 t.num, .int .i64 t.den] 29 (0, 0)) := r10
            have Hk := Lib.hid hk2
            have HOq := own_below HO.out hq
            have r6q := heap_keep hq r6
            have HPq := own_below HP.out hq
            have hszq := Nat.le_trans hsz hq.size
            have hPb : ∀ g, u7.ownBlock = some g → W3.heap.size ≤ g ∧ g < G10 := fun g hg => ⟨(HP.out.lt g hg).1, by have := (HP.out.lt g hg).2; have := HG10.out; omega⟩
            have h10s : G10 < wr.heap.size := heap_lt r10'
            clear hk2 r10 HS HO HP r6 Hra Hsrt hfq hq hb
            have hGg3 : Gg ≠ G6 := by omega
            have hxv : x < nV := by have := HnV.out; omega
            have hxi : (x : Int) < (nV : Int) := by omega
            obtain ⟨⟨y0, y1⟩, -, -⟩ := row_fr r6q
            obtain ⟨⟨t0, t1⟩, -, -⟩ := row_fr r10'
            go_wp2_with (first | (at_builtin; refine wpList_append_own _ rfl _ _ 59 rfl W3.heap.size 86 i1 (.agg #[.int .i64 0, .int .i64 0, .int .i64 0, .int .i64 0, .int .i64 0]) 5 40 Try.underlying59 hi1 hy0 hy1 hy2 rfl (by decide) _ ps.length _ rfl (HPq.alloc _) ⟨wr.heap.size, 0, none⟩ 1 1 [.int .i64 x, .int .i64 a.num, .int .i64 a.den, .int .i64 t.num, .int .i64 t.den] rfl rfl (World.news_of_block (cs := #[.int .i64 x, .int .i64 a.num, .int .i64 a.den, .int .i64 t.num, .int .i64 t.den]) (t := 86) (fr := (0, 0)) (heap_alloc_new wr _)) (by simp [Value.oneCell']) (by unfold maxLen; omega) (by omega) (by simp; try omega) ?_; intro v' w3 hown3 hgrow3 hnil3; have hB5 : Below W3.heap.size wr w3 := ((Below.refl W3.heap.size wr).alloc hszq _).grown hgrow3 (by simp; omega) (fun q hq => (hPb q hq).1); have r10w : w3.heap[G10]? = some (.cells #[.int .i64 t.num, .int .i64 t.den] 29 (0, 0)) := (hgrow3.block G10 (by simp; omega) (fun e => absurd (hPb G10 e.symm).2 (by omega))).trans ((heap_alloc_old _ _ h10s).trans r10'); have hBw := (hbq.alloc hbq.size (.cells #[.int .i64 x, .int .i64 a.num, .int .i64 a.den, .int .i64 t.num, .int .i64 t.den] 86)).grown hgrow3 (by have := hbq.size; simp; omega) (fun q hq => by have := (hPb q hq).1; have := HGg.out; omega); have HO3 := own_same HOq (fun g hg => by cases hg; exact hB5.block Gg (by omega)); obtain ⟨g, cap, he, -, f0, c0, -, hset⟩ := own_slot HO3 (k := x) (by rw [Kn.goneL_len]; exact hxn); cases he; have HO4 := hset (.bool true); rw [Kn.goneL_set] at HO4; have r6s := (heap_setCell_other w3 ⟨Gg, x, none⟩ G6 (.bool true) (by show G6 ≠ Gg; omega)).trans ((hB5.block G6 (by omega)).trans r6q); have r10s := (heap_setCell_other w3 ⟨Gg, x, none⟩ G10 (.bool true) (by show G10 ≠ Gg; omega)).trans r10w; have hBs := below_setCell (g := Gg) (o := x) hBw (by have := HGg.out; omega) (.bool true); have HP4 := own_same hown3 (fun g hg => heap_setCell_other w3 ⟨Gg, x, none⟩ g (.bool true) (by show g ≠ Gg; have := (hown3.lt g hg).1; omega)); have HZ := Lib.hid hB5.size; clear hown3 hgrow3 hnil3 hB5 r10w hBw HO3 hset y0 y1 t0 t1 r6q r10' HOq HPq hPb; obtain ⟨⟨y0, y1⟩, s0, s1⟩ := row_fr r6s; obtain ⟨⟨t0, t1⟩, -, -⟩ := row_fr r10s))
            have r6f := two_cells r6s (.int .i64 t.num) (.int .i64 (t.den : Int))
            have hBf := below_setCell (g := G6) (o := 1) (below_setCell (g := G6) (o := 0) hBs (by have := HGg.out; omega) (.int .i64 t.num)) (by have := HGg.out; omega) (.int .i64 (t.den : Int))
            have HOf := own_same HO4 (fun g hg => by cases hg; exact heap_two_eq (o := 0) (p := 1) (.int .i64 t.num) (.int .i64 (t.den : Int)) hGg3)
            have HPf := own_same HP4 (fun g hg => heap_two_eq (o := 0) (p := 1) (.int .i64 t.num) (.int .i64 (t.den : Int)) (show g ≠ G6 by have := (HP4.lt g hg).1; omega))
            go_roundw
            case rel =>
              refine ⟨f, _, t, ps ++ [(x, a, t)], by omega, ?_, Lib.hid Hnx.out, Lib.hid HOf, r6f, Lib.hid ?_, by rw [List.length_append]; simp; omega, ?_, hBf⟩
              · go_num
              · rw [List.length_append, List.map_append, flat5_app]
                exact HPf
              · have := HZ.out
                simp [World.setCell]
                omega
            case measure => simp [intOf]
  · have hk : Hid (Kn.knL L V = []) := Lib.hid (by unfold Kn.knL; rw [if_neg hz])
    have hne : (Kn.val L V != 0) = true := by simp [hz]
    obtain ⟨C, hC⟩ : ∃ C, Kn.val L V = C := ⟨_, rfl⟩
    rw [hC] at hz hne ⊢
    have HC := Lib.hid hC
    clear hC
    go_wp2_with fail
    go_ret2
    refine ⟨.slice none 0 0, by simp [HC.out], ?_, hA⟩
    rw [hk.out]
    exact own_none
end Go.Proofs.Ytemlfklipkpacaa
