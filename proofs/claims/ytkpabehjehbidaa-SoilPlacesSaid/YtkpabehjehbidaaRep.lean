import Derived.Test.YtkpabehjehbidaaCut
import Derived.Laws.MakeOwn
namespace Go.Proofs.Ytkpabehjehbidaa
open Go.RowKit
set_option maxRecDepth 100000 in
set_option maxHeartbeats 2000000 in
theorem mul64_one (c : Nat) (hc : 1 ≤ c) (hc8 : c ≤ 8) (w : World) : Calls Try.prog 104 #[.int .u64 1, .int .u64 c] w fun e w' => e = .returned (.tuple #[.int .u64 0, .int .u64 c]) ∧ w' = w := by
  obtain rfl | rfl | rfl | rfl | rfl | rfl | rfl | rfl : c = 1 ∨ c = 2 ∨ c = 3 ∨ c = 4 ∨ c = 5 ∨ c = 6 ∨ c = 7 ∨ c = 8 := by omega
  all_goals
    go_enter Try.func104, Try.ntmps104
    go_wp2
    go_ret2
    exact ⟨rfl, rfl⟩
set_option maxRecDepth 100000 in
set_option maxHeartbeats 2000000 in
theorem mul_one' (c : Nat) (hc : 1 ≤ c) (hc8 : c ≤ 8) (w : World) : Calls Try.prog 97 #[.int .u64 1, .int .u64 c] w fun e w' => e = .returned (.tuple #[.int .u64 0, .int .u64 c]) ∧ w' = w := by
  go_enter Try.func97, Try.ntmps97
  go_wp2_with (first | (go_at_call 104; refine (mul64_one c hc hc8 _).mono ?_; rintro e w' ⟨rfl, rfl⟩))
  go_ret2
  exact ⟨rfl, rfl⟩

/-- What Go's copy does to a row, whatever the size of an element. -/
theorem run_copy_sized {P : Program} (w : World) (dT sT ty elem : TypeId) (g o dLen dCap : Nat) (a : Addr) (sLen sCap sz : Nat) (cur : Array Value) (t : TypeId) (cs : List Value)
    (hu : P.underlying dT = some (.slice elem)) (hs : (P.info? elem).map (·.size) = some sz)
    (hg : w.heap[g]? = some (.cells cur t (0, 0))) (hn : cs.length = Nat.min sLen dLen * sz)
    (hsrc : ∀ j v, cs[j]? = some v → w.cell? (a.add j) = some v) (hfit : o + cs.length ≤ cur.size) (h1 : ∀ v ∈ cs, v.oneCell' = true) :
    (Builtin.copy_ #[dT, sT] ty #[.slice (some ⟨g, o, none⟩) dLen dCap, .slice (some a) sLen sCap]).run P w =
      .ok (goInt (Nat.min sLen dLen)) (w.setRow g (cur.toList.take o ++ cs ++ cur.toList.drop (o + cs.length)).toArray) := by
  have hl := run_loadCells_list (P := P) w a cs hsrc
  have hst := run_storeCells_at P g o t cs 0 cur w hg (by simpa using hfit) h1
  cases hq : P.info? elem with
  | none => simp [hq] at hs
  | some i =>
    have hi : i.size = sz := by simpa [hq] using hs
    simp [Builtin.copy_, run_underlying hu, Builtin.lenOf, Builtin.firstCells, sizeOf, typeInfo, hq, hi, ← hn, hl, hst]
theorem wpList_copy_sized {P : Program} {w : World} {ops : Array Oper} {rest : List Oper} {o : Oper} {a : Act} {Q : Exit → Act → World → Prop} (hgd : o.guard = none) (d s : Operand) (dT sT : TypeId)
    (ho : o.op = .call { callee := .builtin .copy, args := #[d, s], argTypes := #[dT, sT] }) (elem : TypeId) (hu : P.underlying dT = some (.slice elem)) (sz : Nat) (hsz : (P.info? elem).map (·.size) = some sz)
    (g off dLen dCap : Nat) (ad : Addr) (sLen sCap : Nat) (hd : a.eval d = .slice (some ⟨g, off, none⟩) dLen dCap) (hs : a.eval s = .slice (some ad) sLen sCap)
    (cur : Array Value) (t : TypeId) (hg : w.heap[g]? = some (.cells cur t (0, 0))) (cs : List Value) (hn : cs.length = Nat.min sLen dLen * sz)
    (hsrc : ∀ j v, cs[j]? = some v → w.cell? (ad.add j) = some v) (hfit : off + cs.length ≤ cur.size) (h1 : ∀ v ∈ cs, v.oneCell' = true)
    (h : ∀ w', w'.heap[g]? = some (.cells (cur.toList.take off ++ cs ++ cur.toList.drop (off + cs.length)).toArray t (0, 0)) → Below g w w' → wpList P ops Q rest (a.put o.dst (goInt (Nat.min sLen dLen))) w') : wpList P ops Q (o :: rest) a w := by
  refine wpList_plain hgd fun K hK => ?_
  have hrun := run_copy_sized (P := P) w dT sT o.type elem g off dLen dCap ad sLen sCap sz cur t cs hu hsz hg hn hsrc hfit h1
  have h2 := hK _ _ (h _ (setRow_heap w g _ _ t _ hg) (below_setRow (Below.refl _ _) (Nat.le_refl _) _))
  unfold Oper.wp
  simp [execOp, ho, resolve, invoke, builtin, hd, hs, hrun, Result.andThen]
  rw [Oper.upon_value]
  simpa using h2
theorem step_copy_sized {P : Program} {w : World} {ops : Array Oper} {o : Oper} {a : Act} {K : Act → World → Prop} {Q : Exit → Act → World → Prop} {E : Prop} (hgd : o.guard = none) (d s : Operand) (dT sT : TypeId)
    (ho : o.op = .call { callee := .builtin .copy, args := #[d, s], argTypes := #[dT, sT] }) (elem : TypeId) (hu : P.underlying dT = some (.slice elem)) (sz : Nat) (hsz : (P.info? elem).map (·.size) = some sz)
    (g off dLen dCap : Nat) (ad : Addr) (sLen sCap : Nat) (hd : a.eval d = .slice (some ⟨g, off, none⟩) dLen dCap) (hs : a.eval s = .slice (some ad) sLen sCap)
    (cur : Array Value) (t : TypeId) (hg : w.heap[g]? = some (.cells cur t (0, 0))) (cs : List Value) (m : Nat) (hm : m = Nat.min sLen dLen) (hn : cs.length = m * sz)
    (hsrc : ∀ j v, cs[j]? = some v → w.cell? (ad.add j) = some v) (hfit : off + cs.length ≤ cur.size) (h1 : ∀ v ∈ cs, v.oneCell' = true)
    (h : ∀ w', w'.heap[g]? = some (.cells (cur.toList.take off ++ cs ++ cur.toList.drop (off + cs.length)).toArray t (0, 0)) → Below g w w' → K (a.put o.dst (goInt m)) w') :
    if Region.wanted o (yielded ops a.tmps) = true then Oper.wp P o a w K Q else E := by
  have hw : Region.wanted o (yielded ops a.tmps) = true := by simp [Region.wanted, hgd]
  rw [if_pos hw]
  have hrun := run_copy_sized (P := P) w dT sT o.type elem g off dLen dCap ad sLen sCap sz cur t cs hu hsz hg (by rw [← hm]; exact hn) hsrc hfit h1
  have h2 := h _ (setRow_heap w g _ _ t _ hg) (below_setRow (Below.refl _ _) (Nat.le_refl _) _)
  rw [← hm] at hrun
  unfold Oper.wp
  simp [execOp, ho, resolve, invoke, builtin, hd, hs, hrun, Result.andThen]
  rw [Oper.upon_value]
  simpa using h2
theorem wpList_make {P : Program} {w : World} {ops : Array Oper} {rest : List Oper} {o : Oper} {a : Act} {Q : Exit → Act → World → Prop} (hgd : o.guard = none) (t : TypeId) (x y : Operand) (ho : o.op = .makeSlice t x y)
    (v1 v2 : Value) (hx : a.eval x = v1) (hy : a.eval y = v2) (v : Value) (w' : World) (hrun : (Instr.makeSlice t v1 v2).run P w = .ok v w') (h : wpList P ops Q rest (a.put o.dst v) w') : wpList P ops Q (o :: rest) a w := by
  refine wpList_plain hgd fun K hK => ?_
  have h2 := hK _ _ h
  unfold Oper.wp
  simp [execOp, ho, hx, hy, hrun, Result.andThen]
  exact h2

theorem flat2_one (L : List (Int × Int)) : ∀ v ∈ flat2 L, v.oneCell' = true := by
  intro v hv
  simp only [flat2, List.mem_flatMap] at hv
  obtain ⟨x, _, hv⟩ := hv
  simp only [List.mem_cons, List.not_mem_nil, or_false] at hv
  rcases hv with rfl | rfl <;> rfl
theorem add_off (b off j : Nat) : (⟨b, off, none⟩ : Addr).add j = ⟨b, off + j, none⟩ := by unfold Addr.add; split <;> simp_all

/-- A block whose beginning is the same fraction again and again. -/
def RepRow (w : World) (G c j : Nat) (x : Rat) : Prop :=
  ∃ cur, w.heap[G]? = some (.cells cur 70 (0, 0)) ∧ cur.size = c * 2 ∧ cur.toList.take (j * 2) = flat2 (List.replicate j (pr x))
theorem flat2_rep (j : Nat) (p : Int × Int) : (flat2 (List.replicate j p)).length = j * 2 := by rw [flat2_length, List.length_replicate]
theorem rep_next {cur : Array Value} {c j m : Nat} {x : Rat} (hs : cur.size = c * 2) (ht : cur.toList.take (j * 2) = flat2 (List.replicate j (pr x))) (hm : j + m ≤ c) :
    (cur.toList.take (j * 2) ++ flat2 (List.replicate m (pr x)) ++ cur.toList.drop (j * 2 + (flat2 (List.replicate m (pr x))).length)).toArray.size = c * 2 ∧
    (cur.toList.take (j * 2) ++ flat2 (List.replicate m (pr x)) ++ cur.toList.drop (j * 2 + (flat2 (List.replicate m (pr x))).length)).toArray.toList.take ((j + m) * 2) = flat2 (List.replicate (j + m) (pr x)) := by
  have hcl : cur.toList.length = c * 2 := by rw [Array.length_toList, hs]
  constructor
  · simp only [List.size_toArray, List.length_append, List.length_drop, flat2_rep, List.length_take, hcl]
    omega
  · have hl : (cur.toList.take (j * 2) ++ flat2 (List.replicate m (pr x))).length = (j + m) * 2 := by
      rw [List.length_append, flat2_rep, List.length_take, hcl]; omega
    show List.take _ (_ ++ _) = _
    rw [← hl, List.take_left, ht, ← flat2_app, List.replicate_append_replicate]
theorem rep_frs {w : World} {G c : Nat} {x : Rat} (h : RepRow w G c c x) : Frs w (some ⟨G, 0, none⟩) (List.replicate c x) := by
  obtain ⟨cur, hg, hs, ht⟩ := h
  refine ⟨fun h0 => ⟨G, 0, rfl, heap_lt hg, fun i hi => ?_⟩⟩
  rw [List.length_map, List.length_replicate] at hi
  have e : ((List.replicate c x).map pr).getD i (0, 0) = pr x := by simp [List.getD_eq_getElem?_getD, hi]
  rw [e, cell_of_row w G _ _ _ _ hg, cell_of_row w G _ _ _ _ hg, Nat.zero_add]
  have hL : i < (List.replicate c (pr x)).length := by simpa using hi
  obtain ⟨a1, a2⟩ := flat2_at hL
  rw [← ht, List.getElem?_take, if_pos (by omega)] at a1 a2
  rw [List.getElem_replicate] at a1 a2
  exact ⟨by simpa using a1, by simpa using a2⟩
theorem rep_src {w : World} {G c j m : Nat} {x : Rat} (h : RepRow w G c j x) (hm : m ≤ j) : ∀ i v, (flat2 (List.replicate m (pr x)))[i]? = some v → w.cell? ((⟨G, 0, none⟩ : Addr).add i) = some v := by
  obtain ⟨cur, hg, hs, ht⟩ := h
  intro i v hi
  have hil := (List.getElem?_eq_some_iff.1 hi).1
  rw [flat2_rep] at hil
  rw [add_off, Nat.zero_add, cell_of_row w G _ _ _ _ hg]
  have e : flat2 (List.replicate j (pr x)) = flat2 (List.replicate m (pr x)) ++ flat2 (List.replicate (j - m) (pr x)) := by
    rw [← flat2_app, List.replicate_append_replicate]; congr 2; omega
  have h2 : (flat2 (List.replicate j (pr x)))[i]? = some v := by rw [e, List.getElem?_append_left (by rw [flat2_rep]; exact hil)]; exact hi
  rw [← ht, List.getElem?_take, if_pos (by omega)] at h2
  simpa using h2

set_option maxRecDepth 100000 in
set_option maxHeartbeats 2000000 in
theorem repeat_any (x : Rat) (b off cap c : Nat) (w : World) (hc1 : 1 ≤ c) (hc8 : c ≤ 8) (hbs : b < w.heap.size) (hx0 : w.cell? ⟨b, off, none⟩ = some (.int .i64 x.num)) (hx1 : w.cell? ⟨b, off + 1, none⟩ = some (.int .i64 x.den)) :
    Calls Try.prog 80 #[.slice (some ⟨b, off, none⟩) 1 cap, .int .i64 c] w fun e w' => ∃ g, e = .returned (.slice (some ⟨g, 0, none⟩) c c) ∧ Frs w' (some ⟨g, 0, none⟩) (List.replicate c x) ∧ Below w.heap.size w w' := by
  obtain ⟨i0, hi0, hz0, hz1, hz2⟩ := info_fr
  go_enter Try.func80, Try.ntmps80
  have hmk : ∀ w0 : World, (Instr.makeSlice 86 (.int .i64 c) (.int .i64 c)).run Try.prog w0 = .ok (.slice (some ⟨w0.heap.size, 0, none⟩) c c) (w0.alloc (.cells (madeCells (Value.agg #[.int .i64 0, .int .i64 0]).cells (c * 2)) 70)) := fun w0 => by
    have h := run_make (P := Try.prog) w0 86 70 i0 _ Try.underlying86 hi0 hz0 .i64 .i64 c c (by omega) (Int.le_refl _) (by rw [hz2]; omega) (by omega)
    rw [Int.toNat_natCast, hz1] at h
    exact h
  have hsz : (madeCells (Value.agg #[.int .i64 0, .int .i64 0]).cells (c * 2)).size = c * 2 := size_madeCells _ _
  generalize madeCells (Value.agg #[.int .i64 0, .int .i64 0]).cells (c * 2) = cur0 at hmk hsz
  have hg0 := heap_alloc_new w (.cells cur0 70)
  have hx0' : (w.alloc (.cells cur0 70)).cell? ⟨b, off, none⟩ = some (.int .i64 x.num) := by rw [World.cell?_alloc_past _ b off hbs]; exact hx0
  have hx1' : (w.alloc (.cells cur0 70)).cell? ⟨b, off + 1, none⟩ = some (.int .i64 x.den) := by rw [World.cell?_alloc_past _ b (off + 1) hbs]; exact hx1
  have hB1 : Below w.heap.size w (w.alloc (.cells cur0 70)) := (Below.refl _ w).alloc (Nat.le_refl _) _
  go_wp2_with (first | (go_at_call 97; refine (mul_one' c hc1 hc8 _).mono ?_; rintro e w' ⟨rfl, rfl⟩) | (at_make; refine wpList_make rfl _ _ _ rfl (.int .i64 c) (.int .i64 c) rfl rfl _ _ (hmk _) ?_) | ((with_reducible refine wpList_copy_sized rfl _ _ _ _ rfl 70 ?hu 2 ?hsz ?g ?off ?dLen ?dCap ?ad ?sLen ?sCap ?hd ?hs ?cur ?t ?hg (flat2 (List.replicate 1 (pr x))) ?hn ?hsrc ?hfit ?h1 ?h)))
  case hd => exact rfl
  case hs => exact rfl
  case hu => exact Try.underlying86
  case hsz => exact infoFr2
  case hg => exact hg0
  case hn => rw [flat2_rep, show Nat.min 1 c = 1 from Nat.min_eq_left hc1]
  case hsrc =>
    intro j v hj
    have hjl := (List.getElem?_eq_some_iff.1 hj).1
    rw [flat2_rep] at hjl
    rw [add_off]
    obtain rfl | rfl : j = 0 ∨ j = 1 := by omega
    · have : some (Value.int .i64 x.num) = some v := hj
      rw [← Option.some.inj this]; exact hx0'
    · have : some (Value.int .i64 (x.den : Int)) = some v := hj
      rw [← Option.some.inj this]; exact hx1'
  case hfit => rw [flat2_rep, hsz]; omega
  case h1 => exact flat2_one _
  case h =>
    intro w3 hw3 hb3
    have hrn := rep_next (c := c) (j := 0) (m := 1) (x := x) hsz rfl (by omega)
    have hR : RepRow w3 w'.heap.size c 1 x := ⟨_, hw3, by simpa using hrn.1, by simpa using hrn.2⟩
    have hB3 : Below w'.heap.size w' w3 := hB1.trans hb3
    obtain ⟨G, hG⟩ : ∃ g, g = w'.heap.size := ⟨_, rfl⟩
    rw [← hG] at hR ⊢
    have hGle : w'.heap.size ≤ G := by omega
    have hm1 : Nat.min 1 c = 1 := Nat.min_eq_left hc1
    rw [hm1]
    have hg1 : Value.int .i64 ((1 : Nat) : Int) = .int .i64 1 := rfl
    rw [hg1]
    clear hg1
    clear hw3 hb3 hrn hg0 hsz hB1 hx0' hx1' hmk hG hm1
    have HB := Lib.hid hB3
    clear hB3
    go_wp2_with fail
    go_loopw [8] (fun n wr => ∃ j : Nat, 1 ≤ j ∧ j ≤ c ∧ n = .int .i64 j ∧ RepRow wr G c j x ∧ Below w'.heap.size w' wr) (fun n _ => c - (intOf n).toNat)
    case atStart => exact ⟨1, Nat.le_refl _, hc1, rfl, hR, HB.out⟩
    case round =>
      obtain ⟨j, hj1, hj, rfl, hRj, hb⟩ := hrel
      by_cases hlt : j < c
      · have i1 : (j : Int) < (c : Int) := by omega
        obtain ⟨m, hm⟩ : ∃ m, m = Nat.min j (c - j) := ⟨_, rfl⟩
        have hmb : 1 ≤ m ∧ m ≤ j ∧ j + m ≤ c := by rw [hm]; simp only [Nat.min_def]; split <;> omega
        have Hm := Lib.hid hm
        clear hm
        obtain ⟨cur, hcg, hcs, hct⟩ := hRj
        have hRj' : RepRow wr G c j x := ⟨cur, hcg, hcs, hct⟩
        go_wp2_with fail
        have hcd : wr.drew.heap[G]? = some (.cells cur 70 (0, 0)) := hcg
        have hRd : RepRow wr.drew G c j x := hRj'
        have hrn := Lib.hid (rep_next (m := m) hcs hct hmb.2.2)
        have hjm : IntKind.i64.wrap ((j : Int) + (m : Int)) = (j : Int) + (m : Int) := IntWalk.i64_in _ (by omega)
        have hrun := run_copy_sized (P := Try.prog) wr.drew 86 86 3 70 G (j * 2) (c - j) (c - j) ⟨G, 0, none⟩ j c 2 cur 70 (flat2 (List.replicate m (pr x))) Try.underlying86 infoFr2 hcd (by rw [flat2_rep, Hm.out]) (rep_src hRd hmb.2.1) (by rw [flat2_rep, hcs]; omega) (flat2_one _)
        rw [← Hm.out] at hrun
        have hset := setRow_heap wr.drew G _ (cur.toList.take (j * 2) ++ flat2 (List.replicate m (pr x)) ++ cur.toList.drop (j * 2 + (flat2 (List.replicate m (pr x))).length)).toArray _ _ hcd
        have hbs6 : Below w'.heap.size w' (wr.drew.setRow G (cur.toList.take (j * 2) ++ flat2 (List.replicate m (pr x)) ++ cur.toList.drop (j * 2 + (flat2 (List.replicate m (pr x))).length)).toArray) := below_setRow (below_drewN hb 1) hGle _
        have hR6 : RepRow (wr.drew.setRow G (cur.toList.take (j * 2) ++ flat2 (List.replicate m (pr x)) ++ cur.toList.drop (j * 2 + (flat2 (List.replicate m (pr x))).length)).toArray) G c (j + m) x := ⟨_, hset, hrn.out.1, hrn.out.2⟩
        generalize wr.drew.setRow G (cur.toList.take (j * 2) ++ flat2 (List.replicate m (pr x)) ++ cur.toList.drop (j * 2 + (flat2 (List.replicate m (pr x))).length)).toArray = W6 at hrun hbs6 hR6
        have hgi : goInt m = .int .i64 m := rfl
        rw [hgi] at hrun
        clear hset hgi hcd hRd hcg
        have HR6 := Lib.hid (And.intro hR6 hbs6)
        clear hR6 hbs6
        go_region_held3 (fun _ => True) (exact trivial) (fail)
        go_wp2_with fail
        go_roundw
        case rel => exact ⟨j + m, by omega, hmb.2.2, by first | rfl | (congr 1; omega) | simp, HR6.out.1, HR6.out.2⟩
        case measure => simp [intOf]; omega
      · have hk2 : j = c := by omega
        have hRc : RepRow wr G c c x := by rw [hk2] at hRj; exact hRj
        have Hk := Lib.hid hk2
        clear hk2
        go_wp2
        go_ret
        exact ⟨G, rfl, rep_frs hRc, hb⟩
end Go.Proofs.Ytkpabehjehbidaa
