import Derived.Test.YtmdkdkiejcjmaaaK
/- Package term: free days, and days on which terms stand still. -/
namespace Go.Proofs.Ytmdkdkiejcjmaaa
open Go.RowKit
/-- A calendar in memory. -/
structure Cl (w : World) (aoF : Option Addr) (nF : Nat) (aoS : Option Addr) (nS : Nat) (F : List Int) (S : List (Int × Int)) : Prop where
  hF : Ints w aoF F
  hS : Pts w aoS S
  nf : nF = F.length
  ns : nS = S.length
theorem Cl.below {w w' : World} {aoF aoS : Option Addr} {nF nS : Nat} {F : List Int} {S : List (Int × Int)} (h : Cl w aoF nF aoS nS F S) (hb : Below w.heap.size w w') : Cl w' aoF nF aoS nS F S :=
  ⟨h.hF.below hb, h.hS.below hb, h.nf, h.ns⟩
namespace Tm
def wk (f d : Int) : Int := (wrap64 (f + d)).tmod 7
def free (f : Int) (F : List Int) (d : Int) : Bool := decide (wk f d = 6) || decide (d ∈ F)
def still (S : List (Int × Int)) (d : Int) : Bool := S.any fun s => decide (s.1 ≤ d) && decide (d ≤ s.2)
end Tm

set_option maxRecDepth 100000 in
set_option maxHeartbeats 2000000 in
theorem index_any (l : List Int) (v : Int) (ao : Option Addr) (n cap : Nat) (w : World) (hI : Ints w ao l) (hn : n = l.length) (hn9 : n ≤ 100000) :
    Calls Try.prog 110 #[.slice ao n cap, .int .i64 v] w fun e w' => (∃ i : Int, e = .returned (.int .i64 i) ∧ (0 ≤ i ↔ v ∈ l)) ∧ w' = w := by
  have Hn := Lib.hid hn
  clear hn
  go_enter Try.func110, Try.ntmps110
  go_wp2
  go_loop [5, 8] (fun _ i => ∃ k : Nat, k ≤ n ∧ i = .int .i64 k ∧ Hid (∀ j, j < k → l.getD j 0 ≠ v)) (fun _ i => n - (intOf i).toNat)
  case atStart => exact ⟨0, Nat.zero_le _, rfl, Lib.hid fun j hj => by omega⟩
  case round =>
    obtain ⟨k, hk, rfl, hall⟩ := hrel
    by_cases hlt : k < n
    · have hkl : k < l.length := by have := Hn.out; omega
      obtain ⟨b, off, rfl, hbs, z0⟩ := hI.at hkl
      have hmem : Hid (l.getD k 0 ∈ l) := Lib.hid (by rw [List.getD_eq_getElem?_getD, List.getElem?_eq_getElem hkl]; exact List.getElem_mem hkl)
      obtain ⟨x, hx⟩ : ∃ x, x = l.getD k 0 := ⟨_, rfl⟩
      rw [← hx] at z0 hmem
      have Hx := Lib.hid hx
      clear hx
      have i1 : (k : Int) < (n : Int) := by omega
      by_cases he : v = x
      · have hv := Lib.hid (show v ∈ l by rw [he]; exact hmem.out)
        have h1 : (v == x) = true := by simp [he]
        clear he
        go_wp2
        go_ret
        exact ⟨⟨_, rfl, ⟨fun _ => hv.out, fun _ => by omega⟩⟩, rfl⟩
      · have h1 : (v == x) = false := by simp [he]
        have hall2 : Hid (∀ j, j < k + 1 → l.getD j 0 ≠ v) := Lib.hid fun j hj => by
          rcases Nat.lt_or_ge j k with h | h
          · exact hall.out j h
          · rw [show j = k by omega, ← Hx.out]; exact fun h => he h.symm
        clear he
        go_wp2
        go_round
        case rel => exact ⟨k + 1, by omega, by go_num, hall2⟩
        case measure => simp [intOf]; omega
    · have hk2 : k = n := by omega
      have hv : Hid (¬ v ∈ l) := Lib.hid fun hm => by
        obtain ⟨j, hj, e⟩ := List.getElem_of_mem hm
        refine hall.out j (by rw [hk2, Hn.out]; exact hj) ?_
        rw [List.getD_eq_getElem?_getD, List.getElem?_eq_getElem hj]; exact e
      clear hk2
      go_wp2
      go_ret
      exact ⟨⟨_, rfl, ⟨fun h => absurd h (by omega), fun h => absurd h hv.out⟩⟩, rfl⟩

set_option maxRecDepth 100000 in
set_option maxHeartbeats 1000000 in
theorem contains_any (l : List Int) (v : Int) (ao : Option Addr) (n cap : Nat) (w : World) (hI : Ints w ao l) (hn : n = l.length) (hn9 : n ≤ 100000) :
    Calls Try.prog 92 #[.slice ao n cap, .int .i64 v] w fun e w' => e = .returned (.bool (decide (v ∈ l))) ∧ w' = w := by
  obtain ⟨bv, hbv⟩ : ∃ b, decide (v ∈ l) = b := ⟨_, rfl⟩
  rw [hbv]
  have Hb := Lib.hid hbv
  clear hbv
  have hX := index_any l v ao n cap w hI hn hn9
  clear hn hI
  go_enter Try.func92, Try.ntmps92
  go_wp2_with fail
  refine hX.mono ?_
  clear hX
  rintro e w' ⟨⟨i, rfl, hi⟩, rfl⟩
  cases bv with
  | true =>
    have h0 : 0 ≤ i := hi.2 (of_decide_eq_true Hb.out)
    clear hi Hb
    go_wp2_with fail
    go_ret
    exact ⟨rfl, rfl⟩
  | false =>
    have h0 : decide (0 ≤ i) = false := decide_eq_false fun h => of_decide_eq_false Hb.out (hi.1 h)
    clear hi Hb
    go_wp2_with fail
    go_ret
    exact ⟨rfl, rfl⟩

set_option maxHeartbeats 1000000 in
theorem week_any (f d : Int) (vF vS : Value) (aoF : Option Addr) (nF cF : Nat) (aoS : Option Addr) (nS cS : Nat) (hF : vF = .slice aoF nF cF) (hS : vS = .slice aoS nS cS) (w : World) :
    Calls Try.prog 56 #[.agg #[.int .i64 f, vF, vS], .int .i64 d] w fun e w' => e = .returned (.int .i64 (Tm.wk f d)) ∧ Below w.heap.size w w' := by
  subst hF hS
  have hA := (Below.refl _ w).alloc (Nat.le_refl _) (.cells #[.int .i64 f, .slice aoF nF cF, .slice aoS nS cS] 71)
  have rc := heap_alloc_new w (.cells #[.int .i64 f, .slice aoF nF cF, .slice aoS nS cS] 71)
  go_enter Try.func56, Try.ntmps56
  go_upto_region 1 with fail
  generalize w.alloc (.cells #[.int .i64 f, .slice aoF nF cF, .slice aoS nS cS] 71) = W0 at hA rc ⊢
  have c0 := cell_of_row W0 w.heap.size 0 _ _ _ rc
  simp at c0
  go_wp2_with fail
  go_ret
  exact ⟨rfl, hA⟩

set_option maxRecDepth 100000 in
set_option maxHeartbeats 2000000 in
theorem isFree_any (f : Int) (F : List Int) (S : List (Int × Int)) (d : Int) (aoF : Option Addr) (nF cF : Nat) (aoS : Option Addr) (nS cS : Nat) (w : World) (hc : Cl w aoF nF aoS nS F S) (h9 : nF ≤ 100000) :
    Calls Try.prog 58 #[.agg #[.int .i64 f, .slice aoF nF cF, .slice aoS nS cS], .int .i64 d] w fun e w' => e = .returned (.bool (Tm.free f F d)) ∧ Below w.heap.size w w' := by
  obtain ⟨R, hR⟩ : ∃ r, r = Tm.free f F d := ⟨_, rfl⟩
  rw [← hR]
  have HR := Lib.hid hR
  clear hR
  have hA := (Below.refl _ w).alloc (Nat.le_refl _) (.cells #[.int .i64 f, .slice aoF nF cF, .slice aoS nS cS] 71)
  have rc := heap_alloc_new w (.cells #[.int .i64 f, .slice aoF nF cF, .slice aoS nS cS] 71)
  replace hc := hc.below hA
  go_enter Try.func58, Try.ntmps58
  go_upto_region 1 with fail
  generalize w.alloc (.cells #[.int .i64 f, .slice aoF nF cF, .slice aoS nS cS] 71) = W0 at hA rc hc ⊢
  have c0 := cell_of_row W0 w.heap.size 0 _ _ _ rc
  have c1 := cell_of_row W0 w.heap.size 1 _ _ _ rc
  have c2 := cell_of_row W0 w.heap.size 2 _ _ _ rc
  simp at c0 c1 c2
  go_wp2_with fail
  refine (week_any f d _ _ aoF nF cF aoS nS cS rfl rfl W0).mono ?_
  rintro e w1 ⟨rfl, hb1⟩
  have hA1 := hA.trans (hb1.mono hA.size)
  have hc1 := hc.below hb1
  replace c1 := keep_cell hb1 c1
  clear c0 c2 rc
  obtain ⟨x, hx⟩ : ∃ x, x = Tm.wk f d := ⟨_, rfl⟩
  have hRx : Hid (R = (decide (x = 6) || decide (d ∈ F))) := Lib.hid (by rw [HR.out, hx]; rfl)
  rw [← hx]
  clear hx
  by_cases h6 : x = 6
  · have h1 : (x == 6) = true := by simp [h6]
    have hr := Lib.hid (show R = true by rw [hRx.out, h6]; rfl)
    clear h6
    go_wp2_with fail
    go_ret
    exact ⟨ret_bool hr.out.symm, hA1⟩
  · have h1 : (x == 6) = false := by simp [h6]
    have hr := Lib.hid (show R = decide (d ∈ F) by rw [hRx.out, decide_eq_false h6]; rfl)
    clear h6
    go_wp2_with fail
    refine (contains_any F d aoF nF cF w1 hc1.hF hc1.nf h9).mono ?_
    rintro e w2 ⟨rfl, rfl⟩
    go_wp2_with fail
    go_ret
    exact ⟨ret_bool hr.out.symm, hA1⟩

set_option maxRecDepth 100000 in
set_option maxHeartbeats 2000000 in
theorem isWorking_any (f : Int) (F : List Int) (S : List (Int × Int)) (d : Int) (aoF : Option Addr) (nF cF : Nat) (aoS : Option Addr) (nS cS : Nat) (w : World) (hc : Cl w aoF nF aoS nS F S) (h9 : nF ≤ 100000) :
    Calls Try.prog 73 #[.agg #[.int .i64 f, .slice aoF nF cF, .slice aoS nS cS], .int .i64 d] w fun e w' => e = .returned (.bool (!Tm.free f F d)) ∧ Below w.heap.size w w' := by
  have hA := (Below.refl _ w).alloc (Nat.le_refl _) (.cells #[.int .i64 f, .slice aoF nF cF, .slice aoS nS cS] 71)
  have rc := heap_alloc_new w (.cells #[.int .i64 f, .slice aoF nF cF, .slice aoS nS cS] 71)
  replace hc := hc.below hA
  go_enter Try.func73, Try.ntmps73
  go_upto_region 1 with fail
  generalize w.alloc (.cells #[.int .i64 f, .slice aoF nF cF, .slice aoS nS cS] 71) = W0 at hA rc hc ⊢
  have c0 := cell_of_row W0 w.heap.size 0 _ _ _ rc
  have c1 := cell_of_row W0 w.heap.size 1 _ _ _ rc
  have c2 := cell_of_row W0 w.heap.size 2 _ _ _ rc
  simp at c0 c1 c2
  go_wp2_with fail
  refine (isFree_any f F S d _ _ _ _ _ _ W0 hc h9).mono ?_
  rintro e w1 ⟨rfl, hb1⟩
  go_wp2_with fail
  go_ret
  exact ⟨rfl, hA.trans (hb1.mono hA.size)⟩

set_option maxRecDepth 100000 in
set_option maxHeartbeats 2000000 in
theorem share_any (a b c d : Int) (w : World) :
    Calls Try.prog 90 #[.agg #[.int .i64 a, .int .i64 b], .agg #[.int .i64 c, .int .i64 d]] w fun e w' => e = .returned (.bool (decide (a ≤ d) && decide (c ≤ b))) ∧ Below w.heap.size w w' := by
  obtain ⟨R, hR⟩ : ∃ r, r = (decide (a ≤ d) && decide (c ≤ b)) := ⟨_, rfl⟩
  rw [← hR]
  have HR := Lib.hid hR
  clear hR
  have hA := below_alloc2 w (.cells #[.int .i64 a, .int .i64 b] 64) (.cells #[.int .i64 c, .int .i64 d] 64)
  have ra := heap_alloc2_old w (.cells #[.int .i64 a, .int .i64 b] 64) (.cells #[.int .i64 c, .int .i64 d] 64)
  have rb := heap_alloc2_new w (.cells #[.int .i64 a, .int .i64 b] 64) (.cells #[.int .i64 c, .int .i64 d] 64)
  go_enter Try.func90, Try.ntmps90
  go_upto_region 1 with fail
  generalize (w.alloc (.cells #[.int .i64 a, .int .i64 b] 64)).alloc (.cells #[.int .i64 c, .int .i64 d] 64) = W0 at hA ra rb ⊢
  obtain ⟨⟨a0, a1⟩, -, -⟩ := row_fr ra
  obtain ⟨⟨b0, b1⟩, -, -⟩ := row_fr rb
  by_cases h1 : a ≤ d
  · by_cases h2 : c ≤ b
    · have hr := Lib.hid (show R = true by rw [HR.out, decide_eq_true h1, decide_eq_true h2]; rfl)
      go_wp2_with fail
      go_ret
      exact ⟨ret_bool hr.out.symm, hA⟩
    · have hr := Lib.hid (show R = false by rw [HR.out, decide_eq_false h2, Bool.and_false])
      go_wp2_with fail
      go_ret
      exact ⟨ret_bool hr.out.symm, hA⟩
  · have hr := Lib.hid (show R = false by rw [HR.out, decide_eq_false h1]; rfl)
    go_wp2_with fail
    go_ret
    exact ⟨ret_bool hr.out.symm, hA⟩

set_option maxRecDepth 100000 in
set_option maxHeartbeats 2000000 in
theorem isStill1_any (x : Int) (B : Nat) (a b : Int) (w : World) (hc : w.cell? ⟨B, 0, none⟩ = some (.int .i64 x)) :
    Calls Try.prog 93 #[.agg #[.int .i64 a, .int .i64 b], .pointer (some ⟨B, 0, none⟩)] w fun e w' => e = .returned (.bool (decide (a ≤ x) && decide (x ≤ b))) ∧ Below w.heap.size w w' := by
  have hA := (Below.refl _ w).alloc (Nat.le_refl _) (.cells #[.int .i64 a, .int .i64 b] 64)
  have ra := heap_alloc_new w (.cells #[.int .i64 a, .int .i64 b] 64)
  replace hc := keep_cell hA hc
  go_enter Try.func93, Try.ntmps93
  go_upto_region 1 with fail
  generalize w.alloc (.cells #[.int .i64 a, .int .i64 b] 64) = W0 at hA ra hc ⊢
  obtain ⟨⟨a0, a1⟩, -, -⟩ := row_fr ra
  go_wp2_with fail
  refine (share_any a b x x W0).mono ?_
  rintro e w1 ⟨rfl, hb1⟩
  go_wp2_with fail
  go_ret
  exact ⟨rfl, hA.trans (hb1.mono hA.size)⟩

set_option maxRecDepth 100000 in
set_option maxHeartbeats 4000000 in
theorem indexStill_any (x : Int) (B : Nat) (l : List (Int × Int)) (ao : Option Addr) (n cap : Nat) (w : World) (_ : B < w.heap.size) (hc : w.cell? ⟨B, 0, none⟩ = some (.int .i64 x)) (hI : Pts w ao l) (hn : n = l.length) (hn9 : n ≤ 100000) :
    Calls Try.prog 104 #[.slice ao n cap, .func (.func 93) #[] #[.pointer (some ⟨B, 0, none⟩)]] w fun e w' => (∃ i : Int, e = .returned (.int .i64 i) ∧ (0 ≤ i ↔ Tm.still l x = true)) ∧ Below w.heap.size w w' := by
  have Hn := Lib.hid hn
  clear hn
  go_enter Try.func104, Try.ntmps104
  go_wp2_with fail
  go_loopw [5, 8] (fun _ i wr => ∃ k : Nat, k ≤ n ∧ i = .int .i64 k ∧ Hid (∀ j, j < k → (decide ((l.getD j (0, 0)).1 ≤ x) && decide (x ≤ (l.getD j (0, 0)).2)) = false) ∧ Below w.heap.size w wr) (fun _ i _ => n - (intOf i).toNat)
  case atStart => exact ⟨0, Nat.zero_le _, rfl, Lib.hid fun j hj => (by omega), Below.refl _ _⟩
  case round =>
    obtain ⟨k, hk, rfl, hall, hb⟩ := hrel
    by_cases hlt : k < n
    · have hkl : k < l.length := by have := Hn.out; omega
      obtain ⟨b, off, rfl, hbs, hcc⟩ := (hI.below hb).cells (by omega)
      obtain ⟨z0, z1⟩ := hcc k hkl
      have hcB := keep_cell hb hc
      have hmem : Hid (l.getD k (0, 0) ∈ l) := Lib.hid (by rw [List.getD_eq_getElem?_getD, List.getElem?_eq_getElem hkl]; exact List.getElem_mem hkl)
      obtain ⟨s, hs⟩ : ∃ s, s = l.getD k (0, 0) := ⟨_, rfl⟩
      rw [← hs] at z0 z1 hmem
      obtain ⟨p, q⟩ := s
      simp only at z0 z1
      have Hs := Lib.hid hs
      clear hs hcc
      have i1 : (k : Int) < (n : Int) := by omega
      go_wp2_with fail
      refine (isStill1_any x B p q wr hcB).mono ?_
      rintro e w1 ⟨rfl, hb1⟩
      have hb2 := hb.trans (hb1.mono hb.size)
      obtain ⟨bv, hbv⟩ : ∃ b, (decide (p ≤ x) && decide (x ≤ q)) = b := ⟨_, rfl⟩
      rw [hbv]
      cases bv with
      | true =>
        have hv := Lib.hid (show Tm.still l x = true by unfold Tm.still; rw [List.any_eq_true]; exact ⟨_, hmem.out, hbv⟩)
        clear hbv
        go_wp2_with fail
        go_ret
        exact ⟨⟨_, rfl, ⟨fun _ => hv.out, fun _ => by omega⟩⟩, hb2⟩
      | false =>
        have hall2 : Hid (∀ j, j < k + 1 → (decide ((l.getD j (0, 0)).1 ≤ x) && decide (x ≤ (l.getD j (0, 0)).2)) = false) := Lib.hid fun j hj => by
          rcases Nat.lt_or_ge j k with h | h
          · exact hall.out j h
          · rw [show j = k by omega, ← Hs.out]; exact hbv
        clear hbv
        go_wp2_with fail
        go_roundw
        case rel => exact ⟨k + 1, by omega, by go_num, hall2, hb2⟩
        case measure => simp [intOf]; omega
    · have hkn : k = n := by omega
      have hv : Hid (¬ Tm.still l x = true) := Lib.hid fun hm => by
        unfold Tm.still at hm
        rw [List.any_eq_true] at hm
        obtain ⟨s, hs, e⟩ := hm
        obtain ⟨j, hj, rfl⟩ := List.getElem_of_mem hs
        have := hall.out j (by rw [hkn, Hn.out]; exact hj)
        rw [List.getD_eq_getElem?_getD, List.getElem?_eq_getElem hj] at this
        simp only [Option.getD_some] at this
        rw [this] at e
        cases e
      clear hkn
      go_wp2_with fail
      go_ret
      exact ⟨⟨_, rfl, ⟨fun h => absurd h (by omega), fun h => absurd h hv.out⟩⟩, hb⟩

set_option maxRecDepth 100000 in
set_option maxHeartbeats 2000000 in
theorem containsStill_any (x : Int) (B : Nat) (l : List (Int × Int)) (ao : Option Addr) (n cap : Nat) (w : World) (hB : B < w.heap.size) (hc : w.cell? ⟨B, 0, none⟩ = some (.int .i64 x)) (hI : Pts w ao l) (hn : n = l.length) (hn9 : n ≤ 100000) :
    Calls Try.prog 88 #[.slice ao n cap, .func (.func 93) #[] #[.pointer (some ⟨B, 0, none⟩)]] w fun e w' => e = .returned (.bool (Tm.still l x)) ∧ Below w.heap.size w w' := by
  obtain ⟨bv, hbv⟩ : ∃ b, Tm.still l x = b := ⟨_, rfl⟩
  rw [hbv]
  have Hb := Lib.hid hbv
  clear hbv
  have hX := indexStill_any x B l ao n cap w hB hc hI hn hn9
  clear hn hI
  go_enter Try.func88, Try.ntmps88
  go_wp2_with fail
  refine hX.mono ?_
  clear hX
  rintro e w' ⟨⟨i, rfl, hi⟩, hb1⟩
  cases bv with
  | true =>
    have h0 : 0 ≤ i := hi.2 Hb.out
    clear hi Hb
    go_wp2_with fail
    go_ret
    exact ⟨rfl, hb1⟩
  | false =>
    have h0 : decide (0 ≤ i) = false := decide_eq_false fun h => by have := hi.1 h; rw [Hb.out] at this; cases this
    clear hi Hb
    go_wp2_with fail
    go_ret
    exact ⟨rfl, hb1⟩

set_option maxRecDepth 100000 in
set_option maxHeartbeats 2000000 in
theorem isStill_any (f : Int) (F : List Int) (S : List (Int × Int)) (d : Int) (aoF : Option Addr) (nF cF : Nat) (aoS : Option Addr) (nS cS : Nat) (w : World) (hc : Cl w aoF nF aoS nS F S) (h9 : nS ≤ 100000) :
    Calls Try.prog 60 #[.agg #[.int .i64 f, .slice aoF nF cF, .slice aoS nS cS], .int .i64 d] w fun e w' => e = .returned (.bool (Tm.still S d)) ∧ Below w.heap.size w w' := by
  have hA := below_alloc2 w (.cells #[.int .i64 f, .slice aoF nF cF, .slice aoS nS cS] 71) (.cells #[.int .i64 d] 3)
  have rc := heap_alloc2_old w (.cells #[.int .i64 f, .slice aoF nF cF, .slice aoS nS cS] 71) (.cells #[.int .i64 d] 3)
  have rd := heap_alloc2_new w (.cells #[.int .i64 f, .slice aoF nF cF, .slice aoS nS cS] 71) (.cells #[.int .i64 d] 3)
  replace hc := hc.below hA
  go_enter Try.func60, Try.ntmps60
  go_upto_region 1 with fail
  generalize (w.alloc (.cells #[.int .i64 f, .slice aoF nF cF, .slice aoS nS cS] 71)).alloc (.cells #[.int .i64 d] 3) = W0 at hA rc rd hc ⊢
  have c2 := cell_of_row W0 w.heap.size 2 _ _ _ rc
  have d0 := cell_of_row W0 (w.heap.size + 1) 0 _ _ _ rd
  simp at c2 d0
  have hlt := heap_lt rd
  go_wp2_with fail
  refine (containsStill_any d (w.heap.size + 1) S aoS nS cS W0 hlt d0 hc.hS hc.ns h9).mono ?_
  rintro e w1 ⟨rfl, hb1⟩
  go_wp2_with fail
  go_ret
  exact ⟨rfl, hA.trans (hb1.mono hA.size)⟩

set_option maxRecDepth 100000 in
set_option maxHeartbeats 2000000 in
theorem isCounting_any (f : Int) (F : List Int) (S : List (Int × Int)) (d : Int) (aoF : Option Addr) (nF cF : Nat) (aoS : Option Addr) (nS cS : Nat) (w : World) (hc : Cl w aoF nF aoS nS F S) (h9 : nS ≤ 100000) :
    Calls Try.prog 74 #[.agg #[.int .i64 f, .slice aoF nF cF, .slice aoS nS cS], .int .i64 d] w fun e w' => e = .returned (.bool (!Tm.still S d)) ∧ Below w.heap.size w w' := by
  have hA := (Below.refl _ w).alloc (Nat.le_refl _) (.cells #[.int .i64 f, .slice aoF nF cF, .slice aoS nS cS] 71)
  have rc := heap_alloc_new w (.cells #[.int .i64 f, .slice aoF nF cF, .slice aoS nS cS] 71)
  replace hc := hc.below hA
  go_enter Try.func74, Try.ntmps74
  go_upto_region 1 with fail
  generalize w.alloc (.cells #[.int .i64 f, .slice aoF nF cF, .slice aoS nS cS] 71) = W0 at hA rc hc ⊢
  have c0 := cell_of_row W0 w.heap.size 0 _ _ _ rc
  have c1 := cell_of_row W0 w.heap.size 1 _ _ _ rc
  have c2 := cell_of_row W0 w.heap.size 2 _ _ _ rc
  simp at c0 c1 c2
  go_wp2_with fail
  refine (isStill_any f F S d _ _ _ _ _ _ W0 hc h9).mono ?_
  rintro e w1 ⟨rfl, hb1⟩
  go_wp2_with fail
  go_ret
  exact ⟨rfl, hA.trans (hb1.mono hA.size)⟩
end Go.Proofs.Ytmdkdkiejcjmaaa
