import Derived.Test.YtkpabehjehbidaaStr
import Derived.Laws.AppendOwn
namespace Go.Proofs.Ytkpabehjehbidaa
open Go.RowKit

/-- A slice of pairs of numbers (zones, fractions): where it begins, and what its cells hold. -/
structure Pts (w : World) (ao : Option Addr) (l : List (Int × Int)) : Prop where
  cells : 0 < l.length → ∃ b off, ao = some ⟨b, off, none⟩ ∧ b < w.heap.size ∧ ∀ i, i < l.length → w.cell? ⟨b, off + i * 2, none⟩ = some (.int .i64 (l.getD i (0, 0)).1) ∧ w.cell? ⟨b, off + i * 2 + 1, none⟩ = some (.int .i64 (l.getD i (0, 0)).2)

theorem Pts.below {w w' : World} {ao : Option Addr} {l : List (Int × Int)} (h : Pts w ao l) (hb : Below w.heap.size w w') : Pts w' ao l := by
  refine ⟨fun h0 => ?_⟩
  obtain ⟨b, off, rfl, hlt, hc⟩ := h.cells h0
  have hs := hb.size
  exact ⟨b, off, rfl, by omega, fun i hi => ⟨(hb.cell (p := ⟨b, _, none⟩) hlt).trans (hc i hi).1, (hb.cell (p := ⟨b, _, none⟩) hlt).trans (hc i hi).2⟩⟩

theorem ok_at {l : List (Int × Int)} (h : Fl.Ok l) {k : Nat} (hk : k < l.length) : 1 ≤ (l.getD k (0, 0)).1 ∧ (l.getD k (0, 0)).1 ≤ 20 ∧ 0 ≤ (l.getD k (0, 0)).2 ∧ (l.getD k (0, 0)).2 ≤ 20 := by
  rw [List.getD_eq_getElem?_getD, List.getElem?_eq_getElem hk]
  exact h _ (List.getElem_mem hk)
theorem len_take {l : List (Int × Int)} {k : Nat} (hk : k < l.length) : Fl.len (l.take (k + 1)) = Fl.len (l.take k) + (l.getD k (0, 0)).1 := by
  induction l generalizing k with
  | nil => simp at hk
  | cons z r ih =>
    cases k with
    | zero => simp [Fl.len]
    | succ k =>
      have := ih (k := k) (by simpa using hk)
      simp only [List.take_succ_cons, Fl.len, List.getD_cons_succ]
      omega
theorem ok_take {l : List (Int × Int)} (h : Fl.Ok l) (k : Nat) : Fl.Ok (l.take k) := fun z hz => h z (List.mem_of_mem_take hz)
theorem len_take_bound {l : List (Int × Int)} (h : Fl.Ok l) (h6 : l.length ≤ 6) (k : Nat) : 0 ≤ Fl.len (l.take k) ∧ Fl.len (l.take k) ≤ 120 := by
  have := Fl.len_bound (ok_take h k)
  have h2 : (l.take k).length ≤ l.length := by simp; omega
  omega
theorem strips_take {l : List (Int × Int)} {k : Nat} {s : Int} (hk : k < l.length) :
    (Fl.strips s l).take (k + 1) = (Fl.strips s l).take k ++ [(s + Fl.len (l.take k), s + Fl.len (l.take k) + (l.getD k (0, 0)).1, (l.getD k (0, 0)).2)] := by
  induction l generalizing k s with
  | nil => simp at hk
  | cons z r ih =>
    cases k with
    | zero => simp [Fl.strips, Fl.len]
    | succ k =>
      have := ih (k := k) (s := s + z.1) (by simpa using hk)
      simp only [Fl.strips, List.take_succ_cons, this, List.cons_append, Fl.len, List.getD_cons_succ, Int.add_assoc]
theorem strips_length (s : Int) (l : List (Int × Int)) : (Fl.strips s l).length = l.length := by
  induction l generalizing s with
  | nil => rfl
  | cons z r ih => simp [Fl.strips, ih]

def flat3 (l : List (Int × Int × Int)) : List Value := l.flatMap fun x => [.int .i64 x.1, .int .i64 x.2.1, .int .i64 x.2.2]
theorem flat3_app (l m : List (Int × Int × Int)) : flat3 (l ++ m) = flat3 l ++ flat3 m := by simp [flat3]

theorem infoSpAll : (Try.prog.info? 103).map (fun i => (i.zero, i.size, i.bytes)) = some (some (.agg #[.int .i64 0, .int .i64 0, .int .i64 0]), 3, 24) := by kernel_rfl
theorem info_sp : ∃ i, Try.prog.info? 103 = some i ∧ i.zero = some (.agg #[.int .i64 0, .int .i64 0, .int .i64 0]) ∧ i.size = 3 ∧ i.bytes = 24 := by
  have h := infoSpAll
  cases hi : Try.prog.info? 103 with
  | none => rw [hi] at h; cases h
  | some i =>
    rw [hi] at h
    simp only [Option.map_some, Option.some.injEq, Prod.mk.injEq] at h
    exact ⟨i, rfl, h.1, h.2.1, h.2.2⟩

set_option maxRecDepth 100000 in
set_option maxHeartbeats 1000000 in
theorem length_any (l : List (Int × Int)) (ao : Option Addr) (n cap : Nat) (w : World) (hp : Pts w ao l) (hln : n = l.length) (hok : Fl.Ok l) (h6 : l.length ≤ 6) :
    Calls Try.prog 54 #[.slice ao n cap] w fun e w' => e = .returned (.int .i64 (Fl.len l)) ∧ Below w.heap.size w w' := by
  have Hn := Lib.hid hln
  have hn6 : n ≤ 6 := by omega
  clear hln
  go_enter Try.func54, Try.ntmps54
  go_wp2
  go_loopw [3, 8] (fun sm i wr => ∃ k : Nat, k ≤ n ∧ i = .int .i64 k ∧ sm = .int .i64 (Fl.len (l.take k)) ∧ Below w.heap.size w wr) (fun _ i _ => n - (intOf i).toNat)
  case atStart => exact ⟨0, Nat.zero_le _, rfl, rfl, Below.refl _ _⟩
  case round =>
    obtain ⟨k, hk, rfl, rfl, hb⟩ := hrel
    by_cases hlt : k < n
    · obtain ⟨b, off, rfl, hbs, hc⟩ := hp.cells (by have := Hn.out; omega)
      have hkl : k < l.length := by have := Hn.out; omega
      obtain ⟨hc1, hc2⟩ := hc k hkl
      have hst := Lib.hid (len_take hkl)
      have b1 := len_take_bound hok h6 k
      have b2 := ok_at hok hkl
      clear hc hp
      rw [← hb.cell (p := ⟨b, _, none⟩) hbs] at hc1 hc2
      have i1 : (k : Int) < (n : Int) := by omega
      obtain ⟨A, hA⟩ : ∃ x, x = Fl.len (l.take k) := ⟨_, rfl⟩
      obtain ⟨x, hx⟩ : ∃ x, x = (l.getD k (0, 0)).1 := ⟨_, rfl⟩
      obtain ⟨y, hy⟩ : ∃ y, y = (l.getD k (0, 0)).2 := ⟨_, rfl⟩
      rw [← hx] at hc1 hst b2
      rw [← hy] at hc2 b2
      rw [← hA] at hst b1 ⊢
      clear hx hy hA
      go_wp2
      go_roundw
      case rel => exact ⟨k + 1, by omega, by go_num, by rw [hst.out], hb.alloc hb.size _⟩
      case measure => simp [intOf]; omega
    · have hk2 : k = n := by omega
      have Hk := Lib.hid hk2
      clear hk2
      go_wp2
      go_ret
      refine ⟨ret_int ?_, hb⟩
      rw [Hk.out, Hn.out, List.take_length]

set_option maxRecDepth 100000 in
set_option maxHeartbeats 2000000 in
theorem strips_any (l : List (Int × Int)) (ao : Option Addr) (n cap : Nat) (w : World) (hp : Pts w ao l) (hln : n = l.length) (hok : Fl.Ok l) (h6 : l.length ≤ 6) :
    Calls Try.prog 85 #[.slice ao n cap] w fun e w' => ∃ v, e = .returned v ∧ w'.ownsRow w.heap.size 103 3 v l.length (flat3 (Fl.strips 0 l)) ∧ Below w.heap.size w w' := by
  have Hn := Lib.hid hln
  have hn6 : n ≤ 6 := by omega
  obtain ⟨i0, hi0, hz0, hz1, hz2⟩ := info_sp
  clear hln
  go_enter Try.func85, Try.ntmps85
  go_wp2
  go_loopw [3, 4, 9] (fun v a i wr => ∃ k : Nat, k ≤ n ∧ i = .int .i64 k ∧ a = .int .i64 (Fl.len (l.take k)) ∧ Hid (wr.ownsRow w.heap.size 103 3 v k (flat3 ((Fl.strips 0 l).take k))) ∧ Below w.heap.size w wr) (fun _ _ i _ => n - (intOf i).toNat)
  case atStart => exact ⟨0, Nat.zero_le _, rfl, rfl, Lib.hid ⟨rfl, .inl ⟨rfl, rfl⟩⟩, Below.refl _ _⟩
  case round =>
    obtain ⟨k, hk, rfl, rfl, hown, hb⟩ := hrel
    by_cases hlt : k < n
    · obtain ⟨b, off, rfl, hbs, hc⟩ := hp.cells (by have := Hn.out; omega)
      have hkl : k < l.length := by have := Hn.out; omega
      obtain ⟨hc1, hc2⟩ := hc k hkl
      have hst := Lib.hid (len_take hkl)
      have hsp := Lib.hid (strips_take (s := 0) hkl)
      have b1 := len_take_bound hok h6 k
      have b2 := ok_at hok hkl
      clear hc hp
      rw [← hb.cell (p := ⟨b, _, none⟩) hbs] at hc1 hc2
      have i1 : (k : Int) < (n : Int) := by omega
      obtain ⟨A, hA⟩ : ∃ x, x = Fl.len (l.take k) := ⟨_, rfl⟩
      obtain ⟨x, hx⟩ : ∃ x, x = (l.getD k (0, 0)).1 := ⟨_, rfl⟩
      obtain ⟨y, hy⟩ : ∃ y, y = (l.getD k (0, 0)).2 := ⟨_, rfl⟩
      rw [← hx] at hc1 hst b2 hsp
      rw [← hy] at hc2 b2 hsp
      rw [← hA] at hst b1 hsp ⊢
      clear hx hy hA
      have hs := hb.size
      go_wp2_with (first | (at_builtin; refine wpList_append_own _ rfl _ _ 100 rfl w.heap.size 103 i0 (.agg #[.int .i64 0, .int .i64 0, .int .i64 0]) 3 24 Try.underlying100 hi0 hz0 hz1 hz2 rfl (by decide) _ k _ rfl ((hown.out.alloc _).alloc _) ⟨wr.heap.size + 1, 0, none⟩ 1 1 [.int .i64 A, .int .i64 (A + x), .int .i64 y] rfl rfl (World.news_of_block (cs := #[.int .i64 A, .int .i64 (A + x), .int .i64 y]) (t := 103) (fr := (0, 0)) (heap_alloc2_new wr _ _)) (by simp [Value.oneCell']) (by unfold maxLen; omega) (by omega) (by simp; omega) ?_; intro v' w3 hown3 hgrow3 hnil3; have hb5 : Below w.heap.size w w3 := ((hb.alloc hs _).alloc (by simp; omega) _).grown hgrow3 (by simp; omega) (fun q hq => (hown.out.lt _ hq).1); have q0 : w3.cell? ⟨wr.heap.size, 0, none⟩ = some (.int .i64 x) := (hgrow3.cell_far _ (by simp; omega) (fun h => absurd (hown.out.lt _ h.symm).2 (Nat.lt_irrefl _))).trans (cell_of_row _ _ 0 _ _ _ (heap_alloc2_old wr _ _)); clear hgrow3 hnil3))
      go_roundw
      case rel =>
        refine ⟨k + 1, by omega, by go_num, by rw [hst.out], Lib.hid ?_, hb5⟩
        rw [hsp.out, flat3_app, Int.zero_add]
        exact hown3
      case measure => simp [intOf]; omega
    · have hk2 : k = n := by omega
      have Hk := Lib.hid hk2
      clear hk2
      go_wp2
      go_ret
      refine ⟨_, rfl, ?_, hb⟩
      have := hown.out
      rw [Hk.out, Hn.out, ← strips_length 0 l, List.take_length] at this
      rw [← strips_length 0 l]
      exact this
end Go.Proofs.Ytkpabehjehbidaa
