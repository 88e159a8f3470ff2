import Derived.Test.YtmdkdkiejcjmaaaTj
/- Package term: votes, Passes. -/
namespace Go.Proofs.Ytmdkdkiejcjmaaa
open Go.RowKit
/-- Votes in memory. -/
structure Vts (w : World) (ao : Option Addr) (l : List (Int × Bool)) : Prop where
  cells : 0 < l.length → ∃ b off, ao = some ⟨b, off, none⟩ ∧ b < w.heap.size ∧ ∀ i, i < l.length → w.cell? ⟨b, off + i * 2, none⟩ = some (.int .i64 (l.getD i (0, false)).1) ∧ w.cell? ⟨b, off + i * 2 + 1, none⟩ = some (.bool (l.getD i (0, false)).2)
theorem Vts.below {w w' : World} {ao : Option Addr} {l : List (Int × Bool)} (h : Vts w ao l) (hb : Below w.heap.size w w') : Vts w' ao l := by
  refine ⟨fun h0 => ?_⟩
  obtain ⟨b, off, rfl, hlt, hc⟩ := h.cells h0
  have hs := hb.size
  exact ⟨b, off, rfl, by omega, fun i hi => ⟨(hb.cell (p := ⟨b, _, none⟩) hlt).trans (hc i hi).1, (hb.cell (p := ⟨b, _, none⟩) hlt).trans (hc i hi).2⟩⟩
theorem Vts.at {w : World} {ao : Option Addr} {l : List (Int × Bool)} (h : Vts w ao l) {k : Nat} (hk : k < l.length) : ∃ b off x y, ao = some ⟨b, off, none⟩ ∧ b < w.heap.size ∧ l.getD k (0, false) = (x, y) ∧ w.cell? ⟨b, off + k * 2, none⟩ = some (.int .i64 x) ∧ w.cell? ⟨b, off + k * 2 + 1, none⟩ = some (.bool y) := by
  obtain ⟨b, off, rfl, hlt, hc⟩ := h.cells (by omega)
  exact ⟨b, off, _, _, rfl, hlt, rfl, hc k hk⟩
namespace Ve
def okv (v : Int × Bool) : Bool := Tm.upTo 10000 [v.1]
def code (l : List (Int × Bool)) : Int := if 20 < l.length then 3 else if l.all okv then 0 else 1
def yes (l : List (Int × Bool)) (ch : Int) (k : Nat) : Bool := (l.getD k (0, false)).2 != decide ((k : Int) = ch)
def hd (l : List (Int × Bool)) (ch : Int) : Nat → Int
  | 0 => 0
  | k + 1 => hd l ch k + if yes l ch k then 1 else 0
def ld (l : List (Int × Bool)) (ch : Int) : Nat → Int
  | 0 => 0
  | k + 1 => ld l ch k + if yes l ch k then (l.getD k (0, false)).1 else 0
def al (l : List (Int × Bool)) : Nat → Int
  | 0 => 0
  | k + 1 => al l k + (l.getD k (0, false)).1
def heads (l : List (Int × Bool)) (ch : Int) : Bool := decide ((l.length : Int) < 2 * hd l ch l.length)
def land (l : List (Int × Bool)) (ch : Int) : Bool := decide (al l l.length < 2 * ld l ch l.length)
def ph (l : List (Int × Bool)) : Bool := if code l = 0 then heads l (-1) else false
def pl (l : List (Int × Bool)) : Bool := if code l = 0 then land l (-1) else false
theorem all_drop {l : List (Int × Bool)} {k : Nat} (hk : k < l.length) : (l.drop k).all okv = (okv (l.getD k (0, false)) && (l.drop (k + 1)).all okv) := by
  rw [List.drop_eq_getElem_cons hk, List.getD_eq_getElem?_getD, List.getElem?_eq_getElem hk]; rfl
theorem code_ok {l : List (Int × Bool)} (h : code l = 0) : l.length ≤ 20 ∧ ∀ k, k < l.length → 0 ≤ (l.getD k (0, false)).1 ∧ (l.getD k (0, false)).1 ≤ 10000 := by
  unfold code at h
  split at h
  · cases h
  · split at h
    · rename_i h1 h2
      refine ⟨by omega, fun k hk => ?_⟩
      have := (List.all_eq_true.1 h2) l[k] (List.getElem_mem hk)
      rw [List.getD_eq_getElem?_getD, List.getElem?_eq_getElem hk]
      unfold okv Tm.upTo at this
      simpa using this
    · cases h
end Ve
theorem infoOut2 : (Try.prog.info? 100).map (·.size) = some 2 := by kernel_rfl

set_option maxRecDepth 100000 in
set_option maxHeartbeats 4000000 in
theorem validateVotes_any (l : List (Int × Bool)) (ao : Option Addr) (n cap : Nat) (w : World) (hI : Vts w ao l) (hn : n = l.length) (hn9 : n ≤ 100000) :
    Calls Try.prog 83 #[.slice ao n cap] w fun e w' => e = .returned (.int .i64 (Ve.code l)) ∧ Below w.heap.size w w' := by
  have Hn := Lib.hid hn
  clear hn
  obtain ⟨C, hC⟩ : ∃ r, r = Ve.code l := ⟨_, rfl⟩
  rw [← hC]
  have HC := Lib.hid hC
  clear hC
  go_enter Try.func83, Try.ntmps83
  by_cases h20 : 20 < n
  · have hc : Hid (C = 3) := Lib.hid (by rw [HC.out]; unfold Ve.code; rw [if_pos (by rw [← Hn.out]; exact h20)])
    have h20i : (20 : Int) < (n : Int) := by omega
    go_wp2_with fail
    go_ret
    exact ⟨ret_int hc.out.symm, Below.refl _ _⟩
  · have h20i : ¬ (20 : Int) < (n : Int) := by omega
    have hc0 : Hid (C = if (l.drop 0).all Ve.okv then 0 else 1) := Lib.hid (by rw [HC.out]; unfold Ve.code; rw [if_neg (by rw [← Hn.out]; exact h20)]; rfl)
    clear HC
    go_wp2_with fail
    go_loopw [4, 10] (fun _ i wr => ∃ k : Nat, k ≤ n ∧ i = .int .i64 k ∧ Hid (C = if (l.drop k).all Ve.okv then 0 else 1) ∧ Below w.heap.size w wr) (fun _ i _ => n - (intOf i).toNat)
    case atStart => exact ⟨0, Nat.zero_le _, rfl, hc0, Below.refl _ _⟩
    case round =>
      obtain ⟨k, hk, rfl, HK, hb⟩ := hrel
      by_cases hlt : k < n
      · have hkl : k < l.length := by have := Hn.out; omega
        obtain ⟨b, off, x, y, rfl, hbs, he, z0, z1⟩ := (hI.below hb).at hkl
        have hst := Lib.hid (Ve.all_drop hkl)
        rw [he] at hst
        clear he
        have i1 : (k : Int) < (n : Int) := by omega
        go_upto_region 6 with fail
        have r5 := heap_alloc_new wr (.cells #[.int .i64 x, .bool y] 59)
        have hb2 := hb.alloc hb.size (.cells #[.int .i64 x, .bool y] 59)
        generalize wr.alloc (.cells #[.int .i64 x, .bool y] 59) = W5 at r5 hb2 ⊢
        obtain ⟨G5, hG5⟩ : ∃ g, g = wr.heap.size := ⟨_, rfl⟩
        rw [← hG5] at r5 ⊢
        clear hG5 z0 z1
        obtain ⟨⟨y0, y1⟩, -, -⟩ := row_fr r5
        clear y1
        go_wp2_with fail
        have hal := (Below.refl W5.heap.size W5).alloc (Nat.le_refl _) (.cells #[.int .i64 x] 3)
        have hX := areUpTo_any 10000 [x] _ 1 1 _ (ints_new1 W5 x) rfl (by omega)
        refine hX.mono ?_
        clear hX
        rintro e w1 ⟨rfl, hbb⟩
        replace hb2 := hb2.trans (hal.mono hb2.size)
        replace hb2 := hb2.trans (hbb.mono hb2.size)
        clear hal hbb
        obtain ⟨b1, hb1⟩ : ∃ b, Tm.upTo 10000 [x] = b := ⟨_, rfl⟩
        have ho : Hid (Ve.okv (x, y) = b1) := Lib.hid hb1
        rw [hb1]
        clear hb1
        cases b1 with
        | false =>
          have hc : Hid (C = 1) := Lib.hid (by rw [HK.out, hst.out, ho.out]; rfl)
          clear HK hst
          go_wp2_with fail
          go_ret
          exact ⟨ret_int hc.out.symm, hb2⟩
        | true =>
          have hc : Hid (C = if (l.drop (k + 1)).all Ve.okv then 0 else 1) := Lib.hid (by rw [HK.out, hst.out, ho.out]; rfl)
          clear HK hst
          go_wp2_with fail
          go_roundw
          case rel => exact ⟨k + 1, by omega, by go_num, hc, hb2⟩
          case measure => simp [intOf]; omega
      · have hc : Hid (C = 0) := Lib.hid (by rw [HK.out, List.drop_eq_nil_of_le (by have := Hn.out; omega)]; rfl)
        go_wp2_with fail
        go_ret
        exact ⟨ret_int hc.out.symm, hb⟩

set_option maxRecDepth 100000 in
set_option maxHeartbeats 4000000 in
theorem count_any (l : List (Int × Bool)) (ch : Int) (ao : Option Addr) (n cap : Nat) (w : World) (hI : Vts w ao l) (hn : n = l.length) (hok : Ve.code l = 0) :
    Calls Try.prog 84 #[.slice ao n cap, .int .i64 ch] w fun e w' => e = .returned (.agg #[.bool (Ve.heads l ch), .bool (Ve.land l ch)]) ∧ Below w.heap.size w w' := by
  have Hn := Lib.hid hn
  obtain ⟨h20, hOk⟩ := Ve.code_ok hok
  rw [← hn] at h20
  have HO := Lib.hid hOk
  clear hn hok hOk
  obtain ⟨p1, hp1⟩ : ∃ r, r = Ve.heads l ch := ⟨_, rfl⟩
  obtain ⟨p2, hp2⟩ : ∃ r, r = Ve.land l ch := ⟨_, rfl⟩
  rw [← hp1, ← hp2]
  have H1 := Lib.hid hp1
  have H2 := Lib.hid hp2
  clear hp1 hp2
  have hA := (Below.refl _ w).alloc (Nat.le_refl _) (.cells #[.bool false, .bool false] 100)
  have r0 := heap_alloc_new w (.cells #[.bool false, .bool false] 100)
  replace hI := hI.below hA
  go_enter Try.func84, Try.ntmps84
  go_upto_region 1 with fail
  generalize w.alloc (.cells #[.bool false, .bool false] 100) = W0 at hA r0 hI ⊢
  obtain ⟨G, hG⟩ : ∃ g, g = w.heap.size := ⟨_, rfl⟩
  rw [← hG] at r0 ⊢
  have HG := Lib.hid hG
  clear hG
  obtain ⟨⟨c0, c1⟩, f0, f1⟩ := row_fr r0
  go_wp2
  go_loop [5, 6, 7, 8, 11] (fun h a c _ i => ∃ k : Nat, ∃ x y z : Int, k ≤ n ∧ i = .int .i64 k ∧ h = .int .i64 x ∧ a = .int .i64 y ∧ c = .int .i64 z ∧ Hid (x = Ve.hd l ch k ∧ y = Ve.ld l ch k ∧ z = Ve.al l k) ∧ 0 ≤ x ∧ x ≤ k ∧ 0 ≤ y ∧ y ≤ z ∧ z ≤ 10000 * k) (fun _ _ _ _ i => n - (intOf i).toNat)
  case atStart => exact ⟨0, 0, 0, 0, Nat.zero_le _, rfl, rfl, rfl, rfl, Lib.hid ⟨rfl, rfl, rfl⟩, by omega, by omega, by omega, by omega, by omega⟩
  case round =>
    obtain ⟨k, x, y, z, hk, rfl, rfl, rfl, rfl, HE, b1, b2, b3, b4, b5⟩ := hrel
    by_cases hlt : k < n
    · have hkl : k < l.length := by have := Hn.out; omega
      obtain ⟨b, off, u, v, rfl, hbs, he, z0, z1⟩ := hI.at hkl
      have hu := HO.out k hkl
      have hs : Hid (Ve.hd l ch (k + 1) = x + (if (v != decide ((k : Int) = ch)) = true then 1 else 0) ∧ Ve.ld l ch (k + 1) = y + (if (v != decide ((k : Int) = ch)) = true then u else 0) ∧ Ve.al l (k + 1) = z + u) := Lib.hid (by
        obtain ⟨e1, e2, e3⟩ := HE.out
        rw [e1, e2, e3]
        simp only [Ve.hd, Ve.ld, Ve.al, Ve.yes, he, and_self])
      rw [he] at hu
      obtain ⟨u0, u1⟩ := hu
      simp only at u0 u1
      clear he HE
      have i1 : (k : Int) < (n : Int) := by omega
      by_cases hkc : (k : Int) = ch
      · have h1 : ((k : Int) == ch) = true := by simp [hkc]
        rw [decide_eq_true hkc] at hs
        clear hkc
        cases v with
        | true =>
          have hs2 : Hid (x = Ve.hd l ch (k + 1) ∧ y = Ve.ld l ch (k + 1) ∧ z + u = Ve.al l (k + 1)) := Lib.hid (by obtain ⟨a, b, c⟩ := hs.out; exact ⟨by rw [a]; simp, by rw [b]; simp, c.symm⟩)
          clear hs
          go_wp2
          go_round
          case rel => exact ⟨k + 1, x, y, z + u, by omega, by go_num, rfl, rfl, by go_num, hs2, by omega, by omega, by omega, by omega, by omega⟩
          case measure => simp [intOf]; omega
        | false =>
          have hs2 : Hid (x + 1 = Ve.hd l ch (k + 1) ∧ y + u = Ve.ld l ch (k + 1) ∧ z + u = Ve.al l (k + 1)) := Lib.hid (by obtain ⟨a, b, c⟩ := hs.out; exact ⟨by rw [a]; simp, by rw [b]; simp, c.symm⟩)
          clear hs
          go_wp2
          go_round
          case rel => exact ⟨k + 1, x + 1, y + u, z + u, by omega, by go_num, by go_num, by go_num, by go_num, hs2, by omega, by omega, by omega, by omega, by omega⟩
          case measure => simp [intOf]; omega
      · have h1 : ((k : Int) == ch) = false := by simp [hkc]
        rw [decide_eq_false hkc] at hs
        clear hkc
        cases v with
        | false =>
          have hs2 : Hid (x = Ve.hd l ch (k + 1) ∧ y = Ve.ld l ch (k + 1) ∧ z + u = Ve.al l (k + 1)) := Lib.hid (by obtain ⟨a, b, c⟩ := hs.out; exact ⟨by rw [a]; simp, by rw [b]; simp, c.symm⟩)
          clear hs
          go_wp2
          go_round
          case rel => exact ⟨k + 1, x, y, z + u, by omega, by go_num, rfl, rfl, by go_num, hs2, by omega, by omega, by omega, by omega, by omega⟩
          case measure => simp [intOf]; omega
        | true =>
          have hs2 : Hid (x + 1 = Ve.hd l ch (k + 1) ∧ y + u = Ve.ld l ch (k + 1) ∧ z + u = Ve.al l (k + 1)) := Lib.hid (by obtain ⟨a, b, c⟩ := hs.out; exact ⟨by rw [a]; simp, by rw [b]; simp, c.symm⟩)
          clear hs
          go_wp2
          go_round
          case rel => exact ⟨k + 1, x + 1, y + u, z + u, by omega, by go_num, by go_num, by go_num, by go_num, hs2, by omega, by omega, by omega, by omega, by omega⟩
          case measure => simp [intOf]; omega
    · have hkn : k = n := by omega
      have q1 : Hid (p1 = decide ((n : Int) < 2 * x)) := Lib.hid (by rw [H1.out]; unfold Ve.heads; rw [HE.out.1, hkn, Hn.out])
      have q2 : Hid (p2 = decide (z < 2 * y)) := Lib.hid (by rw [H2.out]; unfold Ve.land; rw [HE.out.2.1, HE.out.2.2, hkn, Hn.out])
      clear hkn HE H1 H2
      by_cases h1 : (n : Int) < 2 * x
      · rw [decide_eq_true h1] at q1
        by_cases h2 : z < 2 * y
        · rw [decide_eq_true h2] at q2
          go_wp2_with fail
          exact bodyPost_ret (results_cell_row rfl _ _ _ _ _ _ _ rfl (two_cells r0 (.bool true) (.bool true)) Try.underlying100 rfl infoOut2) rfl ⟨by rw [q1.out, q2.out], below_setCell (below_setCell hA (Nat.le_of_eq HG.out.symm) _) (Nat.le_of_eq HG.out.symm) _⟩
        · rw [decide_eq_false h2] at q2
          go_wp2_with fail
          exact bodyPost_ret (results_cell_row rfl _ _ _ _ _ _ _ rfl (two_cells r0 (.bool true) (.bool false)) Try.underlying100 rfl infoOut2) rfl ⟨by rw [q1.out, q2.out], below_setCell (below_setCell hA (Nat.le_of_eq HG.out.symm) _) (Nat.le_of_eq HG.out.symm) _⟩
      · rw [decide_eq_false h1] at q1
        by_cases h2 : z < 2 * y
        · rw [decide_eq_true h2] at q2
          go_wp2_with fail
          exact bodyPost_ret (results_cell_row rfl _ _ _ _ _ _ _ rfl (two_cells r0 (.bool false) (.bool true)) Try.underlying100 rfl infoOut2) rfl ⟨by rw [q1.out, q2.out], below_setCell (below_setCell hA (Nat.le_of_eq HG.out.symm) _) (Nat.le_of_eq HG.out.symm) _⟩
        · rw [decide_eq_false h2] at q2
          go_wp2_with fail
          exact bodyPost_ret (results_cell_row rfl _ _ _ _ _ _ _ rfl (two_cells r0 (.bool false) (.bool false)) Try.underlying100 rfl infoOut2) rfl ⟨by rw [q1.out, q2.out], below_setCell (below_setCell hA (Nat.le_of_eq HG.out.symm) _) (Nat.le_of_eq HG.out.symm) _⟩

set_option maxRecDepth 100000 in
set_option maxHeartbeats 4000000 in
theorem Passes_any (l : List (Int × Bool)) (ao : Option Addr) (n cap : Nat) (w : World) (hI : Vts w ao l) (hn : n = l.length) (hn9 : n ≤ 100000) :
    Calls Try.prog 48 #[.slice ao n cap] w fun e w' => e = .returned (.tuple #[.bool (Ve.ph l), .bool (Ve.pl l), .int .i64 (Ve.code l)]) ∧ Below w.heap.size w w' := by
  have Hn := Lib.hid hn
  have hV := validateVotes_any l ao n cap w hI hn hn9
  obtain ⟨C, hC⟩ : ∃ r, r = Ve.code l := ⟨_, rfl⟩
  obtain ⟨p1, hp1⟩ : ∃ r, r = Ve.ph l := ⟨_, rfl⟩
  obtain ⟨p2, hp2⟩ : ∃ r, r = Ve.pl l := ⟨_, rfl⟩
  rw [← hC, ← hp1, ← hp2]
  rw [← hC] at hV
  have HC := Lib.hid hC
  have H1 := Lib.hid hp1
  have H2 := Lib.hid hp2
  clear hC hp1 hp2 hn
  go_enter Try.func48, Try.ntmps48
  go_wp2_with fail
  refine hV.mono ?_
  clear hV
  rintro e w1 ⟨rfl, hbb⟩
  have hA := hbb
  replace hI := hI.below hbb
  by_cases hz : C = 0
  · have hc := Lib.hid (HC.out.symm.trans hz)
    have q1 : Hid (p1 = Ve.heads l (-1)) := Lib.hid (by rw [H1.out]; unfold Ve.ph; rw [if_pos hc.out])
    have q2 : Hid (p2 = Ve.land l (-1)) := Lib.hid (by rw [H2.out]; unfold Ve.pl; rw [if_pos hc.out])
    subst hz
    clear hbb
    go_wp2_with fail
    refine ((count_any l (-1) _ _ _ w1 hI Hn.out hc.out)).mono ?_
    rintro e w1 ⟨rfl, hbb⟩
    replace hA := hA.trans (hbb.mono hA.size)
    clear hbb
    rw [← q1.out, ← q2.out]
    have hal := hA.alloc hA.size (.cells #[.bool p1, .bool p2] 100)
    have r0 := heap_alloc_new w1 (.cells #[.bool p1, .bool p2] 100)
    go_upto_region 5 with fail
    generalize w1.alloc (.cells #[.bool p1, .bool p2] 100) = W2 at hal r0 ⊢
    generalize w1.heap.size = G2 at r0 ⊢
    obtain ⟨⟨c0, c1⟩, -, -⟩ := row_fr r0
    go_region
    go_wp2_with fail
    go_ret3
    exact ⟨rfl, below_drewN hal 1⟩
  · have hne : (C != 0) = true := by simp [hz]
    have q1 : Hid (p1 = false) := Lib.hid (by rw [H1.out]; unfold Ve.ph; rw [if_neg (by rw [← HC.out]; exact hz)])
    have q2 : Hid (p2 = false) := Lib.hid (by rw [H2.out]; unfold Ve.pl; rw [if_neg (by rw [← HC.out]; exact hz)])
    go_wp2_with fail
    go_ret3
    exact ⟨by rw [q1.out, q2.out]; rfl, hA⟩
end Go.Proofs.Ytmdkdkiejcjmaaa
