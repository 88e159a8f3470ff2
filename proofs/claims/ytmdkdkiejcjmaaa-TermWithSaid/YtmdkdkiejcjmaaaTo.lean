import Derived.Test.YtmdkdkiejcjmaaaTn
/- Package term: Swing. -/
namespace Go.Proofs.Ytmdkdkiejcjmaaa
open Go.RowKit
namespace Ve
def both (l : List (Int × Bool)) (ch : Int) : Bool := heads l ch && land l ch
def sw (l : List (Int × Bool)) : Nat → List Int
  | 0 => []
  | k + 1 => sw l k ++ if both l k != both l (-1) then [(k : Int)] else []
def swc (l : List (Int × Bool)) : List Int := if code l = 0 then sw l l.length else []
theorem sw_len (l : List (Int × Bool)) (k : Nat) : (sw l k).length ≤ k := by
  induction k with
  | zero => exact Nat.le_refl _
  | succ k ih => unfold sw; rw [List.length_append]; split <;> simp <;> omega
end Ve

set_option maxRecDepth 100000 in
set_option maxHeartbeats 2000000 in
theorem isBoth_any (a b : Bool) (w : World) :
    Calls Try.prog 103 #[.agg #[.bool a, .bool b]] w fun e w' => e = .returned (.bool (a && b)) ∧ Below w.heap.size w w' := by
  have r0 := heap_alloc_new w (.cells #[.bool a, .bool b] 100)
  have hA := (Below.refl _ w).alloc (Nat.le_refl _) (.cells #[.bool a, .bool b] 100)
  go_enter Try.func103, Try.ntmps103
  obtain ⟨⟨c0, c1⟩, -, -⟩ := row_fr r0
  cases a <;>
  · go_wp2_with fail
    go_ret
    exact ⟨rfl, hA⟩

set_option maxRecDepth 100000 in
set_option maxHeartbeats 8000000 in
theorem swing_any (l : List (Int × Bool)) (ao : Option Addr) (n cap : Nat) (w : World) (hI : Vts w ao l) (hn : n = l.length) (hok : Ve.code l = 0) :
    Calls Try.prog 87 #[.slice ao n cap] w fun e w' => (∃ v, e = .returned v ∧ w'.ownsRow w.heap.size 3 1 v (Ve.sw l n).length ((Ve.sw l n).map (Value.int .i64))) ∧ Below w.heap.size w w' := by
  have Hn := Lib.hid hn
  have Hok := Lib.hid hok
  have h20 := (Ve.code_ok hok).1
  rw [← hn] at h20
  clear hn hok
  obtain ⟨i0, hi0, hz0, hz1, hz2⟩ := info_in
  have hA := Below.refl w.heap.size w
  go_enter Try.func87, Try.ntmps87
  go_wp2_with fail
  refine ((count_any l (-1) _ _ _ w hI Hn.out Hok.out)).mono ?_
  rintro e w1 ⟨rfl, hbb⟩
  replace hA := hA.trans (hbb.mono hA.size)
  clear hbb
  go_wp2_with fail
  refine ((isBoth_any _ _ w1)).mono ?_
  rintro e w2 ⟨rfl, hbb⟩
  replace hA := hA.trans (hbb.mono hA.size)
  clear hbb
  obtain ⟨B, hB⟩ : ∃ b, b = Ve.both l (-1) := ⟨_, rfl⟩
  have HB := Lib.hid hB
  rw [show (Ve.heads l (-1) && Ve.land l (-1)) = B from hB.symm]
  clear hB
  go_wp2_with fail
  go_loopw [3, 5, 11] (fun v _ i wr => ∃ k m : Nat, k ≤ n ∧ i = .int .i64 k ∧ m ≤ k ∧ Hid (m = (Ve.sw l k).length) ∧ Hid (wr.ownsRow w.heap.size 3 1 v m ((Ve.sw l k).map (Value.int .i64))) ∧ Below w.heap.size w wr) (fun _ _ i _ => n - (intOf i).toNat)
  case atStart => exact ⟨0, 0, Nat.zero_le _, rfl, Nat.le_refl _, Lib.hid rfl, Lib.hid ⟨rfl, .inl ⟨rfl, rfl⟩⟩, hA⟩
  case round =>
    obtain ⟨k, m, hk, rfl, hmk, Hm, hown, hb⟩ := hrel
    have hI2 := hI.below hb
    by_cases hlt : k < n
    · have i1 : (k : Int) < (n : Int) := by omega
      have hs := hb.size
      have hX := count_any l (k : Int) ao n cap wr hI2 Hn.out Hok.out
      clear hI2
      go_wp2_with fail
      refine hX.mono ?_
      clear hX
      rintro e w3 ⟨rfl, hb3⟩
      have hown3 := Lib.hid (own_below hown.out hb3)
      replace hb := hb.trans (hb3.mono hb.size)
      clear hb3 hown
      go_wp2_with fail
      refine (isBoth_any _ _ w3).mono ?_
      rintro e w4 ⟨rfl, hb3⟩
      have hown4 := Lib.hid (own_below hown3.out hb3)
      replace hb := hb.trans (hb3.mono hb.size)
      clear hb3 hown3 hs
      have hs := hb.size
      obtain ⟨D, hD⟩ : ∃ b, b = Ve.both l k := ⟨_, rfl⟩
      have HD := Lib.hid hD
      rw [show (Ve.heads l k && Ve.land l k) = D from hD.symm]
      clear hD
      have hst : Hid (Ve.sw l (k + 1) = Ve.sw l k ++ if D != B then [(k : Int)] else []) := Lib.hid (by rw [HD.out, HB.out]; rfl)
      clear HD HB
      cases D with
      | true =>
        cases B with
        | true =>
            go_wp2_with fail
            go_roundw
            case rel => exact ⟨k + 1, m, by omega, by go_num, by omega, Lib.hid (by rw [hst.out, Hm.out]; simp), Lib.hid (by rw [hst.out]; simpa using hown4.out), hb⟩
            case measure => simp [intOf]; omega
        | false =>
            go_wp2_with (first | (at_builtin; refine wpList_append_own _ rfl _ _ 22 rfl w.heap.size 3 i0 (.int .i64 0) 1 8 Try.underlying22 hi0 hz0 hz1 hz2 rfl (by decide) _ m _ rfl (hown4.out.alloc _) ⟨w4.heap.size, 0, none⟩ 1 1 [.int .i64 k] rfl rfl (World.news_of_block (cs := #[.int .i64 k]) (t := 3) (fr := (0, 0)) (heap_alloc_new w4 _)) (by simp [Value.oneCell']) (by unfold maxLen; omega) (by omega) (by simp; omega) ?_; intro v' w5 hown5 hgrow5 hnil5; have hb5 : Below w.heap.size w w5 := (hb.alloc hs _).grown hgrow5 (by simp; omega) (fun q hq => (hown4.out.lt _ hq).1); clear hgrow5 hnil5))
            go_roundw
            case rel => exact ⟨k + 1, m + 1, by omega, by go_num, by omega, Lib.hid (by rw [hst.out, List.length_append, Hm.out]; rfl), Lib.hid (by rw [hst.out, List.map_append]; exact hown5), hb5⟩
            case measure => simp [intOf]; omega
      | false =>
        cases B with
        | true =>
            go_wp2_with (first | (at_builtin; refine wpList_append_own _ rfl _ _ 22 rfl w.heap.size 3 i0 (.int .i64 0) 1 8 Try.underlying22 hi0 hz0 hz1 hz2 rfl (by decide) _ m _ rfl (hown4.out.alloc _) ⟨w4.heap.size, 0, none⟩ 1 1 [.int .i64 k] rfl rfl (World.news_of_block (cs := #[.int .i64 k]) (t := 3) (fr := (0, 0)) (heap_alloc_new w4 _)) (by simp [Value.oneCell']) (by unfold maxLen; omega) (by omega) (by simp; omega) ?_; intro v' w5 hown5 hgrow5 hnil5; have hb5 : Below w.heap.size w w5 := (hb.alloc hs _).grown hgrow5 (by simp; omega) (fun q hq => (hown4.out.lt _ hq).1); clear hgrow5 hnil5))
            go_roundw
            case rel => exact ⟨k + 1, m + 1, by omega, by go_num, by omega, Lib.hid (by rw [hst.out, List.length_append, Hm.out]; rfl), Lib.hid (by rw [hst.out, List.map_append]; exact hown5), hb5⟩
            case measure => simp [intOf]; omega
        | false =>
            go_wp2_with fail
            go_roundw
            case rel => exact ⟨k + 1, m, by omega, by go_num, by omega, Lib.hid (by rw [hst.out, Hm.out]; simp), Lib.hid (by rw [hst.out]; simpa using hown4.out), hb⟩
            case measure => simp [intOf]; omega
    · have hkn : k = n := by omega
      have h2 := hown.out
      rw [hkn] at h2
      have h3 : m = (Ve.sw l n).length := by rw [Hm.out, hkn]
      rw [h3] at h2
      have HW := Lib.hid h2
      clear h2 h3 hkn hown Hm
      go_wp2_with fail
      go_ret
      exact ⟨⟨_, rfl, HW.out⟩, hb⟩

set_option maxRecDepth 100000 in
set_option maxHeartbeats 4000000 in
theorem Swing_any (l : List (Int × Bool)) (ao : Option Addr) (n cap : Nat) (w : World) (hI : Vts w ao l) (hn : n = l.length) (hn9 : n ≤ 100000) :
    Calls Try.prog 50 #[.slice ao n cap] w fun e w' => (∃ ao2 m cap2, e = .returned (.tuple #[.slice ao2 m cap2, .int .i64 (Ve.code l)]) ∧ m = (Ve.swc l).length ∧ Ints w' ao2 (Ve.swc l)) ∧ Below w.heap.size w w' := by
  have Hn := Lib.hid hn
  have hV := validateVotes_any l ao n cap w hI hn hn9
  obtain ⟨C, hC⟩ : ∃ r, r = Ve.code l := ⟨_, rfl⟩
  rw [← hC] at hV ⊢
  have HC := Lib.hid hC
  clear hC hn
  go_enter Try.func50, Try.ntmps50
  go_wp2_with fail
  refine hV.mono ?_
  clear hV
  rintro e w1 ⟨rfl, hbb⟩
  have hA := hbb
  replace hI := hI.below hbb
  by_cases hz : C = 0
  · have hc := Lib.hid (HC.out.symm.trans hz)
    have q : Hid (Ve.swc l = Ve.sw l n) := Lib.hid (by unfold Ve.swc; rw [if_pos hc.out, Hn.out])
    subst hz
    clear hbb
    have hX := swing_any l _ _ cap w1 hI Hn.out hc.out
    go_wp2_with fail
    refine hX.mono ?_
    clear hX
    rintro e w2 ⟨⟨v, rfl, ho⟩, hbb⟩
    replace hA := hA.trans (hbb.mono hA.size)
    obtain ⟨ao2, cap2, rfl, -, hI2⟩ := own_ints ho rfl
    have HI := Lib.hid hI2
    clear hbb ho hI2
    obtain ⟨m, hm⟩ : ∃ m, m = (Ve.sw l n).length := ⟨_, rfl⟩
    rw [← hm]
    have HM := Lib.hid hm
    clear hm
    go_wp2_with fail
    go_ret2
    exact ⟨⟨ao2, m, cap2, rfl, by rw [q.out]; exact HM.out, by rw [q.out]; exact HI.out⟩, hA⟩
  · have hne : (C != 0) = true := by simp [hz]
    have q : Hid (Ve.swc l = []) := Lib.hid (by unfold Ve.swc; rw [if_neg (by rw [← HC.out]; exact hz)])
    go_wp2_with fail
    go_ret2
    exact ⟨⟨none, 0, 0, rfl, by rw [q.out]; rfl, by rw [q.out]; exact ints_none _ _⟩, hA⟩
end Go.Proofs.Ytmdkdkiejcjmaaa
