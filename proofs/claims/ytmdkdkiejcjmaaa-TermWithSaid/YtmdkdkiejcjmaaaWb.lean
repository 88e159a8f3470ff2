import Derived.Test.YtmdkdkiejcjmaaaSa
import Derived.Test.YtmdkdkiejcjmaaaWa
import Derived.Test.YtmdkdkiejcjmaaaTx
/- Package term: objections. -/
namespace Go.Proofs.Ytmdkdkiejcjmaaa
open Go.RowKit Go.Shelf

namespace Tm
def ocode (l : List (Int × Int)) : Int := if 20 < l.length then 3 else if l.all fun o => upTo 10000 [o.1, o.2] then 0 else 1
def obsF (d x : Int) (l : List (Int × Int)) : List Int := (l.filter fun o => decide (d ≤ o.2) && decide (o.2 ≤ x)).map (·.1)
theorem all_drop2 (p : Int × Int → Bool) {l : List (Int × Int)} {k : Nat} (hk : k < l.length) : (l.drop k).all p = (p (l.getD k (0, 0)) && (l.drop (k + 1)).all p) := by
  rw [List.drop_eq_getElem_cons hk, List.all_cons, List.getD_eq_getElem?_getD, List.getElem?_eq_getElem hk]; rfl
theorem obsF_take (d x : Int) {l : List (Int × Int)} {k : Nat} (hk : k < l.length) : obsF d x (l.take (k + 1)) = obsF d x (l.take k) ++ if decide (d ≤ (l.getD k (0, 0)).2) && decide ((l.getD k (0, 0)).2 ≤ x) then [(l.getD k (0, 0)).1] else [] := by
  unfold obsF
  rw [List.take_succ_eq_append_getElem hk, List.filter_append, List.map_append, List.getD_eq_getElem?_getD, List.getElem?_eq_getElem hk]
  simp only [Option.getD_some]
  congr 1
  cases h : decide (d ≤ l[k].2) && decide (l[k].2 ≤ x) <;> simp [h]
theorem obsF_len (d x : Int) (l : List (Int × Int)) : (obsF d x l).length ≤ l.length := by
  unfold obsF
  rw [List.length_map]
  exact List.length_filter_le _ _
def Obs (d x : Int) (l : List (Int × Int)) (a : Int) : Prop := ∃ o ∈ l, o.1 = a ∧ d ≤ o.2 ∧ o.2 ≤ x
theorem obs_mem (d x : Int) (l : List (Int × Int)) (a : Int) : a ∈ obsF d x l ↔ Obs d x l a := by
  unfold obsF Obs
  rw [List.mem_map]
  constructor
  · rintro ⟨o, h, rfl⟩
    rw [List.mem_filter] at h
    simp at h
    exact ⟨o, h.1, rfl, h.2.1, h.2.2⟩
  · rintro ⟨o, h, rfl, h1, h2⟩
    exact ⟨o, List.mem_filter.2 ⟨h, by simp [h1, h2]⟩, rfl⟩
def Ob (f : Int) (F : List Int) (S : List (Int × Int)) (d t : Int) (l : List (Int × Int)) (v : List Int) (e : Int) : Prop :=
  (tcode f F S d [t] ≠ 0 ∧ e = tcode f F S d [t] ∧ v = []) ∨ (tcode f F S d [t] = 0 ∧ ((ocode l ≠ 0 ∧ e = ocode l ∧ v = []) ∨ (ocode l = 0 ∧ e = 0 ∧ ∃ x : Nat, Ends (count S) (work f F) d.toNat t.toNat x ∧ IsSet v (Obs d x l))))
theorem Ob.unique {f d t e e2 : Int} {F : List Int} {S : List (Int × Int)} {l : List (Int × Int)} {u v : List Int} (h : Ob f F S d t l u e) (k : Ob f F S d t l v e2) : u = v ∧ e = e2 := by
  rcases h with ⟨h1, rfl, rfl⟩ | ⟨h1, ⟨h2, rfl, rfl⟩ | ⟨h2, rfl, x, h3, h4⟩⟩ <;> rcases k with ⟨k1, rfl, rfl⟩ | ⟨k1, ⟨k2, rfl, rfl⟩ | ⟨k2, rfl, y, k3, k4⟩⟩
  · exact ⟨rfl, rfl⟩
  · exact absurd k1 h1
  · exact absurd k1 h1
  · exact absurd h1 k1
  · exact ⟨rfl, rfl⟩
  · exact absurd k2 h2
  · exact absurd h1 k1
  · exact absurd h2 k2
  · obtain rfl := h3.unique k3
    exact ⟨h4.unique k4, rfl⟩
def icode (f : Int) (F : List Int) (S : List (Int × Int)) (d t o : Int) : Int := if tcode f F S d [t] ≠ 0 then tcode f F S d [t] else if upTo 10000 [o] then 0 else 1
theorem icode_asked (f : Int) (F : List Int) (S : List (Int × Int)) (d t o : Int) : acode f F S [d, o] [t] = icode f F S d t o := by
  unfold icode tcode dcode acode upTo
  by_cases h : vcode f F S = 0
  · simp only [h, ne_eq, not_true_eq_false, if_false, List.all_cons, List.all_nil, Bool.and_true]
    cases (decide (0 ≤ d) && decide (d ≤ 10000)) <;> cases (decide (0 ≤ o) && decide (o ≤ 10000)) <;> cases (decide (0 ≤ t) && decide (t ≤ 400)) <;> simp
  · simp [h]
theorem icode_ok {f d t o : Int} {F : List Int} {S : List (Int × Int)} (h : icode f F S d t o = 0) : tcode f F S d [t] = 0 ∧ 0 ≤ o ∧ o ≤ 10000 := by
  unfold icode at h
  split at h
  · rename_i h1; exact absurd h h1
  · rename_i h1
    split at h
    · rename_i h2
      unfold upTo at h2
      exact ⟨by simpa using h1, by simpa using h2⟩
    · cases h
def It (f : Int) (F : List Int) (S : List (Int × Int)) (d t o : Int) (b : Bool) : Prop := (icode f F S d t o ≠ 0 ∧ b = false) ∨ (icode f F S d t o = 0 ∧ ∃ x : Nat, Ends (count S) (work f F) d.toNat t.toNat x ∧ b = (decide (d ≤ o) && decide (o ≤ x)))
theorem It.unique {f d t o : Int} {F : List Int} {S : List (Int × Int)} {a b : Bool} (h : It f F S d t o a) (k : It f F S d t o b) : a = b := by
  rcases h with ⟨h1, rfl⟩ | ⟨h1, x, h2, rfl⟩ <;> rcases k with ⟨k1, rfl⟩ | ⟨k1, y, k2, rfl⟩
  · rfl
  · exact absurd k1 h1
  · exact absurd h1 k1
  · obtain rfl := h2.unique k2
    rfl
end Tm

namespace Tm
theorem nth_ex2 {p : Nat → Bool} {D m : Nat} (h1 : 1 ≤ m) : ∀ K, m ≤ cnt p D K → ∃ x, Nth p D m x
  | 0, h => by rw [cnt_zero] at h; omega
  | K + 1, h => by
    by_cases hk : m ≤ cnt p D K
    · exact nth_ex2 h1 K hk
    · rw [cnt_succ] at h
      cases hp : p (D + K) with
      | false => rw [hp] at h; simp at h; omega
      | true =>
        rw [hp] at h
        simp at h
        exact ⟨D + K, by omega, hp, by rw [show D + K - D = K by omega]; omega⟩
theorem ends_ex {f : Int} {F : List Int} {S : List (Int × Int)} (hok : Ok 10000 f F S) (d n : Nat) (hd : d ≤ 10000) (hn : n ≤ 10000) : ∃ x, Ends (count S) (work f F) d n x := by
  have h1 : ∃ a, After (count S) d n a := by
    by_cases h0 : n = 0
    · exact ⟨d, .inl ⟨h0, rfl⟩⟩
    · obtain ⟨a, ha⟩ := nth_ex2 (p := count S) (D := d + 1) (m := n) (by omega) _ (cnt_enough (M := 10000) (X := d + 1 + (10000 + 1 + 2 * n)) (fun x hx _ => .inl (count_all hok x hx)) (d + 1) n (Nat.le_refl _))
      exact ⟨a, .inr ⟨by omega, ha⟩⟩
  obtain ⟨a, ha⟩ := h1
  have hab := Tm_after_le (M := 10000) (X := 4611686018427387904) (fun x h1 _ => .inl (count_all hok x h1)) (by omega) ha
  obtain ⟨x, hx⟩ := nth_ex2 (p := work f F) (D := a) (m := 1) (Nat.le_refl _) _ (cnt_enough (M := 10000) (X := 4611686018427387904) (fun x h1 h2 => work_two hok x h1 h2) a 1 (by omega))
  exact ⟨x, a, ha, hx⟩
end Tm

set_option maxRecDepth 100000 in
set_option maxHeartbeats 4000000 in
theorem validateObjections_any (l : List (Int × Int)) (ao : Option Addr) (n cap : Nat) (w : World) (hI : Pts w ao l) (hn : n = l.length) (hn9 : n ≤ 100000) :
    Calls Try.prog 80 #[.slice ao n cap] w fun e w' => e = .returned (.int .i64 (Tm.ocode l)) ∧ Below w.heap.size w w' := by
  have Hn := Lib.hid hn
  clear hn
  obtain ⟨R, hR⟩ : ∃ r, r = Tm.ocode l := ⟨_, rfl⟩
  rw [← hR]
  have HR := Lib.hid hR
  clear hR
  go_enter Try.func80, Try.ntmps80
  by_cases h20 : 20 < n
  · have i0 : (20 : Int) < (n : Int) := by omega
    have hr : Hid (R = 3) := Lib.hid (by rw [HR.out]; unfold Tm.ocode; rw [if_pos (by rw [← Hn.out]; exact h20)])
    go_wp2_with fail
    go_ret
    exact ⟨ret_int hr.out.symm, Below.refl _ _⟩
  · have i0 : ¬ (20 : Int) < (n : Int) := by omega
    have hr0 : Hid (R = if (l.drop 0).all (fun o => Tm.upTo 10000 [o.1, o.2]) then 0 else 1) := Lib.hid (by rw [HR.out]; unfold Tm.ocode; rw [if_neg (by rw [← Hn.out]; exact h20)]; rfl)
    go_wp2_with fail
    go_loopw [10] (fun i wr => ∃ k : Nat, k ≤ n ∧ i = .int .i64 k ∧ Hid (R = if (l.drop k).all (fun o => Tm.upTo 10000 [o.1, o.2]) then 0 else 1) ∧ Below w.heap.size w wr) (fun i _ => n - (intOf i).toNat)
    case atStart => exact ⟨0, Nat.zero_le _, rfl, hr0, Below.refl _ _⟩
    case round =>
      obtain ⟨k, hk, rfl, HK, hb⟩ := hrel
      by_cases hlt : k < n
      · have hkl : k < l.length := by have := Hn.out; omega
        obtain ⟨b, off, rfl, hbs, hcc⟩ := (hI.below hb).cells (by omega)
        obtain ⟨z0, z1⟩ := hcc k hkl
        have hst := Lib.hid (Tm.all_drop2 (fun o => Tm.upTo 10000 [o.1, o.2]) hkl)
        obtain ⟨s, hs⟩ : ∃ s, s = l.getD k (0, 0) := ⟨_, rfl⟩
        rw [← hs] at z0 z1 hst
        obtain ⟨x, y⟩ := s
        simp only at z0 z1 hst
        clear hs hcc
        have i1 : (k : Int) < (n : Int) := by omega
        go_upto_region 6 with fail
        have r5 := heap_alloc_new wr (.cells #[.int .i64 x, .int .i64 y] 95)
        have hb2 := hb.alloc hb.size (.cells #[.int .i64 x, .int .i64 y] 95)
        generalize wr.alloc (.cells #[.int .i64 x, .int .i64 y] 95) = W5 at r5 hb2 ⊢
        obtain ⟨G5, hG5⟩ : ∃ g, g = wr.heap.size := ⟨_, rfl⟩
        rw [← hG5] at r5 ⊢
        clear hG5 z0 z1
        obtain ⟨⟨y0, y1⟩, -, -⟩ := row_fr r5
        go_wp2_with fail
        have hal := (Below.refl W5.heap.size W5).alloc (Nat.le_refl _) (.cells #[.int .i64 x, .int .i64 y] 3)
        refine (areUpTo_any 10000 [x, y] _ 2 2 _ (ints_new2 W5 x y) rfl (by omega)).mono ?_
        rintro e w6 ⟨rfl, hbb⟩
        have hb6 := hb2.trans ((hal.trans (hbb.mono hal.size)).mono hb2.size)
        obtain ⟨bv, hbv⟩ : ∃ b, Tm.upTo 10000 [x, y] = b := ⟨_, rfl⟩
        rw [hbv] at hst ⊢
        clear hbv hal hbb
        cases bv with
        | true =>
          have hr : Hid (R = if (l.drop (k + 1)).all (fun o => Tm.upTo 10000 [o.1, o.2]) then 0 else 1) := Lib.hid (by rw [HK.out, hst.out, Bool.true_and])
          clear hst HK
          go_wp2_with fail
          go_roundw
          case rel => exact ⟨k + 1, by omega, by go_num, hr, hb6⟩
          case measure => simp [intOf]; omega
        | false =>
          have hr : Hid (R = 1) := Lib.hid (by rw [HK.out, hst.out]; rfl)
          clear hst HK
          go_wp2_with fail
          go_ret
          exact ⟨ret_int hr.out.symm, hb6⟩
      · have hr : Hid (R = 0) := Lib.hid (by rw [HK.out, List.drop_eq_nil_of_le (by have := Hn.out; omega)]; rfl)
        go_wp2_with fail
        go_ret
        exact ⟨ret_int hr.out.symm, hb⟩

set_option maxRecDepth 100000 in
set_option maxHeartbeats 4000000 in
theorem objectors_any (l : List (Int × Int)) (ao : Option Addr) (n cap : Nat) (d x : Int) (w : World) (hI : Pts w ao l) (hn : n = l.length) (hn9 : n ≤ 20) :
    Calls Try.prog 81 #[.slice ao n cap, .int .i64 d, .int .i64 x] w fun e w' => (∃ v out, e = .returned v ∧ w'.ownsRow w.heap.size 3 1 v out.length (out.map (Value.int .i64)) ∧ IsSet out (Tm.Obs d x l)) ∧ Below w.heap.size w w' := by
  have Hn := Lib.hid hn
  clear hn
  obtain ⟨i0, hi0, hz0, hz1, hz2⟩ := info_in
  go_enter Try.func81, Try.ntmps81
  go_wp2_with fail
  go_loopw [7, 12] (fun v i wr => ∃ k m : Nat, k ≤ n ∧ i = .int .i64 k ∧ m ≤ k ∧ Hid (m = (Tm.obsF d x (l.take k)).length) ∧ Hid (wr.ownsRow w.heap.size 3 1 v m ((Tm.obsF d x (l.take k)).map (Value.int .i64))) ∧ Below w.heap.size w wr) (fun _ i _ => n - (intOf i).toNat)
  case atStart => exact ⟨0, 0, Nat.zero_le _, rfl, Nat.le_refl _, Lib.hid rfl, Lib.hid ⟨rfl, .inl ⟨rfl, rfl⟩⟩, Below.refl _ _⟩
  case round =>
    obtain ⟨k, m, hk, rfl, hmk, Hm, hown, hb⟩ := hrel
    by_cases hlt : k < n
    · have hkl : k < l.length := by have := Hn.out; omega
      obtain ⟨b, off, rfl, hbs, hcc⟩ := (hI.below hb).cells (by omega)
      obtain ⟨z0, z1⟩ := hcc k hkl
      have hst := Lib.hid (Tm.obsF_take d x hkl)
      obtain ⟨s, hs⟩ : ∃ s, s = l.getD k (0, 0) := ⟨_, rfl⟩
      rw [← hs] at z0 z1 hst
      obtain ⟨p, q⟩ := s
      simp only at z0 z1 hst
      clear hs hcc
      have i1 : (k : Int) < (n : Int) := by omega
      go_upto_region 5 with fail
      have r5 := heap_alloc_new wr (.cells #[.int .i64 p, .int .i64 q] 95)
      have hb2 := hb.alloc hb.size (.cells #[.int .i64 p, .int .i64 q] 95)
      have hown4 := Lib.hid (own_below hown.out ((Below.refl _ wr).alloc (Nat.le_refl _) (.cells #[.int .i64 p, .int .i64 q] 95)))
      generalize wr.alloc (.cells #[.int .i64 p, .int .i64 q] 95) = W5 at r5 hb2 hown4 ⊢
      obtain ⟨G5, hG5⟩ : ∃ g, g = wr.heap.size := ⟨_, rfl⟩
      rw [← hG5] at r5 ⊢
      clear hG5 z0 z1 hown hbs
      obtain ⟨⟨y0, y1⟩, -, -⟩ := row_fr r5
      have hs := hb2.size
      by_cases h1 : d ≤ q
      · by_cases h2 : q ≤ x
        · have hq : Hid (Tm.obsF d x (l.take (k + 1)) = Tm.obsF d x (l.take k) ++ [p]) := Lib.hid (by rw [hst.out, decide_eq_true h1, decide_eq_true h2]; rfl)
          clear hst
          go_wp2_with (first | (at_builtin; refine wpList_append_own _ rfl _ _ 22 rfl w.heap.size 3 i0 (.int .i64 0) 1 8 Try.underlying22 hi0 hz0 hz1 hz2 rfl (by decide) _ m _ rfl (hown4.out.alloc _) ⟨W5.heap.size, 0, none⟩ 1 1 [.int .i64 p] rfl rfl (World.news_of_block (cs := #[.int .i64 p]) (t := 3) (fr := (0, 0)) (heap_alloc_new W5 _)) (by simp [Value.oneCell']) (by unfold maxLen; omega) (by omega) (by simp; omega) ?_; intro v' w5 hown5 hgrow5 hnil5; have hb5 : Below w.heap.size w w5 := (hb2.alloc hs _).grown hgrow5 (by simp; omega) (fun q hq => (hown4.out.lt _ hq).1); clear hgrow5 hnil5))
          go_roundw
          case rel => exact ⟨k + 1, m + 1, by omega, by go_num, by omega, Lib.hid (by rw [hq.out, List.length_append, Hm.out]; rfl), Lib.hid (by rw [hq.out, List.map_append]; exact hown5), hb5⟩
          case measure => simp [intOf]; omega
        · have hq : Hid (Tm.obsF d x (l.take (k + 1)) = Tm.obsF d x (l.take k)) := Lib.hid (by rw [hst.out, decide_eq_false h2, Bool.and_false]; simp)
          clear hst
          go_wp2_with fail
          go_roundw
          case rel => exact ⟨k + 1, m, by omega, by go_num, by omega, Lib.hid (by rw [hq.out, Hm.out]), Lib.hid (by rw [hq.out]; exact hown4.out), hb2⟩
          case measure => simp [intOf]; omega
      · have hq : Hid (Tm.obsF d x (l.take (k + 1)) = Tm.obsF d x (l.take k)) := Lib.hid (by rw [hst.out, decide_eq_false h1, Bool.false_and]; simp)
        have i2 : decide (d ≤ q) = false := decide_eq_false h1
        clear hst
        go_wp2_with fail
        go_roundw
        case rel => exact ⟨k + 1, m, by omega, by go_num, by omega, Lib.hid (by rw [hq.out, Hm.out]), Lib.hid (by rw [hq.out]; exact hown4.out), hb2⟩
        case measure => simp [intOf]; omega
    · have hkn : k = n := by omega
      have htk : l.take k = l := List.take_of_length_le (by have := Hn.out; omega)
      have hO := hown.out
      rw [htk] at hO
      have hm2 : m = (Tm.obsF d x l).length := by rw [Hm.out, htk]
      have HO := Lib.hid hO
      have Hm2 := Lib.hid hm2
      have hm20 : m ≤ 20 := by omega
      have hnk : ¬ (k : Int) < (n : Int) := by omega
      clear hO hm2 hown Hm htk hkn
      go_wp2_with fail
      refine (sort_any (Tm.obsF d x l) m w.heap.size 3 _ wr HO.out Hm2.out (by omega)).mono ?_
      rintro e w2 ⟨rfl, ho2, hb2⟩
      have hB2 := hb.trans hb2
      clear hb2
      go_wp2_with fail
      refine (compact_any (srt (Tm.obsF d x l)) m w.heap.size 3 _ w2 ho2 (by rw [srt_len]; exact Hm2.out) (by omega)).mono ?_
      rintro e w3 ⟨⟨v', rfl, ho3⟩, hb3⟩
      have hset := compact_srt (Tm.obsF d x l)
      have hset2 : IsSet (Lib.compact (srt (Tm.obsF d x l))) (Tm.Obs d x l) := ⟨hset.1, fun a => (hset.2 a).trans (Tm.obs_mem d x l a)⟩
      have HO3 := Lib.hid ho3
      have HS := Lib.hid hset2
      clear ho3 hset hset2 ho2
      go_wp2_with fail
      go_ret
      exact ⟨⟨_, _, rfl, HO3.out, HS.out⟩, hB2.trans hb3⟩

set_option maxRecDepth 100000 in
set_option maxHeartbeats 4000000 in
theorem Objectors_any (f : Int) (F : List Int) (S : List (Int × Int)) (aoF : Option Addr) (nF cF : Nat) (aoS : Option Addr) (nS cS : Nat) (d t : Int) (l : List (Int × Int)) (ao : Option Addr) (n cap : Nat) (w : World) (hcl : Cl w aoF nF aoS nS F S) (h9 : nF ≤ 100000) (h8 : nS ≤ 100000) (hI : Pts w ao l) (hn : n = l.length) (hn9 : n ≤ 100000) :
    Calls Try.prog 43 #[.agg #[.int .i64 f, .slice aoF nF cF, .slice aoS nS cS], .int .i64 d, .int .i64 t, .slice ao n cap] w fun e w' => (∃ ao2 m cap2 v C, e = .returned (.tuple #[.slice ao2 m cap2, .int .i64 C]) ∧ m = v.length ∧ Ints w' ao2 v ∧ Tm.Ob f F S d t l v C) ∧ Below w.heap.size w w' := by
  have Hn := Lib.hid hn
  clear hn
  obtain ⟨C, hC⟩ : ∃ c, c = Tm.tcode f F S d [t] := ⟨_, rfl⟩
  have HC := Lib.hid hC
  clear hC
  have hA := (Below.refl _ w).alloc (Nat.le_refl _) (.cells #[.int .i64 f, .slice aoF nF cF, .slice aoS nS cS] 25)
  have rc := heap_alloc_new w (.cells #[.int .i64 f, .slice aoF nF cF, .slice aoS nS cS] 25)
  replace hcl := hcl.below hA
  replace hI := hI.below hA
  go_enter Try.func43, Try.ntmps43
  go_upto_region 1 with fail
  generalize w.alloc (.cells #[.int .i64 f, .slice aoF nF cF, .slice aoS nS cS] 25) = W0 at hA rc hcl hI ⊢
  obtain ⟨G, hG⟩ : ∃ g, g = w.heap.size := ⟨_, rfl⟩
  rw [← hG] at rc ⊢
  have HG := Lib.hid hG
  clear hG
  have c0 := cell_of_row W0 G 0 _ _ _ rc
  have c1 := cell_of_row W0 G 1 _ _ _ rc
  have c2 := cell_of_row W0 G 2 _ _ _ rc
  simp at c0 c1 c2
  clear rc
  go_wp2_with fail
  have hal := (Below.refl W0.heap.size W0).alloc (Nat.le_refl _) (.cells #[.int .i64 t] 3)
  have hX := validateTerms_any f F S aoF nF cF aoS nS cS d [t] _ 1 1 _ (hcl.below hal) h9 h8 (ints_new1 W0 t) rfl (by omega)
  rw [← HC.out] at hX
  refine hX.mono ?_
  clear hX
  rintro e w1 ⟨rfl, hbb⟩
  replace hcl := hcl.below hal
  replace hI := hI.below hal
  replace c0 := keep_cell hal c0
  replace c1 := keep_cell hal c1
  replace c2 := keep_cell hal c2
  replace hA := hA.trans (hal.mono hA.size)
  replace hcl := hcl.below hbb
  replace hI := hI.below hbb
  replace c0 := keep_cell hbb c0
  replace c1 := keep_cell hbb c1
  replace c2 := keep_cell hbb c2
  replace hA := hA.trans (hbb.mono hA.size)
  clear hal hbb
  by_cases hz : C = 0
  · have hz2 := Lib.hid (HC.out.symm.trans hz)
    obtain ⟨hv, hd, hts⟩ := Tm.tcode_ok hz2.out
    have ht := hts t (by simp)
    obtain ⟨hok, -, -⟩ := Tm.vcode_ok hv
    subst hz
    obtain ⟨d0, rfl⟩ := Int.eq_ofNat_of_zero_le hd.1
    obtain ⟨t0, rfl⟩ := Int.eq_ofNat_of_zero_le ht.1
    have hd4 : d0 ≤ 10000 := by omega
    have ht4 : t0 ≤ 400 := by omega
    clear HC hv hts hd ht
    have hX := validateObjections_any l ao n cap w1 hI Hn.out hn9
    obtain ⟨C2, hC2⟩ : ∃ c, c = Tm.ocode l := ⟨_, rfl⟩
    rw [← hC2] at hX
    have HC2 := Lib.hid hC2
    clear hC2
    go_wp2_with fail
    refine hX.mono ?_
    clear hX
    rintro e w2 ⟨rfl, hbb⟩
    replace hcl := hcl.below hbb
    replace hI := hI.below hbb
    replace c0 := keep_cell hbb c0
    replace c1 := keep_cell hbb c1
    replace c2 := keep_cell hbb c2
    replace hA := hA.trans (hbb.mono hA.size)
    clear hbb
    by_cases hz3 : C2 = 0
    · subst hz3
      have hn20 : n ≤ 20 := by
        have h := HC2.out
        unfold Tm.ocode at h
        split at h
        · cases h
        · have := Hn.out; omega
      have hE := ends_any 10000 d0 t0 f F S aoF nF cF aoS nS cS w2 hcl h9 h8 hok (by omega) (by omega) (by omega)
      go_wp2_with fail
      refine hE.mono ?_
      clear hE
      rintro e w3 ⟨⟨x, rfl, hx, hxb⟩, hbb⟩
      replace hcl := hcl.below hbb
      replace hI := hI.below hbb
      replace c0 := keep_cell hbb c0
      replace c1 := keep_cell hbb c1
      replace c2 := keep_cell hbb c2
      replace hA := hA.trans (hbb.mono hA.size)
      have HX := Lib.hid hx
      clear hbb hx
      go_wp2_with fail
      refine (objectors_any l ao n cap d0 x w3 hI Hn.out hn20).mono ?_
      rintro e w4 ⟨⟨v, out, rfl, ho, hset⟩, hbb⟩
      replace hcl := hcl.below hbb
      replace hI := hI.below hbb
      replace c0 := keep_cell hbb c0
      replace c1 := keep_cell hbb c1
      replace c2 := keep_cell hbb c2
      replace hA := hA.trans (hbb.mono hA.size)
      obtain ⟨ao2, cap2, rfl, -, hI2⟩ := own_ints ho rfl
      have HI := Lib.hid hI2
      have hq : Hid (Tm.Ob f F S (d0 : Int) (t0 : Int) l out 0) := Lib.hid (.inr ⟨hz2.out, .inr ⟨HC2.out.symm, rfl, x, by rw [Int.toNat_natCast, Int.toNat_natCast]; exact HX.out, hset⟩⟩)
      obtain ⟨m, hm⟩ : ∃ m, m = out.length := ⟨_, rfl⟩
      rw [← hm]
      have HM := Lib.hid hm
      clear hbb ho hI2 hset HX hm
      go_wp2_with fail
      go_ret2
      exact ⟨⟨ao2, m, cap2, out, 0, rfl, HM.out, HI.out, hq.out⟩, hA⟩
    · have hne : (C2 != 0) = true := by simp [hz3]
      have hq : Hid (Tm.Ob f F S (d0 : Int) (t0 : Int) l [] C2) := Lib.hid (.inr ⟨hz2.out, .inl ⟨by rw [← HC2.out]; exact hz3, HC2.out, rfl⟩⟩)
      go_wp2_with fail
      go_ret2
      exact ⟨⟨none, 0, 0, [], C2, rfl, rfl, ints_none _ _, hq.out⟩, hA⟩
  · have hne : (C != 0) = true := by simp [hz]
    have hq : Hid (Tm.Ob f F S d t l [] C) := Lib.hid (.inl ⟨by rw [← HC.out]; exact hz, HC.out, rfl⟩)
    go_wp2_with fail
    go_ret2
    exact ⟨⟨none, 0, 0, [], C, rfl, rfl, ints_none _ _, hq.out⟩, hA⟩

set_option maxRecDepth 100000 in
set_option maxHeartbeats 4000000 in
theorem InTime_any (f : Int) (F : List Int) (S : List (Int × Int)) (aoF : Option Addr) (nF cF : Nat) (aoS : Option Addr) (nS cS : Nat) (d t o : Int) (w : World) (hcl : Cl w aoF nF aoS nS F S) (h9 : nF ≤ 100000) (h8 : nS ≤ 100000) :
    Calls Try.prog 41 #[.agg #[.int .i64 f, .slice aoF nF cF, .slice aoS nS cS], .int .i64 d, .int .i64 t, .int .i64 o] w fun e w' => (∃ b, e = .returned (.tuple #[.bool b, .int .i64 (Tm.icode f F S d t o)]) ∧ Tm.It f F S d t o b) ∧ Below w.heap.size w w' := by
  obtain ⟨R, hR⟩ : ∃ c, c = Tm.icode f F S d t o := ⟨_, rfl⟩
  rw [← hR]
  have HR := Lib.hid hR
  clear hR
  obtain ⟨C, hC⟩ : ∃ c, c = Tm.tcode f F S d [t] := ⟨_, rfl⟩
  have HC := Lib.hid hC
  clear hC
  have hA := (Below.refl _ w).alloc (Nat.le_refl _) (.cells #[.int .i64 f, .slice aoF nF cF, .slice aoS nS cS] 25)
  have rc := heap_alloc_new w (.cells #[.int .i64 f, .slice aoF nF cF, .slice aoS nS cS] 25)
  replace hcl := hcl.below hA
  go_enter Try.func41, Try.ntmps41
  go_upto_region 1 with fail
  generalize w.alloc (.cells #[.int .i64 f, .slice aoF nF cF, .slice aoS nS cS] 25) = W0 at hA rc hcl ⊢
  obtain ⟨G, hG⟩ : ∃ g, g = w.heap.size := ⟨_, rfl⟩
  rw [← hG] at rc ⊢
  have HG := Lib.hid hG
  clear hG
  have c0 := cell_of_row W0 G 0 _ _ _ rc
  have c1 := cell_of_row W0 G 1 _ _ _ rc
  have c2 := cell_of_row W0 G 2 _ _ _ rc
  simp at c0 c1 c2
  clear rc
  go_wp2_with fail
  have hal := (Below.refl W0.heap.size W0).alloc (Nat.le_refl _) (.cells #[.int .i64 t] 3)
  have hX := validateTerms_any f F S aoF nF cF aoS nS cS d [t] _ 1 1 _ (hcl.below hal) h9 h8 (ints_new1 W0 t) rfl (by omega)
  rw [← HC.out] at hX
  refine hX.mono ?_
  clear hX
  rintro e w1 ⟨rfl, hbb⟩
  replace hcl := hcl.below hal
  replace c0 := keep_cell hal c0
  replace c1 := keep_cell hal c1
  replace c2 := keep_cell hal c2
  replace hA := hA.trans (hal.mono hA.size)
  replace hcl := hcl.below hbb
  replace c0 := keep_cell hbb c0
  replace c1 := keep_cell hbb c1
  replace c2 := keep_cell hbb c2
  replace hA := hA.trans (hbb.mono hA.size)
  clear hal hbb
  by_cases hz : C = 0
  · have hz2 := Lib.hid (HC.out.symm.trans hz)
    obtain ⟨hv, hd, hts⟩ := Tm.tcode_ok hz2.out
    have ht := hts t (by simp)
    obtain ⟨hok, -, -⟩ := Tm.vcode_ok hv
    subst hz
    obtain ⟨d0, rfl⟩ := Int.eq_ofNat_of_zero_le hd.1
    obtain ⟨t0, rfl⟩ := Int.eq_ofNat_of_zero_le ht.1
    have hd4 : d0 ≤ 10000 := by omega
    have ht4 : t0 ≤ 400 := by omega
    clear HC hv hts hd ht
    go_wp2_with fail
    have hal := (Below.refl w1.heap.size w1).alloc (Nat.le_refl _) (.cells #[.int .i64 o] 3)
    refine (areUpTo_any 10000 [o] _ 1 1 _ (ints_new1 w1 o) rfl (by omega)).mono ?_
    rintro e w2 ⟨rfl, hbb⟩
    replace hcl := hcl.below hal
    replace c0 := keep_cell hal c0
    replace c1 := keep_cell hal c1
    replace c2 := keep_cell hal c2
    replace hA := hA.trans (hal.mono hA.size)
    replace hcl := hcl.below hbb
    replace c0 := keep_cell hbb c0
    replace c1 := keep_cell hbb c1
    replace c2 := keep_cell hbb c2
    replace hA := hA.trans (hbb.mono hA.size)
    clear hal hbb
    obtain ⟨bv, hbv⟩ : ∃ b, Tm.upTo 10000 [o] = b := ⟨_, rfl⟩
    rw [hbv]
    cases bv with
    | false =>
      have hr : Hid (R = 1) := Lib.hid (by rw [HR.out]; unfold Tm.icode; rw [if_neg (by simpa using hz2.out), hbv]; rfl)
      have hq : Hid (Tm.It f F S (d0 : Int) (t0 : Int) o false) := Lib.hid (.inl ⟨by rw [← HR.out, hr.out]; decide, rfl⟩)
      clear hbv HR
      go_wp2_with fail
      go_ret2
      exact ⟨⟨false, by rw [hr.out]; rfl, hq.out⟩, hA⟩
    | true =>
      have hr : Hid (R = 0) := Lib.hid (by rw [HR.out]; unfold Tm.icode; rw [if_neg (by simpa using hz2.out), hbv]; rfl)
      have hi : Hid (Tm.icode f F S (d0 : Int) (t0 : Int) o = 0) := Lib.hid (HR.out.symm.trans hr.out)
      clear hbv HR
      by_cases hdo : (d0 : Int) ≤ o
      · have hE := ends_any 10000 d0 t0 f F S aoF nF cF aoS nS cS w2 hcl h9 h8 hok (by omega) (by omega) (by omega)
        go_wp2_with fail
        refine hE.mono ?_
        clear hE
        rintro e w3 ⟨⟨x, rfl, hx, hxb⟩, hbb⟩
        replace hcl := hcl.below hbb
        replace c0 := keep_cell hbb c0
        replace c1 := keep_cell hbb c1
        replace c2 := keep_cell hbb c2
        replace hA := hA.trans (hbb.mono hA.size)
        have hq : Hid (Tm.It f F S (d0 : Int) (t0 : Int) o (decide (o ≤ (x : Int)))) := Lib.hid (.inr ⟨hi.out, x, by rw [Int.toNat_natCast, Int.toNat_natCast]; exact hx, by rw [decide_eq_true hdo, Bool.true_and]⟩)
        clear hbb hx
        go_wp2_with fail
        go_ret2
        exact ⟨⟨_, by rw [hr.out]; rfl, hq.out⟩, hA⟩
      · have i1 : decide ((d0 : Int) ≤ o) = false := decide_eq_false hdo
        have hq : Hid (Tm.It f F S (d0 : Int) (t0 : Int) o false) := Lib.hid (by
          obtain ⟨x, hx⟩ := Tm.ends_ex hok d0 t0 hd4 (by omega)
          exact .inr ⟨hi.out, x, by rw [Int.toNat_natCast, Int.toNat_natCast]; exact hx, by rw [i1, Bool.false_and]⟩)
        go_wp2_with fail
        go_ret2
        exact ⟨⟨false, by rw [hr.out]; rfl, hq.out⟩, hA⟩
  · have hne : (C != 0) = true := by simp [hz]
    have hr : Hid (R = C) := Lib.hid (by rw [HR.out, HC.out]; unfold Tm.icode; rw [if_pos (by rw [← HC.out]; exact hz)])
    have hq : Hid (Tm.It f F S d t o false) := Lib.hid (.inl ⟨by rw [← HR.out, hr.out]; exact hz, rfl⟩)
    go_wp2_with fail
    go_ret2
    exact ⟨⟨false, by rw [hr.out]; rfl, hq.out⟩, hA⟩
end Go.Proofs.Ytmdkdkiejcjmaaa
