import Derived.Test.YtmdkdkiejcjmaaaSl
import Derived.Test.YtmdkdkiejcjmaaaSd
/- Package term: chain, Chain. -/
namespace Go.Proofs.Ytmdkdkiejcjmaaa
open Go.RowKit Go.Shelf

namespace Tm
/-- The first k terms have ended on the days out, the last one on x. -/
def Chn (c p : Nat → Bool) (d : Nat) (l : List Int) : Nat → Nat → List Int → Prop
  | 0, x, out => x = d ∧ out = []
  | k + 1, x, out => ∃ y o, Chn c p d l k y o ∧ Ends c p y (l.getD k 0).toNat x ∧ x ≤ 10000 ∧ out = o ++ [(x : Int)]
theorem Chn.unique {c p : Nat → Bool} {d : Nat} {l : List Int} : ∀ (k : Nat) {x y : Nat} {u v : List Int}, Chn c p d l k x u → Chn c p d l k y v → x = y ∧ u = v
  | 0, _, _, _, _, ⟨rfl, rfl⟩, ⟨rfl, rfl⟩ => ⟨rfl, rfl⟩
  | k + 1, _, _, _, _, ⟨y1, o1, h1, e1, _, rfl⟩, ⟨y2, o2, h2, e2, _, rfl⟩ => by
    obtain ⟨rfl, rfl⟩ := Chn.unique k h1 h2
    obtain rfl := e1.unique e2
    exact ⟨rfl, rfl⟩
theorem Chn.len {c p : Nat → Bool} {d : Nat} {l : List Int} : ∀ (k : Nat) {x : Nat} {u : List Int}, Chn c p d l k x u → u.length = k
  | 0, _, _, ⟨_, rfl⟩ => rfl
  | k + 1, _, _, ⟨_, _, h, _, _, rfl⟩ => by rw [List.length_append, Chn.len k h]; rfl
theorem Chn.pre {c p : Nat → Bool} {d : Nat} {l : List Int} : ∀ (m : Nat) {k x : Nat} {u : List Int}, Chn c p d l m x u → k ≤ m → ∃ y o, Chn c p d l k y o
  | 0, k, _, _, h, hk => by
    obtain rfl : k = 0 := by omega
    exact ⟨_, _, h⟩
  | m + 1, k, _, _, h, hk => by
    by_cases he : k = m + 1
    · subst he; exact ⟨_, _, h⟩
    · obtain ⟨_, _, h1, _⟩ := h
      exact Chn.pre m h1 (by omega)
/-- The term k ends above the greatest day. -/
def Bad (c p : Nat → Bool) (d : Nat) (l : List Int) : Prop := ∃ k y o x, k < l.length ∧ Chn c p d l k y o ∧ Ends c p y (l.getD k 0).toNat x ∧ 10000 < x
theorem Bad.no {c p : Nat → Bool} {d : Nat} {l : List Int} (h : Bad c p d l) {x : Nat} {u : List Int} (k : Chn c p d l l.length x u) : False := by
  obtain ⟨j, y, o, z, h1, h2, h3, h4⟩ := h
  obtain ⟨z2, o2, h5⟩ := Chn.pre l.length k (show j + 1 ≤ l.length from h1)
  obtain ⟨y3, o3, h6, h7, h8, -⟩ := h5
  obtain ⟨rfl, rfl⟩ := Chn.unique j h2 h6
  have := h3.unique h7
  omega
def Ch (f : Int) (F : List Int) (S : List (Int × Int)) (d : Int) (ts : List Int) (v : List Int) (e : Int) : Prop :=
  (tcode f F S d ts ≠ 0 ∧ e = tcode f F S d ts ∧ v = []) ∨ (tcode f F S d ts = 0 ∧ ((10 < ts.length ∧ e = 3 ∧ v = []) ∨ (ts.length ≤ 10 ∧ ((Bad (count S) (work f F) d.toNat ts ∧ e = 10 ∧ v = []) ∨ (e = 0 ∧ ∃ x, Chn (count S) (work f F) d.toNat ts ts.length x v)))))
theorem Ch.unique {f d e e2 : Int} {F : List Int} {S : List (Int × Int)} {ts u v : List Int} (h : Ch f F S d ts u e) (k : Ch f F S d ts v e2) : u = v ∧ e = e2 := by
  rcases h with ⟨h1, rfl, rfl⟩ | ⟨h1, h⟩ <;> rcases k with ⟨k1, rfl, rfl⟩ | ⟨k1, k⟩
  · exact ⟨rfl, rfl⟩
  · exact absurd k1 h1
  · exact absurd h1 k1
  · rcases h with ⟨h2, rfl, rfl⟩ | ⟨h2, h⟩ <;> rcases k with ⟨k2, rfl, rfl⟩ | ⟨k2, k⟩
    · exact ⟨rfl, rfl⟩
    · omega
    · omega
    · rcases h with ⟨h3, rfl, rfl⟩ | ⟨rfl, x, h3⟩ <;> rcases k with ⟨k3, rfl, rfl⟩ | ⟨rfl, y, k3⟩
      · exact ⟨rfl, rfl⟩
      · exact (h3.no k3).elim
      · exact (k3.no h3).elim
      · exact ⟨(Chn.unique _ h3 k3).2, rfl⟩
theorem Ch.len {f d e : Int} {F : List Int} {S : List (Int × Int)} {ts v : List Int} (h : Ch f F S d ts v e) : v.length ≤ 10 := by
  rcases h with ⟨-, -, rfl⟩ | ⟨-, ⟨-, -, rfl⟩ | ⟨h2, ⟨-, -, rfl⟩ | ⟨-, x, h3⟩⟩⟩
  · simp
  · simp
  · simp
  · rw [Chn.len _ h3]; exact h2
end Tm

set_option maxRecDepth 100000 in
set_option maxHeartbeats 4000000 in
theorem chain_any (d0 : Nat) (f : Int) (F : List Int) (S : List (Int × Int)) (aoF : Option Addr) (nF cF : Nat) (aoS : Option Addr) (nS cS : Nat) (ts : List Int) (ao : Option Addr) (n cap : Nat) (w : World) (hcl : Cl w aoF nF aoS nS F S) (h9 : nF ≤ 100000) (h8 : nS ≤ 100000) (hok : Tm.Ok 10000 f F S) (hd4 : d0 ≤ 10000) (hI : Ints w ao ts) (hn : n = ts.length) (hn9 : n ≤ 10) (ht : ∀ t ∈ ts, 0 ≤ t ∧ t ≤ 400) :
    Calls Try.prog 82 #[.agg #[.int .i64 f, .slice aoF nF cF, .slice aoS nS cS], .int .i64 d0, .slice ao n cap] w fun e w' => ((∃ v x out, e = .returned (.tuple #[v, .bool true]) ∧ Tm.Chn (Tm.count S) (Tm.work f F) d0 ts n x out ∧ w'.ownsRow w.heap.size 3 1 v n (out.map (Value.int .i64))) ∨ (e = .returned (.tuple #[.slice none 0 0, .bool false]) ∧ Tm.Bad (Tm.count S) (Tm.work f F) d0 ts)) ∧ Below w.heap.size w w' := by
  have Hn := Lib.hid hn
  have Ht := Lib.hid ht
  clear hn ht
  obtain ⟨i0, hi0, hz0, hz1, hz2⟩ := info_in
  have hA := (Below.refl _ w).alloc (Nat.le_refl _) (.cells #[.int .i64 f, .slice aoF nF cF, .slice aoS nS cS] 71)
  have rc := heap_alloc_new w (.cells #[.int .i64 f, .slice aoF nF cF, .slice aoS nS cS] 71)
  replace hcl := hcl.below hA
  replace hI := hI.below hA
  go_enter Try.func82, Try.ntmps82
  go_upto_region 1 with fail
  generalize w.alloc (.cells #[.int .i64 f, .slice aoF nF cF, .slice aoS nS cS] 71) = W0 at hA rc hcl hI ⊢
  obtain ⟨G, hG⟩ : ∃ g, g = w.heap.size := ⟨_, rfl⟩
  rw [← hG] at rc ⊢
  have HG := Lib.hid hG
  clear hG
  have c0 := cell_of_row W0 G 0 _ _ _ rc
  have c1 := cell_of_row W0 G 1 _ _ _ rc
  have c2 := cell_of_row W0 G 2 _ _ _ rc
  simp at c0 c1 c2
  clear rc
  go_wp2_with fail
  go_loopw [1, 8, 10, 13] (fun dv v _ i wr => ∃ k x : Nat, ∃ out : List Int, k ≤ n ∧ i = .int .i64 k ∧ dv = .int .i64 x ∧ x ≤ 10000 ∧ Hid (Tm.Chn (Tm.count S) (Tm.work f F) d0 ts k x out) ∧ Hid (wr.ownsRow W0.heap.size 3 1 v k (out.map (Value.int .i64))) ∧ Below W0.heap.size W0 wr) (fun _ _ _ i _ => n - (intOf i).toNat)
  case atStart => exact ⟨0, d0, [], Nat.zero_le _, rfl, rfl, hd4, Lib.hid ⟨rfl, rfl⟩, Lib.hid ⟨rfl, .inl ⟨rfl, rfl⟩⟩, Below.refl _ _⟩
  case round =>
    obtain ⟨k, x, out, hk, rfl, rfl, hx4, HC, hown, hb⟩ := hrel
    have q0 := keep_cell hb c0
    have q1 := keep_cell hb c1
    have q2 := keep_cell hb c2
    by_cases hlt : k < n
    · have hkl : k < ts.length := by have := Hn.out; omega
      obtain ⟨b, off, rfl, hbs, hcc⟩ := (hI.below hb).cells (by omega)
      have z0 := hcc k hkl
      clear hcc
      have hmem : ts.getD k 0 ∈ ts := by rw [List.getD_eq_getElem?_getD, List.getElem?_eq_getElem hkl]; exact List.getElem_mem hkl
      obtain ⟨t1, t2⟩ := Ht.out _ hmem
      obtain ⟨t, htt⟩ : ∃ t : Nat, t = (ts.getD k 0).toNat := ⟨_, rfl⟩
      rw [show ts.getD k 0 = (t : Int) by omega] at z0
      have ht4 : t ≤ 400 := by omega
      have HT := Lib.hid htt
      clear htt hmem t1 t2
      have i1 : (k : Int) < (n : Int) := by omega
      have hE := ends_any 10000 x t f F S aoF nF cF aoS nS cS wr (hcl.below hb) h9 h8 hok (by omega) (by omega) (by omega)
      go_wp2_with fail
      refine hE.mono ?_
      clear hE
      rintro e w4 ⟨⟨x2, rfl, hx2, hxb⟩, hbb⟩
      have hb4 := hb.trans (hbb.mono hb.size)
      have hown4 := Lib.hid (own_below hown.out hbb)
      rw [HT.out] at hx2
      have HX := Lib.hid hx2
      clear hbb hx2 hown q0 q1 q2 z0 hbs
      by_cases hbig : 10000 < x2
      · have i2 : (10000 : Int) < (x2 : Int) := by omega
        have hbad : Hid (Tm.Bad (Tm.count S) (Tm.work f F) d0 ts) := Lib.hid ⟨k, x, out, x2, hkl, HC.out, HX.out, hbig⟩
        clear HC HX
        go_wp2_with fail
        go_ret2
        exact ⟨.inr ⟨rfl, hbad.out⟩, hA.trans (hb4.mono hA.size)⟩
      · have i2 : ¬ (10000 : Int) < (x2 : Int) := by omega
        have hst : Hid (Tm.Chn (Tm.count S) (Tm.work f F) d0 ts (k + 1) x2 (out ++ [(x2 : Int)])) := Lib.hid ⟨x, out, HC.out, HX.out, by omega, rfl⟩
        clear HC HX
        have hs := hb4.size
        go_wp2_with (first | (at_builtin; refine wpList_append_own _ rfl _ _ 22 rfl W0.heap.size 3 i0 (.int .i64 0) 1 8 Try.underlying22 hi0 hz0 hz1 hz2 rfl (by decide) _ k _ rfl (hown4.out.alloc _) ⟨w4.heap.size, 0, none⟩ 1 1 [.int .i64 (x2 : Nat)] rfl rfl (World.news_of_block (cs := #[.int .i64 (x2 : Nat)]) (t := 3) (fr := (0, 0)) (heap_alloc_new w4 _)) (by simp [Value.oneCell']) (by unfold maxLen; omega) (by omega) (by simp; omega) ?_; intro v' w5 hown5 hgrow5 hnil5; have hb5 : Below W0.heap.size W0 w5 := (hb4.alloc hs _).grown hgrow5 (by simp; omega) (fun q hq => (hown4.out.lt _ hq).1); clear hgrow5 hnil5))
        go_roundw
        case rel => exact ⟨k + 1, x2, _, by omega, by go_num, rfl, by omega, hst, Lib.hid (by rw [List.map_append]; exact hown5), hb5⟩
        case measure => simp [intOf]; omega
    · have hkn : k = n := by omega
      have h1 := Lib.hid (show Tm.Chn (Tm.count S) (Tm.work f F) d0 ts n x out by rw [← hkn]; exact HC.out)
      have h2 := Lib.hid (show wr.ownsRow W0.heap.size 3 1 _ n (out.map (Value.int .i64)) by rw [← hkn]; exact hown.out)
      clear HC hown hkn
      go_wp2_with fail
      go_ret2
      exact ⟨.inl ⟨_, x, out, rfl, h1.out, own_mono h2.out hA.size⟩, hA.trans (hb.mono hA.size)⟩

set_option maxRecDepth 100000 in
set_option maxHeartbeats 4000000 in
theorem Chain_any (f : Int) (F : List Int) (S : List (Int × Int)) (aoF : Option Addr) (nF cF : Nat) (aoS : Option Addr) (nS cS : Nat) (d : Int) (ts : List Int) (ao : Option Addr) (n cap : Nat) (w : World) (hcl : Cl w aoF nF aoS nS F S) (h9 : nF ≤ 100000) (h8 : nS ≤ 100000) (hI : Ints w ao ts) (hn : n = ts.length) (hn9 : n ≤ 100000) :
    Calls Try.prog 46 #[.agg #[.int .i64 f, .slice aoF nF cF, .slice aoS nS cS], .int .i64 d, .slice ao n cap] w fun e w' => (∃ ao2 m cap2 v C, e = .returned (.tuple #[.slice ao2 m cap2, .int .i64 C]) ∧ m = v.length ∧ Ints w' ao2 v ∧ Tm.Ch f F S d ts v C) ∧ Below w.heap.size w w' := by
  have Hn := Lib.hid hn
  clear hn
  obtain ⟨C, hC⟩ : ∃ c, c = Tm.tcode f F S d ts := ⟨_, rfl⟩
  have HC := Lib.hid hC
  clear hC
  have hA := (Below.refl _ w).alloc (Nat.le_refl _) (.cells #[.int .i64 f, .slice aoF nF cF, .slice aoS nS cS] 25)
  have rc := heap_alloc_new w (.cells #[.int .i64 f, .slice aoF nF cF, .slice aoS nS cS] 25)
  replace hcl := hcl.below hA
  replace hI := hI.below hA
  go_enter Try.func46, Try.ntmps46
  go_upto_region 1 with fail
  generalize w.alloc (.cells #[.int .i64 f, .slice aoF nF cF, .slice aoS nS cS] 25) = W0 at hA rc hcl hI ⊢
  obtain ⟨G, hG⟩ : ∃ g, g = w.heap.size := ⟨_, rfl⟩
  rw [← hG] at rc ⊢
  have HG := Lib.hid hG
  clear hG
  have c0 := cell_of_row W0 G 0 _ _ _ rc
  have c1 := cell_of_row W0 G 1 _ _ _ rc
  have c2 := cell_of_row W0 G 2 _ _ _ rc
  simp at c0 c1 c2
  clear rc
  have hX := validateTerms_any f F S aoF nF cF aoS nS cS d ts ao n cap W0 hcl h9 h8 hI Hn.out hn9
  rw [← HC.out] at hX
  go_wp2_with fail
  refine hX.mono ?_
  clear hX
  rintro e w1 ⟨rfl, hbb⟩
  replace hcl := hcl.below hbb
  replace hI := hI.below hbb
  replace c0 := keep_cell hbb c0
  replace c1 := keep_cell hbb c1
  replace c2 := keep_cell hbb c2
  replace hA := hA.trans (hbb.mono hA.size)
  clear hbb
  by_cases hz : C = 0
  · have hz2 := Lib.hid (HC.out.symm.trans hz)
    obtain ⟨hv, hd, hts⟩ := Tm.tcode_ok hz2.out
    obtain ⟨hok, -, -⟩ := Tm.vcode_ok hv
    subst hz
    obtain ⟨d0, rfl⟩ := Int.eq_ofNat_of_zero_le hd.1
    by_cases h10 : 10 < n
    · have i1 : (10 : Int) < (n : Int) := by omega
      have hq : Hid (Tm.Ch f F S (d0 : Int) ts [] 3) := Lib.hid (.inr ⟨hz2.out, .inl ⟨by rw [← Hn.out]; exact h10, rfl, rfl⟩⟩)
      clear HC hv hts hok
      go_wp2_with fail
      go_ret2
      exact ⟨⟨none, 0, 0, [], 3, rfl, rfl, ints_none _ _, hq.out⟩, hA⟩
    · have i1 : ¬ (10 : Int) < (n : Int) := by omega
      have hE := chain_any d0 f F S aoF nF cF aoS nS cS ts ao n cap w1 hcl h9 h8 hok (by omega) hI Hn.out (by omega) hts
      clear HC hv hts hok
      go_wp2_with fail
      refine hE.mono ?_
      clear hE
      rintro e w2 ⟨⟨v, x, out, rfl, hx, ho⟩ | ⟨rfl, hbad⟩, hbb⟩
      · replace hcl := hcl.below hbb
        replace hI := hI.below hbb
        replace c0 := keep_cell hbb c0
        replace c1 := keep_cell hbb c1
        replace c2 := keep_cell hbb c2
        replace hA := hA.trans (hbb.mono hA.size)
        have hlen := Tm.Chn.len _ hx
        obtain ⟨ao2, cap2, rfl, -, hI2⟩ := own_ints ho hlen.symm
        have HI := Lib.hid hI2
        have HX := Lib.hid hx
        have HL := Lib.hid hlen
        clear hbb ho hI2 hx hlen
        have hq : Hid (Tm.Ch f F S (d0 : Int) ts out 0) := Lib.hid (.inr ⟨hz2.out, .inr ⟨by rw [← Hn.out]; omega, .inr ⟨rfl, x, by rw [Int.toNat_natCast, ← Hn.out]; exact HX.out⟩⟩⟩)
        go_wp2_with fail
        go_ret2
        exact ⟨⟨ao2, n, cap2, out, 0, rfl, HL.out.symm, HI.out, hq.out⟩, hA⟩
      · replace hcl := hcl.below hbb
        replace hI := hI.below hbb
        replace c0 := keep_cell hbb c0
        replace c1 := keep_cell hbb c1
        replace c2 := keep_cell hbb c2
        replace hA := hA.trans (hbb.mono hA.size)
        have hq : Hid (Tm.Ch f F S (d0 : Int) ts [] 10) := Lib.hid (.inr ⟨hz2.out, .inr ⟨by rw [← Hn.out]; omega, .inl ⟨by rw [Int.toNat_natCast]; exact hbad, rfl, rfl⟩⟩⟩)
        clear hbb hbad
        go_wp2_with fail
        go_ret2
        exact ⟨⟨none, 0, 0, [], 10, rfl, rfl, ints_none _ _, hq.out⟩, hA⟩
  · have hne : (C != 0) = true := by simp [hz]
    have hq : Hid (Tm.Ch f F S d ts [] C) := Lib.hid (.inl ⟨by rw [← HC.out]; exact hz, HC.out, rfl⟩)
    go_wp2_with fail
    go_ret2
    exact ⟨⟨none, 0, 0, [], C, rfl, rfl, ints_none _ _, hq.out⟩, hA⟩
end Go.Proofs.Ytmdkdkiejcjmaaa
