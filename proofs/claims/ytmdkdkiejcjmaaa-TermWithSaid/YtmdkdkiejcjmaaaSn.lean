import Derived.Test.YtmdkdkiejcjmaaaSm
/- Package selionref08: Chain. -/
namespace Go.Proofs.Ytmdkdkiejcjmaaa
open Go.RowKit Go.Shelf

set_option maxRecDepth 100000 in
set_option maxHeartbeats 4000000 in
theorem refChain_any (f : Int) (F : List Int) (S : List (Int × Int)) (aoF : Option Addr) (nF cF : Nat) (aoS : Option Addr) (nS cS : Nat) (d : Int) (ts : List Int) (ao : Option Addr) (n cap : Nat) (w : World) (hcl : Cl w aoF nF aoS nS F S) (h9 : nF ≤ 100000) (h8 : nS ≤ 100000) (hI : Ints w ao ts) (hn : n = ts.length) (hn9 : n ≤ 100000) :
    Calls Try.prog 47 #[.agg #[.int .i64 f, .slice aoF nF cF, .slice aoS nS cS], .int .i64 d, .slice ao n cap] w fun e w' => (∃ ao2 m cap2 v C, e = .returned (.tuple #[.slice ao2 m cap2, .int .i64 C]) ∧ m = v.length ∧ Ints w' ao2 v ∧ Tm.Ch f F S d ts v C) ∧ Below w.heap.size w w' := by
  have Hn := Lib.hid hn
  clear hn
  obtain ⟨i0, hi0, hz0, hz1, hz2⟩ := info_in
  obtain ⟨C, hC⟩ : ∃ c, c = Tm.tcode f F S d ts := ⟨_, rfl⟩
  have HC := Lib.hid hC
  clear hC
  have hA := (Below.refl _ w).alloc (Nat.le_refl _) (.cells #[.int .i64 f, .slice aoF nF cF, .slice aoS nS cS] 25)
  have rc := heap_alloc_new w (.cells #[.int .i64 f, .slice aoF nF cF, .slice aoS nS cS] 25)
  replace hcl := hcl.below hA
  replace hI := hI.below hA
  go_enter Try.func47, Try.ntmps47
  go_upto_region 1 with fail
  generalize w.alloc (.cells #[.int .i64 f, .slice aoF nF cF, .slice aoS nS cS] 25) = W0 at hA rc hcl hI ⊢
  obtain ⟨G, hG⟩ : ∃ g, g = w.heap.size := ⟨_, rfl⟩
  rw [← hG] at rc ⊢
  have HG := Lib.hid hG
  clear hG
  have c0 := cell_of_row W0 G 0 _ _ _ rc
  have c1 := cell_of_row W0 G 1 _ _ _ rc
  have c2 := cell_of_row W0 G 2 _ _ _ rc
  simp at c0 c1 c2
  clear rc
  go_wp2_with fail
  have hal := (Below.refl W0.heap.size W0).alloc (Nat.le_refl _) (.cells #[.int .i64 d] 3)
  have hX := asked_any f F S aoF nF cF aoS nS cS [d] (some ⟨W0.heap.size, 0, none⟩) 1 1 ts ao n cap _ (hcl.below hal) h9 h8 (ints_new1 W0 d) rfl (by omega) (hI.below hal) Hn.out hn9
  rw [Tm.acode_terms, ← HC.out] at hX
  refine hX.mono ?_
  clear hX
  rintro e w1 ⟨rfl, hbb⟩
  replace hcl := hcl.below hal
  replace hI := hI.below hal
  replace c0 := keep_cell hal c0
  replace c1 := keep_cell hal c1
  replace c2 := keep_cell hal c2
  replace hA := hA.trans (hal.mono hA.size)
  replace hcl := hcl.below hbb
  replace hI := hI.below hbb
  replace c0 := keep_cell hbb c0
  replace c1 := keep_cell hbb c1
  replace c2 := keep_cell hbb c2
  replace hA := hA.trans (hbb.mono hA.size)
  clear hal hbb
  by_cases hz : C = 0
  · have hz3 := Lib.hid (HC.out.symm.trans hz)
    obtain ⟨hv, hd, hts⟩ := Tm.tcode_ok hz3.out
    obtain ⟨hok, -, -⟩ := Tm.vcode_ok hv
    have Ht := Lib.hid hts
    subst hz
    obtain ⟨d0, rfl⟩ := Int.eq_ofNat_of_zero_le hd.1
    have hd4 : d0 ≤ 10000 := by omega
    clear HC hv hts hd
    by_cases h10 : 10 < n
    · have i1 : (10 : Int) < (n : Int) := by omega
      have hq : Hid (Tm.Ch f F S (d0 : Int) ts [] 3) := Lib.hid (.inr ⟨hz3.out, .inl ⟨by rw [← Hn.out]; exact h10, rfl, rfl⟩⟩)
      go_wp2_with fail
      go_ret2
      exact ⟨⟨none, 0, 0, [], 3, rfl, rfl, ints_none _ _, hq.out⟩, hA⟩
    · have i1 : ¬ (10 : Int) < (n : Int) := by omega
      go_wp2_with fail
      go_loopw [1, 9, 10] (fun dv v i wr => ∃ k x : Nat, ∃ out : List Int, k ≤ n ∧ i = .int .i64 k ∧ dv = .int .i64 x ∧ x ≤ 10000 ∧ Hid (Tm.Chn (Tm.count S) (Tm.work f F) d0 ts k x out) ∧ Hid (wr.ownsRow w1.heap.size 3 1 v k (out.map (Value.int .i64))) ∧ Below w1.heap.size w1 wr) (fun _ _ i _ => n - (intOf i).toNat)
      case atStart => exact ⟨0, d0, [], Nat.zero_le _, rfl, rfl, hd4, Lib.hid ⟨rfl, rfl⟩, Lib.hid ⟨rfl, .inl ⟨rfl, rfl⟩⟩, Below.refl _ _⟩
      case round =>
        obtain ⟨k, x, out, hk, rfl, rfl, hx4, HC, hown, hb⟩ := hrel
        have q0 := keep_cell hb c0
        have q1 := keep_cell hb c1
        have q2 := keep_cell hb c2
        by_cases hlt : k < n
        · have hkl : k < ts.length := by have := Hn.out; omega
          obtain ⟨b, off, rfl, hbs, hcc⟩ := (hI.below hb).cells (by omega)
          have z0 := hcc k hkl
          clear hcc
          have hmem : ts.getD k 0 ∈ ts := by rw [List.getD_eq_getElem?_getD, List.getElem?_eq_getElem hkl]; exact List.getElem_mem hkl
          obtain ⟨t1, t2⟩ := Ht.out _ hmem
          obtain ⟨t, htt⟩ : ∃ t : Nat, t = (ts.getD k 0).toNat := ⟨_, rfl⟩
          rw [show ts.getD k 0 = (t : Int) by omega] at z0
          have ht4 : t ≤ 400 := by omega
          have HT := Lib.hid htt
          clear htt hmem t1 t2
          have i2 : (k : Int) < (n : Int) := by omega
          have hdr : Below wr.heap.size wr wr.drew := below_drewN (Below.refl wr.heap.size wr) 1
          have hE := rends_any x t f F S aoF nF cF aoS nS cS wr.drew (hcl.below (hb.trans (hdr.mono hb.size))) h9 h8 hok (by omega) (by omega)
          have HE := Lib.hid hE
          clear hE
          go_upto_region 10 with fail
          go_region_held3 (fun w' => w'.cell? ⟨G, 0, none⟩ = some (.int .i64 f) ∧ w'.cell? ⟨G, 1, none⟩ = some (.slice aoF nF cF) ∧ w'.cell? ⟨G, 2, none⟩ = some (.slice aoS nS cS) ∧ w'.cell? ⟨b, off + k, none⟩ = some (.int .i64 (t : Nat)))
            (first | exact ⟨keep_cell hdr q0, keep_cell hdr q1, keep_cell hdr q2, keep_cell hdr z0⟩ | exact ka)
            (first | (go_at_call 78; refine HE.out.mono ?_; rintro e w4 ⟨⟨x2, rfl, hx2, hxb⟩, hbb⟩; have hb3 := hdr.trans (hbb.mono hdr.size); have ka := And.intro (keep_cell hb3 q0) (And.intro (keep_cell hb3 q1) (And.intro (keep_cell hb3 q2) (keep_cell hb3 z0)))))
          have hb4 := hb.trans (hb3.mono hb.size)
          have hown4 := Lib.hid (own_below hown.out hb3)
          rw [HT.out] at hx2
          have HX := Lib.hid hx2
          clear hbb hb3 hdr hx2 hown q0 q1 q2 z0 hbs ka HE
          by_cases hbig : 10000 < x2
          · have i3 : (10000 : Int) < (x2 : Int) := by omega
            have hbad : Hid (Tm.Ch f F S (d0 : Int) ts [] 10) := Lib.hid (.inr ⟨hz3.out, .inr ⟨by rw [← Hn.out]; omega, .inl ⟨by rw [Int.toNat_natCast]; exact ⟨k, x, out, x2, hkl, HC.out, HX.out, hbig⟩, rfl, rfl⟩⟩⟩)
            clear HC HX
            go_wp2_with fail
            go_ret2
            exact ⟨⟨none, 0, 0, [], 10, rfl, rfl, ints_none _ _, hbad.out⟩, hA.trans (hb4.mono hA.size)⟩
          · have i3 : ¬ (10000 : Int) < (x2 : Int) := by omega
            have hst : Hid (Tm.Chn (Tm.count S) (Tm.work f F) d0 ts (k + 1) x2 (out ++ [(x2 : Int)])) := Lib.hid ⟨x, out, HC.out, HX.out, by omega, rfl⟩
            clear HC HX
            have hs := hb4.size
            go_wp2_with (first | (at_builtin; refine wpList_append_own _ rfl _ _ 22 rfl w1.heap.size 3 i0 (.int .i64 0) 1 8 Try.underlying22 hi0 hz0 hz1 hz2 rfl (by decide) _ k _ rfl (hown4.out.alloc _) ⟨w4.heap.size, 0, none⟩ 1 1 [.int .i64 (x2 : Nat)] rfl rfl (World.news_of_block (cs := #[.int .i64 (x2 : Nat)]) (t := 3) (fr := (0, 0)) (heap_alloc_new w4 _)) (by simp [Value.oneCell']) (by unfold maxLen; omega) (by omega) (by simp; omega) ?_; intro v' w5 hown5 hgrow5 hnil5; have hb5 : Below w1.heap.size w1 w5 := (hb4.alloc hs _).grown hgrow5 (by simp; omega) (fun q hq => (hown4.out.lt _ hq).1); clear hgrow5 hnil5))
            go_roundw
            case rel => exact ⟨k + 1, x2, _, by omega, by go_num, rfl, by omega, hst, Lib.hid (by rw [List.map_append]; exact hown5), hb5⟩
            case measure => simp [intOf]; omega
        · have hkn : k = n := by omega
          obtain ⟨ao2, cap2, rfl, -, hI2⟩ := own_ints hown.out (Tm.Chn.len _ HC.out).symm
          have HL := Lib.hid (Tm.Chn.len _ HC.out)
          have HI := Lib.hid hI2
          have hq : Hid (Tm.Ch f F S (d0 : Int) ts out 0) := Lib.hid (.inr ⟨hz3.out, .inr ⟨by rw [← Hn.out]; omega, .inr ⟨rfl, x, by rw [Int.toNat_natCast, ← Hn.out, ← hkn]; exact HC.out⟩⟩⟩)
          have hnk : ¬ (k : Int) < (n : Int) := by omega
          clear HC hown hkn hI2
          go_wp2_with fail
          go_ret2
          exact ⟨⟨ao2, k, cap2, out, 0, rfl, HL.out.symm, HI.out, hq.out⟩, hA.trans (hb.mono hA.size)⟩
  · have hne : (C != 0) = true := by simp [hz]
    have hq : Hid (Tm.Ch f F S d ts [] C) := Lib.hid (.inl ⟨by rw [← HC.out]; exact hz, HC.out, rfl⟩)
    go_wp2_with fail
    go_ret2
    exact ⟨⟨none, 0, 0, [], C, rfl, rfl, ints_none _ _, hq.out⟩, hA⟩
end Go.Proofs.Ytmdkdkiejcjmaaa
