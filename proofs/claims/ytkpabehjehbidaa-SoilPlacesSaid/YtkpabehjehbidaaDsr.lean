import Derived.Test.YtkpabehjehbidaaEql
namespace Go.Proofs.Ytkpabehjehbidaa
open Go.RowKit
namespace Fl
def dearStep (l : List (Int × Int)) (size : Int) (s : Int × Rat) (k : Nat) : Int × Rat :=
  if s.2 < worth l ((k + 1 : Int) : Rat) ((k + 1 + size : Int) : Rat) then ((k + 1 : Int), worth l ((k + 1 : Int) : Rat) ((k + 1 + size : Int) : Rat)) else s
/-- The smallest whole place from which a piece is worth most, and this worth. -/
def dear (l : List (Int × Int)) (size : Int) : Int × Rat := (List.range (len l - size).toNat).foldl (dearStep l size) (0, worth l ((0 : Int) : Rat) (size : Rat))
end Fl

theorem whole_place {a b : Int} (h0 : 0 ≤ a) (h1 : a ≤ 1000) (h2 : 0 ≤ b) (h3 : b ≤ 1000) : PlaceOk (a : Rat) (b : Rat) :=
  ⟨by exact_mod_cast h0, by exact_mod_cast h2, by show a ≤ _; omega, by show b ≤ _; omega, by show 1 * 1 ≤ _; decide⟩
theorem worth_int {l : List (Int × Int)} (hok : Fl.Ok l) (h6 : l.length ≤ 6) {a b : Int} (h0 : 0 ≤ a) (h1 : a ≤ 1000) (h2 : 0 ≤ b) (h3 : b ≤ 1000) :
    0 ≤ (Fl.worth l (a : Rat) (b : Rat)).num ∧ (Fl.worth l (a : Rat) (b : Rat)).num ≤ 3000 ∧ (Fl.worth l (a : Rat) (b : Rat)).den = 1 := by
  obtain ⟨p1, -, -, p4, p5⟩ := (Fl.worth_adds (whole_place h0 h1 h2 h3).d hok h6).2
  have hb := (Fl.len_bound hok).2
  have hd : (Fl.worth l (a : Rat) (b : Rat)).den = 1 := by
    have h := (Fl.worth l (a : Rat) (b : Rat)).den_pos
    have h4 : (Fl.worth l (a : Rat) (b : Rat)).den ≤ 1 * 1 := p4
    omega
  refine ⟨Fl.num_nonneg p1, ?_, hd⟩
  have h5 : ((20 * Fl.len l : Int) : Rat) ≤ ((3000 : Int) : Rat) := Rat.intCast_le_intCast.2 (by omega)
  have := Fl.num_le (n := 3000) (Rat.le_trans p5 h5)
  rw [hd] at this
  omega

theorem results_cells3 {P : Program} {fn : Func} {p q r : Tmp} {ty ty2 : TypeId} (h : fn.results = #[.cell p ty, .cell q ty2, .tmp r]) (tmps : Array Value) (w : World) (g g2 : Nat) (t t2 : TypeId) (cs cs2 : Array Value) (fr fr2 : Nat × Nat) (d d2 : TypeDesc)
    (hp : tmps.getD p undef = .pointer (some ⟨g, 0, none⟩)) (hg : w.heap[g]? = some (.cells cs t fr))
    (hu : P.underlying ty = some d) (hd : (match d with | .struct _ | .array _ _ => true | _ => false) = true) (hi : (P.info? ty).map (·.size) = some cs.size)
    (hp2 : tmps.getD q undef = .pointer (some ⟨g2, 0, none⟩)) (hg2 : w.heap[g2]? = some (.cells cs2 t2 fr2))
    (hu2 : P.underlying ty2 = some d2) (hd2 : (match d2 with | .struct _ | .array _ _ => true | _ => false) = true) (hi2 : (P.info? ty2).map (·.size) = some cs2.size) :
    (results fn tmps).run P w = .ok (.tuple #[.agg cs, .agg cs2, tmps.getD r undef]) w := by
  have hp' : tmps[p]?.getD undef = .pointer (some ⟨g, 0, none⟩) := by simpa using hp
  have hp2' : tmps[q]?.getD undef = .pointer (some ⟨g2, 0, none⟩) := by simpa using hp2
  simp [results, h, hp', hp2', asAddr, run_loadVar_row w g t ty cs fr d hg hu hd hi, run_loadVar_row w g2 t2 ty2 cs2 fr2 d2 hg2 hu2 hd2 hi2]

/-- What holds after some of the operations of the last statement of Dearest, in whatever order. -/
def SD (W0 : World) (N G : Nat) (p0 p1 p2 p3 p4 p5 p7 p8 p9 p10 p11 p12 p13 p14 p15 p16 p17 p18 p19 p20 p21 p22 p23 p24 p25 p26 p27 p28 p29 p30 p31 p32 p33 p34 p35 p36 p37 p38 p39 p40 p41 p42 p43 p44 p45 p46 p47 p48 p49 p50 p51 p52 p53 p54 p55 : Value) (b : Int) (m : Rat) (L : Array Bool) (AA : Act) (W : World) : Prop :=
  ∃ (l0 l1 l2 l3 l4 l5 : Bool) (v6 v56 v57 v58 : Value), L = #[l0, l1, l2, l3, l4, l5] ∧ AA = ⟨#[p0, p1, p2, p3, p4, p5, v6, p7, p8, p9, p10, p11, p12, p13, p14, p15, p16, p17, p18, p19, p20, p21, p22, p23, p24, p25, p26, p27, p28, p29, p30, p31, p32, p33, p34, p35, p36, p37, p38, p39, p40, p41, p42, p43, p44, p45, p46, p47, p48, p49, p50, p51, p52, p53, p54, p55, v56, v57, v58], []⟩ ∧ Below N W0 W ∧
    (l0 = true → v56 = .int .i64 b) ∧ (l1 = true → v57 = Fr (b : Rat)) ∧ (l2 = true → v58 = Fr m) ∧
    W.heap[G]? = some (.cells #[.int .i64 m.num, .int .i64 m.den] 70 (0, 0)) ∧
    (∃ c d, W.heap[N]? = some (.cells #[c, d] 29 (0, 0))) ∧ (∃ c d, W.heap[N + 1]? = some (.cells #[c, d] 29 (0, 0))) ∧
    (l3 = true → W.heap[N]? = some (.cells #[.int .i64 (b : Rat).num, .int .i64 (b : Rat).den] 29 (0, 0))) ∧
    (l4 = true → W.heap[N + 1]? = some (.cells #[.int .i64 m.num, .int .i64 m.den] 29 (0, 0))) ∧ (l5 = true → v6 = .int .i64 0)

set_option maxRecDepth 100000 in
set_option maxHeartbeats 1000000 in
theorem dear_ok (l : List (Int × Int)) (size : Int) (ao : Option Addr) (n cap : Nat) (w : World) (hp : Pts w ao l) (hln : n = l.length) (hn : n ≤ 100000) (hv : Fl.validate l = 0) (hs0 : 0 ≤ size) (hs1 : size ≤ Fl.len l) :
    Calls Try.prog 42 #[.slice ao n cap, .int .i64 size] w fun e w' => e = .returned (.tuple #[Fr ((Fl.dear l size).1 : Rat), Fr (Fl.dear l size).2, .int .i64 0]) ∧ Below w.heap.size w w' := by
  have Hn := Lib.hid hln
  clear hln
  have hok := Fl.validate_ok.1 hv
  have Hv := Lib.hid hv
  clear hv
  have hlb := Fl.len_bound hok.2
  have hl1 := hok.1.1
  have h6 := hok.1.2
  obtain ⟨D, hD⟩ : ∃ d, d = Fl.dear l size := ⟨_, rfl⟩
  rw [← hD]
  have HD := Lib.hid hD
  clear hD
  have hA := below_alloc2 w (.cells #[.int .i64 0, .int .i64 0] 29) (.cells #[.int .i64 0, .int .i64 0] 29)
  have r4 := heap_alloc2_old w (.cells #[.int .i64 0, .int .i64 0] 29) (.cells #[.int .i64 0, .int .i64 0] 29)
  have r5 := heap_alloc2_new w (.cells #[.int .i64 0, .int .i64 0] 29) (.cells #[.int .i64 0, .int .i64 0] 29)
  have hp1 := hp.below hA
  have HHp := Lib.hid hp
  have HA := Lib.hid (And.intro hA (And.intro r4 r5))
  clear hA r4 r5 hp
  go_enter Try.func42, Try.ntmps42
  go_wp2_with fail
  refine (validate_any l _ _ _ _ hp1 Hn.out hn).mono ?_
  rintro e w1 ⟨rfl, hb1⟩
  rw [Hv.out]
  have hp2 := hp1.below hb1
  have r41 := heap_keep hb1 HA.out.2.1
  have r51 := heap_keep hb1 HA.out.2.2
  have hB1 := HA.out.1.trans (hb1.mono HA.out.1.size)
  clear hp1 hb1 HA
  go_wp2_with fail
  refine (length_any l _ _ _ _ hp2 Hn.out hok.2 h6).mono ?_
  rintro e w2 ⟨rfl, hb2⟩
  have hp3 := hp2.below hb2
  have r42 := heap_keep hb2 r41
  have r52 := heap_keep hb2 r51
  have hB2 := hB1.trans (hb2.mono hB1.size)
  clear hp2 hb2 r41 r51 hB1
  go_wp2_with fail
  refine (whole_any 0 _).mono ?_
  rintro e w3 ⟨rfl, hb3⟩
  have hp4 := hp3.below hb3
  have r43 := heap_keep hb3 r42
  have r53 := heap_keep hb3 r52
  have hB3 := hB2.trans (hb3.mono hB2.size)
  clear hp3 hb3 r42 r52 hB2
  go_wp2_with fail
  refine (whole_any size _).mono ?_
  rintro e w4 ⟨rfl, hb4⟩
  have hp5 := hp4.below hb4
  have r44 := heap_keep hb4 r43
  have r54 := heap_keep hb4 r53
  have hB4 := hB3.trans (hb4.mono hB3.size)
  clear hp4 hb4 r43 r53 hB3
  go_wp2_with fail
  refine (worth_any l ((0 : Int) : Rat) (size : Rat) _ _ _ _ hp5 Hn.out hok.2 hl1 h6 (whole_place (by omega) (by omega) hs0 (by omega))).mono ?_
  rintro e w5 ⟨rfl, hb5⟩
  have hp6 := hp5.below hb5
  have r45 := heap_keep hb5 r44
  have r55 := heap_keep hb5 r54
  have hB5 := hB4.trans (hb5.mono hB4.size)
  have l55 := heap_lt r55
  clear hp5 hb5 r44 r54 hB4
  have wi := worth_int hok.2 h6 (Int.le_refl 0) (by omega) hs0 (show size ≤ 1000 by omega)
  obtain ⟨W0, hW0⟩ : ∃ x, x = Fl.worth l ((0 : Int) : Rat) (size : Rat) := ⟨_, rfl⟩
  rw [← hW0] at wi ⊢
  have Wi := Lib.hid wi
  clear wi
  have ha := (Below.refl _ w5).alloc (Nat.le_refl _) (.cells #[.int .i64 W0.num, .int .i64 W0.den] 70)
  have hp7 := hp6.below ha
  have r46 := heap_keep ha r45
  have r56 := heap_keep ha r55
  have r9 := heap_alloc_new w5 (.cells #[.int .i64 W0.num, .int .i64 W0.den] 70)
  have hB6 := hB5.trans (ha.mono hB5.size)
  have hD0 : Hid (D = (List.range (Fl.len l - size).toNat).foldl (Fl.dearStep l size) (0, W0)) := Lib.hid (by rw [HD.out, hW0]; rfl)
  have hgG : w.heap.size + 2 ≤ w5.heap.size := by omega
  clear hW0 ha hp6 r45 r55 hB5 l55
  go_wp2_with fail
  generalize w5.alloc (.cells #[.int .i64 W0.num, .int .i64 W0.den] 70) = w6 at hp7 r46 r56 r9 hB6 ⊢
  generalize w5.heap.size = G at hgG r9 ⊢
  obtain ⟨M, hM⟩ : ∃ m, m = (Fl.len l - size).toNat := ⟨_, rfl⟩
  have hM2 : (M : Int) = Fl.len l - size := by omega
  rw [← hM] at hD0
  clear hM
  obtain ⟨L, hL⟩ : ∃ x, x = Fl.len l := ⟨_, rfl⟩
  rw [← hL] at hM2 hs1 hlb ⊢
  have HL := Lib.hid hL
  clear hL
  clear hp7
  have q1 : decide (size < 0) = false := decide_eq_false (by omega)
  have q2 : decide (L < size) = false := decide_eq_false (by omega)
  rw [q1, q2]
  simp only [Bool.or_false]
  clear q1 q2
  go_loopw [8, 10] (fun b a wr => ∃ (k : Nat) (s : Int × Rat) (t : Int), k ≤ M ∧ Hid (t = (k : Int) + 1) ∧ 1 ≤ t ∧ t ≤ 121 ∧ a = .int .i64 t ∧ b = .int .i64 s.1 ∧ Hid (s = (List.range k).foldl (Fl.dearStep l size) (0, W0)) ∧ Hid (0 ≤ s.2.num ∧ s.2.num ≤ 3000 ∧ s.2.den = 1) ∧ wr.heap[G]? = some (.cells #[.int .i64 s.2.num, .int .i64 s.2.den] 70 (0, 0)) ∧ wr.heap[w.heap.size]? = some (.cells #[.int .i64 0, .int .i64 0] 29 (0, 0)) ∧ wr.heap[w.heap.size + 1]? = some (.cells #[.int .i64 0, .int .i64 0] 29 (0, 0)) ∧ Below w.heap.size w wr) (fun _ a _ => M + 2 - (intOf a).toNat)
  case atStart => exact ⟨0, (0, W0), 1, Nat.zero_le _, Lib.hid rfl, by omega, by omega, rfl, rfl, Lib.hid rfl, Wi, r9, r46, r56, hB6⟩
  case round =>
    clear r9 r46 r56 hB6 Wi
    obtain ⟨k, s, t, hk, Ht, ht1, ht2, rfl, rfl, hs, hsb, r9, r4, r5, hb⟩ := hrel
    have hpw := Lib.hid (HHp.out.below hb)
    have b1 : (k : Int) ≤ 120 := by omega
    have b2 : size ≤ 120 := by omega
    go_wp2_with fail
    refine (length_any l _ _ _ _ hpw.out Hn.out hok.2 h6).mono ?_
    rintro e w2 ⟨rfl, hb2⟩
    rw [← HL.out]
    have hp2 := hpw.out.below hb2
    have r92 := heap_keep hb2 r9
    have r42 := heap_keep hb2 r4
    have r52 := heap_keep hb2 r5
    have hB2 := hb.trans (hb2.mono hb.size)
    clear hb2 hpw r9 r4 r5 hb
    by_cases hlt : k < M
    · have i1 : t + size ≤ L := by have := Ht.out; omega
      obtain ⟨u, hu⟩ : ∃ u, u = t + size := ⟨_, rfl⟩
      have hu1 : 0 ≤ u ∧ u ≤ 1000 := by omega
      have Hu := Lib.hid hu
      clear hu
      go_wp2_with fail
      refine (whole_any t _).mono ?_
      rintro e w3 ⟨rfl, hb3⟩
      have hp3 := hp2.below hb3
      have r93 := heap_keep hb3 r92
      have r43 := heap_keep hb3 r42
      have r53 := heap_keep hb3 r52
      have hB3 := hB2.trans (hb3.mono hB2.size)
      clear hb3 hp2 r92 r42 r52 hB2
      go_wp2_with fail
      rw [← Hu.out]
      refine (whole_any u _).mono ?_
      rintro e w4 ⟨rfl, hb4⟩
      have hp4 := hp3.below hb4
      have r94 := heap_keep hb4 r93
      have r44 := heap_keep hb4 r43
      have r54 := heap_keep hb4 r53
      have hB4 := hB3.trans (hb4.mono hB3.size)
      clear hb4 hp3 r93 r43 r53 hB3
      go_wp2_with fail
      refine (worth_any l (t : Rat) (u : Rat) _ _ _ _ hp4 Hn.out hok.2 hl1 h6 (whole_place (by omega) (by omega) hu1.1 hu1.2)).mono ?_
      rintro e w5 ⟨rfl, hb5⟩
      have hp5 := hp4.below hb5
      have r95 := heap_keep hb5 r94
      have r45 := heap_keep hb5 r44
      have r55 := heap_keep hb5 r54
      have hB5 := hB4.trans (hb5.mono hB4.size)
      clear hb5 hp4 r94 r44 r54 hB4
      have wi := worth_int hok.2 h6 (show 0 ≤ t by omega) (by omega) hu1.1 hu1.2
      have hst : Hid ((List.range (k + 1)).foldl (Fl.dearStep l size) (0, W0) = Fl.dearStep l size s k) := Lib.hid (by rw [List.range_succ, List.foldl_append, hs.out]; rfl)
      have hsd : Fl.dearStep l size s k = if s.2 < Fl.worth l (t : Rat) (u : Rat) then (t, Fl.worth l (t : Rat) (u : Rat)) else s := by rw [Hu.out, Ht.out]; rfl
      obtain ⟨V, hV⟩ : ∃ x, x = Fl.worth l (t : Rat) (u : Rat) := ⟨_, rfl⟩
      rw [← hV] at wi hsd ⊢
      clear hV
      have Wi := Lib.hid wi
      clear wi
      have hsd' := Lib.hid hsd
      clear hsd
      have ha := (Below.refl _ w5).alloc (Nat.le_refl _) (.cells #[.int .i64 V.num, .int .i64 V.den] 70)
      have hp6 := hp5.below ha
      have r96 := heap_keep ha r95
      have r46 := heap_keep ha r45
      have r56 := heap_keep ha r55
      have r11 := heap_alloc_new w5 (.cells #[.int .i64 V.num, .int .i64 V.den] 70)
      have hB6 := hB5.trans (ha.mono hB5.size)
      have l9 := heap_lt r95
      clear ha hp5 r45 r55 hB5
      obtain ⟨⟨c0, c1⟩, -, -⟩ := row_fr r95
      go_wp2_with fail
      refine (compare_any V s.2 _ Wi.out.1 hsb.out.1 (by have := Wi.out.2.1; omega) (by have := hsb.out.2.1; omega) (by rw [Wi.out.2.2, hsb.out.2.2]; omega)).mono ?_
      rintro e w7 ⟨rfl, hb7⟩
      have hp7 := hp6.below hb7
      have r97 := heap_keep hb7 r96
      have r47 := heap_keep hb7 r46
      have r57 := heap_keep hb7 r56
      have r117 := heap_keep hb7 r11
      have hB7 := hB6.trans (hb7.mono hB6.size)
      clear hb7 hp6 r96 r46 r56 r11 hB6 c0 c1 r95
      obtain ⟨⟨c0, c1⟩, f0, f1⟩ := row_fr r97
      obtain ⟨⟨d0, d1⟩, -, -⟩ := row_fr r117
      have hneq : w5.heap.size ≠ G := by omega
      by_cases hlv : s.2 < V
      · have hc : Fl.cmpR V s.2 = 1 := by unfold Fl.cmpR; rw [if_neg (by grind), if_pos hlv]
        rw [hc]
        have hS : Hid ((List.range (k + 1)).foldl (Fl.dearStep l size) (0, W0) = (t, V)) := Lib.hid (by rw [hst.out, hsd'.out, if_pos hlv])
        go_wp2_with fail
        go_region
        go_wp2_with fail
        go_roundw
        case rel =>
          refine ⟨k + 1, (t, V), t + 1, by omega, Lib.hid (by rw [Ht.out]; push_cast; omega), by omega, by omega, rfl, rfl, Lib.hid hS.out.symm, Wi, two_cells (w := w7) r97 _ _, ?_, ?_, below_drewN (below_setCell (below_setCell hB7 (by omega) _) (by omega) _) 1⟩
          · show ((w7.setCell _ _).setCell _ _).heap[w.heap.size]? = _
            rw [heap_setCell_other _ _ _ _ (by show w.heap.size ≠ G; omega), heap_setCell_other _ _ _ _ (by show w.heap.size ≠ G; omega)]; exact r47
          · show ((w7.setCell _ _).setCell _ _).heap[w.heap.size + 1]? = _
            rw [heap_setCell_other _ _ _ _ (by show w.heap.size + 1 ≠ G; omega), heap_setCell_other _ _ _ _ (by show w.heap.size + 1 ≠ G; omega)]; exact r57
        case measure => have := Ht.out; simp [intOf]; omega
      · have hc : Fl.cmpR V s.2 ≤ 0 := by
          unfold Fl.cmpR; grind
        have hS : Hid ((List.range (k + 1)).foldl (Fl.dearStep l size) (0, W0) = s) := Lib.hid (by rw [hst.out, hsd'.out, if_neg hlv])
        go_wp2_with fail
        go_roundw
        case rel => exact ⟨k + 1, s, t + 1, by omega, Lib.hid (by rw [Ht.out]; push_cast; omega), by omega, by omega, rfl, rfl, Lib.hid hS.out.symm, hsb, r97, r47, r57, hB7⟩
        case measure => have := Ht.out; simp [intOf]; omega
    · have hk2 : k = M := by omega
      have i1 : ¬ t + size ≤ L := by have := Ht.out; omega
      have hDs : Hid (D = s) := Lib.hid (by rw [hD0.out, hs.out, hk2])
      obtain ⟨⟨c0, c1⟩, -, -⟩ := row_fr r92
      obtain ⟨⟨d0, d1⟩, df0, df1⟩ := row_fr r42
      obtain ⟨⟨e0, e1⟩, ef0, ef1⟩ := row_fr r52
      go_wp2_with fail
      have hN : w.heap.size + 2 ≤ G := hgG
      refine wp_region_inv (by kernel_rfl) (SD w w.heap.size G _ _ _ _ _ _ _ _ _ _ _ _ _ _ _ _ _ _ _ _ _ _ _ _ _ _ _ _ _ _ _ _ _ _ _ _ _ _ _ _ _ _ _ _ _ _ _ _ _ _ _ _ _ _ _ s.1 s.2) ⟨false, false, false, false, false, false, _, _, _, _, rfl, rfl, below_drewN hB2 1, nofun, nofun, nofun, r92, ⟨_, _, r42⟩, ⟨_, _, r52⟩, nofun, nofun, nofun⟩ ?_ ?_
      · rintro listed AA W ⟨l0, l1, l2, l3, l4, l5, v6, v56, v57, v58, rfl, rfl, hB, h0, h1, h2, hG, ⟨c4, d4, h4⟩, ⟨c5, d5, h5⟩, h3, hq4, hq5⟩ i hi
        have hm := List.mem_filter.1 hi
        have hlt : i < 6 := by simpa using hm.1
        have hm2 := hm.2
        clear hm hi
        obtain rfl | rfl | rfl | rfl | rfl | rfl : i = 0 ∨ i = 1 ∨ i = 2 ∨ i = 3 ∨ i = 4 ∨ i = 5 := by omega
        all_goals simp [Region.binds] at hm2
        all_goals clear hlt
        all_goals refine wpOp_at rfl rfl ?_
        · clear hm2
          unfold Oper.wp
          go_simp
          exact ⟨_, _, _, _, _, _, _, _, _, _, rfl, rfl, hB, fun _ => rfl, h1, h2, hG, ⟨c4, d4, h4⟩, ⟨c5, d5, h5⟩, h3, hq4, hq5⟩
        · have d0 : l0 = true := by simp [hm2]
          have q0 := h0 d0
          subst q0
          clear hm2 d0
          unfold Oper.wp
          go_simp
          refine (whole_any s.1 W).mono ?_
          rintro e W' ⟨rfl, hb'⟩
          exact ⟨_, _, _, _, _, _, _, _, _, _, rfl, rfl, hB.trans (hb'.mono hB.size), h0, fun _ => rfl, h2, heap_keep hb' hG, ⟨c4, d4, heap_keep hb' h4⟩, ⟨c5, d5, heap_keep hb' h5⟩, fun q => heap_keep hb' (h3 q), fun q => heap_keep hb' (hq4 q), hq5⟩
        · clear hm2
          refine wp_load_row _ _ rfl _ rfl _ _ _ _ hG Try.underlying70 rfl infoFr2 ?_
          exact ⟨_, _, _, _, _, _, _, _, _, _, rfl, rfl, hB, h0, h1, fun _ => rfl, hG, ⟨c4, d4, h4⟩, ⟨c5, d5, h5⟩, h3, hq4, hq5⟩
        · have d1 : l1 = true := by simp [hm2]
          have q1 := h1 d1
          subst q1
          clear hm2 d1
          refine wp_store_row _ _ _ rfl _ #[.int .i64 (s.1 : Rat).num, .int .i64 (s.1 : Rat).den] rfl rfl _ _ h4 infoRat2 rfl (fr_one _) ?_
          exact ⟨_, _, _, _, _, _, _, _, _, _, rfl, rfl, below_setRow hB (Nat.le_refl _) _, h0, h1, h2, heap_row_other _ (by omega) hG, ⟨_, _, setRow_heap W _ _ _ _ _ h4⟩, ⟨c5, d5, heap_row_other _ (by omega) h5⟩, fun _ => setRow_heap W _ _ _ _ _ h4, fun q => heap_row_other _ (by omega) (hq4 q), hq5⟩
        · have d2 : l2 = true := by simp [hm2]
          have q2 := h2 d2
          subst q2
          clear hm2 d2
          refine wp_store_row _ _ _ rfl _ #[.int .i64 s.2.num, .int .i64 s.2.den] rfl rfl _ _ h5 infoRat2 rfl (fr_one _) ?_
          exact ⟨_, _, _, _, _, _, _, _, _, _, rfl, rfl, below_setRow hB (by omega) _, h0, h1, h2, heap_row_other _ (by omega) hG, ⟨c4, d4, heap_row_other _ (by omega) h4⟩, ⟨_, _, setRow_heap W _ _ _ _ _ h5⟩, fun q => heap_row_other _ (by omega) (h3 q), fun _ => setRow_heap W _ _ _ _ _ h5, hq5⟩
        · clear hm2
          unfold Oper.wp
          go_simp
          exact ⟨_, _, _, _, _, _, _, _, _, _, rfl, rfl, hB, h0, h1, h2, hG, ⟨c4, d4, h4⟩, ⟨c5, d5, h5⟩, h3, hq4, fun _ => rfl⟩
      · rintro listed AA W ⟨l0, l1, l2, l3, l4, l5, v6, v56, v57, v58, rfl, rfl, hB, h0, h1, h2, hG, ⟨c4, d4, h4⟩, ⟨c5, d5, h5⟩, h3, hq4, hq5⟩ hr
        have hr2 := fun i hi => List.filter_eq_nil_iff.1 hr i hi
        clear hr
        have k0 := hr2 0 (by simp)
        simp [Region.binds] at k0
        subst k0
        have k1 := hr2 1 (by simp)
        simp [Region.binds] at k1
        subst k1
        have k2 := hr2 2 (by simp)
        simp [Region.binds] at k2
        subst k2
        have k3 := hr2 3 (by simp)
        simp [Region.binds] at k3
        subst k3
        have k4 := hr2 4 (by simp)
        simp [Region.binds] at k4
        subst k4
        have k5 := hr2 5 (by simp)
        simp [Region.binds] at k5
        subst k5
        have e6 := hq5 rfl
        subst e6
        have R4 := h3 (by simp)
        have R5 := hq4 (by simp)
        go_wp2
        rw [hDs.out]
        exact bodyPost_ret (results_cells3 rfl _ _ _ _ _ _ _ _ _ _ _ _ rfl R4 Try.underlying29 rfl infoRat2 rfl R5 Try.underlying29 rfl infoRat2) rfl ⟨rfl, hB⟩
end Go.Proofs.Ytkpabehjehbidaa
