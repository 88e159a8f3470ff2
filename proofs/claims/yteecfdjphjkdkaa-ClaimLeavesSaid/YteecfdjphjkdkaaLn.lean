import Derived.Test.YteecfdjphjkdkaaUf
import Derived.Test.YteecfdjphjkdkaaLg
namespace Go.Proofs.Yteecfdjphjkdkaa
open Go.RowKit Go.Joins Go.Deep Go.ChangeShapes Go.WideShapes Go.ChangeAt
theorem Pts.take {w : World} {ao : Option Addr} {l : List (Int × Int)} (h : Pts w ao l) (k : Nat) : Pts w ao (l.take k) := by
  refine ⟨fun h0 => ?_⟩
  rw [List.length_take] at h0
  obtain ⟨b, off, rfl, hb, hc⟩ := h.cells (by omega)
  refine ⟨b, off, rfl, hb, fun i hi => ?_⟩
  rw [List.length_take] at hi
  have := hc i (by omega)
  rw [List.getD_eq_getElem?_getD] at this ⊢
  rw [List.getElem?_take, if_pos (by omega)]
  exact this
theorem Pts.drop {w : World} {b off : Nat} {l : List (Int × Int)} (h : Pts w (some ⟨b, off, none⟩) l) (p : Nat) : Pts w (some ⟨b, off + p * 2, none⟩) (l.drop p) := by
  refine ⟨fun h0 => ?_⟩
  rw [List.length_drop] at h0
  obtain ⟨b', off', e, hb, hc⟩ := h.cells (by omega)
  cases e
  refine ⟨b, off + p * 2, rfl, hb, fun i hi => ?_⟩
  rw [List.length_drop] at hi
  have := hc (p + i) (by omega)
  rw [List.getD_eq_getElem?_getD] at this ⊢
  rw [List.getElem?_drop, show off + p * 2 + i * 2 = off + (p + i) * 2 by omega]
  exact this
set_option maxRecDepth 100000 in
theorem open_casec {H : Type} {enc : TypeId × Value → H} {w : World} {v : Value} {d : DataW H} {p : List MemPlace} (hv : Value.okWide Try.prog w .any 0 24 v)
    (h : DataW.Trod enc Try.prog w 0 (fun _ => true) true 24 v d p) : ∃ (ao : Option Addr) (len cap : Nat) (l : List Int) (z : Int), v = .agg #[.slice ao len cap, .int .i64 z] ∧ len = l.length ∧ len ≤ cap ∧ Ints w ao l ∧ (∀ x ∈ l, Rng x) ∧ Rng z := by
  obtain ⟨cs, rfl, hsz⟩ := okWide_struct Try.underlying24 hv
  obtain ⟨c0, c1, rfl⟩ := array2 (hsz.trans (by kernel_rfl))
  obtain ⟨fuel, hf⟩ := h
  obtain ⟨y0, y1, n2, _, _, h0, h1⟩ := trod_struct2 Try.underlying24 hf
  have hC : Try.prog.cellsOf 22 = 1 := by kernel_rfl
  have hD : Try.prog.cellsOf 3 = 1 := by kernel_rfl
  dsimp only at h0 h1
  rw [hC] at h0
  rw [hD] at h1
  obtain ⟨ao, len, cap, l, rfl, e1, e2, e3, e4⟩ := ints_of (c0 := c0) (by simpa [Value.cells] using h0)
  obtain ⟨b, hb, _, wb⟩ := DataW.trod_int (cs := [c1]) Try.underlying3 (by simpa [Value.cells] using h1)
  simp only [List.cons.injEq, and_true] at hb
  exact ⟨ao, len, cap, l, b, by rw [hb], e1, e2, e3, e4, rng_of wb⟩
set_option maxRecDepth 100000 in
set_option maxHeartbeats 20000000 in
theorem claimLeaves_any (L : List Int) (ao : Option Addr) (n cap : Nat) (E : Int) (A : List (Int × Int)) (aoA : Option Addr) (nA capA : Nat) (i : Int) (w : World) (hI : Ints w ao L) (hln : n = L.length) (hcap : n ≤ cap) (_ : ∀ x ∈ L, Rng x) (_ : Rng E) (hJ : Pts w aoA A) (hlA : nA = A.length) (_ : ∀ z ∈ A, Rng z.1 ∧ Rng z.2) (_ : Rng i) :
    Calls Try.prog 14 #[.agg #[.slice ao n cap, .int .i64 E], .slice aoA nA capA, .int .i64 i] w fun e w' => e = .returned (.bool true) ∧ Below w.heap.size w w' := by
  have Hn := Lib.hid hln
  have r0 := heap_alloc_new w (.cells #[.slice ao n cap, .int .i64 E] 24)
  have hB : Below w.heap.size w (w.alloc (.cells #[.slice ao n cap, .int .i64 E] 24)) := (Below.refl _ w).alloc (Nat.le_refl _) _
  replace hI := hI.below ((Below.refl _ w).alloc (Nat.le_refl _) (.cells #[.slice ao n cap, .int .i64 E] 24))
  replace hJ := hJ.below ((Below.refl _ w).alloc (Nat.le_refl _) (.cells #[.slice ao n cap, .int .i64 E] 24))
  have HA := Lib.hid hlA
  clear hln hlA
  go_enter Try.func14, Try.ntmps14
  go_upto_region 1 with fail
  generalize w.alloc (.cells #[.slice ao n cap, .int .i64 E] 24) = W at r0 hB hI hJ ⊢
  obtain ⟨G, hG⟩ : ∃ G, G = w.heap.size := ⟨_, rfl⟩
  rw [← hG] at r0 ⊢
  clear hG
  obtain ⟨⟨c0, c1⟩, -, -⟩ := row_fr r0
  go_wp2_with fail
  refine ((long_any n cap ao E W)).mono ?_
  rintro e w1 ⟨rfl, hbb⟩
  replace hI := hI.below hbb
  replace hJ := hJ.below hbb
  replace r0 := heap_keep hbb r0
  replace hB := hB.trans (hbb.mono hB.size)
  clear hbb
  obtain ⟨⟨c0, c1⟩, -, -⟩ := row_fr r0
  by_cases h1 : 40 < n
  · have e1 : decide (40 < n) = true := by simp [h1]
    rw [e1]
    go_wp2_with fail
    refine ((known_any w1)).mono ?_
    rintro e w2 ⟨rfl, hbb⟩
    replace hI := hI.below hbb
    replace hJ := hJ.below hbb
    replace r0 := heap_keep hbb r0
    replace hB := hB.trans (hbb.mono hB.size)
    clear hbb
    go_wp2_with fail
    go_ret
    exact ⟨rfl, hB⟩
  · have e1 : decide (40 < n) = false := by simp [h1]
    rw [e1]
    clear e1
    by_cases h2 : 40 < nA
    · go_wp2_with fail
      refine ((known_any w1)).mono ?_
      rintro e w3 ⟨rfl, hbb⟩
      replace hI := hI.below hbb
      replace hJ := hJ.below hbb
      replace r0 := heap_keep hbb r0
      replace hB := hB.trans (hbb.mono hB.size)
      clear hbb
      go_wp2_with fail
      go_ret
      exact ⟨rfl, hB⟩
    have hn1 : n ≤ 100000 := by omega
    have hn2 : nA ≤ 100000 := by omega
    clear h1
    have hLv := leave_any L E A i ao n cap aoA nA capA w1 hI hJ Hn.out HA.out hcap hn1 hn2
    have HLr : Hid (∀ w', Below w1.heap.size w1 w' → Calls Try.prog 51 #[.slice ao n cap, .int .i64 E, .slice aoA nA capA, .int .i64 i] w' fun e w'' => ∃ ao2 cap2, e = .returned (.tuple #[.slice ao2 (Cl.lvL L E A i).length cap2, Cl.lvQ L E A i, .int .i64 (Cl.lvC L E A i)]) ∧ Ints w'' ao2 (Cl.lvL L E A i) ∧ Below w'.heap.size w' w'') := Lib.hid (fun w' hb => rleave_any L E A i ao n cap aoA nA capA w' (hI.below hb) (hJ.below hb) Hn.out HA.out hn1 hn2)
    obtain ⟨x, y, hQ⟩ := Cl.lvQ_agg L E A i
    have hRl : (Cl.lvL L E A i).length ≤ n := by rw [Hn.out]; exact Cl.lvL_len L E A i
    rw [hQ] at hLv HLr
    clear hQ
    generalize Cl.lvL L E A i = R1 at hLv HLr hRl
    generalize Cl.lvC L E A i = C1 at hLv HLr
    have Hr1 : Hid (R1.length = R1.length) := Lib.hid rfl
    obtain ⟨m1, hm1⟩ : ∃ m, m = R1.length := ⟨_, rfl⟩
    rw [← hm1] at hLv HLr hRl
    have Hm1 := Lib.hid hm1
    clear hm1 Hr1
    have hb1 := Below.refl w1.heap.size w1
    go_wp2_with fail
    refine ((hLv)).mono ?_
    rintro e w4 ⟨aoa, capa, rfl, hcpa, hI1, hbb⟩
    replace hI := hI.below hbb
    replace hJ := hJ.below hbb
    replace r0 := heap_keep hbb r0
    replace hB := hB.trans (hbb.mono hB.size)
    replace hb1 := hb1.trans (hbb.mono hb1.size)
    clear hbb
    obtain ⟨⟨c0, c1⟩, -, -⟩ := row_fr r0
    clear h2 hLv
    go_upto_region 4 with fail
    have ra := heap_alloc_new w4 (.cells #[.int .i64 x, .int .i64 y] 35)
    have hal := (Below.refl w4.heap.size w4).alloc (Nat.le_refl _) (.cells #[.int .i64 x, .int .i64 y] 35)
    replace hI := hI.below hal
    replace hJ := hJ.below hal
    replace r0 := heap_keep hal r0
    replace hB := hB.trans (hal.mono hB.size)
    replace hb1 := hb1.trans (hal.mono hb1.size)
    replace hI1 := hI1.below hal
    clear hal c0 c1
    generalize w4.alloc (.cells #[.int .i64 x, .int .i64 y] 35) = W5 at ra hI hJ r0 hB hb1 hI1 ⊢
    obtain ⟨Ga, hGa⟩ : ∃ g, g = w4.heap.size := ⟨_, rfl⟩
    rw [← hGa] at ra ⊢
    clear hGa
    obtain ⟨⟨c0, c1⟩, -, -⟩ := row_fr r0
    go_wp2_with fail
    refine ((HLr.out W5 hb1)).mono ?_
    rintro e w5 ⟨aob, capb, rfl, hI2, hbb⟩
    replace hI := hI.below hbb
    replace hJ := hJ.below hbb
    replace r0 := heap_keep hbb r0
    replace hB := hB.trans (hbb.mono hB.size)
    replace hb1 := hb1.trans (hbb.mono hb1.size)
    replace hI1 := hI1.below hbb
    replace ra := heap_keep hbb ra
    clear hbb
    clear HLr
    go_upto_region 5 with fail
    have rb := heap_alloc_new w5 (.cells #[.int .i64 x, .int .i64 y] 35)
    have hal := (Below.refl w5.heap.size w5).alloc (Nat.le_refl _) (.cells #[.int .i64 x, .int .i64 y] 35)
    replace hI := hI.below hal
    replace hJ := hJ.below hal
    replace r0 := heap_keep hal r0
    replace hB := hB.trans (hal.mono hB.size)
    replace hI1 := hI1.below hal
    replace ra := heap_keep hal ra
    replace hI2 := hI2.below hal
    clear hal c0 c1 hb1
    generalize w5.alloc (.cells #[.int .i64 x, .int .i64 y] 35) = W6 at ra rb hI hJ r0 hB hI1 hI2 ⊢
    obtain ⟨Gb, hGb⟩ : ∃ g, g = w5.heap.size := ⟨_, rfl⟩
    rw [← hGb] at rb ⊢
    clear hGb
    have hS := sameInts_any R1 R1 aoa m1 capa aob m1 capb W6 hI1 hI2 Hm1.out Hm1.out (by omega) (by omega)
    rw [show decide (R1 = R1) = true by simp] at hS
    go_wp2_with fail
    refine ((hS)).mono ?_
    rintro e w6 ⟨rfl, hbb⟩
    replace hI := hI.below hbb
    replace r0 := heap_keep hbb r0
    replace hB := hB.trans (hbb.mono hB.size)
    replace ra := heap_keep hbb ra
    replace rb := heap_keep hbb rb
    clear hbb
    clear hS hI1 hI2 hJ
    obtain ⟨⟨c0, c1⟩, -, -⟩ := row_fr r0
    obtain ⟨⟨ca0, ca1⟩, -, -⟩ := row_fr ra
    obtain ⟨⟨cb0, cb1⟩, -, -⟩ := row_fr rb
    go_upto_region 7 with fail
    go_wp2_with fail
    refine ((validate_any L E ao n cap w6 hI Hn.out hn1)).mono ?_
    rintro e w7 ⟨rfl, hbb⟩
    replace hI := hI.below hbb
    replace r0 := heap_keep hbb r0
    replace hB := hB.trans (hbb.mono hB.size)
    replace ra := heap_keep hbb ra
    replace rb := heap_keep hbb rb
    clear hbb
    obtain ⟨⟨c0, c1⟩, -, -⟩ := row_fr r0
    clear ca0 ca1 cb0 cb1 ra rb
    by_cases hc : Cl.caseC L E = 0
    · rw [hc]
      by_cases g1 : i < 0
      · go_wp2_with fail
        refine ((known_any w7)).mono ?_
        rintro e w8 ⟨rfl, hbb⟩
        replace hI := hI.below hbb
        replace r0 := heap_keep hbb r0
        replace hB := hB.trans (hbb.mono hB.size)
        clear hbb
        go_wp2_with fail
        go_ret
        exact ⟨rfl, hB⟩
      · by_cases g2 : (n : Int) ≤ i
        · go_wp2_with fail
          refine ((known_any w7)).mono ?_
          rintro e w9 ⟨rfl, hbb⟩
          replace hI := hI.below hbb
          replace r0 := heap_keep hbb r0
          replace hB := hB.trans (hbb.mono hB.size)
          clear hbb
          go_wp2_with fail
          go_ret
          exact ⟨rfl, hB⟩
        · obtain ⟨k, rfl⟩ := Int.eq_ofNat_of_zero_le (show 0 ≤ i by omega)
          by_cases g3 : n < 2
          · go_wp2_with fail
            refine ((known_any w7)).mono ?_
            rintro e w10 ⟨rfl, hbb⟩
            replace hI := hI.below hbb
            replace r0 := heap_keep hbb r0
            replace hB := hB.trans (hbb.mono hB.size)
            clear hbb
            go_wp2_with fail
            go_ret
            exact ⟨rfl, hB⟩
          · have Hc := Lib.hid hc
            have hkn : k < n := by omega
            have hk1 : (k : Int) < (n : Int) := by omega
            have hn2' : 2 ≤ n := by omega
            have hn8 : n ≤ 8 := by have := Hn.out; have := (Cl.okC_iff.1 (Cl.caseC_ok.1 hc).1).2.1; omega
            clear hc
            have q1 : decide ((n : Int) ≤ (k : Int)) = false := decide_eq_false (by omega)
            have q2 : decide ((k : Int) < 0) = false := decide_eq_false (by omega)
            have q3 : decide ((n : Int) < 2) = false := decide_eq_false (by omega)
            go_wp2_with fail
            clear c0 c1 q1 q2 q3
            rw [show decide (n ≤ k) = false from decide_eq_false (by omega)]
            go_loopw [13, 14, 15, 16, 17, 18, 19, 20] (fun r _ _ _ _ _ _ _ wr => ∃ q : Nat, q ≤ 4 ∧ r = .int .i64 q ∧ Below w7.heap.size w7 wr) (fun r _ _ _ _ _ _ _ _ => 4 - (intOf r).toNat)
            case atStart => exact ⟨0, Nat.zero_le _, rfl, Below.refl _ _⟩
            case round =>
              obtain ⟨q, hq, rfl, hBw⟩ := hrel
              replace hI := hI.below hBw
              replace r0 := heap_keep hBw r0
              by_cases hlt : q < 4
              · have i1 : (q : Int) < 4 := by omega
                have hsz := hBw.size
                obtain ⟨⟨c0, c1⟩, -, -⟩ := row_fr r0
                have hHB := Lib.hid hB
                clear hB
                go_wp2_with fail
                refine ((by_any q hlt L E ao n cap wr hI Hn.out Hc.out)).mono ?_
                rintro e w11 ⟨aoo, capo, rfl, hcpo, hPo, hbb⟩
                replace hI := hI.below hbb
                replace r0 := heap_keep hbb r0
                replace hBw := hBw.trans (hbb.mono hBw.size)
                clear hbb
                obtain ⟨⟨c0, c1⟩, -, -⟩ := row_fr r0
                have hAl : Hid (n = ((Cl.ruleL q L E).map pr).length) := Lib.hid (by rw [List.length_map, Cl.rl_len]; exact Hn.out)
                have hLv := leave_any L E ((Cl.ruleL q L E).map pr) k ao n cap aoo n capo w11 hI hPo Hn.out hAl.out hcap hn1 hn1
                obtain ⟨o1, o2, o3⟩ := Cl.lv_ok (E := E) (Cl.ch_rl Hc.out q) (show k < L.length by rw [← Hn.out]; exact hkn)
                have hrest := Lib.hid (Cl.rl_rest Hc.out (show k < L.length by rw [← Hn.out]; exact hkn) (by rw [← Hn.out]; exact hn2') q)
                rw [o1, o2, o3, show L.take k ++ L.drop (k + 1) = Cl.wk L k from rfl] at hLv
                clear o1 o2 o3
                generalize Cl.lsF E (((Cl.ruleL q L E).map pr).getD k (0, 0)) = z at hLv hrest
                rw [show Fr z = .agg #[.int .i64 z.num, .int .i64 z.den] from rfl] at hLv
                have hwl : Hid ((Cl.wk L k).length + 1 = n) := Lib.hid (by rw [Hn.out]; exact Cl.wk_len (by rw [← Hn.out]; exact hkn))
                obtain ⟨m, hm⟩ : ∃ m, m = (Cl.wk L k).length := ⟨_, rfl⟩
                rw [← hm] at hLv hwl
                have Hm := Lib.hid hm
                clear hm
                go_wp2_with fail
                refine ((hLv)).mono ?_
                rintro e w12 ⟨aol, capl, rfl, hcpl, hIl, hbb⟩
                replace hI := hI.below hbb
                replace r0 := heap_keep hbb r0
                replace hBw := hBw.trans (hbb.mono hBw.size)
                replace hPo := hPo.below hbb
                clear hbb
                clear hLv
                obtain ⟨⟨c0, c1⟩, -, -⟩ := row_fr r0
                go_upto_region 14 with fail
                have rc := heap_alloc_new w12 (.cells #[.int .i64 z.num, .int .i64 z.den] 35)
                have hal := (Below.refl w12.heap.size w12).alloc (Nat.le_refl _) (.cells #[.int .i64 z.num, .int .i64 z.den] 35)
                replace hI := hI.below hal
                replace r0 := heap_keep hal r0
                replace hBw := hBw.trans (hal.mono hBw.size)
                replace hPo := hPo.below hal
                replace hIl := hIl.below hal
                clear hal c0 c1
                generalize w12.alloc (.cells #[.int .i64 z.num, .int .i64 z.den] 35) = W10 at rc hI r0 hBw hPo hIl ⊢
                obtain ⟨Gc, hGc⟩ : ∃ g, g = w12.heap.size := ⟨_, rfl⟩
                rw [← hGc] at rc ⊢
                clear hGc
                obtain ⟨⟨c0, c1⟩, -, -⟩ := row_fr r0
                obtain ⟨⟨d0, d1⟩, -, -⟩ := row_fr rc
                by_cases hden : z.den = 1
                · obtain ⟨hc2, hl2⟩ := hrest.out hden
                  have HL2 := Lib.hid hl2
                  have y1 : (z.den : Int) = 1 := by omega
                  have hm8 : m ≤ 8 := by have := hwl.out; omega
                  rw [y1] at d1
                  go_wp2_with fail
                  refine ((by_any q hlt (Cl.wk L k) z.num aol m capl W10 hIl Hm.out hc2)).mono ?_
                  rintro e w13 ⟨aog, capg, rfl, -, hPg, hbb⟩
                  replace hI := hI.below hbb
                  replace r0 := heap_keep hbb r0
                  replace hBw := hBw.trans (hbb.mono hBw.size)
                  replace hPo := hPo.below hbb
                  clear hbb
                  rw [hl2] at hPg
                  clear hl2 hc2 hIl d0 d1 hrest
                  obtain ⟨⟨c0, c1⟩, -, -⟩ := row_fr r0
                  go_upto_region 18 with fail
                  have hbq := below_drewN (Below.refl w13.heap.size w13) 1
                  obtain ⟨bo, oo, rfl, hbo, hco⟩ := hPo.cells (by rw [List.length_map, Cl.rl_len, ← Hn.out]; omega)
                  have hk9 : k ≤ capo := by omega
                  have hk10 : (k : Int) ≤ (capo : Int) := by omega
                  have hk11 : (0 : Int) ≤ (k : Int) + 1 := by omega
                  have hk12 : (k : Int) + 1 ≤ (capo : Int) := by omega
                  have hk13 : k + 1 ≤ capo := by omega
                  have hk14 : (k : Int) + 1 ≤ (n : Int) := by omega
                  have e2 : IntKind.i64.wrap ((k : Int) + 1) = (k : Int) + 1 := IntWalk.i64_in _ (by omega)
                  have hP1 := Lib.hid (hPo.take k)
                  have hP2 := Lib.hid (hPo.drop (k + 1))
                  have Hlt : Hid ((((Cl.ruleL q L E).map pr).take k).length = k) := Lib.hid (by rw [List.length_take, ← hAl.out]; omega)
                  have Hld : Hid ((((Cl.ruleL q L E).map pr).drop (k + 1)).length = n - (k + 1)) := Lib.hid (by rw [List.length_drop, ← hAl.out])
                  obtain ⟨i0, hi0, hz0, hz1, hz2⟩ := info_rt
                  clear hPo hco c1
                  obtain ⟨W18, hW18⟩ : ∃ W, W = w13 := ⟨_, rfl⟩
                  rw [← hW18] at c0 hP1 hP2 hPg hBw hI r0 hbo ⊢
                  clear hW18
                  refine wp_region_held_drew (S := fun w' => w'.cell? ⟨G, 0, none⟩ = some (.slice ao n cap)) (by kernel_rfl) c0 (fun hHeld => ?_)
                  rcases (show k + 1 < capo ∨ capo = k + 1 by omega) with z1 | z1
                  · have z2 : ¬ (k + 1 = capo) := by omega
                    have z3 : ¬ (capo = k + 1) := by omega
                    have HT : Hid (∀ (W : World) (v : Value), W.ownsRow W18.heap.size 35 2 v (k + (n - (k + 1))) (flat2 (((Cl.ruleL q L E).map pr).take k) ++ flat2 (((Cl.ruleL q L E).map pr).drop (k + 1))) → W.ownsRow W18.heap.size 35 2 v (k + (n - (k + 1))) (flat2 (((Cl.ruleL q L E).take k ++ (Cl.ruleL q L E).drop (k + 1)).map pr))) := Lib.hid (fun W v h => by
                      have e : flat2 (((Cl.ruleL q L E).map pr).take k) ++ flat2 (((Cl.ruleL q L E).map pr).drop (k + 1)) = flat2 (((Cl.ruleL q L E).take k ++ (Cl.ruleL q L E).drop (k + 1)).map pr) := by
                        rw [List.map_append, List.map_take, List.map_drop, flat2_app]
                      rw [← e]
                      exact h)
                    have HTl : Hid (k + (n - (k + 1)) = (((Cl.ruleL q L E).take k ++ (Cl.ruleL q L E).drop (k + 1)).map pr).length) := Lib.hid (by
                      rw [List.length_map, List.length_append, List.length_take, List.length_drop, Cl.rl_len, ← Hn.out]
                      omega)
                    refine wpAnyH_take (i := 0) (v := .int .i64 0) rfl (by kernel_rfl) (by kernel_rfl) (by kernel_rfl) (fun _ _ _ h => h) (Or.inl ⟨by rfl, fun w hSw => ?_⟩) (by assumption) ?_
                    · (try dsimp only at hSw); (go_simp <;> omega)
                    try simp only [List.getElem_toArray, List.getElem_cons_zero, Act.put, List.setIfInBounds_toArray, List.set_cons_zero, List.set_cons_succ]
                    refine wpAnyH_take (i := 1) (v := .bool false) rfl (by kernel_rfl) (by kernel_rfl) (by kernel_rfl) (fun _ _ _ h => h) (Or.inl ⟨by rfl, fun w hSw => ?_⟩) (by assumption) ?_
                    · (try dsimp only at hSw); (go_simp <;> omega)
                    try simp only [List.getElem_toArray, List.getElem_cons_zero, List.getElem_cons_succ, Act.put, List.setIfInBounds_toArray, List.set_cons_zero, List.set_cons_succ]
                    refine wpAnyH_take (i := 2) (v := .bool false) rfl (by kernel_rfl) (by kernel_rfl) (by kernel_rfl) (fun _ _ _ h => h) (Or.inl ⟨by rfl, fun w hSw => ?_⟩) (by assumption) ?_
                    · (try dsimp only at hSw); (go_simp <;> omega)
                    try simp only [List.getElem_toArray, List.getElem_cons_zero, List.getElem_cons_succ, Act.put, List.setIfInBounds_toArray, List.set_cons_zero, List.set_cons_succ]
                    refine wpAnyH_take (i := 3) (v := .slice (some ⟨bo, oo, none⟩) n capo) rfl (by kernel_rfl) (by kernel_rfl) (by kernel_rfl) (fun _ _ _ h => h) (Or.inl ⟨by rfl, fun w hSw => ?_⟩) (by assumption) ?_
                    · (try dsimp only at hSw); (go_simp <;> omega)
                    try simp only [List.getElem_toArray, List.getElem_cons_zero, List.getElem_cons_succ, Act.put, List.setIfInBounds_toArray, List.set_cons_zero, List.set_cons_succ]
                    refine wpAnyH_take (i := 4) (v := .int .i64 n) rfl (by kernel_rfl) (by kernel_rfl) (by kernel_rfl) (fun _ _ _ h => h) (Or.inl ⟨by rfl, fun w hSw => ?_⟩) (by assumption) ?_
                    · (try dsimp only at hSw); (go_simp <;> omega)
                    try simp only [List.getElem_toArray, List.getElem_cons_zero, List.getElem_cons_succ, Act.put, List.setIfInBounds_toArray, List.set_cons_zero, List.set_cons_succ]
                    refine wpAnyH_take (i := 5) (v := .pointer (some ⟨G, 0, none⟩)) rfl (by kernel_rfl) (by kernel_rfl) (by kernel_rfl) (fun _ _ _ h => h) (Or.inl ⟨by rfl, fun w hSw => ?_⟩) (by assumption) ?_
                    · (try dsimp only at hSw); (go_simp <;> omega)
                    try simp only [List.getElem_toArray, List.getElem_cons_zero, List.getElem_cons_succ, Act.put, List.setIfInBounds_toArray, List.set_cons_zero, List.set_cons_succ]
                    refine wpAnyH_take (i := 6) (v := .slice ao n cap) rfl (by kernel_rfl) (by kernel_rfl) (by kernel_rfl) (fun _ _ _ h => h) (Or.inl ⟨by rfl, fun w hSw => ?_⟩) (by assumption) ?_
                    · (try dsimp only at hSw); (go_simp <;> omega)
                    try simp only [List.getElem_toArray, List.getElem_cons_zero, List.getElem_cons_succ, Act.put, List.setIfInBounds_toArray, List.set_cons_zero, List.set_cons_succ]
                    refine wpAnyH_take (i := 7) (v := .int .i64 n) rfl (by kernel_rfl) (by kernel_rfl) (by kernel_rfl) (fun _ _ _ h => h) (Or.inl ⟨by rfl, fun w hSw => ?_⟩) (by assumption) ?_
                    · (try dsimp only at hSw); (go_simp <;> omega)
                    try simp only [List.getElem_toArray, List.getElem_cons_zero, List.getElem_cons_succ, Act.put, List.setIfInBounds_toArray, List.set_cons_zero, List.set_cons_succ]
                    refine wpAnyH_take (i := 8) (v := .bool false) rfl (by kernel_rfl) (by kernel_rfl) (by kernel_rfl) (fun _ _ _ h => h) (Or.inl ⟨by rfl, fun w hSw => ?_⟩) (by assumption) ?_
                    · (try dsimp only at hSw); (go_simp <;> omega)
                    try simp only [List.getElem_toArray, List.getElem_cons_zero, List.getElem_cons_succ, Act.put, List.setIfInBounds_toArray, List.set_cons_zero, List.set_cons_succ]
                    refine wpAnyH_take (i := 9) (v := .bool false) rfl (by kernel_rfl) (by kernel_rfl) (by kernel_rfl) (fun _ _ _ h => h) (Or.inl ⟨by rfl, fun w hSw => ?_⟩) (by assumption) ?_
                    · (try dsimp only at hSw); (go_simp <;> omega)
                    try simp only [List.getElem_toArray, List.getElem_cons_zero, List.getElem_cons_succ, Act.put, List.setIfInBounds_toArray, List.set_cons_zero, List.set_cons_succ]
                    refine wpAnyH_take (i := 10) (v := .bool false) rfl (by kernel_rfl) (by kernel_rfl) (by kernel_rfl) (fun _ _ _ h => h) (Or.inl ⟨by rfl, fun w hSw => ?_⟩) (by assumption) ?_
                    · (try dsimp only at hSw); (go_simp <;> omega)
                    try simp only [List.getElem_toArray, List.getElem_cons_zero, List.getElem_cons_succ, Act.put, List.setIfInBounds_toArray, List.set_cons_zero, List.set_cons_succ]
                    refine wpAnyH_take (i := 11) (v := .slice aog m capg) rfl (by kernel_rfl) (by kernel_rfl) (by kernel_rfl) (fun _ _ _ h => h) (Or.inl ⟨by rfl, fun w hSw => ?_⟩) (by assumption) ?_
                    · (try dsimp only at hSw); (go_simp <;> omega)
                    try simp only [List.getElem_toArray, List.getElem_cons_zero, List.getElem_cons_succ, Act.put, List.setIfInBounds_toArray, List.set_cons_zero, List.set_cons_succ]
                    refine wpAnyH_take (i := 13) (v := .slice (some ⟨bo, oo, none⟩) n capo) rfl (by kernel_rfl) (by kernel_rfl) (by kernel_rfl) (fun _ _ _ h => h) (Or.inl ⟨by rfl, fun w hSw => ?_⟩) (by assumption) ?_
                    · (try dsimp only at hSw); (go_simp <;> omega)
                    try simp only [List.getElem_toArray, List.getElem_cons_zero, List.getElem_cons_succ, Act.put, List.setIfInBounds_toArray, List.set_cons_zero, List.set_cons_succ]
                    refine wpAnyH_take (i := 14) (v := .int .i64 k) rfl (by kernel_rfl) (by kernel_rfl) (by kernel_rfl) (fun _ _ _ h => h) (Or.inl ⟨by rfl, fun w hSw => ?_⟩) (by assumption) ?_
                    · (try dsimp only at hSw); (go_simp <;> omega)
                    try simp only [List.getElem_toArray, List.getElem_cons_zero, List.getElem_cons_succ, Act.put, List.setIfInBounds_toArray, List.set_cons_zero, List.set_cons_succ]
                    refine wpAnyH_take (i := 15) (v := .slice (some ⟨bo, oo, none⟩) k capo) rfl (by kernel_rfl) (by kernel_rfl) (by kernel_rfl) (fun _ _ _ h => h) (Or.inl ⟨by rfl, fun w hSw => ?_⟩) (by assumption) ?_
                    · (try dsimp only at hSw); (go_simp <;> omega)
                    try simp only [List.getElem_toArray, List.getElem_cons_zero, List.getElem_cons_succ, Act.put, List.setIfInBounds_toArray, List.set_cons_zero, List.set_cons_succ]
                    refine wpAnyH_take (i := 17) (v := .slice (some ⟨bo, oo, none⟩) n capo) rfl (by kernel_rfl) (by kernel_rfl) (by kernel_rfl) (fun _ _ _ h => h) (Or.inl ⟨by rfl, fun w hSw => ?_⟩) (by assumption) ?_
                    · (try dsimp only at hSw); (go_simp <;> omega)
                    try simp only [List.getElem_toArray, List.getElem_cons_zero, List.getElem_cons_succ, Act.put, List.setIfInBounds_toArray, List.set_cons_zero, List.set_cons_succ]
                    refine wpAnyH_take (i := 18) (v := .int .i64 k) rfl (by kernel_rfl) (by kernel_rfl) (by kernel_rfl) (fun _ _ _ h => h) (Or.inl ⟨by rfl, fun w hSw => ?_⟩) (by assumption) ?_
                    · (try dsimp only at hSw); (go_simp <;> omega)
                    try simp only [List.getElem_toArray, List.getElem_cons_zero, List.getElem_cons_succ, Act.put, List.setIfInBounds_toArray, List.set_cons_zero, List.set_cons_succ]
                    refine wpAnyH_take (i := 19) (v := .int .i64 ((k : Int) + 1)) rfl (by kernel_rfl) (by kernel_rfl) (by kernel_rfl) (fun _ _ _ h => h) (Or.inl ⟨by rfl, fun w hSw => ?_⟩) (by assumption) ?_
                    · (try dsimp only at hSw); (go_simp <;> omega)
                    try simp only [List.getElem_toArray, List.getElem_cons_zero, List.getElem_cons_succ, Act.put, List.setIfInBounds_toArray, List.set_cons_zero, List.set_cons_succ]
                    refine wpAnyH_take (i := 20) (v := .slice (some ⟨bo, oo + (k + 1) * 2, none⟩) (n - (k + 1)) (capo - (k + 1))) rfl (by kernel_rfl) (by kernel_rfl) (by kernel_rfl) (fun _ _ _ h => h) (Or.inl ⟨by rfl, fun w hSw => ?_⟩) (by assumption) ?_
                    · (try dsimp only at hSw); (go_simp <;> omega)
                    try simp only [List.getElem_toArray, List.getElem_cons_zero, List.getElem_cons_succ, Act.put, List.setIfInBounds_toArray, List.set_cons_zero, List.set_cons_succ]
                    refine wpAnyH_ready (rs := [12]) (by kernel_rfl) (by simp) ?_
                    refine AllReadyH.cons rfl (fun K hK => ?_) AllReadyH.nil
                    go_simp
                    have hal := below_drewN ((Below.refl W18.heap.size W18).alloc (Nat.le_refl _) (.cells #[] 35)) 1
                    (try dsimp only)
                    refine hK.out _ _ (keep_cell hal c0) (fun hHeld => ?_)
                    clear hK K
                    try simp only [List.getElem_toArray, List.getElem_cons_zero, List.getElem_cons_succ, Act.put, List.setIfInBounds_toArray, List.set_cons_zero, List.set_cons_succ]
                    refine wpAnyH_ready (rs := [16]) (by kernel_rfl) (by simp) ?_
                    refine AllReadyH.cons rfl (fun K hK => ?_) AllReadyH.nil
                    rw [if_pos (by rfl)]
                    refine wp_append_own _ _ _ _ (by rfl) W18.heap.size 35 i0 (.agg #[.int .i64 0, .int .i64 0]) 2 16 Try.underlying27 hi0 hz0 hz1 hz2 rfl (by decide) _ 0 [] (by rfl) (World.ownsRow_made W18 #[] 0 (Nat.le_refl _) (by unfold maxLen; omega) rfl).drew ⟨bo, oo, none⟩ k capo (flat2 (((Cl.ruleL q L E).map pr).take k)) (by rfl) (by rw [flat2_length]; rw [Hlt.out]) (pts_flat (hP1.out.below hal)) (flat2_one _) (by unfold maxLen; omega) (by omega) (by simp) ?_
                    intro v1 w18 ho1 hg1 _
                    rw [Nat.zero_add, List.nil_append] at ho1
                    have hb18 : Below W18.heap.size W18 w18 := hal.grown hg1 (by simp) (fun x hx => by cases hx; exact Nat.le_refl _)
                    clear hg1
                    (try dsimp only)
                    refine hK.out _ _ (keep_cell hb18 c0) (fun hHeld => ?_)
                    clear hK K
                    try simp only [List.getElem_toArray, List.getElem_cons_zero, List.getElem_cons_succ, Act.put, List.setIfInBounds_toArray, List.set_cons_zero, List.set_cons_succ]
                    refine wpAnyH_ready (rs := [21]) (by kernel_rfl) (by simp) ?_
                    refine AllReadyH.cons rfl (fun K hK => ?_) AllReadyH.nil
                    rw [if_pos (by rfl)]
                    refine wp_append_own _ _ _ _ (by rfl) W18.heap.size 35 i0 (.agg #[.int .i64 0, .int .i64 0]) 2 16 Try.underlying27 hi0 hz0 hz1 hz2 rfl (by decide) _ k (flat2 (((Cl.ruleL q L E).map pr).take k)) (by rfl) ho1 ⟨bo, oo + (k + 1) * 2, none⟩ (n - (k + 1)) (capo - (k + 1)) (flat2 (((Cl.ruleL q L E).map pr).drop (k + 1))) (by rfl) (by rw [flat2_length]; rw [Hld.out]) (pts_flat (hP2.out.below hb18)) (flat2_one _) (by unfold maxLen; omega) (by omega) hb18.size ?_
                    intro v2 w19 ho2 hg2 _
                    have hb19 : Below W18.heap.size W18 w19 := hb18.grown hg2 hb18.size (fun x hx => (ho1.lt x hx).1)
                    clear hg2 ho1
                    obtain ⟨ao9, cap9, rfl, -, hP9⟩ := own_pts2 (HT.out w19 v2 ho2) HTl.out
                    clear ho2
                    (try dsimp only)
                    refine hK.out _ _ (keep_cell hb19 c0) (fun hHeld => ?_)
                    clear hK K
                    try simp only [List.getElem_toArray, List.getElem_cons_zero, List.getElem_cons_succ, Act.put, List.setIfInBounds_toArray, List.set_cons_zero, List.set_cons_succ]
                    refine wpAnyH_ready (rs := [22]) (by kernel_rfl) (by simp) ?_
                    refine AllReadyH.cons rfl (fun K hK => ?_) AllReadyH.nil
                    go_simp
                    go_at_call 21
                    refine (sameRats_any _ _ aog m capg ao9 _ cap9 w19 (hPg.below hb19) hP9 (by have := HTl.out; have := hwl.out; omega) HTl.out (by omega) (by omega)).mono ?_
                    rintro e w20 ⟨rfl, hb20⟩
                    rw [decide_eq_true rfl]
                    have hb21 := hb19.trans (hb20.mono hb19.size)
                    have hBz := hBw.trans (hb21.mono hBw.size)
                    (try dsimp only)
                    refine hK.out _ _ (keep_cell hb21 c0) (fun hHeld => ?_)
                    clear hK K
                    try simp only [List.getElem_toArray, List.getElem_cons_zero, List.getElem_cons_succ, Act.put, List.setIfInBounds_toArray, List.set_cons_zero, List.set_cons_succ]
                    refine wpAnyH_take (i := 23) (v := .bool false) rfl (by kernel_rfl) (by kernel_rfl) (by kernel_rfl) (fun _ _ _ h => h) (Or.inl ⟨by rfl, fun w hSw => ?_⟩) (by assumption) ?_
                    · (try dsimp only at hSw); (go_simp <;> omega)
                    try simp only [List.getElem_toArray, List.getElem_cons_zero, List.getElem_cons_succ, Act.put, List.setIfInBounds_toArray, List.set_cons_zero, List.set_cons_succ]
                    refine wpAnyH_take (i := 24) (v := .bool false) rfl (by kernel_rfl) (by kernel_rfl) (by kernel_rfl) (fun _ _ _ h => h) (Or.inl ⟨by rfl, fun w hSw => ?_⟩) (by assumption) ?_
                    · (try dsimp only at hSw); (go_simp <;> omega)
                    try simp only [List.getElem_toArray, List.getElem_cons_zero, List.getElem_cons_succ, Act.put, List.setIfInBounds_toArray, List.set_cons_zero, List.set_cons_succ]
                    refine wpAnyH_done (by kernel_rfl) ?_ _
                    go_wp2_with fail
                    go_roundw
                    case rel => first | exact ⟨q + 1, by omega, by go_num, hBz⟩ | exact ⟨q + 1, by omega, by omega⟩
                    case measure => simp [intOf]; omega
                  · have hnk : n = k + 1 := by omega
                    subst z1
                    have HT : Hid (∀ (W : World) (v : Value), W.ownsRow W18.heap.size 35 2 v (k + (0)) (flat2 (((Cl.ruleL q L E).map pr).take k) ++ []) → W.ownsRow W18.heap.size 35 2 v (k + (0)) (flat2 (((Cl.ruleL q L E).take k ++ (Cl.ruleL q L E).drop (k + 1)).map pr))) := Lib.hid (fun W v h => by
                      have e : flat2 (((Cl.ruleL q L E).map pr).take k) ++ [] = flat2 (((Cl.ruleL q L E).take k ++ (Cl.ruleL q L E).drop (k + 1)).map pr) := by
                        rw [List.map_append, List.map_take, List.map_drop, flat2_app]
                        rw [List.drop_of_length_le (by rw [List.length_map, Cl.rl_len, ← Hn.out]; omega)]; simp [flat2]
                      rw [← e]
                      exact h)
                    have HTl : Hid (k + (0) = (((Cl.ruleL q L E).take k ++ (Cl.ruleL q L E).drop (k + 1)).map pr).length) := Lib.hid (by
                      rw [List.length_map, List.length_append, List.length_take, List.length_drop, Cl.rl_len, ← Hn.out]
                      omega)
                    refine wpAnyH_take (i := 0) (v := .int .i64 0) rfl (by kernel_rfl) (by kernel_rfl) (by kernel_rfl) (fun _ _ _ h => h) (Or.inl ⟨by rfl, fun w hSw => ?_⟩) (by assumption) ?_
                    · (try dsimp only at hSw); (go_simp <;> omega)
                    try simp only [List.getElem_toArray, List.getElem_cons_zero, Act.put, List.setIfInBounds_toArray, List.set_cons_zero, List.set_cons_succ]
                    refine wpAnyH_take (i := 1) (v := .bool false) rfl (by kernel_rfl) (by kernel_rfl) (by kernel_rfl) (fun _ _ _ h => h) (Or.inl ⟨by rfl, fun w hSw => ?_⟩) (by assumption) ?_
                    · (try dsimp only at hSw); (go_simp <;> omega)
                    try simp only [List.getElem_toArray, List.getElem_cons_zero, List.getElem_cons_succ, Act.put, List.setIfInBounds_toArray, List.set_cons_zero, List.set_cons_succ]
                    refine wpAnyH_take (i := 2) (v := .bool false) rfl (by kernel_rfl) (by kernel_rfl) (by kernel_rfl) (fun _ _ _ h => h) (Or.inl ⟨by rfl, fun w hSw => ?_⟩) (by assumption) ?_
                    · (try dsimp only at hSw); (go_simp <;> omega)
                    try simp only [List.getElem_toArray, List.getElem_cons_zero, List.getElem_cons_succ, Act.put, List.setIfInBounds_toArray, List.set_cons_zero, List.set_cons_succ]
                    refine wpAnyH_take (i := 3) (v := .slice (some ⟨bo, oo, none⟩) n (k + 1)) rfl (by kernel_rfl) (by kernel_rfl) (by kernel_rfl) (fun _ _ _ h => h) (Or.inl ⟨by rfl, fun w hSw => ?_⟩) (by assumption) ?_
                    · (try dsimp only at hSw); (go_simp <;> omega)
                    try simp only [List.getElem_toArray, List.getElem_cons_zero, List.getElem_cons_succ, Act.put, List.setIfInBounds_toArray, List.set_cons_zero, List.set_cons_succ]
                    refine wpAnyH_take (i := 4) (v := .int .i64 n) rfl (by kernel_rfl) (by kernel_rfl) (by kernel_rfl) (fun _ _ _ h => h) (Or.inl ⟨by rfl, fun w hSw => ?_⟩) (by assumption) ?_
                    · (try dsimp only at hSw); (go_simp <;> omega)
                    try simp only [List.getElem_toArray, List.getElem_cons_zero, List.getElem_cons_succ, Act.put, List.setIfInBounds_toArray, List.set_cons_zero, List.set_cons_succ]
                    refine wpAnyH_take (i := 5) (v := .pointer (some ⟨G, 0, none⟩)) rfl (by kernel_rfl) (by kernel_rfl) (by kernel_rfl) (fun _ _ _ h => h) (Or.inl ⟨by rfl, fun w hSw => ?_⟩) (by assumption) ?_
                    · (try dsimp only at hSw); (go_simp <;> omega)
                    try simp only [List.getElem_toArray, List.getElem_cons_zero, List.getElem_cons_succ, Act.put, List.setIfInBounds_toArray, List.set_cons_zero, List.set_cons_succ]
                    refine wpAnyH_take (i := 6) (v := .slice ao n cap) rfl (by kernel_rfl) (by kernel_rfl) (by kernel_rfl) (fun _ _ _ h => h) (Or.inl ⟨by rfl, fun w hSw => ?_⟩) (by assumption) ?_
                    · (try dsimp only at hSw); (go_simp <;> omega)
                    try simp only [List.getElem_toArray, List.getElem_cons_zero, List.getElem_cons_succ, Act.put, List.setIfInBounds_toArray, List.set_cons_zero, List.set_cons_succ]
                    refine wpAnyH_take (i := 7) (v := .int .i64 n) rfl (by kernel_rfl) (by kernel_rfl) (by kernel_rfl) (fun _ _ _ h => h) (Or.inl ⟨by rfl, fun w hSw => ?_⟩) (by assumption) ?_
                    · (try dsimp only at hSw); (go_simp <;> omega)
                    try simp only [List.getElem_toArray, List.getElem_cons_zero, List.getElem_cons_succ, Act.put, List.setIfInBounds_toArray, List.set_cons_zero, List.set_cons_succ]
                    refine wpAnyH_take (i := 8) (v := .bool false) rfl (by kernel_rfl) (by kernel_rfl) (by kernel_rfl) (fun _ _ _ h => h) (Or.inl ⟨by rfl, fun w hSw => ?_⟩) (by assumption) ?_
                    · (try dsimp only at hSw); (go_simp <;> omega)
                    try simp only [List.getElem_toArray, List.getElem_cons_zero, List.getElem_cons_succ, Act.put, List.setIfInBounds_toArray, List.set_cons_zero, List.set_cons_succ]
                    refine wpAnyH_take (i := 9) (v := .bool false) rfl (by kernel_rfl) (by kernel_rfl) (by kernel_rfl) (fun _ _ _ h => h) (Or.inl ⟨by rfl, fun w hSw => ?_⟩) (by assumption) ?_
                    · (try dsimp only at hSw); (go_simp <;> omega)
                    try simp only [List.getElem_toArray, List.getElem_cons_zero, List.getElem_cons_succ, Act.put, List.setIfInBounds_toArray, List.set_cons_zero, List.set_cons_succ]
                    refine wpAnyH_take (i := 10) (v := .bool false) rfl (by kernel_rfl) (by kernel_rfl) (by kernel_rfl) (fun _ _ _ h => h) (Or.inl ⟨by rfl, fun w hSw => ?_⟩) (by assumption) ?_
                    · (try dsimp only at hSw); (go_simp <;> omega)
                    try simp only [List.getElem_toArray, List.getElem_cons_zero, List.getElem_cons_succ, Act.put, List.setIfInBounds_toArray, List.set_cons_zero, List.set_cons_succ]
                    refine wpAnyH_take (i := 11) (v := .slice aog m capg) rfl (by kernel_rfl) (by kernel_rfl) (by kernel_rfl) (fun _ _ _ h => h) (Or.inl ⟨by rfl, fun w hSw => ?_⟩) (by assumption) ?_
                    · (try dsimp only at hSw); (go_simp <;> omega)
                    try simp only [List.getElem_toArray, List.getElem_cons_zero, List.getElem_cons_succ, Act.put, List.setIfInBounds_toArray, List.set_cons_zero, List.set_cons_succ]
                    refine wpAnyH_take (i := 13) (v := .slice (some ⟨bo, oo, none⟩) n (k + 1)) rfl (by kernel_rfl) (by kernel_rfl) (by kernel_rfl) (fun _ _ _ h => h) (Or.inl ⟨by rfl, fun w hSw => ?_⟩) (by assumption) ?_
                    · (try dsimp only at hSw); (go_simp <;> omega)
                    try simp only [List.getElem_toArray, List.getElem_cons_zero, List.getElem_cons_succ, Act.put, List.setIfInBounds_toArray, List.set_cons_zero, List.set_cons_succ]
                    refine wpAnyH_take (i := 14) (v := .int .i64 k) rfl (by kernel_rfl) (by kernel_rfl) (by kernel_rfl) (fun _ _ _ h => h) (Or.inl ⟨by rfl, fun w hSw => ?_⟩) (by assumption) ?_
                    · (try dsimp only at hSw); (go_simp <;> omega)
                    try simp only [List.getElem_toArray, List.getElem_cons_zero, List.getElem_cons_succ, Act.put, List.setIfInBounds_toArray, List.set_cons_zero, List.set_cons_succ]
                    refine wpAnyH_take (i := 15) (v := .slice (some ⟨bo, oo, none⟩) k (k + 1)) rfl (by kernel_rfl) (by kernel_rfl) (by kernel_rfl) (fun _ _ _ h => h) (Or.inl ⟨by rfl, fun w hSw => ?_⟩) (by assumption) ?_
                    · (try dsimp only at hSw); (go_simp <;> omega)
                    try simp only [List.getElem_toArray, List.getElem_cons_zero, List.getElem_cons_succ, Act.put, List.setIfInBounds_toArray, List.set_cons_zero, List.set_cons_succ]
                    refine wpAnyH_take (i := 17) (v := .slice (some ⟨bo, oo, none⟩) n (k + 1)) rfl (by kernel_rfl) (by kernel_rfl) (by kernel_rfl) (fun _ _ _ h => h) (Or.inl ⟨by rfl, fun w hSw => ?_⟩) (by assumption) ?_
                    · (try dsimp only at hSw); (go_simp <;> omega)
                    try simp only [List.getElem_toArray, List.getElem_cons_zero, List.getElem_cons_succ, Act.put, List.setIfInBounds_toArray, List.set_cons_zero, List.set_cons_succ]
                    refine wpAnyH_take (i := 18) (v := .int .i64 k) rfl (by kernel_rfl) (by kernel_rfl) (by kernel_rfl) (fun _ _ _ h => h) (Or.inl ⟨by rfl, fun w hSw => ?_⟩) (by assumption) ?_
                    · (try dsimp only at hSw); (go_simp <;> omega)
                    try simp only [List.getElem_toArray, List.getElem_cons_zero, List.getElem_cons_succ, Act.put, List.setIfInBounds_toArray, List.set_cons_zero, List.set_cons_succ]
                    refine wpAnyH_take (i := 19) (v := .int .i64 ((k : Int) + 1)) rfl (by kernel_rfl) (by kernel_rfl) (by kernel_rfl) (fun _ _ _ h => h) (Or.inl ⟨by rfl, fun w hSw => ?_⟩) (by assumption) ?_
                    · (try dsimp only at hSw); (go_simp <;> omega)
                    try simp only [List.getElem_toArray, List.getElem_cons_zero, List.getElem_cons_succ, Act.put, List.setIfInBounds_toArray, List.set_cons_zero, List.set_cons_succ]
                    refine wpAnyH_take (i := 20) (v := .slice (some ⟨bo, oo, none⟩) 0 0) rfl (by kernel_rfl) (by kernel_rfl) (by kernel_rfl) (fun _ _ _ h => h) (Or.inl ⟨by rfl, fun w hSw => ?_⟩) (by assumption) ?_
                    · (try dsimp only at hSw); (go_simp <;> omega)
                    try simp only [List.getElem_toArray, List.getElem_cons_zero, List.getElem_cons_succ, Act.put, List.setIfInBounds_toArray, List.set_cons_zero, List.set_cons_succ]
                    refine wpAnyH_ready (rs := [12]) (by kernel_rfl) (by simp) ?_
                    refine AllReadyH.cons rfl (fun K hK => ?_) AllReadyH.nil
                    go_simp
                    have hal := below_drewN ((Below.refl W18.heap.size W18).alloc (Nat.le_refl _) (.cells #[] 35)) 1
                    (try dsimp only)
                    refine hK.out _ _ (keep_cell hal c0) (fun hHeld => ?_)
                    clear hK K
                    try simp only [List.getElem_toArray, List.getElem_cons_zero, List.getElem_cons_succ, Act.put, List.setIfInBounds_toArray, List.set_cons_zero, List.set_cons_succ]
                    refine wpAnyH_ready (rs := [16]) (by kernel_rfl) (by simp) ?_
                    refine AllReadyH.cons rfl (fun K hK => ?_) AllReadyH.nil
                    rw [if_pos (by rfl)]
                    refine wp_append_own _ _ _ _ (by rfl) W18.heap.size 35 i0 (.agg #[.int .i64 0, .int .i64 0]) 2 16 Try.underlying27 hi0 hz0 hz1 hz2 rfl (by decide) _ 0 [] (by rfl) (World.ownsRow_made W18 #[] 0 (Nat.le_refl _) (by unfold maxLen; omega) rfl).drew ⟨bo, oo, none⟩ k (k + 1) (flat2 (((Cl.ruleL q L E).map pr).take k)) (by rfl) (by rw [flat2_length]; rw [Hlt.out]) (pts_flat (hP1.out.below hal)) (flat2_one _) (by unfold maxLen; omega) (by omega) (by simp) ?_
                    intro v1 w18 ho1 hg1 _
                    rw [Nat.zero_add, List.nil_append] at ho1
                    have hb18 : Below W18.heap.size W18 w18 := hal.grown hg1 (by simp) (fun x hx => by cases hx; exact Nat.le_refl _)
                    clear hg1
                    (try dsimp only)
                    refine hK.out _ _ (keep_cell hb18 c0) (fun hHeld => ?_)
                    clear hK K
                    try simp only [List.getElem_toArray, List.getElem_cons_zero, List.getElem_cons_succ, Act.put, List.setIfInBounds_toArray, List.set_cons_zero, List.set_cons_succ]
                    refine wpAnyH_ready (rs := [21]) (by kernel_rfl) (by simp) ?_
                    refine AllReadyH.cons rfl (fun K hK => ?_) AllReadyH.nil
                    rw [if_pos (by rfl)]
                    refine wp_append_own _ _ _ _ (by rfl) W18.heap.size 35 i0 (.agg #[.int .i64 0, .int .i64 0]) 2 16 Try.underlying27 hi0 hz0 hz1 hz2 rfl (by decide) _ k (flat2 (((Cl.ruleL q L E).map pr).take k)) (by rfl) ho1 ⟨bo, oo, none⟩ 0 0 [] (by rfl) rfl (fun j u hu => by simp at hu) (by simp) (by unfold maxLen; omega) (by omega) hb18.size ?_
                    intro v2 w19 ho2 hg2 _
                    have hb19 : Below W18.heap.size W18 w19 := hb18.grown hg2 hb18.size (fun x hx => (ho1.lt x hx).1)
                    clear hg2 ho1
                    obtain ⟨ao9, cap9, rfl, -, hP9⟩ := own_pts2 (HT.out w19 v2 ho2) HTl.out
                    clear ho2
                    (try dsimp only)
                    refine hK.out _ _ (keep_cell hb19 c0) (fun hHeld => ?_)
                    clear hK K
                    try simp only [List.getElem_toArray, List.getElem_cons_zero, List.getElem_cons_succ, Act.put, List.setIfInBounds_toArray, List.set_cons_zero, List.set_cons_succ]
                    refine wpAnyH_ready (rs := [22]) (by kernel_rfl) (by simp) ?_
                    refine AllReadyH.cons rfl (fun K hK => ?_) AllReadyH.nil
                    go_simp
                    go_at_call 21
                    refine (sameRats_any _ _ aog m capg ao9 _ cap9 w19 (hPg.below hb19) hP9 (by have := HTl.out; have := hwl.out; omega) HTl.out (by omega) (by omega)).mono ?_
                    rintro e w20 ⟨rfl, hb20⟩
                    rw [decide_eq_true rfl]
                    have hb21 := hb19.trans (hb20.mono hb19.size)
                    have hBz := hBw.trans (hb21.mono hBw.size)
                    (try dsimp only)
                    refine hK.out _ _ (keep_cell hb21 c0) (fun hHeld => ?_)
                    clear hK K
                    try simp only [List.getElem_toArray, List.getElem_cons_zero, List.getElem_cons_succ, Act.put, List.setIfInBounds_toArray, List.set_cons_zero, List.set_cons_succ]
                    refine wpAnyH_take (i := 23) (v := .bool false) rfl (by kernel_rfl) (by kernel_rfl) (by kernel_rfl) (fun _ _ _ h => h) (Or.inl ⟨by rfl, fun w hSw => ?_⟩) (by assumption) ?_
                    · (try dsimp only at hSw); (go_simp <;> omega)
                    try simp only [List.getElem_toArray, List.getElem_cons_zero, List.getElem_cons_succ, Act.put, List.setIfInBounds_toArray, List.set_cons_zero, List.set_cons_succ]
                    refine wpAnyH_take (i := 24) (v := .bool false) rfl (by kernel_rfl) (by kernel_rfl) (by kernel_rfl) (fun _ _ _ h => h) (Or.inl ⟨by rfl, fun w hSw => ?_⟩) (by assumption) ?_
                    · (try dsimp only at hSw); (go_simp <;> omega)
                    try simp only [List.getElem_toArray, List.getElem_cons_zero, List.getElem_cons_succ, Act.put, List.setIfInBounds_toArray, List.set_cons_zero, List.set_cons_succ]
                    refine wpAnyH_done (by kernel_rfl) ?_ _
                    go_wp2_with fail
                    go_roundw
                    case rel => first | exact ⟨q + 1, by omega, by go_num, hBz⟩ | exact ⟨q + 1, by omega, by omega⟩
                    case measure => simp [intOf]; omega
                · have y1 : ¬ ((z.den : Int) = 1) := by omega
                  go_wp2_with fail
                  go_roundw
                  case rel => exact ⟨q + 1, by omega, by go_num, hBw⟩
                  case measure => simp [intOf]; omega
              · have hB2 := hB.trans (hBw.mono hB.size)
                go_wp2_with fail
                refine (known_any wr).mono ?_
                rintro e w8 ⟨rfl, hb8⟩
                have hB3 := hB2.trans (hb8.mono hB2.size)
                go_wp2_with fail
                go_ret
                exact ⟨rfl, hB3⟩
    · have e2 : ¬ (Cl.caseC L E = 0) := hc
      generalize Cl.caseC L E = C at e2 ⊢
      have e3 : (C != 0) = true := by simp [e2]
      clear hc
      go_wp2_with fail
      refine ((known_any w7)).mono ?_
      rintro e w14 ⟨rfl, hbb⟩
      replace hI := hI.below hbb
      replace r0 := heap_keep hbb r0
      replace hB := hB.trans (hbb.mono hB.size)
      clear hbb
      go_wp2_with fail
      go_ret
      exact ⟨rfl, hB⟩
end Go.Proofs.Yteecfdjphjkdkaa
