import Derived.Test.YteecfdjphjkdkaaSa
namespace Go.Proofs.Yteecfdjphjkdkaa
open Go.RowKit
namespace Cl
def lvC (L : List Int) (E : Int) (A : List (Int × Int)) (i : Int) : Int := if chC L E A = 0 then (if 0 ≤ i ∧ i < (L.length : Int) then 0 else 4) else chC L E A
def lvL (L : List Int) (E : Int) (A : List (Int × Int)) (i : Int) : List Int := if lvC L E A i = 0 then L.eraseIdx i.toNat else []
def lvQ (L : List Int) (E : Int) (A : List (Int × Int)) (i : Int) : Value := if lvC L E A i = 0 then Fr (lsF E (A.getD i.toNat (0, 0))) else .agg #[.int .i64 0, .int .i64 0]
theorem lv_bad {L : List Int} {E : Int} {A : List (Int × Int)} {i : Int} (h : chC L E A ≠ 0) : lvC L E A i = chC L E A ∧ lvL L E A i = [] ∧ lvQ L E A i = .agg #[.int .i64 0, .int .i64 0] := by
  have e : lvC L E A i = chC L E A := if_neg h
  unfold lvL lvQ
  rw [e, if_neg h, if_neg h]
  exact ⟨rfl, rfl, rfl⟩
theorem lv_none {L : List Int} {E : Int} {A : List (Int × Int)} {i : Int} (h : chC L E A = 0) (h2 : ¬ (0 ≤ i ∧ i < (L.length : Int))) : lvC L E A i = 4 ∧ lvL L E A i = [] ∧ lvQ L E A i = .agg #[.int .i64 0, .int .i64 0] := by
  have e : lvC L E A i = 4 := by unfold lvC; rw [if_pos h, if_neg h2]
  unfold lvL lvQ
  rw [e]
  exact ⟨rfl, rfl, rfl⟩
theorem lv_ok {L : List Int} {E : Int} {A : List (Int × Int)} {k : Nat} (h : chC L E A = 0) (h2 : k < L.length) : lvC L E A k = 0 ∧ lvL L E A k = L.take k ++ L.drop (k + 1) ∧ lvQ L E A k = Fr (lsF E (A.getD k (0, 0))) := by
  have e : lvC L E A k = 0 := by unfold lvC; rw [if_pos h, if_pos (by omega)]
  unfold lvL lvQ
  rw [e, Int.toNat_natCast, List.eraseIdx_eq_take_drop_succ]
  exact ⟨rfl, rfl, rfl⟩
theorem mem_le_sum {l : List Int} (h : ∀ x ∈ l, 0 ≤ x) {a : Int} (ha : a ∈ l) : a ≤ Fl.sumI l := by
  induction l with
  | nil => cases ha
  | cons x r ih =>
    rw [Fl.sumI_cons]
    have h1 : 0 ≤ Fl.sumI r := by
      clear ih ha
      induction r with
      | nil => simp [Fl.sumI]
      | cons y s ih2 =>
        rw [Fl.sumI_cons]
        have := ih2 fun z hz => h z (by rcases List.mem_cons.1 hz with rfl | hz; exact List.mem_cons_self ..; exact List.mem_cons_of_mem _ (List.mem_cons_of_mem _ hz))
        have := h y (List.mem_cons_of_mem _ (List.mem_cons_self ..))
        omega
    have hx := h x (List.mem_cons_self ..)
    rcases List.mem_cons.1 ha with rfl | ha
    · omega
    · have := ih (fun z hz => h z (List.mem_cons_of_mem _ hz)) ha
      omega
theorem ch_leE {L : List Int} {E : Int} {A : List (Int × Int)} (h : chC L E A = 0) {x : Int × Int} (hx : x ∈ A) : x.1 ≤ E * x.2 := by
  obtain ⟨h0, h1, h2, h3, h4⟩ := ch_ok h
  have hr := rtOk_iff.1 (com_all h2 x hx)
  have hd := (comF_mult (a := 1) h2).2 x hx
  have hb := ovL_bound (D := (com A : Int)) (com_all h2) (by omega)
  have hm := mem_le_sum (fun z hz => (hb z hz).1) (a := x.1 * ((com A : Int) / x.2)) (by unfold ovL; exact List.mem_map.2 ⟨x, hx, rfl⟩)
  rw [h4] at hm
  change x.2.toNat ∣ com A at hd
  generalize com A = C at *
  obtain ⟨x1, x2⟩ := x
  simp only at hr hd hm ⊢
  obtain ⟨d, rfl⟩ := Int.eq_ofNat_of_zero_le (show 0 ≤ x2 by omega)
  rw [Int.toNat_natCast] at hd
  obtain ⟨t, rfl⟩ := hd
  have ht : 1 ≤ t := by
    rcases Nat.eq_zero_or_pos t with e | e
    · rw [e] at h2; simp at h2
    · omega
  rw [Int.natCast_mul, Int.mul_ediv_cancel_left _ (by omega), ← Int.mul_assoc] at hm
  exact Int.le_of_mul_le_mul_right hm (by omega)
theorem splice2 {α : Type} (Z X1 X2 : List α) (k : Nat) (hk : X1.length = k) (hZ : Z.length = k + X2.length) : splice (splice Z 0 X1) k X2 = X1 ++ X2 := by
  have h := splice_splice_splice Z X1 [] X2 k 0 hk rfl (by simpa using hZ)
  have e : ∀ S : List α, splice S k [] = S := fun S => by simp [splice]
  rw [e, Nat.add_zero] at h
  simpa using h
end Cl
theorem results_tct {P : Program} {fn : Func} {p q r : Tmp} {ty : TypeId} (h : fn.results = #[.tmp q, .cell p ty, .tmp r]) (tmps : Array Value) (w : World) (g : Nat) (t : TypeId) (cs : Array Value) (fr : Nat × Nat) (d : TypeDesc)
    (hp : tmps.getD p undef = .pointer (some ⟨g, 0, none⟩)) (hg : w.heap[g]? = some (.cells cs t fr))
    (hu : P.underlying ty = some d) (hd : (match d with | .struct _ | .array _ _ => true | _ => false) = true) (hi : (P.info? ty).map (·.size) = some cs.size) :
    (results fn tmps).run P w = .ok (.tuple #[tmps.getD q undef, .agg cs, tmps.getD r undef]) w := by
  have hp' : tmps[p]?.getD undef = .pointer (some ⟨g, 0, none⟩) := by simpa using hp
  simp [results, h, hp', asAddr, run_loadVar_row w g t ty cs fr d hg hu hd hi]
theorem Ints.set_other {w : World} {g G : Nat} {l : List Int} (h : Ints w (some ⟨g, 0, none⟩) l) (hne : g ≠ G) (o : Nat) (v : Value) : Ints (w.setCell ⟨G, o, none⟩ v) (some ⟨g, 0, none⟩) l := by
  refine ⟨fun h0 => ?_⟩
  obtain ⟨b, off, e, hb, hc⟩ := h.cells h0
  cases e
  refine ⟨g, 0, rfl, by simp [World.setCell]; exact hb, fun i hi => ?_⟩
  rw [← hc i hi]
  exact World.cell?_of_block (heap_setCell_other w ⟨G, o, none⟩ g v hne)
theorem ints_row {w : World} {g : Nat} {l : List Int} {t : TypeId} (h : w.heap[g]? = some (.cells (l.map (Value.int .i64)).toArray t (0, 0))) : Ints w (some ⟨g, 0, none⟩) l :=
  ⟨fun _ => ⟨g, 0, rfl, heap_lt h, fun i hi => by
    rw [Nat.zero_add, cell_of_row w g i _ _ _ h, List.getD_eq_getElem?_getD, List.getElem?_eq_getElem hi]
    simp [hi]⟩⟩
set_option maxRecDepth 100000 in
set_option maxHeartbeats 4000000 in
theorem leave_any (L : List Int) (E : Int) (A : List (Int × Int)) (i : Int) (ao : Option Addr) (n cap : Nat) (aoA : Option Addr) (nA capA : Nat) (w : World) (hI : Ints w ao L) (hJ : Pts w aoA A) (hln : n = L.length) (hlA : nA = A.length) (hcap : n ≤ cap) (hn : n ≤ 100000) (hnA : nA ≤ 100000) :
    Calls Try.prog 50 #[.slice ao n cap, .int .i64 E, .slice aoA nA capA, .int .i64 i] w fun e w' => ∃ ao2 cap2, e = .returned (.tuple #[.slice ao2 (Cl.lvL L E A i).length cap2, Cl.lvQ L E A i, .int .i64 (Cl.lvC L E A i)]) ∧ (Cl.lvL L E A i).length ≤ cap2 ∧ Ints w' ao2 (Cl.lvL L E A i) ∧ Below w.heap.size w w' := by
  obtain ⟨i0, hi0, hz0, hz1, hz2⟩ := info_in
  have Hn := Lib.hid hln
  have HA := Lib.hid hlA
  have r0 := heap_alloc_new w (.cells #[.int .i64 0, .int .i64 0] 35)
  have hB : Below w.heap.size w (w.alloc (.cells #[.int .i64 0, .int .i64 0] 35)) := (Below.refl _ w).alloc (Nat.le_refl _) _
  replace hI := hI.below ((Below.refl _ w).alloc (Nat.le_refl _) (.cells #[.int .i64 0, .int .i64 0] 35))
  replace hJ := hJ.below ((Below.refl _ w).alloc (Nat.le_refl _) (.cells #[.int .i64 0, .int .i64 0] 35))
  have Hmk : Hid (∀ (m : Nat) (w0 : World), m ≤ 8 → (Instr.makeSlice 22 (.int .i64 m) (.int .i64 m)).run Try.prog w0 = .ok (.slice (some ⟨w0.heap.size, 0, none⟩) m m) (w0.alloc (.cells (madeCells (Value.int .i64 0).cells (m * 1)) 3))) := Lib.hid (fun m w0 hm => by
    have h := run_make (P := Try.prog) w0 22 3 i0 _ Try.underlying22 hi0 hz0 .i64 .i64 m m (by omega) (Int.le_refl _) (by rw [hz2]; omega) (by omega)
    rw [Int.toNat_natCast, hz1] at h
    exact h)
  have Hsz : Hid ((Try.prog.info? 3).map (·.size) = some 1) := Lib.hid (by rw [hi0]; show some i0.size = some 1; rw [hz1])
  have F1 := Lib.hid (@Cl.lv_bad L E A i)
  have F2 := Lib.hid (@Cl.lv_none L E A i)
  have F3 := Lib.hid (fun (k : Nat) => @Cl.lv_ok L E A k)
  have HLQ : Hid (∀ C LL Q, Cl.lvC L E A i = C ∧ Cl.lvL L E A i = LL ∧ Cl.lvQ L E A i = Q → ∀ w' ao2 cap2, LL.length ≤ cap2 → Ints w' ao2 LL → Below w.heap.size w w' → ∃ ao3 cap3, Ending.returned (.tuple #[.slice ao2 LL.length cap2, Q, .int .i64 C]) = .returned (.tuple #[.slice ao3 (Cl.lvL L E A i).length cap3, Cl.lvQ L E A i, .int .i64 (Cl.lvC L E A i)]) ∧ (Cl.lvL L E A i).length ≤ cap3 ∧ Ints w' ao3 (Cl.lvL L E A i) ∧ Below w.heap.size w w') := Lib.hid (by
    rintro C LL Q ⟨rfl, rfl, rfl⟩ w' ao2 cap2 h1 h2 h3
    exact ⟨ao2, cap2, rfl, h1, h2, h3⟩)
  clear hln hlA hi0 hz0 hz1 hz2 i0
  go_enter Try.func50, Try.ntmps50
  go_upto_region 1 with fail
  generalize w.alloc (.cells #[.int .i64 0, .int .i64 0] 35) = W at r0 hB hI hJ ⊢
  obtain ⟨G, hG⟩ : ∃ G, G = w.heap.size := ⟨_, rfl⟩
  rw [← hG] at r0 ⊢
  have HG := Lib.hid hG
  have hGw : w.heap.size ≤ G := by omega
  clear hG
  go_wp2_with fail
  refine ((check_any L E A ao n cap aoA nA capA W hI hJ Hn.out HA.out hn hnA)).mono ?_
  rintro e w1 ⟨rfl, hbb⟩
  replace hI := hI.below hbb
  replace hJ := hJ.below hbb
  replace r0 := heap_keep hbb r0
  replace hB := hB.trans (hbb.mono hB.size)
  clear hbb
  obtain ⟨⟨c0, c1⟩, f0, f1⟩ := row_fr r0
  have r1 := two_cells r0 (.int .i64 0) (.int .i64 0)
  by_cases hc : Cl.chC L E A = 0
  · by_cases g1 : i < 0
    · have hR := Lib.hid (F2.out hc (by omega))
      rw [hc]
      clear F1 F2 F3 Hmk Hsz hc
      go_wp2_with fail
      exact bodyPost_ret (results_tct (p := 9) (q := 8) (r := 10) rfl _ _ _ _ _ _ _ rfl r1 Try.underlying35 rfl infoRat2) rfl (HLQ.out _ _ _ hR.out _ none 0 (Nat.le_refl 0) ⟨fun h => by cases h⟩ (below_setCell (below_setCell hB hGw _) hGw _))
    · by_cases g2 : (n : Int) ≤ i
      · have hR := Lib.hid (F2.out hc (by have := Hn.out; omega))
        rw [hc]
        clear F1 F2 F3 Hmk Hsz hc
        go_wp2_with fail
        exact bodyPost_ret (results_tct (p := 9) (q := 8) (r := 10) rfl _ _ _ _ _ _ _ rfl r1 Try.underlying35 rfl infoRat2) rfl (HLQ.out _ _ _ hR.out _ none 0 (Nat.le_refl 0) ⟨fun h => by cases h⟩ (below_setCell (below_setCell hB hGw _) hGw _))
      · obtain ⟨k, rfl⟩ := Int.eq_ofNat_of_zero_le (show 0 ≤ i by omega)
        have hR := Lib.hid (F3.out k hc (by have := Hn.out; omega))
        have Hc := Lib.hid hc
        have hn8 : n ≤ 8 := by have := Hn.out; have := (Cl.okC_iff.1 (Cl.caseC_ok.1 (Cl.ch_ok hc).1).1).2.1; omega
        have hnA : nA = n := by rw [HA.out, Hn.out]; exact (Cl.ch_ok hc).2.1
        have HE : Hid (0 ≤ E ∧ E ≤ 8000) := Lib.hid (by
          obtain ⟨a1, a2, a3⟩ := Cl.caseC_ok.1 (Cl.ch_ok hc).1
          have HC := Cl.okC_iff.1 a1
          have h := Cl.sum_small (B := 1000) (by omega) (l := L) (fun x hx => by have := HC.2.2 x hx; omega)
          omega)
        rw [hc]
        clear F1 F2 F3 hc
        obtain ⟨m, hm⟩ : ∃ m, m = n - 1 := ⟨_, rfl⟩
        have e1 : IntKind.i64.wrap ((n : Int) - 1) = (m : Int) := by rw [IntWalk.i64_in _ (by omega)]; omega
        have hkm : k ≤ m := by omega
        have hm8 : m ≤ 8 := by omega
        have Hm : Hid (m + 1 = n) := Lib.hid (by omega)
        clear hm
        go_upto_region 7 with (first | (at_make; refine wpList_make rfl _ _ _ rfl (.int .i64 m) (.int .i64 m) rfl rfl _ _ (Hmk.out m _ hm8) ?_))
        obtain ⟨Z, hZ⟩ : ∃ Z : List Value, Z.toArray = madeCells #[Value.int .i64 0] m := ⟨(madeCells #[Value.int .i64 0] m).toList, by simp⟩
        have hZl : Z.length = m := by
          have h := congrArg Array.size hZ
          rw [size_madeCells] at h
          simpa using h
        rw [← hZ]
        have r2 := heap_alloc_new w1 (.cells Z.toArray 3)
        have hba := (Below.refl w1.heap.size w1).alloc (Nat.le_refl _) (.cells Z.toArray 3)
        clear hZ c0 c1 f0 f1 r1
        generalize w1.alloc (.cells Z.toArray 3) = W2 at r2 hba ⊢
        obtain ⟨g, hg⟩ : ∃ g, g = w1.heap.size := ⟨_, rfl⟩
        rw [← hg] at r2 ⊢
        have hge : w1.heap.size ≤ g := by omega
        have hgG : g ≠ G := by have := heap_lt r0; omega
        clear hg
        obtain ⟨b, off, rfl, hbW, hcl0⟩ := hI.cells (by have := Hn.out; omega)
        have HS : Hid (∀ W : World, Below w1.heap.size w1 W → ∀ p j v, ((L.drop p).map (Value.int .i64))[j]? = some v → W.cell? ((⟨b, off + p, none⟩ : Addr).add j) = some v) := Lib.hid (by
          intro W hW p j v hj
          have hj2 := (List.getElem?_eq_some_iff.1 hj).1
          rw [List.length_map, List.length_drop] at hj2
          have h := keep_cell hW (hcl0 (p + j) (by omega))
          rw [List.getElem?_map, List.getElem?_drop, List.getElem?_eq_getElem (by omega)] at hj
          rw [Cl.gd (by omega)] at h
          cases hj
          have e : (⟨b, off + p, none⟩ : Addr).add j = ⟨b, off + (p + j), none⟩ := by cases j <;> simp [Addr.add, Nat.add_assoc]
          rw [e]
          exact h)
        clear hcl0
        obtain ⟨X1, hX1⟩ : ∃ X, X = (L.take k).map (Value.int .i64) := ⟨_, rfl⟩
        obtain ⟨X2, hX2⟩ : ∃ X, X = (L.drop (k + 1)).map (Value.int .i64) := ⟨_, rfl⟩
        have l1 : X1.length = k := by rw [hX1, List.length_map, List.length_take]; have := Hn.out; have := Hm.out; omega
        have l2 : X2.length = m - k := by rw [hX2, List.length_map, List.length_drop]; have := Hn.out; have := Hm.out; omega
        have o1 : Hid (∀ v ∈ X1, v.oneCell' = true) := Lib.hid (fun v hv => by rw [hX1] at hv; obtain ⟨z, _, rfl⟩ := List.mem_map.1 hv; rfl)
        have o2 : Hid (∀ v ∈ X2, v.oneCell' = true) := Lib.hid (fun v hv => by rw [hX2] at hv; obtain ⟨z, _, rfl⟩ := List.mem_map.1 hv; rfl)
        have HS1 : Hid (∀ W : World, Below w1.heap.size w1 W → ∀ j v, X1[j]? = some v → W.cell? ((⟨b, off, none⟩ : Addr).add j) = some v) := Lib.hid (fun W hW j v hj => by
          have h := HS.out W hW 0 j v
          rw [Nat.add_zero, List.drop_zero] at h
          refine h ?_
          rw [hX1, List.getElem?_map, List.getElem?_take] at hj
          split at hj
          · rw [List.getElem?_map]; exact hj
          · cases hj)
        have HS2 : Hid (∀ W : World, Below w1.heap.size w1 W → ∀ j v, X2[j]? = some v → W.cell? ((⟨b, off + (k + 1), none⟩ : Addr).add j) = some v) := Lib.hid (fun W hW j v hj => HS.out W hW (k + 1) j v (by rw [← hX2]; exact hj))
        have HX : Hid (X1 ++ X2 = (L.take k ++ L.drop (k + 1)).map (Value.int .i64)) := Lib.hid (by rw [hX1, hX2, List.map_append])
        have Hl1 := Lib.hid l1
        have Hl2 := Lib.hid l2
        have HZl := Lib.hid hZl
        clear hX1 hX2 HS l1 l2 hZl
        have hkc : (k : Int) ≤ (cap : Int) := by omega
        have hkc2 : k ≤ cap := by omega
        go_wp2_with (with_reducible refine wpList_copy_splice rfl _ _ _ _ rfl 3 Try.underlying22 Hsz.out _ _ _ _ _ _ rfl rfl g 0 Z 3 r2 X1 (by rw [Hl1.out]; exact (Nat.min_eq_left hkm).symm) (fun _ => ⟨rfl, _, rfl, HS1.out W2 hba⟩) (by rw [Hl1.out, HZl.out]; omega) o1.out w1.heap.size w1 hba hge ?_; intro w5 HG5 hb5)
        have e2 : IntKind.i64.wrap ((k : Int) + 1) = ((k + 1 : Nat) : Int) := by rw [IntWalk.i64_in _ (by omega)]; omega
        have e5 : ((k + 1 : Nat) : Int) ≤ (n : Int) := by omega
        have e6 : k + 1 ≤ n := by omega
        have e7 : (k : Int) ≤ (m : Int) := by omega
        have e8 : k + 1 ≤ cap := by omega
        have e9 : ((k + 1 : Nat) : Int) ≤ (cap : Int) := by omega
        have e10 : (0 : Int) ≤ (k : Int) + 1 := by omega
        have e11 : (k : Int) + 1 ≤ (n : Int) := by omega
        have e12 : (k : Int) + 1 ≤ (cap : Int) := by omega
        have hway : k < m ∨ (k = m ∧ cap = k + 1) ∨ (k = m ∧ k + 1 < cap) := by have := Hm.out; omega
        rcases hway with d3 | ⟨d1, d2⟩ | ⟨d1, d2⟩
        rotate_left
        · subst d1
          subst d2
          go_region_held3 (fun _ => True) (trivial) ((refine step_copy_splice rfl _ _ _ _ rfl 3 Try.underlying22 Hsz.out _ _ _ _ _ _ rfl rfl g k (splice Z 0 X1) 3 HG5.out X2 (by rw [Hl2.out]; have := Hm.out; rw [Nat.sub_self]; first | rfl | exact (Nat.min_zero _).symm | exact (Nat.zero_min _).symm) (fun h => absurd h (by rw [Hl2.out]; omega)) (by rw [length_splice _ _ _ (by rw [Hl1.out, HZl.out]; omega), Hl2.out, HZl.out]; omega) o2.out w1.heap.size w1 (below_drewN hb5 1) hge ?_; intro w6 HG6 hb6))
          have HGf : Hid (w6.heap[g]? = some (.cells ((L.take k ++ L.drop (k + 1)).map (Value.int .i64)).toArray 3 (0, 0))) := Lib.hid (by
            rw [← HX.out, ← Cl.splice2 Z X1 X2 k Hl1.out (by rw [HZl.out, Hl2.out]; omega)]
            exact HG6.out)
          have hIf := Lib.hid (ints_row HGf.out)
          have hlf : Hid ((L.take k ++ L.drop (k + 1)).length = k) := Lib.hid (by
            rw [List.length_append, List.length_take, List.length_drop]; have := Hn.out; have := Hm.out; omega)
          clear HG6 HGf hb5 HG5 HS1 HS2 HX Hl1 Hl2 HZl o1 o2 Hmk Hsz
          replace r0 := heap_keep hb6 r0
          replace hJ := hJ.below hb6
          replace hB := hB.trans (hb6.mono hB.size)
          have hkA : k < A.length := by have := HA.out; omega
          have hR3 : Hid (Cl.lvC L E A (k : Int) = 0 ∧ Cl.lvL L E A (k : Int) = L.take k ++ L.drop (k + 1) ∧ Cl.lvQ L E A (k : Int) = Fr (Cl.lsF E A[k])) := Lib.hid (by
            have h := hR.out
            rw [List.getD_eq_getElem?_getD, List.getElem?_eq_getElem hkA] at h
            exact h)
          obtain ⟨b2, off2, rfl, hb2, hx1, hx2⟩ := pts_at hJ hkA
          have hrt := Cl.rtOk_iff.1 (Cl.ch_each Hc.out (i := k) (by have := Hn.out; omega) hkA).1
          have hle := Cl.ch_leE Hc.out (List.getElem_mem hkA)
          generalize A[k] = x at hx1 hx2 hrt hle hR3
          obtain ⟨x1, x2⟩ := x
          simp only at hx1 hx2 hrt hle
          have hxb : 0 ≤ x1 ∧ x1 ≤ 10000000 ∧ 1 ≤ x2 ∧ x2 ≤ 10000 := ⟨hrt.1, hrt.2.1, hrt.2.2.1, hrt.2.2.2.1⟩
          have Hle := Lib.hid hle
          clear hrt hb6 hle hkA
          have hk1 : (k : Int) < (n : Int) := by omega
          go_wp2_with fail
          refine (lessR_any E x1 x2 w6 (by have := HE.out; omega) hxb Hle.out).mono ?_
          rintro e w7 ⟨rfl, hb7⟩
          obtain ⟨q, hq⟩ : ∃ q, q = Cl.lsF E (x1, x2) := ⟨_, rfl⟩
          rw [← hq] at hR3 ⊢
          clear hq
          have hI7 := Lib.hid (hIf.out.below hb7)
          replace r0 := heap_keep hb7 r0
          replace hB := hB.trans (hb7.mono hB.size)
          clear hb7 hIf hx1 hx2
          rw [show Fr q = .agg #[.int .i64 q.num, .int .i64 q.den] from rfl]
          obtain ⟨⟨c0, c1⟩, f0, f1⟩ := row_fr r0
          go_wp2_with fail
          refine bodyPost_ret (results_tct (p := 9) (q := 8) (r := 10) rfl _ _ _ _ _ _ _ rfl (two_cells r0 (.int .i64 q.num) (.int .i64 q.den)) Try.underlying35 rfl infoRat2) rfl ?_
          have h := HLQ.out _ _ _ hR3.out _ (some ⟨g, 0, none⟩) k (by rw [hlf.out]; exact Nat.le_refl _) ((hI7.out.set_other hgG 0 (.int .i64 q.num)).set_other hgG 1 (.int .i64 q.den)) (below_setCell (below_setCell hB hGw _) hGw _)
          rw [hlf.out] at h
          exact h
        · subst d1
          have d5 : ¬ (k + 1 = cap) := by omega
          have d6 : ¬ (cap = k + 1) := by omega
          go_region_held3 (fun _ => True) (trivial) ((refine step_copy_splice rfl _ _ _ _ rfl 3 Try.underlying22 Hsz.out _ _ _ _ _ _ rfl rfl g k (splice Z 0 X1) 3 HG5.out X2 (by rw [Hl2.out]; have := Hm.out; rw [Nat.sub_self]; first | rfl | exact (Nat.min_zero _).symm | exact (Nat.zero_min _).symm) (fun h => absurd h (by rw [Hl2.out]; omega)) (by rw [length_splice _ _ _ (by rw [Hl1.out, HZl.out]; omega), Hl2.out, HZl.out]; omega) o2.out w1.heap.size w1 (below_drewN hb5 1) hge ?_; intro w6 HG6 hb6))
          have HGf : Hid (w6.heap[g]? = some (.cells ((L.take k ++ L.drop (k + 1)).map (Value.int .i64)).toArray 3 (0, 0))) := Lib.hid (by
            rw [← HX.out, ← Cl.splice2 Z X1 X2 k Hl1.out (by rw [HZl.out, Hl2.out]; omega)]
            exact HG6.out)
          have hIf := Lib.hid (ints_row HGf.out)
          have hlf : Hid ((L.take k ++ L.drop (k + 1)).length = k) := Lib.hid (by
            rw [List.length_append, List.length_take, List.length_drop]; have := Hn.out; have := Hm.out; omega)
          clear HG6 HGf hb5 HG5 HS1 HS2 HX Hl1 Hl2 HZl o1 o2 Hmk Hsz
          replace r0 := heap_keep hb6 r0
          replace hJ := hJ.below hb6
          replace hB := hB.trans (hb6.mono hB.size)
          have hkA : k < A.length := by have := HA.out; omega
          have hR3 : Hid (Cl.lvC L E A (k : Int) = 0 ∧ Cl.lvL L E A (k : Int) = L.take k ++ L.drop (k + 1) ∧ Cl.lvQ L E A (k : Int) = Fr (Cl.lsF E A[k])) := Lib.hid (by
            have h := hR.out
            rw [List.getD_eq_getElem?_getD, List.getElem?_eq_getElem hkA] at h
            exact h)
          obtain ⟨b2, off2, rfl, hb2, hx1, hx2⟩ := pts_at hJ hkA
          have hrt := Cl.rtOk_iff.1 (Cl.ch_each Hc.out (i := k) (by have := Hn.out; omega) hkA).1
          have hle := Cl.ch_leE Hc.out (List.getElem_mem hkA)
          generalize A[k] = x at hx1 hx2 hrt hle hR3
          obtain ⟨x1, x2⟩ := x
          simp only at hx1 hx2 hrt hle
          have hxb : 0 ≤ x1 ∧ x1 ≤ 10000000 ∧ 1 ≤ x2 ∧ x2 ≤ 10000 := ⟨hrt.1, hrt.2.1, hrt.2.2.1, hrt.2.2.2.1⟩
          have Hle := Lib.hid hle
          clear hrt hb6 hle hkA
          have hk1 : (k : Int) < (n : Int) := by omega
          go_wp2_with fail
          refine (lessR_any E x1 x2 w6 (by have := HE.out; omega) hxb Hle.out).mono ?_
          rintro e w7 ⟨rfl, hb7⟩
          obtain ⟨q, hq⟩ : ∃ q, q = Cl.lsF E (x1, x2) := ⟨_, rfl⟩
          rw [← hq] at hR3 ⊢
          clear hq
          have hI7 := Lib.hid (hIf.out.below hb7)
          replace r0 := heap_keep hb7 r0
          replace hB := hB.trans (hb7.mono hB.size)
          clear hb7 hIf hx1 hx2
          rw [show Fr q = .agg #[.int .i64 q.num, .int .i64 q.den] from rfl]
          obtain ⟨⟨c0, c1⟩, f0, f1⟩ := row_fr r0
          go_wp2_with fail
          refine bodyPost_ret (results_tct (p := 9) (q := 8) (r := 10) rfl _ _ _ _ _ _ _ rfl (two_cells r0 (.int .i64 q.num) (.int .i64 q.den)) Try.underlying35 rfl infoRat2) rfl ?_
          have h := HLQ.out _ _ _ hR3.out _ (some ⟨g, 0, none⟩) k (by rw [hlf.out]; exact Nat.le_refl _) ((hI7.out.set_other hgG 0 (.int .i64 q.num)).set_other hgG 1 (.int .i64 q.den)) (below_setCell (below_setCell hB hGw _) hGw _)
          rw [hlf.out] at h
          exact h
        · have d1 : ¬ (k = m) := by omega
          have d2 : ¬ (m = k) := by omega
          have d4 : k + 1 < cap := by have := Hm.out; omega
          have d5 : ¬ (k + 1 = cap) := by omega
          have d6 : ¬ (cap = k + 1) := by omega
          go_region_held3 (fun _ => True) (trivial) ((refine step_copy_splice rfl _ _ _ _ rfl 3 Try.underlying22 Hsz.out _ _ _ _ _ _ rfl rfl g k (splice Z 0 X1) 3 HG5.out X2 (by rw [Hl2.out]; have := Hm.out; exact (Nat.min_eq_right (by omega)).symm) (fun _ => ⟨rfl, _, rfl, HS2.out _ (below_drewN hb5 1)⟩) (by rw [length_splice _ _ _ (by rw [Hl1.out, HZl.out]; omega), Hl2.out, HZl.out]; omega) o2.out w1.heap.size w1 (below_drewN hb5 1) hge ?_; intro w6 HG6 hb6))
          have HGf : Hid (w6.heap[g]? = some (.cells ((L.take k ++ L.drop (k + 1)).map (Value.int .i64)).toArray 3 (0, 0))) := Lib.hid (by
            rw [← HX.out, ← Cl.splice2 Z X1 X2 k Hl1.out (by rw [HZl.out, Hl2.out]; omega)]
            exact HG6.out)
          have hIf := Lib.hid (ints_row HGf.out)
          have hlf : Hid ((L.take k ++ L.drop (k + 1)).length = m) := Lib.hid (by
            rw [List.length_append, List.length_take, List.length_drop]; have := Hn.out; have := Hm.out; omega)
          clear HG6 HGf hb5 HG5 HS1 HS2 HX Hl1 Hl2 HZl o1 o2 Hmk Hsz
          replace r0 := heap_keep hb6 r0
          replace hJ := hJ.below hb6
          replace hB := hB.trans (hb6.mono hB.size)
          have hkA : k < A.length := by have := HA.out; omega
          have hR3 : Hid (Cl.lvC L E A (k : Int) = 0 ∧ Cl.lvL L E A (k : Int) = L.take k ++ L.drop (k + 1) ∧ Cl.lvQ L E A (k : Int) = Fr (Cl.lsF E A[k])) := Lib.hid (by
            have h := hR.out
            rw [List.getD_eq_getElem?_getD, List.getElem?_eq_getElem hkA] at h
            exact h)
          obtain ⟨b2, off2, rfl, hb2, hx1, hx2⟩ := pts_at hJ hkA
          have hrt := Cl.rtOk_iff.1 (Cl.ch_each Hc.out (i := k) (by have := Hn.out; omega) hkA).1
          have hle := Cl.ch_leE Hc.out (List.getElem_mem hkA)
          generalize A[k] = x at hx1 hx2 hrt hle hR3
          obtain ⟨x1, x2⟩ := x
          simp only at hx1 hx2 hrt hle
          have hxb : 0 ≤ x1 ∧ x1 ≤ 10000000 ∧ 1 ≤ x2 ∧ x2 ≤ 10000 := ⟨hrt.1, hrt.2.1, hrt.2.2.1, hrt.2.2.2.1⟩
          have Hle := Lib.hid hle
          clear hrt hb6 hle hkA
          have hk1 : (k : Int) < (n : Int) := by omega
          go_wp2_with fail
          refine (lessR_any E x1 x2 w6 (by have := HE.out; omega) hxb Hle.out).mono ?_
          rintro e w7 ⟨rfl, hb7⟩
          obtain ⟨q, hq⟩ : ∃ q, q = Cl.lsF E (x1, x2) := ⟨_, rfl⟩
          rw [← hq] at hR3 ⊢
          clear hq
          have hI7 := Lib.hid (hIf.out.below hb7)
          replace r0 := heap_keep hb7 r0
          replace hB := hB.trans (hb7.mono hB.size)
          clear hb7 hIf hx1 hx2
          rw [show Fr q = .agg #[.int .i64 q.num, .int .i64 q.den] from rfl]
          obtain ⟨⟨c0, c1⟩, f0, f1⟩ := row_fr r0
          go_wp2_with fail
          refine bodyPost_ret (results_tct (p := 9) (q := 8) (r := 10) rfl _ _ _ _ _ _ _ rfl (two_cells r0 (.int .i64 q.num) (.int .i64 q.den)) Try.underlying35 rfl infoRat2) rfl ?_
          have h := HLQ.out _ _ _ hR3.out _ (some ⟨g, 0, none⟩) m (by rw [hlf.out]; exact Nat.le_refl _) ((hI7.out.set_other hgG 0 (.int .i64 q.num)).set_other hgG 1 (.int .i64 q.den)) (below_setCell (below_setCell hB hGw _) hGw _)
          rw [hlf.out] at h
          exact h
  · have e3 : (Cl.chC L E A != 0) = true := by simp [hc]
    have hR := Lib.hid (F1.out hc)
    clear F1 F2 F3 Hmk Hsz
    generalize Cl.chC L E A = C at hc e3 hR ⊢
    go_wp2_with fail
    exact bodyPost_ret (results_tct (p := 9) (q := 8) (r := 10) rfl _ _ _ _ _ _ _ rfl r1 Try.underlying35 rfl infoRat2) rfl (HLQ.out _ _ _ hR.out _ none 0 (Nat.le_refl 0) ⟨fun h => by cases h⟩ (below_setCell (below_setCell hB hGw _) hGw _))
end Go.Proofs.Yteecfdjphjkdkaa
