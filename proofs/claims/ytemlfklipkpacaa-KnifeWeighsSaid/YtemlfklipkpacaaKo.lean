import Derived.Test.YtemlfklipkpacaaKl
import Derived.Test.YtemlfklipkpacaaKn
import Derived.Test.YtemlfklipkpacaaKw
/- The pieces that the knife of package knife makes. -/
namespace Go.Proofs.Ytemlfklipkpacaa
open Go.RowKit

/-- Pieces, as they lie in memory: the owner, and where the piece begins and ends. -/
abbrev Pc := Int × (Int × Int) × (Int × Int)
def flat5 (l : List Pc) : List Value := l.flatMap fun x => [.int .i64 x.1, .int .i64 x.2.1.1, .int .i64 x.2.1.2, .int .i64 x.2.2.1, .int .i64 x.2.2.2]
theorem flat5_app (l m : List Pc) : flat5 (l ++ m) = flat5 l ++ flat5 m := by simp [flat5]
theorem flat5_length (l : List Pc) : (flat5 l).length = l.length * 5 := by
  induction l with
  | nil => rfl
  | cons x r ih => simp [flat5] at ih ⊢; omega
def pc (x : Nat × Rat × Rat) : Pc := ((x.1 : Int), pr x.2.1, pr x.2.2)
theorem infoPcAll : (Try.prog.info? 86).map (fun i => (i.zero, i.size, i.bytes)) = some (some (.agg #[.int .i64 0, .int .i64 0, .int .i64 0, .int .i64 0, .int .i64 0]), 5, 40) := by kernel_rfl
theorem info_pc : ∃ i, Try.prog.info? 86 = some i ∧ i.zero = some (.agg #[.int .i64 0, .int .i64 0, .int .i64 0, .int .i64 0, .int .i64 0]) ∧ i.size = 5 ∧ i.bytes = 40 := by
  have h := infoPcAll
  cases hi : Try.prog.info? 86 with
  | none => rw [hi] at h; cases h
  | some i =>
    rw [hi] at h
    simp only [Option.map_some, Option.some.injEq, Prod.mk.injEq] at h
    exact ⟨i, rfl, h.1, h.2.1, h.2.2⟩
theorem infoPc5 : (Try.prog.info? 86).map (·.size) = some 5 := by kernel_rfl

theorem five_cells {w : World} {g : Nat} {a b c d e : Value} {t : TypeId} (hh : w.heap[g]? = some (.cells #[a, b, c, d, e] t (0, 0))) (u v x y z : Value) :
    (((((w.setCell ⟨g, 0, none⟩ u).setCell ⟨g, 1, none⟩ v).setCell ⟨g, 2, none⟩ x).setCell ⟨g, 3, none⟩ y).setCell ⟨g, 4, none⟩ z).heap[g]? = some (.cells #[u, v, x, y, z] t (0, 0)) := by
  have := heap_setCell_same _ g 4 _ t z (heap_setCell_same _ g 3 _ t y (heap_setCell_same _ g 2 _ t x (heap_setCell_same _ g 1 _ t v (heap_setCell_same w g 0 _ t u hh))))
  simpa using this
theorem own_same {w w' : World} {base n size : Nat} {e : TypeId} {v : Value} {xs : List Value} (h : w.ownsRow base e size v n xs) (hb : ∀ g, v.ownBlock = some g → w'.heap[g]? = w.heap[g]?) : w'.ownsRow base e size v n xs := by
  obtain ⟨h1, h2 | ⟨g, cap, cur, rfl, h3, h4, h5⟩⟩ := h
  · exact ⟨h1, .inl h2⟩
  · exact ⟨h1, .inr ⟨g, cap, cur, rfl, h3, (hb g rfl).trans h4, h5⟩⟩

set_option maxRecDepth 100000 in
set_option maxHeartbeats 2000000 in
theorem kpiece_any (o n1 d1 n2 d2 : Int) (w : World) :
    Calls Try.prog 127 #[.int .i64 o, .agg #[.int .i64 n1, .int .i64 d1], .agg #[.int .i64 n2, .int .i64 d2]] w fun e w' => e = .returned (.agg #[.int .i64 o, .int .i64 n1, .int .i64 d1, .int .i64 n2, .int .i64 d2]) ∧ Below w.heap.size w w' := by
  have hA := below_alloc3 w (.cells #[.int .i64 n1, .int .i64 d1] 124) (.cells #[.int .i64 n2, .int .i64 d2] 124) (.cells #[.int .i64 0, .int .i64 0, .int .i64 0, .int .i64 0, .int .i64 0] 86)
  obtain ⟨ra, rb, rr⟩ := heap_alloc3_all w (.cells #[.int .i64 n1, .int .i64 d1] 124) (.cells #[.int .i64 n2, .int .i64 d2] 124) (.cells #[.int .i64 0, .int .i64 0, .int .i64 0, .int .i64 0, .int .i64 0] 86)
  go_enter Try.func127, Try.ntmps127
  go_upto_region 1 with fail
  generalize ((w.alloc (.cells #[.int .i64 n1, .int .i64 d1] 124)).alloc (.cells #[.int .i64 n2, .int .i64 d2] 124)).alloc (.cells #[.int .i64 0, .int .i64 0, .int .i64 0, .int .i64 0, .int .i64 0] 86) = W0 at hA ra rb rr ⊢
  obtain ⟨⟨a0, a1⟩, -, -⟩ := row_fr ra
  obtain ⟨⟨b0, b1⟩, -, -⟩ := row_fr rb
  have hc := fun j => cell_of_row W0 (w.heap.size + 1 + 1) j _ _ _ rr
  have hf := fun j => frozen_of_row W0 (w.heap.size + 1 + 1) j _ _ rr
  have q0 := hc 0
  have q1 := hc 1
  have q2 := hc 2
  have q3 := hc 3
  have q4 := hc 4
  simp at q0 q1 q2 q3 q4
  have p0 := hf 0
  have p1 := hf 1
  have p2 := hf 2
  have p3 := hf 3
  have p4 := hf 4
  clear hc hf
  go_wp2
  exact bodyPost_ret (results_cell_row rfl _ _ _ _ _ _ _ rfl (five_cells rr (.int .i64 o) (.int .i64 n1) (.int .i64 d1) (.int .i64 n2) (.int .i64 d2)) Try.underlying86 rfl infoPc5) rfl ⟨rfl, below_setCell (below_setCell (below_setCell (below_setCell (below_setCell hA (by omega) _) (by omega) _) (by omega) _) (by omega) _) (by omega) _⟩

theorem own_intsL {w : World} {base n g cap : Nat} {e : TypeId} {L : List Int} (h : w.ownsRow base e 1 (.slice (some ⟨g, 0, none⟩) n cap) n (L.map (Value.int .i64))) (hn : n = L.length) : Ints w (some ⟨g, 0, none⟩) L := by
  obtain ⟨ao, cap', he, -, hI⟩ := own_ints h hn
  cases he
  exact hI

set_option maxRecDepth 100000 in
set_option maxHeartbeats 8000000 in
theorem kdivide_any (L : List Int) (V : List (List Int)) (aoL : Option Addr) (nL cL : Nat) (aoV : Option Addr) (nV cV : Nat) (w : World) (hf : Fld w aoL nL aoV nV L V) (hok : Kn.Ok L V) :
    Calls Try.prog 91 #[.agg #[.slice aoL nL cL, .slice aoV nV cV]] w fun e w' => ∃ v, e = .returned v ∧ w'.ownsRow w.heap.size 86 5 v (Kn.divide L V).length (flat5 ((Kn.divide L V).map pc)) ∧ Below w.heap.size w w' := by
  have v1 := hok.v1
  have v5 := hok.v5
  have Hn := Lib.hid hf.nv
  have hn1 : 1 ≤ nV := by have := hf.nv; omega
  have hn5 : nV ≤ 5 := by have := hf.nv; omega
  obtain ⟨i0, hi0, hz0, hz1, hz2⟩ := info_in
  obtain ⟨i1, hi1, hy0, hy1, hy2⟩ := info_pc
  have hA := (Below.refl _ w).alloc (Nat.le_refl _) (.cells #[.slice aoL nL cL, .slice aoV nV cV] 57)
  have rf := heap_alloc_new w (.cells #[.slice aoL nL cL, .slice aoV nV cV] 57)
  go_enter Try.func91, Try.ntmps91
  go_upto_region 3 with fail
  generalize w.alloc (.cells #[.slice aoL nL cL, .slice aoV nV cV] 57) = W0 at hA rf ⊢
  obtain ⟨⟨c0, c1⟩, -, -⟩ := row_fr rf
  have hf0 := hf.below hA
  have hs0 := heap_lt rf
  refine wp_scope_on 0 rfl ?_
  go_wp2
  go_loopw [4, 12] (fun v i wr => ∃ k : Nat, k ≤ nV ∧ i = .int .i64 k ∧ Hid (wr.ownsRow W0.heap.size 3 1 v k (((List.range k).map fun (o : Nat) => (o : Int)).map (Value.int .i64))) ∧ Below W0.heap.size W0 wr) (fun _ i _ => nV - (intOf i).toNat)
  case atStart => exact ⟨0, Nat.zero_le _, rfl, Lib.hid ⟨rfl, .inl ⟨rfl, rfl⟩⟩, Below.refl _ _⟩
  case round =>
    obtain ⟨k, hk, rfl, hown, hb⟩ := hrel
    by_cases hlt : k < nV
    · have i1' : (k : Int) < (nV : Int) := by omega
      have hs := hb.size
      go_wp2_with (first | (at_builtin; refine wpList_append_own _ rfl _ _ 39 rfl W0.heap.size 3 i0 (.int .i64 0) 1 8 Try.underlying39 hi0 hz0 hz1 hz2 rfl (by decide) _ k _ rfl (hown.out.alloc _) ⟨wr.heap.size, 0, none⟩ 1 1 [.int .i64 k] rfl rfl (World.news_of_block (cs := #[.int .i64 k]) (t := 3) (fr := (0, 0)) (heap_alloc_new wr _)) (by simp [Value.oneCell']) (by unfold maxLen; omega) (by omega) (by simp; try omega) ?_; intro v' w3 hown3 hgrow3 hnil3; have hb5 : Below W0.heap.size W0 w3 := (hb.alloc hs _).grown hgrow3 (by simp; omega) (fun q hq => (hown.out.lt _ hq).1); clear hgrow3 hnil3))
      go_roundw
      case rel =>
        refine ⟨k + 1, by omega, by go_num, Lib.hid ?_, hb5⟩
        rw [List.range_succ, List.map_append, List.map_append]
        exact hown3
      case measure => simp [intOf]; omega
    · have hk2 : k = nV := by omega
      have hownF := hown.out
      rw [hk2] at hownF
      obtain ⟨gl, capl, hv, hgb, hgl, hgc, -⟩ := own_cells hownF (by omega)
      subst hv
      have Hk := Lib.hid hk2
      have HO := Lib.hid hownF
      have hbw : Below w.heap.size w wr := hA.trans (hb.mono hA.size)
      have rf1 := heap_keep hb rf
      clear hk2 hownF hown c0 c1 rf
      go_wp2_with fail
      refine (kwhole_any 0 wr).mono ?_
      rintro e w2 ⟨rfl, hb2⟩
      replace HO := Lib.hid (own_below HO.out hb2)
      replace hgl := Nat.lt_of_lt_of_le hgl hb2.size
      have hbw2 := hbw.trans (hb2.mono hbw.size)
      have rf2 := heap_keep hb2 rf1
      clear hb2 hbw rf1 hb
      go_upto_region 9 with fail
      have r6 := heap_alloc_new w2 (.cells #[.int .i64 0, .int .i64 1] 124)
      have hal := (Below.refl w2.heap.size w2).alloc (Nat.le_refl _) (.cells #[.int .i64 0, .int .i64 1] 124)
      replace HO := Lib.hid (own_below HO.out hal)
      have hbw3 := hbw2.trans (hal.mono hbw2.size)
      have rf3 := heap_keep hal rf2
      have hsz2 : (w2.alloc (.cells #[.int .i64 0, .int .i64 1] 124)).heap.size = w2.heap.size + 1 := by simp
      obtain ⟨G6, hG6⟩ : ∃ g, g = w2.heap.size := ⟨_, rfl⟩
      rw [← hG6] at r6 hgl hsz2 ⊢
      have h6w : w.heap.size < G6 := by have := heap_lt rf2; omega
      clear hal hbw2 rf2 hG6
      generalize w2.alloc (.cells #[.int .i64 0, .int .i64 1] 124) = W3 at r6 HO hbw3 rf3 hsz2 ⊢
      have hgw : w.heap.size < gl := by omega
      go_loopg [3, 4] (nV - 1) (fun gh vp vl wr => ∃ (f : Nat) (left : List Nat) (a : Rat) (ps : List (Nat × Rat × Rat)), gh = f ∧ vl = .slice (some ⟨gl, 0, none⟩) (f + 1) capl ∧ Hid (Kn.St L V f left a ∧ ps ++ Kn.divF L V f left a = Kn.divide L V) ∧ Hid (wr.ownsRow W0.heap.size 3 1 (.slice (some ⟨gl, 0, none⟩) (f + 1) capl) (f + 1) ((left.map fun (o : Nat) => (o : Int)).map (Value.int .i64))) ∧ wr.heap[w.heap.size]? = some (.cells #[.slice aoL nL cL, .slice aoV nV cV] 57 (0, 0)) ∧ wr.heap[G6]? = some (.cells #[.int .i64 a.num, .int .i64 a.den] 124 (0, 0)) ∧ Hid (wr.ownsRow W3.heap.size 86 5 vp ps.length (flat5 (ps.map pc))) ∧ ps.length + f + 1 = nV ∧ W3.heap.size ≤ wr.heap.size ∧ Below w.heap.size w wr)
      case atStart =>
        have e1 : nV - 1 + 1 = nV := by omega
        exact ⟨nV - 1, List.range nV, 0, [], rfl, by rw [e1], Lib.hid ⟨by rw [Hn.out]; exact Kn.St.start hok, by rw [Hn.out]; rfl⟩, by rw [e1]; exact HO, rf3, r6, Lib.hid ⟨rfl, .inl ⟨rfl, rfl⟩⟩, by simp; omega, Nat.le_refl _, hbw3⟩
      case round =>
        clear r6 HO hbw3 rf3
        obtain ⟨f, left, a, ps, rfl, rfl, HS, HL, Rf, R6, HP, hlen, hsz, hb⟩ := hrel
        have hll : Hid (left.length = gk + 1) := Lib.hid HS.out.1.len
        have hI := own_intsL HL.out (by simp [hll.out])
        cases gk with
        | zero =>
          go_wp2_with fail
          go_step3
          refine ⟨rfl, ?_⟩
          go_wp2_with fail
          obtain ⟨b', o', he, -, l0⟩ := hI.at (k := 0) (by have := hll.out; simp; omega)
          cases he
          rw [nat_at (by have := hll.out; omega), Nat.add_zero] at l0
          obtain ⟨⟨x0, x1⟩, -, -⟩ := row_fr Rf
          obtain ⟨⟨y0, y1⟩, -, -⟩ := row_fr R6
          have hfr := hf.below hb
          obtain ⟨o, ho⟩ : ∃ o, o = left.getD 0 0 := ⟨_, rfl⟩
          have hS2 : ps ++ [(o, a, (Kn.stop L : Rat))] = Kn.divide L V := by rw [ho]; exact HS.out.2
          rw [← ho] at l0
          replace HS := Lib.hid (And.intro trivial hS2)
          clear ho hS2
          have hdr : Below wr.heap.size wr wr.drew := below_drewN (Below.refl wr.heap.size wr) 1
          have hS0 := And.intro l0 (And.intro x0 (And.intro x1 (And.intro y0 y1)))
          have keepS : ∀ {W : World}, Below wr.heap.size wr W → (wr.cell? ⟨gl, 0, none⟩ = some (.int .i64 (o : Nat)) ∧ wr.cell? ⟨w.heap.size, 0, none⟩ = some (.slice aoL nL cL) ∧ wr.cell? ⟨w.heap.size, 1, none⟩ = some (.slice aoV nV cV) ∧ wr.cell? ⟨G6, 0, none⟩ = some (.int .i64 a.num) ∧ wr.cell? ⟨G6, 1, none⟩ = some (.int .i64 a.den)) → (W.cell? ⟨gl, 0, none⟩ = some (.int .i64 (o : Nat)) ∧ W.cell? ⟨w.heap.size, 0, none⟩ = some (.slice aoL nL cL) ∧ W.cell? ⟨w.heap.size, 1, none⟩ = some (.slice aoV nV cV) ∧ W.cell? ⟨G6, 0, none⟩ = some (.int .i64 a.num) ∧ W.cell? ⟨G6, 1, none⟩ = some (.int .i64 a.den)) :=
            fun hb h => ⟨keep_cell hb h.1, keep_cell hb h.2.1, keep_cell hb h.2.2.1, keep_cell hb h.2.2.2.1, keep_cell hb h.2.2.2.2⟩
          refine wp_region_held_drew (S := fun w' => w'.cell? ⟨gl, 0, none⟩ = some (.int .i64 (o : Nat)) ∧ w'.cell? ⟨w.heap.size, 0, none⟩ = some (.slice aoL nL cL) ∧ w'.cell? ⟨w.heap.size, 1, none⟩ = some (.slice aoV nV cV) ∧ w'.cell? ⟨G6, 0, none⟩ = some (.int .i64 a.num) ∧ w'.cell? ⟨G6, 1, none⟩ = some (.int .i64 a.den)) (by kernel_rfl) (keepS hdr hS0) (fun hHeld => ?_)
          refine wpAnyH_take (i := 0) (v := u3) rfl (by kernel_rfl) (by kernel_rfl) (by kernel_rfl) (fun _ _ _ h => h) (Or.inl ⟨by rfl, fun w hSw => ?_⟩) (by assumption) ?_
          · obtain ⟨s0, s1, s2, s3, s4⟩ := hSw
            (go_simp <;> omega)
          try simp only [List.getElem_toArray, List.getElem_cons_zero, Act.put, List.setIfInBounds_toArray, List.set_cons_zero, List.set_cons_succ]
          refine wpAnyH_take (i := 1) (v := .slice (some ⟨gl, 0, none⟩) (0 + 1) capl) rfl (by kernel_rfl) (by kernel_rfl) (by kernel_rfl) (fun _ _ _ h => h) (Or.inl ⟨by rfl, fun w hSw => ?_⟩) (by assumption) ?_
          · obtain ⟨s0, s1, s2, s3, s4⟩ := hSw
            (go_simp <;> omega)
          try simp only [List.getElem_toArray, List.getElem_cons_zero, List.getElem_cons_succ, Act.put, List.setIfInBounds_toArray, List.set_cons_zero, List.set_cons_succ]
          refine wpAnyH_take (i := 2) (v := .pointer (some ⟨gl, 0, none⟩)) rfl (by kernel_rfl) (by kernel_rfl) (by kernel_rfl) (fun _ _ _ h => h) (Or.inl ⟨by rfl, fun w hSw => ?_⟩) (by assumption) ?_
          · obtain ⟨s0, s1, s2, s3, s4⟩ := hSw
            (go_simp <;> omega)
          try simp only [List.getElem_toArray, List.getElem_cons_zero, List.getElem_cons_succ, Act.put, List.setIfInBounds_toArray, List.set_cons_zero, List.set_cons_succ]
          refine wpAnyH_take (i := 3) (v := .int .i64 (o : Nat)) rfl (by kernel_rfl) (by kernel_rfl) (by kernel_rfl) (fun _ _ _ h => h) (Or.inl ⟨by rfl, fun w hSw => ?_⟩) (by assumption) ?_
          · obtain ⟨s0, s1, s2, s3, s4⟩ := hSw
            (go_simp <;> omega)
          try simp only [List.getElem_toArray, List.getElem_cons_zero, List.getElem_cons_succ, Act.put, List.setIfInBounds_toArray, List.set_cons_zero, List.set_cons_succ]
          refine wpAnyH_take (i := 4) (v := Fr a) rfl (by kernel_rfl) (by kernel_rfl) (by kernel_rfl) (fun _ _ _ h => h) (Or.inl ⟨by rfl, fun w hSw => ?_⟩) (by assumption) ?_
          · obtain ⟨s0, s1, s2, s3, s4⟩ := hSw
            (go_simp <;> omega)
          try simp only [List.getElem_toArray, List.getElem_cons_zero, List.getElem_cons_succ, Act.put, List.setIfInBounds_toArray, List.set_cons_zero, List.set_cons_succ]
          refine wpAnyH_take (i := 5) (v := .agg #[.slice aoL nL cL, .slice aoV nV cV]) rfl (by kernel_rfl) (by kernel_rfl) (by kernel_rfl) (fun _ _ _ h => h) (Or.inl ⟨by rfl, fun w hSw => ?_⟩) (by assumption) ?_
          · obtain ⟨s0, s1, s2, s3, s4⟩ := hSw
            (go_simp <;> omega)
          try simp only [List.getElem_toArray, List.getElem_cons_zero, List.getElem_cons_succ, Act.put, List.setIfInBounds_toArray, List.set_cons_zero, List.set_cons_succ]
          refine wpAnyH_ready (rs := [6]) (by kernel_rfl) (by simp) ?_
          refine AllReadyH.cons rfl (fun K hK => ?_) AllReadyH.nil
          go_simp
          go_at_call 125
          refine (klength_any L _ _ _ _ aoV nV cV rfl _ (hfr.below hdr).hL hf.nl hok.ln hok.l6).mono ?_
          rintro e z1 ⟨rfl, hb1⟩
          have hb1' := hdr.trans (hb1.mono hdr.size)
          (try dsimp only)
          refine hK.out _ _ (keepS hb1' hS0) (fun hHeld => ?_)
          clear hK K
          try simp only [List.getElem_toArray, List.getElem_cons_zero, List.getElem_cons_succ, Act.put, List.setIfInBounds_toArray, List.set_cons_zero, List.set_cons_succ]
          refine wpAnyH_ready (rs := [7]) (by kernel_rfl) (by simp) ?_
          refine AllReadyH.cons rfl (fun K hK => ?_) AllReadyH.nil
          go_simp
          go_at_call 124
          refine (kwhole_any (Kn.stop L) _).mono ?_
          rintro e z2 ⟨rfl, hb2⟩
          have hb2' := hb1'.trans (hb2.mono hb1'.size)
          (try dsimp only)
          refine hK.out _ _ (keepS hb2' hS0) (fun hHeld => ?_)
          clear hK K
          try simp only [List.getElem_toArray, List.getElem_cons_zero, List.getElem_cons_succ, Act.put, List.setIfInBounds_toArray, List.set_cons_zero, List.set_cons_succ]
          refine wpAnyH_ready (rs := [8]) (by kernel_rfl) (by simp) ?_
          refine AllReadyH.cons rfl (fun K hK => ?_) AllReadyH.nil
          go_simp
          go_at_call 127
          refine (kpiece_any (o : Nat) _ _ _ _ _).mono ?_
          rintro e z3 ⟨rfl, hb3⟩
          have hb3' := hb2'.trans (hb3.mono hb2'.size)
          (try dsimp only)
          refine hK.out _ _ (keepS hb3' hS0) (fun hHeld => ?_)
          clear hK K
          try simp only [List.getElem_toArray, List.getElem_cons_zero, List.getElem_cons_succ, Act.put, List.setIfInBounds_toArray, List.set_cons_zero, List.set_cons_succ]
          refine wpAnyH_ready (rs := [9]) (by kernel_rfl) (by simp) ?_
          refine AllReadyH.cons rfl (fun K hK => ?_) AllReadyH.nil
          go_simp
          have hb4' := hb3'.alloc hb3'.size (.cells #[.int .i64 (o : Nat), .int .i64 a.num, .int .i64 a.den, .int .i64 (Kn.stop L : Rat).num, .int .i64 (Kn.stop L : Rat).den] 86)
          (try dsimp only)
          refine hK.out _ _ (keepS hb4' hS0) (fun hHeld => ?_)
          clear hK K
          try simp only [List.getElem_toArray, List.getElem_cons_zero, List.getElem_cons_succ, Act.put, List.setIfInBounds_toArray, List.set_cons_zero, List.set_cons_succ]
          refine wpAnyH_ready (rs := [10]) (by kernel_rfl) (by simp) ?_
          refine AllReadyH.cons rfl (fun K hK => ?_) AllReadyH.nil
          rw [if_pos (by rfl)]
          refine wp_append_own _ _ _ _ (by rfl) W3.heap.size 86 i1 (.agg #[.int .i64 0, .int .i64 0, .int .i64 0, .int .i64 0, .int .i64 0]) 5 40 Try.underlying59 hi1 hy0 hy1 hy2 rfl (by decide) _ ps.length (flat5 (ps.map pc)) (by rfl) (own_below HP.out hb4') ⟨z3.heap.size, 0, none⟩ 1 1 [.int .i64 (o : Nat), .int .i64 a.num, .int .i64 a.den, .int .i64 (Kn.stop L : Rat).num, .int .i64 (Kn.stop L : Rat).den] (by rfl) rfl (World.news_of_block (cs := #[.int .i64 (o : Nat), .int .i64 a.num, .int .i64 a.den, .int .i64 (Kn.stop L : Rat).num, .int .i64 (Kn.stop L : Rat).den]) (t := 86) (fr := (0, 0)) (heap_alloc_new z3 _)) (by simp [Value.oneCell']) (by unfold maxLen; omega) (by omega) (Nat.le_trans hsz hb4'.size) ?_
          intro v1 z5 ho1 hg1 _
          have hb5 : Below W3.heap.size wr z5 := (hb4'.mono hsz).grown hg1 (Nat.le_trans hsz hb4'.size) (fun q hq => ((own_below HP.out hb4').lt q hq).1)
          clear hg1
          (try dsimp only)
          refine hK.out _ _ ⟨(hb5.cell (p := ⟨gl, 0, none⟩) (show gl < W3.heap.size by omega)).trans l0, (hb5.cell (p := ⟨w.heap.size, 0, none⟩) (show w.heap.size < W3.heap.size by omega)).trans x0, (hb5.cell (p := ⟨w.heap.size, 1, none⟩) (show w.heap.size < W3.heap.size by omega)).trans x1, (hb5.cell (p := ⟨G6, 0, none⟩) (show G6 < W3.heap.size by omega)).trans y0, (hb5.cell (p := ⟨G6, 1, none⟩) (show G6 < W3.heap.size by omega)).trans y1⟩ (fun hHeld => ?_)
          clear hK K
          try simp only [List.getElem_toArray, List.getElem_cons_zero, List.getElem_cons_succ, Act.put, List.setIfInBounds_toArray, List.set_cons_zero, List.set_cons_succ]
          refine wpAnyH_take (i := 11) (v := v1) rfl (by kernel_rfl) (by kernel_rfl) (by kernel_rfl) (fun _ _ _ h => h) (Or.inl ⟨by rfl, fun w hSw => ?_⟩) (by assumption) ?_
          · obtain ⟨s0, s1, s2, s3, s4⟩ := hSw
            (go_simp <;> omega)
          try simp only [List.getElem_toArray, List.getElem_cons_zero, List.getElem_cons_succ, Act.put, List.setIfInBounds_toArray, List.set_cons_zero, List.set_cons_succ]
          refine wpAnyH_done (by kernel_rfl) ?_ _
          go_wp2_with fail
          rw [Exit.noGoto_ret]
          go_ret
          refine ⟨v1, rfl, ?_, hb.trans (hb5.mono (by omega))⟩
          have hdv := HS.out.2
          rw [← hdv]
          have := own_mono ho1 (show w.heap.size ≤ W3.heap.size by omega)
          rw [List.length_append, List.map_append, flat5_app]
          exact this
        | succ f =>
          have hne1 : ¬ ((f + 1 + 1 : Nat) : Int) = 1 := by omega
          have hnx := HS.out.1.next hok
          have hfrom := HS.out.1.from' hok
          have hlV := HS.out.1.mem
          have hle := HS.out.1.le
          have ha1 := HS.out.1.a1
          have HD := HS.out.2
          obtain ⟨ot, hot⟩ : ∃ s, s = Kn.first L V left a := ⟨_, rfl⟩
          have hstep : Kn.divF L V (f + 1) left a = (ot.1, a, ot.2) :: Kn.divF L V f (left.filter fun o => !decide (o = ot.1)) ot.2 := by rw [hot]; rfl
          rw [hstep] at HD
          rw [← hot] at hnx
          obtain ⟨o, t⟩ := ot
          simp only at HD hnx
          have Hnx := Lib.hid (And.intro hnx.2.2 HD)
          have hmemo := hnx.1
          clear hstep hnx HD
          obtain ⟨⟨x0, x1⟩, -, -⟩ := row_fr Rf
          obtain ⟨⟨y0, y1⟩, -, -⟩ := row_fr R6
          have hFi := kfirst_any L V left a aoL nL cL aoV nV cV (some ⟨gl, 0, none⟩) (f + 1 + 1) capl wr (hf.below hb) hok hI hll.out.symm (by have := hll.out; omega) (by have := hll.out; have := HS.out.1.le; omega) hlV hfrom ha1
          rw [← hot] at hFi
          clear hot hfrom
          have HFi := Lib.hid hFi
          clear hFi hI hlV hle ha1
          have hlf : Hid ((((left.map fun (o : Nat) => (o : Int)).filter fun x => !decide (x = (o : Int))).length = f + 1) ∧ ((left.map fun (o : Nat) => (o : Int)).filter fun x => !decide (x = (o : Int))) = (left.filter fun p => !decide (p = o)).map fun (o : Nat) => (o : Int)) := Lib.hid (by
            have e : ((left.map fun (o : Nat) => (o : Int)).filter fun x => !decide (x = (o : Int))) = (left.filter fun p => !decide (p = o)).map fun (o : Nat) => (o : Int) := by
              rw [List.filter_map]
              congr 1
              apply List.filter_congr
              intro p _
              by_cases h : p = o
              · simp [h]
              · have : ¬ (p : Int) = (o : Int) := by omega
                simp [h, this]
            refine ⟨?_, e⟩
            rw [e, List.length_map]
            exact Hnx.out.1.len)
          go_wp2_with fail
          refine HFi.out.mono ?_
          rintro e w4 ⟨rfl, hb4⟩
          clear HFi x0 x1 y0 y1
          have Rf4 := heap_keep hb4 Rf
          have R64 := heap_keep hb4 R6
          have HL4 := Lib.hid (own_below HL.out hb4)
          have HP4 := Lib.hid (own_below HP.out hb4)
          have hsz4 := Nat.le_trans hsz hb4.size
          have hbw4 := hb.trans (hb4.mono hb.size)
          clear hb4 Rf R6 HL HP hsz hb
          go_upto_region 11 with fail
          have r7 := heap_alloc2_old w4 (.cells #[.int .i64 (o : Nat)] 3) (.cells #[.int .i64 t.num, .int .i64 t.den] 124)
          have r8 := heap_alloc2_new w4 (.cells #[.int .i64 (o : Nat)] 3) (.cells #[.int .i64 t.num, .int .i64 t.den] 124)
          have hal := below_alloc2 w4 (.cells #[.int .i64 (o : Nat)] 3) (.cells #[.int .i64 t.num, .int .i64 t.den] 124)
          have Rf5 := heap_keep hal Rf4
          have R65 := heap_keep hal R64
          have HL5 := Lib.hid (own_below HL4.out hal)
          have HP5 := Lib.hid (own_below HP4.out hal)
          have hsz5 := Nat.le_trans hsz4 hal.size
          have hbw5 := hbw4.trans (hal.mono hbw4.size)
          have hs5 : ((w4.alloc (.cells #[.int .i64 (o : Nat)] 3)).alloc (.cells #[.int .i64 t.num, .int .i64 t.den] 124)).heap.size = w4.heap.size + 1 + 1 := by simp
          have hP4 : ∀ q, Value.ownBlock u3 = some q → q < w4.heap.size ∧ W3.heap.size ≤ q := fun q hq => ⟨(HP4.out.lt q hq).2, (HP4.out.lt q hq).1⟩
          obtain ⟨G7, hG7⟩ : ∃ g, g = w4.heap.size := ⟨_, rfl⟩
          rw [← hG7] at r7 r8 hsz4 hs5 hP4 ⊢
          clear hal Rf4 R64 HL4 HP4 hbw4 hG7
          generalize (w4.alloc (.cells #[.int .i64 (o : Nat)] 3)).alloc (.cells #[.int .i64 t.num, .int .i64 t.den] 124) = W5 at r7 r8 Rf5 R65 HL5 HP5 hsz5 hbw5 hs5 ⊢
          have c7 := cell_of_row W5 _ 0 _ _ _ r7
          simp at c7
          obtain ⟨⟨y0, y1⟩, -, -⟩ := row_fr R65
          obtain ⟨⟨t0, t1⟩, -, -⟩ := row_fr r8
          go_wp2_with fail
          refine (kpiece_any (o : Nat) a.num a.den t.num t.den W5).mono ?_
          rintro e w6 ⟨rfl, hb6⟩
          have hb6a := hb6.alloc (Nat.le_trans (Nat.le_refl _) hb6.size) (.cells #[.int .i64 (o : Nat), .int .i64 a.num, .int .i64 a.den, .int .i64 t.num, .int .i64 t.den] 86)
          clear c7 y0 y1 t0 t1
          go_upto_region 12 with (first | (at_builtin; refine wpList_append_own _ rfl _ _ 59 rfl W3.heap.size 86 i1 (.agg #[.int .i64 0, .int .i64 0, .int .i64 0, .int .i64 0, .int .i64 0]) 5 40 Try.underlying59 hi1 hy0 hy1 hy2 rfl (by decide) _ ps.length (flat5 (ps.map pc)) rfl (own_below HP5.out hb6a) ⟨w6.heap.size, 0, none⟩ 1 1 [.int .i64 (o : Nat), .int .i64 a.num, .int .i64 a.den, .int .i64 t.num, .int .i64 t.den] rfl rfl (World.news_of_block (cs := #[.int .i64 (o : Nat), .int .i64 a.num, .int .i64 a.den, .int .i64 t.num, .int .i64 t.den]) (t := 86) (fr := (0, 0)) (heap_alloc_new w6 _)) (by simp [Value.oneCell']) (by unfold maxLen; omega) (by omega) (Nat.le_trans hsz5 hb6a.size) ?_; intro v7 w7 ho7 hg7 hnil7))
          have hb7 : Below W3.heap.size W5 w7 := (hb6a.mono hsz5).grown hg7 (Nat.le_trans hsz5 hb6a.size) (fun q hq => (hP4 q hq).2)
          have hblk : ∀ k, k < W5.heap.size → (∀ q, Value.ownBlock u3 = some q → k ≠ q) → w7.heap[k]? = W5.heap[k]? := fun k hk hq =>
            (hg7.block k (Nat.lt_of_lt_of_le hk hb6a.size) (fun e => hq k e.symm rfl)).trans (hb6a.block k hk)
          have r77 := (hblk G7 (by omega) (fun q hq => by have := (hP4 q hq).1; omega)).trans r7
          have r87 := (hblk (G7 + 1) (by omega) (fun q hq => by have := (hP4 q hq).1; omega)).trans r8
          have Rf7 := (hb7.block w.heap.size (by omega)).trans Rf5
          have R67 := (hb7.block G6 (by omega)).trans R65
          have HL7 := Lib.hid (own_same HL5.out (fun g hg => by
            have e : gl = g := by simpa [Value.ownBlock] using hg
            subst e
            exact hb7.block gl (by omega)))
          have hbw7 := hbw5.trans (hb7.mono (by omega))
          have HP7 := Lib.hid ho7
          have hs7 := hb7.size
          clear ho7 hg7 hnil7 hb7 hblk r7 r8 Rf5 R65 HL5 HP5 hbw5 hb6a hb6
          have c7 := cell_of_row w7 _ 0 _ _ _ r77
          simp at c7
          go_wp2_with fail
          refine (kdel_any (left.map fun (o : Nat) => (o : Int)) (o : Nat) (f + 1 + 1) gl capl 3 W0.heap.size G7 w7 HL7.out (by omega) c7 (by omega) (by omega)).mono ?_
          rintro e w8 ⟨rfl, HO8, hb8, hsz8, hk8⟩
          rw [hlf.out.1] at HO8 ⊢
          rw [hlf.out.2] at HO8
          have r88 := (hk8 (G7 + 1) (by omega)).trans r87
          have Rf8 := (hk8 w.heap.size (by omega)).trans Rf7
          have R68 := (hk8 G6 (by omega)).trans R67
          have HP8 := Lib.hid (own_same HP7.out (fun g hg => hk8 g (by
            have := (HP7.out.lt g hg).1
            omega)))
          have HO8' := Lib.hid HO8
          have hbw8 := hbw7.trans (hb8.mono (by omega))
          clear HO8 hk8 hb8 HP7 Rf7 R67 r87 r77 c7 HL7 hbw7
          obtain ⟨⟨t0, t1⟩, -, -⟩ := row_fr r88
          obtain ⟨⟨y0, y1⟩, z0, z1⟩ := row_fr R68
          go_wp2_with fail
          go_roundg f
          case measure => omega
          case rel =>
            have hoth : ∀ k, k ≠ G6 → ((w8.setCell ⟨G6, 0, none⟩ (.int .i64 t.num)).setCell ⟨G6, 1, none⟩ (.int .i64 t.den)).heap[k]? = w8.heap[k]? := fun k hk => (heap_setCell_other _ _ _ _ hk).trans (heap_setCell_other _ _ _ _ hk)
            refine ⟨f, left.filter (fun p => !decide (p = o)), t, ps ++ [(o, a, t)], rfl, rfl, Lib.hid ⟨Hnx.out.1, by simpa using Hnx.out.2⟩, Lib.hid (own_same HO8'.out (fun g hg => hoth g (by
              have e : gl = g := by simpa [Value.ownBlock] using hg
              omega))), (hoth _ (by omega)).trans Rf8, two_cells R68 _ _, Lib.hid ?_, by simp; omega, by simp [World.setCell]; omega, below_setCell (below_setCell hbw8 (by omega) _) (by omega) _⟩
            rw [List.length_append, List.map_append, flat5_app]
            exact own_same HP8.out (fun g hg => hoth g (by
              have := (HP8.out.lt g hg).1
              omega))
end Go.Proofs.Ytemlfklipkpacaa
