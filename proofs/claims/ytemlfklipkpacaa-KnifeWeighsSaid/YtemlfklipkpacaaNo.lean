import Derived.Test.YtemlfklipkpacaaNn
import Derived.Test.YtemlfklipkpacaaLb
import Derived.Shelf.SlicesE.Delete
/- slices.Delete at a row of rows of the call's own; Without of package knife. -/
namespace Go.Proofs.Ytemlfklipkpacaa
open Go.RowKit

def delr_ren : Go.Shelf.Ren := ⟨fun | 45 => 118 | n => n, fun | 0 => 0 | 3 => 3 | 4 => 4 | 22 => 55 | 23 => 39 | n => n, fun n => n⟩
theorem delr_lays : SlLaysE.n45 Try.prog delr_ren := {
  mixed := by kernel_rfl
  f45 := ⟨Try.f118.name, by decide, Try.func118.trans (congrArg some (by kernel_rfl))⟩
  t0 := Try.underlying0
  a0 := Try.isAgg0
  z0 := Try.sizeOf0
  v0 := Try.zeroValue0
  t3 := Try.underlying3
  a3 := Try.isAgg3
  z3 := Try.sizeOf3
  v3 := Try.zeroValue3
  t4 := Try.underlying4
  a4 := Try.isAgg4
  z4 := Try.sizeOf4
  v4 := Try.zeroValue4
  t22 := Try.underlying55
  a22 := Try.isAgg55
  z22 := Try.sizeOf55
  v22 := Try.zeroValue55
  a23 := Try.isAgg39
  z23 := Try.sizeOf39 }

/-- A slice, by what it holds. -/
def slE (t : Option Addr × Nat × Nat) : Value := .slice t.1 t.2.1 t.2.2
theorem slE_one : OneCell slE := fun _ => rfl
theorem rows_slE {V : List (List Int)} {rs : List Value} (h2 : rs.length = V.length) (h3 : ∀ k (_ : k < V.length), ∃ ao cap, rs[k]? = some (.slice ao (V.getD k []).length cap)) : ∃ ts : List (Option Addr × Nat × Nat), rs = ts.map slE := by
  have key : ∀ v ∈ rs, ∃ t, v = slE t := fun v hv => by
    obtain ⟨k, hk, rfl⟩ := List.getElem_of_mem hv
    obtain ⟨ao, cap, e⟩ := h3 k (by omega)
    exact ⟨(ao, _, cap), Option.some.inj ((List.getElem?_eq_getElem hk).symm.trans e)⟩
  clear h2 h3
  induction rs with
  | nil => exact ⟨[], rfl⟩
  | cons v r ih =>
    obtain ⟨t, ht⟩ := key v (by simp)
    obtain ⟨ts, hts⟩ := ih (fun u hu => key u (by simp [hu]))
    exact ⟨t :: ts, by rw [List.map_cons, ← ht, ← hts]⟩
theorem getD_erase {V : List (List Int)} {o k : Nat} : (V.eraseIdx o).getD k [] = V.getD (if k < o then k else k + 1) [] := by
  rw [List.getD_eq_getElem?_getD, List.getD_eq_getElem?_getD, List.getElem?_eraseIdx]
  split <;> rfl

set_option maxRecDepth 100000 in
set_option maxHeartbeats 4000000 in
theorem kdelRow_any (V : List (List Int)) (o g n cap base : Nat) (w : World) (hT : OTab w base (.slice (some ⟨g, 0, none⟩) n cap) V) (hn : n = V.length) (ho : o < n) (hn9 : n ≤ 100) :
    Calls Try.prog 118 #[.slice (some ⟨g, 0, none⟩) n cap, .int .i64 o, .int .i64 (o + 1 : Nat)] w fun e' w' => e' = .returned (.slice (some ⟨g, 0, none⟩) (n - 1) cap) ∧ OTab w' base (.slice (some ⟨g, 0, none⟩) (n - 1) cap) (V.eraseIdx o) ∧ Below base w w' ∧ w'.heap.size = w.heap.size ∧ ∀ k, k ≠ g → w'.heap[k]? = w.heap[k]? := by
  obtain ⟨rs, h1, h2, h3⟩ := hT.rows
  obtain ⟨ts, rfl⟩ := rows_slE h2 (fun k hk => by obtain ⟨ao, c, e, -⟩ := h3 k hk; exact ⟨ao, c, e⟩)
  rw [← hn] at h1
  obtain ⟨g', cap', he, hbg, hlt, hnc, hcm, hl, hH⟩ := Lib.holds_of_ownsRow (enc := slE) h1 (by simp)
  cases he
  have hsz : ts.toArray.size = n := by simpa using hl
  obtain ⟨i0, hi0, -, hz1, -⟩ := info_sl
  have hcon := AnyE.slices_Delete delr_lays slE slE_one (none, 0, 0) Try.zeroValue39 i0 hi0 hz1 g 0 cap o (o + 1) ts.toArray w hH (by omega) (by unfold maxLen at hcm; omega) (by omega) (by omega)
  rw [hsz] at hcon
  change Calls Try.prog 118 _ _ _ at hcon
  refine hcon.mono ?_
  rintro e' w' ⟨rfl, q, rfl⟩
  have htk : ts.toArray.toList.take o ++ ts.toArray.toList.drop (o + 1) = ts.eraseIdx o := by
    rw [List.eraseIdx_eq_take_drop_succ]
  have hel : (ts.eraseIdx o).length = n - 1 := by rw [List.length_eraseIdx_of_lt (by omega), hl]
  have h := Lib.ownsRow_putRow (q := q) (k := n - 1) (ys := ts.eraseIdx o ++ List.replicate (o + 1 - o) (none, 0, 0)) h1 (by simp [hel]; omega) (by omega)
  rw [List.take_left' hel] at h
  have hbl : ∀ k, k ≠ g → (Sort.putRow slE (Sort.ahead w q) g 0 (ts.eraseIdx o ++ List.replicate (o + 1 - o) (none, 0, 0)).toArray).heap[k]? = w.heap[k]? := fun k hk => by simp [Sort.putRow, Sort.mapBlock, Sort.ahead, Array.getElem?_modify, show g ≠ k from fun e => hk e.symm]
  rw [htk]
  refine ⟨by rw [show o + 1 - o = 1 by omega], ⟨(ts.eraseIdx o).map slE, ?_, by rw [List.length_map, hel, List.length_eraseIdx_of_lt (by omega), hn], fun k hk => ?_⟩, Lib.below_putRow (Below.refl _ _) hbg, by simp [Sort.putRow, Sort.mapBlock, Sort.ahead], hbl⟩
  · rw [List.length_eraseIdx_of_lt (by omega), ← hn]; exact h
  · rw [List.length_eraseIdx_of_lt (by omega)] at hk
    obtain ⟨ao, c, a1, a2, a3⟩ := h3 (if k < o then k else k + 1) (by split <;> omega)
    rw [getD_erase]
    refine ⟨ao, c, ?_, a2, own_same a3 (fun j hj => hbl j (fun e => ?_))⟩
    · rw [List.getElem?_map, List.getElem?_eraseIdx] at *
      rw [← a1]
      split <;> simp_all
    · subst e
      obtain ⟨c1, e1⟩ := own_row1 a3 j hj
      obtain ⟨c2, e2⟩ := own_row1 h1 j rfl
      rw [e1] at e2
      simp at e2

theorem owner_ok {L : List Int} {V : List (List Int)} {o : Int} (hz : Kn.ocode L V o = 0) : Kn.Ok L V ∧ ∃ k : Nat, o = (k : Int) ∧ k < V.length := by
  have hzv : Kn.val L V = 0 ∧ Kn.isO V o = true := by
    unfold Kn.ocode at hz
    split at hz
    · rename_i h; exact absurd hz h
    · rename_i h
      split at hz
      · rename_i h2; exact ⟨by simpa using h, h2⟩
      · cases hz
  have hoo : 0 ≤ o ∧ o < (V.length : Int) := by have := hzv.2; unfold Kn.isO at this; simpa using this
  exact ⟨Kn.val_ok.1 hzv.1, o.toNat, by omega, by omega⟩
theorem results_cell_tmp2 {P : Program} {fn : Func} {p q r : Tmp} {ty : TypeId} (h : fn.results = #[.cell p ty, .tmp q, .tmp r]) (tmps : Array Value) (w : World) (g : Nat) (t : TypeId) (cs : Array Value) (fr : Nat × Nat) (d : TypeDesc)
    (hp : tmps.getD p undef = .pointer (some ⟨g, 0, none⟩)) (hg : w.heap[g]? = some (.cells cs t fr))
    (hu : P.underlying ty = some d) (hd : (match d with | .struct _ | .array _ _ => true | _ => false) = true) (hi : (P.info? ty).map (·.size) = some cs.size) :
    (results fn tmps).run P w = .ok (.tuple #[.agg cs, tmps.getD q undef, tmps.getD r undef]) w := by
  have hp' : tmps[p]?.getD undef = .pointer (some ⟨g, 0, none⟩) := by simpa using hp
  simp [results, h, hp', asAddr, run_loadVar_row w g t ty cs fr d hg hu hd hi]
theorem optFr_none : optFr none = .agg #[.int .i64 0, .int .i64 0] := rfl
theorem fst_cell {w : World} {g : Nat} {a b : Value} {t : TypeId} (hh : w.heap[g]? = some (.cells #[a, b] t (0, 0))) (v : Value) : (w.setCell ⟨g, 0, none⟩ v).heap[g]? = some (.cells #[v, b] t (0, 0)) := by
  have := heap_setCell_same w g 0 _ t v hh
  simpa using this
theorem own_setT {w : World} {base n size g o : Nat} {e e2 : TypeId} {v u : Value} {xs : List Value} {cs : Array Value} {fr : Nat × Nat} (h : w.ownsRow base e size v n xs) (hg : w.heap[g]? = some (.cells cs e2 fr)) (hne : e ≠ e2) : (w.setCell ⟨g, o, none⟩ u).ownsRow base e size v n xs :=
  own_same h (fun k hk => heap_setCell_other w ⟨g, o, none⟩ k u (fun (e4 : k = g) => by
    subst e4
    obtain ⟨c, hc⟩ := own_row1 h k hk
    rw [hg] at hc
    cases hc
    exact hne rfl))
theorem OTab.setT {w : World} {base g o : Nat} {v u : Value} {V : List (List Int)} {cs : Array Value} {fr : Nat × Nat} (h : OTab w base v V) (hg : w.heap[g]? = some (.cells cs 57 fr)) : OTab (w.setCell ⟨g, o, none⟩ u) base v V := by
  obtain ⟨rs, h1, h2, h3⟩ := h.rows
  refine ⟨rs, own_setT h1 hg (by decide), h2, fun k hk => ?_⟩
  obtain ⟨ao, cap, a1, a2, a3⟩ := h3 k hk
  exact ⟨ao, cap, a1, a2, own_setT a3 hg (by decide)⟩
/-- The code of Without. -/
def Kn.wocode (L : List Int) (V : List (List Int)) (o : Int) : Int := if Kn.ocode L V o ≠ 0 then Kn.ocode L V o else if V.length = 1 then 5 else 0
/-- The field that Without answers. -/
def Kn.woF (L : List Int) (V : List (List Int)) (o : Int) : List Int × List (List Int) := if Kn.wocode L V o = 0 then (L, V.eraseIdx o.toNat) else ([], [])

set_option maxRecDepth 100000 in
set_option maxHeartbeats 8000000 in
theorem kWithout_any (L : List Int) (V : List (List Int)) (o : Int) (aoL : Option Addr) (nL cL : Nat) (aoV : Option Addr) (nV cV : Nat) (w : World) (hf : Fld w aoL nL aoV nV L V) (hl : nL ≤ 100) (hv : nV ≤ 100) (hr : ∀ r ∈ V, r.length ≤ 100) :
    Calls Try.prog 58 #[.agg #[.slice aoL nL cL, .slice aoV nV cV], .int .i64 o] w fun e w' => (∃ vL vV, e = .returned (.tuple #[.agg #[vL, vV], .int .i64 (Kn.wocode L V o)]) ∧ w'.ownsRow w.heap.size 3 1 vL (Kn.woF L V o).1.length ((Kn.woF L V o).1.map (Value.int .i64)) ∧ OTab w' w.heap.size vV (Kn.woF L V o).2) ∧ Below w.heap.size w w' := by
  have HnL := Lib.hid hf.nl
  have HnV := Lib.hid hf.nv
  obtain ⟨C, hC⟩ : ∃ c, c = Kn.wocode L V o := ⟨_, rfl⟩
  rw [← hC]
  have HC := Lib.hid hC
  clear hC
  have hA := below_alloc2 w (.cells #[.slice aoL nL cL, .slice aoV nV cV] 57) (.cells #[.slice none 0 0, .slice none 0 0] 57)
  have rf := heap_alloc2_old w (.cells #[.slice aoL nL cL, .slice aoV nV cV] 57) (.cells #[.slice none 0 0, .slice none 0 0] 57)
  have rr := heap_alloc2_new w (.cells #[.slice aoL nL cL, .slice aoV nV cV] 57) (.cells #[.slice none 0 0, .slice none 0 0] 57)
  go_enter Try.func58, Try.ntmps58
  go_upto_region 1 with fail
  generalize (w.alloc (.cells #[.slice aoL nL cL, .slice aoV nV cV] 57)).alloc (.cells #[.slice none 0 0, .slice none 0 0] 57) = W0 at hA rf rr ⊢
  obtain ⟨G, hG⟩ : ∃ g, g = w.heap.size := ⟨_, rfl⟩
  rw [← hG] at rf rr ⊢
  have HG := Lib.hid hG
  clear hG
  replace hf := hf.below hA
  obtain ⟨⟨x0, x1⟩, -, -⟩ := row_fr rf
  go_wp2_with fail
  refine ((kvalidateOwner_any L V o _ _ _ _ _ _ W0 hf hl hv hr)).mono ?_
  rintro e w1 ⟨rfl, hbb⟩
  replace hf := hf.below hbb
  replace rf := heap_keep hbb rf
  replace rr := heap_keep hbb rr
  replace hA := hA.trans (hbb.mono hA.size)
  clear hbb
  clear x0 x1
  by_cases hz : Kn.ocode L V o = 0
  · obtain ⟨hok, k, hko, hk⟩ := owner_ok hz
    have hC2 : C = if V.length = 1 then 5 else 0 := by rw [HC.out]; unfold Kn.wocode; rw [if_neg (by simpa using hz)]
    have HC2 := Lib.hid hC2
    have hwo : Hid (Kn.woF L V o = if C = 0 then (L, V.eraseIdx o.toNat) else ([], [])) := Lib.hid (by unfold Kn.woF; rw [HC.out])
    subst hko
    rw [hz]
    clear hz hC2 HC
    have hkn : k < nV := by have := HnV.out; omega
    obtain ⟨⟨x0, x1⟩, -, -⟩ := row_fr rf
    by_cases h1 : nV = 1
    · have hC5 : Hid (C = 5) := Lib.hid (by rw [HC2.out, if_pos (by rw [← HnV.out]; exact h1)])
      have q1 : ((nV : Int) == 1) = true := by simp; omega
      obtain ⟨⟨r0, r1⟩, s0, s1⟩ := row_fr rr
      clear h1 hkn
      go_wp2_with fail
      have hGw := HG.out
      rw [hC5.out]
      refine bodyPost_ret (results_cell_tmp rfl _ _ _ _ _ _ _ rfl (two_cells rr (.slice none 0 0) (.slice none 0 0)) Try.underlying57 rfl kinfoFd2) rfl ⟨⟨_, _, rfl, ?_, ?_⟩, below_setCell (below_setCell hA (by omega) _) (by omega) _⟩
      · rw [hwo.out, if_neg (by rw [hC5.out]; decide)]; exact ⟨rfl, .inl ⟨rfl, rfl⟩⟩
      · rw [hwo.out, if_neg (by rw [hC5.out]; decide)]; exact otab_none
    · have hC0 : Hid (C = 0) := Lib.hid (by rw [HC2.out, if_neg (by rw [← HnV.out]; exact h1)])
      have q1 : ((nV : Int) == 1) = false := by simp; omega
      have hn1 : 1 < nV := by omega
      have hv5 : nV ≤ 5 := by have := HnV.out; have := hok.v5; omega
      have ek : IntKind.i64.wrap ((k : Int) + 1) = ((k + 1 : Nat) : Int) := by
        rw [IntWalk.i64_in _ (by omega)]; push_cast; rfl
      clear h1
      go_wp2_with fail
      refine (kcopied_any L V aoL nL cL aoV nV cV w1 hf hl hv hr).mono ?_
      rintro e w2 ⟨⟨vL, vV, rfl, oL, hT⟩, hbb⟩
      have hs1 := hA.size
      have hG1 : G + 1 < w1.heap.size := heap_lt rr
      replace hf := hf.below hbb
      replace rf := heap_keep hbb rf
      replace rr := heap_keep hbb rr
      replace hA := hA.trans (hbb.mono hA.size)
      clear hbb x0 x1
      obtain ⟨aL, cL2, rfl, -, -⟩ := own_ints oL HnL.out
      obtain ⟨gv, cv, rfl, hgb, hgl⟩ : ∃ g c, vV = .slice (some ⟨g, 0, none⟩) nV c ∧ w1.heap.size ≤ g ∧ g < w2.heap.size := by
        obtain ⟨rs, t1, -, -⟩ := hT.rows
        rw [← HnV.out] at t1
        obtain ⟨g, c, e, b1, b2, -⟩ := own_cells t1 (by omega)
        exact ⟨g, c, e, b1, b2⟩
      go_upto_region 7 with fail
      have r7 := heap_alloc_new w2 (.cells #[.slice aL nL cL2, .slice (some ⟨gv, 0, none⟩) nV cv] 57)
      have hal := (Below.refl w2.heap.size w2).alloc (Nat.le_refl _) (.cells #[.slice aL nL cL2, .slice (some ⟨gv, 0, none⟩) nV cv] 57)
      replace hf := hf.below hal
      replace rf := heap_keep hal rf
      replace rr := heap_keep hal rr
      replace hA := hA.trans (hal.mono hA.size)
      replace oL := own_below oL hal
      replace hT := hT.below hal
      clear hal
      generalize w2.alloc (.cells #[.slice aL nL cL2, .slice (some ⟨gv, 0, none⟩) nV cv] 57) = W3 at r7 hf rf rr hA oL hT ⊢
      obtain ⟨G7, hg7⟩ : ∃ g, g = w2.heap.size := ⟨_, rfl⟩
      rw [← hg7] at r7 hgl ⊢
      clear hg7
      obtain ⟨⟨y0, y1⟩, -, -⟩ := row_fr r7
      have hdel := kdelRow_any V k gv nV cv w1.heap.size W3 hT HnV.out hkn (by omega)
      go_wp2_with fail
      refine hdel.mono ?_
      rintro e w4 ⟨rfl, hT4, hb4, hs4, hbl⟩
      have r74 := (hbl G7 (by omega)).trans r7
      have rr4 := (hbl (G + 1) (by omega)).trans rr
      have hgg : gv ≠ G7 := by omega
      have hA4 : Below w.heap.size w w4 := hA.trans (hb4.mono hs1)
      have oL4 : w4.ownsRow w1.heap.size 3 1 (.slice aL nL cL2) nL (L.map (Value.int .i64)) := own_same oL (fun j hj => hbl j (fun e => by
        subst e
        obtain ⟨rs, t1, -, -⟩ := hT.rows
        obtain ⟨c1, e1⟩ := own_row1 oL j hj
        obtain ⟨c2, e2⟩ := own_row1 t1 j rfl
        rw [e1] at e2
        simp at e2))
      obtain ⟨⟨c0, c1⟩, g0, g1⟩ := row_fr r74
      clear hdel hbl hT oL r7 rr rf hf hA hb4 y0 y1
      go_upto_region 8 with fail
      have r75 := snd_cell r74 (.slice (some ⟨gv, 0, none⟩) (nV - 1) cv)
      have hG17 : G + 1 ≠ G7 := by omega
      have rr5 := (heap_setCell_other w4 ⟨G7, 1, none⟩ (G + 1) (.slice (some ⟨gv, 0, none⟩) (nV - 1) cv) hG17).trans rr4
      have hA5 := below_setCell (g := G7) (o := 1) hA4 (by omega) (.slice (some ⟨gv, 0, none⟩) (nV - 1) cv)
      have oL5 := own_setT (o := 1) (u := .slice (some ⟨gv, 0, none⟩) (nV - 1) cv) oL4 r74 (by decide)
      have hT5 := hT4.setT (o := 1) (u := .slice (some ⟨gv, 0, none⟩) (nV - 1) cv) r74
      clear r74 rr4 hA4 oL4 hT4 c0 c1 g0 g1
      generalize w4.setCell ⟨G7, 1, none⟩ (.slice (some ⟨gv, 0, none⟩) (nV - 1) cv) = w5 at r75 rr5 hA5 oL5 hT5 ⊢
      obtain ⟨⟨c0, c1⟩, -, -⟩ := row_fr r75
      obtain ⟨⟨r0, r1⟩, s0, s1⟩ := row_fr rr5
      go_wp2_with fail
      have hGw := HG.out
      rw [hC0.out]
      refine bodyPost_ret (results_cell_tmp rfl _ _ _ _ _ _ _ rfl (two_cells rr5 (.slice aL nL cL2) (.slice (some ⟨gv, 0, none⟩) (nV - 1) cv)) Try.underlying57 rfl kinfoFd2) rfl ⟨⟨_, _, rfl, ?_, ?_⟩, below_setCell (below_setCell hA5 (by omega) _) (by omega) _⟩
      · rw [hwo.out, if_pos hC0.out]
        have h8 := own_setT (o := 1) (u := .slice (some ⟨gv, 0, none⟩) (nV - 1) cv) (own_setT (o := 0) (u := .slice aL nL cL2) oL5 rr5 (by decide)) (fst_cell rr5 (.slice aL nL cL2)) (by decide)
        rw [HnL.out] at h8 ⊢
        exact own_mono h8 hs1
      · rw [hwo.out, if_pos hC0.out]
        exact ((hT5.setT (o := 0) (u := .slice aL nL cL2) rr5).setT (o := 1) (u := .slice (some ⟨gv, 0, none⟩) (nV - 1) cv) (fst_cell rr5 (.slice aL nL cL2))).mono hs1
  · have hne : (Kn.ocode L V o != 0) = true := by simp [hz]
    have hC1 : C = Kn.ocode L V o := by rw [HC.out]; unfold Kn.wocode; rw [if_pos hz]
    have HC1 := Lib.hid hC1
    have hwo : Hid (Kn.woF L V o = ([], [])) := Lib.hid (by unfold Kn.woF; rw [← HC.out, if_neg (by rw [hC1]; exact hz)])
    generalize Kn.ocode L V o = D at hz hne HC1 ⊢
    clear hC1
    obtain ⟨⟨r0, r1⟩, s0, s1⟩ := row_fr rr
    go_wp2_with fail
    have hGw := HG.out
    rw [HC1.out]
    refine bodyPost_ret (results_cell_tmp rfl _ _ _ _ _ _ _ rfl (two_cells rr (.slice none 0 0) (.slice none 0 0)) Try.underlying57 rfl kinfoFd2) rfl ⟨⟨_, _, rfl, ?_, ?_⟩, below_setCell (below_setCell hA (by omega) _) (by omega) _⟩
    · rw [hwo.out]; exact ⟨rfl, .inl ⟨rfl, rfl⟩⟩
    · rw [hwo.out]; exact otab_none
end Go.Proofs.Ytemlfklipkpacaa
