import Derived.Test.YtemlfklipkpacaaKv
import Derived.Test.YtemlfklipkpacaaLa
import Derived.Test.YtemlfklipkpacaaLb
/- Package knife: which lists are pieces: one for each owner. -/
namespace Go.Proofs.Ytemlfklipkpacaa
open Go.RowKit
/-- There is one piece for each owner. -/
def Kn.okOwn (V : List (List Int)) (ps : List Pc) : Bool := ps.all (fun p => Kn.isO V p.1) && (decide (ps.map Prod.fst).Nodup && decide (ps.length = V.length))
theorem nodup_snoc {l : List Int} {x : Int} : (l ++ [x]).Nodup ↔ l.Nodup ∧ x ∉ l := by
  rw [List.nodup_append]
  constructor
  · rintro ⟨h1, -, h2⟩
    exact ⟨h1, fun h => h2 x h x (by simp) rfl⟩
  · rintro ⟨h1, h2⟩
    exact ⟨h1, by simp, fun a ha b hb => by simp at hb; rintro rfl; exact h2 (hb ▸ ha)⟩
theorem take_snoc {α : Type} {l : List α} {k : Nat} (h : k < l.length) : l.take (k + 1) = l.take k ++ [l[k]] := by
  rw [List.take_add_one, List.getElem?_eq_getElem h]; rfl
theorem own_not {V : List (List Int)} {ps : List Pc} {k : Nat} (h : k < ps.length) (h2 : Kn.isO V (ps[k]).1 = false) : Kn.okOwn V ps = false := by
  unfold Kn.okOwn
  rw [show ps.all (fun p => Kn.isO V p.1) = false by
    rw [List.all_eq_false]; exact ⟨_, List.getElem_mem h, by rw [h2]; simp⟩]
  rfl
theorem own_twice {V : List (List Int)} {ps : List Pc} {k : Nat} (h : k < ps.length) (h2 : (ps[k]).1 ∈ (ps.take k).map Prod.fst) : Kn.okOwn V ps = false := by
  unfold Kn.okOwn
  have hn : ¬ (ps.map Prod.fst).Nodup := fun hd => by
    have e : ps.map Prod.fst = (ps.take k).map Prod.fst ++ (ps.drop k).map Prod.fst := by rw [← List.map_append, List.take_append_drop]
    rw [e, List.nodup_append] at hd
    refine hd.2.2 _ h2 _ ?_ rfl
    rw [List.drop_eq_getElem_cons h, List.map_cons]
    exact List.mem_cons_self
  rw [decide_eq_false hn]
  cases ps.all (fun p => Kn.isO V p.1) <;> rfl
/-- Up to the piece k there is at most one for each owner. -/
structure OwnK (V : List (List Int)) (ps : List Pc) (k : Nat) : Prop where
  io : ∀ i (h : i < ps.length), i < k → Kn.isO V (ps[i]).1 = true
  nd : ((ps.take k).map Prod.fst).Nodup
theorem ownK_end {V : List (List Int)} {ps : List Pc} (h : OwnK V ps ps.length) : Kn.okOwn V ps = decide (ps.length = V.length) := by
  have h2 := h.nd
  rw [List.take_length] at h2
  unfold Kn.okOwn
  rw [decide_eq_true h2, show ps.all (fun p => Kn.isO V p.1) = true by
    rw [List.all_eq_true]
    intro p hp
    obtain ⟨i, hi, rfl⟩ := List.getElem_of_mem hp
    exact h.io i hi hi]
  rfl
theorem ownK_step {V : List (List Int)} {ps : List Pc} {k : Nat} (hk : OwnK V ps k) (h : k < ps.length) (h1 : Kn.isO V (ps[k]).1 = true) (h2 : (ps[k]).1 ∉ (ps.take k).map Prod.fst) : OwnK V ps (k + 1) := by
  refine ⟨fun i hi hlt => ?_, ?_⟩
  · rcases Nat.lt_or_ge i k with h3 | h3
    · exact hk.io i hi h3
    · have : i = k := by omega
      subst this; exact h1
  · rw [take_snoc h, List.map_append]
    exact nodup_snoc.2 ⟨hk.nd, h2⟩

set_option maxRecDepth 100000 in
set_option maxHeartbeats 8000000 in
theorem khaveOwners_any (L : List Int) (V : List (List Int)) (ps : List Pc) (aoL : Option Addr) (nL cL : Nat) (aoV : Option Addr) (nV cV : Nat) (aop : Option Addr) (n cp : Nat) (w : World) (hv5 : V.length ≤ 5) (hnV : nV = V.length) (hp : Pcs w aop ps) (hn : n = ps.length) (hn9 : n ≤ 100000) :
    Calls Try.prog 96 #[.agg #[.slice aoL nL cL, .slice aoV nV cV], .slice aop n cp] w fun e w' => e = .returned (.bool (Kn.okOwn V ps)) ∧ Below w.heap.size w w' := by
  obtain ⟨R, hR⟩ : ∃ r, r = Kn.okOwn V ps := ⟨_, rfl⟩
  rw [← hR]
  have HR := Lib.hid hR
  have Hn := Lib.hid hn
  have HnV := Lib.hid hnV
  have hnV5 : nV ≤ 5 := by omega
  clear hR hn hnV
  have hA := below_alloc2 w (.cells #[.slice aoL nL cL, .slice aoV nV cV] 57) (.cells #[.bool false, .bool false, .bool false, .bool false, .bool false] 162)
  have rf := heap_alloc2_old w (.cells #[.slice aoL nL cL, .slice aoV nV cV] 57) (.cells #[.bool false, .bool false, .bool false, .bool false, .bool false] 162)
  have rs := heap_alloc2_new w (.cells #[.slice aoL nL cL, .slice aoV nV cV] 57) (.cells #[.bool false, .bool false, .bool false, .bool false, .bool false] 162)
  go_enter Try.func96, Try.ntmps96
  go_upto_region 2 with fail
  generalize (w.alloc (.cells #[.slice aoL nL cL, .slice aoV nV cV] 57)).alloc (.cells #[.bool false, .bool false, .bool false, .bool false, .bool false] 162) = W0 at hA rf rs ⊢
  obtain ⟨G, hG⟩ : ∃ g, g = w.heap.size := ⟨_, rfl⟩
  rw [← hG] at rf rs ⊢
  have HG := Lib.hid hG
  clear hG
  have hGs := heap_lt rs
  go_wp2_with fail
  go_loopw [10] (fun i wr => ∃ k : Nat, k ≤ n ∧ i = .int .i64 k ∧ Hid (OwnK V ps k) ∧ (∃ cs : Array Value, Hid (cs.size = 5 ∧ ∀ j : Nat, j < 5 → cs[j]? = some (.bool (decide ((j : Int) ∈ (ps.take k).map Prod.fst)))) ∧ wr.heap[G + 1]? = some (.cells cs 162 (0, 0))) ∧ wr.heap[G]? = some (.cells #[.slice aoL nL cL, .slice aoV nV cV] 57 (0, 0)) ∧ Below w.heap.size w wr) (fun i _ => n - (intOf i).toNat)
  case atStart =>
    refine ⟨0, Nat.zero_le _, rfl, Lib.hid ⟨fun i _ h => absurd h (by omega), by simp⟩, ⟨_, Lib.hid ⟨rfl, fun j hj => ?_⟩, rs⟩, rf, hA⟩
    match j, hj with
    | 0, _ | 1, _ | 2, _ | 3, _ | 4, _ => simp
  case round =>
    clear rf rs hA
    obtain ⟨k, hk, rfl, HK, ⟨cs, HC, rs⟩, rf, hB⟩ := hrel
    by_cases hlt : k < n
    · have hkl : k < ps.length := by have := Hn.out; omega
      obtain ⟨b, off, rfl, hbs, z0, z1, z2, z3, z4⟩ := pcs_at (hp.below hB) hkl
      have hstep := Lib.hid (fun h1 h2 => ownK_step HK.out hkl h1 h2)
      have hbad1 : Hid (Kn.isO V (ps[k]).1 = false → R = false) := Lib.hid (fun h => HR.out.trans (own_not hkl h))
      have hbad2 : Hid ((ps[k]).1 ∈ (ps.take k).map Prod.fst → R = false) := Lib.hid (fun h => HR.out.trans (own_twice hkl h))
      have hts : Hid ((ps.take (k + 1)).map Prod.fst = (ps.take k).map Prod.fst ++ [(ps[k]).1]) := Lib.hid (by rw [take_snoc hkl, List.map_append]; rfl)
      obtain ⟨⟨o, ⟨n1, d1⟩, ⟨n2, d2⟩⟩, hz⟩ : ∃ z, z = ps[k] := ⟨_, rfl⟩
      rw [← hz] at z0 z1 z2 z3 z4 hstep hbad1 hbad2 hts
      simp only at z0 z1 z2 z3 z4 hstep hbad1 hbad2 hts
      clear hz
      have i1 : (k : Int) < (n : Int) := by omega
      go_upto_region 5 with fail
      have r7 := heap_alloc_new wr (.cells #[.int .i64 o, .int .i64 n1, .int .i64 d1, .int .i64 n2, .int .i64 d2] 86)
      have hal := (Below.refl wr.heap.size wr).alloc (Nat.le_refl _) (.cells #[.int .i64 o, .int .i64 n1, .int .i64 d1, .int .i64 n2, .int .i64 d2] 86)
      have rs0 := rs
      replace rf := heap_keep hal rf
      replace rs := heap_keep hal rs
      replace hB := hB.trans (hal.mono hB.size)
      have hG7 : G + 1 < wr.heap.size := by have := heap_lt rs0; omega
      clear hal rs0
      generalize wr.alloc (.cells #[.int .i64 o, .int .i64 n1, .int .i64 d1, .int .i64 n2, .int .i64 d2] 86) = W7 at rf rs r7 hB ⊢
      obtain ⟨G7, hg7⟩ : ∃ g, g = wr.heap.size := ⟨_, rfl⟩
      rw [← hg7] at r7 hG7 ⊢
      clear hg7
      obtain ⟨⟨f0, f1⟩, -, -⟩ := row_fr rf
      have p0 := cell_of_row W7 G7 0 _ _ _ r7
      simp at p0
      go_wp2_with fail
      refine ((kisOwner_any V o _ aoL nL cL rfl aoV nV cV W7 HnV.out)).mono ?_
      rintro e w1 ⟨rfl, hbb⟩
      replace rf := heap_keep hbb rf
      replace rs := heap_keep hbb rs
      replace r7 := heap_keep hbb r7
      replace hB := hB.trans (hbb.mono hB.size)
      clear hbb
      clear f0 f1 p0
      have p0 := cell_of_row w1 G7 0 _ _ _ r7
      simp at p0
      obtain ⟨bo, hbo⟩ : ∃ b, Kn.isO V o = b := ⟨_, rfl⟩
      rw [hbo] at hstep hbad1 ⊢
      cases bo with
      | false =>
        have hr := Lib.hid (hbad1.out rfl)
        clear hbo hstep hbad1 hbad2 hts
        go_wp2_with fail
        go_ret
        exact ⟨ret_bool hr.out.symm, hB⟩
      | true =>
        have hoo : 0 ≤ o ∧ o < (V.length : Int) := by unfold Kn.isO at hbo; simpa using hbo
        obtain ⟨j, rfl⟩ := Int.eq_ofNat_of_zero_le hoo.1
        have hj5 : j < 5 := by omega
        have hcj := cell_of_row w1 (G + 1) j _ _ _ rs
        rw [HC.out.2 j hj5] at hcj
        have hj5i : (j : Int) < 5 := by omega
        obtain ⟨bs, hbs2⟩ : ∃ b, decide ((j : Int) ∈ (ps.take k).map Prod.fst) = b := ⟨_, rfl⟩
        rw [hbs2] at hcj
        clear hbo hbad1 hoo
        cases bs with
        | true =>
          have hr := Lib.hid (hbad2.out (of_decide_eq_true hbs2))
          clear hbs2 hstep hbad2 hts
          go_wp2_with fail
          go_ret
          exact ⟨ret_bool hr.out.symm, hB⟩
        | false =>
          have HK2 := Lib.hid (hstep.out rfl (of_decide_eq_false hbs2))
          clear hstep hbad2
          have hrs2 := heap_setCell_same w1 (G + 1) j cs 162 (.bool true) rs
          have hrf2 : (w1.setCell ⟨G + 1, j, none⟩ (.bool true)).heap[G]? = some (.cells #[.slice aoL nL cL, .slice aoV nV cV] 57 (0, 0)) := (heap_setCell_other _ _ _ _ (by show G ≠ G + 1; omega)).trans rf
          have hB2 := below_setCell (g := G + 1) (o := j) hB (by have := HG.out; omega) (.bool true)
          have HC2 : Hid ((cs.setIfInBounds j (.bool true)).size = 5 ∧ ∀ i : Nat, i < 5 → (cs.setIfInBounds j (.bool true))[i]? = some (.bool (decide ((i : Int) ∈ (ps.take (k + 1)).map Prod.fst)))) := Lib.hid ⟨by rw [Array.size_setIfInBounds]; exact HC.out.1, fun i hi => by
            rw [hts.out, Array.getElem?_setIfInBounds]
            by_cases hij : j = i
            · subst hij
              rw [if_pos rfl, if_pos (by rw [HC.out.1]; exact hi)]
              simp
            · rw [if_neg hij, HC.out.2 i hi]
              congr 2
              rw [decide_eq_decide, List.mem_append]
              constructor
              · exact Or.inl
              · rintro (h | h)
                · exact h
                · simp only [List.mem_singleton] at h
                  omega⟩
          clear hbs2 hts r7 HC
          have hfz := frozen_of_row w1 (G + 1) j cs _ rs
          go_wp2_with fail
          go_roundw
          case rel => exact ⟨k + 1, by omega, by go_num, HK2, ⟨_, HC2, hrs2⟩, hrf2, hB2⟩
          case measure => simp [intOf]; omega
    · have hk2 : k = n := by omega
      have hf : Hid (R = decide (n = nV)) := Lib.hid (by
        rw [HR.out, Hn.out, HnV.out]
        refine ownK_end ?_
        have := HK.out
        rw [hk2, Hn.out] at this
        exact this)
      clear hk2
      obtain ⟨⟨f0, f1⟩, -, -⟩ := row_fr rf
      go_wp2_with fail
      go_ret
      refine ⟨ret_bool ?_, hB⟩
      rw [hf.out, Bool.eq_iff_iff, beq_iff_eq, decide_eq_true_iff]
      omega
end Go.Proofs.Ytemlfklipkpacaa
