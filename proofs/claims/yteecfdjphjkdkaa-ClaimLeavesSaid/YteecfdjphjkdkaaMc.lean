import Derived.Test.YteecfdjphjkdkaaMb
import Derived.Test.YteecfdjphjkdkaaFq
import Derived.Test.YteecfdjphjkdkaaFr
namespace Go.Proofs.Yteecfdjphjkdkaa
open Go.RowKit
theorem mix_at (f g : Int → Int) {L : List Int} {k : Nat} (hk : k < L.length) : ((L.take k).map f ++ (L.drop k).map g).getD k 0 = g L[k] := by
  rw [List.getD_eq_getElem?_getD, List.getElem?_append_right (by simp; omega), List.length_map, List.length_take, Nat.min_eq_left (by omega), Nat.sub_self, List.getElem?_map, List.getElem?_drop, Nat.add_zero, List.getElem?_eq_getElem hk]
  rfl
theorem mix_set (f g : Int → Int) {L : List Int} {k : Nat} (hk : k < L.length) : ((L.take k).map f ++ (L.drop k).map g).set k (f L[k]) = (L.take (k + 1)).map f ++ (L.drop (k + 1)).map g := by
  rw [List.set_append_right _ _ (by simp; omega), List.length_map, List.length_take, Nat.min_eq_left (by omega), Nat.sub_self, List.drop_eq_getElem_cons hk, List.map_cons, List.set_cons_zero, List.take_succ_eq_append_getElem hk, List.map_append, List.append_assoc]
  rfl
theorem mix_len (f g : Int → Int) (L : List Int) (k : Nat) : ((L.take k).map f ++ (L.drop k).map g).length = L.length := by
  simp; omega
set_option maxRecDepth 100000 in
set_option maxHeartbeats 4000000 in
theorem rbyCourtU (L : List Int) (E : Int) (ao : Option Addr) (n cap : Nat) (w : World) (hI : Ints w ao L) (hln : n = L.length) (hn : n ≤ 100000) :
    Calls Try.prog 32 #[.slice ao n cap, .int .i64 E] w fun e w' => ∃ ao2 cap2, e = .returned (.tuple #[.slice ao2 (Cl.orR L E (Cl.coL L E)).length cap2, .int .i64 (Cl.caseC L E)]) ∧ Pts w' ao2 ((Cl.orR L E (Cl.coL L E)).map pr) ∧ Below w.heap.size w w' := by
  by_cases hc : Cl.caseC L E = 0
  · obtain ⟨a1, a2, a3⟩ := Cl.caseC_ok.1 hc
    have hl : n = (Cl.coL L E).length := by unfold Cl.coL; split <;> simp [Cl.coLo, Cl.coHi, hln]
    have HALL := Lib.hid (And.intro a1 (And.intro a2 a3))
    have HC := Lib.hid (Cl.okC_iff.1 a1)
    have Hn := Lib.hid hln
    have Hl := Lib.hid hl
    have Hc := Lib.hid hc
    have hn8 : n ≤ 8 := by have := HC.out; omega
    have hS8 : 0 ≤ Fl.sumI L ∧ Fl.sumI L ≤ 8000 := by
      have h := Cl.sum_small (B := 1000) (by omega) (l := L) (fun x hx => by have := HC.out.2.2 x hx; omega)
      have h2 := Cl.sum_nonneg (l := L) (fun x hx => by have := HC.out.2.2 x hx; omega)
      have := HC.out; omega
    have hE : 0 ≤ E ∧ E ≤ 8000 := by omega
    have hB := Below.refl w.heap.size w
    have HI0 := Lib.hid hI
    rw [Cl.orR_ok hc, hc]
    clear hln hl a1 a2 a3
    go_enter Try.func32, Try.ntmps32
    go_wp2_with fail
    refine (rvalidate_any L E ao n cap w hI Hn.out hn).mono ?_
    rintro e w1 ⟨rfl, hw0⟩; obtain rfl := hw0.symm
    rw [Hc.out]
    clear hw0 hc
    go_wp2_with fail
    refine (rSum_any L ao n cap w hI Hn.out (by omega) (fun x hx => by have := HC.out.2.2 x hx; omega)).mono ?_
    rintro e w1 ⟨rfl, hw0⟩; obtain rfl := hw0.symm
    clear hw0
    obtain ⟨S, hS⟩ : ∃ S, S = Fl.sumI L := ⟨_, rfl⟩
    rw [← hS] at hS8 ⊢
    have HS := Lib.hid hS
    clear hS
    have e1 : IntKind.i64.wrap (2 * E) = 2 * E := IntWalk.i64_in _ (by omega)
    by_cases h2 : 2 * E ≤ S
    · go_wp2_with fail
      refine (rlevel_any L (2 * E) ao n cap w hI Hn.out HALL.out.1 (by have := HALL.out; omega) (by rw [← HS.out]; exact h2)).mono ?_
      rintro e w2 ⟨a, d, hL, rfl, hb2⟩
      rw [Cl.lvl_eq hL]
      clear hL
      have hq := Cl.lvl_ok HALL.out.1 (E := 2 * E) (by have := HALL.out; omega) (by rw [← HS.out]; exact h2)
      obtain ⟨q, hqd⟩ : ∃ q, q = Cl.lvl L (2 * E) := ⟨_, rfl⟩
      have hspec : Hid (Cl.coL L E = (L.map fun c : Int => min (c * (q.den : Int)) q.num).map fun x => mkRat x (2 * q.den)) := Lib.hid (by unfold Cl.coL; rw [← HS.out, if_pos h2]; unfold Cl.coLo; rw [hqd, List.map_map]; rfl)
      rw [← hqd] at hq ⊢
      clear hqd
      have hqb : q.den ≤ 8 ∧ 0 ≤ q.num ∧ q.num ≤ 8000 := ⟨hq.2.2.1, hq.1, hq.2.1⟩
      have hd1 : 1 ≤ q.den := q.den_pos
      clear hq
      have e9 : IntKind.i64.wrap (2 * (q.den : Int)) = ((2 * q.den : Nat) : Int) := by rw [IntWalk.i64_in _ (by omega)]; omega
      replace hI := hI.below hb2
      replace hB := hB.trans (hb2.mono hB.size)
      clear hb2
      rw [show Fr q = .agg #[.int .i64 q.num, .int .i64 q.den] from rfl]
      have r1 := heap_alloc_new w2 (.cells #[.int .i64 q.num, .int .i64 q.den] 35)
      have hba : Below w2.heap.size w2 (w2.alloc (.cells #[.int .i64 q.num, .int .i64 q.den] 35)) := (Below.refl _ w2).alloc (Nat.le_refl _) _
      replace hI := hI.below hba
      replace hB := hB.trans (hba.mono hB.size)
      clear hba
      go_upto_region 7 with fail
      generalize (w2.alloc (.cells #[.int .i64 q.num, .int .i64 q.den] 35)) = W at r1 hI hB ⊢
      generalize w2.heap.size = G at r1 ⊢
      obtain ⟨⟨c0, c1⟩, -, -⟩ := row_fr r1
      have hXl : Hid (n = (L.map fun c : Int => min (c * (q.den : Int)) q.num).length) := Lib.hid (by simp [Hn.out])
      have hXb : Hid (∀ x ∈ L.map fun c : Int => min (c * (q.den : Int)) q.num, 0 ≤ x ∧ x ≤ 1000000) := Lib.hid (by
        intro x hx
        obtain ⟨c, hc, rfl⟩ := List.mem_map.1 hx
        have hcb := HC.out.2.2 c hc
        have p1 : 0 ≤ c * (q.den : Int) := Int.mul_nonneg hcb.1 (by omega)
        have p2 : c * (q.den : Int) ≤ 1000 * 8 := Int.mul_le_mul hcb.2 (by omega) (by omega) (by omega)
        omega)
      go_region_held3 (fun w' => w'.cell? ⟨G, 0, none⟩ = some (.int .i64 q.num) ∧ w'.cell? ⟨G, 1, none⟩ = some (.int .i64 q.den))
        (first | exact ⟨c0, c1⟩ | exact ka)
        (first
          | (go_at_call 63; refine (up_any L q ao n cap W.drew (hI.below (below_drewN (Below.refl _ W) 1)) Hn.out (by omega) HC.out.2.2 hqb).mono ?_; rintro e w6 ⟨v, rfl, hov, hb6⟩; obtain ⟨ao6, cap6, rfl, -, hI6⟩ := own_ints hov hXl.out; clear hov; have ka := And.intro (keep_cell (g := G) (o := 0) hb6 c0) (keep_cell (g := G) (o := 1) hb6 c1); have hB6 := (below_drewN hB 1).trans (hb6.mono hB.size))
          | (go_at_call 62; refine (fractions_any _ (2 * q.den) _ n _ _ hI6 hXl.out (by omega) hXb.out (by omega)).mono ?_; rintro e w7 ⟨v2, rfl, hov2, hb7⟩; have ka := And.intro (keep_cell (g := G) (o := 0) hb7 ka.1) (keep_cell (g := G) (o := 1) hb7 ka.2); have hB7 := hB6.trans (hb7.mono hB6.size)))
      all_goals
        have hov3 := Lib.hid hov2
        clear hov2
        go_wp2_with fail
        rw [← hspec.out] at hov3
        obtain ⟨ao8, cap8, rfl, -, hP⟩ := own_pts2 hov3.out (by rw [List.length_map]; exact Hl.out)
        go_ret2
        exact ⟨ao8, cap8, by rw [← Hl.out]; rfl, hP, hB7⟩
    · have e3 : IntKind.i64.wrap (2 * S) = 2 * S := IntWalk.i64_in _ (by omega)
      have e4 : IntKind.i64.wrap (2 * S - 2 * E) = 2 * S - 2 * E := IntWalk.i64_in _ (by omega)
      have hES : E ≤ S := by have := HALL.out.2.2; have := HS.out; omega
      go_wp2_with fail
      refine (rlevel_any L (2 * S - 2 * E) ao n cap w hI Hn.out HALL.out.1 (by omega) (by rw [← HS.out]; omega)).mono ?_
      rintro e w2 ⟨a, d, hL, rfl, hb2⟩
      rw [Cl.lvl_eq hL]
      clear hL
      have hq := Cl.lvl_ok HALL.out.1 (E := 2 * S - 2 * E) (by omega) (by rw [← HS.out]; omega)
      obtain ⟨q, hqd⟩ : ∃ q, q = Cl.lvl L (2 * S - 2 * E) := ⟨_, rfl⟩
      have hspec : Hid (Cl.coL L E = (L.map fun c : Int => c * (q.den : Int) + max 0 (c * (q.den : Int) - q.num)).map fun x => mkRat x (2 * q.den)) := Lib.hid (by
        unfold Cl.coL; rw [← HS.out, if_neg (show ¬ 2 * E ≤ S by omega)]; unfold Cl.coHi; rw [← HS.out, ← hqd, List.map_map]; rfl)
      rw [← hqd] at hq ⊢
      clear hqd
      have hqb : q.den ≤ 8 ∧ 0 ≤ q.num ∧ q.num ≤ 8000 := ⟨hq.2.2.1, hq.1, hq.2.1⟩
      have hd1 : 1 ≤ q.den := q.den_pos
      clear hq
      have e9 : IntKind.i64.wrap (2 * (q.den : Int)) = ((2 * q.den : Nat) : Int) := by rw [IntWalk.i64_in _ (by omega)]; omega
      replace hI := hI.below hb2
      replace hB := hB.trans (hb2.mono hB.size)
      clear hb2
      rw [show Fr q = .agg #[.int .i64 q.num, .int .i64 q.den] from rfl]
      have r1 := heap_alloc_new w2 (.cells #[.int .i64 q.num, .int .i64 q.den] 35)
      have hba : Below w2.heap.size w2 (w2.alloc (.cells #[.int .i64 q.num, .int .i64 q.den] 35)) := (Below.refl _ w2).alloc (Nat.le_refl _) _
      replace hI := hI.below hba
      replace hB := hB.trans (hba.mono hB.size)
      clear hba
      go_upto_region 9 with fail
      generalize (w2.alloc (.cells #[.int .i64 q.num, .int .i64 q.den] 35)) = W at r1 hI hB ⊢
      generalize w2.heap.size = G at r1 ⊢
      obtain ⟨⟨c0, c1⟩, -, -⟩ := row_fr r1
      go_wp2_with fail
      refine (rest_any L q ao n cap W hI Hn.out (by omega) HC.out.2.2 hqb).mono ?_
      rintro e w6 ⟨v, rfl, hov, hb6⟩
      replace hI := Lib.hid (hI.below hb6)
      have hlG := heap_lt r1
      replace r1 := heap_keep hb6 r1
      have hsW := hB.size
      replace hB := hB.trans (hb6.mono hB.size)
      clear hb6 c0 c1
      obtain ⟨gv, cv, rfl, hgv, hgl, hncv, -⟩ := own_cells hov (by have := HC.out; have := Hn.out; omega)
      have hgG : gv ≠ G := by omega
      have hGg : G ≠ gv := by omega
      have hwg : w.heap.size ≤ gv := by omega
      obtain ⟨f, hf⟩ : ∃ f : Int → Int, f = fun c : Int => c * (q.den : Int) + max 0 (c * (q.den : Int) - q.num) := ⟨_, rfl⟩
      obtain ⟨g, hg⟩ : ∃ g : Int → Int, g = fun c : Int => max 0 (c * (q.den : Int) - q.num) := ⟨_, rfl⟩
      rw [← hg] at hov
      rw [← hf] at hspec
      have Hfg := Lib.hid (And.intro hf hg)
      clear hf hg
      replace hov := Lib.hid (own_mono hov hsW)
      have hgl2 : G < w6.heap.size := heap_lt r1
      clear hncv
      go_wp2_with fail
      go_loopw [11] (fun i wr => ∃ k : Nat, k ≤ n ∧ i = .int .i64 k ∧ Hid (wr.ownsRow w.heap.size 3 1 (.slice (some ⟨gv, 0, none⟩) n cv) n (((L.take k).map f ++ (L.drop k).map g).map (Value.int .i64))) ∧ wr.heap[G]? = some (.cells #[.int .i64 q.num, .int .i64 q.den] 35 (0, 0)) ∧ Below w.heap.size w wr) (fun i _ => n - (intOf i).toNat)
      case atStart => exact ⟨0, Nat.zero_le _, rfl, Lib.hid (by simpa using hov.out), r1, hB⟩
      case round =>
        clear hov r1 hB hI hgl2 hgl
        obtain ⟨k, hk, rfl, hov, r1, hB⟩ := hrel
        by_cases hlt : k < n
        · have hkl : k < L.length := by have := Hn.out; omega
          obtain ⟨b, off, rfl, hbs, hcx⟩ := HI0.out.at hkl
          rw [← hB.cell (p := ⟨b, _, none⟩) hbs, Cl.gd hkl] at hcx
          have hxb := HC.out.2.2 _ (List.getElem_mem hkl)
          obtain ⟨g1, cc1, he1, -, hgl, hx1, hf1, hset1⟩ := own_at hov.out (mix_len f g L k ▸ Hn.out) hlt
          cases he1
          rw [mix_at f g hkl] at hx1
          have hst := mix_set f g hkl
          obtain ⟨⟨c0, c1⟩, -, -⟩ := row_fr r1
          have hfx : f L[k] = g L[k] + L[k] * (q.den : Int) := by rw [Hfg.out.1, Hfg.out.2]; simp only; omega
          have hgx : 0 ≤ L[k] * (q.den : Int) ∧ L[k] * (q.den : Int) ≤ 8000 ∧ 0 ≤ g L[k] ∧ g L[k] ≤ 8000 := by
            rw [Hfg.out.2]
            simp only
            have p1 : 0 ≤ L[k] * (q.den : Int) := Int.mul_nonneg hxb.1 (by omega)
            have p2 : L[k] * (q.den : Int) ≤ 1000 * 8 := Int.mul_le_mul hxb.2 (by omega) (by omega) (by omega)
            omega
          generalize f L[k] = F at hst hfx
          generalize g L[k] = Y at hx1 hfx hgx
          generalize L[k] = x at hcx hxb hfx hgx
          obtain ⟨P, hP⟩ : ∃ P, P = x * (q.den : Int) := ⟨_, rfl⟩
          rw [← hP] at hfx hgx
          have e5 : IntKind.i64.wrap (x * (q.den : Int)) = P := by rw [← hP]; exact IntWalk.i64_in _ (by omega)
          have e6 : IntKind.i64.wrap (Y + P) = F := by rw [hfx]; exact IntWalk.i64_in _ (by omega)
          have how1 := Lib.hid (hset1 F)
          rw [hst] at how1
          clear hP hfx hgx hset1 hst
          have hbg : b ≠ gv := by omega
          have hgb : gv ≠ b := by omega
          have i1 : (k : Int) < (n : Int) := by omega
          have r2 : (wr.setCell ⟨gv, k, none⟩ (.int .i64 F)).heap[G]? = some (.cells #[.int .i64 q.num, .int .i64 q.den] 35 (0, 0)) := (heap_setCell_other wr ⟨gv, k, none⟩ G _ hGg).trans r1
          have hB2 : Below w.heap.size w (wr.setCell ⟨gv, k, none⟩ (.int .i64 F)) := below_setCell hB hwg _
          go_upto_region 13 with fail
          go_region
          replace hB2 := below_drewN hB2 1
          replace how1 := Lib.hid (own_below how1.out (below_drewN (Below.refl _ (wr.setCell ⟨gv, k, none⟩ (.int .i64 F))) 1))
          replace r2 : (wr.setCell ⟨gv, k, none⟩ (.int .i64 F)).drew.heap[G]? = some (.cells #[.int .i64 q.num, .int .i64 q.den] 35 (0, 0)) := r2
          go_wp2_with fail
          go_roundw
          case rel => exact ⟨k + 1, by omega, by go_num, how1, r2, hB2⟩
          case measure => simp [intOf]; omega
        · have hkn : k = n := by omega
          have hX : Hid ((L.take k).map f ++ (L.drop k).map g = L.map f) := Lib.hid (by rw [hkn, Hn.out, List.take_length, List.drop_length]; simp)
          rw [hX.out] at hov
          clear hkn
          have hlm : Hid (n = (L.map f).length) := Lib.hid (by simp [Hn.out])
          obtain ⟨ao6, cap6, he6, -, hI6⟩ := own_ints hov.out hlm.out
          cases he6
          obtain ⟨⟨c0, c1⟩, -, -⟩ := row_fr r1
          have hXb : Hid (∀ x ∈ L.map f, 0 ≤ x ∧ x ≤ 1000000) := Lib.hid (by
            intro x hx
            obtain ⟨c, hc, rfl⟩ := List.mem_map.1 hx
            have hcb := HC.out.2.2 c hc
            have p1 : 0 ≤ c * (q.den : Int) := Int.mul_nonneg hcb.1 (by omega)
            have p2 : c * (q.den : Int) ≤ 1000 * 8 := Int.mul_le_mul hcb.2 (by omega) (by omega) (by omega)
            rw [Hfg.out.1]
            simp only
            omega)
          go_wp2_with fail
          refine (fractions_any _ (2 * q.den) _ n _ _ hI6 hlm.out (by omega) hXb.out (by omega)).mono ?_
          rintro e w7 ⟨v2, rfl, hov2, hb7⟩
          replace hB := hB.trans (hb7.mono hB.size)
          have hov3 := Lib.hid hov2
          clear hov2 hb7
          rw [← hspec.out] at hov3
          obtain ⟨ao8, cap8, rfl, -, hP⟩ := own_pts2 hov3.out (by rw [List.length_map]; exact Hl.out)
          go_wp2_with fail
          go_ret2
          exact ⟨ao8, cap8, by rw [← Hl.out]; rfl, hP, hB⟩
  · have hc1 : Cl.caseC L E = 1 := by unfold Cl.caseC at hc ⊢; split at hc <;> simp_all
    rw [Cl.orR_no hc, hc1]
    have Hn := Lib.hid hln
    have Hc := Lib.hid hc1
    have hB := Below.refl w.heap.size w
    clear hc hc1 hln
    go_enter Try.func32, Try.ntmps32
    go_wp2_with fail
    refine (rvalidate_any L E ao n cap w hI Hn.out hn).mono ?_
    rintro e w1 ⟨rfl, hw0⟩; obtain rfl := hw0.symm
    rw [Hc.out]
    go_wp2_with fail
    go_ret2
    exact ⟨none, 0, rfl, ⟨fun h => by cases h⟩, hB⟩
end Go.Proofs.Yteecfdjphjkdkaa
