import Derived.Test.YtemlfklipkpacaaMa
/- Package knife: which lists are pieces: places with a common Den. -/
namespace Go.Proofs.Ytemlfklipkpacaa
open Go.RowKit

set_option maxRecDepth 100000 in
set_option maxHeartbeats 4000000 in
theorem kmultiple_any (a b : Nat) (w : World) (ha : 1 ≤ a) (hb : 1 ≤ b) (h1 : a ≤ 1000000) (h2 : b ≤ 1000000) :
    Calls Try.prog 145 #[.int .i64 a, .int .i64 b] w fun e w' => e = .returned (.int .i64 (Nat.lcm a b : Nat)) ∧ Below w.heap.size w w' := by
  have hg : 0 < Nat.gcd a b := Nat.gcd_pos_of_pos_right _ hb
  have hL : a / Nat.gcd a b * b = Nat.lcm a b := by
    obtain ⟨c, hc⟩ := Nat.gcd_dvd_left a b
    have e1 : a / Nat.gcd a b = c := by
      rw [Nat.div_eq_iff_eq_mul_right hg ⟨c, hc⟩]; exact hc
    unfold Nat.lcm
    rw [e1]
    symm
    rw [Nat.div_eq_iff_eq_mul_right hg (Nat.dvd_trans ⟨c, hc⟩ (Nat.dvd_mul_right a b)), ← Nat.mul_assoc, ← hc]
  have hle : a / Nat.gcd a b ≤ a := Nat.div_le_self _ _
  obtain ⟨g, hg0⟩ : ∃ g, g = Nat.gcd a b := ⟨_, rfl⟩
  rw [← hg0] at hL hg hle
  have hm : a / g * b ≤ 1000000 * 1000000 := Nat.mul_le_mul (by omega) h2
  have HL := Lib.hid hL
  have Hg := Lib.hid hg0
  clear hL
  go_enter Try.func145, Try.ntmps145
  go_wp2_with fail
  refine (kdivisor_any a b _ (by omega) (by omega)).mono ?_
  rintro e w' ⟨rfl, hb'⟩
  rw [← Hg.out]
  clear hg0
  have hg1 : (1 : Int) ≤ (g : Int) := by omega
  have hq : ((g : Int) == 0) = false := by simp; omega
  have b1 := IntWalk.tdiv_le a g (by omega) hg1
  have b2 : 0 ≤ (a : Int) / (g : Int) * (b : Int) ∧ (a : Int) / (g : Int) * (b : Int) ≤ 1000000 * 1000000 := by
    have e : (a : Int) / (g : Int) * (b : Int) = ((a / g * b : Nat) : Int) := by rw [Int.natCast_mul]; rfl
    omega
  have q1 : IntKind.i64.wrap ((a : Int) / (g : Int)) = (a : Int) / (g : Int) := IntWalk.i64_in _ (by omega)
  have q2 : IntKind.i64.wrap ((a : Int) / (g : Int) * (b : Int)) = (a : Int) / (g : Int) * (b : Int) := IntWalk.i64_in _ (by omega)
  clear b1 b2
  go_wp2_with fail
  go_ret
  refine ⟨ret_int ?_, hb'⟩
  rw [← HL.out, Int.natCast_mul]
  rfl

/-- One place more: the common Den of all so far; nothing if one is no place, or if it is too great. -/
def Kn.plStep (E : Int) (s : Option Nat) (x : Int × Int) : Option Nat :=
  match s with
  | none => none
  | some d => if Fl.plc E x.1 x.2 1000000 = true ∧ Nat.lcm d x.2.toNat ≤ 1000000 then some (Nat.lcm d x.2.toNat) else none
def Kn.plP (E : Int) (s : Option Nat) (p : Pc) : Option Nat := [p.2.1, p.2.2].foldl (Kn.plStep E) s
/-- The pieces lie between places with a common Den. -/
def Kn.okPl (E : Int) (ps : List Pc) : Bool := (ps.foldl (Kn.plP E) (some 1)).isSome
theorem plStep_fold_none (E : Int) (l : List (Int × Int)) : l.foldl (Kn.plStep E) none = none := by
  induction l with
  | nil => rfl
  | cons z r ih => exact ih
theorem plP_fold_none (E : Int) (l : List Pc) : l.foldl (Kn.plP E) none = none := by
  induction l with
  | nil => rfl
  | cons z r ih =>
    show r.foldl (Kn.plP E) (Kn.plP E none z) = none
    rw [show Kn.plP E none z = none from plStep_fold_none E _]
    exact ih
theorem foldl_snoc {α β : Type} {l : List α} {k : Nat} (h : k < l.length) (f : β → α → β) (s : β) : (l.take (k + 1)).foldl f s = f ((l.take k).foldl f s) l[k] := by
  rw [take_snoc h, List.foldl_append]; rfl
theorem foldl_cut {α β : Type} (l : List α) (k : Nat) (f : β → α → β) (s : β) : l.foldl f s = (l.drop k).foldl f ((l.take k).foldl f s) := by
  rw [← List.foldl_append, List.take_append_drop]
theorem pl_none {E : Int} {ps : List Pc} {k : Nat} (h : (ps.take k).foldl (Kn.plP E) (some 1) = none) : Kn.okPl E ps = false := by
  unfold Kn.okPl
  rw [foldl_cut ps k, h, plP_fold_none]; rfl
/-- A place that is not one more: all fails. -/
theorem pl_bad {E : Int} {ps : List Pc} {k : Nat} (hk : k < ps.length) {D den : Nat} (h : (ps.take k).foldl (Kn.plP E) (some 1) = some D) {j : Nat} (hj : j < [(ps[k]).2.1, (ps[k]).2.2].length)
    (h2 : ([(ps[k]).2.1, (ps[k]).2.2].take j).foldl (Kn.plStep E) (some D) = some den) (h3 : Kn.plStep E (some den) ([(ps[k]).2.1, (ps[k]).2.2][j]) = none) : Kn.okPl E ps = false := by
  refine pl_none (k := k + 1) ?_
  rw [foldl_snoc hk, h]
  unfold Kn.plP
  rw [foldl_cut _ (j + 1), foldl_snoc hj, h2, h3, plStep_fold_none]
theorem pl_good {E : Int} {ps : List Pc} {k : Nat} (hk : k < ps.length) {D den : Nat} (h : (ps.take k).foldl (Kn.plP E) (some 1) = some D)
    (h2 : ([(ps[k]).2.1, (ps[k]).2.2].take 2).foldl (Kn.plStep E) (some D) = some den) : (ps.take (k + 1)).foldl (Kn.plP E) (some 1) = some den := by
  rw [foldl_snoc hk, h]
  exact h2
theorem getD_pair {l : List (Int × Int)} {k : Nat} (h : k < l.length) : l.getD k (0, 0) = l[k] := by
  rw [List.getD_eq_getElem?_getD, List.getElem?_eq_getElem h]; rfl

set_option maxRecDepth 100000 in
set_option maxHeartbeats 8000000 in
theorem khavePlaces_any (L : List Int) (V : List (List Int)) (ps : List Pc) (aoL : Option Addr) (nL cL : Nat) (aoV : Option Addr) (nV cV : Nat) (aop : Option Addr) (n cp : Nat) (w : World) (hf : Fld w aoL nL aoV nV L V) (hok : Kn.Ok L V) (hp : Pcs w aop ps) (hn : n = ps.length) (hn9 : n ≤ 100000) (hr : ∀ p ∈ ps, p.2.1.1 ≤ 9223372036854775807 ∧ p.2.2.1 ≤ 9223372036854775807) :
    Calls Try.prog 97 #[.agg #[.slice aoL nL cL, .slice aoV nV cV], .slice aop n cp] w fun e w' => e = .returned (.bool (Kn.okPl (Kn.stop L) ps)) ∧ Below w.heap.size w w' := by
  obtain ⟨R, hR⟩ : ∃ r, r = Kn.okPl (Kn.stop L) ps := ⟨_, rfl⟩
  rw [← hR]
  have HR := Lib.hid hR
  have Hn := Lib.hid hn
  have Hr := Lib.hid hr
  clear hR hn hr
  have hA := (Below.refl _ w).alloc (Nat.le_refl _) (.cells #[.slice aoL nL cL, .slice aoV nV cV] 57)
  have rf := heap_alloc_new w (.cells #[.slice aoL nL cL, .slice aoV nV cV] 57)
  go_enter Try.func97, Try.ntmps97
  go_upto_region 2 with fail
  generalize w.alloc (.cells #[.slice aoL nL cL, .slice aoV nV cV] 57) = W0 at hA rf ⊢
  obtain ⟨G, hG⟩ : ∃ g, g = w.heap.size := ⟨_, rfl⟩
  rw [← hG] at rf ⊢
  have HG := Lib.hid hG
  clear hG
  go_wp2_with fail
  go_loopw [5, 12] (fun sd i wr => ∃ k D : Nat, k ≤ n ∧ i = .int .i64 k ∧ sd = .int .i64 D ∧ 1 ≤ D ∧ D ≤ 1000000 ∧ Hid ((ps.take k).foldl (Kn.plP (Kn.stop L)) (some 1) = some D) ∧ wr.heap[G]? = some (.cells #[.slice aoL nL cL, .slice aoV nV cV] 57 (0, 0)) ∧ Below w.heap.size w wr) (fun _ i _ => n - (intOf i).toNat)
  case atStart => exact ⟨0, 1, Nat.zero_le _, rfl, rfl, by omega, by omega, Lib.hid rfl, rf, hA⟩
  case round =>
    clear rf hA
    obtain ⟨k, D, hk, rfl, rfl, hD1, hD2, HK, rf, hB⟩ := hrel
    by_cases hlt : k < n
    · have hkl : k < ps.length := by have := Hn.out; omega
      obtain ⟨b, off, rfl, hbs, z0, z1, z2, z3, z4⟩ := pcs_at (hp.below hB) hkl
      have hrk := Hr.out _ (List.getElem_mem hkl)
      have hbad := Lib.hid (fun (den j : Nat) hj h2 h3 => HR.out.trans (pl_bad hkl HK.out (j := j) (den := den) hj h2 h3))
      have hgood := Lib.hid (fun den h2 => pl_good hkl HK.out (den := den) h2)
      obtain ⟨⟨o, x1, x2⟩, hz⟩ : ∃ z, z = ps[k] := ⟨_, rfl⟩
      rw [← hz] at z0 z1 z2 z3 z4 hrk hbad hgood
      obtain ⟨n1, d1⟩ := x1
      obtain ⟨n2, d2⟩ := x2
      simp only at z0 z1 z2 z3 z4 hrk hbad hgood
      clear hz
      have i1 : (k : Int) < (n : Int) := by omega
      go_upto_region 5 with fail
      have r7 := heap_alloc_new wr (.cells #[.int .i64 o, .int .i64 n1, .int .i64 d1, .int .i64 n2, .int .i64 d2] 86)
      have hal := (Below.refl wr.heap.size wr).alloc (Nat.le_refl _) (.cells #[.int .i64 o, .int .i64 n1, .int .i64 d1, .int .i64 n2, .int .i64 d2] 86)
      replace rf := heap_keep hal rf
      replace hB := hB.trans (hal.mono hB.size)
      clear hal z0 z1 z2 z3 z4
      generalize wr.alloc (.cells #[.int .i64 o, .int .i64 n1, .int .i64 d1, .int .i64 n2, .int .i64 d2] 86) = W7 at rf r7 hB ⊢
      obtain ⟨G7, hg7⟩ : ∃ g, g = wr.heap.size := ⟨_, rfl⟩
      rw [← hg7] at r7 ⊢
      clear hg7
      have hc := fun j => cell_of_row W7 G7 j _ _ _ r7
      have p0 := hc 0
      have p1 := hc 1
      have p2 := hc 2
      have p3 := hc 3
      have p4 := hc 4
      simp at p0 p1 p2 p3 p4
      clear hc
      go_upto_region 6 with fail
      have r20 := heap_alloc_new W7 (.cells #[.int .i64 n1, .int .i64 d1, .int .i64 n2, .int .i64 d2] 29)
      have hal := (Below.refl W7.heap.size W7).alloc (Nat.le_refl _) (.cells #[.int .i64 n1, .int .i64 d1, .int .i64 n2, .int .i64 d2] 29)
      replace rf := heap_keep hal rf
      replace hB := hB.trans (hal.mono hB.size)
      clear hal p0 p1 p2 p3 p4 r7
      generalize W7.alloc (.cells #[.int .i64 n1, .int .i64 d1, .int .i64 n2, .int .i64 d2] 29) = W8 at rf r20 hB ⊢
      obtain ⟨G8, hg8⟩ : ∃ g, g = W7.heap.size := ⟨_, rfl⟩
      rw [← hg8] at r20 ⊢
      clear hg8
      have hT := pts_two r20
      obtain ⟨T, hTe⟩ : ∃ T, T = [(n1, d1), (n2, d2)] := ⟨_, rfl⟩
      rw [← hTe] at hT hgood hbad
      have hT2 : T.length = 2 := by rw [hTe]; rfl
      have hTr : Hid (∀ x ∈ T, x.1 ≤ 9223372036854775807) := Lib.hid (by
        rw [hTe]; intro x hx
        simp only [List.mem_cons, List.not_mem_nil, or_false] at hx
        rcases hx with rfl | rfl
        · exact hrk.1
        · exact hrk.2)
      clear r20 hTe hrk
      go_loopw [5, 22] (fun sd i wr => ∃ j den : Nat, j ≤ 2 ∧ i = .int .i64 j ∧ sd = .int .i64 den ∧ 1 ≤ den ∧ den ≤ 1000000 ∧ Hid ((T.take j).foldl (Kn.plStep (Kn.stop L)) (some D) = some den) ∧ wr.heap[G]? = some (.cells #[.slice aoL nL cL, .slice aoV nV cV] 57 (0, 0)) ∧ Below W8.heap.size W8 wr) (fun _ i _ => 2 - (intOf i).toNat)
      case atStart => exact ⟨0, D, Nat.zero_le _, rfl, rfl, hD1, hD2, Lib.hid rfl, rf, Below.refl _ _⟩
      case round =>
        clear rf
        obtain ⟨j, den, hj, rfl, rfl, hE1, hE2, HJ, rf, hb⟩ := hrel
        by_cases hlt2 : j < 2
        · have hjT : j < T.length := by omega
          obtain ⟨b2, off2, he, hbs2, hc⟩ := (hT.below hb).cells (by omega)
          cases he
          obtain ⟨z0, z1⟩ := hc j hjT
          rw [getD_pair hjT, Nat.zero_add] at z0 z1
          have hbad2 := Lib.hid (hbad.out den j hjT HJ.out)
          have hst := Lib.hid (foldl_snoc hjT (Kn.plStep (Kn.stop L)) (some D))
          have hxr := hTr.out _ (List.getElem_mem hjT)
          rw [HJ.out] at hst
          obtain ⟨⟨x, d⟩, hz⟩ : ∃ z, z = T[j] := ⟨_, rfl⟩
          rw [← hz] at z0 z1 hbad2 hst hxr
          simp only at z0 z1 hxr
          clear hz hc
          have i2 : (j : Int) < 2 := by omega
          have hB1 := hB.trans (hb.mono hB.size)
          go_upto_region 8 with fail
          have r9 := heap_alloc_new wr (.cells #[.int .i64 x, .int .i64 d] 29)
          have hal := (Below.refl wr.heap.size wr).alloc (Nat.le_refl _) (.cells #[.int .i64 x, .int .i64 d] 29)
          replace rf := heap_keep hal rf
          replace hb := hb.trans (hal.mono hb.size)
          replace hB1 := hB1.trans (hal.mono hB1.size)
          clear hal z0 z1
          generalize wr.alloc (.cells #[.int .i64 x, .int .i64 d] 29) = W9 at rf r9 hb hB1 ⊢
          obtain ⟨G9, hg9⟩ : ∃ g, g = wr.heap.size := ⟨_, rfl⟩
          rw [← hg9] at r9 ⊢
          clear hg9
          obtain ⟨⟨f0, f1⟩, -, -⟩ := row_fr rf
          obtain ⟨⟨y0, y1⟩, -, -⟩ := row_fr r9
          go_wp2_with fail
          refine ((kisPlace_any L V x d _ _ _ _ _ _ W9 (hf.below hB1) hok hxr)).mono ?_
          rintro e w1 ⟨rfl, hbb⟩
          replace rf := heap_keep hbb rf
          replace r9 := heap_keep hbb r9
          replace hb := hb.trans (hbb.mono hb.size)
          replace hB1 := hB1.trans (hbb.mono hB1.size)
          clear hbb
          clear f0 f1 y0 y1
          obtain ⟨⟨y0, y1⟩, -, -⟩ := row_fr r9
          cases hpl : Fl.plc (Kn.stop L) x d 1000000 with
          | false =>
            have hr := Lib.hid (hbad2.out (by unfold Kn.plStep; simp [hpl]))
            clear hst hbad2
            go_wp2_with fail
            go_ret
            exact ⟨ret_bool hr.out.symm, hB1⟩
          | true =>
            obtain ⟨q, -, e1, e2, p1, p2, p3⟩ := Fl.plc_rat hpl
            have hq0 := q.den_pos
            obtain ⟨m, hm⟩ := Int.eq_ofNat_of_zero_le (show 0 ≤ d by omega)
            subst hm
            have hm1 : 1 ≤ m := by omega
            have hm2 : m ≤ 1000000 := by omega
            clear e1 e2 p1 p2 p3 hq0
            go_wp2_with fail
            refine (kmultiple_any den m _ hE1 hm1 hE2 hm2).mono ?_
            rintro e v ⟨rfl, hbb⟩
            replace rf := heap_keep hbb rf
            replace r9 := heap_keep hbb r9
            replace hb := hb.trans (hbb.mono hb.size)
            replace hB1 := hB1.trans (hbb.mono hB1.size)
            clear hbb y0 y1
            by_cases hle : Nat.lcm den m ≤ 1000000
            · have hs : Hid ((T.take (j + 1)).foldl (Kn.plStep (Kn.stop L)) (some D) = some (Nat.lcm den m)) := Lib.hid (by
                rw [hst.out]; unfold Kn.plStep; simp [hpl, hle])
              have hl1 : 1 ≤ Nat.lcm den m := Nat.lcm_pos hE1 hm1
              generalize Nat.lcm den m = X at hle hs hl1 ⊢
              have hlei : (X : Int) ≤ 1000000 := by omega
              clear hst hbad2 hpl
              go_wp2_with fail
              go_roundw
              case rel => exact ⟨j + 1, X, by omega, by go_num, rfl, hl1, hle, hs, rf, hb⟩
              case measure => simp [intOf]; omega
            · have hr := Lib.hid (hbad2.out (by unfold Kn.plStep; simp [hle]))
              generalize Nat.lcm den m = X at hle ⊢
              have hlei : (1000000 : Int) < (X : Int) := by omega
              clear hst hbad2 hpl
              go_wp2_with fail
              go_ret
              exact ⟨ret_bool hr.out.symm, hB1⟩
        · have hj2 : j = 2 := by omega
          subst hj2
          have HK2 := Lib.hid (hgood.out den HJ.out)
          have hB2 := hB.trans (hb.mono hB.size)
          clear hbad hgood
          go_wp2_with fail
          go_roundw
          case rel => exact ⟨k + 1, den, by omega, by go_num, rfl, hE1, hE2, HK2, rf, hB2⟩
          case measure => simp [intOf]; omega
    · have hk2 : k = n := by omega
      have hf : Hid (R = true) := Lib.hid (by
        rw [HR.out]
        unfold Kn.okPl
        have := HK.out
        rw [hk2, Hn.out, List.take_length] at this
        rw [this]; rfl)
      clear hk2
      go_wp2_with fail
      go_ret
      exact ⟨ret_bool hf.out.symm, hB⟩
end Go.Proofs.Ytemlfklipkpacaa
