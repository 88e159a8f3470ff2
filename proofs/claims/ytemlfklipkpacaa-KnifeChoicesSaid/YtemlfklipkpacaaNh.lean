import Derived.Test.YtemlfklipkpacaaNg
import Derived.Test.YtemlfklipkpacaaNd
/- Package knife: IsFair; the law KnifeKnives. -/
namespace Go.Proofs.Ytemlfklipkpacaa
open Go.RowKit

theorem setP_far {L : List Int} {V : List (List Int)} {r : List Pc} {j : Nat} : (∀ q ∈ r, q.1.toNat ≠ j) → ∀ {s : List (Int × Int)}, (r.foldl (Kn.setP L V) s)[j]? = s[j]? := by
  induction r with
  | nil => intro _ s; rfl
  | cons p r ih =>
    intro h s
    show (r.foldl (Kn.setP L V) (Kn.setP L V s p))[j]? = _
    rw [ih (fun q hq => h q (by simp [hq]))]
    unfold Kn.setP
    rw [List.getElem?_set_ne (h p (by simp))]
theorem setP_at {L : List Int} {V : List (List Int)} {ps : List Pc} : (ps.map fun p => p.1.toNat).Nodup → ∀ {s : List (Int × Int)} {q : Pc}, q ∈ ps → q.1.toNat < s.length → (ps.foldl (Kn.setP L V) s)[q.1.toNat]? = some (pr (Kn.partQ L V q)) := by
  induction ps with
  | nil => intro _ s q h; cases h
  | cons p r ih =>
    intro hn s q hq hl
    rw [List.map_cons, List.nodup_cons] at hn
    show (r.foldl (Kn.setP L V) (Kn.setP L V s p))[q.1.toNat]? = _
    rcases List.mem_cons.1 hq with rfl | hq
    · rw [setP_far (fun z hz e => hn.1 (List.mem_map.2 ⟨z, hz, e⟩))]
      unfold Kn.setP
      rw [List.getElem?_set_self hl]
    · exact ih hn.2 hq (by unfold Kn.setP; rw [List.length_set]; exact hl)
theorem parts_all {L : List Int} {V : List (List Int)} {ps : List Pc} (hn : (ps.map fun p => p.1.toNat).Nodup) (hs : ∀ j, j < ps.length → ∃ q ∈ ps, q.1.toNat = j) : ∀ p ∈ Kn.partsL L V ps, ∃ q ∈ ps, p = pr (Kn.partQ L V q) := by
  intro p hp
  obtain ⟨j, hj, rfl⟩ := List.getElem_of_mem hp
  rw [partsL_len] at hj
  obtain ⟨q, hq, hqj⟩ := hs j hj
  refine ⟨q, hq, ?_⟩
  have h := setP_at (L := L) (V := V) hn (s := List.replicate ps.length (0, 0)) hq (by rw [List.length_replicate, hqj]; exact hj)
  rw [hqj] at h
  exact Option.some.inj ((List.getElem?_eq_getElem _).symm.trans h)

theorem le_of_mulR {x y m : Rat} (hm : 0 < m) (h : x * m ≤ y * m) : x ≤ y := Rat.le_of_mul_le_mul_right h hm
theorem fair_core {m n T Q W : Rat} (h1 : m * n = 1) (hd : Q * T = W) (f : T ≤ n * W) (hn : 0 < n) (hT : 0 < T) : m ≤ Q := by
  refine le_of_mulR (Rat.mul_pos hn hT) ?_
  have e1 : m * (n * T) = T := by rw [← Rat.mul_assoc, h1, Rat.one_mul]
  have e2 : Q * (n * T) = n * W := by rw [← hd]; grind
  rw [e1, e2]; exact f
theorem fair_bounds {T Q W : Rat} (hd : Q * T = W) (h0 : 0 ≤ W) (h1 : W ≤ T) (hT : 0 < T) : 0 ≤ Q ∧ Q ≤ 1 :=
  ⟨le_of_mulR hT (by rw [hd]; grind), le_of_mulR hT (by rw [hd]; grind)⟩
/-- A part that can be compared. -/
def FairQ (n : Nat) (p : Int × Int) : Prop := ∃ q : Rat, p = pr q ∧ mkRat 1 n ≤ q ∧ 0 ≤ q ∧ q ≤ 1 ∧ q.den ≤ 4000000000
/-- What is known of the pieces of the knife. -/
theorem knife_facts {L : List Int} {V : List (List Int)} (hok : Kn.Ok L V) :
    Kn.pcode L V ((Kn.divide L V).map pc) = 0 ∧ (Kn.divide L V).length = V.length ∧ (∀ p ∈ (Kn.divide L V).map pc, p.2.1.1 ≤ 9223372036854775807 ∧ p.2.2.1 ≤ 9223372036854775807) ∧ ∀ p ∈ Kn.prL L V ((Kn.divide L V).map pc), FairQ V.length p := by
  have v1 := hok.v1
  have v5 := hok.v5
  have hst := hok.stopB
  have hS := Kn.St.start hok
  obtain ⟨M, M1, M2, -, hch⟩ := Kn.divF_chain hok hS (M := 1) (Nat.le_refl _) (Frac.int _ 0) (by rw [show V.length - (V.length - 1 + 1) = 0 by omega]; exact Nat.le_refl _)
  obtain ⟨o1, o2, o3⟩ := Kn.divF_own hok hS
  have hfa := Kn.divF_fair hok hS (fun o ho => by
    have hov := hS.mem o ho
    rw [Fl.cum_zero (hok.zOk hov)]
    have e : (V.length : Rat) - (((V.length - 1 : Nat) : Rat) + 1) = 0 := by
      have h1 : ((V.length - 1 + 1 : Nat) : Rat) = ((V.length - 1 : Nat) : Rat) + 1 := by rw [Rat.natCast_add]; rfl
      rw [← h1, show V.length - 1 + 1 = V.length by omega]
      grind
    rw [e]
    grind)
  have hD : Kn.divF L V (V.length - 1) (List.range V.length) 0 = Kn.divide L V := rfl
  rw [hD] at hch o1 o2 o3 hfa
  have hb := Kn.pow_bound (n := V.length) (f := 0) (by omega) v5
  rw [Nat.zero_add] at hb
  have hDM : V.length * M ≤ 800000 := Nat.le_trans (Nat.mul_le_mul_left _ M2) hb
  have hDM1 : 1 ≤ V.length * M := Nat.mul_pos (by omega) M1
  have hlen : (Kn.divide L V).length = V.length := by omega
  have hmapn : (((Kn.divide L V).map pc).map fun p => p.1.toNat) = (Kn.divide L V).map Prod.fst := by
    rw [List.map_map]
    apply List.map_congr_left
    intro p _
    show ((p.1 : Nat) : Int).toNat = p.1
    exact Int.toNat_natCast _
  have hown : Kn.okOwn V ((Kn.divide L V).map pc) = true := by
    unfold Kn.okOwn
    rw [Bool.and_eq_true, Bool.and_eq_true, List.all_eq_true]
    refine ⟨fun p hp => ?_, decide_eq_true ?_, decide_eq_true (by rw [List.length_map]; exact hlen)⟩
    · obtain ⟨z, hz, rfl⟩ := List.mem_map.1 hp
      have := (hfa z hz).1
      unfold Kn.isO
      show (decide ((0 : Int) ≤ ((z.1 : Nat) : Int)) && decide (((z.1 : Nat) : Int) < (V.length : Int))) = true
      rw [decide_eq_true (by omega), decide_eq_true (by omega)]
      rfl
    · have e : ((Kn.divide L V).map pc).map Prod.fst = ((Kn.divide L V).map Prod.fst).map fun o : Nat => (o : Int) := by
        rw [List.map_map, List.map_map]; rfl
      rw [e]
      refine List.Pairwise.map _ (fun x y h => ?_) o2
      intro h2
      exact h (by omega)
  have hpc := pcode_mk hok hown hDM1 (by omega) hch
  refine ⟨hpc, hlen, fun p hp => ?_, fun p hp => ?_⟩
  · obtain ⟨z, hz, rfl⟩ := List.mem_map.1 hp
    obtain ⟨D, hDD⟩ := pcode_ok hpc
    obtain ⟨k, hk, hke⟩ := List.getElem_of_mem hp
    obtain ⟨e1, e2, a0, ab, b1, da, db⟩ := hDD.at_ k hk
    have hd1 := hDD.d1
    have hd2 := hDD.d2
    have d1 := Nat.le_of_dvd (by omega) da
    have d2 := Nat.le_of_dvd (by omega) db
    rw [← hke, e1, e2]
    generalize Kn.begins ((Kn.divide L V).map pc) k = a at *
    generalize Kn.begins ((Kn.divide L V).map pc) (k + 1) = b at *
    have hE : (Kn.stop L : Rat) ≤ ((120 : Int) : Rat) := Rat.intCast_le_intCast.2 hst.2
    have hE2 : ((120 : Int) : Rat) = ((120 : Nat) : Rat) := rfl
    have n1 := Fl.num_le (show a ≤ ((120 : Nat) : Rat) by grind)
    have n2 := Fl.num_le (show b ≤ ((120 : Nat) : Rat) by grind)
    exact ⟨by show a.num ≤ _; omega, by show b.num ≤ _; omega⟩
  · unfold Kn.prL at hp
    rw [if_pos hpc] at hp
    obtain ⟨q, hq, rfl⟩ := parts_all (by rw [hmapn]; exact o2) (fun j hj => by
      rw [List.length_map, hlen] at hj
      obtain ⟨z, hz, hzj⟩ := List.mem_map.1 ((o3 j).2 (List.mem_range.2 hj))
      exact ⟨pc z, List.mem_map.2 ⟨z, hz, rfl⟩, by show ((z.1 : Nat) : Int).toNat = j; rw [Int.toNat_natCast]; exact hzj⟩) p hp
    obtain ⟨z, hz, rfl⟩ := List.mem_map.1 hq
    obtain ⟨f1, f2, f3, f4, f5⟩ := hfa z hz
    obtain ⟨D, hDD⟩ := pcode_ok hpc
    obtain ⟨k, hk, hke⟩ := List.getElem_of_mem hq
    obtain ⟨j, a, b, he, hj, hKP, hNN, hPQ⟩ := part_facts hDD hk
    rw [hke] at he hPQ
    rw [hPQ]
    have ej : z.1 = j := by
      have : ((z.1 : Nat) : Int) = (j : Int) := congrArg Prod.fst he
      omega
    have ea : z.2.1 = a := by
      have : pr z.2.1 = pr a := congrArg (fun x => x.2.1) he
      have h2 := pr_rat z.2.1
      rw [this, pr_rat] at h2
      exact h2.symm
    have eb : z.2.2 = b := by
      have : pr z.2.2 = pr b := congrArg (fun x => x.2.2) he
      have h2 := pr_rat z.2.2
      rw [this, pr_rat] at h2
      exact h2.symm
    rw [ej, ea, eb] at f5
    rw [ea] at f2
    rw [ea, eb] at f3
    rw [eb] at f4
    have hzo := hok.zOk hj
    have hT := hok.zTot hj
    have hT0 : (0 : Rat) < (Fl.tot (Kn.Z L V j) : Rat) := by exact_mod_cast hT.1
    have hw := worth_cum hzo f2 f3
    have c1 := (Fl.cum_bound hzo f2).1
    have c2 := (Fl.cum_bound hzo (Rat.le_trans f2 f3)).2
    have hw0 : 0 ≤ Fl.worth (Kn.Z L V j) a b := Rat.num_nonneg.1 hNN.1
    have hden : (Fl.worth (Kn.Z L V j) a b).den ≤ 1000000 := by
      have hd1 := hDD.d1
      have hd2 := hDD.d2
      obtain ⟨e1, e2, -, -, -, da, db⟩ := hDD.at_ k hk
      rw [hke] at e1 e2
      have ha : a.den ∣ D := by
        have : pr z.2.1 = pr (Kn.begins ((Kn.divide L V).map pc) k) := e1
        have h2 := congrArg (fun x => x.2) this
        rw [ea] at h2
        have h3 : (a.den : Int) = ((Kn.begins ((Kn.divide L V).map pc) k).den : Int) := h2
        rw [show a.den = (Kn.begins ((Kn.divide L V).map pc) k).den by omega]; exact da
      have hbd : b.den ∣ D := by
        have : pr z.2.2 = pr (Kn.begins ((Kn.divide L V).map pc) (k + 1)) := e2
        have h2 := congrArg (fun x => x.2) this
        rw [eb] at h2
        have h3 : (b.den : Int) = ((Kn.begins ((Kn.divide L V).map pc) (k + 1)).den : Int) := h2
        rw [show b.den = (Kn.begins ((Kn.divide L V).map pc) (k + 1)).den by omega]; exact db
      have hwf := (worth_facts hzo (by rw [hok.zLen hj]; exact hok.l6) f2 f3 ha hbd).2.2
      exact Nat.le_trans (Nat.le_of_dvd (by omega) hwf) hd2
    generalize Fl.worth (Kn.Z L V j) a b = W at *
    obtain ⟨T, hTe⟩ : ∃ t : Nat, (t : Int) = Fl.tot (Kn.Z L V j) := ⟨(Fl.tot (Kn.Z L V j)).toNat, by omega⟩
    rw [← hTe] at hT hT0 f5 c2 ⊢
    have hTT : ((T : Int) : Rat) = (T : Rat) := rfl
    rw [hTT] at hT0 f5 c2 ⊢
    have hdm : W / (T : Rat) * (T : Rat) = W := Rat.div_mul_cancel (by grind)
    have hnp : (0 : Rat) < (V.length : Rat) := by
      have : ((0 : Int) : Rat) < ((V.length : Int) : Rat) := Rat.intCast_lt_intCast.2 (by omega)
      exact this
    have hqd : (W / (T : Rat)).den ≤ W.den * T := by
      have := ((Frac.of_den (Nat.dvd_refl W.den)).divI (v := T) (by omega)).den
      exact Nat.le_of_dvd (Nat.mul_pos W.den_pos (by omega)) this
    have hqd2 : W.den * T ≤ 1000000 * 2400 := Nat.mul_le_mul hden (by omega)
    have h1n : mkRat 1 V.length * (V.length : Rat) = 1 := by
      rw [Rat.mkRat_eq_div]
      exact Rat.div_mul_cancel (by grind)
    have hb2 := fair_bounds hdm hw0 (by rw [hw]; grind) hT0
    exact ⟨_, rfl, fair_core h1n hdm f5 hnp hT0, hb2.1, hb2.2, by omega⟩

theorem least_q {n : Nat} (h1 : 1 ≤ n) (h5 : n ≤ 5) : (mkRat 1 n).num = 1 ∧ ((mkRat 1 n).den : Int) = (n : Int) := by
  have h : Fl.amt 1 (n : Int) 1000000 = true := Fl.amt_iff.2 ⟨by omega, by omega, by omega, by simp⟩
  obtain ⟨e1, e2, -⟩ := Fl.amt_rat h
  rw [Int.toNat_natCast] at e1 e2
  exact ⟨e1, e2⟩
theorem cmp_fair {q l : Rat} (h : l ≤ q) : decide (Fl.cmpR q l < 0) = false := by
  rw [decide_eq_false_iff_not]
  unfold Fl.cmpR
  rw [if_neg (by grind)]
  split <;> omega

set_option maxRecDepth 100000 in
set_option maxHeartbeats 8000000 in
theorem kIsFair_yes (L : List Int) (V : List (List Int)) (ps : List Pc) (aoL : Option Addr) (nL cL : Nat) (aoV : Option Addr) (nV cV : Nat) (aop : Option Addr) (n cp : Nat) (w : World) (hf : Fld w aoL nL aoV nV L V) (hl : nL ≤ 100) (hv : nV ≤ 100) (hr : ∀ r ∈ V, r.length ≤ 100) (hp : Pcs w aop ps) (hn : n = ps.length) (hn1 : 1 ≤ n) (hn5 : n ≤ 5) (hpr : ∀ p ∈ ps, p.2.1.1 ≤ 9223372036854775807 ∧ p.2.2.1 ≤ 9223372036854775807) (hz : Kn.pcode L V ps = 0) (hfa : ∀ p ∈ Kn.prL L V ps, FairQ n p) :
    Calls Try.prog 46 #[.agg #[.slice aoL nL cL, .slice aoV nV cV], .slice aop n cp] w fun e w' => e = .returned (.tuple #[.bool true, .int .i64 0]) ∧ Below w.heap.size w w' := by
  have hPl : (Kn.prL L V ps).length = n := by unfold Kn.prL; rw [if_pos hz, partsL_len, hn]
  have Hn := Lib.hid hn
  clear hn
  have hA := (Below.refl _ w).alloc (Nat.le_refl _) (.cells #[.slice aoL nL cL, .slice aoV nV cV] 57)
  have rf := heap_alloc_new w (.cells #[.slice aoL nL cL, .slice aoV nV cV] 57)
  go_enter Try.func46, Try.ntmps46
  go_upto_region 1 with fail
  generalize w.alloc (.cells #[.slice aoL nL cL, .slice aoV nV cV] 57) = W0 at hA rf ⊢
  replace hf := hf.below hA
  replace hp := hp.below hA
  obtain ⟨⟨x0, x1⟩, -, -⟩ := row_fr rf
  have hKP := kParts_any L V ps aoL nL cL aoV nV cV aop n cp W0 hf hl hv hr hp Hn.out (by omega) hpr
  rw [hz] at hKP
  generalize Kn.prL L V ps = R at hKP hfa hPl
  have Hfa := Lib.hid hfa
  have HPl := Lib.hid hPl
  rw [hPl] at hKP
  clear hz hfa hPl
  go_wp2_with fail
  refine hKP.mono ?_
  rintro e w1 ⟨v3, rfl, o3, hb1⟩
  obtain ⟨a3, c3, rfl, -, P3⟩ := own_pts2 o3 HPl.out.symm
  replace hA := hA.trans (hb1.mono hA.size)
  clear hb1 o3 hKP x0 x1 rf hp hf
  go_upto_region 5 with fail
  have r8 := heap_alloc_new w1 (.cells #[.int .i64 1, .int .i64 n] 29)
  have hal := (Below.refl w1.heap.size w1).alloc (Nat.le_refl _) (.cells #[.int .i64 1, .int .i64 n] 29)
  generalize w1.alloc (.cells #[.int .i64 1, .int .i64 n] 29) = W2 at r8 hal ⊢
  replace P3 := P3.below hal
  replace hA := hA.trans (hal.mono hA.size)
  obtain ⟨l1, l2⟩ := least_q hn1 hn5
  rw [← l1, ← l2] at r8
  obtain ⟨G8, hG8⟩ : ∃ g, g = w1.heap.size := ⟨_, rfl⟩
  rw [← hG8] at r8 ⊢
  clear hG8 hal
  have hlq : (mkRat 1 n).num = 1 ∧ (mkRat 1 n).den ≤ 5 := ⟨l1, by omega⟩
  clear l1 l2
  have HLq := Lib.hid hlq
  clear hlq
  obtain ⟨q0, hq0⟩ : ∃ q, q = mkRat 1 n := ⟨_, rfl⟩
  have Hq0 := Lib.hid hq0
  rw [← hq0] at r8
  clear hq0
  go_wp2_with fail
  go_loopw [25] (fun i wr => ∃ k : Nat, k ≤ n ∧ i = .int .i64 k ∧ Below W2.heap.size W2 wr) (fun i _ => n - (intOf i).toNat)
  case atStart => exact ⟨0, Nat.zero_le _, rfl, Below.refl _ _⟩
  case round =>
    obtain ⟨k, hk, rfl, hb⟩ := hrel
    by_cases hlt : k < n
    · have hkl : k < R.length := by rw [HPl.out]; exact hlt
      have P4 := P3.below hb
      obtain ⟨b, off, rfl, hbs, hc⟩ := P4.cells (by omega)
      obtain ⟨z1, z2⟩ := hc k hkl
      have hmem : R.getD k (0, 0) ∈ R := by
        rw [List.getD_eq_getElem?_getD, List.getElem?_eq_getElem hkl]
        exact List.getElem_mem hkl
      obtain ⟨q, he, f1, f2, f3, f4⟩ := Hfa.out _ hmem
      rw [he] at z1 z2
      simp only [pr] at z1 z2
      rw [← Hq0.out] at f1
      have hcmp := cmp_fair f1
      have hn1' := Fl.num_le (show q ≤ ((1 : Nat) : Rat) from f3)
      have hok : CmpOk q q0 := by
        have e1 := HLq.out.1
        have e2 := HLq.out.2
        rw [← Hq0.out] at e1 e2
        have m1 : q.num * (q0.den : Int) ≤ 4000000000 * 5 := Int.mul_le_mul (by omega) (by omega) (by omega) (by omega)
        exact ⟨Rat.num_nonneg.2 f2, by omega, by omega, by rw [e1, Int.one_mul]; omega⟩
      have hkc := fun w' => kcompareR_any q q0 w' hok
      obtain ⟨c, hce⟩ : ∃ c, c = Fl.cmpR q q0 := ⟨_, rfl⟩
      rw [← hce] at hcmp hkc
      have HKc := Lib.hid hkc
      clear hce hkc hok hn1' f1 f2 f3 f4 he hmem hc P4
      have i1 : (k : Int) < (n : Int) := by omega
      go_upto_region 8 with fail
      have r10 := heap_alloc_new wr (.cells #[.int .i64 q.num, .int .i64 q.den] 29)
      have hal := (Below.refl wr.heap.size wr).alloc (Nat.le_refl _) (.cells #[.int .i64 q.num, .int .i64 q.den] 29)
      replace hb := hb.trans (hal.mono hb.size)
      generalize wr.alloc (.cells #[.int .i64 q.num, .int .i64 q.den] 29) = W5 at r10 hb ⊢
      obtain ⟨⟨y0, y1⟩, -, -⟩ := row_fr r10
      obtain ⟨⟨t0, t1⟩, -, -⟩ := row_fr (heap_keep hb r8)
      clear z1 z2 hal
      go_wp2_with fail
      refine (HKc.out W5).mono ?_
      rintro e w6 ⟨rfl, hb6⟩
      replace hb := hb.trans (hb6.mono hb.size)
      clear hb6 y0 y1 t0 t1 r10
      go_wp2_with fail
      go_roundw
      case rel => exact ⟨k + 1, by omega, by go_num, hb⟩
      case measure => simp [intOf]; omega
    · have hk2 : k = n := by omega
      have Hk := Lib.hid hk2
      clear hk2
      go_wp2_with fail
      go_ret2
      exact ⟨by simp, hA.trans (hb.mono hA.size)⟩

set_option maxRecDepth 100000 in
set_option maxHeartbeats 8000000 in
theorem knifeKnives_any (L : List Int) (aoL : Option Addr) (nL cL : Nat) (V : List (List Int)) (aoV : Option Addr) (nV cV : Nat) (w : World) (hf : Fld w aoL nL aoV nV L V) :
    Calls Try.prog 9 #[.agg #[.slice aoL nL cL, .slice aoV nV cV]] w fun e w' => e = .returned (.bool true) ∧ Below w.heap.size w w' := by
  have hA := (Below.refl _ w).alloc (Nat.le_refl _) (.cells #[.slice aoL nL cL, .slice aoV nV cV] 57)
  have rf := heap_alloc_new w (.cells #[.slice aoL nL cL, .slice aoV nV cV] 57)
  go_enter Try.func9, Try.ntmps9
  go_upto_region 1 with fail
  generalize w.alloc (.cells #[.slice aoL nL cL, .slice aoV nV cV] 57) = W0 at hA rf ⊢
  replace hf := hf.below hA
  obtain ⟨⟨x0, x1⟩, -, -⟩ := row_fr rf
  go_wp2_with fail
  refine ((klong_any L V _ _ _ _ _ _ W0 hf)).mono ?_
  rintro e w1 ⟨rfl, hbb⟩
  replace hf := hf.below hbb
  replace rf := heap_keep hbb rf
  replace hA := hA.trans (hbb.mono hA.size)
  clear hbb
  clear x0 x1
  cases hlg : Kn.lng nL nV V with
  | true =>
    go_wp2_with fail
    refine ((kknown_any w1)).mono ?_
    rintro e w2 ⟨rfl, hbb⟩
    replace hf := hf.below hbb
    replace rf := heap_keep hbb rf
    replace hA := hA.trans (hbb.mono hA.size)
    clear hbb
    go_wp2_with fail
    go_ret
    exact ⟨rfl, hA⟩
  | false =>
    obtain ⟨hl, hv, hr⟩ := lng_no hlg
    clear hlg
    obtain ⟨⟨x0, x1⟩, -, -⟩ := row_fr rf
    obtain ⟨C, hC⟩ : ∃ c, Kn.val L V = c := ⟨_, rfl⟩
    obtain ⟨E, hE⟩ : ∃ l, Kn.knL L V = l := ⟨_, rfl⟩
    have HF : Hid (E.length ≤ 5 ∧ (C = 0 → Kn.pcode L V E = 0 ∧ E.length = V.length ∧ 1 ≤ E.length ∧ (∀ p ∈ E, p.2.1.1 ≤ 9223372036854775807 ∧ p.2.2.1 ≤ 9223372036854775807) ∧ ∀ p ∈ Kn.prL L V E, FairQ E.length p)) := Lib.hid (by
      by_cases h0 : C = 0
      · have hok := Kn.val_ok.1 (hC.trans h0)
        obtain ⟨k1, k2, k3, k4⟩ := knife_facts hok
        have hEe : E = (Kn.divide L V).map pc := by rw [← hE]; unfold Kn.knL; rw [if_pos (hC.trans h0)]
        rw [hEe]
        have hle : ((Kn.divide L V).map pc).length = V.length := by rw [List.length_map]; exact k2
        rw [hle]
        exact ⟨hok.v5, fun _ => ⟨k1, rfl, hok.v1, k3, k4⟩⟩
      · have hEe : E = [] := by rw [← hE]; unfold Kn.knL; rw [if_neg (by rw [hC]; exact h0)]
        rw [hEe]
        exact ⟨by simp, fun h => absurd h h0⟩)
    have hK1 := kKnife_any L V aoL nL cL aoV nV cV w1 hf hl hv hr
    have hK2 := fun w' (hf' : Fld w' aoL nL aoV nV L V) => sKnife_any L V aoL nL cL aoV nV cV w' hf' hl hv hr
    rw [hC, hE] at hK1 hK2
    have HK2 := Lib.hid hK2
    clear hC hE hK2
    go_wp2_with fail
    refine hK1.mono ?_
    rintro e w2 ⟨v1, rfl, o1, hb1⟩
    obtain ⟨a1, c1, rfl, P1⟩ := own_pcs o1 rfl
    replace hf := hf.below hb1
    replace rf := heap_keep hb1 rf
    replace hA := hA.trans (hb1.mono hA.size)
    clear hb1 x0 x1 o1 hK1
    obtain ⟨⟨x0, x1⟩, -, -⟩ := row_fr rf
    go_wp2_with fail
    refine (HK2.out w2 hf).mono ?_
    rintro e w3 ⟨v2, rfl, o2, hb1⟩
    obtain ⟨a2, c2, rfl, P2⟩ := own_pcs o2 rfl
    replace P1 := P1.below hb1
    replace hf := hf.below hb1
    replace rf := heap_keep hb1 rf
    replace hA := hA.trans (hb1.mono hA.size)
    clear hb1 x0 x1 o2 HK2
    obtain ⟨r, hr5⟩ : ∃ r, r = E.length := ⟨_, rfl⟩
    rw [← hr5]
    have Hr := Lib.hid hr5
    have h5 : r ≤ 5 := by rw [hr5]; exact HF.out.1
    clear hr5
    have e9 : (C != C) = false := by simp
    go_wp2_with fail
    refine (samePieces_any E E _ _ _ _ _ _ _ P1 P2 Hr.out Hr.out (by omega) (by omega)).mono ?_
    rintro e w4 ⟨rfl, hb1⟩
    rw [decide_eq_true rfl]
    replace P1 := P1.below hb1
    replace hf := hf.below hb1
    replace rf := heap_keep hb1 rf
    replace hA := hA.trans (hb1.mono hA.size)
    clear hb1 P2
    by_cases hz : C = 0
    · subst hz
      obtain ⟨k1, k2, k3, k4, k5⟩ := HF.out.2 rfl
      rw [← Hr.out] at k3 k5
      have hKP := kIsFair_yes L V E aoL nL cL aoV nV cV a1 r c1 w4 hf hl hv hr P1 Hr.out k3 h5 k4 k1 k5
      have hKC := fun w' (hf' : Fld w' aoL nL aoV nV L V) (P' : Pcs w' a1 E) => kCheckPieces_any L V E aoL nL cL aoV nV cV a1 r c1 w' hf' hl hv hr P' Hr.out (by omega) k4
      rw [k1] at hKC
      have HKC := Lib.hid hKC
      clear hKC k1 k2 k3 k4 k5
      obtain ⟨⟨x0, x1⟩, -, -⟩ := row_fr rf
      go_wp2_with fail
      refine hKP.mono ?_
      rintro e w5 ⟨rfl, hb1⟩
      replace P1 := P1.below hb1
      replace hf := hf.below hb1
      replace rf := heap_keep hb1 rf
      replace hA := hA.trans (hb1.mono hA.size)
      clear hb1 x0 x1 hKP
      obtain ⟨⟨x0, x1⟩, -, -⟩ := row_fr rf
      go_wp2_with fail
      refine (HKC.out w5 hf P1).mono ?_
      rintro e w6 ⟨rfl, hb1⟩
      replace hf := hf.below hb1
      replace rf := heap_keep hb1 rf
      replace hA := hA.trans (hb1.mono hA.size)
      clear hb1 x0 x1 P1 HKC
      go_wp2_with fail
      refine (kknown_any w6).mono ?_
      rintro e w7 ⟨rfl, hb1⟩
      go_wp2_with fail
      go_ret
      exact ⟨rfl, hA.trans (hb1.mono hA.size)⟩
    · have hne : (C != 0) = true := by simp [hz]
      go_wp2_with fail
      refine (kknown_any w4).mono ?_
      rintro e w5 ⟨rfl, hb1⟩
      go_wp2_with fail
      go_ret
      exact ⟨rfl, hA.trans (hb1.mono hA.size)⟩
end Go.Proofs.Ytemlfklipkpacaa
