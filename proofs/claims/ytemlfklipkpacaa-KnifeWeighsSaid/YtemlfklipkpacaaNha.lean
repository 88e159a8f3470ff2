import Derived.Test.YtemlfklipkpacaaNg
/- Package knife: what the knife's pieces are: valid, with parts that are fair. -/
namespace Go.Proofs.Ytemlfklipkpacaa
open Go.RowKit

theorem setP_far {L : List Int} {V : List (List Int)} {r : List Pc} {j : Nat} : (∀ q ∈ r, q.1.toNat ≠ j) → ∀ {s : List (Int × Int)}, (r.foldl (Kn.setP L V) s)[j]? = s[j]? := by
  induction r with
  | nil => intro _ s; rfl
  | cons p r ih =>
    intro h s
    show (r.foldl (Kn.setP L V) (Kn.setP L V s p))[j]? = _
    rw [ih (fun q hq => h q (by simp [hq]))]
    unfold Kn.setP
    rw [List.getElem?_set_ne (h p (by simp))]
theorem setP_at {L : List Int} {V : List (List Int)} {ps : List Pc} : (ps.map fun p => p.1.toNat).Nodup → ∀ {s : List (Int × Int)} {q : Pc}, q ∈ ps → q.1.toNat < s.length → (ps.foldl (Kn.setP L V) s)[q.1.toNat]? = some (pr (Kn.partQ L V q)) := by
  induction ps with
  | nil => intro _ s q h; cases h
  | cons p r ih =>
    intro hn s q hq hl
    rw [List.map_cons, List.nodup_cons] at hn
    show (r.foldl (Kn.setP L V) (Kn.setP L V s p))[q.1.toNat]? = _
    rcases List.mem_cons.1 hq with rfl | hq
    · rw [setP_far (fun z hz e => hn.1 (List.mem_map.2 ⟨z, hz, e⟩))]
      unfold Kn.setP
      rw [List.getElem?_set_self hl]
    · exact ih hn.2 hq (by unfold Kn.setP; rw [List.length_set]; exact hl)
theorem parts_all {L : List Int} {V : List (List Int)} {ps : List Pc} (hn : (ps.map fun p => p.1.toNat).Nodup) (hs : ∀ j, j < ps.length → ∃ q ∈ ps, q.1.toNat = j) : ∀ p ∈ Kn.partsL L V ps, ∃ q ∈ ps, p = pr (Kn.partQ L V q) := by
  intro p hp
  obtain ⟨j, hj, rfl⟩ := List.getElem_of_mem hp
  rw [partsL_len] at hj
  obtain ⟨q, hq, hqj⟩ := hs j hj
  refine ⟨q, hq, ?_⟩
  have h := setP_at (L := L) (V := V) hn (s := List.replicate ps.length (0, 0)) hq (by rw [List.length_replicate, hqj]; exact hj)
  rw [hqj] at h
  exact Option.some.inj ((List.getElem?_eq_getElem _).symm.trans h)

theorem le_of_mulR {x y m : Rat} (hm : 0 < m) (h : x * m ≤ y * m) : x ≤ y := Rat.le_of_mul_le_mul_right h hm
theorem fair_core {m n T Q W : Rat} (h1 : m * n = 1) (hd : Q * T = W) (f : T ≤ n * W) (hn : 0 < n) (hT : 0 < T) : m ≤ Q := by
  refine le_of_mulR (Rat.mul_pos hn hT) ?_
  have e1 : m * (n * T) = T := by rw [← Rat.mul_assoc, h1, Rat.one_mul]
  have e2 : Q * (n * T) = n * W := by rw [← hd]; grind
  rw [e1, e2]; exact f
theorem fair_bounds {T Q W : Rat} (hd : Q * T = W) (h0 : 0 ≤ W) (h1 : W ≤ T) (hT : 0 < T) : 0 ≤ Q ∧ Q ≤ 1 :=
  ⟨le_of_mulR hT (by rw [hd]; grind), le_of_mulR hT (by rw [hd]; grind)⟩
/-- A part that can be compared. -/
def FairQ (n : Nat) (p : Int × Int) : Prop := ∃ q : Rat, p = pr q ∧ mkRat 1 n ≤ q ∧ 0 ≤ q ∧ q ≤ 1 ∧ q.den ≤ 4000000000
/-- What is known of the pieces of the knife. -/
theorem knife_facts {L : List Int} {V : List (List Int)} (hok : Kn.Ok L V) :
    Kn.pcode L V ((Kn.divide L V).map pc) = 0 ∧ (Kn.divide L V).length = V.length ∧ (∀ p ∈ (Kn.divide L V).map pc, p.2.1.1 ≤ 9223372036854775807 ∧ p.2.2.1 ≤ 9223372036854775807) ∧ ∀ p ∈ Kn.prL L V ((Kn.divide L V).map pc), FairQ V.length p := by
  have v1 := hok.v1
  have v5 := hok.v5
  have hst := hok.stopB
  have hS := Kn.St.start hok
  obtain ⟨M, M1, M2, -, hch⟩ := Kn.divF_chain hok hS (M := 1) (Nat.le_refl _) (Frac.int _ 0) (by rw [show V.length - (V.length - 1 + 1) = 0 by omega]; exact Nat.le_refl _)
  obtain ⟨o1, o2, o3⟩ := Kn.divF_own hok hS
  have hfa := Kn.divF_fair hok hS (fun o ho => by
    have hov := hS.mem o ho
    rw [Fl.cum_zero (hok.zOk hov)]
    have e : (V.length : Rat) - (((V.length - 1 : Nat) : Rat) + 1) = 0 := by
      have h1 : ((V.length - 1 + 1 : Nat) : Rat) = ((V.length - 1 : Nat) : Rat) + 1 := by rw [Rat.natCast_add]; rfl
      rw [← h1, show V.length - 1 + 1 = V.length by omega]
      grind
    rw [e]
    grind)
  have hD : Kn.divF L V (V.length - 1) (List.range V.length) 0 = Kn.divide L V := rfl
  rw [hD] at hch o1 o2 o3 hfa
  have hb := Kn.pow_bound (n := V.length) (f := 0) (by omega) v5
  rw [Nat.zero_add] at hb
  have hDM : V.length * M ≤ 800000 := Nat.le_trans (Nat.mul_le_mul_left _ M2) hb
  have hDM1 : 1 ≤ V.length * M := Nat.mul_pos (by omega) M1
  have hlen : (Kn.divide L V).length = V.length := by omega
  have hmapn : (((Kn.divide L V).map pc).map fun p => p.1.toNat) = (Kn.divide L V).map Prod.fst := by
    rw [List.map_map]
    apply List.map_congr_left
    intro p _
    show ((p.1 : Nat) : Int).toNat = p.1
    exact Int.toNat_natCast _
  have hown : Kn.okOwn V ((Kn.divide L V).map pc) = true := by
    unfold Kn.okOwn
    rw [Bool.and_eq_true, Bool.and_eq_true, List.all_eq_true]
    refine ⟨fun p hp => ?_, decide_eq_true ?_, decide_eq_true (by rw [List.length_map]; exact hlen)⟩
    · obtain ⟨z, hz, rfl⟩ := List.mem_map.1 hp
      have := (hfa z hz).1
      unfold Kn.isO
      show (decide ((0 : Int) ≤ ((z.1 : Nat) : Int)) && decide (((z.1 : Nat) : Int) < (V.length : Int))) = true
      rw [decide_eq_true (by omega), decide_eq_true (by omega)]
      rfl
    · have e : ((Kn.divide L V).map pc).map Prod.fst = ((Kn.divide L V).map Prod.fst).map fun o : Nat => (o : Int) := by
        rw [List.map_map, List.map_map]; rfl
      rw [e]
      refine List.Pairwise.map _ (fun x y h => ?_) o2
      intro h2
      exact h (by omega)
  have hpc := pcode_mk hok hown hDM1 (by omega) hch
  refine ⟨hpc, hlen, fun p hp => ?_, fun p hp => ?_⟩
  · obtain ⟨z, hz, rfl⟩ := List.mem_map.1 hp
    obtain ⟨D, hDD⟩ := pcode_ok hpc
    obtain ⟨k, hk, hke⟩ := List.getElem_of_mem hp
    obtain ⟨e1, e2, a0, ab, b1, da, db⟩ := hDD.at_ k hk
    have hd1 := hDD.d1
    have hd2 := hDD.d2
    have d1 := Nat.le_of_dvd (by omega) da
    have d2 := Nat.le_of_dvd (by omega) db
    rw [← hke, e1, e2]
    generalize Kn.begins ((Kn.divide L V).map pc) k = a at *
    generalize Kn.begins ((Kn.divide L V).map pc) (k + 1) = b at *
    have hE : (Kn.stop L : Rat) ≤ ((120 : Int) : Rat) := Rat.intCast_le_intCast.2 hst.2
    have hE2 : ((120 : Int) : Rat) = ((120 : Nat) : Rat) := rfl
    have n1 := Fl.num_le (show a ≤ ((120 : Nat) : Rat) by grind)
    have n2 := Fl.num_le (show b ≤ ((120 : Nat) : Rat) by grind)
    exact ⟨by show a.num ≤ _; omega, by show b.num ≤ _; omega⟩
  · unfold Kn.prL at hp
    rw [if_pos hpc] at hp
    obtain ⟨q, hq, rfl⟩ := parts_all (by rw [hmapn]; exact o2) (fun j hj => by
      rw [List.length_map, hlen] at hj
      obtain ⟨z, hz, hzj⟩ := List.mem_map.1 ((o3 j).2 (List.mem_range.2 hj))
      exact ⟨pc z, List.mem_map.2 ⟨z, hz, rfl⟩, by show ((z.1 : Nat) : Int).toNat = j; rw [Int.toNat_natCast]; exact hzj⟩) p hp
    obtain ⟨z, hz, rfl⟩ := List.mem_map.1 hq
    obtain ⟨f1, f2, f3, f4, f5⟩ := hfa z hz
    obtain ⟨D, hDD⟩ := pcode_ok hpc
    obtain ⟨k, hk, hke⟩ := List.getElem_of_mem hq
    obtain ⟨j, a, b, he, hj, hKP, hNN, hPQ⟩ := part_facts hDD hk
    rw [hke] at he hPQ
    rw [hPQ]
    have ej : z.1 = j := by
      have : ((z.1 : Nat) : Int) = (j : Int) := congrArg Prod.fst he
      omega
    have ea : z.2.1 = a := by
      have : pr z.2.1 = pr a := congrArg (fun x => x.2.1) he
      have h2 := pr_rat z.2.1
      rw [this, pr_rat] at h2
      exact h2.symm
    have eb : z.2.2 = b := by
      have : pr z.2.2 = pr b := congrArg (fun x => x.2.2) he
      have h2 := pr_rat z.2.2
      rw [this, pr_rat] at h2
      exact h2.symm
    rw [ej, ea, eb] at f5
    rw [ea] at f2
    rw [ea, eb] at f3
    rw [eb] at f4
    have hzo := hok.zOk hj
    have hT := hok.zTot hj
    have hT0 : (0 : Rat) < (Fl.tot (Kn.Z L V j) : Rat) := by exact_mod_cast hT.1
    have hw := worth_cum hzo f2 f3
    have c1 := (Fl.cum_bound hzo f2).1
    have c2 := (Fl.cum_bound hzo (Rat.le_trans f2 f3)).2
    have hw0 : 0 ≤ Fl.worth (Kn.Z L V j) a b := Rat.num_nonneg.1 hNN.1
    have hden : (Fl.worth (Kn.Z L V j) a b).den ≤ 1000000 := by
      have hd1 := hDD.d1
      have hd2 := hDD.d2
      obtain ⟨e1, e2, -, -, -, da, db⟩ := hDD.at_ k hk
      rw [hke] at e1 e2
      have ha : a.den ∣ D := by
        have : pr z.2.1 = pr (Kn.begins ((Kn.divide L V).map pc) k) := e1
        have h2 := congrArg (fun x => x.2) this
        rw [ea] at h2
        have h3 : (a.den : Int) = ((Kn.begins ((Kn.divide L V).map pc) k).den : Int) := h2
        rw [show a.den = (Kn.begins ((Kn.divide L V).map pc) k).den by omega]; exact da
      have hbd : b.den ∣ D := by
        have : pr z.2.2 = pr (Kn.begins ((Kn.divide L V).map pc) (k + 1)) := e2
        have h2 := congrArg (fun x => x.2) this
        rw [eb] at h2
        have h3 : (b.den : Int) = ((Kn.begins ((Kn.divide L V).map pc) (k + 1)).den : Int) := h2
        rw [show b.den = (Kn.begins ((Kn.divide L V).map pc) (k + 1)).den by omega]; exact db
      have hwf := (worth_facts hzo (by rw [hok.zLen hj]; exact hok.l6) f2 f3 ha hbd).2.2
      exact Nat.le_trans (Nat.le_of_dvd (by omega) hwf) hd2
    generalize Fl.worth (Kn.Z L V j) a b = W at *
    obtain ⟨T, hTe⟩ : ∃ t : Nat, (t : Int) = Fl.tot (Kn.Z L V j) := ⟨(Fl.tot (Kn.Z L V j)).toNat, by omega⟩
    rw [← hTe] at hT hT0 f5 c2 ⊢
    have hTT : ((T : Int) : Rat) = (T : Rat) := rfl
    rw [hTT] at hT0 f5 c2 ⊢
    have hdm : W / (T : Rat) * (T : Rat) = W := Rat.div_mul_cancel (by grind)
    have hnp : (0 : Rat) < (V.length : Rat) := by
      have : ((0 : Int) : Rat) < ((V.length : Int) : Rat) := Rat.intCast_lt_intCast.2 (by omega)
      exact this
    have hqd : (W / (T : Rat)).den ≤ W.den * T := by
      have := ((Frac.of_den (Nat.dvd_refl W.den)).divI (v := T) (by omega)).den
      exact Nat.le_of_dvd (Nat.mul_pos W.den_pos (by omega)) this
    have hqd2 : W.den * T ≤ 1000000 * 2400 := Nat.mul_le_mul hden (by omega)
    have h1n : mkRat 1 V.length * (V.length : Rat) = 1 := by
      rw [Rat.mkRat_eq_div]
      exact Rat.div_mul_cancel (by grind)
    have hb2 := fair_bounds hdm hw0 (by rw [hw]; grind) hT0
    exact ⟨_, rfl, fair_core h1n hdm f5 hnp hT0, hb2.1, hb2.2, by omega⟩

theorem least_q {n : Nat} (h1 : 1 ≤ n) (h5 : n ≤ 5) : (mkRat 1 n).num = 1 ∧ ((mkRat 1 n).den : Int) = (n : Int) := by
  have h : Fl.amt 1 (n : Int) 1000000 = true := Fl.amt_iff.2 ⟨by omega, by omega, by omega, by simp⟩
  obtain ⟨e1, e2, -⟩ := Fl.amt_rat h
  rw [Int.toNat_natCast] at e1 e2
  exact ⟨e1, e2⟩
theorem cmp_fair {q l : Rat} (h : l ≤ q) : decide (Fl.cmpR q l < 0) = false := by
  rw [decide_eq_false_iff_not]
  unfold Fl.cmpR
  rw [if_neg (by grind)]
  split <;> omega

end Go.Proofs.Ytemlfklipkpacaa
