import Derived.Test.YtemlfklipkpacaaB3
import Derived.Test.YtemlfklipkpacaaB2
import Derived.Test.YtemlfklipkpacaaB1
import Derived.Deep.Slices
import Derived.Deep.Fields
import Derived.ProofKit
import Derived.Lib.SmallJoins
namespace Go.Proofs.Ytemlfklipkpacaa
open Go.RowKit

theorem before_bound {u : List Int} {x : Rat} (hu : UnitsOk u) (hx : PlaceU u.length x) : 0 ≤ Fl.before u x ∧ Fl.before u x ≤ ((2820 : Nat) : Rat) ∧ (Fl.before u x).den ≤ x.den := by
  obtain ⟨k, hk⟩ : ∃ k : Nat, (k : Int) = x.num / (x.den : Int) := ⟨(x.num / (x.den : Int)).toNat, by
    have := Int.ediv_nonneg (Fl.num_nonneg hx.x0) (show (0 : Int) ≤ (x.den : Int) by have := x.den_pos; omega); omega⟩
  obtain ⟨hkl, hn1, hn0, -, hbf, hmul, hsum⟩ := before_facts hu hx hk
  have hvk := hu.v k
  have hsk := hu.s k
  have hl := hu.l
  have m1 := mk_den_le (n := x.num % (x.den : Int)) x.den_pos
  have fr0 : 0 ≤ mkRat (x.num % (x.den : Int)) x.den := by rw [← Rat.num_nonneg]; exact hmul.a1
  have f2 : x - 1 < (x.floor : Rat) := Rat.lt_floor
  have fr1 : mkRat (x.num % (x.den : Int)) x.den ≤ 1 := by rw [frac_eq]; grind
  rw [hbf]
  obtain ⟨f, hf⟩ : ∃ f, f = mkRat (x.num % (x.den : Int)) x.den := ⟨_, rfl⟩
  rw [← hf] at m1 fr0 fr1 ⊢
  have v0 : (0 : Rat) ≤ ((u.getD k 0 : Int) : Rat) := by exact_mod_cast hvk.1
  have v1 : ((u.getD k 0 : Int) : Rat) ≤ 20 := by exact_mod_cast hvk.2
  have s0 : (0 : Rat) ≤ ((Fl.sumI (u.take k) : Int) : Rat) := by exact_mod_cast hsk.1
  have s1 : ((Fl.sumI (u.take k) : Int) : Rat) ≤ 2800 := by
    have : ((Fl.sumI (u.take k) : Int) : Rat) ≤ ((2800 : Int) : Rat) := Rat.intCast_le_intCast.2 (by omega)
    exact this
  have h := Rat.mul_le_mul_of_nonneg_left fr1 v0
  have p0 := Rat.mul_nonneg v0 fr0
  have e : ((2820 : Nat) : Rat) = 2820 := rfl
  refine ⟨by grind, by grind, ?_⟩
  have d1 : (((u.getD k 0 : Int) : Rat) * f).den ≤ f.den := by rw [Rat.mul_comm]; exact Fl.den_mul_int_le _ _
  have d2 := Fl.den_add_int_le (((u.getD k 0 : Int) : Rat) * f) (Fl.sumI (u.take k))
  rw [Rat.add_comm] at d2
  omega
theorem between_sum {u : List Int} {a b : Rat} (hu : UnitsOk u) (ha : PlaceU u.length a) (hb : PlaceU u.length b) : SumQ (Fl.before u b) (Fl.before u a) := by
  obtain ⟨a0, a1, a2⟩ := before_bound hu ha
  obtain ⟨b0, b1, b2⟩ := before_bound hu hb
  have hd : (Fl.before u b).den * (Fl.before u a).den ≤ 1000000 * 1000000 := Nat.mul_le_mul (by have := hb.d; omega) (by have := ha.d; omega)
  exact sumQ_of b0 a0 2820 2820 b1 a1 1000000000000 (by omega) (by omega) (by omega) (by omega)

set_option maxRecDepth 100000 in
set_option maxHeartbeats 4000000 in
theorem rbetween_any (u : List Int) (a b : Rat) (ao : Option Addr) (cap : Nat) (w : World) (hI : Ints w ao u) (hu : UnitsOk u) (ha : PlaceU u.length a) (hb : PlaceU u.length b) :
    Calls Try.prog 76 #[.slice ao u.length cap, Fr a, Fr b] w fun e w' => e = .returned (Fr (Fl.before u b - Fl.before u a)) ∧ Below w.heap.size w w' := by
  have hS := between_sum hu ha hb
  have hB := below_alloc3 w (.cells #[.int .i64 a.num, .int .i64 a.den] 29) (.cells #[.int .i64 b.num, .int .i64 b.den] 29) (.cells #[.int .i64 0, .int .i64 0] 29)
  have A2 := heap_alloc3_all w (.cells #[.int .i64 a.num, .int .i64 a.den] 29) (.cells #[.int .i64 b.num, .int .i64 b.den] 29) (.cells #[.int .i64 0, .int .i64 0] 29)
  replace hI := hI.below hB
  have HA := Lib.hid (And.intro hB A2)
  clear hB A2
  obtain ⟨X, hX⟩ : ∃ x, x = Fl.before u b - Fl.before u a := ⟨_, rfl⟩
  rw [← hX]
  have HX := Lib.hid hX
  clear hX
  go_enter Try.func76, Try.ntmps76
  go_wp2_with fail
  obtain ⟨hB, r4, r5, r6⟩ := HA.out
  clear HA
  generalize (((w.alloc (.cells #[.int .i64 a.num, .int .i64 a.den] 29)).alloc (.cells #[.int .i64 b.num, .int .i64 b.den] 29)).alloc (.cells #[.int .i64 0, .int .i64 0] 29)) = wx at hB r4 r5 r6 hI ⊢
  obtain ⟨⟨a0, a1⟩, -, -⟩ := row_fr r4
  obtain ⟨⟨b0, b1⟩, -, -⟩ := row_fr r5
  have hI0 : Ints wx.drew ao u := ⟨hI.cells⟩
  go_region_held3 (fun w' => w'.cell? ⟨w.heap.size, 0, none⟩ = some (.int .i64 a.num) ∧ w'.cell? ⟨w.heap.size, 1, none⟩ = some (.int .i64 a.den) ∧ w'.cell? ⟨w.heap.size + 1, 0, none⟩ = some (.int .i64 b.num) ∧ w'.cell? ⟨w.heap.size + 1, 1, none⟩ = some (.int .i64 b.den))
    (first | exact ⟨a0, a1, b0, b1⟩ | exact ⟨cell_two_other _ _ (by omega) kc.1, cell_two_other _ _ (by omega) kc.2.1, cell_two_other _ _ (by omega) kc.2.2.1, cell_two_other _ _ (by omega) kc.2.2.2⟩ | exact ka | exact kb | exact kc)
    (first
      | (go_at_call_of 103 (b.num); refine (rbefore_any u b ao cap _ hI0 hu hb).mono ?_; rintro e w1 ⟨rfl, hb1⟩; have ka := And.intro (keep_cell hb1 a0) (And.intro (keep_cell hb1 a1) (And.intro (keep_cell hb1 b0) (keep_cell hb1 b1))); have hI1 := hI0.below hb1)
      | (go_at_call_of 103 (a.num); refine (rbefore_any u a ao cap _ hI1 hu ha).mono ?_; rintro e w2 ⟨rfl, hb2⟩; have kb := And.intro (keep_cell hb2 ka.1) (And.intro (keep_cell hb2 ka.2.1) (And.intro (keep_cell hb2 ka.2.2.1) (keep_cell hb2 ka.2.2.2))))
      | (go_at_call 88; refine (rsub_q _ _ _ hS).mono ?_; rintro e w3 ⟨rfl, hb3⟩; have kc := And.intro (keep_cell hb3 kb.1) (And.intro (keep_cell hb3 kb.2.1) (And.intro (keep_cell hb3 kb.2.2.1) (keep_cell hb3 kb.2.2.2))); replace hB := (below_drewN hB 1).trans (hb1.mono (by have := hB.size; exact this)); replace hB := hB.trans (hb2.mono hB.size); replace hB := hB.trans (hb3.mono hB.size); replace r6 := heap_keep hb3 (heap_keep hb2 (heap_keep hb1 r6)); obtain ⟨⟨d0, d1⟩, f0, f1⟩ := row_fr r6; rw [← HX.out]))
  go_wp2
  exact bodyPost_ret (results_cell_row rfl _ _ _ _ _ _ _ rfl (two_cells r6 (.int .i64 X.num) (.int .i64 X.den)) Try.underlying29 rfl infoRat2) rfl ⟨rfl, below_setCell (below_setCell hB (by omega) _) (by omega) _⟩

namespace Fl
/-- The code that is asked of a field and of places. -/
def askedC (l : List (Int × Int)) (ps : List (Int × Int)) : Int := if validate l ≠ 0 then validate l else if ps.all (fun p => plc (len l) p.1 p.2 1000) then 0 else 1
end Fl
theorem all_false {ps : List (Int × Int)} {k : Nat} (hk : k < ps.length) {f : Int × Int → Bool} (h : f (ps.getD k (0, 0)) = false) : ps.all f = false := by
  rw [List.all_eq_false]
  refine ⟨_, List.getElem_mem hk, ?_⟩
  rw [List.getD_eq_getElem?_getD, List.getElem?_eq_getElem hk] at h
  simp at h
  simp [h]
theorem all_true {ps : List (Int × Int)} {f : Int × Int → Bool} (h : ∀ k, k < ps.length → f (ps.getD k (0, 0)) = true) : ps.all f = true := by
  rw [List.all_eq_true]
  intro x hx
  obtain ⟨j, hj, rfl⟩ := List.mem_iff_getElem.1 hx
  have := h j hj
  rwa [List.getD_eq_getElem?_getD, List.getElem?_eq_getElem hj] at this
/-- What IsValid and IsPlace answer together. -/
theorem valid_plc {L n d : Int} : Fl.plc L n d 1000 = (valB n d 1000 && (decide (0 ≤ n) && decide (mkRat n d.toNat ≤ (L : Rat)))) := by
  by_cases h : 0 ≤ n
  · unfold Fl.plc; rw [valB_amt h]; simp [h]
  · unfold Fl.plc Fl.amt; simp [h]

set_option maxRecDepth 100000 in
set_option maxHeartbeats 4000000 in
theorem rasked_any (l ps : List (Int × Int)) (ao : Option Addr) (m cap : Nat) (ao2 : Option Addr) (q cap2 : Nat) (w : World) (hp : Pts w ao l) (hln : m = l.length) (hm : m ≤ 100000) (hp2 : Pts w ao2 ps) (hlq : q = ps.length) (hq : q ≤ 1000) (hr : ∀ p ∈ ps, -9223372036854775808 ≤ p.1 ∧ p.1 ≤ 9223372036854775807) :
    Calls Try.prog 75 #[.slice ao m cap, .slice ao2 q cap2] w fun e w' => e = .returned (.int .i64 (Fl.askedC l ps)) ∧ Below w.heap.size w w' := by
  have Hn := Lib.hid hln
  have Hq := Lib.hid hlq
  clear hln hlq
  obtain ⟨C, hC⟩ : ∃ c, Fl.askedC l ps = c := ⟨_, rfl⟩
  rw [hC]
  have HC := Lib.hid hC
  clear hC
  obtain ⟨v, hv⟩ : ∃ v, v = Fl.validate l := ⟨_, rfl⟩
  have hv0 : v = 0 ∨ (v != 0) = true := by by_cases h : v = 0 <;> simp [h]
  have Hv := Lib.hid hv
  clear hv
  have Hr := Lib.hid hr
  clear hr
  go_enter Try.func75, Try.ntmps75
  go_wp2_with fail
  refine (rvalidate_any l _ _ _ _ hp Hn.out hm).mono ?_
  rintro e w1 ⟨rfl, rfl⟩
  rw [← Hv.out]
  rcases hv0 with rfl | hv0
  · have hok := Fl.validate_ok.1 Hv.out.symm
    have hlb := Fl.len_bound hok.2
    have hul := Lib.hid (Fl.units_length hok.2)
    have hl6 := hok.1.2
    have hUL : (Fl.units l).length ≤ 1000 := by have := hul.out; omega
    go_wp2
    go_loopw [6] (fun i wr => ∃ k : Nat, k ≤ q ∧ i = .int .i64 k ∧ Hid (∀ j, j < k → Fl.plc (Fl.len l) (ps.getD j (0, 0)).1 (ps.getD j (0, 0)).2 1000 = true) ∧ Below w.heap.size w wr) (fun i _ => q - (intOf i).toNat)
    case atStart => exact ⟨0, Nat.zero_le _, rfl, Lib.hid (fun j hj => by omega), Below.refl _ _⟩
    case round =>
      obtain ⟨k, hk, rfl, hall, hB⟩ := hrel
      by_cases hlt : k < q
      · have hkl : k < ps.length := by have := Hq.out; omega
        obtain ⟨b, off, rfl, hbs, hc⟩ := hp2.cells (by omega)
        obtain ⟨c0, c1⟩ := hc k hkl
        replace c0 := keep_cell hB (by exact c0)
        replace c1 := keep_cell hB (by exact c1)
        have hrk := Hr.out (ps.getD k (0, 0)) (by rw [List.getD_eq_getElem?_getD, List.getElem?_eq_getElem hkl]; exact List.getElem_mem hkl)
        have hvp := valid_plc (L := Fl.len l) (n := (ps.getD k (0, 0)).1) (d := (ps.getD k (0, 0)).2)
        have haf := all_false hkl (f := fun p => Fl.plc (Fl.len l) p.1 p.2 1000)
        obtain ⟨n, hn⟩ : ∃ x, x = (ps.getD k (0, 0)).1 := ⟨_, rfl⟩
        obtain ⟨d, hd⟩ : ∃ x, x = (ps.getD k (0, 0)).2 := ⟨_, rfl⟩
        simp only [← hn, ← hd] at c0 c1 hrk hvp haf
        have Hnd := Lib.hid (And.intro hn hd)
        have hwp := hp.below hB
        clear hn hd hc
        have i1 : (k : Int) < (q : Int) := by omega
        cases hval : valB n d 1000 with
        | false =>
          have hcc : Hid (C = 1) := Lib.hid (by
            rw [← HC.out]; unfold Fl.askedC
            rw [if_neg (by rw [← Hv.out]; simp), haf (by rw [hvp, hval]; rfl)]; rfl)
          have Hval := Lib.hid hval
          clear hval hvp haf
          go_wp2_with fail
          first | (go_region_with (go_at_call 81; refine (risValid_any n d 1000 _ hrk.1 hrk.2 (by omega)).mono ?_; rintro e w1 ⟨rfl, hbb⟩; rw [Hval.out])) | fail
          all_goals
            go_wp2
            go_ret
            exact ⟨ret_int hcc.out.symm, (below_drewN hB 1).trans (hbb.mono hB.size)⟩
        | true =>
          have hdd := valB_d hval
          rw [hval, Bool.true_and] at hvp
          obtain ⟨Z, hZ⟩ : ∃ z, Fl.plc (Fl.len l) n d 1000 = z := ⟨_, rfl⟩
          rw [hZ] at hvp haf
          have hvu : Hid ((decide (0 ≤ n) && decide (mkRat n d.toNat ≤ ((((Fl.units l).length : Nat) : Int) : Rat))) = Z) := Lib.hid (by rw [hul.out]; exact hvp.symm)
          have Hval := Lib.hid hval
          have HZ := Lib.hid hZ
          have Haf := Lib.hid haf
          clear hval hvp hZ haf
          go_wp2_with fail
          go_region_held3 (fun w' => w'.cell? ⟨b, off + k * 2, none⟩ = some (.int .i64 n) ∧ w'.cell? ⟨b, off + k * 2 + 1, none⟩ = some (.int .i64 d))
            (first | exact ⟨c0, c1⟩ | exact ka | exact kb | exact kc)
            (first
              | (go_at_call 81; refine (risValid_any n d 1000 _ hrk.1 hrk.2 (by omega)).mono ?_; rintro e w1 ⟨rfl, hb1⟩; rw [Hval.out]; have ka := And.intro (keep_cell hb1 c0) (keep_cell hb1 c1); have hp1 := Pts.below (w := wr.drew) ⟨hwp.cells⟩ hb1)
              | (go_at_call 66; refine (units_any l _ _ _ _ hp1 Hn.out hok.2 hl6).mono ?_; rintro e w2 ⟨ao3, cap3, rfl, hI, hb2⟩; have kb := And.intro (keep_cell hb2 ka.1) (keep_cell hb2 ka.2))
              | (go_at_call 135; refine (risPlace_any _ _ _ n d _ hUL hdd.1 (by omega) hrk.2).mono ?_; rintro e w3 ⟨rfl, hb3⟩; have kc := And.intro (keep_cell hb3 kb.1) (keep_cell hb3 kb.2); rw [hvu.out]; replace hB := (below_drewN hB 1).trans (hb1.mono (by have := hB.size; exact this)); replace hB := hB.trans (hb2.mono hB.size); replace hB := hB.trans (hb3.mono hB.size)))
          cases Z with
          | false =>
            have hcc : Hid (C = 1) := Lib.hid (by
              rw [← HC.out]; unfold Fl.askedC
              rw [if_neg (by rw [← Hv.out]; simp), Haf.out rfl]; rfl)
            go_wp2
            go_ret
            exact ⟨ret_int hcc.out.symm, hB⟩
          | true =>
            go_wp2
            go_roundw
            case rel =>
              refine ⟨k + 1, by omega, by go_num, Lib.hid fun j hj => ?_, hB⟩
              by_cases e : j = k
              · subst e; rw [← Hnd.out.1, ← Hnd.out.2]; exact HZ.out
              · exact hall.out j (by omega)
            case measure => simp [intOf]; omega
      · have hk2 : k = q := by omega
        have Hk := Lib.hid hk2
        clear hk2
        have hcc : Hid (C = 0) := Lib.hid (by
          rw [← HC.out]; unfold Fl.askedC
          rw [if_neg (by rw [← Hv.out]; simp), all_true (fun j hj => hall.out j (by rw [Hk.out, Hq.out]; exact hj))]; rfl)
        go_wp2
        go_ret
        exact ⟨ret_int hcc.out.symm, hB⟩
  · have hcc : Hid (C = v) := Lib.hid (by
      rw [← HC.out]; unfold Fl.askedC
      rw [if_pos (by rw [← Hv.out]; exact code_ne hv0), Hv.out])
    go_wp2
    go_ret
    exact ⟨ret_int hcc.out.symm, Below.refl _ _⟩
end Go.Proofs.Ytemlfklipkpacaa

namespace Go.Proofs.Ytemlfklipkpacaa
open Go.RowKit

theorem pts_two {w : World} {g : Nat} {n1 d1 n2 d2 : Int} {t : TypeId} (h : w.heap[g]? = some (.cells #[.int .i64 n1, .int .i64 d1, .int .i64 n2, .int .i64 d2] t (0, 0))) : Pts w (some ⟨g, 0, none⟩) [(n1, d1), (n2, d2)] := by
  have hc := fun j => cell_of_row w g j _ _ _ h
  refine ⟨fun _ => ⟨_, 0, rfl, heap_lt h, fun i hi => ?_⟩⟩
  match i, hi with
  | 0, _ => exact ⟨hc 0, hc 1⟩
  | 1, _ => exact ⟨hc 2, hc 3⟩
theorem asked_two {l : List (Int × Int)} {n1 d1 n2 d2 : Int} : Fl.askedC l [(n1, d1), (n2, d2)] = if Fl.validate l ≠ 0 then Fl.validate l else if (Fl.plc (Fl.len l) n1 d1 1000 && Fl.plc (Fl.len l) n2 d2 1000) then 0 else 1 := by
  unfold Fl.askedC; simp
theorem placeU_of {l : List (Int × Int)} (hok : Fl.Ok l) {a : Rat} (h0 : 0 ≤ a) (h1 : a ≤ (Fl.len l : Rat)) (hd : (a.den : Int) ≤ 1000000) : PlaceU (Fl.units l).length a :=
  ⟨h0, by rw [Fl.units_length hok]; exact h1, by omega⟩
theorem less_places {a b : Rat} {L : Int} (ha : 0 ≤ a) (hb : 0 ≤ b) (ha2 : a ≤ (L : Rat)) (hb2 : b ≤ (L : Rat)) (hL : L ≤ 140) (_ : 0 ≤ L) (d1 : (a.den : Int) ≤ 1000000) (d2 : (b.den : Int) ≤ 1000000) : SumQ a b := by
  have c : ∀ x : Rat, x ≤ (L : Rat) → x ≤ ((140 : Nat) : Rat) := fun x h => Rat.le_trans h (by exact_mod_cast hL)
  have hd : a.den * b.den ≤ 1000000 * 1000000 := Nat.mul_le_mul (by omega) (by omega)
  exact sumQ_of ha hb 140 140 (c a ha2) (c b hb2) 1000000000000 (by omega) (by omega) (by omega) (by omega)

set_option maxRecDepth 100000 in
set_option maxHeartbeats 4000000 in
theorem rWorth_any (l : List (Int × Int)) (ao : Option Addr) (m cap : Nat) (n1 d1 n2 d2 : Int) (w : World) (hp : Pts w ao l) (hln : m = l.length) (hm : m ≤ 100000) (hn1 : n1 ≤ 9223372036854775807) (hn2 : n2 ≤ 9223372036854775807) (hn3 : -9223372036854775808 ≤ n1) (hn4 : -9223372036854775808 ≤ n2) :
    Calls Try.prog 26 #[.slice ao m cap, .agg #[.int .i64 n1, .int .i64 d1], .agg #[.int .i64 n2, .int .i64 d2]] w fun e w' => e = .returned (.tuple #[frOr (Fl.wcode l n1 d1 n2 d2) (Fl.worth l (mkRat n1 d1.toNat) (mkRat n2 d2.toNat)), .int .i64 (Fl.wcode l n1 d1 n2 d2)]) ∧ Below w.heap.size w w' := by
  have Hn := Lib.hid hln
  clear hln
  obtain ⟨C, hC⟩ : ∃ c, Fl.wcode l n1 d1 n2 d2 = c := ⟨_, rfl⟩
  rw [hC]
  have HC := Lib.hid hC
  clear hC
  have hB := below_alloc4 w (.cells #[.int .i64 n1, .int .i64 d1] 29) (.cells #[.int .i64 n2, .int .i64 d2] 29) (.cells #[.int .i64 0, .int .i64 0] 29) (.cells #[.int .i64 n1, .int .i64 d1, .int .i64 n2, .int .i64 d2] 29)
  have A2 := heap_alloc4 w (.cells #[.int .i64 n1, .int .i64 d1] 29) (.cells #[.int .i64 n2, .int .i64 d2] 29) (.cells #[.int .i64 0, .int .i64 0] 29) (.cells #[.int .i64 n1, .int .i64 d1, .int .i64 n2, .int .i64 d2] 29)
  replace hp := hp.below hB
  have HA := Lib.hid (And.intro hB A2)
  clear hB A2
  obtain ⟨v, hv⟩ : ∃ v, v = Fl.validate l := ⟨_, rfl⟩
  have hv0 : v = 0 ∨ (v != 0) = true := by by_cases h : v = 0 <;> simp [h]
  have Hv := Lib.hid hv
  clear hv
  obtain ⟨V, hV⟩ : ∃ x, x = Fl.worth l (mkRat n1 d1.toNat) (mkRat n2 d2.toNat) := ⟨_, rfl⟩
  rw [← hV]
  have HV := Lib.hid hV
  clear hV
  have HR : Hid (∀ p ∈ [(n1, d1), (n2, d2)], -9223372036854775808 ≤ p.1 ∧ p.1 ≤ 9223372036854775807) := Lib.hid (by
    intro p hp
    simp only [List.mem_cons, List.not_mem_nil, or_false] at hp
    rcases hp with rfl | rfl
    · exact ⟨hn3, hn1⟩
    · exact ⟨hn4, hn2⟩)
  have HAsk := Lib.hid (asked_two (l := l) (n1 := n1) (d1 := d1) (n2 := n2) (d2 := d2))
  go_enter Try.func26, Try.ntmps26
  go_wp2_with fail
  obtain ⟨hB, r4, r5, r6, r7⟩ := HA.out
  have hq := pts_two r7
  clear HA r7
  refine (rasked_any l [(n1, d1), (n2, d2)] _ _ _ _ _ _ _ hp Hn.out hm hq rfl (by simp) HR.out).mono ?_
  rintro e w1 ⟨rfl, hbb⟩
  replace hp := hp.below hbb
  replace r4 := heap_keep hbb r4
  replace r5 := heap_keep hbb r5
  replace r6 := heap_keep hbb r6
  replace hB := hB.trans (hbb.mono hB.size)
  clear hbb
  clear hq
  rw [HAsk.out, ← Hv.out]
  rcases hv0 with rfl | hv0
  · have hok := Fl.validate_ok.1 Hv.out.symm
    have hlb := Fl.len_bound hok.2
    have hl1 := hok.1.1
    have hl6 := hok.1.2
    rw [if_neg (by simp)]
    cases hpp : (Fl.plc (Fl.len l) n1 d1 1000 && Fl.plc (Fl.len l) n2 d2 1000) with
    | false =>
      have hc := Fl.wcode_arg (n1 := n1) (d1 := d1) (n2 := n2) (d2 := d2) Hv.out.symm (by rw [← Bool.and_assoc, hpp]; rfl)
      rw [HC.out] at hc
      subst hc
      clear hpp
      obtain ⟨⟨c0, c1⟩, f0, f1⟩ := row_fr r6
      simp only [Bool.false_eq_true, if_false]
      go_wp2
      rw [show frOr 1 V = .agg #[.int .i64 0, .int .i64 0] from rfl]
      exact bodyPost_ret (results_cell_tmp rfl _ _ _ _ _ _ _ rfl (two_cells r6 (.int .i64 0) (.int .i64 0)) Try.underlying29 rfl infoRat2) rfl ⟨rfl, below_setCell (below_setCell hB (by omega) _) (by omega) _⟩
    | true =>
      have hp12 : Fl.plc (Fl.len l) n1 d1 1000 = true ∧ Fl.plc (Fl.len l) n2 d2 1000 = true := by simpa using hpp
      clear hpp
      obtain ⟨q1, hq1, a1, a2, a3, a4, a5⟩ := Fl.plc_rat hp12.1
      obtain ⟨q2, hq2, b1, b2, b3, b4, b5⟩ := Fl.plc_rat hp12.2
      have Hp := Lib.hid hp12
      clear hp12
      have hS := less_places b3 a3 b4 a4 (by omega) (by omega) (by omega) (by omega)
      have hu := unitsOk_of hok.2 hl6
      have pu1 := placeU_of hok.2 a3 a4 (by omega)
      have pu2 := placeU_of hok.2 b3 b4 (by omega)
      have HQ := Lib.hid (And.intro hq1 hq2)
      clear hq1 hq2
      subst a1 b1 a2 b2
      obtain ⟨⟨c0, c1⟩, -, -⟩ := row_fr r4
      obtain ⟨⟨c2, c3⟩, -, -⟩ := row_fr r5
      simp only [if_true]
      go_wp2_with fail
      refine (rless_q q2 q1 _ hS).mono ?_
      rintro e w2 ⟨rfl, hbb⟩
      replace hp := hp.below hbb
      replace r4 := heap_keep hbb r4
      replace r5 := heap_keep hbb r5
      replace r6 := heap_keep hbb r6
      replace hB := hB.trans (hbb.mono hB.size)
      clear hbb
      clear c0 c1 c2 c3
      by_cases hle : q1 ≤ q2
      · have hc := Fl.wcode_ok (n1 := q1.num) (d1 := q1.den) (n2 := q2.num) (d2 := q2.den) Hv.out.symm (by rw [Hp.out.1, Hp.out.2, ← HQ.out.1, ← HQ.out.2]; simpa using hle)
        rw [HC.out] at hc
        subst hc
        have hcm : decide (q2 < q1) = false := decide_eq_false (by grind)
        rw [hcm]
        have HV2 : Hid (Fl.before (Fl.units l) q2 - Fl.before (Fl.units l) q1 = V) := Lib.hid (by rw [HV.out, ← HQ.out.1, ← HQ.out.2, Fl.worth_before hok.2 a3 hle])
        obtain ⟨⟨c0, c1⟩, -, -⟩ := row_fr r4
        obtain ⟨⟨c2, c3⟩, -, -⟩ := row_fr r5
        clear hle hcm
        go_wp2_with fail
        have hp0 : Pts w2.drew ao l := ⟨hp.cells⟩
        go_region_held3 (fun w' => w'.cell? ⟨w.heap.size, 0, none⟩ = some (.int .i64 q1.num) ∧ w'.cell? ⟨w.heap.size, 1, none⟩ = some (.int .i64 q1.den) ∧ w'.cell? ⟨w.heap.size + 1, 0, none⟩ = some (.int .i64 q2.num) ∧ w'.cell? ⟨w.heap.size + 1, 1, none⟩ = some (.int .i64 q2.den))
          (first | exact ⟨c0, c1, c2, c3⟩ | exact ⟨cell_two_other _ _ (by omega) kb.1, cell_two_other _ _ (by omega) kb.2.1, cell_two_other _ _ (by omega) kb.2.2.1, cell_two_other _ _ (by omega) kb.2.2.2⟩ | exact ka | exact kb)
          (first
            | (go_at_call 66; refine (units_any l _ _ _ _ hp0 Hn.out hok.2 hl6).mono ?_; rintro e w3 ⟨ao3, cap3, rfl, hI, hb1⟩; have ka := And.intro (keep_cell hb1 c0) (And.intro (keep_cell hb1 c1) (And.intro (keep_cell hb1 c2) (keep_cell hb1 c3))))
            | (go_at_call 76; refine (rbetween_any _ q1 q2 _ _ _ hI hu pu1 pu2).mono ?_; rintro e w4 ⟨rfl, hb2⟩; have kb := And.intro (keep_cell hb2 ka.1) (And.intro (keep_cell hb2 ka.2.1) (And.intro (keep_cell hb2 ka.2.2.1) (keep_cell hb2 ka.2.2.2))); rw [HV2.out]; replace hB := (below_drewN hB 1).trans (hb1.mono (by have := hB.size; exact this)); replace hB := hB.trans (hb2.mono hB.size); replace r6 := heap_keep hb2 (heap_keep hb1 r6); obtain ⟨⟨e0, e1⟩, f0, f1⟩ := row_fr r6))
        go_wp2
        rw [show frOr 0 V = Fr V from rfl]
        exact bodyPost_ret (results_cell_tmp rfl _ _ _ _ _ _ _ rfl (two_cells r6 (.int .i64 V.num) (.int .i64 V.den)) Try.underlying29 rfl infoRat2) rfl ⟨rfl, below_setCell (below_setCell hB (by omega) _) (by omega) _⟩
      · have hc := Fl.wcode_arg (n1 := q1.num) (d1 := q1.den) (n2 := q2.num) (d2 := q2.den) Hv.out.symm (by rw [Hp.out.1, Hp.out.2, ← HQ.out.1, ← HQ.out.2]; simpa using hle)
        rw [HC.out] at hc
        subst hc
        have hcm : decide (q2 < q1) = true := decide_eq_true (by grind)
        rw [hcm]
        clear hle hcm
        obtain ⟨⟨c0, c1⟩, f0, f1⟩ := row_fr r6
        go_wp2
        rw [show frOr 1 V = .agg #[.int .i64 0, .int .i64 0] from rfl]
        exact bodyPost_ret (results_cell_tmp rfl _ _ _ _ _ _ _ rfl (two_cells r6 (.int .i64 0) (.int .i64 0)) Try.underlying29 rfl infoRat2) rfl ⟨rfl, below_setCell (below_setCell hB (by omega) _) (by omega) _⟩
  · have hc := Fl.wcode_bad (l := l) (n1 := n1) (d1 := d1) (n2 := n2) (d2 := d2) (by rw [← Hv.out]; exact code_ne hv0)
    rw [HC.out, ← Hv.out] at hc
    subst hc
    rw [if_pos (code_ne hv0)]
    obtain ⟨⟨c0, c1⟩, f0, f1⟩ := row_fr r6
    go_wp2
    rw [frOr_no hv0]
    exact bodyPost_ret (results_cell_tmp rfl _ _ _ _ _ _ _ rfl (two_cells r6 (.int .i64 0) (.int .i64 0)) Try.underlying29 rfl infoRat2) rfl ⟨rfl, below_setCell (below_setCell hB (by omega) _) (by omega) _⟩
end Go.Proofs.Ytemlfklipkpacaa

namespace Go.Proofs.Ytemlfklipkpacaa
open Go.ChangeShapes Go.WideShapes Go.ChangeAt Go.RowKit Go.Deep

/-- Two cells in a row, read. -/
theorem cells_two {w : World} {a : Addr} {cs : List Value} (h : w.cells? 0 a 2 = some cs) : ∃ v0 v1, cs = [v0, v1] ∧ w.cell? (a.add 0) = some v0 ∧ w.cell? (a.add 1) = some v1 := by
  obtain ⟨_, hl, hat⟩ := World.cells?_some h
  match cs, hl with
  | [v0, v1], _ => exact ⟨v0, v1, rfl, by simpa using hat 0 (by simp), by simpa using hat 1 (by simp)⟩
theorem spot_none {w : World} {a : Addr} {v : Value} (h : w.cell? a = some v) : a.spot = none ∧ a.block < w.heap.size := by
  unfold World.cell? at h
  split at h
  · rename_i hb
    refine ⟨?_, (Array.getElem?_eq_some_iff.1 hb).1⟩
    cases hs : a.spot with
    | none => rfl
    | some k => rw [hs] at h; cases h
  · cases h

set_option maxRecDepth 100000 in
/-- An argument that is a slice of zones: nil, or zones that lie in memory. -/
theorem open_zones {H : Type} {enc : TypeId × Value → H} {w : World} {v : Value} {d : DataW H} {p : List MemPlace} (hv : Value.okWide Try.prog w .any 0 22 v)
    (h : DataW.Trod enc Try.prog w 0 (fun _ => true) true 22 v d p) :
    ∃ (ao : Option Addr) (len cap : Nat) (l : List (Int × Int)), v = .slice ao len cap ∧ len = l.length ∧ len ≤ cap ∧ Pts w ao l := by
  obtain ⟨a0, n0, c0, rfl⟩ := okWide_slice Try.underlying22 hv
  obtain ⟨fuel, hf⟩ := h
  rcases open_slice Try.underlying22 hf with ⟨h0, _⟩ | ⟨a, len, cap, m, n, D, Pl, hcs, hb, hl, hm, hmm, hx, hi⟩
  · simp [Value.cells] at h0
    obtain ⟨rfl, rfl, rfl⟩ := h0
    exact ⟨none, 0, 0, [], rfl, rfl, Nat.le_refl _, ⟨fun h => by simp at h⟩⟩
  · simp [Value.cells] at hcs
    obtain ⟨rfl, rfl, rfl⟩ := hcs
    have hC : Try.prog.cellsOf 85 = 2 := by kernel_rfl
    simp only [if_true] at hmm
    have key : ∀ i, ∃ q : Int × Int, i < n0 → w.cell? (a.add (i * 2 + 0)) = some (.int .i64 q.1) ∧ w.cell? (a.add (i * 2 + 1)) = some (.int .i64 q.2) := by
      intro i
      by_cases hin : i < n0
      · obtain ⟨cs', hc, ht⟩ := hi i (by omega)
        rw [hC] at hc
        obtain ⟨v0, v1, rfl, e0, e1⟩ := cells_two hc
        obtain ⟨ys, n', hn', hy, hlen, hyl, hg⟩ := DataW.trod_struct Try.underlying85 ht
        have hone : oneCellFields Try.prog #[{ name := "Length", type := 3, offset := 0, embedded := false, tag := "", pkgPath := "", byteOffset := 0 }, { name := "Value", type := 3, offset := 1, embedded := false, tag := "", pkgPath := "", byteOffset := 8 }] = true := by kernel_rfl
        obtain ⟨o0, k0⟩ := hone_of hone 0 _ rfl
        obtain ⟨o1, k1⟩ := hone_of hone 1 _ rfl
        have g0 := hg 0 _ rfl
        have g1 := hg 1 _ rfl
        rw [o0, k0] at g0
        rw [o1, k1] at g1
        obtain ⟨x, hx1, _, _⟩ := DataW.trod_int (cs := [v0]) Try.underlying3 (g0.trans (List.getElem?_eq_getElem (by rw [hyl]; decide)))
        obtain ⟨y, hy1, _, _⟩ := DataW.trod_int (cs := [v1]) Try.underlying3 (g1.trans (List.getElem?_eq_getElem (by rw [hyl]; decide)))
        simp only [List.cons.injEq, and_true] at hx1 hy1
        rw [Go.Deep.add_add] at e0 e1
        exact ⟨(x, y), fun _ => ⟨by rw [← hx1]; exact e0, by rw [← hy1]; exact e1⟩⟩
      · exact ⟨(0, 0), fun h => absurd h hin⟩
    obtain ⟨f, hf2⟩ := Classical.axiomOfChoice key
    refine ⟨some a, n0, c0, (List.range n0).map f, rfl, by simp, hl, ⟨fun h0 => ?_⟩⟩
    have h00 : 0 < n0 := by simpa using h0
    have hs := spot_none (hf2 0 h00).1
    have ha : a.add (0 * 2 + 0) = a := by simp [Addr.add]
    rw [ha] at hs
    obtain ⟨b, off, sp⟩ := a
    obtain ⟨rfl, hbs⟩ := hs
    refine ⟨b, off, rfl, hbs, fun i hil => ?_⟩
    have hil : i < n0 := by simpa using hil
    obtain ⟨k1, k2⟩ := hf2 i hil
    have eg : ((List.range n0).map f).getD i (0, 0) = f i := by simp [List.getD_eq_getElem?_getD, hil]
    rw [eg]
    have n1 : ∀ j, ({ block := b, off := off, spot := none } : Addr).add j = { block := b, off := off + j, spot := none } := by
      intro j
      unfold Addr.add
      by_cases e : j = 0
      · rw [if_pos e, e]; rfl
      · rw [if_neg e]
    rw [n1] at k1 k2
    exact ⟨k1, k2⟩
end Go.Proofs.Ytemlfklipkpacaa

namespace Go.Proofs.Ytemlfklipkpacaa
open Go.Joins Go.Deep Go.ChangeShapes Go.WideShapes Go.ChangeAt Go.RowKit

/-- Numbers that an int can hold. -/
def Rng (n : Int) : Prop := -9223372036854775808 ≤ n ∧ n ≤ 9223372036854775807
theorem rng_of {n : Int} (h : (Lit.int .i64 n).wf = true) : Rng n := by
  unfold Rng
  simp only [Lit.wf, Bool.and_eq_true, decide_eq_true_eq] at h
  have h1 : IntKind.i64.min = -9223372036854775808 := by decide +kernel
  have h2 : IntKind.i64.max = 9223372036854775807 := by decide +kernel
  omega
theorem array4 {α : Type} {a : Array α} (h : a.size = 4) : ∃ x0 x1 x2 x3, a = #[x0, x1, x2, x3] := by
  obtain ⟨l⟩ := a
  match l, h with
  | [x0, x1, x2, x3], _ => exact ⟨x0, x1, x2, x3, rfl⟩

set_option maxRecDepth 100000 in
theorem rat_cells {H : Type} {enc : TypeId × Value → H} {w : World} {n : Nat} {c0 c1 : Value} {y : DataW H × List MemPlace} (h : DataW.trod enc Try.prog w 0 (fun _ => true) true n 29 [c0, c1] = some y) :
    ∃ a b : Int, c0 = .int .i64 a ∧ c1 = .int .i64 b ∧ Rng a ∧ Rng b := by
  obtain ⟨y0, y1, n2, _, _, h0, h1⟩ := trod_struct2 Try.underlying29 h
  have k : Try.prog.cellsOf 3 = 1 := by kernel_rfl
  dsimp only at h0 h1
  rw [k] at h0 h1
  obtain ⟨a, ha, _, wa⟩ := DataW.trod_int (cs := [c0]) Try.underlying3 h0
  obtain ⟨b, hb, _, wb⟩ := DataW.trod_int (cs := [c1]) Try.underlying3 h1
  simp only [List.cons.injEq, and_true] at ha hb
  exact ⟨a, b, ha, hb, rng_of wa, rng_of wb⟩

set_option maxRecDepth 100000 in
/-- An argument that is a fraction. -/
theorem open_rat {H : Type} {enc : TypeId × Value → H} {w : World} {v : Value} {d : DataW H} {p : List MemPlace} (hv : Value.okWide Try.prog w .any 0 29 v)
    (h : DataW.Trod enc Try.prog w 0 (fun _ => true) true 29 v d p) : ∃ x y : Int, v = .agg #[.int .i64 x, .int .i64 y] ∧ Rng x ∧ Rng y := by
  obtain ⟨cs, rfl, hsz⟩ := okWide_struct Try.underlying29 hv
  obtain ⟨c0, c1, rfl⟩ := array2 (hsz.trans (by kernel_rfl))
  obtain ⟨fuel, hf⟩ := h
  obtain ⟨a, b, rfl, rfl, ra, rb⟩ := rat_cells (c0 := c0) (c1 := c1) (by simpa [Value.cells] using hf)
  exact ⟨a, b, rfl, ra, rb⟩

set_option maxRecDepth 100000 in
/-- An argument that is two places. -/
theorem open_stretch {H : Type} {enc : TypeId × Value → H} {w : World} {v : Value} {d : DataW H} {p : List MemPlace} (hv : Value.okWide Try.prog w .any 0 35 v)
    (h : DataW.Trod enc Try.prog w 0 (fun _ => true) true 35 v d p) : ∃ n1 d1 n2 d2 : Int, v = .agg #[.int .i64 n1, .int .i64 d1, .int .i64 n2, .int .i64 d2] ∧ Rng n1 ∧ Rng d1 ∧ Rng n2 ∧ Rng d2 := by
  obtain ⟨cs, rfl, hsz⟩ := okWide_struct Try.underlying35 hv
  obtain ⟨c0, c1, c2, c3, rfl⟩ := array4 (hsz.trans (by kernel_rfl))
  obtain ⟨fuel, hf⟩ := h
  obtain ⟨y0, y1, n2, _, _, h0, h1⟩ := trod_struct2 Try.underlying35 hf
  have hC : Try.prog.cellsOf 29 = 2 := by kernel_rfl
  dsimp only at h0 h1
  rw [hC] at h0 h1
  obtain ⟨a, b, rfl, rfl, ra, rb⟩ := rat_cells (c0 := c0) (c1 := c1) (by simpa [Value.cells] using h0)
  obtain ⟨c, d, rfl, rfl, rc, rd⟩ := rat_cells (c0 := c2) (c1 := c3) (by simpa [Value.cells] using h1)
  exact ⟨a, b, c, d, rfl, ra, rb, rc, rd⟩
end Go.Proofs.Ytemlfklipkpacaa

namespace Go.Proofs.Ytemlfklipkpacaa
open Go.RowKit

set_option maxRecDepth 100000 in
set_option maxHeartbeats 2000000 in
theorem soilWorths_any (l : List (Int × Int)) (ao : Option Addr) (n cap : Nat) (n1 d1 n2 d2 : Int) (w : World) (hp : Pts w ao l) (hln : n = l.length) (hn1 : Rng n1) (_ : Rng d1) (hn2 : Rng n2) (_ : Rng d2) :
    Calls Try.prog 4 #[.slice ao n cap, .agg #[.int .i64 n1, .int .i64 d1, .int .i64 n2, .int .i64 d2]] w fun e w' => e = .returned (.bool true) ∧ Below w.heap.size w w' := by
  have Hn := Lib.hid hln
  clear hln
  have hB : Below w.heap.size w (w.alloc (.cells #[.int .i64 n1, .int .i64 d1, .int .i64 n2, .int .i64 d2] 35)) := (Below.refl _ w).alloc (Nat.le_refl _) _
  replace hp := hp.below hB
  have r0 := heap_alloc_new w (.cells #[.int .i64 n1, .int .i64 d1, .int .i64 n2, .int .i64 d2] 35)
  have HA := Lib.hid (And.intro hB r0)
  clear hB r0
  by_cases hlong : 100 < n
  · have hd : (decide (100 < n) || decide (100 < 0)) = true := by simp [hlong]
    go_enter Try.func4, Try.ntmps4
    go_wp2_with fail
    refine (long_any n 0 cap 0 ao none _).mono ?_
    rintro e w1 ⟨rfl, rfl⟩
    rw [hd]
    go_wp2_with fail
    refine (known_any _).mono ?_
    rintro e w1 ⟨rfl, hb⟩
    go_wp2
    go_ret
    exact ⟨rfl, HA.out.1.trans (hb.mono HA.out.1.size)⟩
  · have hd : (decide (100 < n) || decide (100 < 0)) = false := by simp; omega
    have hn : n ≤ 100000 := by omega
    clear hlong
    obtain ⟨a, b, hab⟩ := frOr_pair (Fl.wcode l n1 d1 n2 d2) (Fl.worth l (mkRat n1 d1.toNat) (mkRat n2 d2.toNat))
    have Hab := Lib.hid hab
    clear hab
    obtain ⟨C, hC⟩ : ∃ L, Fl.wcode l n1 d1 n2 d2 = L := ⟨_, rfl⟩
    have HC := Lib.hid hC
    clear hC
    go_enter Try.func4, Try.ntmps4
    go_wp2_with fail
    refine (long_any n 0 cap 0 ao none _).mono ?_
    rintro e w1 ⟨rfl, rfl⟩
    rw [hd]
    clear hd
    obtain ⟨hB, r0⟩ := HA.out
    clear HA
    generalize w.alloc (.cells #[.int .i64 n1, .int .i64 d1, .int .i64 n2, .int .i64 d2] 35) = wx at hB r0 hp ⊢
    have c0 := cell_of_row wx _ 0 _ _ _ r0
    have c1 := cell_of_row wx _ 1 _ _ _ r0
    have c2 := cell_of_row wx _ 2 _ _ _ r0
    have c3 := cell_of_row wx _ 3 _ _ _ r0
    simp at c0 c1 c2 c3
    clear r0
    go_wp2_with fail
    refine (Worth_any l _ _ _ n1 d1 n2 d2 _ hp Hn.out hn hn1.2 hn2.2).mono ?_
    rintro e w1 ⟨rfl, hbb⟩
    replace hp := hp.below hbb
    replace c0 := keep_cell hbb c0
    replace c1 := keep_cell hbb c1
    replace c2 := keep_cell hbb c2
    replace c3 := keep_cell hbb c3
    replace hB := hB.trans (hbb.mono hB.size)
    clear hbb
    rw [Hab.out, HC.out]
    have hA := (Below.refl _ w1).alloc (Nat.le_refl _) (.cells #[.int .i64 a, .int .i64 b] 29)
    have r1 := heap_alloc_new w1 (.cells #[.int .i64 a, .int .i64 b] 29)
    replace hp := hp.below hA
    replace c0 := keep_cell hA c0
    replace c1 := keep_cell hA c1
    replace c2 := keep_cell hA c2
    replace c3 := keep_cell hA c3
    replace hB := hB.trans (hA.mono hB.size)
    clear hA
    go_wp2_with fail
    refine (rWorth_any l _ _ _ n1 d1 n2 d2 _ hp Hn.out hn hn1.2 hn2.2 hn1.1 hn2.1).mono ?_
    rintro e w2 ⟨rfl, hbb⟩
    replace hp := hp.below hbb
    replace c0 := keep_cell hbb c0
    replace c1 := keep_cell hbb c1
    replace c2 := keep_cell hbb c2
    replace c3 := keep_cell hbb c3
    replace r1 := heap_keep hbb r1
    replace hB := hB.trans (hbb.mono hB.size)
    clear hbb
    rw [Hab.out, HC.out]
    clear c0 c1 c2 c3
    have hA := (Below.refl _ w2).alloc (Nat.le_refl _) (.cells #[.int .i64 a, .int .i64 b] 29)
    have r2 := heap_alloc_new w2 (.cells #[.int .i64 a, .int .i64 b] 29)
    replace hp := hp.below hA
    replace r1 := heap_keep hA r1
    replace hB := hB.trans (hA.mono hB.size)
    clear hA
    obtain ⟨⟨c0, c1⟩, -, -⟩ := row_fr r1
    obtain ⟨⟨c2, c3⟩, -, -⟩ := row_fr r2
    have q1 := run_eq_rt a b a b
    simp only [decide_true] at q1
    go_wp2_with fail
    refine (known_any _).mono ?_
    rintro e w10 ⟨rfl, hb⟩
    go_wp2
    go_ret
    exact ⟨rfl, hB.trans (hb.mono hB.size)⟩
end Go.Proofs.Ytemlfklipkpacaa

namespace Go.Proofs.Ytemlfklipkpacaa
open Go.RowKit

/-- Numbers with which the statements reckon. -/
def fairB (p : Int × Int) : Bool := decide (1 ≤ p.2) && (decide (p.2 ≤ 1073741824) && (decide (p.1 ≤ 35184372088832) && decide (-35184372088832 ≤ p.1)))
theorem fairB_iff {p : Int × Int} : fairB p = true ↔ 1 ≤ p.2 ∧ p.2 ≤ 1073741824 ∧ p.1 ≤ 35184372088832 ∧ -35184372088832 ≤ p.1 := by
  unfold fairB; simp
set_option maxRecDepth 100000 in
set_option maxHeartbeats 2000000 in
theorem fair_any (ps : List (Int × Int)) (ao : Option Addr) (n cap : Nat) (w : World) (hp : Pts w ao ps) (hln : n = ps.length) (hn : n ≤ 100000) :
    Calls Try.prog 35 #[.slice ao n cap] w fun e w' => e = .returned (.bool (ps.all fairB)) ∧ w = w' := by
  have Hn := Lib.hid hln
  clear hln
  obtain ⟨R, hR⟩ : ∃ r, ps.all fairB = r := ⟨_, rfl⟩
  rw [hR]
  have HR := Lib.hid hR
  clear hR
  go_enter Try.func35, Try.ntmps35
  go_wp2
  go_loop [3] (fun i => ∃ k : Nat, k ≤ n ∧ i = .int .i64 k ∧ Hid (∀ j, j < k → fairB (ps.getD j (0, 0)) = true)) (fun i => n - (intOf i).toNat)
  case atStart => exact ⟨0, Nat.zero_le _, rfl, Lib.hid fun j hj => by omega⟩
  case round =>
    obtain ⟨k, hk, rfl, hall⟩ := hrel
    by_cases hlt : k < n
    · have hkl : k < ps.length := by have := Hn.out; omega
      obtain ⟨b, off, rfl, hbs, hc⟩ := hp.cells (by omega)
      obtain ⟨hc1, hc2⟩ := hc k hkl
      clear hc hp
      have i1 : (k : Int) < (n : Int) := by omega
      have haf := all_false hkl (f := fairB)
      obtain ⟨z, hz⟩ : ∃ x, x = ps.getD k (0, 0) := ⟨_, rfl⟩
      rw [← hz] at hc1 hc2 haf
      obtain ⟨x, y⟩ := z
      simp only at hc1 hc2
      have Hz := Lib.hid hz
      clear hz
      cases hok : fairB (x, y) with
      | true =>
        obtain ⟨q1, q2, q3, q4⟩ := fairB_iff.1 hok
        simp only at q1 q2 q3 q4
        clear haf
        have Hok := Lib.hid hok
        clear hok
        go_wp2
        go_round
        case rel =>
          refine ⟨k + 1, by omega, by go_num, Lib.hid fun j hj => ?_⟩
          by_cases e : j = k
          · subst e; rw [← Hz.out]; exact Hok.out
          · exact hall.out j (by omega)
        case measure => simp [intOf]; omega
      | false =>
        have hv : Hid (R = false) := Lib.hid (HR.out.symm.trans (haf hok))
        have hq : y < 1 ∨ (1 ≤ y ∧ 1073741824 < y) ∨ (1 ≤ y ∧ y ≤ 1073741824 ∧ 35184372088832 < x) ∨ (1 ≤ y ∧ y ≤ 1073741824 ∧ x ≤ 35184372088832 ∧ x < -35184372088832) := by
          have : ¬ (1 ≤ y ∧ y ≤ 1073741824 ∧ x ≤ 35184372088832 ∧ -35184372088832 ≤ x) := fun h => by rw [fairB_iff.2 h] at hok; cases hok
          omega
        clear haf hok
        rcases hq with q | ⟨q1, q2⟩ | ⟨q1, q2, q3⟩ | ⟨q1, q2, q3, q4⟩ <;>
        · go_wp2
          go_ret
          exact ⟨ret_bool hv.out.symm, rfl⟩
    · have hk2 : k = n := by omega
      have Hk := Lib.hid hk2
      clear hk2
      have hv : Hid (R = true) := Lib.hid (HR.out.symm.trans (all_true fun j hj => hall.out j (by rw [Hk.out, Hn.out]; exact hj)))
      go_wp2
      go_ret
      exact ⟨ret_bool hv.out.symm, rfl⟩

namespace Fl
theorem wcode_inv {l : List (Int × Int)} {n1 d1 n2 d2 : Int} (h : wcode l n1 d1 n2 d2 = 0) :
    validate l = 0 ∧ plc (len l) n1 d1 1000 = true ∧ plc (len l) n2 d2 1000 = true ∧ mkRat n1 d1.toNat ≤ mkRat n2 d2.toNat := by
  unfold wcode at h
  by_cases h0 : validate l = 0
  · rw [if_neg (by simp [h0])] at h
    refine ⟨h0, ?_⟩
    by_cases h2 : (plc (len l) n1 d1 1000 && (plc (len l) n2 d2 1000 && decide (mkRat n1 d1.toNat ≤ mkRat n2 d2.toNat))) = true
    · simpa using h2
    · rw [if_neg h2] at h; omega
  · rw [if_pos h0] at h; exact absurd h h0
theorem wcode_mid {l : List (Int × Int)} {n1 d1 n2 d2 n3 d3 : Int} (h : wcode l n1 d1 n2 d2 = 0) (h' : wcode l n2 d2 n3 d3 = 0) : wcode l n1 d1 n3 d3 = 0 := by
  obtain ⟨a1, a2, a3, a4⟩ := wcode_inv h
  obtain ⟨b1, b2, b3, b4⟩ := wcode_inv h'
  exact wcode_ok a1 (by rw [a2, b3]; simpa using Rat.le_trans a4 b4)
theorem worth_mid {l : List (Int × Int)} (hok : Ok l) {a b c : Rat} (ha : 0 ≤ a) (hab : a ≤ b) (hbc : b ≤ c) : worth l a b + worth l b c = worth l a c := by
  rw [worth_before hok ha hab, worth_before hok (Rat.le_trans ha hab) hbc, worth_before hok ha (Rat.le_trans hab hbc)]
  grind
end Fl
/-- What is known of a worth between places. -/
theorem worth_known {l : List (Int × Int)} {n1 d1 n2 d2 : Int} (h : Fl.wcode l n1 d1 n2 d2 = 0) :
    0 ≤ Fl.worth l (mkRat n1 d1.toNat) (mkRat n2 d2.toNat) ∧ Fl.worth l (mkRat n1 d1.toNat) (mkRat n2 d2.toNat) ≤ ((3000 : Nat) : Rat) ∧ (Fl.worth l (mkRat n1 d1.toNat) (mkRat n2 d2.toNat)).den ≤ 1000000 ∧
    (Fl.worth l (mkRat n1 d1.toNat) (mkRat n2 d2.toNat)).num ≤ 3000000000 ∧ 0 ≤ (Fl.worth l (mkRat n1 d1.toNat) (mkRat n2 d2.toNat)).num := by
  obtain ⟨a1, a2, a3, a4⟩ := Fl.wcode_inv h
  obtain ⟨⟨hl1, hl6⟩, hok⟩ := Fl.validate_ok.1 a1
  obtain ⟨q1, hq1, x1, x2, x3, x4, x5⟩ := Fl.plc_rat a2
  obtain ⟨q2, hq2, y1, y2, y3, y4, y5⟩ := Fl.plc_rat a3
  rw [← hq1, ← hq2]
  have hlb := Fl.len_bound hok
  have hd : q1.den * q2.den ≤ 1000 * 1000 := Nat.mul_le_mul (by omega) (by omega)
  obtain ⟨p1, -, -, p4, p5⟩ := (Fl.worth_adds (a := q1) (b := q2) (by omega) hok hl6).2
  have h3 : Fl.worth l q1 q2 ≤ ((3000 : Nat) : Rat) := by
    refine Rat.le_trans p5 ?_
    have : ((20 * Fl.len l : Int) : Rat) ≤ ((3000 : Int) : Rat) := Rat.intCast_le_intCast.2 (by omega)
    exact this
  have hden : (Fl.worth l q1 q2).den ≤ 1000000 := by
    have h4 : (Fl.worth l q1 q2).den ≤ q1.den * q2.den := p4
    omega
  have := Fl.num_le h3
  exact ⟨p1, h3, hden, by omega, Fl.num_nonneg p1⟩
end Go.Proofs.Ytemlfklipkpacaa

namespace Go.Proofs.Ytemlfklipkpacaa
namespace Fl
/-- From unit to unit: where a worth is reached. -/
def reachF (s : Int) (i : Int) : List Int → Rat → Option Rat
  | [], _ => none
  | v :: r, want => if want ≤ ((s + v : Int) : Rat) then some ((i : Rat) + (want - (s : Rat)) / (v : Rat)) else reachF (s + v) (i + 1) r want
theorem reach_zone (v : Int) (hv : 0 ≤ v) (rest : List Int) (want : Rat) : ∀ (n : Nat) (s i : Int), (s : Rat) < want →
    reachF s i (List.replicate n v ++ rest) want = if want ≤ ((s + n * v : Int) : Rat) then some ((i : Rat) + (want - (s : Rat)) / (v : Rat)) else reachF (s + n * v) (i + n) rest want := by
  intro n
  induction n with
  | zero =>
    intro s i hs
    have e : s + ((0 : Nat) : Int) * v = s := by simp
    rw [e, if_neg (by grind)]
    simp
  | succ n ih =>
    intro s i hs
    have hnv : 0 ≤ (n : Int) * v := Int.mul_nonneg (by omega) hv
    have e : s + ((n + 1 : Nat) : Int) * v = s + v + (n : Int) * v := by push_cast; rw [Int.add_mul]; omega
    rw [List.replicate_succ, List.cons_append]
    simp only [reachF]
    rw [e]
    by_cases h1 : want ≤ ((s + v : Int) : Rat)
    · have h2 : ((s + v : Int) : Rat) ≤ ((s + v + (n : Int) * v : Int) : Rat) := Rat.intCast_le_intCast.2 (by omega)
      rw [if_pos h1, if_pos (Rat.le_trans h1 h2)]
    · rw [if_neg h1, ih (s + v) (i + 1) (by grind)]
      have e2 : i + ((n + 1 : Nat) : Int) = i + 1 + (n : Int) := by push_cast; omega
      rw [e2]
      by_cases h2 : want ≤ ((s + v + (n : Int) * v : Int) : Rat)
      · rw [if_pos h2, if_pos h2]
        have hv0 : v ≠ 0 := by
          intro h0
          rw [h0] at h2 h1
          simp at h2 h1
          grind
        have hvr : (v : Rat) ≠ 0 := by
          intro h; exact hv0 (Rat.intCast_eq_zero_iff.1 h)
        congr 1
        rw [Rat.intCast_add, Rat.intCast_add, Rat.div_def, Rat.div_def]
        have hi := Rat.mul_inv_cancel _ hvr
        have e1 : ((1 : Int) : Rat) = 1 := rfl
        rw [e1]
        grind
      · rw [if_neg h2, if_neg h2]
theorem sooner_self (x : Rat) : sooner x x = x := by unfold sooner; split <;> rfl
/-- What a field is worth from a place on, its zones beginning at s. -/
def rem (a : Rat) (s : Int) (l : List (Int × Int)) : Rat := if (s : Rat) ≤ a then (tot l : Rat) - cum l (a - (s : Rat)) else (tot l : Rat)
theorem cum_bound {l : List (Int × Int)} (hok : Ok l) : ∀ {x : Rat}, 0 ≤ x → 0 ≤ cum l x ∧ cum l x ≤ (tot l : Rat) := by
  induction l with
  | nil => intro x _; exact ⟨Rat.le_refl, Rat.le_refl⟩
  | cons z r ih =>
    intro x hx
    have hz := hok.head
    have ht := (tot_bound hok.tail).1
    have r1 : (0 : Rat) ≤ (z.2 : Rat) := by exact_mod_cast hz.2.2.1
    have r2 : (1 : Rat) ≤ (z.1 : Rat) := Rat.intCast_le_intCast.2 hz.1
    have e : ((tot (z :: r) : Int) : Rat) = (z.1 : Rat) * (z.2 : Rat) + ((tot r : Int) : Rat) := by
      rw [← Rat.intCast_mul, ← Rat.intCast_add]; rfl
    have ht2 : (0 : Rat) ≤ ((tot r : Int) : Rat) := by exact_mod_cast ht
    simp only [cum]
    rw [e]
    split
    · have m1 := Rat.mul_nonneg hx r1
      have m2 := Rat.mul_le_mul_of_nonneg_right (show x ≤ (z.1 : Rat) by grind) r1
      exact ⟨m1, by grind⟩
    · have h := ih hok.tail (show 0 ≤ x - (z.1 : Rat) by grind)
      have m1 := Rat.mul_nonneg (show (0 : Rat) ≤ (z.1 : Rat) by grind) r1
      exact ⟨by grind, by grind⟩
theorem reach_place {a want : Rat} {l : List (Int × Int)} (hok : Ok l) : ∀ {s S : Int} {w : Rat}, 0 < w → ((s : Rat) ≤ a → want = (S : Rat) + cum l (a - (s : Rat)) + w) → (¬ (s : Rat) ≤ a → want = (S : Rat) + w) →
    reachF S s (units l) want = if w ≤ rem a s l then some (placeF s a l w) else none := by
  induction l with
  | nil =>
    intro s S w hw _ _
    simp only [units, reachF]
    unfold rem
    rw [if_neg]
    simp only [tot, cum]
    split <;> grind
  | cons z r ih =>
    intro s S w hw h1 h2
    obtain ⟨zl, v⟩ := z
    have hz := hok.head
    simp only at hz
    have r1 : (0 : Rat) ≤ (v : Rat) := by exact_mod_cast hz.2.2.1
    have r2 : (1 : Rat) ≤ (zl : Rat) := Rat.intCast_le_intCast.2 hz.1
    have ht : (0 : Rat) ≤ ((tot r : Int) : Rat) := by exact_mod_cast (tot_bound hok.tail).1
    have e : ((tot ((zl, v) :: r) : Int) : Rat) = (zl : Rat) * (v : Rat) + ((tot r : Int) : Rat) := by
      rw [← Rat.intCast_mul, ← Rat.intCast_add]; rfl
    have en : ((zl.toNat : Nat) : Int) = zl := Int.toNat_of_nonneg (by omega)
    have es : ((s + zl : Int) : Rat) = (s : Rat) + (zl : Rat) := Rat.intCast_add s zl
    have eS : ((S + zl * v : Int) : Rat) = (S : Rat) + (zl : Rat) * (v : Rat) := by rw [Rat.intCast_add, Rat.intCast_mul]
    have hlt : (S : Rat) < want := by
      by_cases hsa : (s : Rat) ≤ a
      · have := (cum_bound hok (show 0 ≤ a - (s : Rat) by grind)).1
        rw [h1 hsa]; grind
      · rw [h2 hsa]; grind
    simp only [units]
    rw [reach_zone v hz.2.2.1 (units r) want zl.toNat S s hlt, en]
    simp only [placeF]
    by_cases hsa : (s : Rat) ≤ a
    · have hw1 := h1 hsa
      simp only [cum] at hw1
      by_cases hin : a - (s : Rat) < (zl : Rat)
      · rw [if_pos hin] at hw1
        have hp : piece (s, s + zl, v) a ((s + zl : Int) : Rat) = ((s : Rat) + (zl : Rat) - a) * (v : Rat) := by
          unfold piece
          simp only [sooner_self, later_eq, es]
          rw [show max a (s : Rat) = a by grind, if_neg (by grind)]
        have hr : rem a s ((zl, v) :: r) = (zl : Rat) * (v : Rat) + ((tot r : Int) : Rat) - (a - (s : Rat)) * (v : Rat) := by
          unfold rem; rw [if_pos hsa, e]; simp only [cum]; rw [if_pos hin]
        have hvr : w ≤ ((s : Rat) + (zl : Rat) - a) * (v : Rat) → (v : Rat) ≠ 0 := by
          intro h h0; rw [h0] at h; grind
        rw [hp, hr, eS]
        by_cases hc : w ≤ ((s : Rat) + (zl : Rat) - a) * (v : Rat)
        · rw [if_pos (by grind), if_pos (by grind), if_pos hc]
          have hi := Rat.mul_inv_cancel _ (hvr hc)
          congr 1
          rw [hw1, later_eq, show max a (s : Rat) = a by grind, Rat.div_def, Rat.div_def]
          grind
        · rw [if_neg (by grind), if_neg hc]
          have hn : ¬ ((s + zl : Int) : Rat) ≤ a := by rw [es]; grind
          rw [ih hok.tail (s := s + zl) (S := S + zl * v) (w := w - ((s : Rat) + (zl : Rat) - a) * (v : Rat)) (by grind) (fun h => absurd h hn) (fun _ => by rw [eS]; grind)]
          unfold rem
          rw [if_neg hn]
          congr 1
          rw [eq_iff_iff]
          constructor <;> intro h <;> grind
      · rw [if_neg hin] at hw1
        have hp : piece (s, s + zl, v) a ((s + zl : Int) : Rat) = 0 := by
          unfold piece
          simp only [sooner_self, later_eq, es]
          rw [if_pos (by grind)]
        have hcb := (cum_bound hok.tail (show 0 ≤ a - (s : Rat) - (zl : Rat) by grind)).1
        have hge : ((s + zl : Int) : Rat) ≤ a := by rw [es]; grind
        have ea : a - ((s + zl : Int) : Rat) = a - (s : Rat) - (zl : Rat) := by rw [es]; grind
        rw [hp, if_neg (by rw [eS]; grind), if_neg (c := w ≤ 0) (by grind)]
        rw [show w - 0 = w by grind, ih hok.tail (s := s + zl) (S := S + zl * v) hw (fun _ => by rw [eS, ea]; grind) (fun h => absurd hge h)]
        unfold rem
        rw [if_pos hge, if_pos hsa, e, ea]
        simp only [cum]
        rw [if_neg hin]
        congr 1
        rw [eq_iff_iff]
        constructor <;> intro h <;> grind
    · have hw1 := h2 hsa
      have hp : piece (s, s + zl, v) a ((s + zl : Int) : Rat) = (zl : Rat) * (v : Rat) := by
        unfold piece
        simp only [sooner_self, later_eq, es]
        rw [show max a (s : Rat) = (s : Rat) by grind, if_neg (by grind)]
        grind
      have hn : ¬ ((s + zl : Int) : Rat) ≤ a := by rw [es]; grind
      have hr : rem a s ((zl, v) :: r) = (zl : Rat) * (v : Rat) + ((tot r : Int) : Rat) := by
        unfold rem; rw [if_neg hsa, e]
      rw [hp, hr, eS]
      by_cases hc : w ≤ (zl : Rat) * (v : Rat)
      · rw [if_pos (by grind), if_pos (by grind), if_pos hc]
        congr 1
        rw [hw1, later_eq, show max a (s : Rat) = (s : Rat) by grind]
        congr 2
        grind
      · rw [if_neg (by grind), if_neg hc]
        rw [ih hok.tail (s := s + zl) (S := S + zl * v) (w := w - (zl : Rat) * (v : Rat)) (by grind) (fun h => absurd h hn) (fun _ => by rw [eS]; grind)]
        unfold rem
        rw [if_neg hn]
        congr 1
        rw [eq_iff_iff]
        constructor <;> intro h <;> grind
theorem cum_all {l : List (Int × Int)} (hok : Ok l) : cum l (len l : Rat) = (tot l : Rat) := by
  induction l with
  | nil => rfl
  | cons z r ih =>
    have hz := hok.head
    have hl := (len_bound hok.tail).1
    have e : ((tot (z :: r) : Int) : Rat) = (z.1 : Rat) * (z.2 : Rat) + ((tot r : Int) : Rat) := by
      rw [← Rat.intCast_mul, ← Rat.intCast_add]; rfl
    have e2 : ((len (z :: r) : Int) : Rat) = (z.1 : Rat) + ((len r : Int) : Rat) := by
      rw [← Rat.intCast_add]; rfl
    have h0 : (0 : Rat) ≤ ((len r : Int) : Rat) := by exact_mod_cast (show (0 : Int) ≤ len r by omega)
    simp only [cum]
    rw [e, e2, if_neg (by grind), show (z.1 : Rat) + ((len r : Int) : Rat) - (z.1 : Rat) = ((len r : Int) : Rat) by grind, ih hok.tail]
theorem worth_rest {l : List (Int × Int)} (hok : Ok l) {a : Rat} (h0 : 0 ≤ a) (h1 : a ≤ (len l : Rat)) : worth l a (len l : Rat) = (tot l : Rat) - before (units l) a := by
  rw [worth_before hok h0 h1, before_cum hok (Rat.le_trans h0 h1), cum_all hok]
/-- What Reach answers. -/
theorem reach_eq {l : List (Int × Int)} (hok : Ok l) {a w : Rat} (h0 : 0 ≤ a) (h1 : a ≤ (len l : Rat)) (hw : 0 < w) :
    reachF 0 0 (units l) (before (units l) a + w) = if w ≤ worth l a (len l : Rat) then some (place l a w) else none := by
  have e0 : ((0 : Int) : Rat) = 0 := rfl
  have es : a - ((0 : Int) : Rat) = a := by rw [e0]; grind
  have h := reach_place (a := a) (want := before (units l) a + w) hok (s := 0) (S := 0) hw (fun _ => by rw [es, before_cum hok h0, e0]; grind) (fun h => absurd (by rw [e0]; exact h0) h)
  rw [h]
  have hr : rem a 0 l = worth l a (len l : Rat) := by
    unfold rem
    rw [if_pos (by rw [e0]; exact h0), es, worth_rest hok h0 h1, before_cum hok h0]
  rw [hr]
  have hwz : place l a w = placeF 0 a l w := by unfold place; rw [if_neg (by grind)]
  rw [hwz]
end Fl
end Go.Proofs.Ytemlfklipkpacaa
