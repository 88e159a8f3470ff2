import Derived.Test.YtkpabehjehbidaaRd
import Derived.Test.YtkpabehjehbidaaRl
import Derived.Test.YtkpabehjehbidaaSwo
namespace Go.Proofs.Ytkpabehjehbidaa
open Go.RowKit

theorem before_bound {u : List Int} {x : Rat} (hu : UnitsOk u) (hx : PlaceU u.length x) : 0 ≤ Fl.before u x ∧ Fl.before u x ≤ ((2820 : Nat) : Rat) ∧ (Fl.before u x).den ≤ x.den := by
  obtain ⟨k, hk⟩ : ∃ k : Nat, (k : Int) = x.num / (x.den : Int) := ⟨(x.num / (x.den : Int)).toNat, by
    have := Int.ediv_nonneg (Fl.num_nonneg hx.x0) (show (0 : Int) ≤ (x.den : Int) by have := x.den_pos; omega); omega⟩
  obtain ⟨hkl, hn1, hn0, -, hbf, hmul, hsum⟩ := before_facts hu hx hk
  have hvk := hu.v k
  have hsk := hu.s k
  have hl := hu.l
  have m1 := mk_den_le (n := x.num % (x.den : Int)) x.den_pos
  have fr0 : 0 ≤ mkRat (x.num % (x.den : Int)) x.den := by rw [← Rat.num_nonneg]; exact hmul.a1
  have f2 : x - 1 < (x.floor : Rat) := Rat.lt_floor
  have fr1 : mkRat (x.num % (x.den : Int)) x.den ≤ 1 := by rw [frac_eq]; grind
  rw [hbf]
  obtain ⟨f, hf⟩ : ∃ f, f = mkRat (x.num % (x.den : Int)) x.den := ⟨_, rfl⟩
  rw [← hf] at m1 fr0 fr1 ⊢
  have v0 : (0 : Rat) ≤ ((u.getD k 0 : Int) : Rat) := by exact_mod_cast hvk.1
  have v1 : ((u.getD k 0 : Int) : Rat) ≤ 20 := by exact_mod_cast hvk.2
  have s0 : (0 : Rat) ≤ ((Fl.sumI (u.take k) : Int) : Rat) := by exact_mod_cast hsk.1
  have s1 : ((Fl.sumI (u.take k) : Int) : Rat) ≤ 2800 := by
    have : ((Fl.sumI (u.take k) : Int) : Rat) ≤ ((2800 : Int) : Rat) := Rat.intCast_le_intCast.2 (by omega)
    exact this
  have h := Rat.mul_le_mul_of_nonneg_left fr1 v0
  have p0 := Rat.mul_nonneg v0 fr0
  have e : ((2820 : Nat) : Rat) = 2820 := rfl
  refine ⟨by grind, by grind, ?_⟩
  have d1 : (((u.getD k 0 : Int) : Rat) * f).den ≤ f.den := by rw [Rat.mul_comm]; exact Fl.den_mul_int_le _ _
  have d2 := Fl.den_add_int_le (((u.getD k 0 : Int) : Rat) * f) (Fl.sumI (u.take k))
  rw [Rat.add_comm] at d2
  omega
theorem between_sum {u : List Int} {a b : Rat} (hu : UnitsOk u) (ha : PlaceU u.length a) (hb : PlaceU u.length b) : SumQ (Fl.before u b) (Fl.before u a) := by
  obtain ⟨a0, a1, a2⟩ := before_bound hu ha
  obtain ⟨b0, b1, b2⟩ := before_bound hu hb
  have hd : (Fl.before u b).den * (Fl.before u a).den ≤ 1000000 * 1000000 := Nat.mul_le_mul (by have := hb.d; omega) (by have := ha.d; omega)
  exact sumQ_of b0 a0 2820 2820 b1 a1 1000000000000 (by omega) (by omega) (by omega) (by omega)

set_option maxRecDepth 100000 in
set_option maxHeartbeats 4000000 in
theorem rbetween_any (u : List Int) (a b : Rat) (ao : Option Addr) (cap : Nat) (w : World) (hI : Ints w ao u) (hu : UnitsOk u) (ha : PlaceU u.length a) (hb : PlaceU u.length b) :
    Calls Try.prog 65 #[.slice ao u.length cap, Fr a, Fr b] w fun e w' => e = .returned (Fr (Fl.before u b - Fl.before u a)) ∧ Below w.heap.size w w' := by
  have hS := between_sum hu ha hb
  have hB := below_alloc3 w (.cells #[.int .i64 a.num, .int .i64 a.den] 29) (.cells #[.int .i64 b.num, .int .i64 b.den] 29) (.cells #[.int .i64 0, .int .i64 0] 29)
  have A2 := heap_alloc3_all w (.cells #[.int .i64 a.num, .int .i64 a.den] 29) (.cells #[.int .i64 b.num, .int .i64 b.den] 29) (.cells #[.int .i64 0, .int .i64 0] 29)
  replace hI := hI.below hB
  have HA := Lib.hid (And.intro hB A2)
  clear hB A2
  obtain ⟨X, hX⟩ : ∃ x, x = Fl.before u b - Fl.before u a := ⟨_, rfl⟩
  rw [← hX]
  have HX := Lib.hid hX
  clear hX
  go_enter Try.func65, Try.ntmps65
  go_wp2_with fail
  obtain ⟨hB, r4, r5, r6⟩ := HA.out
  clear HA
  generalize (((w.alloc (.cells #[.int .i64 a.num, .int .i64 a.den] 29)).alloc (.cells #[.int .i64 b.num, .int .i64 b.den] 29)).alloc (.cells #[.int .i64 0, .int .i64 0] 29)) = wx at hB r4 r5 r6 hI ⊢
  obtain ⟨⟨a0, a1⟩, -, -⟩ := row_fr r4
  obtain ⟨⟨b0, b1⟩, -, -⟩ := row_fr r5
  have hI0 : Ints wx.drew ao u := ⟨hI.cells⟩
  go_region_held3 (fun w' => w'.cell? ⟨w.heap.size, 0, none⟩ = some (.int .i64 a.num) ∧ w'.cell? ⟨w.heap.size, 1, none⟩ = some (.int .i64 a.den) ∧ w'.cell? ⟨w.heap.size + 1, 0, none⟩ = some (.int .i64 b.num) ∧ w'.cell? ⟨w.heap.size + 1, 1, none⟩ = some (.int .i64 b.den))
    (first | exact ⟨a0, a1, b0, b1⟩ | exact ⟨cell_two_other _ _ (by omega) kc.1, cell_two_other _ _ (by omega) kc.2.1, cell_two_other _ _ (by omega) kc.2.2.1, cell_two_other _ _ (by omega) kc.2.2.2⟩ | exact ka | exact kb | exact kc)
    (first
      | (go_at_call_of 92 (b.num); refine (rbefore_any u b ao cap _ hI0 hu hb).mono ?_; rintro e w1 ⟨rfl, hb1⟩; have ka := And.intro (keep_cell hb1 a0) (And.intro (keep_cell hb1 a1) (And.intro (keep_cell hb1 b0) (keep_cell hb1 b1))); have hI1 := hI0.below hb1)
      | (go_at_call_of 92 (a.num); refine (rbefore_any u a ao cap _ hI1 hu ha).mono ?_; rintro e w2 ⟨rfl, hb2⟩; have kb := And.intro (keep_cell hb2 ka.1) (And.intro (keep_cell hb2 ka.2.1) (And.intro (keep_cell hb2 ka.2.2.1) (keep_cell hb2 ka.2.2.2))))
      | (go_at_call 37; refine (rsub_q _ _ _ hS).mono ?_; rintro e w3 ⟨rfl, hb3⟩; have kc := And.intro (keep_cell hb3 kb.1) (And.intro (keep_cell hb3 kb.2.1) (And.intro (keep_cell hb3 kb.2.2.1) (keep_cell hb3 kb.2.2.2))); replace hB := (below_drewN hB 1).trans (hb1.mono (by have := hB.size; exact this)); replace hB := hB.trans (hb2.mono hB.size); replace hB := hB.trans (hb3.mono hB.size); replace r6 := heap_keep hb3 (heap_keep hb2 (heap_keep hb1 r6)); obtain ⟨⟨d0, d1⟩, f0, f1⟩ := row_fr r6; rw [← HX.out]))
  go_wp2
  exact bodyPost_ret (results_cell_row rfl _ _ _ _ _ _ _ rfl (two_cells r6 (.int .i64 X.num) (.int .i64 X.den)) Try.underlying29 rfl infoRat2) rfl ⟨rfl, below_setCell (below_setCell hB (by omega) _) (by omega) _⟩

namespace Fl
/-- The code that is asked of a field and of places. -/
def askedC (l : List (Int × Int)) (ps : List (Int × Int)) : Int := if validate l ≠ 0 then validate l else if ps.all (fun p => plc (len l) p.1 p.2 1000) then 0 else 1
end Fl
theorem all_false {ps : List (Int × Int)} {k : Nat} (hk : k < ps.length) {f : Int × Int → Bool} (h : f (ps.getD k (0, 0)) = false) : ps.all f = false := by
  rw [List.all_eq_false]
  refine ⟨_, List.getElem_mem hk, ?_⟩
  rw [List.getD_eq_getElem?_getD, List.getElem?_eq_getElem hk] at h
  simp at h
  simp [h]
theorem all_true {ps : List (Int × Int)} {f : Int × Int → Bool} (h : ∀ k, k < ps.length → f (ps.getD k (0, 0)) = true) : ps.all f = true := by
  rw [List.all_eq_true]
  intro x hx
  obtain ⟨j, hj, rfl⟩ := List.mem_iff_getElem.1 hx
  have := h j hj
  rwa [List.getD_eq_getElem?_getD, List.getElem?_eq_getElem hj] at this
/-- What IsValid and IsPlace answer together. -/
theorem valid_plc {L n d : Int} : Fl.plc L n d 1000 = (valB n d 1000 && (decide (0 ≤ n) && decide (mkRat n d.toNat ≤ (L : Rat)))) := by
  by_cases h : 0 ≤ n
  · unfold Fl.plc; rw [valB_amt h]; simp [h]
  · unfold Fl.plc Fl.amt; simp [h]

set_option maxRecDepth 100000 in
set_option maxHeartbeats 4000000 in
theorem rasked_any (l ps : List (Int × Int)) (ao : Option Addr) (m cap : Nat) (ao2 : Option Addr) (q cap2 : Nat) (w : World) (hp : Pts w ao l) (hln : m = l.length) (hm : m ≤ 100000) (hp2 : Pts w ao2 ps) (hlq : q = ps.length) (hq : q ≤ 1000) (hr : ∀ p ∈ ps, -9223372036854775808 ≤ p.1 ∧ p.1 ≤ 9223372036854775807) :
    Calls Try.prog 64 #[.slice ao m cap, .slice ao2 q cap2] w fun e w' => e = .returned (.int .i64 (Fl.askedC l ps)) ∧ Below w.heap.size w w' := by
  have Hn := Lib.hid hln
  have Hq := Lib.hid hlq
  clear hln hlq
  obtain ⟨C, hC⟩ : ∃ c, Fl.askedC l ps = c := ⟨_, rfl⟩
  rw [hC]
  have HC := Lib.hid hC
  clear hC
  obtain ⟨v, hv⟩ : ∃ v, v = Fl.validate l := ⟨_, rfl⟩
  have hv0 : v = 0 ∨ (v != 0) = true := by by_cases h : v = 0 <;> simp [h]
  have Hv := Lib.hid hv
  clear hv
  have Hr := Lib.hid hr
  clear hr
  go_enter Try.func64, Try.ntmps64
  go_wp2_with fail
  refine (rvalidate_any l _ _ _ _ hp Hn.out hm).mono ?_
  rintro e w1 ⟨rfl, rfl⟩
  rw [← Hv.out]
  rcases hv0 with rfl | hv0
  · have hok := Fl.validate_ok.1 Hv.out.symm
    have hlb := Fl.len_bound hok.2
    have hul := Lib.hid (Fl.units_length hok.2)
    have hl6 := hok.1.2
    have hUL : (Fl.units l).length ≤ 1000 := by have := hul.out; omega
    go_wp2
    go_loopw [6] (fun i wr => ∃ k : Nat, k ≤ q ∧ i = .int .i64 k ∧ Hid (∀ j, j < k → Fl.plc (Fl.len l) (ps.getD j (0, 0)).1 (ps.getD j (0, 0)).2 1000 = true) ∧ Below w.heap.size w wr) (fun i _ => q - (intOf i).toNat)
    case atStart => exact ⟨0, Nat.zero_le _, rfl, Lib.hid (fun j hj => by omega), Below.refl _ _⟩
    case round =>
      obtain ⟨k, hk, rfl, hall, hB⟩ := hrel
      by_cases hlt : k < q
      · have hkl : k < ps.length := by have := Hq.out; omega
        obtain ⟨b, off, rfl, hbs, hc⟩ := hp2.cells (by omega)
        obtain ⟨c0, c1⟩ := hc k hkl
        replace c0 := keep_cell hB (by exact c0)
        replace c1 := keep_cell hB (by exact c1)
        have hrk := Hr.out (ps.getD k (0, 0)) (by rw [List.getD_eq_getElem?_getD, List.getElem?_eq_getElem hkl]; exact List.getElem_mem hkl)
        have hvp := valid_plc (L := Fl.len l) (n := (ps.getD k (0, 0)).1) (d := (ps.getD k (0, 0)).2)
        have haf := all_false hkl (f := fun p => Fl.plc (Fl.len l) p.1 p.2 1000)
        obtain ⟨n, hn⟩ : ∃ x, x = (ps.getD k (0, 0)).1 := ⟨_, rfl⟩
        obtain ⟨d, hd⟩ : ∃ x, x = (ps.getD k (0, 0)).2 := ⟨_, rfl⟩
        simp only [← hn, ← hd] at c0 c1 hrk hvp haf
        have Hnd := Lib.hid (And.intro hn hd)
        have hwp := hp.below hB
        clear hn hd hc
        have i1 : (k : Int) < (q : Int) := by omega
        cases hval : valB n d 1000 with
        | false =>
          have hcc : Hid (C = 1) := Lib.hid (by
            rw [← HC.out]; unfold Fl.askedC
            rw [if_neg (by rw [← Hv.out]; simp), haf (by rw [hvp, hval]; rfl)]; rfl)
          have Hval := Lib.hid hval
          clear hval hvp haf
          go_wp2_with fail
          first | (go_region_with (go_at_call 71; refine (risValid_any n d 1000 _ hrk.1 hrk.2 (by omega)).mono ?_; rintro e w1 ⟨rfl, hbb⟩; rw [Hval.out])) | fail
          all_goals
            go_wp2
            go_ret
            exact ⟨ret_int hcc.out.symm, (below_drewN hB 1).trans (hbb.mono hB.size)⟩
        | true =>
          have hdd := valB_d hval
          rw [hval, Bool.true_and] at hvp
          obtain ⟨Z, hZ⟩ : ∃ z, Fl.plc (Fl.len l) n d 1000 = z := ⟨_, rfl⟩
          rw [hZ] at hvp haf
          have hvu : Hid ((decide (0 ≤ n) && decide (mkRat n d.toNat ≤ ((((Fl.units l).length : Nat) : Int) : Rat))) = Z) := Lib.hid (by rw [hul.out]; exact hvp.symm)
          have Hval := Lib.hid hval
          have HZ := Lib.hid hZ
          have Haf := Lib.hid haf
          clear hval hvp hZ haf
          go_wp2_with fail
          go_region_held3 (fun w' => w'.cell? ⟨b, off + k * 2, none⟩ = some (.int .i64 n) ∧ w'.cell? ⟨b, off + k * 2 + 1, none⟩ = some (.int .i64 d))
            (first | exact ⟨c0, c1⟩ | exact ka | exact kb | exact kc)
            (first
              | (go_at_call 71; refine (risValid_any n d 1000 _ hrk.1 hrk.2 (by omega)).mono ?_; rintro e w1 ⟨rfl, hb1⟩; rw [Hval.out]; have ka := And.intro (keep_cell hb1 c0) (keep_cell hb1 c1); have hp1 := Pts.below (w := wr.drew) ⟨hwp.cells⟩ hb1)
              | (go_at_call 55; refine (units_any l _ _ _ _ hp1 Hn.out hok.2 hl6).mono ?_; rintro e w2 ⟨ao3, cap3, rfl, hI, hb2⟩; have kb := And.intro (keep_cell hb2 ka.1) (keep_cell hb2 ka.2))
              | (go_at_call 77; refine (risPlace_any _ _ _ n d _ hUL hdd.1 (by omega) hrk.2).mono ?_; rintro e w3 ⟨rfl, hb3⟩; have kc := And.intro (keep_cell hb3 kb.1) (keep_cell hb3 kb.2); rw [hvu.out]; replace hB := (below_drewN hB 1).trans (hb1.mono (by have := hB.size; exact this)); replace hB := hB.trans (hb2.mono hB.size); replace hB := hB.trans (hb3.mono hB.size)))
          cases Z with
          | false =>
            have hcc : Hid (C = 1) := Lib.hid (by
              rw [← HC.out]; unfold Fl.askedC
              rw [if_neg (by rw [← Hv.out]; simp), Haf.out rfl]; rfl)
            go_wp2
            go_ret
            exact ⟨ret_int hcc.out.symm, hB⟩
          | true =>
            go_wp2
            go_roundw
            case rel =>
              refine ⟨k + 1, by omega, by go_num, Lib.hid fun j hj => ?_, hB⟩
              by_cases e : j = k
              · subst e; rw [← Hnd.out.1, ← Hnd.out.2]; exact HZ.out
              · exact hall.out j (by omega)
            case measure => simp [intOf]; omega
      · have hk2 : k = q := by omega
        have Hk := Lib.hid hk2
        clear hk2
        have hcc : Hid (C = 0) := Lib.hid (by
          rw [← HC.out]; unfold Fl.askedC
          rw [if_neg (by rw [← Hv.out]; simp), all_true (fun j hj => hall.out j (by rw [Hk.out, Hq.out]; exact hj))]; rfl)
        go_wp2
        go_ret
        exact ⟨ret_int hcc.out.symm, hB⟩
  · have hcc : Hid (C = v) := Lib.hid (by
      rw [← HC.out]; unfold Fl.askedC
      rw [if_pos (by rw [← Hv.out]; exact code_ne hv0), Hv.out])
    go_wp2
    go_ret
    exact ⟨ret_int hcc.out.symm, Below.refl _ _⟩
end Go.Proofs.Ytkpabehjehbidaa
