import Derived.Test.YtngonfbmlfolcaaMd
import Derived.Test.YtngonfbmlfolcaaLn
/- The law KnifeSums: what all pieces are worth for an owner. -/
namespace Go.Proofs.Ytngonfbmlfolcaa
open Go.Joins Go.Deep Go.ChangeShapes Go.WideShapes Go.ChangeAt Go.RowKit

/-- The cells of a piece. -/
theorem piece_cells {H : Type} {enc : TypeId × Value → H} {w : World} {n : Nat} {c0 c1 c2 c3 c4 : Value} {y : DataW H × List MemPlace} (h : DataW.trod enc Try.prog w 0 (fun _ => true) true n 78 [c0, c1, c2, c3, c4] = some y) :
    ∃ o a b c d : Int, c0 = .int .i64 o ∧ c1 = .int .i64 a ∧ c2 = .int .i64 b ∧ c3 = .int .i64 c ∧ c4 = .int .i64 d ∧ Rng a ∧ Rng c := by
  obtain ⟨y0, y1, y2, n2, _, _, h0, h1, h2⟩ := trod_struct3 Try.underlying78 h
  have hC : Try.prog.cellsOf 29 = 2 := by kernel_rfl
  have hD : Try.prog.cellsOf 3 = 1 := by kernel_rfl
  dsimp only at h0 h1 h2
  rw [hC] at h1 h2
  rw [hD] at h0
  obtain ⟨o, ho, _, wo⟩ := DataW.trod_int (cs := [c0]) Try.underlying3 (by simpa using h0)
  simp only [List.cons.injEq, and_true] at ho
  obtain ⟨a, b, rfl, rfl, ra, rb⟩ := rat_cells (c0 := c1) (c1 := c2) (by simpa using h1)
  obtain ⟨c, d, rfl, rfl, rc, rd⟩ := rat_cells (c0 := c3) (c1 := c4) (by simpa using h2)
  exact ⟨o, a, b, c, d, ho, rfl, rfl, rfl, rfl, ra, rc⟩
theorem list5 {α : Type} {l : List α} (h : l.length = 5) : ∃ x0 x1 x2 x3 x4, l = [x0, x1, x2, x3, x4] := by
  match l, h with
  | [x0, x1, x2, x3, x4], _ => exact ⟨x0, x1, x2, x3, x4, rfl⟩

set_option maxRecDepth 100000 in
/-- An argument that is a slice of pieces. -/
theorem open_pieces {H : Type} {enc : TypeId × Value → H} {w : World} {v : Value} {d : DataW H} {p : List MemPlace} (hv : Value.okWide Try.prog w .any 0 71 v)
    (h : DataW.Trod enc Try.prog w 0 (fun _ => true) true 71 v d p) :
    ∃ (ao : Option Addr) (len cap : Nat) (l : List Pc), v = .slice ao len cap ∧ len = l.length ∧ len ≤ cap ∧ Pcs w ao l ∧ ∀ x ∈ l, Rng x.2.1.1 ∧ Rng x.2.2.1 := by
  obtain ⟨a0, n0, c0', rfl⟩ := okWide_slice Try.underlying71 hv
  obtain ⟨fuel, hf⟩ := h
  rcases open_slice Try.underlying71 (by simpa [Value.cells] using hf) with ⟨h0, _⟩ | ⟨a, len, cap, m, n, D, Pl, hcs, hb, hl, hm, hmm, hx, hi⟩
  · simp only [List.cons.injEq, and_true] at h0
    exact ⟨none, 0, 0, [], h0, rfl, Nat.le_refl _, ⟨fun h => by simp at h⟩, fun x hx => by simp at hx⟩
  · simp only [List.cons.injEq, and_true] at hcs
    have hC : Try.prog.cellsOf 78 = 5 := by kernel_rfl
    simp only [if_true] at hmm
    have key : ∀ i, ∃ q : Pc, i < len → w.cell? (a.add (i * 5 + 0)) = some (.int .i64 q.1) ∧ w.cell? (a.add (i * 5 + 1)) = some (.int .i64 q.2.1.1) ∧ w.cell? (a.add (i * 5 + 2)) = some (.int .i64 q.2.1.2) ∧ w.cell? (a.add (i * 5 + 3)) = some (.int .i64 q.2.2.1) ∧ w.cell? (a.add (i * 5 + 4)) = some (.int .i64 q.2.2.2) ∧ Rng q.2.1.1 ∧ Rng q.2.2.1 := by
      intro i
      by_cases hin : i < len
      · obtain ⟨cs', hc, ht⟩ := hi i (by omega)
        rw [hC] at hc
        obtain ⟨_, hl5, hat⟩ := World.cells?_some hc
        obtain ⟨v0, v1, v2, v3, v4, rfl⟩ := list5 hl5
        obtain ⟨o, x1, y1, x2, y2, rfl, rfl, rfl, rfl, rfl, rx, ry⟩ := piece_cells ht
        have e0 := hat 0 (by simp)
        have e1 := hat 1 (by simp)
        have e2 := hat 2 (by simp)
        have e3 := hat 3 (by simp)
        have e4 := hat 4 (by simp)
        simp only [List.getElem?_cons_zero, List.getElem?_cons_succ] at e0 e1 e2 e3 e4
        rw [Go.Deep.add_add] at e0 e1 e2 e3 e4
        exact ⟨(o, (x1, y1), (x2, y2)), fun _ => ⟨e0, e1, e2, e3, e4, rx, ry⟩⟩
      · exact ⟨(0, (0, 0), (0, 0)), fun h => absurd h hin⟩
    obtain ⟨f, hf2⟩ := Classical.axiomOfChoice key
    refine ⟨some a, len, cap, (List.range len).map f, hcs, by simp, hl, ⟨fun h0 => ?_⟩, fun x hx => ?_⟩
    · have h00 : 0 < len := by simpa using h0
      have hs := spot_none (hf2 0 h00).1
      have ha : a.add (0 * 5 + 0) = a := by simp [Addr.add]
      rw [ha] at hs
      obtain ⟨b, off, sp⟩ := a
      obtain ⟨rfl, hbs⟩ := hs
      refine ⟨b, off, rfl, hbs, fun i hil => ?_⟩
      have hil : i < len := by simpa using hil
      obtain ⟨k1, k2, k3, k4, k5, -, -⟩ := hf2 i hil
      have eg : ((List.range len).map f)[i]'(by simpa using hil) = f i := by simp
      rw [eg]
      rw [add_none] at k1 k2 k3 k4 k5
      exact ⟨k1, k2, k3, k4, k5⟩
    · simp only [List.mem_map, List.mem_range] at hx
      obtain ⟨i, hi, rfl⟩ := hx
      exact (hf2 i hi).2.2.2.2.2

theorem swhole_lit (n : Int) (w : World) : Calls Try.prog 39 #[.int .i64 n] w fun e w' => e = .returned (.agg #[.int .i64 n, .int .i64 1]) ∧ Below w.heap.size w w' := rwhole_any n w
/-- What is laid down of a worth that is added up. -/
theorem sum_ok {S W : Rat} {D : Nat} (hD : D ≤ 1000000) (hD1 : 1 ≤ D) (s0 : 0 ≤ S) (s1 : S ≤ ((2400 : Nat) : Rat)) (sd : S.den ∣ D) (w0 : 0 ≤ W) (w1 : W ≤ ((2400 : Nat) : Rat)) (wd : W.den ∣ D) : SumQ S W ∧ fair6 (pr S) ∧ fair6 (pr W) := by
  have a1 := Nat.le_of_dvd hD1 sd
  have a2 := Nat.le_of_dvd hD1 wd
  have m : S.den * W.den ≤ 1000000 * 1000000 := Nat.mul_le_mul (by omega) (by omega)
  have n1 := Fl.num_le s1
  have n2 := Fl.num_le w1
  have k1 := Fl.num_nonneg s0
  have k2 := Fl.num_nonneg w0
  have p1 := S.den_pos
  have p2 := W.den_pos
  exact ⟨sumQ_of s0 w0 2400 2400 s1 w1 (1000000 * 1000000) m (by omega) (by omega) (by omega),
    ⟨by show (1 : Int) ≤ (S.den : Int); omega, by show (S.den : Int) ≤ _; omega, by show S.num ≤ _; omega, by show _ ≤ S.num; omega⟩,
    ⟨by show (1 : Int) ≤ (W.den : Int); omega, by show (W.den : Int) ≤ _; omega, by show W.num ≤ _; omega, by show _ ≤ W.num; omega⟩⟩

theorem plc_of {E : Int} {q : Rat} (h0 : 0 ≤ q) (h1 : q ≤ (E : Rat)) (hd : q.den ≤ 1000000) : Fl.plc E q.num (q.den : Int) 1000000 = true := by
  unfold Fl.plc
  rw [Fl.amt_of_rat h0 (by omega), Int.toNat_natCast, Rat.mkRat_self]
  simp [h1]
theorem wval_ok {L : List Int} {V : List (List Int)} (hok : Kn.Ok L V) {o : Nat} (ho : o < V.length) {a b : Rat} (h0 : 0 ≤ a) (h1 : a ≤ b) (h2 : b ≤ (Kn.stop L : Rat)) (da : a.den ≤ 1000000) (db : b.den ≤ 1000000) :
    Kn.wcode L V o a.num a.den b.num b.den = 0 ∧ Kn.wval L V o a.num a.den b.num b.den = Fr (Fl.worth (Kn.Z L V o) a b) := by
  have p1 := plc_of h0 (Rat.le_trans h1 h2) da
  have p2 := plc_of (Rat.le_trans h0 h1) h2 db
  have hc : Kn.ocode L V o = 0 := by
    unfold Kn.ocode
    rw [if_neg (by simpa using Kn.val_ok.2 hok), if_pos (by unfold Kn.isO; simp; omega)]
  have e : Kn.wcode L V o a.num a.den b.num b.den = 0 := by
    unfold Kn.wcode
    rw [if_neg (by simpa using hc), p1, p2, Int.toNat_natCast, Int.toNat_natCast, Rat.mkRat_self, Rat.mkRat_self, decide_eq_true h1]
    rfl
  refine ⟨e, ?_⟩
  unfold Kn.wval
  rw [e, Int.toNat_natCast, Int.toNat_natCast, Int.toNat_natCast, Rat.mkRat_self, Rat.mkRat_self]
  rfl
theorem kWorth_ok (L : List Int) (V : List (List Int)) (o : Nat) (a b : Rat) (aoL : Option Addr) (nL cL : Nat) (aoV : Option Addr) (nV cV : Nat) (w : World) (hf : Fld w aoL nL aoV nV L V) (hok : Kn.Ok L V) (ho : o < V.length) (h0 : 0 ≤ a) (h1 : a ≤ b) (h2 : b ≤ (Kn.stop L : Rat)) (da : a.den ≤ 1000000) (db : b.den ≤ 1000000) :
    Calls Try.prog 42 #[.agg #[.slice aoL nL cL, .slice aoV nV cV], .int .i64 o, Fr a, Fr b] w fun e w' => e = .returned (.tuple #[Fr (Fl.worth (Kn.Z L V o) a b), .int .i64 0]) ∧ Below w.heap.size w w' := by
  obtain ⟨e1, e2⟩ := wval_ok hok ho h0 h1 h2 da db
  have hs := hok.stopB
  have hE : (Kn.stop L : Rat) ≤ ((1000 : Int) : Rat) := Rat.intCast_le_intCast.2 (by omega)
  have hE2 : ((1000 : Int) : Rat) = ((1000 : Nat) : Rat) := rfl
  have n1 := Fl.num_le (show a ≤ ((1000 : Nat) : Rat) by grind)
  have n2 := Fl.num_le (show b ≤ ((1000 : Nat) : Rat) by grind)
  have h := kWorth_any L V o a.num a.den b.num b.den aoL nL cL aoV nV cV w hf (by have := hf.nl; have := hok.l6; omega) (by have := hf.nv; have := hok.v5; omega) (fun r hr => by have := (hok.row r hr).1; have := hok.l6; omega) (by omega) (by omega)
  rw [e1, e2] at h
  exact h
/-- What KnifeSums adds up. -/
theorem sums_facts {L : List Int} {V : List (List Int)} {ps : List Pc} {D : Nat} (h : Kn.PcsOk L V ps D) {o : Nat} (ho : o < V.length) (S : Nat → Rat) (hS : S = fun k => Fl.worth (Kn.Z L V o) 0 (Kn.begins ps k)) :
    S 0 = 0 ∧ S ps.length = Fl.worth (Kn.Z L V o) 0 (Kn.stop L : Rat) ∧ ∀ k (hk : k < ps.length), ∃ q1 q2 W : Rat, (ps[k]).2.1 = (q1.num, (q1.den : Int)) ∧ (ps[k]).2.2 = (q2.num, (q2.den : Int)) ∧ W = Fl.worth (Kn.Z L V o) q1 q2 ∧ S (k + 1) = S k + W ∧ SumQ (S k) W ∧ fair6 (pr (S k)) ∧ fair6 (pr W) ∧ 0 ≤ W.num ∧
      0 ≤ q1 ∧ q1 ≤ q2 ∧ q2 ≤ (Kn.stop L : Rat) ∧ q1.den ≤ 1000000 ∧ q2.den ≤ 1000000 := by
  have hzo := h.ok.zOk ho
  have hl6 : (Kn.Z L V o).length ≤ 6 := by rw [h.ok.zLen ho]; exact h.ok.l6
  refine ⟨?_, ?_, fun k hk => ?_⟩
  · rw [hS]
    simp only [h.zero]
    rw [Fl.worth_before hzo Rat.le_refl Rat.le_refl]
    grind
  · rw [hS]
    simp only [h.fin]
  · obtain ⟨a1, a2, a3, a4, a5, a6, a7⟩ := h.at_ k hk
    have hd1 := Nat.le_of_dvd h.d1 a6
    have hd2 := Nat.le_of_dvd h.d1 a7
    have hd9 := h.d2
    obtain ⟨w0, w1, wd⟩ := worth_facts hzo hl6 a3 a4 a6 a7
    obtain ⟨s0, s1, sd⟩ := worth_facts hzo hl6 (a := 0) (D := D) Rat.le_refl a3 (Nat.one_dvd D) a6
    obtain ⟨f1, f2, f3⟩ := sum_ok h.d2 h.d1 s0 s1 sd w0 w1 wd
    refine ⟨_, _, _, a1, a2, rfl, ?_, ?_, ?_, f3, Fl.num_nonneg w0, a3, a4, a5, by omega, by omega⟩
    · rw [hS]; exact worth_add hzo a3 a4
    · rw [hS]; exact f1
    · rw [hS]; exact f2

set_option maxRecDepth 100000 in
set_option maxHeartbeats 8000000 in
theorem knifeSums_any (L : List Int) (aoL : Option Addr) (nL cL : Nat) (V : List (List Int)) (aoV : Option Addr) (nV cV : Nat) (ps : List Pc) (aop : Option Addr) (n cp : Nat) (o : Int) (w : World) (hf : Fld w aoL nL aoV nV L V) (hp : Pcs w aop ps) (hn : n = ps.length) (hpr : ∀ p ∈ ps, Rng p.2.1.1 ∧ Rng p.2.2.1) (_ : Rng o) :
    Calls Try.prog 13 #[.agg #[.slice aoL nL cL, .slice aoV nV cV], .slice aop n cp, .int .i64 o] w fun e w' => e = .returned (.bool true) ∧ Below w.heap.size w w' := by
  have Hn := Lib.hid hn
  have Hpr := Lib.hid hpr
  have HPc := Lib.hid hp
  have HFl := Lib.hid hf
  clear hn hpr
  have hA := (Below.refl _ w).alloc (Nat.le_refl _) (.cells #[.slice aoL nL cL, .slice aoV nV cV] 57)
  have rf := heap_alloc_new w (.cells #[.slice aoL nL cL, .slice aoV nV cV] 57)
  go_enter Try.func13, Try.ntmps13
  go_upto_region 1 with fail
  generalize w.alloc (.cells #[.slice aoL nL cL, .slice aoV nV cV] 57) = W0 at hA rf ⊢
  obtain ⟨G, hG⟩ : ∃ g, g = w.heap.size := ⟨_, rfl⟩
  rw [← hG] at rf ⊢
  have HG := Lib.hid hG
  clear hG
  replace hf := hf.below hA
  replace hp := hp.below hA
  obtain ⟨⟨x0, x1⟩, -, -⟩ := row_fr rf
  go_wp2_with fail
  refine ((klong_any L V _ _ _ _ _ _ W0 hf)).mono ?_
  rintro e w1 ⟨rfl, hbb⟩
  replace hf := hf.below hbb
  replace hp := hp.below hbb
  replace rf := heap_keep hbb rf
  replace hA := hA.trans (hbb.mono hA.size)
  clear hbb
  clear x0 x1
  cases hlg : Kn.lng nL nV V with
  | true =>
    go_wp2_with fail
    refine (kknown_any _).mono ?_
    rintro e vk ⟨rfl, hbk⟩
    go_wp2_with fail
    go_ret
    exact ⟨rfl, hA.trans (hbk.mono hA.size)⟩
  | false =>
    obtain ⟨hl, hv, hr⟩ := lng_no hlg
    clear hlg
    by_cases h100 : 100 < n
    · have h100i : (100 : Int) < (n : Int) := by omega
      go_wp2_with fail
      refine (kknown_any _).mono ?_
      rintro e vk ⟨rfl, hbk⟩
      go_wp2_with fail
      go_ret
      exact ⟨rfl, hA.trans (hbk.mono hA.size)⟩
    · have h100i : (n : Int) ≤ 100 := by omega
      have d100 : decide ((100 : Int) < (n : Int)) = false := by rw [decide_eq_false_iff_not]; omega
      have hn9 : n ≤ 100000 := by omega
      obtain ⟨P, hP⟩ : ∃ c, Kn.pcode L V ps = c := ⟨_, rfl⟩
      have hCP := kCheckPieces_any L V ps aoL nL cL aoV nV cV aop n cp w1 hf hl hv hr hp Hn.out hn9 (fun p hp => ⟨(Hpr.out p hp).1.2, (Hpr.out p hp).2.2⟩)
      rw [hP] at hCP
      have HP := Lib.hid hP
      clear hP
      obtain ⟨⟨x0, x1⟩, -, -⟩ := row_fr rf
      go_wp2_with fail
      refine ((hCP)).mono ?_
      rintro e w2 ⟨rfl, hbb⟩
      replace hf := hf.below hbb
      replace hp := hp.below hbb
      replace rf := heap_keep hbb rf
      replace hA := hA.trans (hbb.mono hA.size)
      clear hbb
      clear hCP x0 x1
      by_cases hP0 : P = 0
      · have HP0 := Lib.hid hP0
        have e0 : (P != 0) = false := by simp [hP0]
        clear hP0
        obtain ⟨⟨x0, x1⟩, -, -⟩ := row_fr rf
        by_cases ho1 : o < 0
        · go_wp2_with fail
          refine (kknown_any _).mono ?_
          rintro e vk ⟨rfl, hbk⟩
          go_wp2_with fail
          go_ret
          exact ⟨rfl, hA.trans (hbk.mono hA.size)⟩
        · by_cases ho2 : (nV : Int) ≤ o
          · go_wp2_with fail
            refine (kknown_any _).mono ?_
            rintro e vk ⟨rfl, hbk⟩
            go_wp2_with fail
            go_ret
            exact ⟨rfl, hA.trans (hbk.mono hA.size)⟩
          · obtain ⟨k0, hk0⟩ := Int.eq_ofNat_of_zero_le (show 0 ≤ o by omega)
            subst hk0
            have do1 : decide ((k0 : Int) < 0) = false := by rw [decide_eq_false_iff_not]; omega
            have do2 : decide ((nV : Int) ≤ (k0 : Int)) = false := by rw [decide_eq_false_iff_not]; omega
            obtain ⟨D, hD⟩ := pcode_ok (HP.out.trans HP0.out)
            have hok := hD.ok
            have hko : k0 < V.length := by have := hf.nv; omega
            obtain ⟨S, hSe⟩ : ∃ S : Nat → Rat, S = fun k => Fl.worth (Kn.Z L V k0) 0 (Kn.begins ps k) := ⟨_, rfl⟩
            have HS := Lib.hid (sums_facts hD hko S hSe)
            have HN := Lib.hid hf.nl
            have hn6 : nL ≤ 6 := by have := hf.nl; have := hok.l6; omega
            have hsB := hok.stopB
            clear hSe hD
            go_wp2_with fail
            refine (swhole_lit 0 _).mono ?_
            rintro e z0 ⟨rfl, hbb⟩
            replace hf := hf.below hbb
            replace hp := hp.below hbb
            replace rf := heap_keep hbb rf
            replace hA := hA.trans (hbb.mono hA.size)
            clear hbb x0 x1
            go_upto_region 4 with fail
            have r7 := heap_alloc_new z0 (.cells #[.int .i64 0, .int .i64 1] 29)
            have hal := (Below.refl z0.heap.size z0).alloc (Nat.le_refl _) (.cells #[.int .i64 0, .int .i64 1] 29)
            have hG7 : G < z0.heap.size := heap_lt rf
            replace hf := hf.below hal
            replace hp := hp.below hal
            replace rf := heap_keep hal rf
            replace hA := hA.trans (hal.mono hA.size)
            clear hal
            generalize z0.alloc (.cells #[.int .i64 0, .int .i64 1] 29) = W2 at hf hp rf r7 hA ⊢
            obtain ⟨G7, hg7⟩ : ∃ g, g = z0.heap.size := ⟨_, rfl⟩
            rw [← hg7] at r7 hG7 ⊢
            clear hg7
            go_wp2_with fail
            go_loopw [8, 9] (fun s i wr => ∃ k : Nat, k ≤ nL ∧ i = .int .i64 k ∧ s = .int .i64 (Fl.sumI (L.take k)) ∧ wr = W2) (fun _ i _ => nL - (intOf i).toNat)
            case atStart => exact ⟨0, Nat.zero_le _, rfl, rfl, rfl⟩
            case round =>
              obtain ⟨k, hk, rfl, rfl, hwr⟩ := hrel
              subst hwr
              obtain ⟨⟨f0, f1⟩, -, -⟩ := row_fr rf
              by_cases hlt : k < nL
              · have hkl : k < L.length := by have := HN.out; omega
                obtain ⟨b, off, rfl, hbs, z1⟩ := hf.hL.at hkl
                have hst := Lib.hid (Fl.sumI_take hkl)
                have b1 := sumI_takeB hok.ln hok.l6 k
                have b2 := int_at hok.ln hkl
                obtain ⟨A, hA9⟩ : ∃ x, x = Fl.sumI (L.take k) := ⟨_, rfl⟩
                obtain ⟨x, hx⟩ : ∃ x, x = L.getD k 0 := ⟨_, rfl⟩
                rw [← hx] at z1 hst b2
                rw [← hA9] at b1 hst ⊢
                clear hx hA9
                have i1 : (k : Int) < (nL : Int) := by omega
                go_wp2_with fail
                go_roundw
                case rel => exact ⟨k + 1, by omega, by go_num, by rw [hst.out], trivial⟩
                case measure => simp [intOf]; omega
              · have hk2 : k = nL := by omega
                have hE : Fl.sumI (L.take k) = Kn.stop L := by rw [hk2, HN.out, List.take_length]; rfl
                rw [hE]
                clear hE hk2
                go_wp2_with fail
                go_loopw [10] (fun i wr => ∃ k : Nat, k ≤ n ∧ i = .int .i64 k ∧ wr.heap[G7]? = some (.cells #[.int .i64 (S k).num, .int .i64 (S k).den] 29 (0, 0)) ∧ wr.heap[G]? = some (.cells #[.slice aoL nL cL, .slice aoV nV cV] 57 (0, 0)) ∧ Below w.heap.size w wr) (fun i _ => n - (intOf i).toNat)
                case atStart => exact ⟨0, Nat.zero_le _, rfl, by rw [HS.out.1]; exact r7, rf, hA⟩
                case round =>
                  clear r7 rf hA hp hf f0 f1
                  obtain ⟨k, hk, rfl, r7, rf, hA⟩ := hrel
                  have hp := HPc.out.below hA
                  have hf := HFl.out.below hA
                  obtain ⟨⟨f0, f1⟩, -, -⟩ := row_fr rf
                  by_cases hlt : k < n
                  · have hkl : k < ps.length := by have := Hn.out; omega
                    obtain ⟨b, off, rfl, hbs, z0, z1, z2, z3, z4⟩ := pcs_at hp hkl
                    obtain ⟨q1, q2, W, a1, a2, hW, hSt, hSu, hfS, hfW, hW0, g1, g2, g3, g4, g5⟩ := HS.out.2.2 k hkl
                    rw [a1] at z1 z2
                    rw [a2] at z3 z4
                    simp only at z1 z2 z3 z4
                    clear z0 a1 a2
                    have HSt := Lib.hid hSt
                    obtain ⟨T, hT⟩ : ∃ t, t = S k := ⟨_, rfl⟩
                    rw [← hT] at r7 hSu hfS HSt
                    clear hT hSt
                    have td := W.den_pos
                    have sd := T.den_pos
                    have g6 : (1 : Int) ≤ (W.den : Int) := by omega
                    have g7 : (1 : Int) ≤ (T.den : Int) := by omega
                    have g8 : decide ((W.den : Int) < 1) = false := by rw [decide_eq_false_iff_not]; omega
                    have g9 : decide ((T.den : Int) < 1) = false := by rw [decide_eq_false_iff_not]; omega
                    have g10 : decide (W.num < 0) = false := by rw [decide_eq_false_iff_not]; omega
                    clear td sd
                    have i1 : (k : Int) < (n : Int) := by omega
                    go_upto_region 11 with fail
                    generalize wr = WX at r7 rf hA hp hf hbs z1 z2 z3 z4 f0 f1 ⊢
                    have hWo := fun w' (hb : Below WX.heap.size WX w') => kWorth_ok L V k0 q1 q2 aoL nL cL aoV nV cV w' (hf.below hb) hok hko g1 g2 g3 g4 g5
                    rw [← hW] at hWo
                    have HW := Lib.hid hWo
                    clear hWo hW g1 g2 g3 g4 g5
                    have hk0 : Below WX.heap.size WX WX.drew := below_drewN (Below.refl WX.heap.size WX) 1
                    have hkA0 : Below WX.heap.size WX (WX.alloc (.cells #[.int .i64 0, .int .i64 0] 29)).drew := below_drewN ((Below.refl WX.heap.size WX).alloc (Nat.le_refl _) (.cells #[.int .i64 0, .int .i64 0] 29)) 1
                    have hl_rf := heap_lt rf
                    have hl_r7 := heap_lt r7
                    go_cut [11, 12] from 61 to 103 (fun p11 p12 wc => ∃ g : Nat, p11 = .pointer (some ⟨g, 0, none⟩) ∧ p12 = .int .i64 0 ∧ G7 < g ∧ wc.heap[g]? = some (.cells #[.int .i64 W.num, .int .i64 W.den] 29 (0, 0)) ∧ wc.heap[G]? = some (.cells #[.slice aoL nL cL, .slice aoV nV cV] 57 (0, 0)) ∧ wc.heap[G7]? = some (.cells #[.int .i64 T.num, .int .i64 T.den] 29 (0, 0)) ∧ Below WX.heap.size WX wc)
                    case first =>
                      go_region_held3 (fun w' => w'.cell? ⟨G, 0, none⟩ = some (.slice aoL nL cL) ∧ w'.cell? ⟨G, 1, none⟩ = some (.slice aoV nV cV) ∧ w'.cell? ⟨b, off + k * 5 + 1, none⟩ = some (.int .i64 q1.num) ∧ w'.cell? ⟨b, off + k * 5 + 2, none⟩ = some (.int .i64 q1.den) ∧ w'.cell? ⟨b, off + k * 5 + 3, none⟩ = some (.int .i64 q2.num) ∧ w'.cell? ⟨b, off + k * 5 + 4, none⟩ = some (.int .i64 q2.den))
                        (first | exact ⟨f0, f1, z1, z2, z3, z4⟩ | exact kS1 | exact ⟨cell_two_other _ _ (by omega) kS1.1, cell_two_other _ _ (by omega) kS1.2.1, cell_two_other _ _ (by omega) kS1.2.2.1, cell_two_other _ _ (by omega) kS1.2.2.2.1, cell_two_other _ _ (by omega) kS1.2.2.2.2.1, cell_two_other _ _ (by omega) kS1.2.2.2.2.2⟩ | go_keep)
                        (first
                          | (go_at_call 42; (first | (with_reducible refine (HW.out _ hk0).mono ?_; rintro e w1 ⟨rfl, hb1⟩; have hk1 := hk0.trans (hb1.mono hk0.size); (first | (have rg := heap_keep hb1 rg) | skip)) | (with_reducible refine (HW.out _ hkA0).mono ?_; rintro e w1 ⟨rfl, hb1⟩; have hk1 := hkA0.trans (hb1.mono hkA0.size); have rg := heap_keep hb1 (heap_alloc_new WX (.cells #[.int .i64 0, .int .i64 0] 29)))); have hl1 := hk1.size; have kS1 := And.intro (keep_cell hk1 f0) (And.intro (keep_cell hk1 f1) (And.intro (keep_cell hk1 z1) (And.intro (keep_cell hk1 z2) (And.intro (keep_cell hk1 z3) ((keep_cell hk1 z4)))))); (first | (have rgF := rg; obtain ⟨⟨d0, d1⟩, e0, e1⟩ := row_fr rgF) | skip)))
                      all_goals go_wp2_with fail
                      all_goals go_meet
                      all_goals
                        have hlm := hk1.size
                        have rf' := heap_keep hk1 rf
                        have r7' := heap_keep hk1 r7
                        first
                          | exact ⟨_, rfl, rfl, by omega, two_cells rg _ _, heap_two_other _ _ (by omega) rf', heap_two_other _ _ (by omega) r7', below_setCell (below_setCell hk1 (by omega) _) (by omega) _⟩
                          | exact ⟨_, rfl, rfl, by omega, heap_alloc_new w1 _, (heap_alloc_old _ _ (by omega)).trans rf', (heap_alloc_old _ _ (by omega)).trans r7', hk1.alloc (by omega) _⟩
                    case rest =>
                      obtain ⟨g, rfl, rfl, hg, r9, rf', r7', hB⟩ := hcut
                      clear z1 z2 z3 z4 f0 f1 rf r7 HW
                      have hA2 := hA.trans (hB.mono hA.size)
                      clear hA hf hp hB hbs
                      obtain ⟨⟨t0, t1⟩, -, -⟩ := row_fr r9
                      obtain ⟨⟨y0, y1⟩, -, -⟩ := row_fr r7'
                      go_upto_region 12 with fail
                      go_wp2_with fail
                      have hal := (Below.refl wc.heap.size wc).alloc (Nat.le_refl _) (.cells #[.int .i64 W.num, .int .i64 W.den, .int .i64 T.num, .int .i64 T.den] 29)
                      refine (lfair_yes [pr W, pr T] _ 2 _ _ (pts_two (heap_alloc_new wc (.cells #[.int .i64 W.num, .int .i64 W.den, .int .i64 T.num, .int .i64 T.den] 29))) rfl (by omega) (fun p hp => by
                        simp only [List.mem_cons, List.not_mem_nil, or_false] at hp
                        rcases hp with rfl | rfl
                        · exact hfW
                        · exact hfS)).mono ?_
                      rintro e v5 ⟨rfl, rfl⟩
                      have r9b := heap_keep hal r9
                      have rfb := heap_keep hal rf'
                      have r7b := heap_keep hal r7'
                      have hA3 := hA2.trans (hal.mono hA2.size)
                      have hG7w : w.heap.size ≤ G := by have := HG.out; omega
                      clear hal r9 rf' r7' hA2 t0 t1 y0 y1
                      generalize wc.alloc (.cells #[.int .i64 W.num, .int .i64 W.den, .int .i64 T.num, .int .i64 T.den] 29) = W6 at r9b rfb r7b hA3 ⊢
                      obtain ⟨⟨t0, t1⟩, -, -⟩ := row_fr r9b
                      obtain ⟨⟨y0, y1⟩, -, -⟩ := row_fr r7b
                      go_wp2_with fail
                      refine (radd_q T W _ hSu).mono ?_
                      rintro e v6 ⟨rfl, hb6⟩
                      rw [← HSt.out]
                      obtain ⟨⟨v0, v1⟩, s0, s1⟩ := row_fr (heap_keep hb6 r7b)
                      have r7c := two_cells (heap_keep hb6 r7b) (.int .i64 (S (k + 1)).num) (.int .i64 ((S (k + 1)).den : Int))
                      have rfc := heap_two_other (.int .i64 (S (k + 1)).num) (.int .i64 ((S (k + 1)).den : Int)) (show G ≠ G7 by omega) (heap_keep hb6 rfb)
                      have hb7 := below_setCell (g := G7) (o := 1) (below_setCell (g := G7) (o := 0) (hA3.trans (hb6.mono hA3.size)) (by omega) (.int .i64 (S (k + 1)).num)) (by omega) (.int .i64 ((S (k + 1)).den : Int))
                      go_wp2_with fail
                      go_roundw
                      case rel => exact ⟨k + 1, by omega, by go_num, r7c, rfc, hb7⟩
                      case measure => simp [intOf]; omega
                  · have hk2 : k = n := by omega
                    have hT : S k = Fl.worth (Kn.Z L V k0) 0 (Kn.stop L : Rat) := by rw [hk2, Hn.out]; exact HS.out.2.1
                    obtain ⟨T, hTe⟩ : ∃ t, t = S k := ⟨_, rfl⟩
                    rw [← hTe] at r7 hT
                    clear hTe hk2
                    obtain ⟨E, hE⟩ : ∃ e, e = Kn.stop L := ⟨_, rfl⟩
                    rw [← hE]
                    have h0E : ((0 : Int) : Rat) ≤ (Kn.stop L : Rat) := Rat.intCast_le_intCast.2 (by omega)
                    have hWo := fun w' (hb : Below wr.heap.size wr w') => kWorth_ok L V k0 0 (Kn.stop L : Rat) aoL nL cL aoV nV cV w' (hf.below hb) hok hko Rat.le_refl h0E Rat.le_refl (by decide) (by rw [Rat.den_intCast]; omega)
                    rw [← hT, ← hE] at hWo
                    have HW : Hid (∀ w', Below wr.heap.size wr w' → Calls Try.prog 42 #[.agg #[.slice aoL nL cL, .slice aoV nV cV], .int .i64 k0, .agg #[.int .i64 0, .int .i64 1], .agg #[.int .i64 E, .int .i64 1]] w' fun e w2 => e = .returned (.tuple #[Fr T, .int .i64 0]) ∧ Below w'.heap.size w' w2) := Lib.hid hWo
                    clear hWo hT hE
                    go_upto_region 15 with fail
                    generalize wr = WX at r7 rf hA hp hf f0 f1 HW ⊢
                    have hk0 : Below WX.heap.size WX WX.drew := below_drewN (Below.refl WX.heap.size WX) 1
                    have hkA0 : Below WX.heap.size WX (WX.alloc (.cells #[.int .i64 0, .int .i64 0] 29)).drew := below_drewN ((Below.refl WX.heap.size WX).alloc (Nat.le_refl _) (.cells #[.int .i64 0, .int .i64 0] 29)) 1
                    have hl_rf := heap_lt rf
                    have hl_r7 := heap_lt r7
                    go_cut [13, 14] from 105 (fun p13 p14 wc => ∃ g : Nat, p13 = .pointer (some ⟨g, 0, none⟩) ∧ p14 = .int .i64 0 ∧ G7 < g ∧ wc.heap[g]? = some (.cells #[.int .i64 T.num, .int .i64 T.den] 29 (0, 0)) ∧ wc.heap[G]? = some (.cells #[.slice aoL nL cL, .slice aoV nV cV] 57 (0, 0)) ∧ wc.heap[G7]? = some (.cells #[.int .i64 T.num, .int .i64 T.den] 29 (0, 0)) ∧ Below WX.heap.size WX wc)
                    case first =>
                      go_region_held3 (fun w' => w'.cell? ⟨G, 0, none⟩ = some (.slice aoL nL cL) ∧ w'.cell? ⟨G, 1, none⟩ = some (.slice aoV nV cV))
                        (first | exact ⟨f0, f1⟩ | exact kS3 | exact kS2 | exact kS1 | exact ⟨cell_two_other _ _ (by omega) kS3.1, cell_two_other _ _ (by omega) kS3.2⟩ | go_keep)
                        (first
                          | (go_at_call_of 39 (E); have hkA1 := hk1.alloc hk1.size (.cells #[.int .i64 0, .int .i64 0] 29); (first | (with_reducible refine (swhole_lit E _).mono ?_; rintro e w2 ⟨rfl, hb2⟩; have hk2 := hk1.trans (hb2.mono hk1.size); (first | (have rg := heap_keep hb2 rg) | skip)) | (with_reducible refine (swhole_lit E _).mono ?_; rintro e w2 ⟨rfl, hb2⟩; have hk2 := hkA1.trans (hb2.mono hkA1.size); have rg := heap_keep hb2 (heap_alloc_new w1 (.cells #[.int .i64 0, .int .i64 0] 29)))); have hl2 := hk2.size; have kS2 := And.intro (keep_cell hk2 f0) ((keep_cell hk2 f1)))
                          | (go_at_call 39; (first | (with_reducible refine (swhole_lit 0 _).mono ?_; rintro e w1 ⟨rfl, hb1⟩; have hk1 := hk0.trans (hb1.mono hk0.size); (first | (have rg := heap_keep hb1 rg) | skip)) | (with_reducible refine (swhole_lit 0 _).mono ?_; rintro e w1 ⟨rfl, hb1⟩; have hk1 := hkA0.trans (hb1.mono hkA0.size); have rg := heap_keep hb1 (heap_alloc_new WX (.cells #[.int .i64 0, .int .i64 0] 29)))); have hl1 := hk1.size; have kS1 := And.intro (keep_cell hk1 f0) ((keep_cell hk1 f1)))
                          | (go_at_call 42; have hkA2 := hk2.alloc hk2.size (.cells #[.int .i64 0, .int .i64 0] 29); (first | (with_reducible refine (HW.out _ hk2).mono ?_; rintro e w3 ⟨rfl, hb3⟩; have hk3 := hk2.trans (hb3.mono hk2.size); (first | (have rg := heap_keep hb3 rg) | skip)) | (with_reducible refine (HW.out _ hkA2).mono ?_; rintro e w3 ⟨rfl, hb3⟩; have hk3 := hkA2.trans (hb3.mono hkA2.size); have rg := heap_keep hb3 (heap_alloc_new w2 (.cells #[.int .i64 0, .int .i64 0] 29)))); have hl3 := hk3.size; have kS3 := And.intro (keep_cell hk3 f0) ((keep_cell hk3 f1)); (first | (have rgF := rg; obtain ⟨⟨d0, d1⟩, e0, e1⟩ := row_fr rgF) | skip)))
                      all_goals go_wp2_with fail
                      all_goals go_meet
                      all_goals
                        have hlm := hk3.size
                        have rf' := heap_keep hk3 rf
                        have r7' := heap_keep hk3 r7
                        first
                          | exact ⟨_, rfl, rfl, by omega, two_cells rg _ _, heap_two_other _ _ (by omega) rf', heap_two_other _ _ (by omega) r7', below_setCell (below_setCell hk3 (by omega) _) (by omega) _⟩
                          | exact ⟨_, rfl, rfl, by omega, heap_alloc_new w3 _, (heap_alloc_old _ _ (by omega)).trans rf', (heap_alloc_old _ _ (by omega)).trans r7', hk3.alloc (by omega) _⟩
                    case rest =>
                      obtain ⟨g, rfl, rfl, hg, r9, rf', r7', hB⟩ := hcut
                      have hA2 := hA.trans (hB.mono hA.size)
                      clear f0 f1 rf r7 HW hA hf hp hB
                      obtain ⟨⟨t0, t1⟩, -, -⟩ := row_fr r9
                      obtain ⟨⟨y0, y1⟩, -, -⟩ := row_fr r7'
                      have heq := run_eq_rt T.num T.den T.num T.den
                      rw [decide_eq_true rfl] at heq
                      go_wp2_with fail
                      refine (kknown_any _).mono ?_
                      rintro e vk ⟨rfl, hbk⟩
                      go_wp2_with fail
                      go_ret
                      exact ⟨rfl, hA2.trans (hbk.mono hA2.size)⟩
      · have e0 : (P != 0) = true := by simp [hP0]
        go_wp2_with fail
        refine (kknown_any _).mono ?_
        rintro e vk ⟨rfl, hbk⟩
        go_wp2_with fail
        go_ret
        exact ⟨rfl, hA.trans (hbk.mono hA.size)⟩
end Go.Proofs.Ytngonfbmlfolcaa
