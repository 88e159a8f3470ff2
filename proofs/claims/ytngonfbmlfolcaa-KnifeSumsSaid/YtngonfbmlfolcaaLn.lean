import Derived.Test.YtngonfbmlfolcaaLm
import Derived.Test.YtngonfbmlfolcaaLi
/- The law KnifeCalls: where each owner calls with the knife. -/
namespace Go.Proofs.Ytngonfbmlfolcaa
open Go.RowKit

theorem callQ_at {L : List Int} {V : List (List Int)} (hok : Kn.Ok L V) {o : Nat} (ho : o < V.length) {a : Rat} (ha : KFrom a) (h1 : a ≤ (Kn.stop L : Rat)) : KAt (Kn.callQ L V o a) ∧ a ≤ Kn.callQ L V o a := by
  have hst := hok.stopB
  unfold Kn.callQ
  cases h : Kn.callK L V o a with
  | none => exact ⟨kat_int (by omega) hst.2, h1⟩
  | some t => exact ⟨(call_at hok ho ha h1 h).1, (call_at hok ho ha h1 h).2.1⟩
def fair6 (p : Int × Int) : Prop := 1 ≤ p.2 ∧ p.2 ≤ 4294967296 ∧ p.1 ≤ 35184372088832 ∧ -35184372088832 ≤ p.1
theorem kat_fair {t : Rat} (h : KAt t) : fair6 (pr t) := by
  have n1 := Fl.num_nonneg h.x0
  have m1 : t.num ≤ 120 * (t.den : Int) := Fl.num_le h.x1
  have d1 := h.xd
  have d2 := t.den_pos
  exact ⟨by show (1 : Int) ≤ (t.den : Int); omega, by show (t.den : Int) ≤ _; omega, by show t.num ≤ _; omega, by show _ ≤ t.num; omega⟩
/-- What KnifeCalls looks at, for each owner. -/
theorem calls_facts {L : List Int} {V : List (List Int)} {n d : Int} {C : Int} (hC : Kn.ccode L V n d = C) {T : List (Int × Int)} (hT : T = if C = 0 then Kn.callsL L V (mkRat n d.toNat) V.length else []) :
    T.length ≤ 5 ∧ (∀ p ∈ T, fair6 p) ∧ ∀ k, k < T.length → ∃ t q : Rat, T.getD k (0, 0) = (t.num, (t.den : Int)) ∧ q.num = n ∧ (q.den : Int) = d ∧ q ≤ t ∧ SumQ t q := by
  by_cases h0 : C = 0
  · rw [if_pos h0] at hT
    subst h0
    unfold Kn.ccode at hC
    have hz : Kn.val L V = 0 := by
      split at hC
      · exact hC
      · rename_i h; simpa using h
    rw [if_neg (by simpa using hz)] at hC
    have hp : Fl.plc (Kn.stop L) n d 1000000 = true := by
      split at hC
      · assumption
      · cases hC
    have hok := Kn.val_ok.1 hz
    have hst := hok.stopB
    obtain ⟨q, hq, e1, e2, p1, p2, p3⟩ := Fl.plc_rat hp
    rw [← hq] at hT
    have hkf := kfrom_of p1 p2 hst.2 p3
    have hel : ∀ k, k < V.length → T.getD k (0, 0) = pr (Kn.callQ L V k q) := fun k hk => by
      rw [hT]; unfold Kn.callsL
      rw [List.getD_eq_getElem?_getD, List.getElem?_map, List.getElem?_range hk]; rfl
    have hl : T.length = V.length := by rw [hT, Kn.callsL_len]
    have v5 := hok.v5
    refine ⟨by omega, fun p hp => ?_, fun k hk => ?_⟩
    · rw [hT] at hp
      unfold Kn.callsL at hp
      simp only [List.mem_map, List.mem_range] at hp
      obtain ⟨o, ho, rfl⟩ := hp
      exact kat_fair (callQ_at hok ho hkf p2).1
    · rw [hl] at hk
      obtain ⟨c1, c2⟩ := callQ_at hok hk hkf p2
      have e3 : (Kn.stop L : Rat) ≤ ((120 : Int) : Rat) := Rat.intCast_le_intCast.2 hst.2
      have e4 : ((120 : Int) : Rat) = ((120 : Nat) : Rat) := rfl
      have m : (Kn.callQ L V k q).den * q.den ≤ 100000000 * 1000000 := Nat.mul_le_mul (by have := c1.xd; omega) (by omega)
      exact ⟨_, q, hel k hk, e1, e2, c2, sumQ_of c1.x0 p1 120 120 c1.x1 (by grind) (100000000 * 1000000) m (by omega) (by omega) (by omega)⟩
  · rw [if_neg h0] at hT
    subst hT
    exact ⟨by simp, fun p hp => (by cases hp), fun k hk => absurd hk (by simp)⟩

set_option maxRecDepth 100000 in
set_option maxHeartbeats 4000000 in
theorem lfair_yes (ps : List (Int × Int)) (ao : Option Addr) (n cap : Nat) (w : World) (hp : Pts w ao ps) (hln : n = ps.length) (hn : n ≤ 100000) (hall : ∀ p ∈ ps, fair6 p) :
    Calls Try.prog 52 #[.slice ao n cap] w fun e w' => e = .returned (.bool true) ∧ w = w' := by
  have Hn := Lib.hid hln
  have HAll := Lib.hid hall
  clear hln hall
  go_enter Try.func52, Try.ntmps52
  go_wp2
  go_loop [3] (fun i => ∃ k : Nat, k ≤ n ∧ i = .int .i64 k) (fun i => n - (intOf i).toNat)
  case atStart => exact ⟨0, Nat.zero_le _, rfl⟩
  case round =>
    obtain ⟨k, hk, rfl⟩ := hrel
    by_cases hlt : k < n
    · have hkl : k < ps.length := by have := Hn.out; omega
      obtain ⟨b, off, rfl, hbs, hc⟩ := hp.cells (by omega)
      obtain ⟨hc1, hc2⟩ := hc k hkl
      clear hc hp
      have i1 : (k : Int) < (n : Int) := by omega
      obtain ⟨q1, q2, q3, q4⟩ := HAll.out (ps.getD k (0, 0)) (by rw [List.getD_eq_getElem?_getD, List.getElem?_eq_getElem hkl]; exact List.getElem_mem hkl)
      obtain ⟨z, hz⟩ : ∃ x, x = ps.getD k (0, 0) := ⟨_, rfl⟩
      rw [← hz] at hc1 hc2 q1 q2 q3 q4
      obtain ⟨x, y⟩ := z
      simp only at hc1 hc2 q1 q2 q3 q4
      clear hz
      go_wp2
      go_round
      case rel => exact ⟨k + 1, by omega, by go_num⟩
      case measure => simp [intOf]; omega
    · have hk2 : k = n := by omega
      have Hk := Lib.hid hk2
      clear hk2
      go_wp2
      go_ret
      exact ⟨rfl, rfl⟩

set_option maxRecDepth 100000 in
set_option maxHeartbeats 8000000 in
theorem knifeCalls_any (L : List Int) (aoL : Option Addr) (nL cL : Nat) (V : List (List Int)) (aoV : Option Addr) (nV cV : Nat) (n d : Int) (w : World) (hf : Fld w aoL nL aoV nV L V) (rn : Rng n) (_ : Rng d) :
    Calls Try.prog 11 #[.agg #[.slice aoL nL cL, .slice aoV nV cV], .agg #[.int .i64 n, .int .i64 d]] w fun e w' => e = .returned (.bool true) ∧ Below w.heap.size w w' := by
  have hA := below_alloc2 w (.cells #[.slice aoL nL cL, .slice aoV nV cV] 57) (.cells #[.int .i64 n, .int .i64 d] 29)
  have rf := heap_alloc2_old w (.cells #[.slice aoL nL cL, .slice aoV nV cV] 57) (.cells #[.int .i64 n, .int .i64 d] 29)
  have rx := heap_alloc2_new w (.cells #[.slice aoL nL cL, .slice aoV nV cV] 57) (.cells #[.int .i64 n, .int .i64 d] 29)
  go_enter Try.func11, Try.ntmps11
  go_upto_region 1 with fail
  generalize (w.alloc (.cells #[.slice aoL nL cL, .slice aoV nV cV] 57)).alloc (.cells #[.int .i64 n, .int .i64 d] 29) = W0 at hA rf rx ⊢
  obtain ⟨G, hG⟩ : ∃ g, g = w.heap.size := ⟨_, rfl⟩
  rw [← hG] at rf rx ⊢
  have HG := Lib.hid hG
  clear hG
  replace hf := hf.below hA
  obtain ⟨⟨x0, x1⟩, -, -⟩ := row_fr rf
  go_wp2_with fail
  refine ((klong_any L V _ _ _ _ _ _ W0 hf)).mono ?_
  rintro e w1 ⟨rfl, hbb⟩
  replace hf := hf.below hbb
  replace rf := heap_keep hbb rf
  replace rx := heap_keep hbb rx
  replace hA := hA.trans (hbb.mono hA.size)
  clear hbb
  clear x0 x1
  cases hlg : Kn.lng nL nV V with
  | true =>
    go_wp2_with fail
    refine ((kknown_any w1)).mono ?_
    rintro e w2 ⟨rfl, hbb⟩
    replace hf := hf.below hbb
    replace rf := heap_keep hbb rf
    replace rx := heap_keep hbb rx
    replace hA := hA.trans (hbb.mono hA.size)
    clear hbb
    go_wp2_with fail
    go_ret
    exact ⟨rfl, hA⟩
  | false =>
    obtain ⟨hl, hv, hr⟩ := lng_no hlg
    clear hlg
    obtain ⟨⟨x0, x1⟩, -, -⟩ := row_fr rf
    obtain ⟨⟨y0, y1⟩, -, -⟩ := row_fr rx
    obtain ⟨C, hC⟩ : ∃ c, Kn.ccode L V n d = c := ⟨_, rfl⟩
    obtain ⟨T, hT⟩ : ∃ t, t = (if C = 0 then Kn.callsL L V (mkRat n d.toNat) V.length else []) := ⟨_, rfl⟩
    have HF := Lib.hid (calls_facts hC hT)
    have HC := Lib.hid hC
    have HT := Lib.hid hT
    clear hC hT
    go_wp2_with fail
    refine (kCalls_any L V n d _ _ _ _ _ _ w1 hf hl hv hr rn.2).mono ?_
    rintro e w2 ⟨⟨v1, rfl, M1⟩, hb1⟩
    rw [HC.out] at M1 ⊢
    replace hf := hf.below hb1
    replace rf := heap_keep hb1 rf
    replace rx := heap_keep hb1 rx
    replace hA := hA.trans (hb1.mono hA.size)
    clear hb1 x0 x1 y0 y1
    obtain ⟨⟨x0, x1⟩, -, -⟩ := row_fr rf
    obtain ⟨⟨y0, y1⟩, -, -⟩ := row_fr rx
    go_wp2_with fail
    refine (sCalls_any L V n d _ _ _ _ _ _ w2 hf hl hv hr rn.1 rn.2).mono ?_
    rintro e w3 ⟨⟨v2, rfl, M2⟩, hb1⟩
    rw [HC.out] at M2 ⊢
    replace M1 := M1.below hb1
    replace hf := hf.below hb1
    replace rf := heap_keep hb1 rf
    replace rx := heap_keep hb1 rx
    replace hA := hA.trans (hb1.mono hA.size)
    clear hb1 x0 x1 y0 y1
    obtain ⟨a1, c1, rfl, -, P1⟩ := M1.pts
    obtain ⟨a2, c2, rfl, -, P2⟩ := M2.pts
    clear M1 M2
    rw [← HT.out] at P1 P2 ⊢
    obtain ⟨r, hr5⟩ : ∃ r, r = T.length := ⟨_, rfl⟩
    rw [← hr5]
    have Hr := Lib.hid hr5
    have h5 : r ≤ 5 := by rw [hr5]; exact HF.out.1
    clear hr5 hl hv hr
    have e9 : (C != C) = false := by simp
    go_wp2_with fail
    refine (sameRats_any T T _ _ _ _ _ _ _ P1 P2 Hr.out Hr.out (by omega) (by omega)).mono ?_
    rintro e w4 ⟨rfl, hb1⟩
    rw [decide_eq_true rfl]
    replace P1 := P1.below hb1
    replace hf := hf.below hb1
    replace rf := heap_keep hb1 rf
    replace rx := heap_keep hb1 rx
    replace hA := hA.trans (hb1.mono hA.size)
    clear hb1 P2
    go_wp2_with fail
    go_loopw [9] (fun i wr => ∃ k : Nat, k ≤ r ∧ i = .int .i64 k ∧ Below w4.heap.size w4 wr) (fun i _ => r - (intOf i).toNat)
    case atStart => exact ⟨0, Nat.zero_le _, rfl, Below.refl _ _⟩
    case round =>
      obtain ⟨k, hk, rfl, hb⟩ := hrel
      by_cases hlt : k < r
      · have hkl : k < T.length := by have := Hr.out; omega
        obtain ⟨t, q, ht, hq1, hq2, hqt, hSu⟩ := HF.out.2.2 k hkl
        have Rx := heap_keep hb rx
        rw [← hq1, ← hq2] at Rx
        clear hq1 hq2
        have P3 := P1.below hb
        obtain ⟨b, off, rfl, hbs, hc⟩ := P3.cells (by omega)
        obtain ⟨hc1, hc2⟩ := hc k hkl
        rw [ht] at hc1 hc2
        simp only at hc1 hc2
        clear hc ht
        obtain ⟨⟨y0, y1⟩, -, -⟩ := row_fr Rx
        have td := t.den_pos
        have qd := q.den_pos
        have g1 : decide ((t.den : Int) < 1) = false := by simp; omega
        have g2 : decide ((q.den : Int) < 1) = false := by simp; omega
        have g3 : decide (t < q) = false := by simp; grind
        have i1 : (k : Int) < (r : Int) := by omega
        have hbw := hA.trans (hb.mono hA.size)
        have hdr : Below wr.heap.size wr wr.drew := below_drewN (Below.refl wr.heap.size wr) 1
        have P4 := P3.below hdr
        have d1 := keep_cell hdr hc1
        have d2 := keep_cell hdr hc2
        have d3 := keep_cell hdr y0
        have d4 := keep_cell hdr y1
        go_upto_region 10 with fail
        go_region_held3 (fun w' => w'.cell? ⟨b, off + k * 2, none⟩ = some (.int .i64 t.num) ∧ w'.cell? ⟨b, off + k * 2 + 1, none⟩ = some (.int .i64 t.den) ∧ w'.cell? ⟨G + 1, 0, none⟩ = some (.int .i64 q.num) ∧ w'.cell? ⟨G + 1, 1, none⟩ = some (.int .i64 q.den))
          (first | exact ⟨d1, d2, d3, d4⟩ | exact kb | exact ka)
          (first
            | (go_at_call 52; refine (lfair_yes T _ _ _ _ P4 Hr.out (by omega) HF.out.2.1).mono ?_; rintro e w5 ⟨rfl, rfl⟩; have ka := And.intro d1 (And.intro d2 (And.intro d3 d4)))
            | (go_at_call 35; refine (rless_q t q _ hSu).mono ?_; rintro e w6 ⟨rfl, hb6⟩; have kb := And.intro (keep_cell hb6 ka.1) (And.intro (keep_cell hb6 ka.2.1) (And.intro (keep_cell hb6 ka.2.2.1) (keep_cell hb6 ka.2.2.2)))))
        have hb7 := hb.trans ((hdr.trans hb6).mono hb.size)
        clear d1 d2 d3 d4 ka kb hb6 hdr P4
        go_wp2_with fail
        go_roundw
        case rel => exact ⟨k + 1, by omega, by go_num, hb7⟩
        case measure => simp [intOf]; omega
      · have hk2 : k = r := by omega
        have Hk := Lib.hid hk2
        clear hk2
        have hA2 := hA.trans (hb.mono hA.size)
        go_wp2_with fail
        refine (kknown_any wr).mono ?_
        rintro e w5 ⟨rfl, hb1⟩
        go_wp2_with fail
        go_ret
        exact ⟨rfl, hA2.trans (hb1.mono hA2.size)⟩
end Go.Proofs.Ytngonfbmlfolcaa
