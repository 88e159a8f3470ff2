import Derived.Test.YtngonfbmlfolcaaLl
import Derived.Test.YtngonfbmlfolcaaLg
import Derived.Test.YtngonfbmlfolcaaLc
import Derived.Test.YtngonfbmlfolcaaB5
/- Calls of package knife and of its reference. -/
namespace Go.Proofs.Ytngonfbmlfolcaa
open Go.RowKit
/-- Where an owner calls; the end of the field if he never does. -/
def Kn.callQ (L : List Int) (V : List (List Int)) (o : Nat) (a : Rat) : Rat := (Kn.callK L V o a).getD (Kn.stop L : Rat)
def Kn.callsL (L : List Int) (V : List (List Int)) (a : Rat) (k : Nat) : List (Int × Int) := (List.range k).map fun o => pr (Kn.callQ L V o a)
theorem Kn.callsL_succ (L : List Int) (V : List (List Int)) (a : Rat) (k : Nat) : Kn.callsL L V a (k + 1) = Kn.callsL L V a k ++ [pr (Kn.callQ L V k a)] := by
  unfold Kn.callsL; rw [List.range_succ, List.map_append]; rfl
theorem Kn.callsL_len (L : List Int) (V : List (List Int)) (a : Rat) (k : Nat) : (Kn.callsL L V a k).length = k := by unfold Kn.callsL; simp
/-- The code of Calls. -/
def Kn.ccode (L : List Int) (V : List (List Int)) (n d : Int) : Int := if Kn.val L V ≠ 0 then Kn.val L V else if Fl.plc (Kn.stop L) n d 1000000 then 0 else 1
theorem kfrom_of {E : Int} {q : Rat} (h0 : 0 ≤ q) (h1 : q ≤ (E : Rat)) (hE : E ≤ 120) (hd : (q.den : Int) ≤ 1000000) : KFrom q :=
  ⟨h0, Rat.le_trans h1 (by have : (E : Rat) ≤ ((1000 : Int) : Rat) := Rat.intCast_le_intCast.2 (by omega)
                           exact this), hd⟩

set_option maxRecDepth 100000 in
set_option maxHeartbeats 4000000 in
theorem scall_any (L : List Int) (V : List (List Int)) (o : Nat) (a : Rat) (aoL : Option Addr) (nL cL : Nat) (aoV : Option Addr) (nV cV : Nat) (w : World) (hf : Fld w aoL nL aoV nV L V) (hok : Kn.Ok L V) (ho : o < V.length) (ha : KFrom a) (ha2 : a ≤ (Kn.stop L : Rat)) :
    Calls Try.prog 101 #[.agg #[.slice aoL nL cL, .slice aoV nV cV], .int .i64 o, Fr a] w fun e w' => e = .returned (Fr (Kn.callQ L V o a)) ∧ Below w.heap.size w w' := by
  obtain ⟨Q, hQ⟩ : ∃ q, q = Kn.callQ L V o a := ⟨_, rfl⟩
  rw [← hQ]
  have HQ := Lib.hid hQ
  clear hQ
  have hv5 : nV ≤ 5 := by have := hf.nv; have := hok.v5; omega
  have hv1 : 1 ≤ nV := by have := hf.nv; have := hok.v1; omega
  have hA := below_alloc3 w (.cells #[.slice aoL nL cL, .slice aoV nV cV] 57) (.cells #[.int .i64 a.num, .int .i64 a.den] 29) (.cells #[.int .i64 0, .int .i64 0] 29)
  obtain ⟨rf, ra, rr⟩ := heap_alloc3_all w (.cells #[.slice aoL nL cL, .slice aoV nV cV] 57) (.cells #[.int .i64 a.num, .int .i64 a.den] 29) (.cells #[.int .i64 0, .int .i64 0] 29)
  go_enter Try.func101, Try.ntmps101
  go_upto_region 1 with fail
  generalize ((w.alloc (.cells #[.slice aoL nL cL, .slice aoV nV cV] 57)).alloc (.cells #[.int .i64 a.num, .int .i64 a.den] 29)).alloc (.cells #[.int .i64 0, .int .i64 0] 29) = W0 at hA rf ra rr ⊢
  obtain ⟨G, hG⟩ : ∃ g, g = w.heap.size := ⟨_, rfl⟩
  rw [← hG] at rf ra rr ⊢
  have HG := Lib.hid hG
  clear hG
  replace hf := hf.below hA
  have hmk := smark_any L V o a 1 nV aoL nL cL aoV nV cV W0 hf hok ho ha ha2 (by omega) (by omega) (by omega) (by omega)
  rw [Int.mul_one, Int.toNat_natCast, show Fl.placeK (Kn.Z L V o) a (mkRat (Fl.tot (Kn.Z L V o)) nV) = Kn.callK L V o a by rw [hf.nv]; rfl] at hmk
  obtain ⟨⟨x0, x1⟩, -, -⟩ := row_fr rf
  obtain ⟨⟨a0, a1⟩, -, -⟩ := row_fr ra
  go_wp2_with fail
  refine ((hmk)).mono ?_
  rintro e w1 ⟨rfl, hbb⟩
  replace hf := hf.below hbb
  replace rf := heap_keep hbb rf
  replace rr := heap_keep hbb rr
  replace hA := hA.trans (hbb.mono hA.size)
  clear hbb
  clear hmk x0 x1 a0 a1 ra
  cases hR : Kn.callK L V o a with
  | none =>
    have hq : Hid (Q = (Kn.stop L : Rat)) := Lib.hid (by rw [HQ.out]; unfold Kn.callQ; rw [hR]; rfl)
    rw [show optFr none = .agg #[.int .i64 0, .int .i64 0] from rfl, show (none : Option Rat).isSome = false from rfl]
    clear hR
    go_upto_region 2 with fail
    have hal := (Below.refl w1.heap.size w1).alloc (Nat.le_refl _) (.cells #[.int .i64 0, .int .i64 0] 29)
    replace hf := hf.below hal
    replace rf := heap_keep hal rf
    replace rr := heap_keep hal rr
    replace hA := hA.trans (hal.mono hA.size)
    clear hal
    generalize w1.alloc (.cells #[.int .i64 0, .int .i64 0] 29) = W2 at hf rf rr hA ⊢
    obtain ⟨⟨x0, x1⟩, -, -⟩ := row_fr rf
    go_wp2_with fail
    refine ((send_any L V _ _ _ _ _ _ W2 hf hok)).mono ?_
    rintro e w2 ⟨rfl, hbb⟩
    replace hf := hf.below hbb
    replace rf := heap_keep hbb rf
    replace rr := heap_keep hbb rr
    replace hA := hA.trans (hbb.mono hA.size)
    clear hbb
    clear x0 x1
    obtain ⟨⟨r0, r1⟩, s0, s1⟩ := row_fr rr
    go_wp2_with fail
    rw [show (Fr Q) = Fr ((Kn.stop L : Int) : Rat) by rw [hq.out]]
    exact bodyPost_ret (results_cell_row rfl _ _ _ _ _ _ _ rfl (two_cells rr (.int .i64 (Kn.stop L)) (.int .i64 1)) Try.underlying29 rfl infoRat2) rfl ⟨rfl, below_setCell (below_setCell hA (by have := HG.out; omega) _) (by have := HG.out; omega) _⟩
  | some t =>
    have hq : Hid (Q = t) := Lib.hid (by rw [HQ.out]; unfold Kn.callQ; rw [hR]; rfl)
    rw [show optFr (some t) = Fr t from rfl, show (some t).isSome = true from rfl]
    clear hR
    go_upto_region 2 with fail
    have r7 := heap_alloc_new w1 (.cells #[.int .i64 t.num, .int .i64 t.den] 29)
    have hal := (Below.refl w1.heap.size w1).alloc (Nat.le_refl _) (.cells #[.int .i64 t.num, .int .i64 t.den] 29)
    replace hf := hf.below hal
    replace rf := heap_keep hal rf
    replace rr := heap_keep hal rr
    replace hA := hA.trans (hal.mono hA.size)
    clear hal
    generalize w1.alloc (.cells #[.int .i64 t.num, .int .i64 t.den] 29) = W2 at hf rf rr hA r7 ⊢
    obtain ⟨⟨t0, t1⟩, -, -⟩ := row_fr r7
    obtain ⟨⟨r0, r1⟩, s0, s1⟩ := row_fr rr
    go_wp2_with fail
    rw [hq.out]
    exact bodyPost_ret (results_cell_row rfl _ _ _ _ _ _ _ rfl (two_cells rr (.int .i64 t.num) (.int .i64 t.den)) Try.underlying29 rfl infoRat2) rfl ⟨rfl, below_setCell (below_setCell hA (by have := HG.out; omega) _) (by have := HG.out; omega) _⟩

set_option maxRecDepth 100000 in
set_option maxHeartbeats 8000000 in
theorem sCalls_any (L : List Int) (V : List (List Int)) (n d : Int) (aoL : Option Addr) (nL cL : Nat) (aoV : Option Addr) (nV cV : Nat) (w : World) (hf : Fld w aoL nL aoV nV L V) (hl : nL ≤ 100) (hv : nV ≤ 100) (hr : ∀ r ∈ V, r.length ≤ 100) (hn0 : -9223372036854775808 ≤ n) (hn : n ≤ 9223372036854775807) :
    Calls Try.prog 51 #[.agg #[.slice aoL nL cL, .slice aoV nV cV], .agg #[.int .i64 n, .int .i64 d]] w fun e w' => (∃ v, e = .returned (.tuple #[v, .int .i64 (Kn.ccode L V n d)]) ∧ CutMade w' w.heap.size v (Kn.ccode L V n d) (Kn.callsL L V (mkRat n d.toNat) V.length)) ∧ Below w.heap.size w w' := by
  obtain ⟨C, hC⟩ : ∃ c, c = Kn.ccode L V n d := ⟨_, rfl⟩
  rw [← hC]
  have HC := Lib.hid hC
  clear hC
  obtain ⟨q0, hq0⟩ : ∃ q, q = mkRat n d.toNat := ⟨_, rfl⟩
  rw [← hq0]
  have HQ0 := Lib.hid hq0
  clear hq0
  obtain ⟨i0, hi0, hz0, hz1, hz2⟩ := info_rt
  have hA := below_alloc2 w (.cells #[.slice aoL nL cL, .slice aoV nV cV] 57) (.cells #[.int .i64 n, .int .i64 d] 29)
  have rf := heap_alloc2_old w (.cells #[.slice aoL nL cL, .slice aoV nV cV] 57) (.cells #[.int .i64 n, .int .i64 d] 29)
  have ra := heap_alloc2_new w (.cells #[.slice aoL nL cL, .slice aoV nV cV] 57) (.cells #[.int .i64 n, .int .i64 d] 29)
  go_enter Try.func51, Try.ntmps51
  go_upto_region 1 with fail
  generalize (w.alloc (.cells #[.slice aoL nL cL, .slice aoV nV cV] 57)).alloc (.cells #[.int .i64 n, .int .i64 d] 29) = W0 at hA rf ra ⊢
  obtain ⟨G, hG⟩ : ∃ g, g = w.heap.size := ⟨_, rfl⟩
  rw [← hG] at rf ra ⊢
  have HG := Lib.hid hG
  clear hG
  replace hf := hf.below hA
  obtain ⟨⟨x0, x1⟩, -, -⟩ := row_fr rf
  go_wp2_with fail
  refine ((sValidate_any L V _ _ _ _ _ _ W0 hf hl hv hr)).mono ?_
  rintro e w1 ⟨rfl, hbb⟩
  replace hf := hf.below hbb
  replace rf := heap_keep hbb rf
  replace ra := heap_keep hbb ra
  replace hA := hA.trans (hbb.mono hA.size)
  clear hbb
  clear x0 x1
  by_cases hz : Kn.val L V = 0
  · rw [hz]
    have hok := Kn.val_ok.1 hz
    have hst := hok.stopB
    have hCe : C = if Fl.plc (Kn.stop L) n d 1000000 then 0 else 1 := by rw [HC.out]; unfold Kn.ccode; rw [if_neg (by simpa using hz)]
    have HC1 := Lib.hid hCe
    clear hCe
    obtain ⟨⟨x0, x1⟩, -, -⟩ := row_fr rf
    obtain ⟨⟨a0, a1⟩, -, -⟩ := row_fr ra
    cases hp : Fl.plc (Kn.stop L) n d 1000000 with
    | false =>
      have hc : Hid (C = 1) := Lib.hid (by rw [HC1.out, hp]; rfl)
      go_wp2_with fail
      refine ((sisPlace_any L V n d _ _ _ _ _ _ w1 hf hok hn0 hn)).mono ?_
      rintro e w2 ⟨rfl, hbb⟩
      replace hf := hf.below hbb
      replace rf := heap_keep hbb rf
      replace ra := heap_keep hbb ra
      replace hA := hA.trans (hbb.mono hA.size)
      clear hbb
      rw [hp]
      clear x0 x1 a0 a1
      go_wp2_with fail
      go_ret2
      rw [hc.out]
      exact ⟨⟨_, rfl, .inr ⟨by decide, rfl⟩⟩, hA⟩
    | true =>
      have hc : Hid (C = 0) := Lib.hid (by rw [HC1.out, hp]; rfl)
      go_wp2_with fail
      refine ((sisPlace_any L V n d _ _ _ _ _ _ w1 hf hok hn0 hn)).mono ?_
      rintro e w3 ⟨rfl, hbb⟩
      replace hf := hf.below hbb
      replace rf := heap_keep hbb rf
      replace ra := heap_keep hbb ra
      replace hA := hA.trans (hbb.mono hA.size)
      clear hbb
      rw [hp]
      clear x0 x1 a0 a1
      obtain ⟨q, hq, e1, e2, p1, p2, p3⟩ := Fl.plc_rat hp
      have hqe : q = q0 := hq.trans HQ0.out.symm
      clear HQ0 hq hp
      subst hqe
      rw [← e1, ← e2] at ra
      clear e1 e2
      have hkf := kfrom_of p1 p2 hst.2 p3
      have hbw := hA
      have hsz := hA.size
      have HV := Lib.hid hf.nv
      have hv5 : nV ≤ 5 := by have := hf.nv; have := hok.v5; omega
      obtain ⟨⟨x0, x1⟩, -, -⟩ := row_fr rf
      go_upto_region 7 with fail
      generalize w3 = W0 at hf rf ra hA hbw hsz x0 x1 ⊢
      go_wp2_with fail
      go_loopw [7, 8] (fun v i wr => ∃ k : Nat, k ≤ nV ∧ i = .int .i64 k ∧ Hid (wr.ownsRow W0.heap.size 29 2 v k (flat2 (Kn.callsL L V q k))) ∧ Below W0.heap.size W0 wr) (fun _ i _ => nV - (intOf i).toNat)
      case atStart => exact ⟨0, Nat.zero_le _, rfl, Lib.hid ⟨rfl, .inl ⟨rfl, rfl⟩⟩, Below.refl _ _⟩
      case round =>
        obtain ⟨k, hk, rfl, hown, hb⟩ := hrel
        have hfr := hf.below hb
        have Rf := heap_keep hb rf
        have Ra := heap_keep hb ra
        obtain ⟨⟨f0, f1⟩, -, -⟩ := row_fr Rf
        obtain ⟨⟨a0, a1⟩, -, -⟩ := row_fr Ra
        by_cases hlt : k < nV
        · have hkl : k < V.length := by have := HV.out; omega
          have i1 : (k : Int) < (nV : Int) := by omega
          go_wp2_with fail
          refine (scall_any L V k q _ _ _ _ _ _ wr hfr hok hkl hkf p2).mono ?_
          rintro e w3 ⟨rfl, hb3⟩
          have hB := hb.trans (hb3.mono hb.size)
          replace hown := Lib.hid (own_below hown.out hb3)
          have hst2 := Lib.hid (Kn.callsL_succ L V q k)
          generalize Kn.callQ L V k q = t at hst2 ⊢
          clear f0 f1 a0 a1 Ra Rf hb hb3 hfr
          have hwc := hB.size
          go_wp2_with (first | (at_builtin; refine wpList_append_own _ rfl _ _ 40 rfl W0.heap.size 29 i0 (.agg #[.int .i64 0, .int .i64 0]) 2 16 Try.underlying40 hi0 hz0 hz1 hz2 rfl (by decide) _ k _ rfl (hown.out.alloc _) ⟨w3.heap.size, 0, none⟩ 1 1 [.int .i64 t.num, .int .i64 t.den] rfl rfl (World.news_of_block (cs := #[.int .i64 t.num, .int .i64 t.den]) (t := 29) (fr := (0, 0)) (heap_alloc_new w3 _)) (by simp [Value.oneCell']) (by unfold maxLen; omega) (by omega) (by simp; omega) ?_; intro v' w9 hown9 hgrow9 hnil9; have hb9 : Below W0.heap.size W0 w9 := (hB.alloc hB.size _).grown hgrow9 (by have := hB.size; simp; omega) (fun q hq => (hown.out.lt _ hq).1); clear hgrow9 hnil9))
          go_roundw
          case rel => exact ⟨k + 1, by omega, by go_num, Lib.hid (by rw [hst2.out, flat2_app]; exact hown9), hb9⟩
          case measure => simp [intOf]; omega
        · have hke : k = V.length := by have := HV.out; omega
          have Ho : Hid (wr.ownsRow w.heap.size 29 2 u7 (Kn.callsL L V q V.length).length (flat2 (Kn.callsL L V q V.length))) := Lib.hid (by
            rw [Kn.callsL_len, ← hke]
            exact own_mono hown.out hsz)
          have hB := hbw.trans (hb.mono hsz)
          clear hke hown
          have i1 : ¬ (k : Int) < (nV : Int) := by omega
          go_wp2
          go_ret2
          rw [hc.out]
          exact ⟨⟨_, rfl, .inl ⟨rfl, Ho.out⟩⟩, hB⟩
  · have hc : Hid (C = Kn.val L V) := Lib.hid (by rw [HC.out]; unfold Kn.ccode; rw [if_pos hz])
    have hne : (Kn.val L V != 0) = true := by simp [hz]
    generalize Kn.val L V = D at hz hne hc ⊢
    go_wp2_with fail
    go_ret2
    rw [hc.out]
    exact ⟨⟨_, rfl, .inr ⟨hz, rfl⟩⟩, hA⟩

set_option maxRecDepth 100000 in
set_option maxHeartbeats 8000000 in
theorem kCalls_any (L : List Int) (V : List (List Int)) (n d : Int) (aoL : Option Addr) (nL cL : Nat) (aoV : Option Addr) (nV cV : Nat) (w : World) (hf : Fld w aoL nL aoV nV L V) (hl : nL ≤ 100) (hv : nV ≤ 100) (hr : ∀ r ∈ V, r.length ≤ 100) (hn : n ≤ 9223372036854775807) :
    Calls Try.prog 50 #[.agg #[.slice aoL nL cL, .slice aoV nV cV], .agg #[.int .i64 n, .int .i64 d]] w fun e w' => (∃ v, e = .returned (.tuple #[v, .int .i64 (Kn.ccode L V n d)]) ∧ CutMade w' w.heap.size v (Kn.ccode L V n d) (Kn.callsL L V (mkRat n d.toNat) V.length)) ∧ Below w.heap.size w w' := by
  obtain ⟨C, hC⟩ : ∃ c, c = Kn.ccode L V n d := ⟨_, rfl⟩
  rw [← hC]
  have HC := Lib.hid hC
  clear hC
  obtain ⟨q0, hq0⟩ : ∃ q, q = mkRat n d.toNat := ⟨_, rfl⟩
  rw [← hq0]
  have HQ0 := Lib.hid hq0
  clear hq0
  obtain ⟨i0, hi0, hz0, hz1, hz2⟩ := info_rt
  have hA := below_alloc2 w (.cells #[.slice aoL nL cL, .slice aoV nV cV] 57) (.cells #[.int .i64 n, .int .i64 d] 29)
  have rf := heap_alloc2_old w (.cells #[.slice aoL nL cL, .slice aoV nV cV] 57) (.cells #[.int .i64 n, .int .i64 d] 29)
  have ra := heap_alloc2_new w (.cells #[.slice aoL nL cL, .slice aoV nV cV] 57) (.cells #[.int .i64 n, .int .i64 d] 29)
  go_enter Try.func50, Try.ntmps50
  go_upto_region 1 with fail
  generalize (w.alloc (.cells #[.slice aoL nL cL, .slice aoV nV cV] 57)).alloc (.cells #[.int .i64 n, .int .i64 d] 29) = W0 at hA rf ra ⊢
  obtain ⟨G, hG⟩ : ∃ g, g = w.heap.size := ⟨_, rfl⟩
  rw [← hG] at rf ra ⊢
  have HG := Lib.hid hG
  clear hG
  replace hf := hf.below hA
  obtain ⟨⟨x0, x1⟩, -, -⟩ := row_fr rf
  go_wp2_with fail
  refine ((kValidate_any L V _ _ _ _ _ _ W0 hf hl hv hr)).mono ?_
  rintro e w1 ⟨rfl, hbb⟩
  replace hf := hf.below hbb
  replace rf := heap_keep hbb rf
  replace ra := heap_keep hbb ra
  replace hA := hA.trans (hbb.mono hA.size)
  clear hbb
  clear x0 x1
  by_cases hz : Kn.val L V = 0
  · rw [hz]
    have hok := Kn.val_ok.1 hz
    have hst := hok.stopB
    have hCe : C = if Fl.plc (Kn.stop L) n d 1000000 then 0 else 1 := by rw [HC.out]; unfold Kn.ccode; rw [if_neg (by simpa using hz)]
    have HC1 := Lib.hid hCe
    clear hCe
    obtain ⟨⟨x0, x1⟩, -, -⟩ := row_fr rf
    obtain ⟨⟨a0, a1⟩, -, -⟩ := row_fr ra
    cases hp : Fl.plc (Kn.stop L) n d 1000000 with
    | false =>
      have hc : Hid (C = 1) := Lib.hid (by rw [HC1.out, hp]; rfl)
      go_wp2_with fail
      refine ((kisPlace_any L V n d _ _ _ _ _ _ w1 hf hok hn)).mono ?_
      rintro e w2 ⟨rfl, hbb⟩
      replace hf := hf.below hbb
      replace rf := heap_keep hbb rf
      replace ra := heap_keep hbb ra
      replace hA := hA.trans (hbb.mono hA.size)
      clear hbb
      rw [hp]
      clear x0 x1 a0 a1
      go_wp2_with fail
      go_ret2
      rw [hc.out]
      exact ⟨⟨_, rfl, .inr ⟨by decide, rfl⟩⟩, hA⟩
    | true =>
      have hc : Hid (C = 0) := Lib.hid (by rw [HC1.out, hp]; rfl)
      go_wp2_with fail
      refine ((kisPlace_any L V n d _ _ _ _ _ _ w1 hf hok hn)).mono ?_
      rintro e w3 ⟨rfl, hbb⟩
      replace hf := hf.below hbb
      replace rf := heap_keep hbb rf
      replace ra := heap_keep hbb ra
      replace hA := hA.trans (hbb.mono hA.size)
      clear hbb
      rw [hp]
      clear x0 x1 a0 a1
      obtain ⟨q, hq, e1, e2, p1, p2, p3⟩ := Fl.plc_rat hp
      have hqe : q = q0 := hq.trans HQ0.out.symm
      clear HQ0 hq hp
      subst hqe
      rw [← e1, ← e2] at ra
      clear e1 e2
      have hkf := kfrom_of p1 p2 hst.2 p3
      have hbw := hA
      have hsz := hA.size
      have HV := Lib.hid hf.nv
      have hv5 : nV ≤ 5 := by have := hf.nv; have := hok.v5; omega
      obtain ⟨⟨x0, x1⟩, -, -⟩ := row_fr rf
      go_upto_region 7 with fail
      generalize w3 = W0 at hf rf ra hA hbw hsz x0 x1 ⊢
      go_wp2_with fail
      go_loopw [7, 23] (fun v i wr => ∃ k : Nat, k ≤ nV ∧ i = .int .i64 k ∧ Hid (wr.ownsRow W0.heap.size 29 2 v k (flat2 (Kn.callsL L V q k))) ∧ Below W0.heap.size W0 wr) (fun _ i _ => nV - (intOf i).toNat)
      case atStart => exact ⟨0, Nat.zero_le _, rfl, Lib.hid ⟨rfl, .inl ⟨rfl, rfl⟩⟩, Below.refl _ _⟩
      case round =>
        obtain ⟨k, hk, rfl, hown, hb⟩ := hrel
        have hfr := hf.below hb
        have Rf := heap_keep hb rf
        have Ra := heap_keep hb ra
        obtain ⟨⟨f0, f1⟩, -, -⟩ := row_fr Rf
        obtain ⟨⟨a0, a1⟩, -, -⟩ := row_fr Ra
        by_cases hlt : k < nV
        · have hkl : k < V.length := by have := HV.out; omega
          have i1 : (k : Int) < (nV : Int) := by omega
          go_wp2_with fail
          refine (kcall_any L V k q _ _ _ _ _ _ wr hfr hok hkl hkf).mono ?_
          rintro e w3 ⟨rfl, hb3⟩
          have hb3' := hb.trans (hb3.mono hb.size)
          have hown3 := own_below hown.out hb3
          have Rf3 := heap_keep hb3 Rf
          have hf3 := hfr.below hb3
          clear f0 f1 a0 a1 hown Ra
          cases hR : Kn.callK L V k q with
          | none =>
            have hst2 : Hid (Kn.callsL L V q (k + 1) = Kn.callsL L V q k ++ [pr (Kn.stop L : Rat)]) := Lib.hid (by rw [Kn.callsL_succ]; unfold Kn.callQ; rw [hR]; rfl)
            rw [show optFr none = .agg #[.int .i64 0, .int .i64 0] from rfl, show (none : Option Rat).isSome = false from rfl]
            clear hR
            go_upto_region 11 with fail
            have r9 := heap_alloc_new w3 (.cells #[.int .i64 0, .int .i64 0] 106)
            have hal := (Below.refl w3.heap.size w3).alloc (Nat.le_refl _) (.cells #[.int .i64 0, .int .i64 0] 106)
            have hf4 := hf3.below hal
            have Rf4 := heap_keep hal Rf3
            obtain ⟨g9, hg9⟩ : ∃ g, g = w3.heap.size := ⟨_, rfl⟩
            have hsz4 : g9 < (w3.alloc (.cells #[.int .i64 0, .int .i64 0] 106)).heap.size := by rw [hg9]; exact heap_lt r9
            generalize w3.alloc (.cells #[.int .i64 0, .int .i64 0] 106) = W4 at r9 hal hf4 Rf4 hsz4 ⊢
            rw [← hg9] at r9 ⊢
            have Hg9 := Lib.hid hg9
            clear hg9
            obtain ⟨⟨f0, f1⟩, -, -⟩ := row_fr Rf4
            go_wp2_with fail
            refine (klength_any L _ _ _ _ aoV nV cV rfl W4 hf4.hL hf4.nl hok.ln hok.l6).mono ?_
            rintro e w5 ⟨rfl, hb5⟩
            go_wp2_with fail
            refine (kwhole_any _ w5).mono ?_
            rintro e w6 ⟨rfl, hb6⟩
            have r96 := heap_keep hb6 (heap_keep hb5 r9)
            obtain ⟨⟨z0, z1⟩, y0, y1⟩ := row_fr r96
            go_upto_region 13 with fail
            have hb36 : Below w3.heap.size w3 w6 := (hal.trans (hb5.mono hal.size)).trans (hb6.mono (hal.trans (hb5.mono hal.size)).size)
            have hst36 : Below w3.heap.size w3 ((w6.setCell ⟨g9, 0, none⟩ (.int .i64 (Kn.stop L))).setCell ⟨g9, 1, none⟩ (.int .i64 1)) := below_setCell (below_setCell hb36 (by have := Hg9.out; show w3.heap.size ≤ g9; omega) _) (by have := Hg9.out; show w3.heap.size ≤ g9; omega) _
            have r9 : ((w6.setCell ⟨g9, 0, none⟩ (.int .i64 (Kn.stop L))).setCell ⟨g9, 1, none⟩ (.int .i64 1)).heap[g9]? = some (.cells #[.int .i64 (Kn.stop L), .int .i64 1] 106 (0, 0)) := two_cells r96 _ _
            have hB := hb3'.trans (hst36.mono hb3'.size)
            have hown := Lib.hid (own_below hown3 hst36)
            generalize (w6.setCell ⟨g9, 0, none⟩ (.int .i64 (Kn.stop L))).setCell ⟨g9, 1, none⟩ (.int .i64 1) = WC at r9 hB hown ⊢
            clear hst36 hb36 hal hf4 Rf4 hb5 hb6 r96 z0 z1 y0 y1 f0 f1 hown3 Rf3 hf3 hb3 hb3' hfr Rf hb
            obtain ⟨⟨t0, t1⟩, -, -⟩ := row_fr r9
            have hwc := hB.size
            go_wp2_with (first | (at_builtin; refine wpList_append_own _ rfl _ _ 40 rfl W0.heap.size 29 i0 (.agg #[.int .i64 0, .int .i64 0]) 2 16 Try.underlying40 hi0 hz0 hz1 hz2 rfl (by decide) _ k _ rfl (hown.out.alloc _) ⟨WC.heap.size, 0, none⟩ 1 1 [.int .i64 (Kn.stop L), .int .i64 1] rfl rfl (World.news_of_block (cs := #[.int .i64 (Kn.stop L), .int .i64 1]) (t := 29) (fr := (0, 0)) (heap_alloc_new WC _)) (by simp [Value.oneCell']) (by unfold maxLen; omega) (by omega) (by simp; omega) ?_; intro v' w9 hown9 hgrow9 hnil9; have hb9 : Below W0.heap.size W0 w9 := (hB.alloc hB.size _).grown hgrow9 (by have := hB.size; simp; omega) (fun q hq => (hown.out.lt _ hq).1); clear hgrow9 hnil9))
            go_roundw
            case rel => exact ⟨k + 1, by omega, by go_num, Lib.hid (by rw [hst2.out, flat2_app]; exact hown9), hb9⟩
            case measure => simp [intOf]; omega
          | some t =>
            have hst2 : Hid (Kn.callsL L V q (k + 1) = Kn.callsL L V q k ++ [pr t]) := Lib.hid (by rw [Kn.callsL_succ]; unfold Kn.callQ; rw [hR]; rfl)
            rw [show optFr (some t) = Fr t from rfl, show (some t).isSome = true from rfl]
            clear hR
            go_upto_region 11 with fail
            have r9 := heap_alloc_new w3 (.cells #[.int .i64 t.num, .int .i64 t.den] 106)
            have hal := (Below.refl w3.heap.size w3).alloc (Nat.le_refl _) (.cells #[.int .i64 t.num, .int .i64 t.den] 106)
            have hB := hb3'.trans (hal.mono hb3'.size)
            have hown := Lib.hid (own_below hown3 hal)
            generalize w3.alloc (.cells #[.int .i64 t.num, .int .i64 t.den] 106) = WC at r9 hB hown ⊢
            obtain ⟨g9, hg9⟩ : ∃ g, g = w3.heap.size := ⟨_, rfl⟩
            rw [← hg9] at r9 ⊢
            clear hg9 hal hown3 Rf3 hf3 hb3 hb3' hfr Rf hb
            obtain ⟨⟨t0, t1⟩, -, -⟩ := row_fr r9
            have hwc := hB.size
            go_wp2_with (first | (at_builtin; refine wpList_append_own _ rfl _ _ 40 rfl W0.heap.size 29 i0 (.agg #[.int .i64 0, .int .i64 0]) 2 16 Try.underlying40 hi0 hz0 hz1 hz2 rfl (by decide) _ k _ rfl (hown.out.alloc _) ⟨WC.heap.size, 0, none⟩ 1 1 [.int .i64 t.num, .int .i64 t.den] rfl rfl (World.news_of_block (cs := #[.int .i64 t.num, .int .i64 t.den]) (t := 29) (fr := (0, 0)) (heap_alloc_new WC _)) (by simp [Value.oneCell']) (by unfold maxLen; omega) (by omega) (by simp; omega) ?_; intro v' w9 hown9 hgrow9 hnil9; have hb9 : Below W0.heap.size W0 w9 := (hB.alloc hB.size _).grown hgrow9 (by have := hB.size; simp; omega) (fun q hq => (hown.out.lt _ hq).1); clear hgrow9 hnil9))
            go_roundw
            case rel => exact ⟨k + 1, by omega, by go_num, Lib.hid (by rw [hst2.out, flat2_app]; exact hown9), hb9⟩
            case measure => simp [intOf]; omega
        · have hke : k = V.length := by have := HV.out; omega
          have Ho : Hid (wr.ownsRow w.heap.size 29 2 u7 (Kn.callsL L V q V.length).length (flat2 (Kn.callsL L V q V.length))) := Lib.hid (by
            rw [Kn.callsL_len, ← hke]
            exact own_mono hown.out hsz)
          have hB := hbw.trans (hb.mono hsz)
          clear hke hown
          have i1 : ¬ (k : Int) < (nV : Int) := by omega
          go_wp2
          go_ret2
          rw [hc.out]
          exact ⟨⟨_, rfl, .inl ⟨rfl, Ho.out⟩⟩, hB⟩
  · have hc : Hid (C = Kn.val L V) := Lib.hid (by rw [HC.out]; unfold Kn.ccode; rw [if_pos hz])
    have hne : (Kn.val L V != 0) = true := by simp [hz]
    generalize Kn.val L V = D at hz hne hc ⊢
    go_wp2_with fail
    go_ret2
    rw [hc.out]
    exact ⟨⟨_, rfl, .inr ⟨hz, rfl⟩⟩, hA⟩
end Go.Proofs.Ytngonfbmlfolcaa
