import Derived.Test.YtemlfklipkpacaaLl
/- Calls of package knife and of its reference. -/
namespace Go.Proofs.Ytemlfklipkpacaa
open Go.RowKit
/-- Where an owner calls; the end of the field if he never does. -/
def Kn.callQ (L : List Int) (V : List (List Int)) (o : Nat) (a : Rat) : Rat := (Kn.callK L V o a).getD (Kn.stop L : Rat)
def Kn.callsL (L : List Int) (V : List (List Int)) (a : Rat) (k : Nat) : List (Int × Int) := (List.range k).map fun o => pr (Kn.callQ L V o a)
theorem Kn.callsL_succ (L : List Int) (V : List (List Int)) (a : Rat) (k : Nat) : Kn.callsL L V a (k + 1) = Kn.callsL L V a k ++ [pr (Kn.callQ L V k a)] := by
  unfold Kn.callsL; rw [List.range_succ, List.map_append]; rfl
theorem Kn.callsL_len (L : List Int) (V : List (List Int)) (a : Rat) (k : Nat) : (Kn.callsL L V a k).length = k := by unfold Kn.callsL; simp
/-- The code of Calls. -/
def Kn.ccode (L : List Int) (V : List (List Int)) (n d : Int) : Int := if Kn.val L V ≠ 0 then Kn.val L V else if Fl.plc (Kn.stop L) n d 1000000 then 0 else 1
theorem kfrom_of {E : Int} {q : Rat} (h0 : 0 ≤ q) (h1 : q ≤ (E : Rat)) (hE : E ≤ 120) (hd : (q.den : Int) ≤ 1000000) : KFrom q :=
  ⟨h0, Rat.le_trans h1 (by have : (E : Rat) ≤ ((1000 : Int) : Rat) := Rat.intCast_le_intCast.2 (by omega)
                           exact this), hd⟩

set_option maxRecDepth 100000 in
set_option maxHeartbeats 4000000 in
theorem scall_any (L : List Int) (V : List (List Int)) (o : Nat) (a : Rat) (aoL : Option Addr) (nL cL : Nat) (aoV : Option Addr) (nV cV : Nat) (w : World) (hf : Fld w aoL nL aoV nV L V) (hok : Kn.Ok L V) (ho : o < V.length) (ha : KFrom a) (ha2 : a ≤ (Kn.stop L : Rat)) :
    Calls Try.prog 94 #[.agg #[.slice aoL nL cL, .slice aoV nV cV], .int .i64 o, Fr a] w fun e w' => e = .returned (Fr (Kn.callQ L V o a)) ∧ Below w.heap.size w w' := by
  obtain ⟨Q, hQ⟩ : ∃ q, q = Kn.callQ L V o a := ⟨_, rfl⟩
  rw [← hQ]
  have HQ := Lib.hid hQ
  clear hQ
  have hv5 : nV ≤ 5 := by have := hf.nv; have := hok.v5; omega
  have hv1 : 1 ≤ nV := by have := hf.nv; have := hok.v1; omega
  have hA := below_alloc3 w (.cells #[.slice aoL nL cL, .slice aoV nV cV] 57) (.cells #[.int .i64 a.num, .int .i64 a.den] 29) (.cells #[.int .i64 0, .int .i64 0] 29)
  obtain ⟨rf, ra, rr⟩ := heap_alloc3_all w (.cells #[.slice aoL nL cL, .slice aoV nV cV] 57) (.cells #[.int .i64 a.num, .int .i64 a.den] 29) (.cells #[.int .i64 0, .int .i64 0] 29)
  go_enter Try.func94, Try.ntmps94
  go_upto_region 1 with fail
  generalize ((w.alloc (.cells #[.slice aoL nL cL, .slice aoV nV cV] 57)).alloc (.cells #[.int .i64 a.num, .int .i64 a.den] 29)).alloc (.cells #[.int .i64 0, .int .i64 0] 29) = W0 at hA rf ra rr ⊢
  obtain ⟨G, hG⟩ : ∃ g, g = w.heap.size := ⟨_, rfl⟩
  rw [← hG] at rf ra rr ⊢
  have HG := Lib.hid hG
  clear hG
  replace hf := hf.below hA
  have hmk := smark_any L V o a 1 nV aoL nL cL aoV nV cV W0 hf hok ho ha ha2 (by omega) (by omega) (by omega) (by omega)
  rw [Int.mul_one, Int.toNat_natCast, show Fl.placeK (Kn.Z L V o) a (mkRat (Fl.tot (Kn.Z L V o)) nV) = Kn.callK L V o a by rw [hf.nv]; rfl] at hmk
  obtain ⟨⟨x0, x1⟩, -, -⟩ := row_fr rf
  obtain ⟨⟨a0, a1⟩, -, -⟩ := row_fr ra
  go_wp2_with fail
  refine ((hmk)).mono ?_
  rintro e w1 ⟨rfl, hbb⟩
  replace hf := hf.below hbb
  replace rf := heap_keep hbb rf
  replace rr := heap_keep hbb rr
  replace hA := hA.trans (hbb.mono hA.size)
  clear hbb
  clear hmk x0 x1 a0 a1 ra
  cases hR : Kn.callK L V o a with
  | none =>
    have hq : Hid (Q = (Kn.stop L : Rat)) := Lib.hid (by rw [HQ.out]; unfold Kn.callQ; rw [hR]; rfl)
    rw [show optFr none = .agg #[.int .i64 0, .int .i64 0] from rfl, show (none : Option Rat).isSome = false from rfl]
    clear hR
    go_upto_region 2 with fail
    have hal := (Below.refl w1.heap.size w1).alloc (Nat.le_refl _) (.cells #[.int .i64 0, .int .i64 0] 29)
    replace hf := hf.below hal
    replace rf := heap_keep hal rf
    replace rr := heap_keep hal rr
    replace hA := hA.trans (hal.mono hA.size)
    clear hal
    generalize w1.alloc (.cells #[.int .i64 0, .int .i64 0] 29) = W2 at hf rf rr hA ⊢
    obtain ⟨⟨x0, x1⟩, -, -⟩ := row_fr rf
    go_wp2_with fail
    refine ((send_any L V _ _ _ _ _ _ W2 hf hok)).mono ?_
    rintro e w2 ⟨rfl, hbb⟩
    replace hf := hf.below hbb
    replace rf := heap_keep hbb rf
    replace rr := heap_keep hbb rr
    replace hA := hA.trans (hbb.mono hA.size)
    clear hbb
    clear x0 x1
    obtain ⟨⟨r0, r1⟩, s0, s1⟩ := row_fr rr
    go_wp2_with fail
    rw [show (Fr Q) = Fr ((Kn.stop L : Int) : Rat) by rw [hq.out]]
    exact bodyPost_ret (results_cell_row rfl _ _ _ _ _ _ _ rfl (two_cells rr (.int .i64 (Kn.stop L)) (.int .i64 1)) Try.underlying29 rfl infoRat2) rfl ⟨rfl, below_setCell (below_setCell hA (by have := HG.out; omega) _) (by have := HG.out; omega) _⟩
  | some t =>
    have hq : Hid (Q = t) := Lib.hid (by rw [HQ.out]; unfold Kn.callQ; rw [hR]; rfl)
    rw [show optFr (some t) = Fr t from rfl, show (some t).isSome = true from rfl]
    clear hR
    go_upto_region 2 with fail
    have r7 := heap_alloc_new w1 (.cells #[.int .i64 t.num, .int .i64 t.den] 29)
    have hal := (Below.refl w1.heap.size w1).alloc (Nat.le_refl _) (.cells #[.int .i64 t.num, .int .i64 t.den] 29)
    replace hf := hf.below hal
    replace rf := heap_keep hal rf
    replace rr := heap_keep hal rr
    replace hA := hA.trans (hal.mono hA.size)
    clear hal
    generalize w1.alloc (.cells #[.int .i64 t.num, .int .i64 t.den] 29) = W2 at hf rf rr hA r7 ⊢
    obtain ⟨⟨t0, t1⟩, -, -⟩ := row_fr r7
    obtain ⟨⟨r0, r1⟩, s0, s1⟩ := row_fr rr
    go_wp2_with fail
    rw [hq.out]
    exact bodyPost_ret (results_cell_row rfl _ _ _ _ _ _ _ rfl (two_cells rr (.int .i64 t.num) (.int .i64 t.den)) Try.underlying29 rfl infoRat2) rfl ⟨rfl, below_setCell (below_setCell hA (by have := HG.out; omega) _) (by have := HG.out; omega) _⟩
end Go.Proofs.Ytemlfklipkpacaa
