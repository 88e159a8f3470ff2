import Derived.Test.YtifhkagngjinfaaSa
namespace Go.Proofs.Ytifhkagngjinfaa
open Go.RowKit
namespace Cl
def OrdA (L : List Int) (A : List (Int × Int)) : Prop := ∀ i k, i < L.length → k < L.length → L.getD i 0 ≤ L.getD k 0 →
  0 ≤ (A.getD k (0, 0)).1 * (A.getD i (0, 0)).2 - (A.getD i (0, 0)).1 * (A.getD k (0, 0)).2 ∧
  (A.getD k (0, 0)).1 * (A.getD i (0, 0)).2 - (A.getD i (0, 0)).1 * (A.getD k (0, 0)).2 ≤ (L.getD k 0 - L.getD i 0) * (A.getD i (0, 0)).2 * (A.getD k (0, 0)).2
theorem ord_map {L : List Int} {f : Int → Int} {D : Nat} (hD : 0 < D) (hf : ∀ c ∈ L, ∀ e ∈ L, c ≤ e → f c ≤ f e ∧ f e - f c ≤ (e - c) * D) : OrdA L ((L.map fun c => mkRat (f c) D).map pr) := by
  intro i k hi hk hle
  have g : ∀ j, j < L.length → ((L.map fun c => mkRat (f c) D).map pr).getD j (0, 0) = pr (mkRat (f (L.getD j 0)) D) := by
    intro j hj
    rw [List.getD_eq_getElem?_getD, List.getElem?_map, List.getElem?_map, List.getElem?_eq_getElem hj, List.getD_eq_getElem?_getD, List.getElem?_eq_getElem hj]
    rfl
  have hci : L.getD i 0 ∈ L := by rw [gd hi]; exact List.getElem_mem hi
  have hck : L.getD k 0 ∈ L := by rw [gd hk]; exact List.getElem_mem hk
  rw [g i hi, g k hk]
  obtain ⟨h1, h2⟩ := hf _ hci _ hck hle
  generalize L.getD i 0 = c at *
  generalize L.getD k 0 = e at *
  unfold pr
  simp only
  have e1 := num_mul (f c) D hD
  have e2 := num_mul (f e) D hD
  have d1 := (mkRat (f c) D).den_pos
  have d2 := (mkRat (f e) D).den_pos
  generalize (mkRat (f c) D).num = a1 at *
  generalize (mkRat (f e) D).num = b1 at *
  have d1' : (0 : Int) < ((mkRat (f c) D).den : Int) := by omega
  have d2' : (0 : Int) < ((mkRat (f e) D).den : Int) := by omega
  generalize ((mkRat (f c) D).den : Int) = a2 at *
  generalize ((mkRat (f e) D).den : Int) = b2 at *
  have hDp : (0 : Int) < (D : Int) := by omega
  have key : (b1 * a2 - a1 * b2) * (D : Int) = (f e - f c) * (a2 * b2) := by
    have k1 : b1 * a2 * (D : Int) = f e * (a2 * b2) := by rw [Int.mul_assoc, Int.mul_comm a2, ← Int.mul_assoc, e2, Int.mul_assoc, Int.mul_comm b2]
    have k2 : a1 * b2 * (D : Int) = f c * (a2 * b2) := by rw [Int.mul_assoc, Int.mul_comm b2, ← Int.mul_assoc, e1, Int.mul_assoc]
    rw [Int.sub_mul, Int.sub_mul, k1, k2]
  have hab : 0 < a2 * b2 := Int.mul_pos d1' d2'
  constructor
  · by_cases hneg : b1 * a2 - a1 * b2 < 0
    · have := Int.mul_neg_of_neg_of_pos hneg hDp
      have p := Int.mul_nonneg (show 0 ≤ f e - f c by omega) (Int.le_of_lt hab)
      omega
    · omega
  · have p := Int.mul_le_mul_of_nonneg_right h2 (Int.le_of_lt hab)
    rw [← key] at p
    have p2 : (b1 * a2 - a1 * b2) * (D : Int) ≤ (e - c) * a2 * b2 * (D : Int) := by
      rw [show (e - c) * a2 * b2 * (D : Int) = (e - c) * (D : Int) * (a2 * b2) by rw [Int.mul_assoc (e - c), Int.mul_assoc (e - c), Int.mul_comm (a2 * b2), ← Int.mul_assoc]]
      exact p
    exact Int.le_of_mul_le_mul_right p2 hDp
theorem ord_pa {L : List Int} {E : Int} (h : caseC L E = 0) : OrdA L ((paL L E).map pr) := by
  obtain ⟨a1, a2, a3⟩ := caseC_ok.1 h
  refine ord_map (by omega) fun c _ e _ hle => ?_
  have p1 := Int.mul_le_mul_of_nonneg_right hle a2
  refine ⟨p1, ?_⟩
  rw [← Int.sub_mul, Int.toNat_of_nonneg (by omega)]
  exact Int.mul_le_mul_of_nonneg_left (by omega) (by omega)
theorem mono_den {c e : Int} (d : Nat) (hle : c ≤ e) : c * (d : Int) ≤ e * (d : Int) ∧ (e - c) * (d : Int) = e * d - c * d := ⟨Int.mul_le_mul_of_nonneg_right hle (by omega), Int.sub_mul _ _ _⟩
theorem mono_den2 {c e : Int} (d : Nat) : (e - c) * ((2 * d : Nat) : Int) = 2 * (e * d) - 2 * (c * d) := by
  rw [Int.sub_mul, Int.natCast_mul, ← Int.mul_assoc, ← Int.mul_assoc, Int.mul_comm e, Int.mul_comm c, Int.mul_assoc, Int.mul_assoc]; rfl
theorem ord_aw (L : List Int) (E : Int) : OrdA L ((awL L E).map pr) := by
  refine ord_map (lvl L E).den_pos fun c _ e _ hle => ?_
  have := mono_den (lvl L E).den hle
  omega
theorem ord_lo (L : List Int) (E : Int) : OrdA L ((loL L E).map pr) := by
  refine ord_map (lvl L (Fl.sumI L - E)).den_pos fun c _ e _ hle => ?_
  have := mono_den (lvl L (Fl.sumI L - E)).den hle
  omega
theorem ord_co (L : List Int) (E : Int) : OrdA L ((coL L E).map pr) := by
  unfold coL
  split
  · refine ord_map (by have := (lvl L (2 * E)).den_pos; omega) fun c _ e _ hle => ?_
    have := mono_den (lvl L (2 * E)).den hle
    have := mono_den2 (c := c) (e := e) (lvl L (2 * E)).den
    omega
  · refine ord_map (by have := (lvl L (2 * Fl.sumI L - 2 * E)).den_pos; omega) fun c _ e _ hle => ?_
    have := mono_den (lvl L (2 * Fl.sumI L - 2 * E)).den hle
    have := mono_den2 (c := c) (e := e) (lvl L (2 * Fl.sumI L - 2 * E)).den
    omega
end Cl
set_option maxRecDepth 100000 in
set_option maxHeartbeats 4000000 in
theorem ordered_any (L : List Int) (A : List (Int × Int)) (ao : Option Addr) (n cap : Nat) (aoA : Option Addr) (capA : Nat) (w : World) (hI : Ints w ao L) (hJ : Pts w aoA A) (hln : n = L.length) (hlA : n = A.length) (hok : Cl.okC L = true) (hcom : Cl.com A ≠ 0) (hord : Cl.OrdA L A) :
    Calls Try.prog 37 #[.slice ao n cap, .slice aoA n capA] w fun e w' => e = .returned (.bool true) ∧ Below w.heap.size w w' := by
  have HI := Lib.hid hI
  have HJ := Lib.hid hJ
  have Hn := Lib.hid hln
  have HnA := Lib.hid hlA
  have HC := Lib.hid (Cl.okC_iff.1 hok)
  have HA := Lib.hid (Cl.com_all hcom)
  have HO := Lib.hid hord
  have hn8 : n ≤ 8 ∧ 1 ≤ n := by have := HC.out; omega
  have hz : (((Cl.com A : Nat) : Int) == 0) = false := by simp; exact hcom
  clear hln hlA hI hJ hok hcom hord
  go_enter Try.func37, Try.ntmps37
  go_wp2_with fail
  refine (common_any A aoA n capA w HJ.out HnA.out (by omega)).mono ?_
  rintro e w1 ⟨rfl, hB⟩
  generalize ((Cl.com A : Nat) : Int) = D at hz ⊢
  go_wp2_with fail
  go_loopw [5, 6, 7, 8, 9] (fun i _ _ _ _ wr => ∃ ii : Nat, ii ≤ n ∧ i = .int .i64 ii ∧ Below w.heap.size w wr) (fun i _ _ _ _ _ => n - (intOf i).toNat)
  case atStart => exact ⟨0, Nat.zero_le _, rfl, hB⟩
  case round =>
    clear hB
    obtain ⟨ii, hii, rfl, hB⟩ := hrel
    by_cases hlt : ii < n
    · have i1 : (ii : Int) < (n : Int) := by omega
      go_wp2_with fail
      go_loopw [6, 7, 8, 9] (fun k _ _ _ wx => ∃ kk : Nat, kk ≤ n ∧ k = .int .i64 kk ∧ Below w.heap.size w wx) (fun k _ _ _ _ => n - (intOf k).toNat)
      case atStart => exact ⟨0, Nat.zero_le _, rfl, hB⟩
      case round =>
        clear hB
        obtain ⟨kk, hkk, rfl, hB⟩ := hrel
        by_cases hlt2 : kk < n
        · have i2 : (kk : Int) < (n : Int) := by omega
          have hiL : ii < L.length := by have := Hn.out; omega
          have hkL : kk < L.length := by have := Hn.out; omega
          have hiA : ii < A.length := by have := HnA.out; omega
          have hkA : kk < A.length := by have := HnA.out; omega
          obtain ⟨b, off, rfl, hbs, hc1⟩ := HI.out.at hiL
          obtain ⟨b', off', he, -, hc2⟩ := HI.out.at hkL
          cases he
          obtain ⟨b2, off2, rfl, hbs2, hx1, hx2⟩ := pts_at HJ.out hiA
          obtain ⟨b2', off2', he, -, hy1, hy2⟩ := pts_at HJ.out hkA
          cases he
          have ho := HO.out ii kk hiL hkL
          have hli : 0 ≤ L.getD ii 0 ∧ L.getD ii 0 ≤ 1000 := Cl.getD_bound (by omega) HC.out.2.2 ii
          have hlk : 0 ≤ L.getD kk 0 ∧ L.getD kk 0 ≤ 1000 := Cl.getD_bound (by omega) HC.out.2.2 kk
          have hxr := Cl.rtOk_iff.1 (HA.out _ (List.getElem_mem hiA))
          have hyr := Cl.rtOk_iff.1 (HA.out _ (List.getElem_mem hkA))
          rw [show A.getD ii (0, 0) = A[ii] by rw [List.getD_eq_getElem?_getD, List.getElem?_eq_getElem hiA]; rfl, show A.getD kk (0, 0) = A[kk] by rw [List.getD_eq_getElem?_getD, List.getElem?_eq_getElem hkA]; rfl] at ho
          generalize L.getD ii 0 = c at hc1 ho hli
          generalize L.getD kk 0 = e at hc2 ho hlk
          generalize A[ii] = x at hx1 hx2 ho hxr
          generalize A[kk] = y at hy1 hy2 ho hyr
          obtain ⟨x1, x2⟩ := x
          obtain ⟨y1, y2⟩ := y
          simp only at hx1 hx2 hy1 hy2 ho hxr hyr
          have hxb : 0 ≤ x1 ∧ x1 ≤ 10000000 ∧ 1 ≤ x2 ∧ x2 ≤ 10000 := ⟨hxr.1, hxr.2.1, hxr.2.2.1, hxr.2.2.2.1⟩
          have hyb : 0 ≤ y1 ∧ y1 ≤ 10000000 ∧ 1 ≤ y2 ∧ y2 ≤ 10000 := ⟨hyr.1, hyr.2.1, hyr.2.2.1, hyr.2.2.2.1⟩
          have Ho := Lib.hid ho
          clear hxr hyr ho
          rw [← hB.cell (p := ⟨b2, _, none⟩) hbs2] at hx1 hx2 hy1 hy2
          have hb2w : b2 < wr.heap.size := by have := hB.size; omega
          have hb2v : b2 < wr.heap.size + 1 := by omega
          go_upto_region 9 with fail
          go_cut [7, 8] from 31 to 87 (fun p7 p8 wx => ∃ g7 g8 : Nat, p7 = .pointer (some ⟨g7, 0, none⟩) ∧ p8 = .pointer (some ⟨g8, 0, none⟩) ∧ wx.heap[g7]? = some (.cells #[.int .i64 x1, .int .i64 x2] 35 (0, 0)) ∧ wx.heap[g8]? = some (.cells #[.int .i64 y1, .int .i64 y2] 35 (0, 0)) ∧ Below w.heap.size w wx)
          case first =>
            have z2 : ∀ A B : Obj, ((wr.alloc A).alloc B).drew.heap[wr.heap.size + 1]? = some B := fun A B => heap_alloc2_new wr A B
            have z1 : ∀ A B : Obj, ((wr.alloc A).alloc B).drew.heap[wr.heap.size]? = some A := fun A B => heap_at (n := (wr.alloc A).heap.size) (w := wr.alloc A) (w' := ((wr.alloc A).alloc B).drew) (below_drewN ((Below.refl _ (wr.alloc A)).alloc (Nat.le_refl _) B) 1) (k := wr.heap.size) (by simp) (heap_alloc_new wr A)
            go_region
            all_goals go_wp2_with fail
            all_goals go_meet
            all_goals first
              | exact ⟨_, _, rfl, rfl, z2 _ _, z1 _ _, below_drewN ((hB.alloc hB.size _).alloc (by have := hB.size; simp; omega) _) 1⟩
              | exact ⟨_, _, rfl, rfl, z1 _ _, z2 _ _, below_drewN ((hB.alloc hB.size _).alloc (by have := hB.size; simp; omega) _) 1⟩
          case rest =>
            obtain ⟨g7, g8, rfl, rfl, h7, h8, hBc⟩ := hcut
            clear hx1 hx2 hy1 hy2 hB
            obtain ⟨⟨d0, d1⟩, -, -⟩ := row_fr h7
            obtain ⟨⟨d2, d3⟩, -, -⟩ := row_fr h8
            rw [← hBc.cell (p := ⟨b, _, none⟩) hbs] at hc1 hc2
            have p1 : y1 * x2 ≤ 10000000 * 10000 := Int.mul_le_mul hyb.2.1 hxb.2.2.2 (by omega) (by omega)
            have p2 : x1 * y2 ≤ 10000000 * 10000 := Int.mul_le_mul hxb.2.1 hyb.2.2.2 (by omega) (by omega)
            have p3 : 0 ≤ y1 * x2 := Int.mul_nonneg hyb.1 (by omega)
            have p4 : 0 ≤ x1 * y2 := Int.mul_nonneg hxb.1 (by omega)
            have e1 : IntKind.i64.wrap (y1 * x2) = y1 * x2 := IntWalk.i64_in _ (by omega)
            have e2 : IntKind.i64.wrap (x1 * y2) = x1 * y2 := IntWalk.i64_in _ (by omega)
            obtain ⟨M, hM⟩ : ∃ M, M = y1 * x2 - x1 * y2 := ⟨_, rfl⟩
            have e3 : IntKind.i64.wrap (y1 * x2 - x1 * y2) = M := by rw [hM]; exact IntWalk.i64_in _ (by omega)
            rw [← hM] at Ho
            clear hM p1 p2 p3 p4
            by_cases hg : c ≤ e
            · obtain ⟨o1, o2⟩ := Ho.out hg
              have p5 : (e - c) * x2 ≤ 1000 * 10000 := Int.mul_le_mul (by omega) hxb.2.2.2 (by omega) (by omega)
              have p6 : 0 ≤ (e - c) * x2 := Int.mul_nonneg (by omega) (by omega)
              have p7 : (e - c) * x2 * y2 ≤ (1000 * 10000) * 10000 := Int.mul_le_mul p5 hyb.2.2.2 (by omega) (by omega)
              have p8 : 0 ≤ (e - c) * x2 * y2 := Int.mul_nonneg p6 (by omega)
              have e4 : IntKind.i64.wrap (e - c) = e - c := IntWalk.i64_in _ (by omega)
              have e5 : IntKind.i64.wrap ((e - c) * x2) = (e - c) * x2 := IntWalk.i64_in _ (by omega)
              obtain ⟨P, hP⟩ : ∃ P, P = (e - c) * x2 * y2 := ⟨_, rfl⟩
              rw [← hP] at o2
              have e6 : IntKind.i64.wrap ((e - c) * x2 * y2) = P := by rw [hP]; exact IntWalk.i64_in _ (by omega)
              clear hP p5 p6 p7 p8
              have hg1 : decide (M < 0) = false := by simp; omega
              have hg2 : ¬ (M > P) := by omega
              go_upto_region 11 with fail
              go_quiet (fail)
              replace hBc := below_drewN hBc nq
              go_wp2_with fail
              go_roundw
              case rel => exact ⟨kk + 1, by omega, by go_num, hBc⟩
              case measure => simp [intOf]; omega
            · go_upto_region 11 with fail
              go_quiet (fail)
              replace hBc := below_drewN hBc nq
              go_wp2_with fail
              go_roundw
              case rel => exact ⟨kk + 1, by omega, by go_num, hBc⟩
              case measure => simp [intOf]; omega
        · go_wp2_with fail
          go_roundw
          case rel => exact ⟨ii + 1, by omega, by go_num, hB⟩
          case measure => simp [intOf]; omega
    · go_wp2_with fail
      go_ret
      exact ⟨rfl, hB⟩
end Go.Proofs.Ytifhkagngjinfaa
