import Derived.Test.YteecfdjphjkdkaaLa
import Derived.Test.YteecfdjphjkdkaaFh
namespace Go.Proofs.Yteecfdjphjkdkaa
open Go.RowKit
set_option maxRecDepth 100000 in
set_option maxHeartbeats 4000000 in
theorem rlevel_any (L : List Int) (E : Int) (ao : Option Addr) (n cap : Nat) (w : World) (hI : Ints w ao L) (hln : n = L.length) (hok : Cl.okC L = true) (h0 : 0 ≤ E) (h1 : E ≤ Fl.sumI L) :
    Calls Try.prog 61 #[.slice ao n cap, .int .i64 E] w fun e w' => ∃ a d, Cl.LevS L E a d ∧ e = .returned (Fr (mkRat a d.toNat)) ∧ Below w.heap.size w w' := by
  have HI0 := Lib.hid hI
  have Hn := Lib.hid hln
  have HC := Lib.hid (Cl.okC_iff.1 hok)
  have hn8 : n ≤ 8 := by have := HC.out; omega
  have hn1 : 1 ≤ n := by have := HC.out; omega
  have hS8 : 0 ≤ Fl.sumI L ∧ Fl.sumI L ≤ 8000 := by
    have h := Cl.sum_small (B := 1000) (by omega) (l := L) (fun x hx => by have := HC.out.2.2 x hx; omega)
    have h2 := Cl.sum_nonneg (l := L) (fun x hx => by have := HC.out.2.2 x hx; omega)
    have := HC.out; omega
  have hE : 0 ≤ E ∧ E ≤ 8000 := by omega
  have HALL := Lib.hid (And.intro hok (And.intro h0 h1))
  have HSB : Hid (∀ c k, 0 ≤ Cl.sB (L.take k) c ∧ Cl.sB (L.take k) c ≤ 8000) := Lib.hid (fun c k => by
    have h := Cl.sB_bound (L := L.take k) (fun x hx => (HC.out.2.2 x (List.mem_of_mem_take hx)).1) c
    have h3 := Cl.sum_small (B := 1000) (by omega) (l := L.take k) (fun x hx => by have := HC.out.2.2 x (List.mem_of_mem_take hx); omega)
    have h4 : (L.take k).length ≤ 8 := by have := HC.out; rw [List.length_take]; omega
    omega)
  have HNG : Hid (∀ c k, 0 ≤ Cl.nG (L.take k) c ∧ Cl.nG (L.take k) c ≤ 8) := Lib.hid (fun c k => by
    have h := Cl.nG_bound (L.take k) c
    have h4 : (L.take k).length ≤ 8 := by have := HC.out; rw [List.length_take]; omega
    omega)
  have HMS : Hid (∀ c k, 0 ≤ Cl.mS (L.take k) c ∧ Cl.mS (L.take k) c ≤ 1000) := Lib.hid (fun c k => Cl.mS_take_bound HC.out.2.2 c k)
  clear hln hok h0 h1 hS8 hI
  have r0 := heap_alloc_new w (.cells #[.int .i64 0, .int .i64 0] 35)
  have hB : Below w.heap.size w (w.alloc (.cells #[.int .i64 0, .int .i64 0] 35)) := (Below.refl _ w).alloc (Nat.le_refl _) _
  go_enter Try.func61, Try.ntmps61
  go_wp2_with fail
  generalize w.alloc (.cells #[.int .i64 0, .int .i64 0] 35) = W at r0 hB ⊢
  obtain ⟨G, hG⟩ : ∃ G, G = w.heap.size := ⟨_, rfl⟩
  rw [← hG] at r0 ⊢
  have HG := Lib.hid hG
  clear hG
  go_loopw [5, 6, 7, 8, 9, 10, 11] (fun i _ _ _ _ _ _ wr => ∃ ii : Nat, ii ≤ n ∧ i = .int .i64 ii ∧ Hid (∀ x ∈ L.take ii, ¬ Cl.pass L E x) ∧ wr.heap[G]? = some (.cells #[.int .i64 0, .int .i64 0] 35 (0, 0)) ∧ Below w.heap.size w wr) (fun i _ _ _ _ _ _ _ => n - (intOf i).toNat)
  case atStart => exact ⟨0, Nat.zero_le _, rfl, Lib.hid (by simp), r0, hB⟩
  case round =>
    clear r0 hB
    obtain ⟨ii, hii, rfl, hnp, r0, hB⟩ := hrel
    by_cases hlt : ii < n
    · have hkl : ii < L.length := by have := Hn.out; omega
      have hcb := HC.out.2.2 _ (List.getElem_mem hkl)
      have hnp2 : Hid (¬ Cl.pass L E L[ii] → ∀ x ∈ L.take (ii + 1), ¬ Cl.pass L E x) := Lib.hid (fun h x hx => by
        rw [List.take_succ_eq_append_getElem hkl] at hx
        rcases List.mem_append.1 hx with h1 | h1
        · exact hnp.out x h1
        · rw [List.mem_singleton] at h1; rw [h1]; exact h)
      have hyes : Hid (Cl.pass L E L[ii] → Cl.LevS L E (E - Cl.sB L L[ii]) (Cl.nG L L[ii])) := Lib.hid (fun h => Cl.pass_lev HALL.out.1 HALL.out.2.2 (List.getElem_mem hkl) h)
      obtain ⟨b, off, rfl, hbs, hcx⟩ := HI0.out.at hkl
      rw [Cl.gd hkl] at hcx
      generalize L[ii] = c at hcx hcb hnp2 hyes
      have i1 : (ii : Int) < (n : Int) := by omega
      have Hcx : Hid (∀ w', Below w.heap.size w w' → w'.cell? ⟨b, off + ii, none⟩ = some (.int .i64 c)) := Lib.hid (fun w' hb => (hb.cell (p := ⟨b, _, none⟩) hbs).trans hcx)
      clear hcx
      go_wp2_with fail
      go_loopw [6, 7, 8] (fun l o k wx => ∃ kk : Nat, kk ≤ n ∧ k = .int .i64 kk ∧ l = .int .i64 (E - Cl.sB (L.take kk) c) ∧ o = .int .i64 (Cl.nG (L.take kk) c) ∧ Below wr.heap.size wr wx) (fun _ _ k _ => n - (intOf k).toNat)
      case atStart => exact ⟨0, Nat.zero_le _, rfl, by simp [Cl.sB, Fl.sumI], by simp [Cl.nG, Fl.sumI], Below.refl _ _⟩
      case round =>
        obtain ⟨kk, hkk, rfl, rfl, rfl, hbx⟩ := hrel
        by_cases hlt2 : kk < n
        · have hkl2 : kk < L.length := by have := Hn.out; omega
          have hBx := hB.trans (hbx.mono hB.size)
          obtain ⟨b2, o2, he2, -, hcy⟩ := (HI0.out.below hBx).at hkl2
          cases he2
          have hcx := Hcx.out _ hBx
          rw [Cl.gd hkl2] at hcy
          have hyb := HC.out.2.2 _ (List.getElem_mem hkl2)
          have hs1 := Cl.sB_take c hkl2
          have hs2 := Cl.nG_take c hkl2
          have b1 := HSB.out c kk
          have b2 := HNG.out c kk
          generalize L[kk] = y at hcy hyb hs1 hs2
          generalize Cl.sB (L.take kk) c = S at hs1 b1 ⊢
          generalize Cl.nG (L.take kk) c = N at hs2 b2 ⊢
          have Hs1 := Lib.hid hs1
          have Hs2 := Lib.hid hs2
          clear hs1 hs2
          have i2 : (kk : Int) < (n : Int) := by omega
          have e1 : IntKind.i64.wrap (E - S - y) = E - S - y := IntWalk.i64_in _ (by omega)
          have e2 : IntKind.i64.wrap (N + 1) = N + 1 := IntWalk.i64_in _ (by omega)
          go_upto_region 8 with fail
          go_region
          have hbx2 := below_drewN hbx 1
          by_cases hg : y < c
          · have k1 := Lib.hid (show E - S - y = E - Cl.sB (L.take (kk + 1)) c by rw [Hs1.out, if_pos hg]; omega)
            have k2 := Lib.hid (show N = Cl.nG (L.take (kk + 1)) c by rw [Hs2.out, if_pos hg]; omega)
            go_wp2_with fail
            go_roundw
            case rel => exact ⟨kk + 1, by omega, by go_num, by rw [← k1.out], by rw [← k2.out], hbx2⟩
            case measure => simp [intOf]; omega
          · have k1 := Lib.hid (show E - S = E - Cl.sB (L.take (kk + 1)) c by rw [Hs1.out, if_neg hg]; omega)
            have k2 := Lib.hid (show N + 1 = Cl.nG (L.take (kk + 1)) c by rw [Hs2.out, if_neg hg])
            go_wp2_with fail
            go_roundw
            case rel => exact ⟨kk + 1, by omega, by go_num, by rw [← k1.out], by rw [← k2.out], hbx2⟩
            case measure => simp [intOf]; omega
        · have hkn : kk = n := by omega
          have k1 : L.take kk = L := by rw [hkn, Hn.out, List.take_length]
          rw [k1]
          replace r0 := heap_keep hbx r0
          replace hB := hB.trans (hbx.mono hB.size)
          have b1 := HSB.out c L.length
          have b2 := HNG.out c L.length
          rw [List.take_length] at b1 b2
          clear hbx hkn k1
          have hpa : Hid (Cl.pass L E c ↔ (Cl.nG L c * Cl.mS L c ≤ E - Cl.sB L c ∧ E - Cl.sB L c ≤ Cl.nG L c * c)) := Lib.hid Iff.rfl
          generalize Cl.sB L c = S at b1 hpa hyes ⊢
          generalize Cl.nG L c = N at b2 hpa hyes ⊢
          go_wp2_with fail
          go_loopw [9, 10] (fun m k wx => ∃ jj : Nat, jj ≤ n ∧ k = .int .i64 jj ∧ m = .int .i64 (Cl.mS (L.take jj) c) ∧ Below wr.heap.size wr wx) (fun _ k _ => n - (intOf k).toNat)
          case atStart => exact ⟨0, Nat.zero_le _, rfl, by simp [Cl.mS], Below.refl _ _⟩
          case round =>
            obtain ⟨jj, hjj, rfl, rfl, hbx⟩ := hrel
            by_cases hlt3 : jj < n
            · have hkl2 : jj < L.length := by have := Hn.out; omega
              have hBx := hB.trans (hbx.mono hB.size)
              obtain ⟨b2, o2, he2, -, hcy⟩ := (HI0.out.below hBx).at hkl2
              cases he2
              have hcx := Hcx.out _ hBx
              rw [Cl.gd hkl2] at hcy
              have hyb := HC.out.2.2 _ (List.getElem_mem hkl2)
              have hs1 := Cl.mS_take c hkl2
              have m1 := HMS.out c jj
              generalize L[jj] = y at hcy hyb hs1
              generalize Cl.mS (L.take jj) c = M at hs1 m1 ⊢
              have Hs1 := Lib.hid hs1
              clear hs1
              have i2 : (jj : Int) < (n : Int) := by omega
              go_upto_region 15 with fail
              go_region
              have hbx2 := below_drewN hbx 1
              by_cases hg : y < c
              · by_cases hm : M < y
                · have k1 := Lib.hid (show y = Cl.mS (L.take (jj + 1)) c by rw [Hs1.out, if_pos hg]; omega)
                  go_wp2_with fail
                  go_roundw
                  case rel => exact ⟨jj + 1, by omega, by go_num, by rw [← k1.out], hbx2⟩
                  case measure => simp [intOf]; omega
                · have k1 := Lib.hid (show M = Cl.mS (L.take (jj + 1)) c by rw [Hs1.out, if_pos hg]; omega)
                  go_wp2_with fail
                  go_roundw
                  case rel => exact ⟨jj + 1, by omega, by go_num, by rw [← k1.out], hbx2⟩
                  case measure => simp [intOf]; omega
              · have k1 := Lib.hid (show M = Cl.mS (L.take (jj + 1)) c by rw [Hs1.out, if_neg hg])
                go_wp2_with fail
                go_roundw
                case rel => exact ⟨jj + 1, by omega, by go_num, by rw [← k1.out], hbx2⟩
                case measure => simp [intOf]; omega
            · have hkn : jj = n := by omega
              have k1 : L.take jj = L := by rw [hkn, Hn.out, List.take_length]
              rw [k1]
              replace r0 := heap_keep hbx r0
              replace hB := hB.trans (hbx.mono hB.size)
              have m1 := HMS.out c L.length
              rw [List.take_length] at m1
              have hcx := Hcx.out _ hB
              clear hbx hkn k1
              generalize Cl.mS L c = M at m1 hpa ⊢
              have p1 : 0 ≤ N * M ∧ N * M ≤ 8000 := ⟨Int.mul_nonneg b2.1 m1.1, by have := Int.mul_le_mul b2.2 m1.2 m1.1 (by omega); omega⟩
              have p2 : 0 ≤ N * c ∧ N * c ≤ 8000 := ⟨Int.mul_nonneg b2.1 hcb.1, by have := Int.mul_le_mul b2.2 hcb.2 hcb.1 (by omega); omega⟩
              obtain ⟨P1, hP1⟩ : ∃ P, P = N * M := ⟨_, rfl⟩
              obtain ⟨P2, hP2⟩ : ∃ P, P = N * c := ⟨_, rfl⟩
              rw [← hP1] at p1 hpa
              rw [← hP2] at p2 hpa
              have e1 : IntKind.i64.wrap (N * M) = P1 := by rw [← hP1]; exact IntWalk.i64_in _ (by omega)
              have e2 : IntKind.i64.wrap (N * c) = P2 := by rw [← hP2]; exact IntWalk.i64_in _ (by omega)
              clear hP1 hP2
              by_cases hg1 : P1 ≤ E - S
              · by_cases hg2 : E - S ≤ P2
                · have hL := Lib.hid (hyes.out (hpa.out.2 ⟨hg1, hg2⟩))
                  obtain ⟨a, ha⟩ : ∃ a : Nat, E - S = a := ⟨(E - S).toNat, by omega⟩
                  obtain ⟨d, hd⟩ : ∃ d : Nat, N = d := ⟨N.toNat, by omega⟩
                  have hd1 : 1 ≤ d := by have := hL.out.1.2.1; omega
                  have hab : a ≤ 8000 := by omega
                  have hdb : d ≤ 8 := by omega
                  rw [ha] at hg1 hg2 hL ⊢
                  rw [hd] at hL e1 e2 ⊢
                  clear ha hd hpa hyes hnp2 hnp
                  have hg3 : ¬ ((a : Int) < 0) := by omega
                  go_wp2_with fail
                  refine (ratio_any a d wr (by omega) (by omega) (by omega)).mono ?_
                  rintro e w5 ⟨rfl, hbb⟩
                  replace r0 := heap_keep hbb r0
                  replace hB := hB.trans (hbb.mono hB.size)
                  clear hbb hcx
                  obtain ⟨q, hq⟩ : ∃ q, q = mkRat a d := ⟨_, rfl⟩
                  rw [← hq]
                  have Hq := Lib.hid hq
                  clear hq
                  rw [show Fr q = .agg #[.int .i64 q.num, .int .i64 q.den] from rfl]
                  have hlt5 := heap_lt r0
                  obtain ⟨⟨c0, c1⟩, f0, f1⟩ := row_fr r0
                  go_wp2_with fail
                  have h4 := two_cells r0 (.int .i64 q.num) (.int .i64 q.den)
                  have hGw : w.heap.size ≤ G := by have := HG.out; omega
                  have hB4 : Below w.heap.size w ((w5.setCell ⟨G, 0, none⟩ (.int .i64 q.num)).setCell ⟨G, 1, none⟩ (.int .i64 q.den)) := below_setCell (below_setCell hB hGw _) hGw _
                  have h5 := heap_at ((Below.refl _ ((w5.setCell ⟨G, 0, none⟩ (.int .i64 q.num)).setCell ⟨G, 1, none⟩ (.int .i64 q.den))).alloc (Nat.le_refl _) (.cells #[.int .i64 q.num, .int .i64 q.den] 35)) (heap_lt h4) h4
                  exact bodyPost_ret (results_cell_row rfl _ _ _ _ _ _ _ rfl h5 Try.underlying35 rfl infoRat2) rfl ⟨a, d, hL.out, by rw [Hq.out]; rfl, hB4.alloc hB4.size _⟩
                · have hN := Lib.hid (hnp2.out (fun h => hg2 (hpa.out.1 h).2))
                  go_wp2_with fail
                  go_roundw
                  case rel => exact ⟨ii + 1, by omega, by go_num, hN, r0, hB⟩
                  case measure => simp [intOf]; omega
              · have hN := Lib.hid (hnp2.out (fun h => hg1 (hpa.out.1 h).1))
                go_wp2_with fail
                go_roundw
                case rel => exact ⟨ii + 1, by omega, by go_num, hN, r0, hB⟩
                case measure => simp [intOf]; omega
    · exfalso
      obtain ⟨c, hc, hp⟩ := Cl.pass_exists HALL.out.1 HALL.out.2.1 HALL.out.2.2
      have h := hnp.out c
      rw [show ii = n by omega, Hn.out, List.take_length] at h
      exact h hc hp
end Go.Proofs.Yteecfdjphjkdkaa
