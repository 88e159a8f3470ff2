import Derived.Test.YtkpabehjehbidaaRpa
import Derived.Test.YtkpabehjehbidaaSfd
namespace Go.Proofs.Ytkpabehjehbidaa
open Go.RowKit

theorem FieldMade.pts {w : World} {v : Value} {c : Int} {L : List (Int × Int)} (h : FieldMade w v c L) : ∃ ao cap, v = .slice ao (if c = 0 then L else []).length cap ∧ Pts w ao (if c = 0 then L else []) := by
  obtain ⟨ao, cap, e, -, hp⟩ := h
  exact ⟨ao, cap, e, hp⟩
theorem rwhole_lit9 (n : Int) (w : World) : Calls Try.prog 38 #[.int .i64 n] w fun e w' => e = .returned (.agg #[.int .i64 n, .int .i64 1]) ∧ Below w.heap.size w w' := rwhole_any n w
namespace Fl
theorem plc_whole {L f : Int} (h0 : 0 ≤ f) (h1 : f ≤ L) : plc L f 1 1000 = true := by
  unfold plc
  rw [amt_iff.2 ⟨h0, by omega, by omega, by simp⟩]
  have e : mkRat f (1 : Int).toNat = (f : Rat) := Rat.mkRat_one f
  rw [e]
  simpa using Rat.intCast_le_intCast.2 h1
theorem wcode_whole {l : List (Int × Int)} {f t : Int} (h : partW l f t = 0) : wcode l f 1 t 1 = 0 ∧ worth l (mkRat f (1 : Int).toNat) (mkRat t (1 : Int).toNat) = ((tot (partF f t 0 l) : Int) : Rat) := by
  obtain ⟨h0, h1, h2, h3⟩ := partW_ok h
  have e1 : mkRat f (1 : Int).toNat = (f : Rat) := Rat.mkRat_one f
  have e2 : mkRat t (1 : Int).toNat = (t : Rat) := Rat.mkRat_one t
  refine ⟨wcode_ok h0 ?_, by rw [e1, e2, part_worth]⟩
  rw [plc_whole h1 (by omega), plc_whole (by omega) h3, e1, e2]
  simpa using Rat.intCast_le_intCast.2 (show f ≤ t by omega)
end Fl

set_option maxRecDepth 100000 in
set_option maxHeartbeats 4000000 in
theorem soilParts_any (l : List (Int × Int)) (ao : Option Addr) (n cap : Nat) (f t : Int) (w : World) (hp : Pts w ao l) (hln : n = l.length) (hrf : Rng f) (hrt : Rng t) :
    Calls Try.prog 13 #[.slice ao n cap, .int .i64 f, .int .i64 t] w fun e w' => e = .returned (.bool true) ∧ Below w.heap.size w w' := by
  have Hn := Lib.hid hln
  clear hln
  have hB := Below.refl w.heap.size w
  by_cases hlong : 100 < n
  · have hd : (decide (100 < n) || decide (100 < 0)) = true := by simp [hlong]
    go_enter Try.func13, Try.ntmps13
    go_wp2_with fail
    refine (long_any n 0 cap 0 ao none _).mono ?_
    rintro e w1 ⟨rfl, rfl⟩
    rw [hd]
    go_wp2_with fail
    refine (known_any _).mono ?_
    rintro e w1 ⟨rfl, hb⟩
    go_wp2
    go_ret
    exact ⟨rfl, hb⟩
  · have hd : (decide (100 < n) || decide (100 < 0)) = false := by simp; omega
    have hn : n ≤ 100000 := by omega
    clear hlong
    obtain ⟨C, hC⟩ : ∃ c, Fl.partW l f t = c := ⟨_, rfl⟩
    have hC0 : C = 0 ∨ (C != 0) = true := by by_cases h : C = 0 <;> simp [h]
    have HC := Lib.hid hC
    clear hC
    go_enter Try.func13, Try.ntmps13
    go_wp2_with fail
    refine (long_any n 0 cap 0 ao none _).mono ?_
    rintro e w1 ⟨rfl, rfl⟩
    rw [hd]
    clear hd
    go_wp2_with fail
    refine (Part_any l f t _ _ _ _ hp Hn.out hn).mono ?_
    rintro e w1 ⟨⟨v1, rfl, M1⟩, hb1⟩
    replace hp := hp.below hb1
    replace hB := hB.trans (hb1.mono hB.size)
    clear hb1
    rw [HC.out] at M1 ⊢
    go_wp2_with fail
    refine (rPart_any l f t _ _ _ _ hp Hn.out hn).mono ?_
    rintro e w2 ⟨⟨v2, rfl, M2⟩, hb2⟩
    replace hp := hp.below hb2
    replace M1 := M1.below hb2
    replace hB := hB.trans (hb2.mono hB.size)
    clear hb2
    rw [HC.out] at M2 ⊢
    obtain ⟨a1, c1, rfl, P1⟩ := M1.pts
    obtain ⟨a2, c2, rfl, P2⟩ := M2.pts
    clear M1 M2
    obtain ⟨L, hL⟩ : ∃ x, x = (if C = 0 then Fl.partF f t 0 l else []) := ⟨_, rfl⟩
    rw [← hL] at P1 P2 ⊢
    have hLl : L.length ≤ 100000 := by
      rw [hL]; split
      · rename_i h0
        have h1 := (Fl.part_valid (HC.out.trans h0)).1
        have := (Fl.validate_ok.1 h1).1.2
        omega
      · simp
    obtain ⟨r, hr⟩ : ∃ r, r = L.length := ⟨_, rfl⟩
    rw [← hr] at hLl ⊢
    have Hr := Lib.hid hr
    have HL := Lib.hid hL
    clear hL hr
    go_wp2_with fail
    refine (sameField_any L L _ _ _ _ _ _ _ P1 P2 Hr.out Hr.out hLl hLl).mono ?_
    rintro e w3 ⟨rfl, hb3⟩
    rw [decide_eq_true rfl]
    replace hp := hp.below hb3
    replace P1 := P1.below hb3
    replace hB := hB.trans (hb3.mono hB.size)
    clear hb3 P2
    rcases hC0 with rfl | hC0
    · have HLx : Hid (L = Fl.partF f t 0 l) := Lib.hid (by rw [HL.out, if_pos rfl])
      have hv := Fl.part_valid HC.out
      have hw := Fl.wcode_whole HC.out
      rw [← HLx.out] at hv hw
      have hpo := Fl.partW_ok HC.out
      have hlb := Fl.len_bound (Fl.validate_ok.1 hpo.1).2
      have hl6 := (Fl.validate_ok.1 hpo.1).1.2
      have y1 : IntKind.i64.wrap (t - f) = t - f := IntWalk.i64_in _ (by omega)
      obtain ⟨T, hT⟩ : ∃ T, T = Fl.tot L := ⟨_, rfl⟩
      rw [← hT] at hw
      have HT := Lib.hid hT
      have HV := Lib.hid hv
      have HW := Lib.hid hw
      clear hv hw hpo hlb hl6 hT
      go_wp2_with fail
      refine (Total_any L _ _ _ _ P1 Hr.out hLl).mono ?_
      rintro e w1 ⟨rfl, hbb⟩
      replace hp := hp.below hbb
      replace P1 := P1.below hbb
      replace hB := hB.trans (hbb.mono hB.size)
      clear hbb
      rw [HV.out.1, if_pos rfl, ← HT.out]
      go_wp2_with fail
      refine (Length_any L _ _ _ _ P1 Hr.out hLl).mono ?_
      rintro e w2 ⟨rfl, hbb⟩
      replace hp := hp.below hbb
      replace P1 := P1.below hbb
      replace hB := hB.trans (hbb.mono hB.size)
      clear hbb
      rw [HV.out.1, if_pos rfl, HV.out.2]
      go_wp2_with fail
      refine (rwhole_lit9 f _).mono ?_
      rintro e w3 ⟨rfl, hbb⟩
      replace hp := hp.below hbb
      replace P1 := P1.below hbb
      replace hB := hB.trans (hbb.mono hB.size)
      clear hbb
      go_wp2_with fail
      refine (rwhole_lit9 t _).mono ?_
      rintro e w4 ⟨rfl, hbb⟩
      replace hp := hp.below hbb
      replace P1 := P1.below hbb
      replace hB := hB.trans (hbb.mono hB.size)
      clear hbb
      go_wp2_with fail
      refine (Worth_any l _ _ _ f 1 t 1 _ hp Hn.out hn hrf.2 hrt.2).mono ?_
      rintro e w5 ⟨rfl, hbb⟩
      replace hp := hp.below hbb
      replace P1 := P1.below hbb
      replace hB := hB.trans (hbb.mono hB.size)
      clear hbb
      rw [HW.out.1, HW.out.2, frOr_ok]
      have hA := (Below.refl _ w5).alloc (Nat.le_refl _) (.cells #[.int .i64 T, .int .i64 1] 29)
      have r15 := heap_alloc_new w5 (.cells #[.int .i64 T, .int .i64 1] 29)
      replace hp := hp.below hA
      replace P1 := P1.below hA
      replace hB := hB.trans (hA.mono hB.size)
      clear hA
      have q1 := run_eq_rt T 1 T 1
      simp only [decide_true] at q1
      go_wp2_with fail
      obtain ⟨⟨c0, c1'⟩, -, -⟩ := row_fr r15
      go_region_held3 (fun w' => w'.cell? ⟨w5.heap.size, 0, none⟩ = some (.int .i64 T) ∧ w'.cell? ⟨w5.heap.size, 1, none⟩ = some (.int .i64 1))
        (first | exact ⟨c0, c1'⟩ | exact ka | exact kb)
        (first
          | (go_at_call 38; refine (rwhole_lit9 T _).mono ?_; rintro e wa ⟨rfl, hba⟩; have ka := And.intro (keep_cell hba c0) (keep_cell hba c1'); have hbb := (below_drewN hB 1).trans (hba.mono (by have := hB.size; exact this)))
          | (go_at_call 16; refine (known_any _).mono ?_; rintro e wb ⟨rfl, hbc⟩; have kb := And.intro (keep_cell hbc ka.1) (keep_cell hbc ka.2); have hbd := hbb.trans (hbc.mono hbb.size)))
      go_wp2
      go_ret
      exact ⟨rfl, hbd⟩
    · go_wp2_with fail
      refine (known_any _).mono ?_
      rintro e w4 ⟨rfl, hb⟩
      go_wp2
      go_ret
      exact ⟨rfl, hB.trans (hb.mono hB.size)⟩
end Go.Proofs.Ytkpabehjehbidaa
