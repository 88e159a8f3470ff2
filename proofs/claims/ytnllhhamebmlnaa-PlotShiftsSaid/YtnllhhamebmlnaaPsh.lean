import Derived.Test.YtnllhhamebmlnaaRsh
import Derived.Test.YtnllhhamebmlnaaSpt
import Derived.Test.YtnllhhamebmlnaaKnw
namespace Go.Proofs.Ytnllhhamebmlnaa
open Go.RowKit

theorem made_pts {w0 w : World} {v : Value} {c : Int} {l : List (Int × Int)} (h : Made w0 w v c l) :
    ∃ ao n cap, v = .slice ao n cap ∧ n = (if c = 0 then l else []).length ∧ n ≤ cap ∧ Pts w ao (if c = 0 then l else []) := by
  rcases h with ⟨h0, h⟩ | ⟨h0, rfl⟩
  · rw [if_pos h0]; exact own_pts h
  · rw [if_neg h0]; exact ⟨none, 0, 0, rfl, rfl, Nat.le_refl _, ⟨fun h => by simp at h⟩⟩
theorem shiftCode_len {l : List (Int × Int)} {d : Int × Int} (h : shiftCode l d = 0) : l.length ≤ 10 := (validate_len (shift_ok h).1).2

set_option maxRecDepth 100000 in
set_option maxHeartbeats 3200000 in
theorem plotShifts_any (l : List (Int × Int)) (dx dy : Int) (ao : Option Addr) (n cap : Nat) (w : World) (hp : Pts w ao l) (hln : n = l.length) (hcap : n ≤ cap) :
    Calls Try.prog 13 #[.slice ao n cap, .agg #[.int .i64 dx, .int .i64 dy]] w fun e w' => e = .returned (.bool true) ∧ Below w.heap.size w w' := by
  have Hn := Lib.hid hln
  clear hln
  have hA : Below w.heap.size w (w.alloc (.cells #[.int .i64 dx, .int .i64 dy] 32)) := (Below.refl _ _).alloc (Nat.le_refl _) _
  have hpA := hp.below hA
  have q0 : (w.alloc (.cells #[.int .i64 dx, .int .i64 dy] 32)).cell? ⟨w.heap.size, 0, none⟩ = some (.int .i64 dx) := by simp
  have q1 : (w.alloc (.cells #[.int .i64 dx, .int .i64 dy] 32)).cell? ⟨w.heap.size, 1, none⟩ = some (.int .i64 dy) := by simp
  have Hq := Lib.hid (And.intro q0 (And.intro q1 hA))
  clear q0 q1 hA
  go_enter Try.func13, Try.ntmps13
  go_wp2_with fail
  refine (long_any ao n cap _).mono ?_
  rintro e w' ⟨rfl, rfl⟩
  by_cases hl : 40 < n
  · rw [show decide (40 < n) = true from decide_eq_true hl]
    go_wp2_with fail
    refine (known_any _).mono ?_
    rintro e w1 ⟨rfl, hb⟩
    go_wp2
    go_ret
    exact ⟨rfl, Hq.out.2.2.trans (hb.mono (by simp))⟩
  · rw [show decide (40 < n) = false from decide_eq_false hl]
    have hn2 : n ≤ 100000 := by omega
    go_wp2_with fail
    refine (shift_any l dx dy ao n cap _ hpA Hn.out hn2 hcap).mono ?_
    rintro e w1 ⟨v1, rfl, hm1, hb1⟩
    have hp1 := hpA.below hb1
    have s1 : w.heap.size < w1.heap.size := by have := hb1.size; simp only [World.size_alloc] at this; omega
    have d0 := (hb1.cell (p := ⟨w.heap.size, 0, none⟩) (by simp)).trans Hq.out.1
    have d1 := (hb1.cell (p := ⟨w.heap.size, 1, none⟩) (by simp)).trans Hq.out.2.1
    have hB1 : Below w.heap.size w w1 := Hq.out.2.2.trans (hb1.mono (by simp))
    obtain ⟨ao1, n1, cap1, rfl, hn1, hcap1, hq1⟩ := made_pts hm1
    clear hm1 hb1
    obtain ⟨L, hL⟩ : ∃ L, L = (if shiftCode l (dx, dy) = 0 then l.map (Geo.shiftP (dx, dy)) else []) := ⟨_, rfl⟩
    rw [← hL] at hn1 hq1
    have Hn1 := Lib.hid hn1
    have HL := Lib.hid hL
    clear hn1 hL
    go_wp2_with fail
    refine (rshift_any l dx dy ao n cap _ hp1 Hn.out hn2).mono ?_
    rintro e w2 ⟨v2, rfl, hm2, hb2⟩
    have hp2 := hp1.below hb2
    have hq2 := hq1.below hb2
    have hB2 := hB1.trans (hb2.mono (by omega))
    have s2 := hb2.size
    obtain ⟨ao2, n2, cap2, rfl, hnn2, hcap2, hr2⟩ := made_pts hm2
    clear hm2 hb2 hq1 hp1 d0 d1
    rw [← HL.out] at hnn2 hr2
    have Hn2 := Lib.hid hnn2
    have hL10 : L.length ≤ 10 := by
      rw [HL.out]
      by_cases h : shiftCode l (dx, dy) = 0
      · rw [if_pos h, List.length_map]; exact shiftCode_len h
      · rw [if_neg h]; simp
    clear hnn2
    go_wp2_with fail
    refine (samePoints_any L L ao1 ao2 n1 cap1 n2 cap2 _ hq2 hr2 Hn1.out Hn2.out (by have := Hn1.out; omega)).mono ?_
    rintro e w3 ⟨rfl, hb3⟩
    have hp3 := hp2.below hb3
    have hq3 := hq2.below hb3
    have hB3 := hB2.trans (hb3.mono (by omega))
    have s3 := hb3.size
    clear hb3 hp2 hq2 hr2 hpA hp
    rw [show decide (L = L) = true from decide_eq_true rfl]
    obtain ⟨c, hc⟩ : ∃ c, c = shiftCode l (dx, dy) := ⟨_, rfl⟩
    rw [← hc]
    have Hc := Lib.hid hc
    have hc0 : c = 0 ∨ (c == 0) = false ∧ (c != 0) = true := by by_cases h : c = 0 <;> simp [h]
    clear hc
    rcases hc0 with rfl | ⟨hc0, hc1⟩
    · obtain ⟨k1, k2, k3, k4⟩ := shift_ok Hc.out.symm
      have hLL : L = l.map (Geo.shiftP (dx, dy)) := by rw [HL.out, if_pos Hc.out.symm]
      have Hk := Lib.hid (And.intro k1 (And.intro k2 (And.intro k3 (And.intro k4 hLL))))
      clear k1 k2 k3 k4 hLL
      go_wp2_with fail
      refine (inside_any L ao1 n1 cap1 _ hq3 Hn1.out (by have := Hn1.out; omega) hcap1).mono ?_
      rintro e w4 ⟨rfl, hb4⟩
      have hp4 := hp3.below hb4
      have hq4 := hq3.below hb4
      have hB4 := hB3.trans (hb4.mono (by omega))
      have s4 := hb4.size
      clear hb4 hp3 hq3
      rw [show validate L = 0 by rw [Hk.out.2.2.2.2]; exact Hk.out.2.1, show insideOf L = insideOf l by rw [Hk.out.2.2.2.2]; exact Hk.out.2.2.1]
      go_wp2_with fail
      refine (inside_any l ao n cap _ hp4 Hn.out hn2 hcap).mono ?_
      rintro e w5 ⟨rfl, hb5⟩
      have hp5 := hp4.below hb5
      have hq5 := hq4.below hb5
      have hB5 := hB4.trans (hb5.mono (by omega))
      have s5 := hb5.size
      clear hb5 hp4 hq4
      rw [show validate l = 0 from Hk.out.1]
      go_wp2_with fail
      refine (turns_any L ao1 n1 cap1 _ hq5 Hn1.out (by have := Hn1.out; omega) hcap1).mono ?_
      rintro e w6 ⟨rfl, hb6⟩
      have hp6 := hp5.below hb6
      have hB6 := hB5.trans (hb6.mono (by omega))
      have s6 := hb6.size
      clear hb6 hp5 hq5
      rw [show validate L = 0 by rw [Hk.out.2.2.2.2]; exact Hk.out.2.1, show turnsOf L = turnsOf l by rw [Hk.out.2.2.2.2]; exact Hk.out.2.2.2.1]
      go_wp2_with fail
      refine (turns_any l ao n cap _ hp6 Hn.out hn2 hcap).mono ?_
      rintro e w7 ⟨rfl, hb7⟩
      have hB7 := hB6.trans (hb7.mono (by omega))
      have s7 := hb7.size
      clear hb7 hp6
      rw [show validate l = 0 from Hk.out.1]
      go_wp2_with fail
      refine (known_any _).mono ?_
      rintro e w8 ⟨rfl, hb8⟩
      have hB8 := hB7.trans (hb8.mono (by omega))
      go_wp2
      go_ret
      exact ⟨rfl, hB8⟩
    · go_wp2_with fail
      refine (known_any _).mono ?_
      rintro e w4 ⟨rfl, hb4⟩
      have hB4 := hB3.trans (hb4.mono (by omega))
      go_wp2
      go_ret
      exact ⟨rfl, hB4⟩
end Go.Proofs.Ytnllhhamebmlnaa
