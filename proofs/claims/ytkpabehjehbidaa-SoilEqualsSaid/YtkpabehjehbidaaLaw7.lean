import Derived.Test.YtkpabehjehbidaaLaw6
import Derived.Test.YtkpabehjehbidaaEnm
import Derived.Test.YtkpabehjehbidaaTrn
namespace Go.Proofs.Ytkpabehjehbidaa
open Go.RowKit

theorem int_snoc {ps : List Int} {k : Nat} (hk : k < ps.length) : (ps.reverse.take (k + 1)).map (Value.int .i64) = (ps.reverse.take k).map (Value.int .i64) ++ [.int .i64 (ps.getD (ps.length - 1 - k) 0)] := by
  have hk2 : k < ps.reverse.length := by rw [List.length_reverse]; exact hk
  rw [List.take_succ_eq_append_getElem hk2, List.map_append]
  congr 1
  simp only [List.map_cons, List.map_nil]
  rw [← Fl.getD_rev hk, List.getD_eq_getElem?_getD, List.getElem?_eq_getElem hk2]
  rfl
theorem pr_get {L : List Rat} {k : Nat} (hk : k < L.length) : (L.map pr).getD k (0, 0) = pr (L.getD k 0) := by
  rw [List.getD_eq_getElem?_getD, List.getElem?_map, List.getD_eq_getElem?_getD, List.getElem?_eq_getElem hk]
  rfl
theorem pts_pr {w : World} {ao : Option Addr} {L : List Rat} (h : Pts w ao (L.map pr)) {k : Nat} (hk : k < L.length) :
    ∃ b off, ao = some ⟨b, off, none⟩ ∧ b < w.heap.size ∧ w.cell? ⟨b, off + k * 2, none⟩ = some (.int .i64 (L.getD k 0).num) ∧ w.cell? ⟨b, off + k * 2 + 1, none⟩ = some (.int .i64 (L.getD k 0).den) := by
  obtain ⟨b, off, e, hb, hc⟩ := h.cells (by rw [List.length_map]; omega)
  have := hc k (by rw [List.length_map]; exact hk)
  rw [pr_get hk] at this
  exact ⟨b, off, e, hb, this.1, this.2⟩
theorem rev_get {c : List Rat} {L : Rat} {k : Nat} (hk : k < c.length) : (c.reverse.map fun q => L - q).getD (c.length - 1 - k) 0 = L - c.getD k 0 := by
  rw [List.getD_eq_getElem?_getD, List.getElem?_map, List.getElem?_reverse (by omega), show c.length - 1 - (c.length - 1 - k) = k by omega, List.getD_eq_getElem?_getD, List.getElem?_eq_getElem hk]
  rfl
/-- What is known of the cuts that are returned. -/
theorem cuts_fair {l : List (Int × Int)} {ps : List Int} (h : Fl.partsC l ps = 0) : ((Fl.cutsOf l ps).map pr).all fairB = true ∧ ∀ k, k < (Fl.cutsOf l ps).length → SumQ (Fl.len l : Rat) ((Fl.cutsOf l ps).getD k 0) := by
  obtain ⟨h0, -, -, -, -⟩ := Fl.partsC_ok h
  obtain ⟨-, k2, -, -⟩ := Fl.cutsOf_ok h
  have hok := (Fl.validate_ok.1 h0).2
  have hlb := Fl.len_bound hok
  have h6 := (Fl.validate_ok.1 h0).1.2
  constructor
  · rw [List.all_eq_true]
    intro c hc
    have hn := cuts_num h c hc
    simp only [List.mem_map] at hc
    obtain ⟨q, hq, rfl⟩ := hc
    obtain ⟨q0, q1, q2⟩ := k2 q hq
    have e : q ≤ ((1000 : Nat) : Rat) := Rat.le_trans q1 (Rat.intCast_le_intCast.2 (by omega))
    have := Fl.num_le e
    exact fairB_iff.2 ⟨by have := q.den_pos; show (1 : Int) ≤ (q.den : Int); omega, by show (q.den : Int) ≤ _; omega, by show q.num ≤ _; omega, by have := Fl.num_nonneg q0; show _ ≤ q.num; omega⟩
  · intro k hk
    have hm : (Fl.cutsOf l ps).getD k 0 ∈ Fl.cutsOf l ps := by rw [List.getD_eq_getElem?_getD, List.getElem?_eq_getElem hk]; exact List.getElem_mem hk
    obtain ⟨q0, q1, q2⟩ := k2 _ hm
    exact less_places (L := Fl.len l) (by exact_mod_cast (show (0 : Int) ≤ Fl.len l by omega)) q0 Rat.le_refl q1 (by omega) (by omega) (by rw [Rat.den_intCast]; omega) (by omega)

set_option maxRecDepth 100000 in
set_option maxHeartbeats 8000000 in
theorem soilEnds_any (l : List (Int × Int)) (ao : Option Addr) (n cap : Nat) (ps : List Int) (ao2 : Option Addr) (m cap2 : Nat) (w : World) (hp : Pts w ao l) (hln : n = l.length) (hI : Ints w ao2 ps) (hlm : m = ps.length) (_ : ∀ x ∈ ps, Rng x) :
    Calls Try.prog 9 #[.slice ao n cap, .slice ao2 m cap2] w fun e w' => e = .returned (.bool true) ∧ Below w.heap.size w w' := by
  have Hn := Lib.hid hln
  have Hm := Lib.hid hlm
  clear hln hlm
  have hB := Below.refl w.heap.size w
  by_cases hlong : 100 < n
  · have hd : (decide (100 < n) || decide (100 < 0)) = true := by simp [hlong]
    go_enter Try.func9, Try.ntmps9
    go_wp2_with fail
    refine (long_any n 0 cap 0 ao none _).mono ?_
    rintro e w1 ⟨rfl, rfl⟩
    rw [hd]
    go_wp2_with fail
    refine (known_any _).mono ?_
    rintro e w1 ⟨rfl, hb⟩
    go_wp2
    go_ret
    exact ⟨rfl, hb⟩
  · have hd : (decide (100 < n) || decide (100 < 0)) = false := by simp; omega
    have hn : n ≤ 100000 := by omega
    clear hlong
    by_cases hlong : 100 < m
    · have hm100 : (100 : Int) < (m : Int) := by omega
      go_enter Try.func9, Try.ntmps9
      go_wp2_with fail
      refine (long_any n 0 cap 0 ao none _).mono ?_
      rintro e w1 ⟨rfl, rfl⟩
      rw [hd]
      go_wp2_with fail
      refine (known_any _).mono ?_
      rintro e w1 ⟨rfl, hb⟩
      go_wp2
      go_ret
      exact ⟨rfl, hb⟩
    · have hm100 : ¬ (100 : Int) < (m : Int) := by omega
      have hm : m ≤ 100000 := by omega
      clear hlong
      obtain ⟨C, hC⟩ : ∃ c, Fl.partsC l ps = c := ⟨_, rfl⟩
      have hC0 : C = 0 ∨ (C != 0) = true := by by_cases h : C = 0 <;> simp [h]
      have HC := Lib.hid hC
      clear hC
      go_enter Try.func9, Try.ntmps9
      go_wp2_with fail
      refine (long_any n 0 cap 0 ao none _).mono ?_
      rintro e w1 ⟨rfl, rfl⟩
      rw [hd]
      clear hd
      go_wp2_with fail
      refine (Cut_any l ps _ _ _ _ _ _ _ hp Hn.out hn hI Hm.out hm).mono ?_
      rintro e w1 ⟨⟨v1, rfl, M1⟩, hb1⟩
      replace hp := hp.below hb1
      replace hI := hI.below hb1
      replace hB := hB.trans (hb1.mono hB.size)
      clear hb1
      rw [HC.out] at M1 ⊢
      obtain ⟨c, hc⟩ : ∃ c, c = Fl.cutsOf l ps := ⟨_, rfl⟩
      rw [← hc] at M1
      have Hc := Lib.hid hc
      clear hc
      go_wp2_with fail
      refine (Turn_any l _ _ _ _ hp Hn.out hn).mono ?_
      rintro e w2 ⟨⟨v2, rfl, M2⟩, hb2⟩
      replace hp := hp.below hb2
      replace hI := hI.below hb2
      replace M1 := M1.below hb2
      replace hB := hB.trans (hb2.mono hB.size)
      clear hb2
      go_wp2_with fail
      refine (Length_any l _ _ _ _ hp Hn.out hn).mono ?_
      rintro e w3 ⟨rfl, hb3⟩
      replace hp := hp.below hb3
      replace hI := hI.below hb3
      replace M1 := M1.below hb3
      replace M2 := M2.below hb3
      replace hB := hB.trans (hb3.mono hB.size)
      clear hb3
      obtain ⟨LX, hLX⟩ : ∃ x, x = (if Fl.validate l = 0 then Fl.len l else 0) := ⟨_, rfl⟩
      rw [← hLX]
      have HLX := Lib.hid hLX
      clear hLX
      rcases hC0 with rfl | hC0
      · have hp0 := Fl.partsC_ok HC.out
        have hv0 := hp0.1
        have hm8 : m ≤ 8 := by have := Hm.out; omega
        have hm1 : 1 ≤ m := by have := Hm.out; omega
        have hok := (Fl.validate_ok.1 hv0).2
        have hn6 : n ≤ 6 := by have := (Fl.validate_ok.1 hv0).1.2; have := Hn.out; omega
        have hcl : Hid (c.length = m - 1) := Lib.hid (by rw [Hc.out, (Fl.cutsOf_ok HC.out).2.2.2, Hm.out])
        have hLX := HLX.out
        rw [hv0] at M2 hLX ⊢
        simp only [if_true] at hLX
        have HL := Lib.hid hLX
        clear hLX HLX
        obtain ⟨a1, cp1, rfl, -, P1⟩ := M1.pts
        obtain ⟨a2, cp2, rfl, -, P2⟩ := M2
        clear M1 hp0 hv0
        simp only [if_true] at P1 P2 ⊢
        rw [List.length_map, hcl.out, List.length_reverse, ← Hn.out]
        have HP := Lib.hid hp
        have HI := Lib.hid hI
        have HP1 := Lib.hid P1
        have HP2 := Lib.hid P2
        clear hp hI P1 P2
        have hs3 := hB.size
        go_wp2
        go_loopw [11] (fun i wr => ∃ k : Nat, k ≤ n ∧ i = .int .i64 k ∧ Hid (∀ j, j < k → 1 ≤ (l.getD j (0, 0)).2) ∧ wr = w3) (fun i _ => n - (intOf i).toNat)
        case atStart => exact ⟨0, Nat.zero_le _, rfl, Lib.hid fun j hj => by omega, rfl⟩
        case round =>
          obtain ⟨k, hk, rfl, hall, hw⟩ := hrel
          rw [hw]
          clear hw wr
          by_cases hlt : k < n
          · have hkl : k < l.length := by have := Hn.out; omega
            obtain ⟨b, off, rfl, hbs, hc⟩ := HP.out.cells (by omega)
            obtain ⟨-, hc2⟩ := hc k hkl
            have hz := hok (l.getD k (0, 0)) (by rw [List.getD_eq_getElem?_getD, List.getElem?_eq_getElem hkl]; exact List.getElem_mem hkl)
            obtain ⟨x, hx⟩ : ∃ x, x = (l.getD k (0, 0)).2 := ⟨_, rfl⟩
            rw [← hx] at hc2 hz
            have Hx := Lib.hid hx
            clear hx hc
            have i1 : (k : Int) < (n : Int) := by omega
            by_cases hx0 : x = 0
            · subst hx0
              go_wp2_with fail
              refine (known_any _).mono ?_
              rintro e w4 ⟨rfl, hb⟩
              go_wp2
              go_ret
              exact ⟨rfl, hB.trans (hb.mono hB.size)⟩
            · have hx1 : (x == 0) = false := by simpa using hx0
              go_wp2
              go_roundw
              case rel =>
                refine ⟨k + 1, by omega, by go_num, Lib.hid fun j hj => ?_, trivial⟩
                by_cases e : j = k
                · subst e; rw [← Hx.out]; omega
                · exact hall.out j (by omega)
              case measure => simp [intOf]; omega
          · have hk2 : k = n := by omega
            have hpos : ∀ z ∈ l, 1 ≤ z.2 := by
              intro z hz
              obtain ⟨j, hj, rfl⟩ := List.getElem_of_mem hz
              have := hall.out j (by have := Hn.out; omega)
              rwa [List.getD_eq_getElem?_getD, List.getElem?_eq_getElem hj] at this
            have hcr := Fl.cuts_reverse hpos HC.out
            rw [← Hc.out] at hcr
            have Hcr := Lib.hid hcr
            have Hpr := Lib.hid (Fl.partsC_reverse HC.out)
            clear hcr hpos hall hk2
            have i1 : ¬ (k : Int) < (n : Int) := by omega
            have e1 : IntKind.i64.wrap ((m : Int) - 1) = (m : Int) - 1 := IntWalk.i64_in _ (by omega)
            obtain ⟨i0, hi0, hz0, hz1, hz2⟩ := info_in
            go_wp2
            clear e1
            go_loopw [12, 13] (fun v i wr => ∃ (k : Nat) (z : Int), k ≤ m ∧ Hid (z = (m : Int) - 1 - k) ∧ -1 ≤ z ∧ z ≤ 8 ∧ i = .int .i64 z ∧ Hid (wr.ownsRow w3.heap.size 3 1 v k ((ps.reverse.take k).map (Value.int .i64))) ∧ Below w3.heap.size w3 wr) (fun _ i _ => (intOf i + 1).toNat)
            case atStart => exact ⟨0, (m : Int) - 1, Nat.zero_le _, Lib.hid (by omega), by omega, by omega, rfl, Lib.hid ⟨rfl, .inl ⟨rfl, rfl⟩⟩, Below.refl _ _⟩
            case round =>
              clear i1
              obtain ⟨k, z, hk, Hz, hz1', hz2', rfl, hown, hb⟩ := hrel
              by_cases hlt : 0 ≤ z
              · obtain ⟨j, rfl⟩ := Int.eq_ofNat_of_zero_le hlt
                have hz := Hz.out
                have hjm : j < ps.length := by have := Hm.out; omega
                have hkl : k < ps.length := by have := Hm.out; omega
                obtain ⟨b, off, rfl, hbs, hc⟩ := HI.out.at hjm
                replace hc := keep_cell hb hc
                have hsn := int_snoc hkl
                rw [show ps.length - 1 - k = j by have := Hm.out; omega] at hsn
                obtain ⟨x, hx⟩ : ∃ x, x = ps.getD j 0 := ⟨_, rfl⟩
                rw [← hx] at hc hsn
                have Hsn := Lib.hid hsn
                have i1 : (j : Int) < (m : Int) := by omega
                have hk8 : k < 8 := by omega
                have hkm : k + 1 ≤ m := by omega
                have Hz2 : Hid ((j : Int) - 1 = (m : Int) - 1 - ((k + 1 : Nat) : Int)) := Lib.hid (by omega)
                have hj8 : (j : Int) ≤ 8 := by omega
                have e1 : IntKind.i64.wrap ((j : Int) - 1) = (j : Int) - 1 := IntWalk.i64_in _ (by omega)
                clear hx hsn hz Hz
                have hs := hb.size
                go_wp2_with (first | (at_builtin; refine wpList_append_own _ rfl _ _ 43 rfl w3.heap.size 3 i0 (.int .i64 0) 1 8 Try.underlying43 hi0 hz0 hz1 hz2 rfl (by decide) _ k _ rfl (hown.out.alloc _) ⟨wr.heap.size, 0, none⟩ 1 1 [.int .i64 x] rfl rfl (World.news_of_block (cs := #[.int .i64 x]) (t := 3) (fr := (0, 0)) (heap_alloc_new wr _)) (by simp [Value.oneCell']) (by unfold maxLen; omega) (by omega) (by simp; omega) ?_; intro v' w4 hown4 hgrow4 hnil4; have hb5 : Below w3.heap.size w3 w4 := (hb.alloc hs _).grown hgrow4 (by simp; omega) (fun q hq => (hown.out.lt _ hq).1); clear hgrow4 hnil4))
                go_roundw
                case rel => exact ⟨k + 1, (j : Int) - 1, hkm, Hz2, by omega, by omega, by go_num, Lib.hid (by rw [Hsn.out]; exact hown4), hb5⟩
                case measure => simp [intOf]
              · have hz := Hz.out
                have hkm : k = m := by omega
                have ho := hown.out
                rw [hkm, Hm.out, ← List.length_reverse, List.take_length] at ho
                obtain ⟨ao4, cap4, rfl, hcap4, hI4⟩ := own_ints ho rfl
                have hrl : Hid (ps.reverse.length = m) := Lib.hid (by rw [List.length_reverse, Hm.out])
                rw [hrl.out] at hcap4 ⊢
                have hp2 := HP2.out.below hb
                have hp1 := HP1.out.below hb
                have hB4 := hB.trans (hb.mono hs3)
                clear ho hown hkm hz hb hB
                have Hnr : Hid (n = l.reverse.length) := Lib.hid (by rw [List.length_reverse]; exact Hn.out)
                go_wp2_with fail
                refine (Cut_any l.reverse ps.reverse _ _ _ _ _ _ _ hp2 Hnr.out hn hI4 hrl.out.symm hm).mono ?_
                rintro e w5 ⟨⟨v3, rfl, M3⟩, hb5⟩
                rw [Hpr.out, Hcr.out] at M3
                rw [Hpr.out]
                replace hp1 := hp1.below hb5
                replace hB4 := hB4.trans (hb5.mono hB4.size)
                clear hb5 hp2 hI4
                obtain ⟨a3, cp3, rfl, -, P3⟩ := M3.pts
                simp only [if_true] at P3 ⊢
                rw [List.length_map, List.length_map, List.length_reverse, hcl.out]
                clear M3
                have hf := cuts_fair HC.out
                rw [← Hc.out] at hf
                have hcl' : Hid (m - 1 = (c.map pr).length) := Lib.hid (by rw [List.length_map]; exact hcl.out.symm)
                have em : ((m - 1 : Nat) : Int) = (m : Int) - 1 := by omega
                go_wp2_with fail
                refine (fair_any (c.map pr) _ (m - 1) _ _ hp1 hcl'.out (by omega)).mono ?_
                rintro e w6 ⟨rfl, hw⟩
                rw [hf.1, ← hw]
                clear hw w6
                have Hf := Lib.hid hf.2
                clear hf
                have HP1 := Lib.hid hp1
                have HP3 := Lib.hid P3
                clear hp1 P3
                obtain ⟨M, hM⟩ : ∃ M, M = m - 1 := ⟨_, rfl⟩
                clear em
                rw [← hM]
                have HM := Lib.hid hM
                clear hM
                have hM8 : M ≤ 8 := by have := HM.out; omega
                have hs6 := hB4.size
                go_wp2
                go_loopw [16] (fun i wr => ∃ k : Nat, k ≤ M ∧ i = .int .i64 k ∧ Below w5.heap.size w5 wr) (fun i _ => M - (intOf i).toNat)
                case atStart => exact ⟨0, Nat.zero_le _, rfl, Below.refl _ _⟩
                case round =>
                  obtain ⟨k, hk, rfl, hb⟩ := hrel
                  by_cases hlt : k < M
                  · have hkc : k < c.length := by rw [hcl.out, ← HM.out]; exact hlt
                    obtain ⟨j, hj⟩ : ∃ j, j = M - 1 - k := ⟨_, rfl⟩
                    have hkj : j < ((c.reverse.map fun q => (Fl.len l : Rat) - q)).length := by rw [List.length_map, List.length_reverse, hcl.out, ← HM.out]; omega
                    obtain ⟨b, off, rfl, hbs, c0, c1⟩ := pts_pr HP1.out hkc
                    obtain ⟨b3, off3, rfl, hbs3, c2, c3⟩ := pts_pr HP3.out hkj
                    have hrg := rev_get (L := (Fl.len l : Rat)) hkc
                    rw [hcl.out, ← HM.out, ← hj] at hrg
                    rw [hrg] at c2 c3
                    have hsq := Hf.out k hkc
                    rw [← HL.out] at c2 c3 hsq
                    obtain ⟨q, hq⟩ : ∃ q, q = c.getD k 0 := ⟨_, rfl⟩
                    rw [← hq] at c0 c1 c2 c3 hsq
                    obtain ⟨V, hV⟩ : ∃ V, V = (LX : Rat) - q := ⟨_, rfl⟩
                    rw [← hV] at c2 c3
                    have HV := Lib.hid hV
                    have Hsq := Lib.hid hsq
                    replace c0 := keep_cell hb c0
                    replace c1 := keep_cell hb c1
                    replace c2 := keep_cell hb c2
                    replace c3 := keep_cell hb c3
                    have y1 : IntKind.i64.wrap ((M : Int) - 1) = (M : Int) - 1 := IntWalk.i64_in _ (by omega)
                    have y2 : IntKind.i64.wrap ((M : Int) - 1 - (k : Int)) = (j : Int) := (IntWalk.i64_in _ (by omega)).trans (by omega)
                    have y3 : (j : Int) < (M : Int) := by omega
                    have y4 : (k : Int) < (M : Int) := by omega
                    obtain ⟨D, hD⟩ : ∃ D : Int, D = (q.den : Int) := ⟨_, rfl⟩
                    rw [← hD] at c1
                    have y5 : decide (D < 1) = false := decide_eq_false (by have := q.den_pos; omega)
                    have HS : Hid (∀ w, Calls Try.prog 37 #[Fr (LX : Rat), .agg #[.int .i64 q.num, .int .i64 D]] w fun e w' => e = .returned (Fr V) ∧ Below w.heap.size w w') := Lib.hid (by rw [hD, HV.out]; exact fun w => rsub_q (LX : Rat) q w Hsq.out)
                    clear hD
                    have q1 := run_neq_rt V.num V.den V.num V.den
                    simp only [decide_true, Bool.not_true] at q1
                    clear hj hkj hrg hq hV hsq hkc
                    have hs9 := hb.size
                    go_wp2_with fail
                    go_region_held3 (fun w' => w'.cell? ⟨b, off + k * 2, none⟩ = some (.int .i64 q.num) ∧ w'.cell? ⟨b, off + k * 2 + 1, none⟩ = some (.int .i64 D) ∧ w'.cell? ⟨b3, off3 + j * 2, none⟩ = some (.int .i64 V.num) ∧ w'.cell? ⟨b3, off3 + j * 2 + 1, none⟩ = some (.int .i64 V.den))
                      (first | exact ⟨c0, c1, c2, c3⟩ | exact ka | exact kb)
                      (first
                        | (go_at_call 38; refine (rwhole_any LX _).mono ?_; rintro e w8 ⟨rfl, hb8⟩; have ka := And.intro (keep_cell hb8 c0) (And.intro (keep_cell hb8 c1) (And.intro (keep_cell hb8 c2) (keep_cell hb8 c3))); have hbb := (below_drewN hb 1).trans (hb8.mono (by have := hb.size; exact this)))
                        | (go_at_call 37; refine (HS.out _).mono ?_; rintro e w9 ⟨rfl, hb9⟩; have kb := And.intro (keep_cell hb9 ka.1) (And.intro (keep_cell hb9 ka.2.1) (And.intro (keep_cell hb9 ka.2.2.1) (keep_cell hb9 ka.2.2.2))); have hbc := hbb.trans (hb9.mono hbb.size)))
                    go_wp2
                    go_roundw
                    case rel => exact ⟨k + 1, by omega, by go_num, hbc⟩
                    case measure => simp [intOf]; omega
                  · have y4 : ¬ (k : Int) < (M : Int) := by omega
                    have hB5 := hB4.trans (hb.mono hs6)
                    go_wp2_with fail
                    refine (known_any _).mono ?_
                    rintro e w9 ⟨rfl, hb9⟩
                    go_wp2
                    go_ret
                    exact ⟨rfl, hB5.trans (hb9.mono hB5.size)⟩
      · go_wp2_with fail
        refine (known_any _).mono ?_
        rintro e w4 ⟨rfl, hb⟩
        go_wp2
        go_ret
        exact ⟨rfl, hB.trans (hb.mono hB.size)⟩
end Go.Proofs.Ytkpabehjehbidaa
