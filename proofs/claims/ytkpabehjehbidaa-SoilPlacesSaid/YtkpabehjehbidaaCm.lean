import Derived.Test.YtkpabehjehbidaaCp
import Derived.Deep.CutRange
namespace Go.Proofs.Ytkpabehjehbidaa
open Go.RowKit

set_option maxRecDepth 100000 in
set_option maxHeartbeats 2000000 in
theorem compare_any (a b : Rat) (w : World) (ha : 0 ≤ a.num) (hb : 0 ≤ b.num) (ha2 : a.num ≤ 9223372036854775807) (hb2 : b.num ≤ 9223372036854775807) (hd : (a.den : Int) * (b.den : Int) ≤ 4000000000000000000) :
    Calls Try.prog 68 #[Fr a, Fr b] w fun e w' => e = .returned (.int .i64 (Fl.cmpR a b)) ∧ Below w.heap.size w w' := by
  obtain ⟨an, han⟩ : ∃ x : Nat, (x : Int) = a.num := ⟨a.num.toNat, by omega⟩
  obtain ⟨bn, hbn⟩ : ∃ x : Nat, (x : Int) = b.num := ⟨b.num.toNat, by omega⟩
  obtain ⟨ad, had⟩ : ∃ x, x = a.den := ⟨_, rfl⟩
  obtain ⟨bd, hbd⟩ : ∃ x, x = b.den := ⟨_, rfl⟩
  obtain ⟨r, hr⟩ : ∃ x, x = Fl.cmpR a b := ⟨_, rfl⟩
  have da : (1 : Int) ≤ (ad : Int) := by have := a.den_pos; omega
  have db : (1 : Int) ≤ (bd : Int) := by have := b.den_pos; omega
  have H1 : cmpI ((an : Int) / (ad : Int)) ((bn : Int) / (bd : Int)) ≠ 0 → cmpI ((an : Int) / (ad : Int)) ((bn : Int) / (bd : Int)) = r := by
    rw [han, hbn, had, hbd, hr]; exact cmp_first ha hb
  have H2 : cmpI ((an : Int) / (ad : Int)) ((bn : Int) / (bd : Int)) = 0 → cmpI ((an : Int) % (ad : Int) * (bd : Int)) ((bn : Int) % (bd : Int) * (ad : Int)) = r := by
    rw [han, hbn, had, hbd, hr]; exact cmp_second
  have HH := Lib.hid (And.intro H1 H2)
  clear H1 H2
  show Calls Try.prog 68 #[.agg #[.int .i64 a.num, .int .i64 a.den], .agg #[.int .i64 b.num, .int .i64 b.den]] w _
  rw [← han, ← hbn, ← had, ← hbd, ← hr]
  rw [← han] at ha ha2
  rw [← hbn] at hb hb2
  rw [← had, ← hbd] at hd
  clear han hbn had hbd hr
  have dd : (1 : Int) ≤ (ad : Int) * (bd : Int) := by have := Int.mul_le_mul da db (by omega) (by omega); omega
  have ea : (ad : Int) ≤ (ad : Int) * (bd : Int) := by have := Int.mul_le_mul_of_nonneg_left db (show (0 : Int) ≤ (ad : Int) by omega); omega
  have eb : (bd : Int) ≤ (ad : Int) * (bd : Int) := by have := Int.mul_le_mul_of_nonneg_right da (show (0 : Int) ≤ (bd : Int) by omega); omega
  have r1 := Int.emod_lt_of_pos (an : Int) (b := (ad : Int)) (by omega)
  have r2 := Int.emod_lt_of_pos (bn : Int) (b := (bd : Int)) (by omega)
  have r3 := Int.emod_nonneg (an : Int) (show (ad : Int) ≠ 0 by omega)
  have r4 := Int.emod_nonneg (bn : Int) (show (bd : Int) ≠ 0 by omega)
  have m1 : 0 ≤ (an : Int) % (ad : Int) * (bd : Int) := Int.mul_nonneg r3 (by omega)
  have m2 : (an : Int) % (ad : Int) * (bd : Int) ≤ (ad : Int) * (bd : Int) := Int.mul_le_mul_of_nonneg_right (by omega) (by omega)
  have m3 : 0 ≤ (bn : Int) % (bd : Int) * (ad : Int) := Int.mul_nonneg r4 (by omega)
  have m4 : (bn : Int) % (bd : Int) * (ad : Int) ≤ (bd : Int) * (ad : Int) := Int.mul_le_mul_of_nonneg_right (by omega) (by omega)
  rw [Int.mul_comm (bd : Int) (ad : Int)] at m4
  have x1 : IntKind.i64.wrap ((an : Int) % (ad : Int) * (bd : Int)) = (an : Int) % (ad : Int) * (bd : Int) := IntWalk.i64_in _ (by omega)
  have x2 : IntKind.i64.wrap ((bn : Int) % (bd : Int) * (ad : Int)) = (bn : Int) % (bd : Int) * (ad : Int) := IntWalk.i64_in _ (by omega)
  clear m1 m2 m3 m4 r1 r2 r3 r4 dd ea eb
  have b1 := IntWalk.tdiv_le (an : Int) ad (by omega) da
  have b2 := IntWalk.tdiv_le (bn : Int) bd (by omega) db
  have w1 : IntKind.i64.wrap ((an : Int) / (ad : Int)) = (an : Int) / (ad : Int) := IntWalk.i64_in _ (by omega)
  have w2 : IntKind.i64.wrap ((bn : Int) / (bd : Int)) = (bn : Int) / (bd : Int) := IntWalk.i64_in _ (by omega)
  clear b1 b2
  have na : ¬ ad = 0 := by omega
  have nb : ¬ bd = 0 := by omega
  have qa : ((ad : Int) == 0) = false := by simp; omega
  have qb : ((bd : Int) == 0) = false := by simp; omega
  go_enter Try.func68, Try.ntmps68
  go_upto_region 1 with fail
  go_cut [5, 6] from 8 (fun p5 p6 wx => ∃ g5 g6 : Nat, p5 = .pointer (some ⟨g5, 0, none⟩) ∧ p6 = .pointer (some ⟨g6, 0, none⟩) ∧ wx.heap[g5]? = some (.cells #[.int .i64 (an : Int), .int .i64 ad] 29 (0, 0)) ∧ wx.heap[g6]? = some (.cells #[.int .i64 (bn : Int), .int .i64 bd] 29 (0, 0)) ∧ Below w.heap.size w wx)
  case first =>
    go_region
    all_goals go_wp2_with fail
    all_goals go_meet
    all_goals (first
      | exact ⟨_, _, rfl, rfl, heap_alloc4_old w _ _ _ _, heap_alloc4_new w _ _ _ _, below_drewN (below_alloc4 w _ _ _ _) 1⟩
      | exact ⟨_, _, rfl, rfl, heap_alloc4_new w _ _ _ _, heap_alloc4_old w _ _ _ _, below_drewN (below_alloc4 w _ _ _ _) 1⟩)
  case rest =>
    obtain ⟨g5, g6, rfl, rfl, h5, h6, hB⟩ := hcut
    obtain ⟨⟨c5, c6⟩, -, -⟩ := row_fr h5
    obtain ⟨⟨c7, c8⟩, -, -⟩ := row_fr h6
    clear h5 h6
    go_wp2
    go_quiet ((go_at_call 88; exact Calls.quiet_of_same (cmp_same _ _ _)))
    have c5' : (wc.drewN nq).cell? ⟨g5, 0, none⟩ = _ := c5
    have c6' : (wc.drewN nq).cell? ⟨g5, 1, none⟩ = _ := c6
    have c7' : (wc.drewN nq).cell? ⟨g6, 0, none⟩ = _ := c7
    have c8' : (wc.drewN nq).cell? ⟨g6, 1, none⟩ = _ := c8
    have hB2 : Below w.heap.size w (wc.drewN nq) := below_drewN hB _
    clear c5 c6 c7 c8 hB
    generalize wc.drewN nq = wd at c5' c6' c7' c8' hB2 ⊢
    by_cases h0 : cmpI ((an : Int) / (ad : Int)) ((bn : Int) / (bd : Int)) = 0
    · have hz : (cmpI ((an : Int) / (ad : Int)) ((bn : Int) / (bd : Int)) != 0) = false := by simp [h0]
      go_wp2
      go_quiet ((go_at_call 88; exact Calls.quiet_of_same (cmp_same _ _ _)))
      go_wp2
      go_ret
      exact ⟨ret_int (HH.out.2 h0), below_drewN hB2 _⟩
    · have hz : (cmpI ((an : Int) / (ad : Int)) ((bn : Int) / (bd : Int)) != 0) = true := by simp [h0]
      go_wp2
      go_ret
      exact ⟨ret_int (HH.out.1 h0), hB2⟩
end Go.Proofs.Ytkpabehjehbidaa
