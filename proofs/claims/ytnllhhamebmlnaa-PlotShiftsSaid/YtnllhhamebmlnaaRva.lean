import Derived.Test.YtnllhhamebmlnaaRrg
import Derived.Test.YtnllhhamebmlnaaVal
namespace Go.Proofs.Ytnllhhamebmlnaa
open Go.RowKit

namespace Geo
def dup (l : List (Int × Int)) (i k : Nat) : Bool := peq (px l i) (py l i) (px l k) (py l k)
def rtwice (l : List (Int × Int)) : Bool := (List.range l.length).any fun i => (List.range i).any fun k => dup l i k
def nx2 (l : List (Int × Int)) (i : Nat) : Nat := (i + 2) % l.length
def backAt (l : List (Int × Int)) (i : Nat) : Bool := back (px l (nxt l i)) (py l (nxt l i)) (px l i) (py l i) (px l (nx2 l i)) (py l (nx2 l i))
def meetAt (l : List (Int × Int)) (i k : Nat) : Bool :=
  (decide (k ≠ i) && (decide (k ≠ nxt l i) && decide (i ≠ nxt l k))) && meets (px l i) (py l i) (px l (nxt l i)) (py l (nxt l i)) (px l k) (py l k) (px l (nxt l k)) (py l (nxt l k))
def rcross (l : List (Int × Int)) : Bool := (List.range l.length).any fun i => backAt l i || (List.range l.length).any fun k => meetAt l i k
end Geo

/-- The reference's error. -/
def rvalidate (l : List (Int × Int)) : Int :=
  if l.length < 3 ∨ 10 < l.length then 3
  else if (l.all fun p => Geo.within p.1 p.2 30) = false then 1
  else if Geo.rtwice l = true then 6
  else if Geo.rcross l = true then 9
  else 0

theorem any_yes {n : Nat} {f : Nat → Bool} {k : Nat} (hk : k < n) (h : f k = true) : (List.range n).any f = true := List.any_eq_true.2 ⟨k, List.mem_range.2 hk, h⟩
theorem any_no {n : Nat} {f : Nat → Bool} (h : ∀ k, k < n → f k = false) : (List.range n).any f = false := by
  rw [List.any_eq_false]
  intro k hk
  rw [h k (List.mem_range.1 hk)]
  simp

set_option maxRecDepth 100000 in
set_option maxHeartbeats 4000000 in
theorem rvalidate_any (l : List (Int × Int)) (ao : Option Addr) (n cap : Nat) (w : World) (hp : Pts w ao l) (hln : n = l.length) (hn : n ≤ 100000) :
    Calls Try.prog 22 #[.slice ao n cap] w fun e w' => e = .returned (.int .i64 (rvalidate l)) ∧ Below w.heap.size w w' := by
  have Hn := Lib.hid hln
  by_cases ho : n < 3 ∨ 10 < n
  · have hv : rvalidate l = 3 := by unfold rvalidate; rw [if_pos (by rw [← hln]; exact ho)]
    have Hv := Lib.hid hv
    clear hv hln
    have ho' : (decide ((3 : Int) ≤ n) && decide ((n : Int) ≤ 10)) = false := by
      rw [Bool.eq_false_iff]; simp; omega
    go_enter Try.func22, Try.ntmps22
    go_wp2_with fail
    refine (rwithin_any _ _ _ _).mono ?_
    rintro e w' ⟨rfl, rfl⟩
    rw [ho']
    go_wp2_with fail
    go_ret
    exact ⟨ret_int Hv.out.symm, Below.refl _ _⟩
  · have ho1 : 3 ≤ n := by omega
    have ho2 : n ≤ 10 := by omega
    have ho' : (decide ((3 : Int) ≤ n) && decide ((n : Int) ≤ 10)) = true := by simp; omega
    have hv : rvalidate l = (if (l.all fun p => Geo.within p.1 p.2 30) = false then 1 else if Geo.rtwice l = true then 6 else if Geo.rcross l = true then 9 else 0) := by
      unfold rvalidate; rw [if_neg (by rw [← hln]; exact ho)]
    have Hv := Lib.hid hv
    clear hv hln ho
    obtain ⟨c1, hc1⟩ : ∃ c, c = (l.all fun p => Geo.within p.1 p.2 30) := ⟨_, rfl⟩
    have Hc := Lib.hid hc1
    clear hc1
    go_enter Try.func22, Try.ntmps22
    go_wp2_with fail
    refine (rwithin_any _ _ _ _).mono ?_
    rintro e w' ⟨rfl, rfl⟩
    rw [ho']
    clear ho'
    go_wp2_with fail
    refine (ranged_any l ao n cap w hp Hn.out hn).mono ?_
    rintro e w' ⟨rfl, rfl⟩
    rw [← Hc.out]
    cases c1 with
    | false =>
      go_wp2_with fail
      go_ret
      exact ⟨ret_int (by rw [Hv.out, ← Hc.out]; rfl), Below.refl _ _⟩
    | true =>
      have hS : Geo.AllSm l := allSm_of Hc.out.symm (by omega)
      obtain ⟨b, off, rfl, hbs, hc⟩ := hp.cells (by have := Hn.out; omega)
      have Hp := Lib.hid hc
      clear hc hp
      have i0 : (0 : Int) < (n : Int) := by omega
      go_wp2_with fail
      go_loopw [4] (fun i wr => ∃ k : Nat, k ≤ n ∧ i = .int .i64 k ∧ Below w.heap.size w wr ∧ Hid (∀ j, j < k → ∀ m, m < j → Geo.dup l j m = false)) (fun i _ => n - (intOf i).toNat)
      case atStart => exact ⟨0, Nat.zero_le _, rfl, Below.refl _ _, Lib.hid (fun j hj => by omega)⟩
      case round =>
        obtain ⟨i, hi, rfl, hb, hall⟩ := hrel
        by_cases hlt : i < n
        · have hi2 : (i : Int) < (n : Int) := by omega
          go_wp2_with fail
          go_loopw [5] (fun s wq => ∃ k : Nat, k ≤ i ∧ s = .int .i64 k ∧ Below w.heap.size w wq ∧ Hid (∀ m, m < k → Geo.dup l i m = false)) (fun s _ => n - (intOf s).toNat)
          case atStart => exact ⟨0, Nat.zero_le _, rfl, hb, Lib.hid (fun j hj => by omega)⟩
          case round =>
            clear hb
            obtain ⟨k, hk, rfl, hb, hin⟩ := hrel
            by_cases hlk : k < i
            · obtain ⟨a1, a2⟩ := Pts.at Hn.out Hp.out (k := i) hlt
              obtain ⟨a3, a4⟩ := Pts.at Hn.out Hp.out (k := k) (by omega)
              rw [← hb.cell (p := ⟨b, _, none⟩) hbs] at a1 a2 a3 a4
              have hki : (k : Int) < (i : Int) := by omega
              have hkn : (k : Int) < (n : Int) := by omega
              have hkn2 : k < n := by omega
              go_wp2
              have heq := run_eq_pt (Geo.px l i) (Geo.py l i) (Geo.px l k) (Geo.py l k)
              go_quiet (fail)
              clear heq
              go_wp2
              · have hq : Geo.peq (Geo.px l i) (Geo.py l i) (Geo.px l k) (Geo.py l k) = true := by assumption
                go_ret
                refine ⟨ret_int ?_, below_drewN hb _⟩
                have h6 : Geo.rtwice l = true := any_yes (k := i) (by have := Hn.out; omega) (any_yes (k := k) hlk hq)
                rw [Hv.out, ← Hc.out, h6]
                rfl
              · have hq : Geo.peq (Geo.px l i) (Geo.py l i) (Geo.px l k) (Geo.py l k) = false := by assumption
                go_roundw
                case rel =>
                  refine ⟨k + 1, by omega, by go_num, below_drewN hb _, Lib.hid (fun m hm => ?_)⟩
                  by_cases e : m = k
                  · subst e
                    exact hq
                  · exact hin.out m (by omega)
                case measure => simp [intOf]; omega
            · have hk2 : k = i := by omega
              have Hk := Lib.hid hk2
              clear hk2
              go_wp2
              go_roundw
              case rel =>
                refine ⟨i + 1, by omega, by go_num, hb, Lib.hid (fun m hm => ?_)⟩
                by_cases e : m = i
                · subst e
                  intro q hq
                  exact hin.out q (by have := Hk.out; omega)
                · exact hall.out m (by omega)
              case measure => simp [intOf]; omega
        · have h6 : Geo.rtwice l = false := any_no fun j hj => any_no fun m hm => hall.out j (by have := Hn.out; omega) m hm
          have Hv2 : rvalidate l = (if Geo.rcross l = true then 9 else 0) := by
            rw [Hv.out, ← Hc.out, h6]; rfl
          have Hv := Lib.hid Hv2
          clear Hv2 h6 Hc hall
          go_wp2_with fail
          go_loopw [6] (fun i wr => ∃ k : Nat, k ≤ n ∧ i = .int .i64 k ∧ Below w.heap.size w wr ∧ Hid (∀ j, j < k → (Geo.backAt l j = false ∧ ∀ m, m < n → Geo.meetAt l j m = false))) (fun i _ => n - (intOf i).toNat)
          case atStart => exact ⟨0, Nat.zero_le _, rfl, hb, Lib.hid (fun j hj => by omega)⟩
          case round =>
            clear hi hlt hb
            obtain ⟨i, hi, rfl, hb, hall⟩ := hrel
            by_cases hlt : i < n
            · have hi2 : (i : Int) < (n : Int) := by omega
              obtain ⟨m, hm⟩ : ∃ m, m = Geo.nxt l i := ⟨_, rfl⟩
              obtain ⟨m2, hm2⟩ : ∃ m, m = Geo.nx2 l i := ⟨_, rfl⟩
              have mn : m < n := by rw [hm, Geo.nxt, ← Hn.out]; exact Nat.mod_lt _ (by omega)
              have mn2 : m2 < n := by rw [hm2, Geo.nx2, ← Hn.out]; exact Nat.mod_lt _ (by omega)
              have e1 : IntKind.i64.wrap ((i : Int) + 1) = (i : Int) + 1 := IntWalk.i64_in _ (by omega)
              have e2 : IntKind.i64.wrap ((i : Int) + 2) = (i : Int) + 2 := IntWalk.i64_in _ (by omega)
              have e3 : ((i : Int) + 1).tmod (n : Int) = (m : Int) := by rw [hm, Geo.nxt, ← Hn.out]; rfl
              have e4 : ((i : Int) + 2).tmod (n : Int) = (m2 : Int) := by rw [hm2, Geo.nx2, ← Hn.out]; rfl
              have e5 : IntKind.i64.wrap (m : Int) = (m : Int) := IntWalk.i64_in _ (by omega)
              have e6 : IntKind.i64.wrap (m2 : Int) = (m2 : Int) := IntWalk.i64_in _ (by omega)
              have Hm := Lib.hid hm
              have Hm2 := Lib.hid hm2
              clear hm hm2
              obtain ⟨a1, a2⟩ := Pts.at Hn.out Hp.out (k := i) hlt
              obtain ⟨a3, a4⟩ := Pts.at Hn.out Hp.out (k := m) mn
              obtain ⟨a5, a6⟩ := Pts.at Hn.out Hp.out (k := m2) mn2
              rw [← hb.cell (p := ⟨b, _, none⟩) hbs] at a1 a2 a3 a4 a5 a6
              have hbr : b < wr.heap.size := Nat.lt_of_lt_of_le hbs hb.size
              have i1 : (m : Int) < (n : Int) := by omega
              have i2 : (m2 : Int) < (n : Int) := by omega
              have i3 : ¬ (n : Int) = 0 := by omega
              have i4 : ¬ n = 0 := by omega
              go_wp2_with fail
              go_region_held3 (fun w' => (∀ b o, b < wr.heap.size → w'.cell? ⟨b, o, none⟩ = wr.cell? ⟨b, o, none⟩) ∧ wr.heap.size ≤ w'.heap.size) (first | exact ⟨fun _ _ _ => rfl, Nat.le_refl _⟩ | exact held_step (by assumption) hb') (first | (go_at_call 64; refine (rback_any _ _ _ _ _ _ _ (hS.x _) (hS.y _) (hS.x _) (hS.y _) (hS.x _) (hS.y _)).mono ?_; rintro e w' ⟨rfl, hb'⟩))
              go_goals
              have hb2 : Below w.heap.size w w' := hb.drew.trans (hb'.mono hb.size)
              rename_i hHeld
              clear hHeld hb' a1 a2 a3 a4 a5 a6 hbr
              clear hb
              have hb := hb2
              clear hb2
              obtain ⟨bv, hbv⟩ : ∃ v, Geo.back (Geo.px l m) (Geo.py l m) (Geo.px l i) (Geo.py l i) (Geo.px l m2) (Geo.py l m2) = v := ⟨_, rfl⟩
              rw [hbv]
              have hq := hbv
              clear hbv
              cases bv with
              | true =>
                have Hq0 := Lib.hid hq
                clear hq
                go_wp2_with fail
                have hq := Hq0.out
                go_ret
                refine ⟨ret_int ?_, hb⟩
                rw [Hm.out, Hm2.out] at hq
                have h6 : Geo.rcross l = true := any_yes (k := i) (by have := Hn.out; omega) (by rw [show Geo.backAt l i = true from hq]; rfl)
                rw [Hv.out, h6]
                rfl
              | false =>
                rw [Hm.out, Hm2.out] at hq
                have Hq : Hid (Geo.backAt l i = false) := Lib.hid hq
                clear hq
                go_wp2_with fail
                go_loopw [7] (fun s wq => ∃ k : Nat, k ≤ n ∧ s = .int .i64 k ∧ Below w.heap.size w wq ∧ Hid (∀ q, q < k → Geo.meetAt l i q = false)) (fun s _ => n - (intOf s).toNat)
                case atStart => exact ⟨0, Nat.zero_le _, rfl, hb, Lib.hid (fun j hj => by omega)⟩
                case round =>
                  clear hb
                  obtain ⟨k, hk, rfl, hb, hin⟩ := hrel
                  by_cases hlk : k < n
                  · obtain ⟨mk, hmk⟩ : ∃ m, m = Geo.nxt l k := ⟨_, rfl⟩
                    have mkn : mk < n := by rw [hmk, Geo.nxt, ← Hn.out]; exact Nat.mod_lt _ (by omega)
                    have e7 : IntKind.i64.wrap ((k : Int) + 1) = (k : Int) + 1 := IntWalk.i64_in _ (by omega)
                    have e8 : ((k : Int) + 1).tmod (n : Int) = (mk : Int) := by rw [hmk, Geo.nxt, ← Hn.out]; rfl
                    have e9 : IntKind.i64.wrap (mk : Int) = (mk : Int) := IntWalk.i64_in _ (by omega)
                    have Hmk := Lib.hid hmk
                    clear hmk
                    have i5 : (k : Int) < (n : Int) := by omega
                    have i6 : (mk : Int) < (n : Int) := by omega
                    by_cases g1 : k = i
                    · have Hz : Hid (Geo.meetAt l i k = false) := Lib.hid (by unfold Geo.meetAt; simp [g1])
                      have G1 : ((k : Int) != (i : Int)) = false := by simp; omega
                      go_wp2_with fail
                      go_quiet (fail)
                      go_wp2
                      go_roundw
                      case rel =>
                        refine ⟨k + 1, by omega, by go_num, below_drewN hb _, Lib.hid (fun q hq => ?_)⟩
                        by_cases e : q = k
                        · subst e
                          exact Hz.out
                        · exact hin.out q (by omega)
                      case measure => simp [intOf]; omega
                    · have G1 : ((k : Int) != (i : Int)) = true := by simp; omega
                      by_cases g2 : k = m
                      · have Hz : Hid (Geo.meetAt l i k = false) := Lib.hid (by unfold Geo.meetAt; rw [← Hm.out]; simp [g2])
                        have G2 : ((k : Int) != (m : Int)) = false := by simp; omega
                        have Hg := Lib.hid g2
                        clear g2
                        go_wp2_with fail
                        go_quiet (fail)
                        go_wp2
                        go_roundw
                        case rel =>
                          refine ⟨k + 1, by omega, by go_num, below_drewN hb _, Lib.hid (fun q hq => ?_)⟩
                          by_cases e : q = k
                          · subst e
                            exact Hz.out
                          · exact hin.out q (by omega)
                        case measure => simp [intOf]; omega
                      · have G2 : ((k : Int) != (m : Int)) = true := by simp; omega
                        by_cases g3 : i = mk
                        · have Hz : Hid (Geo.meetAt l i k = false) := Lib.hid (by unfold Geo.meetAt; rw [← Hmk.out]; simp [g3])
                          have G3 : ((i : Int) != (mk : Int)) = false := by simp; omega
                          have Hg := Lib.hid g3
                          clear g3
                          go_wp2_with fail
                          go_quiet (fail)
                          go_wp2
                          go_roundw
                          case rel =>
                            refine ⟨k + 1, by omega, by go_num, below_drewN hb _, Lib.hid (fun q hq => ?_)⟩
                            by_cases e : q = k
                            · subst e
                              exact Hz.out
                            · exact hin.out q (by omega)
                          case measure => simp [intOf]; omega
                        · obtain ⟨a1, a2⟩ := Pts.at Hn.out Hp.out (k := i) hlt
                          obtain ⟨a3, a4⟩ := Pts.at Hn.out Hp.out (k := m) mn
                          obtain ⟨a5, a6⟩ := Pts.at Hn.out Hp.out (k := k) hlk
                          obtain ⟨a7, a8⟩ := Pts.at Hn.out Hp.out (k := mk) mkn
                          rw [← hb.cell (p := ⟨b, _, none⟩) hbs] at a1 a2 a3 a4 a5 a6 a7 a8
                          have hbr : b < wr.heap.size := Nat.lt_of_lt_of_le hbs hb.size
                          have G3 : ((i : Int) != (mk : Int)) = true := by simp; omega
                          go_wp2_with fail
                          go_region_held3 (fun w' => (∀ b o, b < wr.heap.size → w'.cell? ⟨b, o, none⟩ = wr.cell? ⟨b, o, none⟩) ∧ wr.heap.size ≤ w'.heap.size) (first | exact ⟨fun _ _ _ => rfl, Nat.le_refl _⟩ | exact held_step (by assumption) hb') (first | (go_at_call 65; refine (rmeet_any _ _ _ _ _ _ _ _ _ (hS.x _) (hS.y _) (hS.x _) (hS.y _) (hS.x _) (hS.y _) (hS.x _) (hS.y _)).mono ?_; rintro e w' ⟨rfl, hb'⟩))
                          go_goals
                          have hb2 : Below w.heap.size w w' := hb.drew.trans (hb'.mono hb.size)
                          have Hz : Hid (Geo.meetAt l i k = Geo.meets (Geo.px l i) (Geo.py l i) (Geo.px l m) (Geo.py l m) (Geo.px l k) (Geo.py l k) (Geo.px l mk) (Geo.py l mk)) := Lib.hid (by unfold Geo.meetAt; rw [← Hm.out, ← Hmk.out]; simp [g1, g2, g3])
                          rename_i hHeld
                          clear hHeld hb' a1 a2 a3 a4 a5 a6 a7 a8 hbr
                          go_wp2
                          · have hq : Geo.meets (Geo.px l i) (Geo.py l i) (Geo.px l m) (Geo.py l m) (Geo.px l k) (Geo.py l k) (Geo.px l mk) (Geo.py l mk) = true := by assumption
                            go_ret
                            refine ⟨ret_int ?_, hb2⟩
                            have h6 : Geo.rcross l = true := any_yes (k := i) (by have := Hn.out; omega) (by rw [any_yes (k := k) (f := fun k => Geo.meetAt l i k) (by have := Hn.out; omega) (Hz.out.trans hq)]; simp)
                            rw [Hv.out, h6]
                            rfl
                          · have hq : Geo.meets (Geo.px l i) (Geo.py l i) (Geo.px l m) (Geo.py l m) (Geo.px l k) (Geo.py l k) (Geo.px l mk) (Geo.py l mk) = false := by assumption
                            go_roundw
                            case rel =>
                              refine ⟨k + 1, by omega, by go_num, hb2, Lib.hid (fun q hqk => ?_)⟩
                              by_cases e : q = k
                              · rw [e]
                                exact Hz.out.trans hq
                              · exact hin.out q (by omega)
                            case measure => simp [intOf]; omega
                  · have hk2 : k = n := by omega
                    have Hk := Lib.hid hk2
                    clear hk2
                    go_wp2
                    go_roundw
                    case rel =>
                      refine ⟨i + 1, by omega, by go_num, hb, Lib.hid (fun j hj => ?_)⟩
                      by_cases e : j = i
                      · subst e
                        exact ⟨Hq.out, fun q hq => hin.out q (by have := Hk.out; omega)⟩
                      · exact hall.out j (by omega)
                    case measure => simp [intOf]; omega
            · have h6 : Geo.rcross l = false := any_no fun j hj => by
                have h := hall.out j (by have := Hn.out; omega)
                rw [h.1, any_no fun q hq => h.2 q (by have := Hn.out; omega)]
                rfl
              have hv3 : rvalidate l = 0 := by rw [Hv.out, h6]; rfl
              have Hv3 := Lib.hid hv3
              clear hv3 h6 hall
              go_wp2
              go_ret
              exact ⟨ret_int Hv3.out.symm, hb⟩
end Go.Proofs.Ytnllhhamebmlnaa
