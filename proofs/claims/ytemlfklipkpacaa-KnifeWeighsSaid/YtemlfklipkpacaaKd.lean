import Derived.Test.YtemlfklipkpacaaKc
/- What package knife reckons over the strips of a land: its length, all of it, the worth between two places. -/
namespace Go.Proofs.Ytemlfklipkpacaa
open Go.RowKit

theorem tot_take {l : List (Int × Int)} {k : Nat} (hk : k < l.length) : Fl.tot (l.take (k + 1)) = Fl.tot (l.take k) + (l.getD k (0, 0)).1 * (l.getD k (0, 0)).2 := by
  induction l generalizing k with
  | nil => simp at hk
  | cons z r ih =>
    cases k with
    | zero => simp [Fl.tot]
    | succ k =>
      have := ih (k := k) (by simpa using hk)
      simp only [List.take_succ_cons, Fl.tot, List.getD_cons_succ]
      omega
theorem tot_take_bound {l : List (Int × Int)} (h : Fl.Ok l) (h6 : l.length ≤ 6) (k : Nat) : 0 ≤ Fl.tot (l.take k) ∧ Fl.tot (l.take k) ≤ 2400 := by
  have := Fl.tot_bound (ok_take h k)
  have h2 : (l.take k).length ≤ l.length := by simp; omega
  omega

set_option maxRecDepth 100000 in
set_option maxHeartbeats 2000000 in
theorem kall_any (z : List (Int × Int)) (ao : Option Addr) (n cap : Nat) (w : World) (hp : Lnd w ao (Fl.strips 0 z)) (hn : n = z.length) (hok : Fl.Ok z) (h6 : z.length ≤ 6) :
    Calls Try.prog 149 #[.slice ao n cap] w fun e w' => e = .returned (.int .i64 (Fl.tot z)) ∧ Below w.heap.size w w' := by
  have Hn := Lib.hid hn
  have hn6 : n ≤ 6 := by omega
  clear hn
  go_enter Try.func149, Try.ntmps149
  go_wp2
  go_loopw [3, 8] (fun sm i wr => ∃ k : Nat, k ≤ n ∧ i = .int .i64 k ∧ sm = .int .i64 (Fl.tot (z.take k)) ∧ Below w.heap.size w wr) (fun _ i _ => n - (intOf i).toNat)
  case atStart => exact ⟨0, Nat.zero_le _, rfl, rfl, Below.refl _ _⟩
  case round =>
    obtain ⟨k, hk, rfl, rfl, hb⟩ := hrel
    by_cases hlt : k < n
    · have hkl : k < z.length := by have := Hn.out; omega
      obtain ⟨b, off, rfl, hbs, z0, z1, z2⟩ := hp.at hkl
      have hst := Lib.hid (tot_take hkl)
      have b1 := len_take_bound hok h6 k
      have b2 := ok_at hok hkl
      have b3 := tot_take_bound hok h6 k
      clear hp
      rw [← hb.cell (p := ⟨b, _, none⟩) hbs] at z0 z1 z2
      have i1 : (k : Int) < (n : Int) := by omega
      obtain ⟨A, hA⟩ : ∃ x, x = Fl.len (z.take k) := ⟨_, rfl⟩
      obtain ⟨S, hS⟩ : ∃ x, x = Fl.tot (z.take k) := ⟨_, rfl⟩
      obtain ⟨x, hx⟩ : ∃ x, x = (z.getD k (0, 0)).1 := ⟨_, rfl⟩
      obtain ⟨y, hy⟩ : ∃ y, y = (z.getD k (0, 0)).2 := ⟨_, rfl⟩
      rw [← hx] at z1 hst b2
      rw [← hy] at z2 hst b2
      rw [← hA] at z0 z1 b1
      rw [← hS] at hst b3 ⊢
      clear hx hy hA hS
      obtain ⟨T, hT⟩ : ∃ t, t = A + x := ⟨_, rfl⟩
      rw [← hT] at z1
      have m0 : 0 ≤ x * y := Int.mul_nonneg (by omega) (by omega)
      have m1 : x * y ≤ 20 * 20 := Int.mul_le_mul (by omega) (by omega) (by omega) (by omega)
      have e1 : IntKind.i64.wrap (T - A) = x := by rw [show T - A = x by omega]; exact IntWalk.i64_in _ (by omega)
      have e2 : IntKind.i64.wrap (x * y) = x * y := IntWalk.i64_in _ (by omega)
      have e3 : IntKind.i64.wrap (S + x * y) = S + x * y := IntWalk.i64_in _ (by omega)
      have hBa : Below w.heap.size w (wr.alloc (.cells #[.int .i64 A, .int .i64 T, .int .i64 y] 172)) := hb.alloc hb.size _
      clear hT m0 m1
      go_wp2
      go_roundw
      case rel => exact ⟨k + 1, by omega, by go_num, by rw [hst.out], hBa⟩
      case measure => simp [intOf]; omega
    · have hk2 : k = n := by omega
      have Hk := Lib.hid hk2
      clear hk2
      go_wp2
      go_ret
      refine ⟨ret_int ?_, hb⟩
      rw [Hk.out, Hn.out, List.take_length]

theorem sumI_takeB {L : List Int} (h : ∀ x ∈ L, 1 ≤ x ∧ x ≤ 20) (h6 : L.length ≤ 6) (k : Nat) : 0 ≤ Fl.sumI (L.take k) ∧ Fl.sumI (L.take k) ≤ 120 := by
  have := Fl.sumI_bound (l := L.take k) (fun v hv => by have := h v (List.mem_of_mem_take hv); omega)
  have h2 : (L.take k).length ≤ L.length := by simp; omega
  omega
theorem int_at {L : List Int} {p : Int → Prop} (h : ∀ x ∈ L, p x) {k : Nat} (hk : k < L.length) : p (L.getD k 0) := by
  rw [List.getD_eq_getElem?_getD, List.getElem?_eq_getElem hk]
  exact h _ (List.getElem_mem hk)

set_option maxRecDepth 100000 in
set_option maxHeartbeats 2000000 in
theorem klength_any (L : List Int) (aoL : Option Addr) (nL cL : Nat) (v : Value) (aoV : Option Addr) (nV cV : Nat) (hv : v = .slice aoV nV cV) (w : World) (hL : Ints w aoL L) (hn : nL = L.length) (hok : ∀ x ∈ L, 1 ≤ x ∧ x ≤ 20) (h6 : L.length ≤ 6) :
    Calls Try.prog 125 #[.agg #[.slice aoL nL cL, v]] w fun e w' => e = .returned (.int .i64 (Kn.stop L)) ∧ Below w.heap.size w w' := by
  subst hv
  have Hn := Lib.hid hn
  have hn6 : nL ≤ 6 := by omega
  clear hn
  have hA := (Below.refl _ w).alloc (Nat.le_refl _) (.cells #[.slice aoL nL cL, .slice aoV nV cV] 57)
  have r0 := heap_alloc_new w (.cells #[.slice aoL nL cL, .slice aoV nV cV] 57)
  replace hL := hL.below hA
  go_enter Try.func125, Try.ntmps125
  go_upto_region 1 with fail
  generalize w.alloc (.cells #[.slice aoL nL cL, .slice aoV nV cV] 57) = W at r0 hA hL ⊢
  obtain ⟨⟨c0, c1⟩, -, -⟩ := row_fr r0
  go_wp2
  go_loopw [3, 9] (fun sm i wr => ∃ k : Nat, k ≤ nL ∧ i = .int .i64 k ∧ sm = .int .i64 (Fl.sumI (L.take k)) ∧ Below W.heap.size W wr) (fun _ i _ => nL - (intOf i).toNat)
  case atStart => exact ⟨0, Nat.zero_le _, rfl, rfl, Below.refl _ _⟩
  case round =>
    obtain ⟨k, hk, rfl, rfl, hb⟩ := hrel
    by_cases hlt : k < nL
    · have hkl : k < L.length := by have := Hn.out; omega
      obtain ⟨b, off, rfl, hbs, z0⟩ := hL.at hkl
      have hst := Lib.hid (Fl.sumI_take hkl)
      have b1 := sumI_takeB hok h6 k
      have b2 := int_at hok hkl
      clear hL c0 c1 r0
      rw [← hb.cell (p := ⟨b, _, none⟩) hbs] at z0
      have i1 : (k : Int) < (nL : Int) := by omega
      obtain ⟨A, hA⟩ : ∃ x, x = Fl.sumI (L.take k) := ⟨_, rfl⟩
      obtain ⟨x, hx⟩ : ∃ x, x = L.getD k 0 := ⟨_, rfl⟩
      rw [← hx] at z0 hst b2
      rw [← hA] at b1 hst ⊢
      clear hx hA
      go_wp2
      go_roundw
      case rel => exact ⟨k + 1, by omega, by go_num, by rw [hst.out], hb⟩
      case measure => simp [intOf]; omega
    · have hk2 : k = nL := by omega
      have Hk := Lib.hid hk2
      clear hk2
      go_wp2
      go_ret
      refine ⟨ret_int ?_, hA.trans (hb.mono hA.size)⟩
      rw [Hk.out, Hn.out, List.take_length]
      rfl
end Go.Proofs.Ytemlfklipkpacaa
