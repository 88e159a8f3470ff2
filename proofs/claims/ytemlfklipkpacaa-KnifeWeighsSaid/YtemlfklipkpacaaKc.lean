import Derived.Test.YtemlfklipkpacaaKb
import Derived.Test.YtemlfklipkpacaaKm
import Derived.Test.YtemlfklipkpacaaKt
/- A field as an owner of package knife values it: the strips of the land. -/
namespace Go.Proofs.Ytemlfklipkpacaa
open Go.RowKit

/-- Zones with lengths as in a field and values up to a bound. -/
def OkW (V : Int) (z : List (Int × Int)) : Prop := ∀ x ∈ z, 1 ≤ x.1 ∧ x.1 ≤ 20 ∧ 0 ≤ x.2 ∧ x.2 ≤ V
theorem OkW.at {V : Int} {z : List (Int × Int)} (h : OkW V z) {k : Nat} (hk : k < z.length) : 1 ≤ (z.getD k (0, 0)).1 ∧ (z.getD k (0, 0)).1 ≤ 20 ∧ 0 ≤ (z.getD k (0, 0)).2 ∧ (z.getD k (0, 0)).2 ≤ V := by
  rw [List.getD_eq_getElem?_getD, List.getElem?_eq_getElem hk]
  exact h _ (List.getElem_mem hk)
theorem OkW.of {z : List (Int × Int)} (h : Fl.Ok z) : OkW 20 z := h
theorem OkW.len {V : Int} {z : List (Int × Int)} (h : OkW V z) : (z.length : Int) ≤ Fl.len z ∧ Fl.len z ≤ 20 * z.length := by
  induction z with
  | nil => simp [Fl.len]
  | cons x r ih =>
    have h1 := h x (by simp)
    have h2 := ih (fun y hy => h y (by simp [hy]))
    simp only [Fl.len, List.length_cons]
    omega
theorem OkW.take {V : Int} {z : List (Int × Int)} (h : OkW V z) (k : Nat) : OkW V (z.take k) := fun x hx => h x (List.mem_of_mem_take hx)
theorem OkW.lenB {V : Int} {z : List (Int × Int)} (h : OkW V z) (h6 : z.length ≤ 6) (k : Nat) : 0 ≤ Fl.len (z.take k) ∧ Fl.len (z.take k) ≤ 120 := by
  have := (h.take k).len
  have h2 : (z.take k).length ≤ z.length := by simp; omega
  omega
theorem fst_at {z : List (Int × Int)} {k : Nat} (hk : k < z.length) : (z.map Prod.fst).getD k 0 = (z.getD k (0, 0)).1 := by
  simp [List.getD_eq_getElem?_getD, hk]
theorem snd_at {z : List (Int × Int)} {k : Nat} (hk : k < z.length) : (z.map Prod.snd).getD k 0 = (z.getD k (0, 0)).2 := by
  simp [List.getD_eq_getElem?_getD, hk]

set_option maxRecDepth 100000 in
set_option maxHeartbeats 2000000 in
theorem klandOf_any (V : Int) (z : List (Int × Int)) (aoL aoR : Option Addr) (n cL m cR : Nat) (w : World) (hL : Ints w aoL (z.map Prod.fst)) (hR : Ints w aoR (z.map Prod.snd)) (hn : n = z.length) (hm : m = z.length) (hok : OkW V z) (h6 : z.length ≤ 6) :
    Calls Try.prog 148 #[.slice aoL n cL, .slice aoR m cR] w fun e w' => ∃ v, e = .returned v ∧ w'.ownsRow w.heap.size 172 3 v z.length (flat3 (Fl.strips 0 z)) ∧ Below w.heap.size w w' := by
  have Hn := Lib.hid hn
  have hmn : m = n := by omega
  subst hmn
  have hn6 : m ≤ 6 := by omega
  obtain ⟨i0, hi0, hz0, hz1, hz2⟩ := kinfo_sp
  clear hn hm
  go_enter Try.func148, Try.ntmps148
  go_wp2
  go_loopw [5, 6, 11] (fun v a i wr => ∃ k : Nat, k ≤ m ∧ i = .int .i64 k ∧ a = .int .i64 (Fl.len (z.take k)) ∧ Hid (wr.ownsRow w.heap.size 172 3 v k (flat3 ((Fl.strips 0 z).take k))) ∧ Below w.heap.size w wr) (fun _ _ i _ => m - (intOf i).toNat)
  case atStart => exact ⟨0, Nat.zero_le _, rfl, rfl, Lib.hid ⟨rfl, .inl ⟨rfl, rfl⟩⟩, Below.refl _ _⟩
  case round =>
    obtain ⟨k, hk, rfl, rfl, hown, hb⟩ := hrel
    by_cases hlt : k < m
    · have hkl : k < z.length := by have := Hn.out; omega
      obtain ⟨b, off, rfl, hbs, hc1⟩ := hL.at (k := k) (by simpa using hkl)
      obtain ⟨b', off', rfl, hbs', hc2⟩ := hR.at (k := k) (by simpa using hkl)
      rw [fst_at hkl] at hc1
      rw [snd_at hkl] at hc2
      have hst := Lib.hid (len_take hkl)
      have hsp := Lib.hid (strips_take (s := 0) hkl)
      have b1 := hok.lenB h6 k
      have b2 := hok.at hkl
      clear hL hR
      rw [← hb.cell (p := ⟨b, _, none⟩) hbs] at hc1
      rw [← hb.cell (p := ⟨b', _, none⟩) hbs'] at hc2
      have i1 : (k : Int) < (m : Int) := by omega
      obtain ⟨A, hA⟩ : ∃ x, x = Fl.len (z.take k) := ⟨_, rfl⟩
      obtain ⟨x, hx⟩ : ∃ x, x = (z.getD k (0, 0)).1 := ⟨_, rfl⟩
      obtain ⟨y, hy⟩ : ∃ y, y = (z.getD k (0, 0)).2 := ⟨_, rfl⟩
      rw [← hx] at hc1 hst b2 hsp
      rw [← hy] at hc2 b2 hsp
      rw [← hA] at hst b1 hsp ⊢
      clear hx hy hA
      have hs := hb.size
      go_wp2_with (first | (at_builtin; refine wpList_append_own _ rfl _ _ 121 rfl w.heap.size 172 i0 (.agg #[.int .i64 0, .int .i64 0, .int .i64 0]) 3 24 Try.underlying121 hi0 hz0 hz1 hz2 rfl (by decide) _ k _ rfl (hown.out.alloc _) ⟨wr.heap.size, 0, none⟩ 1 1 [.int .i64 A, .int .i64 (A + x), .int .i64 y] rfl rfl (World.news_of_block (cs := #[.int .i64 A, .int .i64 (A + x), .int .i64 y]) (t := 172) (fr := (0, 0)) (heap_alloc_new wr _)) (by simp [Value.oneCell']) (by unfold maxLen; omega) (by omega) (by simp; try omega) ?_; intro v' w3 hown3 hgrow3 hnil3; have hb5 : Below w.heap.size w w3 := (hb.alloc hs _).grown hgrow3 (by simp; omega) (fun q hq => (hown.out.lt _ hq).1); clear hgrow3 hnil3))
      go_roundw
      case rel =>
        refine ⟨k + 1, by omega, by go_num, by rw [hst.out], Lib.hid ?_, hb5⟩
        rw [hsp.out, flat3_app, Int.zero_add]
        exact hown3
      case measure => simp [intOf]; omega
    · have hk2 : k = m := by omega
      have Hk := Lib.hid hk2
      clear hk2
      go_wp2
      go_ret
      refine ⟨_, rfl, ?_, hb⟩
      have := hown.out
      rw [Hk.out, Hn.out, ← strips_length 0 z, List.take_length] at this
      rw [← strips_length 0 z]
      exact this

/-- A slice of strips: where it begins, and what its cells hold. -/
structure Lnd (w : World) (ao : Option Addr) (S : List (Int × Int × Int)) : Prop where
  cells : 0 < S.length → ∃ b off, ao = some ⟨b, off, none⟩ ∧ b < w.heap.size ∧ ∀ j u, (flat3 S)[j]? = some u → w.cell? ⟨b, off + j, none⟩ = some u
theorem Lnd.below {w w' : World} {ao : Option Addr} {S : List (Int × Int × Int)} (h : Lnd w ao S) (hb : Below w.heap.size w w') : Lnd w' ao S := by
  refine ⟨fun h0 => ?_⟩
  obtain ⟨b, off, rfl, hlt, hc⟩ := h.cells h0
  have hs := hb.size
  exact ⟨b, off, rfl, by omega, fun j u hj => (hb.cell (p := ⟨b, _, none⟩) hlt).trans (hc j u hj)⟩
theorem own_lnd {w : World} {base n : Nat} {v : Value} {S : List (Int × Int × Int)} (h : w.ownsRow base 172 3 v n (flat3 S)) (hn : n = S.length) :
    ∃ ao cap, v = .slice ao n cap ∧ Lnd w ao S := by
  by_cases h0 : 0 < n
  · obtain ⟨g, cap, rfl, hb, hlt, hnc, hc⟩ := own_cells h h0
    refine ⟨_, cap, rfl, ⟨fun _ => ⟨g, 0, rfl, hlt, fun j u hj => ?_⟩⟩⟩
    rw [Nat.zero_add]
    exact hc j u hj
  · obtain ⟨-, h | h⟩ := h
    · exact ⟨none, 0, by rw [h.1]; congr 1; omega, ⟨fun h1 => by omega⟩⟩
    · obtain ⟨g, cap, cur, rfl, -⟩ := h
      exact ⟨_, _, rfl, ⟨fun h1 => by omega⟩⟩
theorem Lnd.at {w : World} {ao : Option Addr} {z : List (Int × Int)} (h : Lnd w ao (Fl.strips 0 z)) {k : Nat} (hk : k < z.length) :
    ∃ b off, ao = some ⟨b, off, none⟩ ∧ b < w.heap.size ∧ w.cell? ⟨b, off + k * 3, none⟩ = some (.int .i64 (Fl.len (z.take k))) ∧ w.cell? ⟨b, off + k * 3 + 1, none⟩ = some (.int .i64 (Fl.len (z.take k) + (z.getD k (0, 0)).1)) ∧ w.cell? ⟨b, off + k * 3 + 2, none⟩ = some (.int .i64 (z.getD k (0, 0)).2) := by
  have hks : k < (Fl.strips 0 z).length := by rw [strips_length]; exact hk
  obtain ⟨b, off, h1, h2, h3⟩ := h.cells (by omega)
  obtain ⟨q0, q1, q2⟩ := flat3_at hks
  have z0 := h3 _ _ q0
  have z1 := h3 _ _ q1
  have z2 := h3 _ _ q2
  rw [strips_at hk, Int.zero_add] at z0 z1 z2
  exact ⟨b, off, h1, h2, by simpa using z0, by simpa [Nat.add_assoc] using z1, by simpa [Nat.add_assoc] using z2⟩
end Go.Proofs.Ytemlfklipkpacaa
