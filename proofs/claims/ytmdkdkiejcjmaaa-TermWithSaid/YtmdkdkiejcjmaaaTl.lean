import Derived.Test.YtmdkdkiejcjmaaaTk
/- Package selionlaw08: known. -/
namespace Go.Proofs.Ytmdkdkiejcjmaaa
open Go.RowKit
def vflat (l : List (Int × Bool)) : List Value := l.flatMap fun x => [.int .i64 x.1, .bool x.2]
theorem vflat_at {L : List (Int × Bool)} {k : Nat} (hk : k < L.length) :
    (vflat L)[k * 2]? = some (.int .i64 L[k].1) ∧ (vflat L)[k * 2 + 1]? = some (.bool L[k].2) := by
  induction L generalizing k with
  | nil => simp at hk
  | cons x r ih =>
    cases k with
    | zero => simp [vflat]
    | succ k =>
      have := ih (k := k) (by simpa using hk)
      simp only [vflat, List.flatMap_cons] at this ⊢
      rw [show (k + 1) * 2 = (k * 2) + 2 by omega]
      simpa using this
theorem vflat_length (L : List (Int × Bool)) : (vflat L).length = L.length * 2 := by
  induction L with
  | nil => rfl
  | cons x r ih => simp only [vflat, List.flatMap_cons, List.length_append, List.length_cons, List.length_nil] at ih ⊢; omega
theorem vts_lit {w : World} {g : Nat} {cs : Array Value} {t : TypeId} {fr : Nat × Nat} (l : List (Int × Bool)) (h : w.heap[g]? = some (.cells cs t fr)) (hc : cs = (vflat l).toArray) : Vts w (some ⟨g, 0, none⟩) l := by
  subst hc
  refine ⟨fun _ => ⟨g, 0, rfl, heap_lt h, fun i hi => ?_⟩⟩
  have hf := vflat_at hi
  rw [Nat.zero_add, cell_of_row w g _ _ _ _ h, cell_of_row w g _ _ _ _ h, List.getD_eq_getElem?_getD, List.getElem?_eq_getElem hi]
  simp only [List.getElem?_toArray, Option.getD_some]
  exact hf
theorem pts_lit {w : World} {g : Nat} {cs : Array Value} {t : TypeId} {fr : Nat × Nat} (l : List (Int × Int)) (h : w.heap[g]? = some (.cells cs t fr)) (hc : cs = (flat2 l).toArray) : Pts w (some ⟨g, 0, none⟩) l := by
  subst hc
  refine ⟨fun _ => ⟨g, 0, rfl, heap_lt h, fun i hi => ?_⟩⟩
  have hf := flat2_at hi
  rw [Nat.zero_add, cell_of_row w g _ _ _ _ h, cell_of_row w g _ _ _ _ h, List.getD_eq_getElem?_getD, List.getElem?_eq_getElem hi]
  simp only [List.getElem?_toArray, Option.getD_some]
  exact hf
theorem two_objs (w : World) (A B : Obj) : ((w.alloc A).alloc B).heap[w.heap.size]? = some A ∧ ((w.alloc A).alloc B).heap[w.heap.size + 1]? = some B := ⟨heap_alloc2_old w A B, heap_alloc2_new w A B⟩
theorem ints_none (w : World) (ao : Option Addr) : Ints w ao [] := ⟨fun h => absurd h (by simp)⟩
theorem pts_none (w : World) (ao : Option Addr) : Pts w ao [] := ⟨fun h => absurd h (by simp)⟩
namespace Tm
theorem known1 {x : Nat} (h : Ends (count [(2, 4)]) (work 0 []) (0 : Int).toNat (3 : Int).toNat x) : x = 7 :=
  h.unique ⟨6, .inr ⟨by decide, ⟨by decide, by decide +kernel, by decide +kernel⟩⟩, ⟨by decide, by decide +kernel, by decide +kernel⟩⟩
theorem known2 {x : Nat} (h : Ends (count []) (work 0 []) (0 : Int).toNat (5 : Int).toNat x) : x = 5 :=
  h.unique ⟨5, .inr ⟨by decide, ⟨by decide, by decide +kernel, by decide +kernel⟩⟩, ⟨by decide, by decide +kernel, by decide +kernel⟩⟩
theorem code1 : tcode 0 [] [(2, 4)] 0 [3] = 0 := by decide +kernel
theorem code2 : tcode 0 [] [] 0 [5] = 0 := by decide +kernel
end Tm
namespace Ve
theorem code3 : code [(10, true), (3, false), (3, true)] = 0 := by decide +kernel
theorem ph3 : ph [(10, true), (3, false), (3, true)] = true := by decide +kernel
theorem pl3 : pl [(10, true), (3, false), (3, true)] = true := by decide +kernel
end Ve

set_option maxRecDepth 100000 in
set_option maxHeartbeats 4000000 in
theorem tknown_any (w : World) : Calls Try.prog 18 #[] w fun e w' => e = .returned (.bool true) ∧ Below w.heap.size w w' := by
  have hA := below_alloc2 w (.cells #[.int .i64 2, .int .i64 4] 64) (.cells #[.int .i64 0, .slice none 0 0, .slice (some ⟨w.heap.size, 0, none⟩) 1 1] 25)
  obtain ⟨e1, e2⟩ := two_objs w (.cells #[.int .i64 2, .int .i64 4] 64) (.cells #[.int .i64 0, .slice none 0 0, .slice (some ⟨w.heap.size, 0, none⟩) 1 1] 25)
  go_enter Try.func18, Try.ntmps18
  go_upto_region 2 with fail
  generalize (w.alloc (.cells #[.int .i64 2, .int .i64 4] 64)).alloc (.cells #[.int .i64 0, .slice none 0 0, .slice (some ⟨w.heap.size, 0, none⟩) 1 1] 25) = W0 at hA e1 e2 ⊢
  obtain ⟨G, hG⟩ : ∃ g, g = w.heap.size := ⟨_, rfl⟩
  rw [← hG] at e1 e2 ⊢
  clear hG
  have hcl : Cl W0 none 0 (some ⟨G, 0, none⟩) 1 [] [(2, 4)] := ⟨ints_none _ _, pts_lit [(2, 4)] e1 rfl, rfl, rfl⟩
  have c0 := cell_of_row W0 (G + 1) 0 _ _ _ e2
  have c1 := cell_of_row W0 (G + 1) 1 _ _ _ e2
  have c2 := cell_of_row W0 (G + 1) 2 _ _ _ e2
  simp at c0 c1 c2
  have hE := Ends_any 0 [] [(2, 4)] none 0 0 (some ⟨G, 0, none⟩) 1 1 0 3 W0 hcl (by omega) (by omega)
  rw [Tm.code1] at hE
  clear e1 e2 hcl
  go_wp2_with fail
  refine hE.mono ?_
  clear hE c0 c1 c2
  rintro e w1 ⟨⟨x, rfl, hx⟩, hbb⟩
  replace hA := hA.trans (hbb.mono hA.size)
  clear hbb
  obtain rfl : x = 7 := by
    rcases hx with ⟨-, h, -⟩ | ⟨h, -⟩
    · exact Tm.known1 h
    · exact absurd rfl h
  clear hx
  have hcl : Cl w1 none 0 none 0 [] [] := ⟨ints_none _ _, pts_none _ _, rfl, rfl⟩
  have hE := Ends_any 0 [] [] none 0 0 none 0 0 0 5 w1 hcl (by omega) (by omega)
  rw [Tm.code2] at hE
  clear hcl
  go_wp2_with fail
  refine hE.mono ?_
  clear hE
  rintro e w2 ⟨⟨x, rfl, hx⟩, hbb⟩
  replace hA := hA.trans (hbb.mono hA.size)
  clear hbb
  obtain rfl : x = 5 := by
    rcases hx with ⟨-, h, -⟩ | ⟨h, -⟩
    · exact Tm.known2 h
    · exact absurd rfl h
  clear hx
  go_wp2_with fail
  have r0 := heap_alloc_new w2 (.cells #[.int .i64 10, .bool true, .int .i64 3, .bool false, .int .i64 3, .bool true] 59)
  have hal := (Below.refl w2.heap.size w2).alloc (Nat.le_refl _) (.cells #[.int .i64 10, .bool true, .int .i64 3, .bool false, .int .i64 3, .bool true] 59)
  replace hA := hA.trans (hal.mono hA.size)
  have hP := Passes_any [(10, true), (3, false), (3, true)] (some ⟨w2.heap.size, 0, none⟩) 3 3 _ (vts_lit _ r0 rfl) rfl (by omega)
  rw [Ve.code3, Ve.ph3, Ve.pl3] at hP
  clear r0 hal
  refine hP.mono ?_
  clear hP
  rintro e w3 ⟨rfl, hbb⟩
  replace hA := hA.trans (hbb.mono hA.size)
  clear hbb
  go_wp2_with fail
  go_ret
  exact ⟨rfl, hA⟩
end Go.Proofs.Ytmdkdkiejcjmaaa
