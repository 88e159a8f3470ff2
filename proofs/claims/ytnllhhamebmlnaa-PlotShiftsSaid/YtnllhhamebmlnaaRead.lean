import Derived.Test.YtnllhhamebmlnaaVal
namespace Go.Proofs.Ytnllhhamebmlnaa
open Go.RowKit

/-- The row that read hands back. -/
def readRow (l : List (Int × Int)) : Array Value := if validate l = 0 then (ringCells l).toArray else z21 0

theorem validate_len {l : List (Int × Int)} (h : validate l = 0) : 3 ≤ l.length ∧ l.length ≤ 10 := by
  unfold validate at h
  split at h
  · omega
  · omega
theorem validate_sm {l : List (Int × Int)} (h : validate l = 0) : (l.all fun p => Geo.within p.1 p.2 30) = true := by
  unfold validate at h
  split at h
  · omega
  · split at h
    · omega
    · rename_i h2; simpa using h2

theorem readRow_ok {l : List (Int × Int)} (h : validate l = 0) : readRow l = (ringCells l).toArray := by unfold readRow; rw [if_pos h]
theorem readRow_no {l : List (Int × Int)} (h : validate l ≠ 0) : readRow l = z21 0 := by unfold readRow; rw [if_neg h]

theorem results_cell_tmp {P : Program} {fn : Func} {p q : Tmp} {ty : TypeId} (h : fn.results = #[.cell p ty, .tmp q]) (tmps : Array Value) (w : World) (g : Nat) (t : TypeId) (cs : Array Value) (fr : Nat × Nat) (d : TypeDesc)
    (hp : tmps.getD p undef = .pointer (some ⟨g, 0, none⟩)) (hg : w.heap[g]? = some (.cells cs t fr))
    (hu : P.underlying ty = some d) (hd : (match d with | .struct _ | .array _ _ => true | _ => false) = true) (hi : (P.info? ty).map (·.size) = some cs.size) :
    (results fn tmps).run P w = .ok (.tuple #[.agg cs, tmps.getD q undef]) w := by
  have hp' : tmps[p]?.getD undef = .pointer (some ⟨g, 0, none⟩) := by simpa using hp
  simp [results, h, hp', asAddr, run_loadVar_row w g t ty cs fr d hg hu hd hi]

set_option maxRecDepth 100000 in
set_option maxHeartbeats 1000000 in
theorem read_any (l : List (Int × Int)) (ao : Option Addr) (n cap : Nat) (w : World) (hp : Pts w ao l) (hln : n = l.length) (hn : n ≤ 100000) (hcap : n ≤ cap) :
    Calls Try.prog 54 #[.slice ao n cap] w fun e w' => e = .returned (.tuple #[.agg (readRow l), .int .i64 (validate l)]) ∧ Below w.heap.size w w' := by
  have Hn := Lib.hid hln
  clear hln
  have hp1 := hp.below ((Below.refl _ _).alloc (Nat.le_refl _) (.cells (z21 0) 51))
  have hg1 := heap_alloc_new w (.cells (z21 0) 51)
  have Hg1 := Lib.hid hg1
  clear hg1
  have hbu : (Try.prog.built 51 []).isSome = true := by kernel_rfl
  have hbv : (Try.prog.built 51 []).getD #[] = z21 0 := by kernel_rfl
  obtain ⟨c, hc⟩ : ∃ c, c = validate l := ⟨_, rfl⟩
  have Hc := Lib.hid hc
  clear hc
  by_cases h0 : c = 0
  · subst h0
    have hlen := validate_len Hc.out.symm
    have HR := Lib.hid (readRow_ok Hc.out.symm)
    have hsz : (Try.prog.info? 51).map (·.size) = some (ringCells l).toArray.size := by
      rw [Try.infoRing]
      simp [ringCells_length (l := l) (by omega)]
    have Hsz := Lib.hid hsz
    clear hsz
    have n1 : 1 ≤ n := by rw [Hn.out]; omega
    have n2 : n ≤ 10 := by rw [Hn.out]; omega
    clear hlen
    go_enter Try.func54, Try.ntmps54
    go_wp2_with fail
    refine (validate_any l ao n cap _ hp1 Hn.out hn hcap).mono ?_
    rintro e w1 ⟨rfl, hb1⟩
    rw [← Hc.out]
    go_wp2_with fail
    refine (ringOf_any l ao n cap w1 (hp1.below hb1) Hn.out n2 n1).mono ?_
    rintro e w2 ⟨rfl, hb2⟩
    have hb2' := hb1.trans (hb2.mono hb1.size)
    have hZ : w2.heap[w.heap.size]? = some (.cells (z21 0) 51 (0, 0)) := (hb2'.block _ (by simp)).trans Hg1.out
    have HZ := Lib.hid hZ
    clear hZ
    go_wp2_with (refine wpList_store_row_b rfl _ _ _ rfl _ (ringCells l).toArray rfl rfl _ _ HZ.out Hsz.out (by rw [z21_size]; simp [ringCells_length (l := l) (by rw [← Hn.out]; exact n2)]) (ringCells_one l) ?_; intro w4 hw4 hb4 hs4)
    refine bodyPost_ret (results_cell_tmp rfl _ _ _ _ _ _ _ rfl hw4 Try.underlying51 rfl Hsz.out) rfl ⟨?_, ?_⟩
    · rw [HR.out, ← Hc.out]; rfl
    · exact (((Below.refl _ w).alloc (Nat.le_refl _) _).trans (hb2'.mono (by simp))).trans hb4
  · have hc0 : (c == 0) = false := by simp [h0]
    have hc1 : (c != 0) = true := by simp [h0]
    have HR := Lib.hid (readRow_no (l := l) (by rw [← Hc.out]; exact h0))
    go_enter Try.func54, Try.ntmps54
    go_wp2_with fail
    refine (validate_any l ao n cap _ hp1 Hn.out hn hcap).mono ?_
    rintro e w1 ⟨rfl, hb1⟩
    rw [← Hc.out]
    have hZ : w1.heap[w.heap.size]? = some (.cells (z21 0) 51 (0, 0)) := (hb1.block _ (by simp)).trans Hg1.out
    have HZ := Lib.hid hZ
    clear hZ
    go_wp2_with (first | (refine wpList_build rfl _ _ rfl hbu ?_; simp only [List.map_toArray, List.map_cons, List.map_nil, Act.eval, hbv]) | (refine wpList_store_row_b rfl _ _ _ rfl _ (z21 0) rfl rfl _ _ HZ.out Try.infoRing rfl (z21_one _) ?_; intro w4 hw4 hb4 hs4))
    refine bodyPost_ret (results_cell_tmp rfl _ _ _ _ _ _ _ rfl hw4 Try.underlying51 rfl Try.infoRing) rfl ⟨?_, ?_⟩
    · rw [HR.out, ← Hc.out]; rfl
    · exact (((Below.refl _ w).alloc (Nat.le_refl _) _).trans (hb1.mono (by simp))).trans hb4
end Go.Proofs.Ytnllhhamebmlnaa
