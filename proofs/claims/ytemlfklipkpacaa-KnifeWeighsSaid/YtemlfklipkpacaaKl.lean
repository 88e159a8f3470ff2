import Derived.Test.YtemlfklipkpacaaKk
import Derived.Shelf.SlicesE.DeleteFunc
import Derived.Lib.OwnBridge
import Derived.Laws.EntriesVeiled
/- slices.DeleteFunc at a slice of numbers, with the closure of package knife's divide. -/
namespace Go.Proofs.Ytemlfklipkpacaa
open Go.RowKit

def del_ren : Go.Shelf.Ren := ⟨fun | 6 => 165 | 10 => 142 | n => n, fun | 0 => 0 | 3 => 3 | 4 => 4 | 22 => 39 | 23 => 3 | 25 => 161 | n => n, fun n => n⟩
theorem del_lays : SlLaysH.n10 Try.prog del_ren := {
  mixed := by kernel_rfl
  f6 := ⟨Try.f165.name, by decide, Try.func165.trans (congrArg some (by kernel_rfl))⟩
  f10 := ⟨Try.f142.name, by decide, Try.func142.trans (congrArg some (by kernel_rfl))⟩
  t0 := Try.underlying0
  a0 := Try.isAgg0
  z0 := Try.sizeOf0
  v0 := Try.zeroValue0
  t3 := Try.underlying3
  a3 := Try.isAgg3
  z3 := Try.sizeOf3
  v3 := Try.zeroValue3
  t4 := Try.underlying4
  a4 := Try.isAgg4
  z4 := Try.sizeOf4
  v4 := Try.zeroValue4
  t22 := Try.underlying39
  a22 := Try.isAgg39
  z22 := Try.sizeOf39
  v22 := Try.zeroValue39
  a23 := Try.isAgg3
  z23 := Try.sizeOf3
  t25 := Try.underlying161
  a25 := Try.isAgg161
  z25 := Try.sizeOf161
  v25 := Try.zeroValue161 }

/-- The closure of divide: is it the owner in the box? -/
theorem isOwner_gives (v x : Int) (B : Nat) (W : World) (hc : W.cell? ⟨B, 0, none⟩ = some (.int .i64 v)) :
    FnGives Try.prog 143 #[.pointer (some ⟨B, 0, none⟩)] #[.int .i64 x] (.bool (decide (x = v))) W := by
  show Calls Try.prog 143 #[.int .i64 x, .pointer (some ⟨B, 0, none⟩)] W _
  by_cases h : x = v
  · subst h
    go_enter Try.func143, Try.ntmps143
    go_wp2
    go_ret
    exact ⟨by simp, 0, rfl⟩
  · have h2 : (x == v) = false := by simp [h]
    go_enter Try.func143, Try.ntmps143
    go_wp2
    go_ret
    exact ⟨by simp [h], 0, rfl⟩

theorem kdel_any (l : List Int) (v : Int) (n g cap : Nat) (e : TypeId) (base B : Nat) (w : World) (hO : w.ownsRow base e 1 (.slice (some ⟨g, 0, none⟩) n cap) n (l.map (Value.int .i64))) (hB : B < w.heap.size) (hcell : w.cell? ⟨B, 0, none⟩ = some (.int .i64 v)) (hBg : B ≠ g) (hn : n ≤ 100) :
    Calls Try.prog 142 #[.slice (some ⟨g, 0, none⟩) n cap, .func (.func 143) #[] #[.pointer (some ⟨B, 0, none⟩)]] w fun e' w' => e' = .returned (.slice (some ⟨g, 0, none⟩) (l.filter fun x => !decide (x = v)).length cap) ∧ w'.ownsRow base e 1 (.slice (some ⟨g, 0, none⟩) (l.filter fun x => !decide (x = v)).length cap) (l.filter fun x => !decide (x = v)).length ((l.filter fun x => !decide (x = v)).map (Value.int .i64)) ∧ Below base w w' ∧ w'.heap.size = w.heap.size ∧ ∀ k, k ≠ g → w'.heap[k]? = w.heap[k]? := by
  obtain ⟨g', cap', he, hbg, hlt, hnc, hcm, hl, hH⟩ := Lib.holds_of_ownsRow (enc := Value.int .i64) hO (by simp)
  cases he
  have hsz : l.toArray.size = n := by simpa using hl
  have eg : ∀ args w, (callFunc 143 args).run Try.prog w = .ok (.enter 143 args) w := enters_of Try.func143 (by kernel_rfl) rfl
  have hcon := AnyE.slices_DeleteFunc del_lays (Value.int .i64) (fun _ => rfl) (fun x => decide (x = v)) 143 #[.pointer (some ⟨B, 0, none⟩)] eg 0 Try.zeroValue3 g 0 cap l.toArray w
    (fun W x hb => isOwner_gives v x B W ((hb.cell (p := ⟨B, 0, none⟩) hB).trans hcell))
    (fun n' os dk x _ => isOwner_gives v x B _ (by
      unfold sortWorld
      rw [Sort.cell?_grow _ _ _ (by show B < (Sort.putRow _ _ _ _ _).heap.size; rw [Sort.size_putRow]; exact hB), Sort.cell?_putRow_other _ _ g 0 _ _ (Or.inl hBg)]
      exact hcell)) hH (by omega) (by omega)
  rw [hsz] at hcon
  change Calls Try.prog 142 _ _ _ at hcon
  refine hcon.mono ?_
  rintro e' w' ⟨rfl, q, rfl⟩
  have hfl : (l.filter fun x => !decide (x = v)).length ≤ n := by rw [← hl]; exact List.length_filter_le _ _
  have h := Lib.ownsRow_putRow (q := q) (k := (l.filter fun x => !decide (x = v)).length) (ys := (l.filter fun x => !decide (x = v)) ++ List.replicate (n - (l.filter fun x => !decide (x = v)).length) 0) hO (by simp; omega) hfl
  rw [List.take_left] at h
  exact ⟨rfl, by simpa using h, Lib.below_putRow (Below.refl _ _) hbg, by simp [Sort.putRow, Sort.mapBlock, Sort.ahead], fun k hk => by simp [Sort.putRow, Sort.mapBlock, Sort.ahead, Array.getElem?_modify, show g ≠ k from fun e => hk e.symm]⟩
end Go.Proofs.Ytemlfklipkpacaa
