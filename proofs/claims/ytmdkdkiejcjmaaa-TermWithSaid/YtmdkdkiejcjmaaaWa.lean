import Derived.Test.YtmdkdkiejcjmaaaK
import Derived.Shelf.Sort.Plain
import Derived.Shelf.Slices.In.SortNone
import Derived.Shelf.Slices.CompactI
import Derived.Sort.OwnSortedInts
import Derived.Lib.OwnBridge
/- slices.Sort and slices.Compact at a slice of numbers of the call's own. -/
namespace Go.Proofs.Ytmdkdkiejcjmaaa
open Go.RowKit

def sort_ren : Go.Shelf.Ren := ⟨fun | 125 => 115 | 128 => 127 | 129 => 128 | 189 => 101 | 215 => 117 | 216 => 124 | 257 => 114 | 294 => 118 | 295 => 119 | 296 => 120 | 297 => 121 | 298 => 122 | 299 => 123 | 300 => 125 | 301 => 126 | 328 => 137 | 329 => 138 | 330 => 139 | 331 => 140 | 332 => 141 | 343 => 145 | n => n, fun | 0 => 0 | 3 => 3 | 4 => 4 | 5 => 5 | 9 => 9 | 28 => 22 | 46 => 122 | 51 => 133 | 53 => 135 | 131 => 80 | 182 => 125 | 183 => 126 | 218 => 141 | 222 => 145 | 228 => 149 | 229 => 150 | n => n, fun n => n⟩
theorem sort_lays : Lays.n189 Try.prog sort_ren := {
  mixed := by kernel_rfl
  f125 := Try.func115.trans (congrArg some (by kernel_rfl))
  f128 := Try.func127.trans (congrArg some (by kernel_rfl))
  f129 := Try.func128.trans (congrArg some (by kernel_rfl))
  f189 := Try.func101.trans (congrArg some (by kernel_rfl))
  f215 := Try.func117.trans (congrArg some (by kernel_rfl))
  f216 := Try.func124.trans (congrArg some (by kernel_rfl))
  f257 := Try.func114.trans (congrArg some (by kernel_rfl))
  f294 := Try.func118.trans (congrArg some (by kernel_rfl))
  f295 := Try.func119.trans (congrArg some (by kernel_rfl))
  f296 := Try.func120.trans (congrArg some (by kernel_rfl))
  f297 := Try.func121.trans (congrArg some (by kernel_rfl))
  f298 := Try.func122.trans (congrArg some (by kernel_rfl))
  f299 := Try.func123.trans (congrArg some (by kernel_rfl))
  f300 := Try.func125.trans (congrArg some (by kernel_rfl))
  f301 := Try.func126.trans (congrArg some (by kernel_rfl))
  f328 := Try.func137.trans (congrArg some (by kernel_rfl))
  f329 := Try.func138.trans (congrArg some (by kernel_rfl))
  f330 := Try.func139.trans (congrArg some (by kernel_rfl))
  f331 := Try.func140.trans (congrArg some (by kernel_rfl))
  f332 := Try.func141.trans (congrArg some (by kernel_rfl))
  f343 := Try.func145.trans (congrArg some (by kernel_rfl))
  t0 := Try.underlying0
  a0 := Try.isAgg0
  z0 := Try.sizeOf0
  v0 := Try.zeroValue0
  t3 := Try.underlying3
  a3 := Try.isAgg3
  z3 := Try.sizeOf3
  v3 := Try.zeroValue3
  t4 := Try.underlying4
  a4 := Try.isAgg4
  z4 := Try.sizeOf4
  v4 := Try.zeroValue4
  t5 := Try.underlying5
  a5 := Try.isAgg5
  z5 := Try.sizeOf5
  v5 := Try.zeroValue5
  t9 := Try.underlying9
  a9 := Try.isAgg9
  z9 := Try.sizeOf9
  v9 := Try.zeroValue9
  t28 := Try.underlying22
  a28 := Try.isAgg22
  z28 := Try.sizeOf22
  v28 := Try.zeroValue22
  t46 := Try.underlying122
  a46 := Try.isAgg122
  z46 := Try.sizeOf122
  v46 := Try.zeroValue122
  t51 := Try.underlying133
  a51 := Try.isAgg133
  z51 := Try.sizeOf133
  v51 := Try.zeroValue133
  t53 := Try.underlying135
  a53 := Try.isAgg135
  z53 := Try.sizeOf135
  v53 := Try.zeroValue135
  t131 := Try.underlying80
  a131 := Try.isAgg80
  z131 := Try.sizeOf80
  v131 := Try.zeroValue80
  t182 := Try.underlying125
  a182 := Try.isAgg125
  z182 := Try.sizeOf125
  v182 := Try.zeroValue125
  t183 := Try.underlying126
  a183 := Try.isAgg126
  z183 := Try.sizeOf126
  v183 := Try.zeroValue126
  t218 := Try.underlying141
  a218 := Try.isAgg141
  z218 := Try.sizeOf141
  v218 := Try.zeroValue141
  t222 := Try.underlying145
  a222 := Try.isAgg145
  z222 := Try.sizeOf145
  v222 := Try.zeroValue145
  t228 := Try.underlying149
  a228 := Try.isAgg149
  z228 := Try.sizeOf149
  v228 := Try.zeroValue149
  t229 := Try.underlying150
  a229 := Try.isAgg150
  z229 := Try.sizeOf150
  v229 := Try.zeroValue150 }

def compact_ren : Go.Shelf.Ren := ⟨fun | 20 => 102 | n => n, fun | 0 => 0 | 3 => 3 | 4 => 4 | 22 => 22 | n => n, fun n => n⟩
theorem compact_lays : Lays2.n20 Try.prog compact_ren := {
  mixed := by kernel_rfl
  f20 := Try.func102.trans (congrArg some (by kernel_rfl))
  t0 := Try.underlying0
  a0 := Try.isAgg0
  z0 := Try.sizeOf0
  v0 := Try.zeroValue0
  t3 := Try.underlying3
  a3 := Try.isAgg3
  z3 := Try.sizeOf3
  v3 := Try.zeroValue3
  t4 := Try.underlying4
  a4 := Try.isAgg4
  z4 := Try.sizeOf4
  v4 := Try.zeroValue4
  t22 := Try.underlying22
  a22 := Try.isAgg22
  z22 := Try.sizeOf22
  v22 := Try.zeroValue22
  i3 := by kernel_rfl }

def srt (l : List Int) : List Int := l.mergeSort fun x y => decide (x ≤ y)
theorem srt_len (l : List Int) : (srt l).length = l.length := List.length_mergeSort l

theorem compact_len (l : List Int) : (Lib.compact l).length ≤ l.length := by
  unfold Lib.compact Lib.compactUpTo
  rw [List.length_map]
  exact Nat.le_trans (List.length_filter_le _ _) (by simp)
theorem compactUpTo_set {d : Array Int} (hs : ∀ i j, i ≤ j → j < d.size → d[i]! ≤ d[j]!) : ∀ m, m ≤ d.size → (Lib.compactUpTo d m).Pairwise (· < ·) ∧ (∀ x, x ∈ Lib.compactUpTo d m ↔ ∃ j, j < m ∧ x = d[j]!)
  | 0, _ => ⟨by simp [Lib.compactUpTo], fun x => by simp [Lib.compactUpTo]⟩
  | m + 1, hm => by
    obtain ⟨h1, h2⟩ := compactUpTo_set hs m (by omega)
    rw [Lib.compactUpTo_succ]
    by_cases hk : m = 0 ∨ d[m]! ≠ d[m - 1]!
    · have hkt : Lib.keeps d m = true := by simp [Lib.keeps, hk]
      rw [hkt]
      refine ⟨?_, fun x => ?_⟩
      · refine List.pairwise_append.2 ⟨h1, by simp, fun a ha b hb => ?_⟩
        simp at hb
        subst hb
        obtain ⟨j, hj, rfl⟩ := (h2 a).1 ha
        rcases hk with hk | hk
        · omega
        · have h3 := hs j (m - 1) (by omega) (by omega)
          have h4 := hs (m - 1) m (by omega) (by omega)
          omega
      · simp only [if_true, List.mem_append, List.mem_singleton, h2]
        constructor
        · rintro (⟨j, hj, rfl⟩ | rfl)
          · exact ⟨j, by omega, rfl⟩
          · exact ⟨m, by omega, rfl⟩
        · rintro ⟨j, hj, rfl⟩
          rcases Nat.lt_or_ge j m with h | h
          · exact .inl ⟨j, h, rfl⟩
          · exact .inr (by rw [show j = m by omega])
    · have hkf : Lib.keeps d m = false := by simp only [Lib.keeps, decide_eq_false hk]
      have hm0 : ¬ m = 0 := fun h => hk (.inl h)
      have he : d[m]! = d[m - 1]! := Decidable.not_not.1 fun h => hk (.inr h)
      rw [hkf]
      simp only [Bool.false_eq_true, if_false, List.append_nil]
      refine ⟨h1, fun x => ?_⟩
      rw [h2]
      constructor
      · rintro ⟨j, hj, rfl⟩; exact ⟨j, by omega, rfl⟩
      · rintro ⟨j, hj, rfl⟩
        rcases Nat.lt_or_ge j m with h | h
        · exact ⟨j, h, rfl⟩
        · exact ⟨m - 1, by omega, by rw [show j = m by omega, he]⟩
/-- A list in strictly ascending order with these members. -/
def IsSet (l : List Int) (p : Int → Prop) : Prop := l.Pairwise (· < ·) ∧ ∀ x, x ∈ l ↔ p x
theorem IsSet.unique {l m : List Int} {p : Int → Prop} (h : IsSet l p) (k : IsSet m p) : l = m := by
  have hp : l.Perm m := (List.perm_ext_iff_of_nodup (h.1.imp fun a => Int.ne_of_lt a) (k.1.imp fun a => Int.ne_of_lt a)).2 fun x => by rw [h.2, k.2]
  exact hp.eq_of_pairwise (fun a b _ _ h1 h2 => absurd h1 (by omega)) h.1 k.1
theorem compact_srt (l : List Int) : IsSet (Lib.compact (srt l)) (· ∈ l) := by
  have hs : (srt l).Pairwise (· ≤ ·) := by
    have := List.pairwise_mergeSort (le := fun x y : Int => decide (x ≤ y)) (by simp; omega) (by simp; omega) l
    exact this.imp (by simp)
  have hs2 : ∀ i j, i ≤ j → j < (srt l).toArray.size → (srt l).toArray[i]! ≤ (srt l).toArray[j]! := fun i j hij hj => by
    have hj2 : j < (srt l).length := by simpa using hj
    rw [getElem!_pos _ i (by simp; omega), getElem!_pos _ j hj]
    simp only [List.getElem_toArray]
    rcases Nat.lt_or_ge i j with h | h
    · exact List.pairwise_iff_getElem.1 hs i j (by omega) hj2 h
    · have : i = j := by omega
      subst this
      exact Int.le_refl _
  obtain ⟨h1, h2⟩ := compactUpTo_set hs2 (srt l).length (by simp)
  refine ⟨h1, fun x => (h2 x).trans ?_⟩
  have hm : x ∈ srt l ↔ x ∈ l := List.mem_mergeSort
  show _ ↔ x ∈ l
  rw [← hm, List.mem_iff_getElem]
  constructor
  · rintro ⟨j, hj, rfl⟩
    exact ⟨j, hj, by rw [getElem!_pos _ j (by simpa using hj)]; simp⟩
  · rintro ⟨j, hj, rfl⟩
    exact ⟨j, hj, by rw [getElem!_pos _ j (by simpa using hj)]; simp⟩

theorem sort_any (l : List Int) (n base : Nat) (e : TypeId) (v : Value) (w : World) (ho : w.ownsRow base e 1 v n (l.map (Value.int .i64))) (hn : n = l.length) (hn9 : n ≤ 100000) :
    Calls Try.prog 101 #[v] w fun e' w' => e' = .returned (.tuple #[]) ∧ w'.ownsRow base e 1 v n ((srt l).map (Value.int .i64)) ∧ Below base w w' := by
  by_cases h0 : n = 0
  · obtain ⟨ao, cap, rfl, -, -⟩ := own_ints ho hn
    have hl : l = [] := List.eq_nil_of_length_eq_zero (by omega)
    subst hl
    subst h0
    have hcon := Any.slices_Sort_int_none sort_lays ao cap w
    change Calls Try.prog 101 _ _ _ at hcon
    refine hcon.mono ?_
    rintro e' w' ⟨rfl, rfl⟩
    exact ⟨rfl, by simpa [srt] using ho, Below.refl _ _⟩
  · have hv : v ≠ .slice none 0 0 := by
      rintro rfl
      rcases ho.2 with ⟨-, h⟩ | ⟨g, cap, cur, h, -⟩
      · exact absurd h h0
      · cases h
    rcases ho.2 with ⟨h, -⟩ | ⟨g, cap, cur, rfl, hbg, hb, hnc, hcm, hsz, htk⟩
    · exact absurd h hv
    · obtain ⟨g', cap', he, -, hlt, -, -, hl, hH⟩ := Lib.holds_of_ownsRow (enc := Value.int .i64) ho (by simp)
      cases he
      have hcon := Any.slices_Sort_int sort_lays g 0 cap l w hH hlt (by omega)
      rw [hl] at hcon
      change Calls Try.prog 101 _ _ _ at hcon
      refine hcon.mono ?_
      rintro e' w' ⟨rfl, q, os, rfl⟩
      refine ⟨rfl, ?_, (Below.refl base w).grown (grownBy_sortedI _) (by omega) (fun k e => by cases e; exact hbg)⟩
      have h := ownsRow_sortedI (n := q) (os := os) (ss := l) (ts := srt l) (srt_len l) hbg hb (by omega) hcm hsz
      rw [hl] at h
      exact h

theorem compact_any (l : List Int) (n base : Nat) (e : TypeId) (v : Value) (w : World) (ho : w.ownsRow base e 1 v n (l.map (Value.int .i64))) (hn : n = l.length) (hn9 : n ≤ 100000) :
    Calls Try.prog 102 #[v] w fun e' w' => (∃ v', e' = .returned v' ∧ w'.ownsRow base e 1 v' (Lib.compact l).length ((Lib.compact l).map (Value.int .i64))) ∧ Below base w w' := by
  by_cases h0 : n = 0
  · obtain ⟨ao, cap, rfl, -, -⟩ := own_ints ho hn
    have hl : l = [] := List.eq_nil_of_length_eq_zero (by omega)
    subst hl
    subst h0
    have hcon := Any.slices_Compact_int_empty compact_lays ao cap w
    change Calls Try.prog 102 _ _ _ at hcon
    refine hcon.mono ?_
    rintro e' w' ⟨rfl, rfl⟩
    exact ⟨⟨_, rfl, ho⟩, Below.refl _ _⟩
  · have hv : v ≠ .slice none 0 0 := by
      rintro rfl
      rcases ho.2 with ⟨-, h⟩ | ⟨g, cap, cur, h, -⟩
      · exact absurd h h0
      · cases h
    obtain ⟨g, cap, rfl, hbg, hlt, hnc, hcm, hl, hH⟩ := Lib.holds_of_ownsRow (enc := Value.int .i64) ho hv
    have hcon := Any.slices_Compact_int compact_lays g 0 cap l w hH (by omega) (by omega)
    rw [hl] at hcon
    change Calls Try.prog 102 _ _ _ at hcon
    refine hcon.mono ?_
    rintro e' w' ⟨rfl, q, rfl⟩
    have hfl : (Lib.compact l).length ≤ n := by rw [← hl]; exact compact_len l
    have h := Lib.ownsRow_putRow (q := q) (k := (Lib.compact l).length) (ys := Lib.compact l ++ List.replicate (n - (Lib.compact l).length) 0) ho (by simp; omega) hfl
    rw [List.take_left] at h
    exact ⟨⟨_, rfl, by simpa using h⟩, Lib.below_putRow (Below.refl _ _) hbg⟩
end Go.Proofs.Ytmdkdkiejcjmaaa
