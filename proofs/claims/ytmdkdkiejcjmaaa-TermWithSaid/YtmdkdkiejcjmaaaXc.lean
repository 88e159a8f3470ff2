import Derived.Test.YtmdkdkiejcjmaaaXa
import Derived.Shelf.SlSortCmp.WholeK
import Derived.Sort.OwnSortedInts
/- slices.SortFunc of spans of the call's own. -/
namespace Go.Proofs.Ytmdkdkiejcjmaaa
open Go.RowKit

def sortf_ren : Go.Shelf.Ren := ⟨fun | 6 => 106 | 14 => 116 | 15 => 115 | 20 => 129 | 21 => 130 | 22 => 131 | 23 => 132 | 24 => 133 | 25 => 134 | 26 => 135 | 27 => 136 | 28 => 127 | 29 => 128 | 46 => 142 | 47 => 138 | 48 => 139 | 49 => 143 | 50 => 144 | 57 => 146 | n => n, fun | 0 => 0 | 3 => 3 | 4 => 4 | 5 => 5 | 9 => 9 | 22 => 23 | 24 => 64 | 25 => 117 | 39 => 122 | 45 => 125 | 46 => 126 | 50 => 80 | 53 => 133 | 55 => 135 | 66 => 141 | 70 => 145 | 76 => 149 | 77 => 150 | n => n, fun n => n⟩
theorem sortf_lays : SlLaysF0.n6 Try.prog sortf_ren := {
  mixed := by kernel_rfl
  f6 := ⟨Try.f106.name, by decide, Try.func106.trans (congrArg some (by kernel_rfl))⟩
  f14 := ⟨Try.f116.name, by decide, Try.func116.trans (congrArg some (by kernel_rfl))⟩
  f15 := Try.func115.trans (congrArg some (by kernel_rfl))
  f20 := ⟨Try.f129.name, by decide, Try.func129.trans (congrArg some (by kernel_rfl))⟩
  f21 := ⟨Try.f130.name, by decide, Try.func130.trans (congrArg some (by kernel_rfl))⟩
  f22 := ⟨Try.f131.name, by decide, Try.func131.trans (congrArg some (by kernel_rfl))⟩
  f23 := ⟨Try.f132.name, by decide, Try.func132.trans (congrArg some (by kernel_rfl))⟩
  f24 := ⟨Try.f133.name, by decide, Try.func133.trans (congrArg some (by kernel_rfl))⟩
  f25 := ⟨Try.f134.name, by decide, Try.func134.trans (congrArg some (by kernel_rfl))⟩
  f26 := ⟨Try.f135.name, by decide, Try.func135.trans (congrArg some (by kernel_rfl))⟩
  f27 := ⟨Try.f136.name, by decide, Try.func136.trans (congrArg some (by kernel_rfl))⟩
  f28 := Try.func127.trans (congrArg some (by kernel_rfl))
  f29 := Try.func128.trans (congrArg some (by kernel_rfl))
  f46 := ⟨Try.f142.name, by decide, Try.func142.trans (congrArg some (by kernel_rfl))⟩
  f47 := Try.func138.trans (congrArg some (by kernel_rfl))
  f48 := Try.func139.trans (congrArg some (by kernel_rfl))
  f49 := ⟨Try.f143.name, by decide, Try.func143.trans (congrArg some (by kernel_rfl))⟩
  f50 := ⟨Try.f144.name, by decide, Try.func144.trans (congrArg some (by kernel_rfl))⟩
  f57 := ⟨Try.f146.name, by decide, Try.func146.trans (congrArg some (by kernel_rfl))⟩
  t0 := Try.underlying0
  a0 := Try.isAgg0
  z0 := Try.sizeOf0
  v0 := Try.zeroValue0
  t3 := Try.underlying3
  a3 := Try.isAgg3
  z3 := Try.sizeOf3
  v3 := Try.zeroValue3
  t4 := Try.underlying4
  a4 := Try.isAgg4
  z4 := Try.sizeOf4
  v4 := Try.zeroValue4
  t5 := Try.underlying5
  a5 := Try.isAgg5
  z5 := Try.sizeOf5
  v5 := Try.zeroValue5
  t9 := Try.underlying9
  a9 := Try.isAgg9
  z9 := Try.sizeOf9
  v9 := Try.zeroValue9
  t22 := Try.underlying23
  a22 := Try.isAgg23
  z22 := Try.sizeOf23
  v22 := Try.zeroValue23
  t25 := Try.underlying117
  a25 := Try.isAgg117
  z25 := Try.sizeOf117
  v25 := Try.zeroValue117
  t39 := Try.underlying122
  a39 := Try.isAgg122
  z39 := Try.sizeOf122
  v39 := Try.zeroValue122
  t45 := Try.underlying125
  a45 := Try.isAgg125
  z45 := Try.sizeOf125
  v45 := Try.zeroValue125
  t46 := Try.underlying126
  a46 := Try.isAgg126
  z46 := Try.sizeOf126
  v46 := Try.zeroValue126
  t50 := Try.underlying80
  a50 := Try.isAgg80
  z50 := Try.sizeOf80
  v50 := Try.zeroValue80
  t53 := Try.underlying133
  a53 := Try.isAgg133
  z53 := Try.sizeOf133
  v53 := Try.zeroValue133
  t55 := Try.underlying135
  a55 := Try.isAgg135
  z55 := Try.sizeOf135
  v55 := Try.zeroValue135
  t66 := Try.underlying141
  a66 := Try.isAgg141
  z66 := Try.sizeOf141
  v66 := Try.zeroValue141
  t70 := Try.underlying145
  a70 := Try.isAgg145
  z70 := Try.sizeOf145
  v70 := Try.zeroValue145
  t76 := Try.underlying149
  a76 := Try.isAgg149
  z76 := Try.sizeOf149
  v76 := Try.zeroValue149
  t77 := Try.underlying150
  a77 := Try.isAgg150
  z77 := Try.sizeOf150
  v77 := Try.zeroValue150 }

def encS (x : Int × Int) : List Value := [.int .i64 x.1, .int .i64 x.2]
theorem flatK_spans (l : List (Int × Int)) : Sort.flatK encS 2 l.toArray = (flat2 l).toArray := by
  apply Array.ext_getElem?
  intro i
  unfold Sort.flatK
  by_cases hi : i < l.length * 2
  · have hk : i / 2 < l.length := by omega
    have h1 := (flat2_at hk).1
    have h2 := (flat2_at hk).2
    rw [Array.getElem?_map, Array.getElem?_range, if_pos (by simpa using hi)]
    simp only [Option.map_some]
    rw [List.getElem?_toArray, getElem!_pos l.toArray (i / 2) (by simpa using hk)]
    simp only [List.getElem_toArray]
    rcases Nat.mod_two_eq_zero_or_one i with h | h
    · rw [h]
      rw [show i / 2 * 2 = i by omega] at h1
      rw [h1]
      rfl
    · rw [h]
      rw [show i / 2 * 2 + 1 = i by omega] at h2
      rw [h2]
      rfl
  · rw [Array.getElem?_eq_none (by simp; omega), List.getElem?_toArray, List.getElem?_eq_none (by rw [flat2_length]; omega)]

theorem ownsRow_sortedK {w : World} {base g cap q n : Nat} {e : TypeId} {os : Array Obj} {cur F : Array Value} (hbase : base ≤ g) (hb : w.heap[g]? = some (.cells cur e (0, 0)))
    (h1 : n ≤ cap) (h2 : cap ≤ maxLen) (h3 : cur.size = cap * 2) (hF : F.size = n * 2) :
    (Sort.grow (Sort.putRow id (Sort.ahead w q) g 0 F) os).ownsRow base e 2 (.slice (some ⟨g, 0, none⟩) n cap) n F.toList := by
  have hg : g < w.heap.size := (Array.getElem?_eq_some_iff.1 hb).1
  refine ⟨by simpa using hF, .inr ⟨g, cap, Sort.putCells id 0 F cur, rfl, hbase, ?_, h1, h2, by simp [Sort.putCells, h3], ?_⟩⟩
  · rw [Sort.heap_grow_old _ _ (by simpa using hg)]
    simp [Sort.putRow, Sort.mapBlock, Sort.ahead, Array.getElem?_modify, hb, Sort.onCells]
  · apply List.ext_getElem?
    intro j
    by_cases hj : j < n * 2
    · rw [List.getElem?_take_of_lt hj, Array.getElem?_toList]
      simp [Sort.putCells, hF, hj, show j < cur.size by omega]
    · rw [List.getElem?_take_eq_none (by omega), List.getElem?_eq_none (by simp; omega)]
theorem grownBy_sortedK {w : World} {g n : Nat} {os : Array Obj} (F : Array Value) : w.grownBy (Sort.grow (Sort.putRow id (Sort.ahead w n) g 0 F) os) (some g) := by
  refine ⟨rfl, rfl, rfl, by simp, fun k hk hne => ?_⟩
  rw [Sort.heap_grow_old _ _ (by simpa using hk)]
  have : g ≠ k := fun e => hne (by rw [e])
  simp [Sort.putRow, Sort.mapBlock, Sort.ahead, Array.getElem?_modify, this]

theorem holds_own {w : World} {g n : Nat} {e : TypeId} {cur : Array Value} {xs : List Value} (hb : w.heap[g]? = some (.cells cur e (0, 0))) (ht : cur.toList.take n = xs) (hn : xs.length = n) : Sort.Holds id w g 0 xs.toArray := by
  intro j hj
  have hj' : j < n := by simpa [hn] using hj
  refine ⟨?_, by simp [World.frozen?, hb]⟩
  have h1 : (cur.toList.take n)[j]? = xs[j]? := by rw [ht]
  rw [List.getElem?_take_of_lt hj'] at h1
  simp only [World.cell?, hb, Nat.zero_add]
  simp only [Option.isSome_none, Bool.false_eq_true, if_false]
  rw [← Array.getElem?_toList, h1]
  simp [show j < xs.length by omega]

theorem lt_cmpS (a b : Int × Int) : ltOf cmpS a b = decide (a.1 < b.1) := by
  unfold ltOf cmpS cmpI
  by_cases h : a.1 < b.1
  · rw [if_pos h, decide_eq_true h]; rfl
  · rw [if_neg h, decide_eq_false h]
    split <;> rfl

theorem sortSpans_any (l : List (Int × Int)) (n base : Nat) (e : TypeId) (v : Value) (w : World) (ho : w.ownsRow base e 2 v n (flat2 l)) (hn : n = l.length) (h0 : 0 < n) (hn9 : n ≤ 100000) :
    Calls Try.prog 106 #[v, .func (.func 107) #[] #[]] w fun e' w' => (e' = .returned (.tuple #[]) ∧ ∃ l' : List (Int × Int), l'.Perm l ∧ l'.Pairwise (fun a b => a.1 ≤ b.1) ∧ w'.ownsRow base e 2 v n (flat2 l')) ∧ Below base w w' := by
  rcases ho.2 with ⟨-, h⟩ | ⟨g, cap, cur, rfl, hbg, hb, hnc, hcm, hsz, htk⟩
  · omega
  · have hlt : g < w.heap.size := (Array.getElem?_eq_some_iff.1 hb).1
    have eg : ∀ args w, (callFunc 107 args).run Try.prog w = .ok (.enter 107 args) w := enters_of Try.func107 (by kernel_rfl) rfl
    have hH : Sort.HoldsK encS 2 w g 0 l.toArray := by
      unfold Sort.HoldsK
      rw [flatK_spans]
      exact holds_own (n := n * 2) hb htk (by rw [flat2_length, hn])
    have hS : Sort.SWO (ltOf cmpS) := by
      refine ⟨fun x => ?_, fun x y z h1 h2 => ?_, fun x y z h1 h2 => ?_⟩
      · rw [lt_cmpS]; exact decide_eq_false (by omega)
      · rw [lt_cmpS, decide_eq_true_eq] at *; omega
      · rw [lt_cmpS, decide_eq_false_iff_not] at *; omega
    have hcmp : CmpLays Try.prog 107 #[] encS 2 cmpS g 0 l.toArray.size w := fun m os dk _ x y => (with1_any x.1 x.2 y.1 y.2 _).mono fun e' w' ⟨h1, h2⟩ => ⟨h1, 0, #[.cells #[.int .i64 x.1, .int .i64 x.2] 64] ++ #[.cells #[.int .i64 y.1, .int .i64 y.2] 64], by rw [h2, Sort.alloc_eq_grow, Sort.alloc_eq_grow, Sort.grow_grow]; rfl⟩
    have hcon := AnyQ.slices_SortFunc sortf_lays 2 Try.isAgg64 Try.sizeOf64 encS (fun _ => rfl) (fun x v hv => by simp [encS] at hv; rcases hv with rfl | rfl <;> rfl) cmpS hS 107 #[] g 0 cap l.toArray w eg hcmp hH hlt (by simp; omega)
    rw [show l.toArray.size = n by simpa using hn.symm] at hcon
    change Calls Try.prog 106 _ _ _ at hcon
    refine hcon.mono ?_
    rintro e' w' ⟨rfl, d', q, os, hp, hs, rfl⟩
    obtain ⟨hp1, -, hp3⟩ := hp
    have hls : l.toArray.size = n := by simpa using hn.symm
    have hds : d'.size = n := hp1.trans hls
    have e1 : l.toArray.extract 0 n = l.toArray := by rw [← hls]; exact Array.extract_size
    have e2 : d'.extract 0 n = d' := by rw [← hds]; exact Array.extract_size
    rw [e1, e2] at hp3
    have hFl : Sort.flatK encS 2 d' = (flat2 d'.toList).toArray := by
      have := flatK_spans d'.toList
      rwa [Array.toArray_toList] at this
    refine ⟨⟨rfl, d'.toList, by simpa using hp3, ?_, ?_⟩, ?_⟩
    · rw [List.pairwise_iff_getElem]
      intro a b ha hb2 hab
      have h1 := hs a b (Nat.zero_le _) hab (by simpa [hds] using hb2)
      have ha2 : a < d'.size := by simpa using ha
      have hb3 : b < d'.size := by simpa using hb2
      rw [getElem!_pos d' a ha2, getElem!_pos d' b hb3] at h1
      rw [lt_cmpS, decide_eq_false_iff_not] at h1
      simp only [Array.getElem_toList]
      omega
    · unfold sortWorldK Sort.putRowK
      rw [hFl]
      exact ownsRow_sortedK (F := (flat2 d'.toList).toArray) hbg hb hnc hcm hsz (by simp [flat2_length, hds])
    · unfold sortWorldK Sort.putRowK
      exact (Below.refl base w).grown (grownBy_sortedK _) (by omega) (fun k e => by cases e; exact hbg)
end Go.Proofs.Ytmdkdkiejcjmaaa
