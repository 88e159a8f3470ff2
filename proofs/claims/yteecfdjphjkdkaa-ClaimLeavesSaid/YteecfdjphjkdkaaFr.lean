import Derived.Test.YteecfdjphjkdkaaFh
namespace Go.Proofs.Yteecfdjphjkdkaa
open Go.RowKit
set_option maxRecDepth 100000 in
set_option maxHeartbeats 4000000 in
theorem up_any (X : List Int) (q : Rat) (ao : Option Addr) (n cap : Nat) (w : World) (hI : Ints w ao X) (hln : n = X.length) (hn : n ≤ 1000) (hx : ∀ x ∈ X, 0 ≤ x ∧ x ≤ 1000) (hq : q.den ≤ 8 ∧ 0 ≤ q.num ∧ q.num ≤ 8000) :
    Calls Try.prog 63 #[.slice ao n cap, Fr q] w fun e w' => ∃ v, e = .returned v ∧ w'.ownsRow w.heap.size 3 1 v n ((X.map fun c : Int => min (c * q.den) q.num).map (Value.int .i64)) ∧ Below w.heap.size w w' := by
  obtain ⟨i0, hi0, hz0, hz1, hz2⟩ := info_in
  have HI0 := Lib.hid hI
  have Hn := Lib.hid hln
  have HX := Lib.hid hx
  clear hln hI hx
  have rq := heap_alloc_new w (.cells #[.int .i64 q.num, .int .i64 q.den] 35)
  have hBq : Below w.heap.size w (w.alloc (.cells #[.int .i64 q.num, .int .i64 q.den] 35)) := (Below.refl _ w).alloc (Nat.le_refl _) _
  rw [show Fr q = .agg #[.int .i64 q.num, .int .i64 q.den] from rfl]
  go_enter Try.func63, Try.ntmps63
  go_wp2_with fail
  generalize w.alloc (.cells #[.int .i64 q.num, .int .i64 q.den] 35) = w1 at rq hBq ⊢
  obtain ⟨G, hG⟩ : ∃ G, G = w.heap.size := ⟨_, rfl⟩
  rw [← hG] at rq hBq ⊢
  have HG := Lib.hid hG
  clear hG
  go_loopw [5, 6] (fun v i wr => ∃ k : Nat, k ≤ n ∧ i = .int .i64 k ∧ Hid (wr.ownsRow (G + 1) 3 1 v k (((X.take k).map fun c : Int => min (c * q.den) q.num).map (Value.int .i64))) ∧ wr.heap[G]? = some (.cells #[.int .i64 q.num, .int .i64 q.den] 35 (0, 0)) ∧ Below G w wr ∧ G + 1 ≤ wr.heap.size) (fun _ i _ => n - (intOf i).toNat)
  case atStart => exact ⟨0, Nat.zero_le _, rfl, Lib.hid ⟨rfl, .inl ⟨rfl, rfl⟩⟩, rq, hBq, heap_lt rq⟩
  case round =>
    clear rq hBq
    obtain ⟨k, hk, rfl, hown, rq, hB, hsz⟩ := hrel
    by_cases hlt : k < n
    · have hkl : k < X.length := by have := Hn.out; omega
      obtain ⟨b, off, rfl, hbs, hcx⟩ := HI0.out.at hkl
      have hbG : b < G := by have := HG.out; omega
      rw [← hB.cell (p := ⟨b, _, none⟩) hbG] at hcx
      obtain ⟨x, hx⟩ : ∃ x, x = X.getD k 0 := ⟨_, rfl⟩
      have hxb : 0 ≤ x ∧ x ≤ 1000 := HX.out x (by rw [hx, List.getD_eq_getElem?_getD, List.getElem?_eq_getElem hkl]; simp)
      have hxe : x = X[k] := by rw [hx, List.getD_eq_getElem?_getD, List.getElem?_eq_getElem hkl]; rfl
      rw [← hx] at hcx
      have Hx := Lib.hid hxe
      clear hx hxe hbs
      have i1 : (k : Int) < (n : Int) := by omega
      obtain ⟨⟨c0, c1⟩, -, -⟩ := row_fr rq
      obtain ⟨P, hP⟩ : ∃ P, P = x * (q.den : Int) := ⟨_, rfl⟩
      have hPb : 0 ≤ P ∧ P ≤ 8000 := by
        have p1 : 0 ≤ x * (q.den : Int) := Int.mul_nonneg hxb.1 (by omega)
        have p2 : x * (q.den : Int) ≤ 1000 * 8 := Int.mul_le_mul hxb.2 (by omega) (by omega) (by omega)
        omega
      have e1 : IntKind.i64.wrap (x * (q.den : Int)) = P := by rw [← hP]; exact IntWalk.i64_in _ (by omega)
      have HP := Lib.hid hP
      clear hP
      · have HV := Lib.hid (show (if q.num < P then q.num else P) = min P q.num by simp only [Int.min_def]; split <;> split <;> omega)
        have hst : Hid (((X.take (k + 1)).map fun c : Int => min (c * q.den) q.num).map (Value.int .i64) = (((X.take k).map fun c : Int => min (c * q.den) q.num).map (Value.int .i64)) ++ [.int .i64 (if q.num < P then q.num else P)]) := Lib.hid (by
          rw [List.take_succ_eq_append_getElem hkl, List.map_append, List.map_append]
          congr 1
          show [Value.int .i64 (min (X[k] * q.den) q.num)] = [.int .i64 (if q.num < P then q.num else P)]
          rw [← Hx.out, ← HP.out, ← HV.out])
        go_upto_region 5 with fail
        go_region_held3 (fun w' => w'.cell? ⟨b, off + k, none⟩ = some (.int .i64 x) ∧ w'.cell? ⟨G, 0, none⟩ = some (.int .i64 q.num) ∧ w'.cell? ⟨G, 1, none⟩ = some (.int .i64 q.den))
          (first
            | go_keep
            | (go_split_ands
               refine ⟨?_, ?_, ?_⟩
               · (rw [hgrow.cell_far _ (by simp; omega) (fun h => absurd (hown.out.lt b h.symm).1 (by omega))]; assumption)
               · (rw [hgrow.cell_far _ (by simp; omega) (fun h => absurd (hown.out.lt G h.symm).1 (by omega))]; assumption)
               · (rw [hgrow.cell_far _ (by simp; omega) (fun h => absurd (hown.out.lt G h.symm).1 (by omega))]; assumption)))
          ((refine step_append_lies _ (by rfl) _ _ _ (by rfl) (G + 1) 3 i0 _ 1 8 Try.underlying22 hi0 hz0 hz1 hz2 rfl (by omega) _ k _ (by rfl) ((hown.out.alloc _).drew)
              ⟨wr.heap.size, 0, none⟩ 1 1 [.int .i64 (if q.num < P then q.num else P)] (by rfl) (by rfl) (World.news_of_block (cs := #[.int .i64 (if q.num < P then q.num else P)]) (t := 3) (fr := (0, 0)) (heap_alloc_new wr _)) (by simp [Value.oneCell'])
              (by omega) (by unfold maxLen; omega) (by omega) (by simp; omega) (wr.heap.size + 1) (by simp) ?_; intro gg cap7 w7 hown1 hgrow hat hlt5))
        have hsd : G ≤ wr.heap.size := by omega
        have hb5 : Below G w w7 := ((hB.alloc hsd _).drew).grown hgrow (by simp; omega) (fun q hq => by have := (hown.out.lt _ hq).1; omega)
        have hb9 : Below (G + 1) (wr.alloc (.cells #[.int .i64 (if q.num < P then q.num else P)] 3)).drew w7 := (Below.refl _ _).grown hgrow (by simp; omega) (fun q hq => (hown.out.lt _ hq).1)
        have rq7 : w7.heap[G]? = some (.cells #[.int .i64 q.num, .int .i64 q.den] 35 (0, 0)) := (hb9.block G (by omega)).trans ((heap_alloc_old _ _ (by omega)).trans rq)
        have hs7 : G + 1 ≤ w7.heap.size := heap_lt rq7
        clear hgrow hat hlt5 hb9
        go_wp2_with fail
        go_roundw
        case rel => exact ⟨k + 1, by omega, by go_num, Lib.hid (by rw [hst.out]; exact hown1), rq7, hb5, hs7⟩
        case measure => simp [intOf]; omega
    · have hkn : k = n := by omega
      have Ho : Hid (wr.ownsRow w.heap.size 3 1 u5 n ((X.map fun c : Int => min (c * q.den) q.num).map (Value.int .i64))) := Lib.hid (by
        have h := own_mono hown.out (show w.heap.size ≤ G + 1 by have := HG.out; omega)
        rw [hkn, Hn.out, List.take_length] at h
        rw [Hn.out]
        exact h)
      clear hkn
      go_wp2
      go_ret
      exact ⟨_, rfl, Ho.out, by rw [← HG.out]; exact hB⟩
set_option maxRecDepth 100000 in
set_option maxHeartbeats 4000000 in
theorem rest_any (X : List Int) (q : Rat) (ao : Option Addr) (n cap : Nat) (w : World) (hI : Ints w ao X) (hln : n = X.length) (hn : n ≤ 1000) (hx : ∀ x ∈ X, 0 ≤ x ∧ x ≤ 1000) (hq : q.den ≤ 8 ∧ 0 ≤ q.num ∧ q.num ≤ 8000) :
    Calls Try.prog 64 #[.slice ao n cap, Fr q] w fun e w' => ∃ v, e = .returned v ∧ w'.ownsRow w.heap.size 3 1 v n ((X.map fun c : Int => max 0 (c * q.den - q.num)).map (Value.int .i64)) ∧ Below w.heap.size w w' := by
  obtain ⟨i0, hi0, hz0, hz1, hz2⟩ := info_in
  have HI0 := Lib.hid hI
  have Hn := Lib.hid hln
  have HX := Lib.hid hx
  clear hln hI hx
  have rq := heap_alloc_new w (.cells #[.int .i64 q.num, .int .i64 q.den] 35)
  have hBq : Below w.heap.size w (w.alloc (.cells #[.int .i64 q.num, .int .i64 q.den] 35)) := (Below.refl _ w).alloc (Nat.le_refl _) _
  rw [show Fr q = .agg #[.int .i64 q.num, .int .i64 q.den] from rfl]
  go_enter Try.func64, Try.ntmps64
  go_wp2_with fail
  generalize w.alloc (.cells #[.int .i64 q.num, .int .i64 q.den] 35) = w1 at rq hBq ⊢
  obtain ⟨G, hG⟩ : ∃ G, G = w.heap.size := ⟨_, rfl⟩
  rw [← hG] at rq hBq ⊢
  have HG := Lib.hid hG
  clear hG
  go_loopw [5, 6] (fun v i wr => ∃ k : Nat, k ≤ n ∧ i = .int .i64 k ∧ Hid (wr.ownsRow (G + 1) 3 1 v k (((X.take k).map fun c : Int => max 0 (c * q.den - q.num)).map (Value.int .i64))) ∧ wr.heap[G]? = some (.cells #[.int .i64 q.num, .int .i64 q.den] 35 (0, 0)) ∧ Below G w wr ∧ G + 1 ≤ wr.heap.size) (fun _ i _ => n - (intOf i).toNat)
  case atStart => exact ⟨0, Nat.zero_le _, rfl, Lib.hid ⟨rfl, .inl ⟨rfl, rfl⟩⟩, rq, hBq, heap_lt rq⟩
  case round =>
    clear rq hBq
    obtain ⟨k, hk, rfl, hown, rq, hB, hsz⟩ := hrel
    by_cases hlt : k < n
    · have hkl : k < X.length := by have := Hn.out; omega
      obtain ⟨b, off, rfl, hbs, hcx⟩ := HI0.out.at hkl
      have hbG : b < G := by have := HG.out; omega
      rw [← hB.cell (p := ⟨b, _, none⟩) hbG] at hcx
      obtain ⟨x, hx⟩ : ∃ x, x = X.getD k 0 := ⟨_, rfl⟩
      have hxb : 0 ≤ x ∧ x ≤ 1000 := HX.out x (by rw [hx, List.getD_eq_getElem?_getD, List.getElem?_eq_getElem hkl]; simp)
      have hxe : x = X[k] := by rw [hx, List.getD_eq_getElem?_getD, List.getElem?_eq_getElem hkl]; rfl
      rw [← hx] at hcx
      have Hx := Lib.hid hxe
      clear hx hxe hbs
      have i1 : (k : Int) < (n : Int) := by omega
      obtain ⟨⟨c0, c1⟩, -, -⟩ := row_fr rq
      obtain ⟨P, hP⟩ : ∃ P, P = x * (q.den : Int) := ⟨_, rfl⟩
      have hPb : 0 ≤ P ∧ P ≤ 8000 := by
        have p1 : 0 ≤ x * (q.den : Int) := Int.mul_nonneg hxb.1 (by omega)
        have p2 : x * (q.den : Int) ≤ 1000 * 8 := Int.mul_le_mul hxb.2 (by omega) (by omega) (by omega)
        omega
      have e1 : IntKind.i64.wrap (x * (q.den : Int)) = P := by rw [← hP]; exact IntWalk.i64_in _ (by omega)
      have e2 : IntKind.i64.wrap (P - q.num) = P - q.num := IntWalk.i64_in _ (by omega)
      have HP := Lib.hid hP
      clear hP
      · have HV := Lib.hid (show (if q.num < P then P - q.num else 0) = max 0 (P - q.num) by simp only [Int.max_def]; split <;> split <;> omega)
        have hst : Hid (((X.take (k + 1)).map fun c : Int => max 0 (c * q.den - q.num)).map (Value.int .i64) = (((X.take k).map fun c : Int => max 0 (c * q.den - q.num)).map (Value.int .i64)) ++ [.int .i64 (if q.num < P then P - q.num else 0)]) := Lib.hid (by
          rw [List.take_succ_eq_append_getElem hkl, List.map_append, List.map_append]
          congr 1
          show [Value.int .i64 (max 0 (X[k] * q.den - q.num))] = [.int .i64 (if q.num < P then P - q.num else 0)]
          rw [← Hx.out, ← HP.out, ← HV.out])
        go_upto_region 5 with fail
        go_region_held3 (fun w' => w'.cell? ⟨b, off + k, none⟩ = some (.int .i64 x) ∧ w'.cell? ⟨G, 0, none⟩ = some (.int .i64 q.num) ∧ w'.cell? ⟨G, 1, none⟩ = some (.int .i64 q.den))
          (first
            | go_keep
            | (go_split_ands
               refine ⟨?_, ?_, ?_⟩
               · (rw [hgrow.cell_far _ (by simp; omega) (fun h => absurd (hown.out.lt b h.symm).1 (by omega))]; assumption)
               · (rw [hgrow.cell_far _ (by simp; omega) (fun h => absurd (hown.out.lt G h.symm).1 (by omega))]; assumption)
               · (rw [hgrow.cell_far _ (by simp; omega) (fun h => absurd (hown.out.lt G h.symm).1 (by omega))]; assumption)))
          ((refine step_append_lies _ (by rfl) _ _ _ (by rfl) (G + 1) 3 i0 _ 1 8 Try.underlying22 hi0 hz0 hz1 hz2 rfl (by omega) _ k _ (by rfl) ((hown.out.alloc _).drew)
              ⟨wr.heap.size, 0, none⟩ 1 1 [.int .i64 (if q.num < P then P - q.num else 0)] (by rfl) (by rfl) (World.news_of_block (cs := #[.int .i64 (if q.num < P then P - q.num else 0)]) (t := 3) (fr := (0, 0)) (heap_alloc_new wr _)) (by simp [Value.oneCell'])
              (by omega) (by unfold maxLen; omega) (by omega) (by simp; omega) (wr.heap.size + 1) (by simp) ?_; intro gg cap7 w7 hown1 hgrow hat hlt5))
        have hsd : G ≤ wr.heap.size := by omega
        have hb5 : Below G w w7 := ((hB.alloc hsd _).drew).grown hgrow (by simp; omega) (fun q hq => by have := (hown.out.lt _ hq).1; omega)
        have hb9 : Below (G + 1) (wr.alloc (.cells #[.int .i64 (if q.num < P then P - q.num else 0)] 3)).drew w7 := (Below.refl _ _).grown hgrow (by simp; omega) (fun q hq => (hown.out.lt _ hq).1)
        have rq7 : w7.heap[G]? = some (.cells #[.int .i64 q.num, .int .i64 q.den] 35 (0, 0)) := (hb9.block G (by omega)).trans ((heap_alloc_old _ _ (by omega)).trans rq)
        have hs7 : G + 1 ≤ w7.heap.size := heap_lt rq7
        clear hgrow hat hlt5 hb9
        go_wp2_with fail
        go_roundw
        case rel => exact ⟨k + 1, by omega, by go_num, Lib.hid (by rw [hst.out]; exact hown1), rq7, hb5, hs7⟩
        case measure => simp [intOf]; omega
    · have hkn : k = n := by omega
      have Ho : Hid (wr.ownsRow w.heap.size 3 1 u5 n ((X.map fun c : Int => max 0 (c * q.den - q.num)).map (Value.int .i64))) := Lib.hid (by
        have h := own_mono hown.out (show w.heap.size ≤ G + 1 by have := HG.out; omega)
        rw [hkn, Hn.out, List.take_length] at h
        rw [Hn.out]
        exact h)
      clear hkn
      go_wp2
      go_ret
      exact ⟨_, rfl, Ho.out, by rw [← HG.out]; exact hB⟩
end Go.Proofs.Yteecfdjphjkdkaa
