import Derived.Test.YteecfdjphjkdkaaFh
namespace Go.Proofs.Yteecfdjphjkdkaa
open Go.RowKit
set_option maxRecDepth 100000 in
set_option maxHeartbeats 4000000 in
theorem fractions_any (X : List Int) (D : Nat) (ao : Option Addr) (n cap : Nat) (w : World) (hI : Ints w ao X) (hln : n = X.length) (hn : n ≤ 1000) (hx : ∀ x ∈ X, 0 ≤ x ∧ x ≤ 1000000) (hD : 1 ≤ D ∧ D ≤ 1000000) :
    Calls Try.prog 62 #[.slice ao n cap, .int .i64 D] w fun e w' => ∃ v, e = .returned v ∧ w'.ownsRow w.heap.size 35 2 v n (flat2 ((X.map fun x => mkRat x D).map pr)) ∧ Below w.heap.size w w' := by
  obtain ⟨i0, hi0, hz0, hz1, hz2⟩ := info_rt
  have HI0 := Lib.hid hI
  have Hn := Lib.hid hln
  have HX := Lib.hid hx
  clear hln hI hx
  go_enter Try.func62, Try.ntmps62
  go_wp2_with fail
  go_loopw [5, 6] (fun v i wr => ∃ k : Nat, k ≤ n ∧ i = .int .i64 k ∧ Hid (wr.ownsRow w.heap.size 35 2 v k (flat2 (((X.take k).map fun x => mkRat x D).map pr))) ∧ Below w.heap.size w wr) (fun _ i _ => n - (intOf i).toNat)
  case atStart => exact ⟨0, Nat.zero_le _, rfl, Lib.hid ⟨rfl, .inl ⟨rfl, rfl⟩⟩, Below.refl _ _⟩
  case round =>
    obtain ⟨k, hk, rfl, hown, hB⟩ := hrel
    by_cases hlt : k < n
    · have hkl : k < X.length := by have := Hn.out; omega
      obtain ⟨b, off, rfl, hbs, hcx⟩ := HI0.out.at hkl
      rw [← hB.cell (p := ⟨b, _, none⟩) hbs] at hcx
      obtain ⟨x, hx⟩ : ∃ x, x = X.getD k 0 := ⟨_, rfl⟩
      have hxb : 0 ≤ x ∧ x ≤ 1000000 := HX.out x (by rw [hx, List.getD_eq_getElem?_getD, List.getElem?_eq_getElem hkl]; simp)
      have hxe : x = X[k] := by rw [hx, List.getD_eq_getElem?_getD, List.getElem?_eq_getElem hkl]; rfl
      rw [← hx] at hcx
      have Hx := Lib.hid hxe
      clear hx hxe
      obtain ⟨xn, rfl⟩ := Int.eq_ofNat_of_zero_le hxb.1
      have i1 : (k : Int) < (n : Int) := by omega
      go_wp2_with fail
      refine (ratio_any xn D wr (by omega) (by omega) (by omega)).mono ?_
      rintro e wc ⟨rfl, hbb⟩
      obtain ⟨V, hV⟩ : ∃ V, V = mkRat xn D := ⟨_, rfl⟩
      rw [← hV]
      have hst : Hid (((X.take (k + 1)).map fun x => mkRat x D).map pr = (((X.take k).map fun x => mkRat x D).map pr) ++ [pr V]) := Lib.hid (by
        rw [List.take_succ_eq_append_getElem hkl, List.map_append, List.map_append, ← Hx.out, hV]
        rfl)
      clear hV
      rw [show Fr V = .agg #[.int .i64 V.num, .int .i64 V.den] from rfl]
      clear hcx hbs
      replace hB := hB.trans (hbb.mono hB.size)
      replace hown := Lib.hid (own_below hown.out hbb)
      have hsw := hB.size
      clear hbb
      go_wp2_with (first | (at_builtin; refine wpList_append_own _ rfl _ _ 27 rfl w.heap.size 35 i0 (.agg #[.int .i64 0, .int .i64 0]) 2 16 Try.underlying27 hi0 hz0 hz1 hz2 rfl (by decide) _ k _ rfl (hown.out.alloc _) ⟨wc.heap.size, 0, none⟩ 1 1 [.int .i64 V.num, .int .i64 V.den] rfl rfl (World.news_of_block (cs := #[.int .i64 V.num, .int .i64 V.den]) (t := 35) (fr := (0, 0)) (heap_alloc_new wc _)) (by simp [Value.oneCell']) (by unfold maxLen; omega) (by omega) (by simp; omega) ?_; intro v' w3 hown3 hgrow3 hnil3; have hb5 : Below w.heap.size w w3 := (hB.alloc hB.size _).grown hgrow3 (by have := hB.size; simp; omega) (fun q hq => (hown.out.lt _ hq).1); clear hgrow3 hnil3))
      go_roundw
      case rel => exact ⟨k + 1, by omega, by go_num, Lib.hid (by rw [hst.out, flat2_app]; exact hown3), hb5⟩
      case measure => simp [intOf]; omega
    · have hkn : k = n := by omega
      have Ho : Hid (wr.ownsRow w.heap.size 35 2 u5 n (flat2 ((X.map fun x => mkRat x D).map pr))) := Lib.hid (by
        have h := hown.out
        rw [hkn, Hn.out, List.take_length] at h
        rw [Hn.out]
        exact h)
      clear hkn
      go_wp2
      go_ret
      exact ⟨_, rfl, Ho.out, hB⟩
end Go.Proofs.Yteecfdjphjkdkaa
