import Derived.Test.YtmdkdkiejcjmaaaTg
/- Package term: next, before, after, ends. -/
namespace Go.Proofs.Ytmdkdkiejcjmaaa
open Go.RowKit Go.Shelf
namespace Tm
/-- The nth such day behind a day; the day itself for 0. -/
def After (p : Nat → Bool) (d n x : Nat) : Prop := (n = 0 ∧ x = d) ∨ (1 ≤ n ∧ Nth p (d + 1) n x)
theorem After.unique {p : Nat → Bool} {d n x y : Nat} (h : After p d n x) (k : After p d n y) : x = y := by
  rcases h with ⟨h1, h2⟩ | ⟨h1, h2⟩ <;> rcases k with ⟨k1, k2⟩ | ⟨k1, k2⟩
  · omega
  · omega
  · omega
  · exact h2.unique k2
/-- The end of a term of n days from a day; c: the days that count, p: those on which a term may end. -/
def Ends (c p : Nat → Bool) (d n x : Nat) : Prop := ∃ a, After c d n a ∧ Nth p a 1 x
theorem Ends.unique {c p : Nat → Bool} {d n x y : Nat} (h : Ends c p d n x) (k : Ends c p d n y) : x = y := by
  obtain ⟨a, h1, h2⟩ := h
  obtain ⟨b, k1, k2⟩ := k
  rw [h1.unique k1] at h2
  exact h2.unique k2
end Tm
theorem Tm_next_le {p : Nat → Bool} {M X a x : Nat} (h : ∀ x, M < x → x < X → p x = true ∨ p (x + 1) = true) (hX : a + (M + 1 + 2) ≤ X) (hx : Tm.Nth p a 1 x) : x ≤ a + (M + 1 + 2) := by
  refine Nat.le_of_not_lt fun hlt => ?_
  have h2 := Tm.cnt_enough h a 1 (by omega)
  have h3 := Tm.cnt_mono (p := p) (d := a) (show M + 1 + 2 * 1 ≤ x - a by omega)
  have := hx.num
  omega
/-- What is made for nth: the day's box, the two boxes of only. -/
theorem three_boxes (w : World) (a b c : Value) (ta tb tc : TypeId) :
    (((w.alloc (.cells #[a] ta)).alloc (.cells #[b] tb)).alloc (.cells #[c] tc)).cell? ⟨w.heap.size, 0, none⟩ = some a ∧
    (((w.alloc (.cells #[a] ta)).alloc (.cells #[b] tb)).alloc (.cells #[c] tc)).cell? ⟨w.heap.size + 1, 0, none⟩ = some b ∧
    (((w.alloc (.cells #[a] ta)).alloc (.cells #[b] tb)).alloc (.cells #[c] tc)).cell? ⟨w.heap.size + 1 + 1, 0, none⟩ = some c := by
  obtain ⟨h0, h1, h2⟩ := heap3 w (.cells #[a] ta) (.cells #[b] tb) (.cells #[c] tc)
  exact ⟨(row_one h0).1, (row_one h1).1, (row_one h2).1⟩

set_option maxRecDepth 100000 in
set_option maxHeartbeats 4000000 in
theorem next_any (M d : Nat) (f : Int) (F : List Int) (S : List (Int × Int)) (aoF : Option Addr) (nF cF : Nat) (aoS : Option Addr) (nS cS : Nat) (w : World) (hcl : Cl w aoF nF aoS nS F S) (h9 : nF ≤ 100000) (hok : Tm.Ok M f F S) (hM : M ≤ 100000) (hd : d ≤ 1000000) :
    Calls Try.prog 67 #[.agg #[.int .i64 f, .slice aoF nF cF, .slice aoS nS cS], .int .i64 d] w fun e w' => (∃ x : Nat, e = .returned (.int .i64 x) ∧ Tm.Nth (Tm.work f F) d 1 x) ∧ Below w.heap.size w w' := by
  have hA := (Below.refl _ w).alloc (Nat.le_refl _) (.cells #[.int .i64 f, .slice aoF nF cF, .slice aoS nS cS] 71)
  have rc := heap_alloc_new w (.cells #[.int .i64 f, .slice aoF nF cF, .slice aoS nS cS] 71)
  replace hcl := hcl.below hA
  go_enter Try.func67, Try.ntmps67
  go_upto_region 1 with fail
  generalize w.alloc (.cells #[.int .i64 f, .slice aoF nF cF, .slice aoS nS cS] 71) = W0 at hA rc hcl ⊢
  obtain ⟨G, hG⟩ : ∃ g, g = w.heap.size := ⟨_, rfl⟩
  rw [← hG] at rc ⊢
  clear hG
  have c0 := cell_of_row W0 G 0 _ _ _ rc
  have c1 := cell_of_row W0 G 1 _ _ _ rc
  have c2 := cell_of_row W0 G 2 _ _ _ rc
  simp at c0 c1 c2
  have hdr : Below W0.heap.size W0 W0.drew := below_drewN (Below.refl W0.heap.size W0) 1
  have hs0 : W0.drew.heap.size = W0.heap.size := rfl
  have hb3 : Below W0.heap.size W0 (((W0.drew.alloc (.cells #[.int .i64 d] 3)).alloc (.cells #[.func (.func 112) #[] #[.pointer (some ⟨W0.heap.size, 0, none⟩)]] 85)).alloc (.cells #[.func (.func 73) #[.agg #[.int .i64 f, .slice aoF nF cF, .slice aoS nS cS]] #[]] 74)) := hdr.trans (below_alloc3 W0.drew _ _ _)
  have hb1 : Below W0.heap.size W0 (W0.drew.alloc (.cells #[.int .i64 d] 3)) := hdr.alloc (Nat.le_refl _) _
  obtain ⟨t0, t1, t2⟩ := three_boxes W0.drew (.int .i64 d) (.func (.func 112) #[] #[.pointer (some ⟨W0.heap.size, 0, none⟩)]) (.func (.func 73) #[.agg #[.int .i64 f, .slice aoF nF cF, .slice aoS nS cS]] #[]) 3 85 74
  have hX := nthOnW_any 1 d (M + 1 + 2 * 1) W0.heap.size (W0.heap.size + 1) (W0.heap.size + 1 + 1) f F S aoF nF cF aoS nS cS _ (by omega) (by omega) (hcl.below hb3) h9 (by omega) (fun k hk => Tm.cnt_bound (X := 4611686018427387904) (fun x h1 h2 => Tm.work_two hok x h1 h2) d 1 (by omega) hk) t0 t1 t2
  rw [show ((1 : Nat) : Int) = 1 from rfl] at hX
  have HX := Lib.hid hX
  clear hX t0 t1 t2
  go_region_held3 (fun w' => w'.cell? ⟨G, 0, none⟩ = some (.int .i64 f) ∧ w'.cell? ⟨G, 1, none⟩ = some (.slice aoF nF cF) ∧ w'.cell? ⟨G, 2, none⟩ = some (.slice aoS nS cS))
    (first | exact ⟨keep_cell hdr c0, keep_cell hdr c1, keep_cell hdr c2⟩ | exact kc | exact kb | exact ka)
    (first
      | (go_at_call 97; refine (onward_any d _).mono ?_; rintro e w1 ⟨rfl, rfl⟩; have ka := And.intro (keep_cell hb1 c0) (And.intro (keep_cell hb1 c1) (keep_cell hb1 c2)))
      | (go_at_call 71; refine (only_any _ _ _ _ _ _ _).mono ?_; rintro e w2 ⟨rfl, rfl⟩; have kb := And.intro (keep_cell hb3 c0) (And.intro (keep_cell hb3 c1) (keep_cell hb3 c2)))
      | (go_at_call 96; refine HX.out.mono ?_; rintro e w3 ⟨⟨x, rfl, pre, k, hx1, hx2⟩, hb4⟩; have hb5 := hb3.trans (hb4.mono hb3.size); have kc := And.intro (keep_cell hb5 c0) (And.intro (keep_cell hb5 c1) (keep_cell hb5 c2))))
  all_goals
    have hnth := Tm.nth_of hx1
    rw [hx2] at hnth
    have hA5 := hA.trans (hb5.mono hA.size)
    have HN := Lib.hid hnth
    clear hnth hx1 hx2 kc
    go_wp2_with fail
    go_ret
    exact ⟨⟨x, rfl, HN.out⟩, hA5⟩

set_option maxRecDepth 100000 in
set_option maxHeartbeats 4000000 in
theorem afterW_any (M d n : Nat) (f : Int) (F : List Int) (S : List (Int × Int)) (aoF : Option Addr) (nF cF : Nat) (aoS : Option Addr) (nS cS : Nat) (w : World) (hcl : Cl w aoF nF aoS nS F S) (h9 : nF ≤ 100000) (hok : Tm.Ok M f F S) (hM : M ≤ 100000) (hd : d ≤ 1000000) (hn : n ≤ 1000000) :
    Calls Try.prog 76 #[.int .i64 d, .int .i64 n, .func (.func 73) #[.agg #[.int .i64 f, .slice aoF nF cF, .slice aoS nS cS]] #[]] w fun e w' => (∃ x : Nat, e = .returned (.int .i64 x) ∧ Tm.After (Tm.work f F) d n x) ∧ Below w.heap.size w w' := by
  by_cases h0 : n = 0
  · subst h0
    go_enter Try.func76, Try.ntmps76
    go_wp2
    go_ret
    exact ⟨⟨d, rfl, .inl ⟨rfl, rfl⟩⟩, Below.refl _ _⟩
  · have h1 : 1 ≤ n := by omega
    have hn0 : ((n : Int) == 0) = false := by simp; omega
    have hb3 : Below w.heap.size w (((w.alloc (.cells #[.int .i64 ((d + 1 : Nat) : Int)] 3)).alloc (.cells #[.func (.func 112) #[] #[.pointer (some ⟨w.heap.size, 0, none⟩)]] 85)).alloc (.cells #[.func (.func 73) #[.agg #[.int .i64 f, .slice aoF nF cF, .slice aoS nS cS]] #[]] 74)) := below_alloc3 w _ _ _
    obtain ⟨t0, t1, t2⟩ := three_boxes w (.int .i64 ((d + 1 : Nat) : Int)) (.func (.func 112) #[] #[.pointer (some ⟨w.heap.size, 0, none⟩)]) (.func (.func 73) #[.agg #[.int .i64 f, .slice aoF nF cF, .slice aoS nS cS]] #[]) 3 85 74
    have hX := nthOnW_any n (d + 1) (M + 1 + 2 * n) w.heap.size (w.heap.size + 1) (w.heap.size + 1 + 1) f F S aoF nF cF aoS nS cS _ h1 (by omega) (hcl.below hb3) h9 (by omega) (fun k hk => Tm.cnt_bound (X := 4611686018427387904) (fun x h1 h2 => Tm.work_two hok x h1 h2) (d + 1) n (by omega) hk) t0 t1 t2
    have HX := Lib.hid hX
    clear hX t0 t1 t2 h0
    have hd1 : ((d + 1 : Nat) : Int) = (d : Int) + 1 := by omega
    rw [hd1] at HX hb3
    clear hd1
    go_enter Try.func76, Try.ntmps76
    go_wp2_with fail
    refine (onward_any ((d : Int) + 1) w).mono ?_
    rintro e w1 ⟨rfl, rfl⟩
    go_wp2_with fail
    refine (only_any _ _ _ _ _ _ _).mono ?_
    rintro e w2 ⟨rfl, rfl⟩
    go_wp2_with fail
    refine HX.out.mono ?_
    rintro e w3 ⟨⟨x, rfl, pre, k, hx1, hx2⟩, hb4⟩
    have hnth := Tm.nth_of hx1
    rw [hx2] at hnth
    have HN := Lib.hid hnth
    have hb5 := hb3.trans (hb4.mono hb3.size)
    clear hnth hx1 hx2 hb3 hb4 HX
    go_wp2_with fail
    go_ret
    exact ⟨⟨x, rfl, .inr ⟨h1, HN.out⟩⟩, hb5⟩

set_option maxRecDepth 100000 in
set_option maxHeartbeats 4000000 in
theorem afterC_any (M d n : Nat) (f : Int) (F : List Int) (S : List (Int × Int)) (aoF : Option Addr) (nF cF : Nat) (aoS : Option Addr) (nS cS : Nat) (w : World) (hcl : Cl w aoF nF aoS nS F S) (h9 : nS ≤ 100000) (hok : Tm.Ok M f F S) (hM : M ≤ 100000) (hd : d ≤ 1000000) (hn : n ≤ 1000000) :
    Calls Try.prog 76 #[.int .i64 d, .int .i64 n, .func (.func 74) #[.agg #[.int .i64 f, .slice aoF nF cF, .slice aoS nS cS]] #[]] w fun e w' => (∃ x : Nat, e = .returned (.int .i64 x) ∧ Tm.After (Tm.count S) d n x) ∧ Below w.heap.size w w' := by
  by_cases h0 : n = 0
  · subst h0
    go_enter Try.func76, Try.ntmps76
    go_wp2
    go_ret
    exact ⟨⟨d, rfl, .inl ⟨rfl, rfl⟩⟩, Below.refl _ _⟩
  · have h1 : 1 ≤ n := by omega
    have hn0 : ((n : Int) == 0) = false := by simp; omega
    have hb3 : Below w.heap.size w (((w.alloc (.cells #[.int .i64 ((d + 1 : Nat) : Int)] 3)).alloc (.cells #[.func (.func 112) #[] #[.pointer (some ⟨w.heap.size, 0, none⟩)]] 85)).alloc (.cells #[.func (.func 74) #[.agg #[.int .i64 f, .slice aoF nF cF, .slice aoS nS cS]] #[]] 74)) := below_alloc3 w _ _ _
    obtain ⟨t0, t1, t2⟩ := three_boxes w (.int .i64 ((d + 1 : Nat) : Int)) (.func (.func 112) #[] #[.pointer (some ⟨w.heap.size, 0, none⟩)]) (.func (.func 74) #[.agg #[.int .i64 f, .slice aoF nF cF, .slice aoS nS cS]] #[]) 3 85 74
    have hX := nthOnC_any n (d + 1) (M + 1 + 2 * n) w.heap.size (w.heap.size + 1) (w.heap.size + 1 + 1) f F S aoF nF cF aoS nS cS _ h1 (by omega) (hcl.below hb3) h9 (by omega) (fun k hk => Tm.cnt_bound (X := 4611686018427387904) (fun x h1 h2 => .inl (Tm.count_all hok x h1)) (d + 1) n (by omega) hk) t0 t1 t2
    have HX := Lib.hid hX
    clear hX t0 t1 t2 h0
    have hd1 : ((d + 1 : Nat) : Int) = (d : Int) + 1 := by omega
    rw [hd1] at HX hb3
    clear hd1
    go_enter Try.func76, Try.ntmps76
    go_wp2_with fail
    refine (onward_any ((d : Int) + 1) w).mono ?_
    rintro e w1 ⟨rfl, rfl⟩
    go_wp2_with fail
    refine (only_any _ _ _ _ _ _ _).mono ?_
    rintro e w2 ⟨rfl, rfl⟩
    go_wp2_with fail
    refine HX.out.mono ?_
    rintro e w3 ⟨⟨x, rfl, pre, k, hx1, hx2⟩, hb4⟩
    have hnth := Tm.nth_of hx1
    rw [hx2] at hnth
    have HN := Lib.hid hnth
    have hb5 := hb3.trans (hb4.mono hb3.size)
    clear hnth hx1 hx2 hb3 hb4 HX
    go_wp2_with fail
    go_ret
    exact ⟨⟨x, rfl, .inr ⟨h1, HN.out⟩⟩, hb5⟩

theorem Tm_after_le {p : Nat → Bool} {M X d n x : Nat} (h : ∀ x, M < x → x < X → p x = true ∨ p (x + 1) = true) (hX : d + 1 + (M + 1 + 2 * n) ≤ X) (ha : Tm.After p d n x) : x ≤ d + 1 + (M + 1 + 2 * n) := by
  rcases ha with ⟨-, rfl⟩ | ⟨h1, ha⟩
  · omega
  · refine Nat.le_of_not_lt fun hlt => ?_
    have h2 := Tm.cnt_enough h (d + 1) n hX
    have h3 := Tm.cnt_mono (p := p) (d := d + 1) (show M + 1 + 2 * n ≤ x - (d + 1) by omega)
    have := ha.num
    omega

set_option maxRecDepth 100000 in
set_option maxHeartbeats 4000000 in
theorem ends_any (M d n : Nat) (f : Int) (F : List Int) (S : List (Int × Int)) (aoF : Option Addr) (nF cF : Nat) (aoS : Option Addr) (nS cS : Nat) (w : World) (hcl : Cl w aoF nF aoS nS F S) (h9 : nF ≤ 100000) (h8 : nS ≤ 100000) (hok : Tm.Ok M f F S) (hM : M ≤ 100000) (hd : d ≤ 100000) (hn : n ≤ 100000) :
    Calls Try.prog 77 #[.agg #[.int .i64 f, .slice aoF nF cF, .slice aoS nS cS], .int .i64 d, .int .i64 n] w fun e w' => (∃ x : Nat, e = .returned (.int .i64 x) ∧ Tm.Ends (Tm.count S) (Tm.work f F) d n x ∧ x ≤ 1000000) ∧ Below w.heap.size w w' := by
  have hA := (Below.refl _ w).alloc (Nat.le_refl _) (.cells #[.int .i64 f, .slice aoF nF cF, .slice aoS nS cS] 71)
  have rc := heap_alloc_new w (.cells #[.int .i64 f, .slice aoF nF cF, .slice aoS nS cS] 71)
  replace hcl := hcl.below hA
  go_enter Try.func77, Try.ntmps77
  go_upto_region 1 with fail
  generalize w.alloc (.cells #[.int .i64 f, .slice aoF nF cF, .slice aoS nS cS] 71) = W0 at hA rc hcl ⊢
  obtain ⟨G, hG⟩ : ∃ g, g = w.heap.size := ⟨_, rfl⟩
  rw [← hG] at rc ⊢
  clear hG
  have c0 := cell_of_row W0 G 0 _ _ _ rc
  have c1 := cell_of_row W0 G 1 _ _ _ rc
  have c2 := cell_of_row W0 G 2 _ _ _ rc
  simp at c0 c1 c2
  have hdr : Below W0.heap.size W0 W0.drew := below_drewN (Below.refl W0.heap.size W0) 1
  have hX1 := afterC_any M d n f F S aoF nF cF aoS nS cS W0.drew (hcl.below hdr) h8 hok hM (by omega) (by omega)
  have HX1 := Lib.hid hX1
  have hX2 := fun (a : Nat) (ha : a ≤ 1000000) w' (hb : Below W0.heap.size W0 w') => next_any M a f F S aoF nF cF aoS nS cS w' (hcl.below hb) h9 hok hM ha
  have HX2 := Lib.hid hX2
  have hbd := fun (a : Nat) (h : Tm.After (Tm.count S) d n a) => Tm_after_le (M := M) (X := 4611686018427387904) (fun x h1 h2 => .inl (Tm.count_all hok x h1)) (by omega) h
  have hbn := fun (a x : Nat) (ha : a ≤ 700000) (h : Tm.Nth (Tm.work f F) a 1 x) => Tm_next_le (M := M) (X := 4611686018427387904) (fun x h1 h2 => Tm.work_two hok x h1 h2) (show a + (M + 1 + 2) ≤ _ by omega) h
  have HB := Lib.hid hbd
  have HBn := Lib.hid hbn
  clear hX1 hX2 hbd hbn hok
  go_region_held3 (fun w' => w'.cell? ⟨G, 0, none⟩ = some (.int .i64 f) ∧ w'.cell? ⟨G, 1, none⟩ = some (.slice aoF nF cF) ∧ w'.cell? ⟨G, 2, none⟩ = some (.slice aoS nS cS))
    (first | exact ⟨keep_cell hdr c0, keep_cell hdr c1, keep_cell hdr c2⟩ | exact kb | exact ka)
    (first
      | (go_at_call 76; refine HX1.out.mono ?_; rintro e w1 ⟨⟨a, rfl, ha⟩, hb1⟩; have hk1 := hdr.trans hb1; have hab := HB.out a ha; have ka := And.intro (keep_cell hk1 c0) (And.intro (keep_cell hk1 c1) (keep_cell hk1 c2)))
      | (go_at_call 67; refine (HX2.out a (by omega) _ hk1).mono ?_; rintro e w2 ⟨⟨x, rfl, hx⟩, hb2⟩; have hk2 := hk1.trans (hb2.mono hk1.size); have kb := And.intro (keep_cell hk2 c0) (And.intro (keep_cell hk2 c1) (keep_cell hk2 c2))))
  all_goals
    have hA5 := hA.trans (hk2.mono hA.size)
    have hxb := HBn.out a x (by omega) hx
    have HE : Hid (Tm.Ends (Tm.count S) (Tm.work f F) d n x) := Lib.hid ⟨a, ha, hx⟩
    clear hx ha ka kb
    go_wp2_with fail
    go_ret
    exact ⟨⟨x, rfl, HE.out, by omega⟩, hA5⟩
end Go.Proofs.Ytmdkdkiejcjmaaa
