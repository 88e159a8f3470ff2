import Derived.Test.YteecfdjphjkdkaaFd
namespace Go.Proofs.Yteecfdjphjkdkaa
open Go.RowKit
namespace Cl
/-- What the claims are up to a number a, each times d. -/
def below (L : List Int) (a : Int) (d : Int) : Int := Fl.sumI (L.map fun c => min (c * d) a)
/-- a / d is the smallest number up to which the claims add up to the estate. -/
def Lev (L : List Int) (E a d : Int) : Prop := 0 ≤ a ∧ 0 < d ∧ below L a d = E * d ∧ ∃ c ∈ L, a ≤ c * d
theorem below_cons (c : Int) (L : List Int) (a d : Int) : below (c :: L) a d = min (c * d) a + below L a d := by
  unfold below; rw [List.map_cons, Fl.sumI_cons]
theorem below_mono {L : List Int} {a b d : Int} (h : a ≤ b) : below L a d ≤ below L b d := by
  induction L with
  | nil => simp [below]
  | cons c r ih => rw [below_cons, below_cons]; omega
theorem below_lt {L : List Int} {a b d : Int} (h : a < b) (hc : ∃ c ∈ L, b ≤ c * d) : below L a d < below L b d := by
  induction L with
  | nil => obtain ⟨c, hc, _⟩ := hc; cases hc
  | cons c r ih =>
    rw [below_cons, below_cons]
    have hm := below_mono (L := r) (d := d) (Int.le_of_lt h)
    by_cases h1 : b ≤ c * d
    · omega
    · have h2 : ∃ c ∈ r, b ≤ c * d := by
        obtain ⟨x, hx, hb⟩ := hc
        rcases List.mem_cons.1 hx with rfl | hx
        · exact absurd hb h1
        · exact ⟨x, hx, hb⟩
      have := ih h2
      omega
theorem below_scale {L : List Int} {a d k : Int} (hk : 0 < k) : below L (a * k) (d * k) = below L a d * k := by
  induction L with
  | nil => simp [below, Fl.sumI]
  | cons c r ih =>
    rw [below_cons, below_cons, ih, Int.add_mul]
    have e : c * (d * k) = c * d * k := by rw [Int.mul_assoc]
    rw [e]
    by_cases h : c * d ≤ a
    · have := Int.mul_le_mul_of_nonneg_right h (Int.le_of_lt hk)
      rw [Int.min_eq_left h, Int.min_eq_left this]
    · have h' : a ≤ c * d := by omega
      have := Int.mul_le_mul_of_nonneg_right h' (Int.le_of_lt hk)
      rw [Int.min_eq_right h', Int.min_eq_right this]
theorem lev_unique {L : List Int} {E a d b e : Int} (h1 : Lev L E a d) (h2 : Lev L E b e) : a * e = b * d := by
  obtain ⟨a0, d0, ha, c, hc, hca⟩ := h1
  obtain ⟨b0, e0, hb, x, hx, hxb⟩ := h2
  have s1 := below_scale (L := L) (a := a) (d := d) e0
  have s2 := below_scale (L := L) (a := b) (d := e) d0
  rw [ha] at s1
  rw [hb, Int.mul_comm e d] at s2
  have s3 : below L (a * e) (d * e) = below L (b * d) (d * e) := by rw [s1, s2, Int.mul_assoc, Int.mul_assoc, Int.mul_comm e d]
  have k1 : a * e ≤ c * (d * e) := by rw [← Int.mul_assoc]; exact Int.mul_le_mul_of_nonneg_right hca (Int.le_of_lt e0)
  have k2 : b * d ≤ x * (d * e) := by rw [Int.mul_comm d e, ← Int.mul_assoc]; exact Int.mul_le_mul_of_nonneg_right hxb (Int.le_of_lt d0)
  rcases Int.lt_trichotomy (a * e) (b * d) with h | h | h
  · have := below_lt h ⟨x, hx, k2⟩; omega
  · exact h
  · have := below_lt h ⟨c, hc, k1⟩; omega
theorem below_perm {L M : List Int} (h : L.Perm M) (a d : Int) : below L a d = below M a d := by
  induction h with
  | nil => rfl
  | cons x _ ih => rw [below_cons, below_cons, ih]
  | swap x y l => rw [below_cons, below_cons, below_cons, below_cons]; omega
  | trans _ _ ih1 ih2 => rw [ih1, ih2]
theorem sum_perm {L M : List Int} (h : L.Perm M) : Fl.sumI L = Fl.sumI M := by
  induction h with
  | nil => rfl
  | cons x _ ih => rw [Fl.sumI_cons, Fl.sumI_cons, ih]
  | swap x y l => rw [Fl.sumI_cons, Fl.sumI_cons, Fl.sumI_cons, Fl.sumI_cons]; omega
  | trans _ _ ih1 ih2 => rw [ih1, ih2]
theorem lev_perm {L M : List Int} (h : L.Perm M) {E a d : Int} (hl : Lev L E a d) : Lev M E a d := by
  obtain ⟨h1, h2, h3, c, hc, h4⟩ := hl
  exact ⟨h1, h2, by rw [← below_perm h]; exact h3, c, h.mem_iff.1 hc, h4⟩
theorem below_all_small {L : List Int} {a d : Int} (h : ∀ c ∈ L, c * d ≤ a) : below L a d = Fl.sumI L * d := by
  induction L with
  | nil => simp [below, Fl.sumI]
  | cons c r ih =>
    rw [below_cons, Fl.sumI_cons, Int.add_mul, ih fun x hx => h x (by simp [hx]), Int.min_eq_left (h c (by simp))]
theorem below_all_great {L : List Int} {a d : Int} (h : ∀ c ∈ L, a ≤ c * d) : below L a d = a * L.length := by
  induction L with
  | nil => simp [below, Fl.sumI]
  | cons c r ih =>
    rw [below_cons, ih fun x hx => h x (by simp [hx]), Int.min_eq_right (h c (by simp)), List.length_cons]
    push_cast
    rw [Int.mul_add]
    omega
theorem below_app (L M : List Int) (a d : Int) : below (L ++ M) a d = below L a d + below M a d := by
  unfold below; rw [List.map_append, Fl.sumI_app]
/-- A level by small numbers. -/
def LevS (L : List Int) (E a d : Int) : Prop := Lev L E a d ∧ a ≤ 8000 ∧ d ≤ 8
/-- The loop of the level has stopped at a place of the sorted claims. -/
theorem lev_stop {S : List Int} {E : Int} {p : Nat} (hs : Sorted S S.length) (hp : p < S.length) (h0 : 0 ≤ E - Fl.sumI (S.take p))
    (hle : E - Fl.sumI (S.take p) ≤ S.getD p 0 * ((S.length - p : Nat) : Int)) (hgt : 0 < p → S.getD (p - 1) 0 * ((S.length - p : Nat) : Int) ≤ E - Fl.sumI (S.take p)) :
    Lev S E (E - Fl.sumI (S.take p)) ((S.length - p : Nat) : Int) := by
  refine ⟨h0, by omega, ?_, S.getD p 0, by rw [List.getD_eq_getElem?_getD, List.getElem?_eq_getElem hp]; simp, hle⟩
  have hsp : S = S.take p ++ S.drop p := (List.take_append_drop p S).symm
  have e1 : below (S.take p) (E - Fl.sumI (S.take p)) ((S.length - p : Nat) : Int) = Fl.sumI (S.take p) * ((S.length - p : Nat) : Int) := by
    apply below_all_small
    intro c hc
    obtain ⟨i, hi, rfl⟩ := List.mem_iff_getElem.1 hc
    rw [List.length_take] at hi
    have hle2 : S.getD i 0 ≤ S.getD (p - 1) 0 := by
      by_cases h : i = p - 1
      · rw [h]; omega
      · exact hs i (p - 1) (by omega) (by omega)
    have := Int.mul_le_mul_of_nonneg_right hle2 (show 0 ≤ ((S.length - p : Nat) : Int) by omega)
    have h2 := hgt (by omega)
    rw [List.getElem_take]
    have e : S.getD i 0 = S[i]'(by omega) := by rw [List.getD_eq_getElem?_getD, List.getElem?_eq_getElem (by omega)]; rfl
    rw [e] at this
    omega
  have e2 : below (S.drop p) (E - Fl.sumI (S.take p)) ((S.length - p : Nat) : Int) = (E - Fl.sumI (S.take p)) * ((S.length - p : Nat) : Int) := by
    rw [below_all_great, List.length_drop]
    intro c hc
    obtain ⟨i, hi, rfl⟩ := List.mem_iff_getElem.1 hc
    rw [List.length_drop] at hi
    have hle2 : S.getD p 0 ≤ S.getD (p + i) 0 := by
      by_cases h : i = 0
      · rw [h]; simp
      · exact hs p (p + i) (by omega) (by omega)
    have := Int.mul_le_mul_of_nonneg_right hle2 (show 0 ≤ ((S.length - p : Nat) : Int) by omega)
    rw [List.getElem_drop]
    have e : S.getD (p + i) 0 = S[p + i]'(by omega) := by rw [List.getD_eq_getElem?_getD, List.getElem?_eq_getElem (by omega)]; rfl
    rw [e] at this
    omega
  have e3 : below S (E - Fl.sumI (S.take p)) ((S.length - p : Nat) : Int) = below (S.take p) (E - Fl.sumI (S.take p)) ((S.length - p : Nat) : Int) + below (S.drop p) (E - Fl.sumI (S.take p)) ((S.length - p : Nat) : Int) := by
    rw [← below_app, List.take_append_drop]
  rw [e3, e1, e2, ← Int.add_mul]
  congr 1
  omega
end Cl

theorem ints_src {w : World} {b off : Nat} {L : List Int} (hc : ∀ i, i < L.length → w.cell? ⟨b, off + i, none⟩ = some (.int .i64 (L.getD i 0))) : ∀ j v, (L.map (Value.int .i64))[j]? = some v → w.cell? ((⟨b, off, none⟩ : Addr).add j) = some v := by
  intro j v hj
  have hjl := (List.getElem?_eq_some_iff.1 hj).1
  rw [List.length_map] at hjl
  rw [add_off, hc j hjl, List.getD_eq_getElem?_getD, List.getElem?_eq_getElem hjl]
  rw [List.getElem?_map, List.getElem?_eq_getElem hjl] at hj
  exact hj
set_option maxRecDepth 100000 in
set_option maxHeartbeats 2000000 in
theorem level_any (L : List Int) (E : Int) (b off n cap : Nat) (w : World) (hc : ∀ i, i < L.length → w.cell? ⟨b, off + i, none⟩ = some (.int .i64 (L.getD i 0))) (hbw : b < w.heap.size) (hln : n = L.length) (hok : Cl.okC L = true) (h0 : 0 ≤ E) (h1 : E ≤ Fl.sumI L) :
    Calls Try.prog 65 #[.slice (some ⟨b, off, none⟩) n cap, .int .i64 E] w fun e w' => ∃ a d, Cl.LevS L E a d ∧ e = .returned (Fr (mkRat a d.toNat)) ∧ Below w.heap.size w w' := by
  obtain ⟨i0, hi0, hz0, hz1, hz2⟩ := info_in
  have hC := Cl.okC_iff.1 hok
  have hn8 : n ≤ 8 := by omega
  have hn1 : 1 ≤ n := by omega
  have HC := Lib.hid hC
  have Hn := Lib.hid hln
  clear hC hln hok
  have hmk : ∀ w0 : World, (Instr.makeSlice 22 (.int .i64 n) (.int .i64 n)).run Try.prog w0 = .ok (.slice (some ⟨w0.heap.size, 0, none⟩) n n) (w0.alloc (.cells (madeCells (Value.int .i64 0).cells (n * 1)) 3)) := fun w0 => by
    have h := run_make (P := Try.prog) w0 22 3 i0 _ Try.underlying22 hi0 hz0 .i64 .i64 n n (by omega) (Int.le_refl _) (by rw [hz2]; omega) (by omega)
    rw [Int.toNat_natCast, hz1] at h
    exact h
  have hsz : (madeCells (Value.int .i64 0).cells (n * 1)).size = n * 1 := size_madeCells _ _
  generalize madeCells (Value.int .i64 0).cells (n * 1) = cur0 at hmk hsz
  go_enter Try.func65, Try.ntmps65
  go_wp2_with (first | (at_make; refine wpList_make rfl _ _ _ rfl (.int .i64 n) (.int .i64 n) rfl rfl _ _ (hmk _) ?_) | ((with_reducible refine wpList_copy_sized rfl _ _ _ _ rfl 3 ?hu 1 ?hsz ?g ?off ?dLen ?dCap ?ad ?sLen ?sCap ?hd ?hs ?cur ?t ?hg (L.map (Value.int .i64)) ?hn ?hsrc ?hfit ?h1 ?h)))
  case hd => exact rfl
  case hs => exact rfl
  case hu => exact Try.underlying22
  case hsz =>
    rw [hi0]
    show some i0.size = some 1
    rw [hz1]
  case hg => exact heap_alloc2_new w _ _
  case hn =>
    have h2 : Nat.min n n = n := Nat.min_self n
    rw [List.length_map, ← Hn.out, h2, Nat.mul_one]
  case hsrc =>
    apply ints_src
    intro i hi
    rw [World.cell?_alloc_past _ b (off + i) (by simp; omega), World.cell?_alloc_past _ b (off + i) hbw]
    exact hc i hi
  case hfit => rw [List.length_map, ← Hn.out, hsz]; omega
  case h1 =>
    intro v hv
    obtain ⟨x, _, rfl⟩ := List.mem_map.1 hv
    rfl
  case h =>
    intro w3 hw3 hb3
    have hbox : w3.heap[w.heap.size]? = some (.cells #[.int .i64 0, .int .i64 0] 35 (0, 0)) := by
      rw [hb3.block w.heap.size (by omega)]
      exact heap_at ((Below.refl _ (w.alloc (.cells #[.int .i64 0, .int .i64 0] 35))).alloc (Nat.le_refl _) (.cells cur0 3)) (k := w.heap.size) (by simp) (heap_alloc_new w _)
    have hrow : w3.heap[w.heap.size + 1]? = some (.cells (Cl.iarr L) 3 (0, 0)) := by
      rw [hw3]
      have e1 : List.drop (0 + L.length) cur0.toList = [] := List.drop_eq_nil_of_le (by rw [← Hn.out, Array.length_toList, hsz]; omega)
      rw [e1]
      simp [Cl.iarr]
    have hB : Below w.heap.size w w3 := (((Below.refl _ w).alloc (Nat.le_refl _) _).alloc (by simp) _).trans (hb3.mono (by omega))
    clear hw3 hb3 hmk hsz hc
    have hmm : Nat.min n n = n := Nat.min_self n
    rw [hmm]
    clear hmm
    obtain ⟨G0, hG0⟩ : ∃ G, G = w.heap.size := ⟨_, rfl⟩
    rw [← hG0] at hbox hrow hB hbw ⊢
    have HG := Lib.hid hG0
    clear hG0
    have HE := Lib.hid (And.intro h0 h1)
    clear h0 h1
    obtain ⟨G, hG⟩ : ∃ G, G = G0 + 1 := ⟨_, rfl⟩
    rw [← hG] at hrow ⊢
    have HG1 := Lib.hid hG
    clear hG
    go_wp2_with fail
    refine (sort_any L G n n w3 hrow Hn.out (by omega) hn1 (Nat.le_refl _)).mono ?_
    rintro e w4 ⟨rfl, S, h1, h2, h3, h4⟩
    replace hbox := heap_at h4 (k := G0) (by have := HG1.out; omega) hbox
    replace hB := hB.trans (h4.mono (by have := HG1.out; omega))
    have HS := Lib.hid (And.intro h1 h2)
    clear h1 h2 h4 hrow
    go_wp2_with fail
    have hlen : S.length = n := by rw [Hn.out]; exact HS.out.1.length_eq
    have hx : ∀ k, k < n → 0 ≤ S.getD k 0 ∧ S.getD k 0 ≤ 1000 := fun k hk => HC.out.2.2 _ (HS.out.1.mem_iff.1 (by rw [List.getD_eq_getElem?_getD, List.getElem?_eq_getElem (by omega)]; simp))
    have hsum : E ≤ Fl.sumI S := by rw [Cl.sum_perm HS.out.1]; exact HE.out.2
    have hE8 : E ≤ 8000 := by
      have h := Cl.sum_small (B := 1000) (by omega) (l := L) (fun x hx => by have := HC.out.2.2 x hx; omega)
      have := HE.out; have := HC.out; omega
    have Hf := Lib.hid (And.intro hlen (And.intro hx (And.intro hsum hE8)))
    clear hlen hx hsum hE8
    obtain ⟨en, hen⟩ := Int.eq_ofNat_of_zero_le HE.out.1
    have Hen := Lib.hid hen
    rw [hen]
    clear hen
    go_loopw [1, 6] (fun v i wr => ∃ (e p : Nat), p < n ∧ e ≤ 8000 ∧ v = .int .i64 e ∧ i = .int .i64 p ∧ Hid ((e : Int) = E - Fl.sumI (S.take p) ∧ (0 < p → S.getD (p - 1) 0 * ((n - p : Nat) : Int) ≤ e)) ∧ wr = w4) (fun _ i _ => n - (intOf i).toNat)
    case atStart => exact ⟨en, 0, by omega, by have := Hf.out.2.2.2; have := Hen.out; omega, rfl, rfl, Lib.hid ⟨by rw [← Hen.out]; simp [Fl.sumI], fun h => by omega⟩, rfl⟩
    case round =>
      obtain ⟨e, p, hp, he, rfl, rfl, hI, hw⟩ := hrel
      rw [hw]
      clear hw wr
      have c1 := (cell_of_row w4 G p _ _ _ h3).trans (Cl.iarr_at (L := S) (k := p) (by have := Hf.out.1; omega))
      obtain ⟨x, hx⟩ : ∃ x, x = S.getD p 0 := ⟨_, rfl⟩
      have hxb := Hf.out.2.1 p hp
      rw [← hx] at c1 hxb
      have Hx := Lib.hid hx
      clear hx
      obtain ⟨q, hq⟩ : ∃ q, q = n - p := ⟨_, rfl⟩
      have i1 : (p : Int) < (n : Int) := by omega
      have e1 : IntKind.i64.wrap ((n : Int) - (p : Int)) = (q : Int) := by rw [IntWalk.i64_in _ (by omega)]; omega
      have hq8 : 1 ≤ q ∧ q ≤ 8 := by omega
      obtain ⟨Z, hZ⟩ : ∃ Z, Z = x * (q : Int) := ⟨_, rfl⟩
      have hZb : 0 ≤ Z ∧ Z ≤ 8000 := by
        rw [hZ]
        have b1 := Int.mul_nonneg hxb.1 (show 0 ≤ (q : Int) by omega)
        have b2 : x * (q : Int) ≤ 1000 * 8 := Int.mul_le_mul hxb.2 (by omega) (by omega) (by omega)
        omega
      have e2 : IntKind.i64.wrap (x * (q : Int)) = Z := by rw [← hZ]; exact IntWalk.i64_in _ (by omega)
      have Hq := Lib.hid (And.intro hq hZ)
      clear hq hZ
      by_cases hg : (e : Int) > Z
      · have hxe : x ≤ e := by
          have := Hq.out.2
          have h := Int.mul_le_mul_of_nonneg_left (show (1 : Int) ≤ (q : Int) by omega) hxb.1
          omega
        have e3 : IntKind.i64.wrap ((e : Int) - x) = ((e - x.toNat : Nat) : Int) := by rw [IntWalk.i64_in _ (by omega)]; omega
        have hnext : Hid (p + 1 < n ∧ (((e - x.toNat : Nat) : Int) = E - Fl.sumI (S.take (p + 1)) ∧ (0 < p + 1 → S.getD (p + 1 - 1) 0 * ((n - (p + 1) : Nat) : Int) ≤ ((e - x.toNat : Nat) : Int)))) := Lib.hid (by
          obtain ⟨hl, _, hs, _⟩ := Hf.out
          have ht := Fl.sumI_take (l := S) (k := p) (by omega)
          rw [← Hx.out] at ht
          have hi := hI.out.1
          have hz := Hq.out.2
          have hqq := Hq.out.1
          have hp1 : p + 1 < n := by
            rcases Nat.lt_or_ge (p + 1) n with h | h
            · exact h
            · have hn' : p + 1 = n := by omega
              rw [hn', ← hl, List.take_length] at ht
              rw [show q = 1 by omega] at hz
              omega
          refine ⟨hp1, by omega, fun _ => ?_⟩
          rw [Nat.add_sub_cancel, ← Hx.out]
          have hz2 : x * (q : Int) = x * ((n - (p + 1) : Nat) : Int) + x := by
            rw [show (q : Int) = ((n - (p + 1) : Nat) : Int) + 1 by omega, Int.mul_add, Int.mul_one]
          omega)
        go_wp2
        go_roundw
        case rel => exact ⟨e - x.toNat, p + 1, hnext.out.1, by omega, rfl, by go_num, Lib.hid hnext.out.2, trivial⟩
        case measure => simp [intOf]; omega
      · have hL : Hid (Cl.LevS L E e q) := Lib.hid (by
          obtain ⟨hl, _, hs, _⟩ := Hf.out
          have h := Cl.lev_stop (S := S) (E := E) (p := p) (by rw [hl]; exact HS.out.2) (by omega) (by rw [← hI.out.1]; omega) (by rw [← hI.out.1, hl, ← Hq.out.1, ← Hx.out, ← Hq.out.2]; omega) (fun h => by rw [← hI.out.1, hl]; exact hI.out.2 h)
          rw [← hI.out.1, hl, ← Hq.out.1] at h
          exact ⟨Cl.lev_perm HS.out.1 h, by omega, by omega⟩)
        go_wp2_with fail
        refine (lowest_any e q w4 (by omega) (by omega) (by omega)).mono ?_
        rintro ee w5 ⟨rfl, hb5⟩
        replace hbox := heap_at hb5 (k := G0) (by have := heap_lt hbox; omega) hbox
        replace hB := hB.trans (hb5.mono (by have := heap_lt hbox; have := hB.size; have := HG.out; omega))
        obtain ⟨⟨d0, d1⟩, f0, f1⟩ := row_fr hbox
        rw [show Fr (mkRat e q) = .agg #[.int .i64 (mkRat e q).num, .int .i64 (mkRat e q).den] from rfl]
        go_wp2_with fail
        have h4 := two_cells hbox (.int .i64 (mkRat e q).num) (.int .i64 (mkRat e q).den)
        exact bodyPost_ret (results_cell_row rfl _ _ _ _ _ _ _ rfl h4 Try.underlying35 rfl infoRat2) rfl ⟨e, q, hL.out, by rw [Int.toNat_natCast], by rw [← HG.out]; exact below_setCell (below_setCell hB (Nat.le_refl _) _) (Nat.le_refl _) _⟩
end Go.Proofs.Yteecfdjphjkdkaa
