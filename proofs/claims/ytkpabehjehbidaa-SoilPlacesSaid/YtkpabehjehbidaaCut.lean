import Derived.Test.YtkpabehjehbidaaPl
namespace Go.Proofs.Ytkpabehjehbidaa
open Go.RowKit
namespace Fl
/-- The places of worths, each from the one before on. -/
def cutsF (l : List (Int × Int)) (a : Rat) : List Rat → List Rat
  | [] => []
  | w :: r => place l a w :: cutsF l (place l a w) r
def CutOk (l : List (Int × Int)) (a : Rat) : List Rat → Prop
  | [] => True
  | w :: r => GoOk a w ∧ CutOk l (place l a w) r
end Fl
theorem infoRtAll : (Try.prog.info? 29).map (fun i => (i.zero, i.size, i.bytes)) = some (some (.agg #[.int .i64 0, .int .i64 0]), 2, 16) := by kernel_rfl
theorem info_rt : ∃ i, Try.prog.info? 29 = some i ∧ i.zero = some (.agg #[.int .i64 0, .int .i64 0]) ∧ i.size = 2 ∧ i.bytes = 16 := by
  have h := infoRtAll
  cases hi : Try.prog.info? 29 with
  | none => rw [hi] at h; cases h
  | some i =>
    rw [hi] at h
    simp only [Option.map_some, Option.some.injEq, Prod.mk.injEq] at h
    exact ⟨i, rfl, h.1, h.2.1, h.2.2⟩
theorem cutsF_length (l : List (Int × Int)) (a : Rat) (ws : List Rat) : (Fl.cutsF l a ws).length = ws.length := by
  induction ws generalizing a with
  | nil => rfl
  | cons w r ih => simp [Fl.cutsF, ih]

theorem own_mono {w : World} {base base' n size : Nat} {e : TypeId} {v : Value} {xs : List Value} (h : w.ownsRow base e size v n xs) (hb : base' ≤ base) : w.ownsRow base' e size v n xs := by
  refine ⟨h.1, ?_⟩
  rcases h.2 with h0 | ⟨g, cap, cur, rfl, hb0, r⟩
  · exact .inl h0
  · exact .inr ⟨g, cap, cur, rfl, by omega, r⟩
theorem Frs.take {w : World} {ao : Option Addr} {l : List Rat} (h : Frs w ao l) (m : Nat) : Frs w ao (l.take m) := by
  refine ⟨fun h0 => ?_⟩
  have hl : 0 < l.length := by simp at h0; omega
  obtain ⟨b, off, rfl, hlt, hc⟩ := Pts.cells h (by simpa using hl)
  refine ⟨b, off, rfl, hlt, fun i hi => ?_⟩
  have hi' : i < m ∧ i < l.length := by simp at hi; omega
  have := hc i (by simpa using hi'.2)
  have e : ((l.take m).map pr).getD i (0, 0) = (l.map pr).getD i (0, 0) := by
    simp [List.getD_eq_getElem?_getD, hi'.1]
  rw [e]
  exact this

set_option maxRecDepth 100000 in
set_option maxHeartbeats 4000000 in
theorem cut_any (l : List (Int × Int)) (ws : List Rat) (ao : Option Addr) (n cap : Nat) (ao2 : Option Addr) (m cap2 : Nat) (w : World) (hp : Pts w ao l) (hln : n = l.length) (hok : Fl.Ok l) (h1 : 1 ≤ l.length) (h6 : l.length ≤ 6)
    (hp2 : Frs w ao2 ws) (hlm : m = ws.length) (hm1 : 1 ≤ m) (hm : m ≤ 100) (hmc : m ≤ cap2) (hco : Fl.CutOk l 0 (ws.take (m - 1))) :
    Calls Try.prog 74 #[.slice ao n cap, .slice ao2 m cap2] w fun e w' => ∃ v, e = .returned v ∧ w'.ownsRow w.heap.size 29 2 v (m - 1) (flat2 ((Fl.cutsF l 0 (ws.take (m - 1))).map pr)) ∧ Below w.heap.size w w' := by
  obtain ⟨i0, hi0, hz0, hz1, hz2⟩ := info_rt
  obtain ⟨m1, rfl⟩ : ∃ m1, m = m1 + 1 := ⟨m - 1, by omega⟩
  have em : m1 + 1 - 1 = m1 := by omega
  rw [em] at hco ⊢
  clear em
  have Hn := Lib.hid hln
  have hp3 := hp2.take m1
  obtain ⟨us, hus⟩ : ∃ us, us = ws.take m1 := ⟨_, rfl⟩
  rw [← hus] at hp3 hco ⊢
  have hul : Hid (m1 = us.length) := Lib.hid (by rw [hus, List.length_take]; omega)
  clear hln hp2 hlm hus
  obtain ⟨C, hC⟩ : ∃ c, c = Fl.cutsF l 0 us := ⟨_, rfl⟩
  rw [← hC]
  have HC := Lib.hid hC
  clear hC
  have hao : Hid (0 < m1 → ∃ b off, ao2 = some ⟨b, off, none⟩) := Lib.hid fun h0 => by
    obtain ⟨b, off, e, _⟩ := hp3.at (k := 0) (by have := hul.out; omega)
    exact ⟨b, off, e⟩
  go_enter Try.func74, Try.ntmps74
  go_wp2_with fail
  refine (whole0_any _).mono ?_
  rintro e w1 ⟨rfl, hb1⟩
  have e1 : IntKind.i64.wrap ((m1 : Int) + 1 - 1) = (m1 : Int) := IntWalk.i64_in _ (by omega) |>.trans (by omega)
  go_wp2_with fail
  have hB2 : Below w.heap.size w (w1.alloc (.cells #[.int .i64 0, .int .i64 1] 70)) := hb1.alloc hb1.size _
  have r6 := heap_alloc_new w1 (.cells #[.int .i64 0, .int .i64 1] 70)
  have hs1 := hb1.size
  have hsz : (w1.alloc (.cells #[.int .i64 0, .int .i64 1] 70)).heap.size = w1.heap.size + 1 := by simp
  clear hb1
  generalize w1.alloc (.cells #[.int .i64 0, .int .i64 1] 70) = W2 at hB2 r6 hsz ⊢
  obtain ⟨G, hG⟩ : ∃ g, g = w1.heap.size := ⟨_, rfl⟩
  rw [← hG] at hs1 hsz r6 ⊢
  clear hG
  go_loopw [5, 16] (fun v i wr => ∃ k : Nat, k ≤ m1 ∧ i = .int .i64 k ∧ ∃ (ak : Rat) (done : List Rat), Hid (done ++ Fl.cutsF l ak (us.drop k) = C ∧ Fl.CutOk l ak (us.drop k)) ∧ Hid (wr.ownsRow (G + 1) 29 2 v k (flat2 (done.map pr))) ∧ wr.heap[G]? = some (.cells #[.int .i64 ak.num, .int .i64 ak.den] 70 (0, 0)) ∧ Below w.heap.size w wr ∧ G + 1 ≤ wr.heap.size) (fun _ i _ => m1 - (intOf i).toNat)
  case atStart => exact ⟨0, Nat.zero_le _, rfl, 0, [], Lib.hid ⟨HC.out.symm, hco⟩, Lib.hid ⟨rfl, .inl ⟨rfl, rfl⟩⟩, r6, hB2, by omega⟩
  case round =>
    clear r6 hB2 hsz
    obtain ⟨k, hk, rfl, ak, done, HD, hown, r6, hb, hs⟩ := hrel
    by_cases hlt : k < m1
    · have hku : k < us.length := by have := hul.out; omega
      obtain ⟨b, off, rfl, hbs, hc1, hc2⟩ := hp3.at hku
      rw [← hb.cell (p := ⟨b, _, none⟩) hbs] at hc1 hc2
      have i1 : (k : Int) < (m1 : Int) := by omega
      have hdr : us.drop k = us[k] :: us.drop (k + 1) := List.drop_eq_getElem_cons hku
      obtain ⟨x, hx⟩ : ∃ x, x = us[k] := ⟨_, rfl⟩
      rw [← hx] at hc1 hc2 hdr
      have hD := HD.out
      rw [hdr] at hD
      clear HD hdr hx
      obtain ⟨hD1, hgo, hco2⟩ := hD
      have HD := Lib.hid (And.intro hD1 hco2)
      clear hD1 hco2
      have hpw := hp.below hb
      have hbw : b < wr.heap.size := by have := hb.size; omega
      have hl6 := heap_lt r6
      obtain ⟨⟨c0, c1⟩, -, -⟩ := row_fr r6
      have hAb := (Below.refl _ wr).alloc (Nat.le_refl _) (.cells #[.int .i64 x.num, .int .i64 x.den] 70)
      have hpA := hpw.below hAb
      go_wp2_with fail
      refine (place_any l ak x _ _ _ _ hpA Hn.out hok h1 h6 hgo).mono ?_
      rintro e w5 ⟨rfl, hb5⟩
      obtain ⟨p, hp5⟩ : ∃ p, p = Fl.place l ak x := ⟨_, rfl⟩
      rw [← hp5]
      have HP := Lib.hid hp5
      clear hp5
      have hbb := hAb.trans (hb5.mono hAb.size)
      have r65 := heap_keep hbb r6
      have hown5 := own_below hown.out hbb
      have hB5 := hb.trans (hbb.mono hb.size)
      have hs5 : G + 1 ≤ w5.heap.size := by have := hbb.size; omega
      clear hb5 hAb hpA hpw hown r6 c0 c1 hbb
      obtain ⟨⟨c0, c1⟩, f0, f1⟩ := row_fr r65
      have r6n := two_cells r65 (.int .i64 p.num) (.int .i64 p.den)
      have hownn := ownsRow_setCell_below (ownsRow_setCell_below hown5 (a := ⟨G, 0, none⟩) (by show G < G + 1; omega) (.int .i64 p.num)) (a := ⟨G, 1, none⟩) (by show G < G + 1; omega) (.int .i64 p.den)
      have hBn := below_setCell (below_setCell hB5 hs1 (.int .i64 p.num) (o := 0)) hs1 (.int .i64 p.den) (o := 1)
      have hsn : G + 1 ≤ ((w5.setCell ⟨G, 0, none⟩ (.int .i64 p.num)).setCell ⟨G, 1, none⟩ (.int .i64 p.den)).heap.size := by simpa [World.setCell] using hs5
      obtain ⟨W6, hW6⟩ : ∃ x, x = (w5.setCell ⟨G, 0, none⟩ (.int .i64 p.num)).setCell ⟨G, 1, none⟩ (.int .i64 p.den) := ⟨_, rfl⟩
      rw [← hW6] at r6n hownn hBn hsn
      go_upto_region 7 with fail
      rw [← hW6]
      clear hW6 hown5 r65 c0 c1 f0 f1 hB5 hs5
      have hownn' := Lib.hid hownn
      clear hownn
      obtain ⟨⟨c0, c1⟩, -, -⟩ := row_fr r6n
      have hl6n := heap_lt r6n
      have ra6 := heap_keep ((Below.refl _ W6).alloc (Nat.le_refl _) (.cells #[.int .i64 p.num, .int .i64 p.den] 29)) r6n
      go_wp2_with (first | (at_builtin; refine wpList_append_own _ rfl _ _ 39 rfl (G + 1) 29 i0 (.agg #[.int .i64 0, .int .i64 0]) 2 16 Try.underlying39 hi0 hz0 hz1 hz2 rfl (by decide) _ k _ rfl (hownn'.out.alloc _) ⟨W6.heap.size, 0, none⟩ 1 1 [.int .i64 p.num, .int .i64 p.den] rfl rfl (World.news_of_block (cs := #[.int .i64 p.num, .int .i64 p.den]) (t := 29) (fr := (0, 0)) (heap_alloc_new W6 _)) (by simp [Value.oneCell']) (by unfold maxLen; omega) (by omega) (by simp; omega) ?_; intro v' w3 hown3 hgrow3 hnil3; have hb8 : Below w.heap.size w w3 := (hBn.alloc (by have := hBn.size; exact this) _).grown hgrow3 (by have := hBn.size; simp; omega) (fun q hq => by have := (hownn'.out.lt _ hq).1; omega); have hb9 : Below (G + 1) (W6.alloc (.cells #[.int .i64 p.num, .int .i64 p.den] 29)) w3 := (Below.refl _ _).grown hgrow3 (by simp; omega) (fun q hq => (hownn'.out.lt _ hq).1); clear hgrow3 hnil3))
      go_roundw
      case rel =>
        refine ⟨k + 1, by omega, by go_num, p, done ++ [p], Lib.hid ⟨?_, ?_⟩, Lib.hid ?_, (hb9.block G (by omega)).trans ra6, hb8, by have := hb9.size; simp at this; omega⟩
        · rw [← HD.out.1, List.append_assoc, HP.out]; rfl
        · rw [HP.out]; exact HD.out.2
        · rw [List.map_append, flat2_app]; exact hown3
      case measure => simp [intOf]; omega
    · have hk2 : k = m1 := by omega
      have Hk := Lib.hid hk2
      clear hk2
      go_wp2
      go_ret
      have hD := HD.out.1
      rw [Hk.out, hul.out, List.drop_length] at hD
      refine ⟨_, rfl, ?_, hb⟩
      have ho := hown.out
      rw [Hk.out] at ho
      have e : done = C := by rw [← hD]; simp [Fl.cutsF]
      rw [← e]
      exact own_mono ho (by omega)
end Go.Proofs.Ytkpabehjehbidaa
