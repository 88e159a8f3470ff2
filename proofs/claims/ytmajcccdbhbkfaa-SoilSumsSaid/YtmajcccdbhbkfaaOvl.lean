import Derived.Test.YtmajcccdbhbkfaaOvm
namespace Go.Proofs.Ytmajcccdbhbkfaa
open Go.RowKit

theorem infoOvAll : (Try.prog.info? 99).map (fun i => (i.zero, i.size, i.bytes)) = some (some (.agg #[.int .i64 0, .int .i64 0, .int .i64 0]), 3, 24) := by kernel_rfl
theorem info_ov : ∃ i, Try.prog.info? 99 = some i ∧ i.zero = some (.agg #[.int .i64 0, .int .i64 0, .int .i64 0]) ∧ i.size = 3 ∧ i.bytes = 24 := by
  have h := infoOvAll
  cases hi : Try.prog.info? 99 with
  | none => rw [hi] at h; cases h
  | some i =>
    rw [hi] at h
    simp only [Option.map_some, Option.some.injEq, Prod.mk.injEq] at h
    exact ⟨i, rfl, h.1, h.2.1, h.2.2⟩
/-- The blocks in which it lies are not v's own. -/
def Apart (v : Value) (b : Nat) : Prop := ∀ q, v.ownBlock = some q → q ≠ b
theorem Apart.cell {w w' : World} {v : Value} {b : Nat} (h : Apart v b) (hg : w.grownBy w' v.ownBlock) (hb : b < w.heap.size) (o : Nat) : w'.cell? ⟨b, o, none⟩ = w.cell? ⟨b, o, none⟩ :=
  hg.cell_far _ hb (fun hq => h b hq.symm rfl)
theorem Apart.next {v : Value} {b g H n cap : Nat} (h : Apart v b) (hat : v.ownBlock = some g ∨ g = H) (hb : b < H) : Apart (.slice (some ⟨g, 0, none⟩) n cap) b := by
  intro q hq
  have e : g = q := by simpa [Value.ownBlock] using hq
  subst e
  rcases hat with hat | rfl
  · exact h _ hat
  · omega
theorem Apart.old {w : World} {base e size n : Nat} {v : Value} {xs : List Value} (h : w.ownsRow base e size v n xs) {b : Nat} (hb : w.heap.size ≤ b) : Apart v b := by
  intro q hq
  have := (h.lt q hq).2
  omega

set_option maxRecDepth 100000 in
set_option maxHeartbeats 1000000 in
theorem overlaps_any (f g : List (Int × Int)) (ao : Option Addr) (n cap : Nat) (ao2 : Option Addr) (m cap2 : Nat) (w : World) (hp : Pts w ao f) (hln : n = f.length) (hp2 : Pts w ao2 g) (hlm : m = g.length) (hok : Fl.Ok f) (h6 : f.length ≤ 6) (hok2 : Fl.Ok g) (h62 : g.length ≤ 6) (h1 : 1 ≤ f.length) (h12 : 1 ≤ g.length) :
    Calls Try.prog 89 #[.slice ao n cap, .slice ao2 m cap2] w fun e w' => ∃ v, e = .returned v ∧ w'.ownsRow w.heap.size 99 3 v (Fl.ovs (Fl.strips 0 f) (Fl.strips 0 g)).length (flat3 (Fl.ovs (Fl.strips 0 f) (Fl.strips 0 g))) ∧ Below w.heap.size w w' := by
  have Hn := Lib.hid hln
  have Hm := Lib.hid hlm
  have hn6 : n ≤ 6 := by omega
  have hm6 : m ≤ 6 := by omega
  clear hln hlm
  obtain ⟨i0, hi0, hz0, hz1, hz2⟩ := info_ov
  go_enter Try.func89, Try.ntmps89
  go_wp2_with fail
  refine (strips_any f _ _ _ _ hp Hn.out hok h6).mono ?_
  rintro e w3 ⟨v3, rfl, hov, hb3⟩
  replace hp2 := hp2.below hb3
  obtain ⟨gb, cap3, rfl, hgb, hgl, hgc, hcells⟩ := own_cells hov (by omega)
  clear hov hp
  have Hc := Lib.hid hcells
  have Hb3 := Lib.hid hb3
  clear hcells hb3
  obtain ⟨F, hF⟩ : ∃ F, F = Fl.strips 0 f := ⟨_, rfl⟩
  obtain ⟨G, hG⟩ : ∃ G, G = Fl.strips 0 g := ⟨_, rfl⟩
  have hFl : F.length = n := by rw [hF, strips_length, Hn.out]
  have hGl : G.length = m := by rw [hG, strips_length, Hm.out]
  have hFm : ∀ x ∈ F, 0 ≤ x.1 ∧ x.1 ≤ 120 ∧ 0 ≤ x.2.1 ∧ x.2.1 ≤ 120 ∧ 0 ≤ x.2.2 ∧ x.2.2 ≤ 20 := fun x hx => by
    rw [hF] at hx
    have := Fl.strips_mem hok hx
    have := Fl.len_bound hok
    omega
  have hGm : ∀ x ∈ G, 0 ≤ x.1 ∧ x.1 ≤ 120 ∧ 0 ≤ x.2.1 ∧ x.2.1 ≤ 120 ∧ 0 ≤ x.2.2 ∧ x.2.2 ≤ 20 := fun x hx => by
    rw [hG] at hx
    have := Fl.strips_mem hok2 hx
    have := Fl.len_bound hok2
    omega
  rw [← hF] at Hc
  have HG := Lib.hid (And.intro hF hG)
  have HFl := Lib.hid (And.intro hFl hGl)
  have HM := Lib.hid (And.intro hFm hGm)
  clear hF hG hFl hGl hFm hGm
  rw [← Hn.out] at hgc ⊢
  go_wp2_with fail
  go_loopw [5, 15] (fun v i wr => ∃ k : Nat, k ≤ n ∧ i = .int .i64 k ∧ Hid (wr.ownsRow w3.heap.size 99 3 v (Fl.ovs (F.take k) G).length (flat3 (Fl.ovs (F.take k) G))) ∧ Below w3.heap.size w3 wr) (fun _ i _ => n - (intOf i).toNat)
  case atStart => exact ⟨0, Nat.zero_le _, rfl, Lib.hid ⟨rfl, .inl ⟨rfl, rfl⟩⟩, Below.refl _ _⟩
  case round =>
    obtain ⟨k, hk, rfl, hown, hb⟩ := hrel
    by_cases hlt : k < n
    · have hkF : k < F.length := by rw [HFl.out.1]; exact hlt
      obtain ⟨q0, q1, q2⟩ := flat3_at hkF
      have z0 := (hb.cell (p := ⟨gb, k * 3, none⟩) hgl).trans (Hc.out _ _ q0)
      have z1 := (hb.cell (p := ⟨gb, k * 3 + 1, none⟩) hgl).trans (Hc.out _ _ q1)
      have z2 := (hb.cell (p := ⟨gb, k * 3 + 2, none⟩) hgl).trans (Hc.out _ _ q2)
      have hbd := HM.out.1 _ (List.getElem_mem hkF)
      have hst := Fl.ovs_take (G := G) hkF
      have hlen := Fl.ovs_length (F.take k) G
      obtain ⟨s, hs⟩ : ∃ s, s = F[k] := ⟨_, rfl⟩
      rw [← hs] at z0 z1 z2 hbd hst
      obtain ⟨a, b, x⟩ := s
      simp only at z0 z1 z2 hbd
      have Hst := Lib.hid hst
      have hlen2 : (Fl.ovs (F.take k) G).length ≤ 36 := by
        have h3 : (F.take k).length ≤ 6 := by rw [List.length_take]; omega
        have h4 : (F.take k).length * G.length ≤ 6 * 6 := Nat.mul_le_mul h3 (by rw [HFl.out.2]; exact hm6)
        omega
      obtain ⟨U, hU⟩ : ∃ U, U = Fl.ovs (F.take k) G := ⟨_, rfl⟩
      rw [← hU] at hown hlen2 Hst
      have i1 : (k : Int) < (n : Int) := by omega
      clear q0 q1 q2 hs hst hlen hU
      have hsz := hb.size
      have hpw := hp2.below hb
      have hA7 := (Below.refl _ wr).alloc (Nat.le_refl _) (.cells #[.int .i64 a, .int .i64 b, .int .i64 x] 104)
      have r7 := heap_alloc_new wr (.cells #[.int .i64 a, .int .i64 b, .int .i64 x] 104)
      have hpA := hpw.below hA7
      have hownA := own_below hown.out hA7
      have hap7 := Apart.old hown.out (Nat.le_refl wr.heap.size)
      have hbA := hb.trans (hA7.mono hsz)
      have HH := Lib.hid (And.intro hpA (And.intro hownA (And.intro hbA (And.intro r7 hap7))))
      clear hpw hA7 r7 hpA hownA hbA hap7 hown hb
      go_wp2_with fail
      obtain ⟨hpA, hownA, hbA, r7, hap7⟩ := HH.out
      clear HH z0 z1 z2
      refine (strips_any g _ _ _ _ hpA Hm.out hok2 h62).mono ?_
      rintro e w4 ⟨v4, rfl, hov, hb4⟩
      have hs7 : (wr.alloc (.cells #[.int .i64 a, .int .i64 b, .int .i64 x] 104)).heap.size = wr.heap.size + 1 := by simp
      obtain ⟨gc, cap4, rfl, hgcb, hgcl, hgcc, hcells⟩ := own_cells hov (by omega)
      rw [← HG.out.2] at hcells
      rw [← Hm.out] at hgcc ⊢
      have hapc := Apart.old hownA hgcb
      replace hbA := hbA.trans (hb4.mono hbA.size)
      replace hownA := Lib.hid (own_below hownA hb4)
      replace r7 := heap_keep hb4 r7
      have hl7 := heap_lt r7
      have hs4 := hbA.size
      have hc70 := cell_of_row w4 _ 0 _ _ _ r7
      have hc71 := cell_of_row w4 _ 1 _ _ _ r7
      have hc72 := cell_of_row w4 _ 2 _ _ _ r7
      simp at hc70 hc71 hc72
      have HS := Lib.hid (And.intro (And.intro hap7 hapc) (And.intro hc70 (And.intro hc71 (And.intro hc72 hcells))))
      have hgc7 : gc ≠ wr.heap.size := by omega
      clear hov hb4 hpA hs7 hgcb hap7 hapc hc70 hc71 hc72 hcells r7
      generalize wr.heap.size = T7 at hl7 HS hgc7 hsz ⊢
      go_wp2_with fail
      go_loopw [5, 22] (fun v i wr => ∃ j : Nat, j ≤ m ∧ i = .int .i64 j ∧ Hid (wr.ownsRow w3.heap.size 99 3 v (U ++ Fl.ovRow (a, b, x) (G.take j)).length (flat3 (U ++ Fl.ovRow (a, b, x) (G.take j)))) ∧ Hid (Apart v T7 ∧ Apart v gc) ∧ Hid (wr.cell? ⟨T7, 0, none⟩ = some (.int .i64 a) ∧ wr.cell? ⟨T7, 1, none⟩ = some (.int .i64 b) ∧ wr.cell? ⟨T7, 2, none⟩ = some (.int .i64 x) ∧ ∀ (j : Nat) (u : Value), (flat3 G)[j]? = some u → wr.cell? ⟨gc, j, none⟩ = some u) ∧ T7 < wr.heap.size ∧ gc < wr.heap.size ∧ Below w3.heap.size w3 wr) (fun _ i _ => m - (intOf i).toNat)
      case atStart => exact ⟨0, Nat.zero_le _, rfl, Lib.hid (by simpa [Fl.ovRow] using hownA.out), Lib.hid HS.out.1, Lib.hid HS.out.2, hl7, hgcl, hbA⟩
      case round =>
        clear hl7 hgcl hbA hownA HS hs4
        obtain ⟨j, hj, rfl, hown, hap, hce, hl7, hlc, hb⟩ := hrel
        have hs4 := hb.size
        by_cases hlj : j < m
        · have hjG : j < G.length := by rw [HFl.out.2]; exact hlj
          obtain ⟨q0, q1, q2⟩ := flat3_at hjG
          have y0 := hce.out.2.2.2 _ _ q0
          have y1 := hce.out.2.2.2 _ _ q1
          have y2 := hce.out.2.2.2 _ _ q2
          have hbd2 := HM.out.2 _ (List.getElem_mem hjG)
          have hst2 := Fl.ovRow_take (s := (a, b, x)) hjG
          have hlen3 := Fl.ovRow_length (a, b, x) (G.take j)
          rw [List.length_take] at hlen3
          obtain ⟨t, ht⟩ : ∃ t, t = G[j] := ⟨_, rfl⟩
          rw [← ht] at y0 y1 y2 hbd2 hst2
          obtain ⟨c, d, y⟩ := t
          simp only at y0 y1 y2 hbd2
          have hUV : (U ++ Fl.ovRow (a, b, x) (G.take j)).length ≤ 42 := by rw [List.length_append]; omega
          have hst3 : U ++ Fl.ovRow (a, b, x) (G.take (j + 1)) = (U ++ Fl.ovRow (a, b, x) (G.take j)) ++ Fl.ovZ (a, b, x) (c, d, y) := by rw [hst2, List.append_assoc]
          obtain ⟨V, hV⟩ : ∃ V, V = U ++ Fl.ovRow (a, b, x) (G.take j) := ⟨_, rfl⟩
          rw [← hV] at hown hUV hst3
          have Hst3 := Lib.hid hst3
          have i2 : (j : Int) < (m : Int) := by omega
          clear q0 q1 q2 ht hst2 hst3 hlen3 hV
          have hA9 := (Below.refl _ wr).alloc (Nat.le_refl _) (.cells #[.int .i64 c, .int .i64 d, .int .i64 y] 104)
          have r9 := heap_alloc_new wr (.cells #[.int .i64 c, .int .i64 d, .int .i64 y] 104)
          have x0 := keep_cell hA9 hce.out.1
          have x1 := keep_cell hA9 hce.out.2.1
          have x2 := keep_cell hA9 hce.out.2.2.1
          have hG9 : Hid (∀ (j : Nat) (u : Value), (flat3 G)[j]? = some u → (wr.alloc (.cells #[.int .i64 c, .int .i64 d, .int .i64 y] 104)).cell? ⟨gc, j, none⟩ = some u) := Lib.hid fun j u h => keep_cell hA9 (hce.out.2.2.2 j u h)
          have hown9 := Lib.hid (own_below hown.out hA9)
          have hb9 := hb.trans (hA9.mono hs4)
          have e9 : (wr.alloc (.cells #[.int .i64 c, .int .i64 d, .int .i64 y] 104)).heap.size = wr.heap.size + 1 := by simp
          go_upto_region 8 with fail
          have hl9 : T7 < wr.heap.size + 1 := by omega
          have hlc9 : gc < wr.heap.size + 1 := by omega
          generalize hT9 : wr.heap.size = T9 at e9 r9 hl9 hlc9 ⊢
          generalize (wr.alloc (.cells #[.int .i64 c, .int .i64 d, .int .i64 y] 104)) = W9 at x0 x1 x2 hG9 hown9 hb9 e9 r9 ⊢
          have x3 := cell_of_row W9 _ 0 _ _ _ r9
          have x4 := cell_of_row W9 _ 1 _ _ _ r9
          have x5 := cell_of_row W9 _ 2 _ _ _ r9
          simp at x3 x4 x5
          clear hT9 hA9 hce hown hb y0 y1 y2 r9
          go_region
          obtain ⟨LO, hLO⟩ : ∃ z, z = (if a < c then c else a) := ⟨_, rfl⟩
          obtain ⟨HI, hHI⟩ : ∃ z, z = (if d < b then d else b) := ⟨_, rfl⟩
          rw [← hLO, ← hHI]
          have eL : max a c = LO := by rw [hLO]; split <;> omega
          have eH : min b d = HI := by rw [hHI]; split <;> omega
          have hst := Hst3.out
          unfold Fl.ovZ at hst
          simp only at hst
          rw [eL, eH] at hst
          have bL : 0 ≤ LO ∧ LO ≤ 200 := by omega
          have bH : 0 ≤ HI ∧ HI ≤ 200 := by omega
          clear eL eH hLO hHI Hst3
          replace hb9 : Below w3.heap.size w3 W9.drew := below_drewN hb9 1
          replace hown9 : Hid (W9.drew.ownsRow w3.heap.size 99 3 u5 V.length (flat3 V)) := Lib.hid (own_below hown9.out (below_drewN (Below.refl _ W9) 1))
          replace x0 : W9.drew.cell? ⟨T7, 0, none⟩ = some (.int .i64 a) := x0
          replace x1 : W9.drew.cell? ⟨T7, 1, none⟩ = some (.int .i64 b) := x1
          replace x2 : W9.drew.cell? ⟨T7, 2, none⟩ = some (.int .i64 x) := x2
          replace x5 : W9.drew.cell? ⟨T9, 2, none⟩ = some (.int .i64 y) := x5
          replace hG9 : Hid (∀ (j : Nat) (u : Value), (flat3 G)[j]? = some u → W9.drew.cell? ⟨gc, j, none⟩ = some u) := hG9
          replace e9 : W9.drew.heap.size = T9 + 1 := e9
          clear x3 x4
          generalize W9.drew = W6 at hb9 hown9 x0 x1 x2 x5 hG9 e9 ⊢
          have hs6 := hb9.size
          have hal7 : T7 < W6.heap.size := by omega
          have halc : gc < W6.heap.size := by omega
          clear e9
          by_cases hlh : LO < HI
          · rw [if_pos hlh] at hst
            have Hst := Lib.hid hst
            clear hst
            have y1 : IntKind.i64.wrap (HI - LO) = HI - LO := IntWalk.i64_in _ (by omega)
            go_wp2_with (first | (at_builtin; refine wpList_append_lies _ rfl _ _ 96 rfl w3.heap.size 99 i0 (.agg #[.int .i64 0, .int .i64 0, .int .i64 0]) 3 24 Try.underlying96 hi0 hz0 hz1 hz2 rfl (by decide) _ V.length _ rfl (hown9.out.alloc _) ⟨W6.heap.size, 0, none⟩ 1 1 [.int .i64 (HI - LO), .int .i64 x, .int .i64 y] rfl rfl (World.news_of_block (cs := #[.int .i64 (HI - LO), .int .i64 x, .int .i64 y]) (t := 99) (fr := (0, 0)) (heap_alloc_new W6 _)) (by simp [Value.oneCell']) (by omega) (by unfold maxLen; omega) (by omega) (by simp; omega) (W6.heap.size + 1) (by simp) ?_; intro g5 cap5 w7 hown7 hgrow hat hlt7))
            have hb7 : Below w3.heap.size w3 w7 := (hb9.alloc hs6 _).grown hgrow (by simp; omega) (fun q hq => (hown9.out.lt _ hq).1)
            have hAx := (Below.refl _ W6).alloc (Nat.le_refl _) (.cells #[.int .i64 (HI - LO), .int .i64 x, .int .i64 y] 99)
            have hbig : (W6.alloc (.cells #[.int .i64 (HI - LO), .int .i64 x, .int .i64 y] 99)).heap.size = W6.heap.size + 1 := by simp
            have hb7s := hgrow.size
            have hcell : Hid (w7.cell? ⟨T7, 0, none⟩ = some (.int .i64 a) ∧ w7.cell? ⟨T7, 1, none⟩ = some (.int .i64 b) ∧ w7.cell? ⟨T7, 2, none⟩ = some (.int .i64 x) ∧ ∀ (j : Nat) (u : Value), (flat3 G)[j]? = some u → w7.cell? ⟨gc, j, none⟩ = some u) := Lib.hid ⟨(hap.out.1.cell hgrow (by omega) _).trans (keep_cell hAx x0), (hap.out.1.cell hgrow (by omega) _).trans (keep_cell hAx x1), (hap.out.1.cell hgrow (by omega) _).trans (keep_cell hAx x2), fun j u h => (hap.out.2.cell hgrow (by omega) _).trans (keep_cell hAx (hG9.out j u h))⟩
            have hap2 : Hid (Apart (.slice (some ⟨g5, 0, none⟩) (V.length + 1) cap5) T7 ∧ Apart (.slice (some ⟨g5, 0, none⟩) (V.length + 1) cap5) gc) := Lib.hid ⟨hap.out.1.next hat (by omega), hap.out.2.next hat (by omega)⟩
            have hown8 : Hid (w7.ownsRow w3.heap.size 99 3 (.slice (some ⟨g5, 0, none⟩) (V.length + 1) cap5) (U ++ Fl.ovRow (a, b, x) (G.take (j + 1))).length (flat3 (U ++ Fl.ovRow (a, b, x) (G.take (j + 1))))) := Lib.hid (by rw [Hst.out, flat3_app, List.length_append]; exact hown7)
            have k7 : T7 < w7.heap.size := by omega
            have kc : gc < w7.heap.size := by omega
            clear hown7 hgrow hat hlt7 hAx hbig hb7s hap x0 x1 x2 x5 hG9 hown9 hb9
            go_roundw
            case rel => exact ⟨j + 1, by omega, by go_num, hown8, hap2, hcell, k7, kc, hb7⟩
            case measure => simp [intOf]; omega
          · rw [if_neg hlh, List.append_nil] at hst
            have Hst := Lib.hid hst
            clear hst
            go_wp2
            go_roundw
            case rel => exact ⟨j + 1, by omega, by go_num, Lib.hid (by rw [Hst.out]; exact hown9.out), Lib.hid hap.out, Lib.hid ⟨x0, x1, x2, hG9.out⟩, by omega, by omega, hb9⟩
            case measure => simp [intOf]; omega
        · have hjm : j = m := by omega
          have ho := hown.out
          rw [hjm, ← HFl.out.2, List.take_length, ← Hst.out] at ho
          have Ho := Lib.hid ho
          clear ho hjm hown hap hce hl7 hlc hs4
          go_wp2
          go_roundw
          case rel => exact ⟨k + 1, by omega, by go_num, Ho, hb⟩
          case measure => simp [intOf]; omega
    · have hk2 : k = n := by omega
      have ho := hown.out
      rw [hk2, ← HFl.out.1, List.take_length] at ho
      have hbE := Hb3.out.trans (hb.mono Hb3.out.size)
      have Ho := Lib.hid (own_mono ho Hb3.out.size)
      rw [HG.out.1, HG.out.2] at Ho
      clear ho hown hk2
      go_wp2
      go_ret
      exact ⟨_, rfl, Ho.out, hbE⟩
end Go.Proofs.Ytmajcccdbhbkfaa
