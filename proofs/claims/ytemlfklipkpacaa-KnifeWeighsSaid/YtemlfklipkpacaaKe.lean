import Derived.Test.YtemlfklipkpacaaKd
/- A field as one of its owners values it; the worth of what of it lies between two places. -/
namespace Go.Proofs.Ytemlfklipkpacaa
open Go.RowKit

theorem Kn.Z_fst {L : List Int} {V : List (List Int)} {o : Nat} (h : (V.getD o []).length = L.length) : (Kn.Z L V o).map Prod.fst = L := by
  unfold Kn.Z
  rw [List.map_fst_zip (by omega)]
theorem Kn.Z_snd {L : List Int} {V : List (List Int)} {o : Nat} (h : (V.getD o []).length = L.length) : (Kn.Z L V o).map Prod.snd = V.getD o [] := by
  unfold Kn.Z
  rw [List.map_snd_zip (by omega)]

set_option maxRecDepth 100000 in
set_option maxHeartbeats 2000000 in
theorem kown_any (L : List Int) (V : List (List Int)) (o : Nat) (aoL : Option Addr) (nL cL : Nat) (aoV : Option Addr) (nV cV : Nat) (w : World) (hL : Ints w aoL L) (hV : Tab w aoV V) (hnL : nL = L.length) (hnV : nV = V.length) (hok : Kn.Ok L V) (ho : o < V.length) :
    Calls Try.prog 107 #[.agg #[.slice aoL nL cL, .slice aoV nV cV], .int .i64 o] w fun e w' => ∃ ao cap, e = .returned (.slice ao nL cap) ∧ Lnd w' ao (Fl.strips 0 (Kn.Z L V o)) ∧ Below w.heap.size w w' := by
  have Hn := Lib.hid hnL
  have hA := (Below.refl _ w).alloc (Nat.le_refl _) (.cells #[.slice aoL nL cL, .slice aoV nV cV] 57)
  have r0 := heap_alloc_new w (.cells #[.slice aoL nL cL, .slice aoV nV cV] 57)
  obtain ⟨b, off, aoi, ci, rfl, z0, z1, z2⟩ := hV.at ho
  have hrow := hok.rowAt ho
  have HR := Lib.hid hrow
  rw [hrow.1, ← hnL] at z0
  have hb0 := block_lt_of_cell z0
  replace hL := hL.below hA
  replace z2 := z2.below hA
  replace z0 := keep_cell hA z0
  have i1 : (o : Int) < (nV : Int) := by omega
  have hov : o < nV := by omega
  clear hrow hnL hnV hV z1
  go_enter Try.func107, Try.ntmps107
  go_upto_region 1 with fail
  obtain ⟨G, hG⟩ : ∃ G, G = w.heap.size := ⟨_, rfl⟩
  generalize w.alloc (.cells #[.slice aoL nL cL, .slice (some ⟨b, off, none⟩) nV cV] 57) = W at r0 hA hL z0 z2 ⊢
  rw [← hG] at r0 ⊢
  clear hG
  obtain ⟨⟨c0, c1⟩, -, -⟩ := row_fr r0
  have hdr := below_drewN (Below.refl W.heap.size W) 1
  replace hL := hL.below hdr
  replace z2 := z2.below hdr
  go_region_held3 (fun w' => w'.cell? ⟨G, 0, none⟩ = some (.slice aoL nL cL) ∧ w'.cell? ⟨G, 1, none⟩ = some (.slice (some ⟨b, off, none⟩) nV cV) ∧ w'.cell? ⟨b, off + o, none⟩ = some (.slice aoi nL ci))
    (first | exact ⟨c0, c1, z0⟩ | exact ⟨keep_cell hb2 c0, keep_cell hb2 c1, keep_cell hb2 z0⟩)
    (first | (go_at_call 148; refine (klandOf_any 20 (Kn.Z L V o) _ _ _ _ _ _ _ (by rw [Kn.Z_fst HR.out.1]; exact hL) (by rw [Kn.Z_snd HR.out.1]; exact z2) (by rw [hok.zLen ho]; exact Hn.out) (by rw [hok.zLen ho]; exact Hn.out) (hok.zOk ho) (by rw [hok.zLen ho]; exact hok.l6)).mono ?_; rintro e w2 ⟨v, rfl, hov2, hb2⟩))
  rw [hok.zLen ho, ← Hn.out] at hov2
  obtain ⟨ao2, cap2, rfl, hl⟩ := own_lnd hov2 (by rw [strips_length, hok.zLen ho]; exact Hn.out)
  go_wp2
  go_ret
  exact ⟨_, _, rfl, hl, hA.trans (((below_drewN (Below.refl _ W) 1).trans hb2).mono hA.size)⟩
end Go.Proofs.Ytemlfklipkpacaa
