import Derived.Test.YtifhkagngjinfaaVe
import Derived.Test.YtifhkagngjinfaaGc
namespace Go.Proofs.Ytifhkagngjinfaa
open Go.RowKit
set_option maxRecDepth 100000 in
set_option maxHeartbeats 4000000 in
theorem claimEquals_any (x : List (Int × Int)) (aox : Option Addr) (nx cx : Nat) (y : List (Int × Int)) (aoy : Option Addr) (ny cy : Nat) (w : World) (hX : Pts w aox x) (hlx : nx = x.length) (_ : ∀ z ∈ x, Rng z.1 ∧ Rng z.2) (hY : Pts w aoy y) (hly : ny = y.length) (_ : ∀ z ∈ y, Rng z.1 ∧ Rng z.2) :
    Calls Try.prog 10 #[.slice aox nx cx, .slice aoy ny cy] w fun e w' => e = .returned (.bool true) ∧ Below w.heap.size w w' := by
  have Hx := Lib.hid hlx
  have Hy := Lib.hid hly
  have HX := Lib.hid hX
  have HY := Lib.hid hY
  have hB := Below.refl w.heap.size w
  clear hlx hly hX hY
  go_enter Try.func10, Try.ntmps10
  by_cases h1 : 40 < nx
  · go_wp2_with fail
    refine (known_any w).mono ?_
    rintro e w1 ⟨rfl, hb1⟩
    go_wp2_with fail
    go_ret
    exact ⟨rfl, hb1⟩
  · by_cases h2 : 40 < ny
    · go_wp2_with fail
      refine (known_any w).mono ?_
      rintro e w1 ⟨rfl, hb1⟩
      go_wp2_with fail
      go_ret
      exact ⟨rfl, hb1⟩
    · go_wp2_with fail
      refine (moreEq_any x y aox nx cx aoy ny cy w HX.out HY.out Hx.out Hy.out (by omega) (by omega)).mono ?_
      rintro e w1 ⟨rfl, hb1⟩
      replace hB := hB.trans (hb1.mono hB.size)
      clear hb1
      go_wp2_with fail
      refine (rmoreEq_any x y aox nx cx aoy ny cy w1 (HX.out.below hB) (HY.out.below hB) Hx.out Hy.out (by omega) (by omega)).mono ?_
      rintro e w2 ⟨rfl, hb1⟩
      replace hB := hB.trans (hb1.mono hB.size)
      clear hb1
      generalize Cl.meB x y = B
      generalize Cl.meC x y = C
      go_wp2_with fail
      refine (known_any w2).mono ?_
      rintro e w3 ⟨rfl, hb1⟩
      replace hB := hB.trans (hb1.mono hB.size)
      clear hb1
      go_wp2_with fail
      go_ret
      exact ⟨rfl, hB⟩
end Go.Proofs.Ytifhkagngjinfaa
