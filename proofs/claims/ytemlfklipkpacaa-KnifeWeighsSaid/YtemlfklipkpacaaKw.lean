import Derived.Test.YtemlfklipkpacaaKl
import Derived.ScopeJumps
import Derived.WalkMore
/- A function whose run leaves a loop by a jump ahead to a label. -/
namespace Go.Proofs.Ytemlfklipkpacaa
open Go.RowKit
theorem wp_scope_on {P : Program} {a : Act} {w : World} {Q : Exit → Act → World → Prop} {c rest : Code} (l : Nat) (hf : findLabel c l = some rest)
    (first : c.wp P (Exit.jump l (fun a w => rest.wp P (Exit.noGoto Q) a w) Q) a w) : (Code.scope c).wp P Q a w :=
  wp_scope_jumps l (fun a w => rest.wp P (Exit.noGoto Q) a w) (fun _ _ => 0) hf first fun a' w' hJ b k cs => by
    obtain ⟨e, a₁, w₁, hq, harr⟩ := hJ b k cs
    refine ⟨e, a₁, w₁, ?_, harr⟩
    cases e with
    | goto l' => exact hq.elim
    | normal => exact hq
    | exit id => exact hq
    | ret => exact hq
    | panic ch => exact hq
    | outgrown => exact hq
end Go.Proofs.Ytemlfklipkpacaa
