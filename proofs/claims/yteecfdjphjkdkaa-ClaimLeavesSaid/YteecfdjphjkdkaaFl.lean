import Derived.Test.YteecfdjphjkdkaaFi
import Derived.Test.YteecfdjphjkdkaaFk
import Derived.Laws.EntriesVeiled
namespace Go.Proofs.Yteecfdjphjkdkaa
open Go.RowKit
/-- The table of rules. -/
def Cl.tab : Array Value := #[.func (.func 84) #[] #[], .func (.func 85) #[] #[], .func (.func 65) #[] #[], .func (.func 86) #[] #[], .func (.func 66) #[] #[], .func (.func 88) #[] #[], .func (.func 90) #[] #[], .func (.func 91) #[] #[], .func (.func 92) #[] #[], .func (.func 93) #[] #[]]
set_option maxRecDepth 100000 in
set_option maxHeartbeats 2000000 in
theorem rules_any (w : World) :
    Calls Try.prog 77 #[] w fun e w' => e = .returned (.slice (some ⟨w.heap.size, 0, none⟩) 5 5) ∧ w'.heap[w.heap.size]? = some (.cells Cl.tab 73 (0, 0)) ∧ Below w.heap.size w w' := by
  go_enter Try.func77, Try.ntmps77
  go_wp2_with fail
  go_ret
  exact ⟨rfl, heap_alloc_new w _, (Below.refl _ w).alloc (Nat.le_refl _) _⟩
end Go.Proofs.Yteecfdjphjkdkaa
