/-
  No cell of these rows narrows 'for every input' (looked for: loops, veiled, ifaces, maps, wideKeys, modest, calm, conditions, laid).
  DERIVED. THE GIVEN ROWS OF THIS SEAT. 11 by the template 'for every input the law returns true; each argument reads behind the call as it read before'; 0 by the template 'total and deterministic' (their statements: YtngonfbmlfolcaaTotals.lean).
  GIVEN WITH THE SEED: the statements are not yours to turn. If you find one false, say at which input.
  Laid BY PROGRAM, IN A SANDBOX (cutbox-rows.mjs): the forced cells as the released guide's own fill.sh prints them over the translation 6122af2d965156ed… (all of the seat's roots in one cut). By AI agents, Wed Nov 11 2026. No macro, syntax, notation, axiom, sorry.
-/
import Derived.Test.YtngonfbmlfolcaaChecked
import GoSem.Claim
import GoSem.ClaimJoined
import GoSem.ClaimMapViews
import Derived.JoinedTies
import Derived.KernelRfl
namespace Go.Proofs.Ytngonfbmlfolcaa
/- THE CELL 'sum', in the pinned program and in every row, IS THE sha256 OF THE DUMP (.gsa) THAT YtngonfbmlfolcaaProg.lean LOADS. Nothing in Lean hashes anything: it is a label: what it is worth is what the hold of that sum in a sandbox is worth. -/
noncomputable def Try.pinned : Pinned := { name := "ytngonfbmlfolcaa", sum := "6122af2d965156ed8c17c40758936e73c2181706ad6232d317f73bd29b6b778a", checked := Try.checked }
namespace Rows
def none {H : Type} : Left H := { results := [], args := [] }

/-- 'selionlaw02.SoilFields': WHATEVER THE INPUT: true; the input reads as it did. -/
def soilFieldsSpec : ChangeSpec := { name := "soilFields", fn := fun _ => fun
  | [d] => { results := [.lit (.bool true)], args := [d] }
  | _ => none }
def soilFieldsRow : OpenClaim := { program := "ytngonfbmlfolcaa", sum := "6122af2d965156ed8c17c40758936e73c2181706ad6232d317f73bd29b6b778a", func := "selion/selionlaw02.SoilFields", spec := "soilFields", unfollowed := true, recurses := true, apart := false }
def SoilFieldsSaid : Prop := soilFieldsRow.holds Try.pinned (OpenSpec.ofChange soilFieldsSpec)

/-- ITS FALSE NEIGHBOUR: 'it returns false'. Refute it at one input. -/
def soilFieldsWrong : ChangeSpec := { name := "soilFields", fn := fun _ => fun
  | [d] => { results := [.lit (.bool false)], args := [d] }
  | _ => none }
def SoilFieldsWrongFalsely : Prop := soilFieldsRow.holds Try.pinned (OpenSpec.ofChange soilFieldsWrong)

/-- 'selionlaw02.SoilWorths': WHATEVER THE INPUT: true; the input reads as it did. -/
def soilWorthsSpec : ChangeSpec := { name := "soilWorths", fn := fun _ => fun
  | [d1, d2] => { results := [.lit (.bool true)], args := [d1, d2] }
  | _ => none }
def soilWorthsRow : OpenClaim := { program := "ytngonfbmlfolcaa", sum := "6122af2d965156ed8c17c40758936e73c2181706ad6232d317f73bd29b6b778a", func := "selion/selionlaw02.SoilWorths", spec := "soilWorths", unfollowed := true, recurses := true, apart := false }
def SoilWorthsSaid : Prop := soilWorthsRow.holds Try.pinned (OpenSpec.ofChange soilWorthsSpec)

/-- ITS FALSE NEIGHBOUR: 'it returns false'. Refute it at one input. -/
def soilWorthsWrong : ChangeSpec := { name := "soilWorths", fn := fun _ => fun
  | [d1, d2] => { results := [.lit (.bool false)], args := [d1, d2] }
  | _ => none }
def SoilWorthsWrongFalsely : Prop := soilWorthsRow.holds Try.pinned (OpenSpec.ofChange soilWorthsWrong)

/-- 'selionlaw02.SoilPlaces': WHATEVER THE INPUT: true; the input reads as it did. -/
def soilPlacesSpec : ChangeSpec := { name := "soilPlaces", fn := fun _ => fun
  | [d1, d2, d3] => { results := [.lit (.bool true)], args := [d1, d2, d3] }
  | _ => none }
def soilPlacesRow : OpenClaim := { program := "ytngonfbmlfolcaa", sum := "6122af2d965156ed8c17c40758936e73c2181706ad6232d317f73bd29b6b778a", func := "selion/selionlaw02.SoilPlaces", spec := "soilPlaces", unfollowed := true, recurses := true, apart := false }
def SoilPlacesSaid : Prop := soilPlacesRow.holds Try.pinned (OpenSpec.ofChange soilPlacesSpec)

/-- ITS FALSE NEIGHBOUR: 'it returns false'. Refute it at one input. -/
def soilPlacesWrong : ChangeSpec := { name := "soilPlaces", fn := fun _ => fun
  | [d1, d2, d3] => { results := [.lit (.bool false)], args := [d1, d2, d3] }
  | _ => none }
def SoilPlacesWrongFalsely : Prop := soilPlacesRow.holds Try.pinned (OpenSpec.ofChange soilPlacesWrong)

/-- 'selionlaw02.SoilCuts': WHATEVER THE INPUT: true; the input reads as it did. -/
def soilCutsSpec : ChangeSpec := { name := "soilCuts", fn := fun _ => fun
  | [d1, d2] => { results := [.lit (.bool true)], args := [d1, d2] }
  | _ => none }
def soilCutsRow : OpenClaim := { program := "ytngonfbmlfolcaa", sum := "6122af2d965156ed8c17c40758936e73c2181706ad6232d317f73bd29b6b778a", func := "selion/selionlaw02.SoilCuts", spec := "soilCuts", unfollowed := true, recurses := true, apart := false }
def SoilCutsSaid : Prop := soilCutsRow.holds Try.pinned (OpenSpec.ofChange soilCutsSpec)

/-- ITS FALSE NEIGHBOUR: 'it returns false'. Refute it at one input. -/
def soilCutsWrong : ChangeSpec := { name := "soilCuts", fn := fun _ => fun
  | [d1, d2] => { results := [.lit (.bool false)], args := [d1, d2] }
  | _ => none }
def SoilCutsWrongFalsely : Prop := soilCutsRow.holds Try.pinned (OpenSpec.ofChange soilCutsWrong)

/-- 'selionlaw02.SoilEquals': WHATEVER THE INPUT: true; the input reads as it did. -/
def soilEqualsSpec : ChangeSpec := { name := "soilEquals", fn := fun _ => fun
  | [d1, d2] => { results := [.lit (.bool true)], args := [d1, d2] }
  | _ => none }
def soilEqualsRow : OpenClaim := { program := "ytngonfbmlfolcaa", sum := "6122af2d965156ed8c17c40758936e73c2181706ad6232d317f73bd29b6b778a", func := "selion/selionlaw02.SoilEquals", spec := "soilEquals", unfollowed := true, recurses := true, apart := false }
def SoilEqualsSaid : Prop := soilEqualsRow.holds Try.pinned (OpenSpec.ofChange soilEqualsSpec)

/-- ITS FALSE NEIGHBOUR: 'it returns false'. Refute it at one input. -/
def soilEqualsWrong : ChangeSpec := { name := "soilEquals", fn := fun _ => fun
  | [d1, d2] => { results := [.lit (.bool false)], args := [d1, d2] }
  | _ => none }
def SoilEqualsWrongFalsely : Prop := soilEqualsRow.holds Try.pinned (OpenSpec.ofChange soilEqualsWrong)

/-- 'selionlaw02.SoilDearest': WHATEVER THE INPUT: true; the input reads as it did. -/
def soilDearestSpec : ChangeSpec := { name := "soilDearest", fn := fun _ => fun
  | [d1, d2, d3] => { results := [.lit (.bool true)], args := [d1, d2, d3] }
  | _ => none }
def soilDearestRow : OpenClaim := { program := "ytngonfbmlfolcaa", sum := "6122af2d965156ed8c17c40758936e73c2181706ad6232d317f73bd29b6b778a", func := "selion/selionlaw02.SoilDearest", spec := "soilDearest", unfollowed := true, recurses := true, apart := false }
def SoilDearestSaid : Prop := soilDearestRow.holds Try.pinned (OpenSpec.ofChange soilDearestSpec)

/-- ITS FALSE NEIGHBOUR: 'it returns false'. Refute it at one input. -/
def soilDearestWrong : ChangeSpec := { name := "soilDearest", fn := fun _ => fun
  | [d1, d2, d3] => { results := [.lit (.bool false)], args := [d1, d2, d3] }
  | _ => none }
def SoilDearestWrongFalsely : Prop := soilDearestRow.holds Try.pinned (OpenSpec.ofChange soilDearestWrong)

/-- 'selionlaw06.KnifeWorths': WHATEVER THE INPUT: true; the input reads as it did. -/
def knifeWorthsSpec : ChangeSpec := { name := "knifeWorths", fn := fun _ => fun
  | [d1, d2] => { results := [.lit (.bool true)], args := [d1, d2] }
  | _ => none }
def knifeWorthsRow : OpenClaim := { program := "ytngonfbmlfolcaa", sum := "6122af2d965156ed8c17c40758936e73c2181706ad6232d317f73bd29b6b778a", func := "selion/selionlaw06.KnifeWorths", spec := "knifeWorths", unfollowed := true, recurses := true, apart := false }
def KnifeWorthsSaid : Prop := knifeWorthsRow.holds Try.pinned (OpenSpec.ofChange knifeWorthsSpec)

/-- ITS FALSE NEIGHBOUR: 'it returns false'. Refute it at one input. -/
def knifeWorthsWrong : ChangeSpec := { name := "knifeWorths", fn := fun _ => fun
  | [d1, d2] => { results := [.lit (.bool false)], args := [d1, d2] }
  | _ => none }
def KnifeWorthsWrongFalsely : Prop := knifeWorthsRow.holds Try.pinned (OpenSpec.ofChange knifeWorthsWrong)

/-- 'selionlaw06.KnifeMarks': WHATEVER THE INPUT: true; the input reads as it did. -/
def knifeMarksSpec : ChangeSpec := { name := "knifeMarks", fn := fun _ => fun
  | [d1, d2, d3] => { results := [.lit (.bool true)], args := [d1, d2, d3] }
  | _ => none }
def knifeMarksRow : OpenClaim := { program := "ytngonfbmlfolcaa", sum := "6122af2d965156ed8c17c40758936e73c2181706ad6232d317f73bd29b6b778a", func := "selion/selionlaw06.KnifeMarks", spec := "knifeMarks", unfollowed := true, recurses := true, apart := false }
def KnifeMarksSaid : Prop := knifeMarksRow.holds Try.pinned (OpenSpec.ofChange knifeMarksSpec)

/-- ITS FALSE NEIGHBOUR: 'it returns false'. Refute it at one input. -/
def knifeMarksWrong : ChangeSpec := { name := "knifeMarks", fn := fun _ => fun
  | [d1, d2, d3] => { results := [.lit (.bool false)], args := [d1, d2, d3] }
  | _ => none }
def KnifeMarksWrongFalsely : Prop := knifeMarksRow.holds Try.pinned (OpenSpec.ofChange knifeMarksWrong)

/-- 'selionlaw06.KnifeCalls': WHATEVER THE INPUT: true; the input reads as it did. -/
def knifeCallsSpec : ChangeSpec := { name := "knifeCalls", fn := fun _ => fun
  | [d1, d2] => { results := [.lit (.bool true)], args := [d1, d2] }
  | _ => none }
def knifeCallsRow : OpenClaim := { program := "ytngonfbmlfolcaa", sum := "6122af2d965156ed8c17c40758936e73c2181706ad6232d317f73bd29b6b778a", func := "selion/selionlaw06.KnifeCalls", spec := "knifeCalls", unfollowed := true, recurses := true, apart := false }
def KnifeCallsSaid : Prop := knifeCallsRow.holds Try.pinned (OpenSpec.ofChange knifeCallsSpec)

/-- ITS FALSE NEIGHBOUR: 'it returns false'. Refute it at one input. -/
def knifeCallsWrong : ChangeSpec := { name := "knifeCalls", fn := fun _ => fun
  | [d1, d2] => { results := [.lit (.bool false)], args := [d1, d2] }
  | _ => none }
def KnifeCallsWrongFalsely : Prop := knifeCallsRow.holds Try.pinned (OpenSpec.ofChange knifeCallsWrong)

/-- 'selionlaw06.KnifeKnives': WHATEVER THE INPUT: true; the input reads as it did. -/
def knifeKnivesSpec : ChangeSpec := { name := "knifeKnives", fn := fun _ => fun
  | [d] => { results := [.lit (.bool true)], args := [d] }
  | _ => none }
def knifeKnivesRow : OpenClaim := { program := "ytngonfbmlfolcaa", sum := "6122af2d965156ed8c17c40758936e73c2181706ad6232d317f73bd29b6b778a", func := "selion/selionlaw06.KnifeKnives", spec := "knifeKnives", unfollowed := true, recurses := true, apart := false }
def KnifeKnivesSaid : Prop := knifeKnivesRow.holds Try.pinned (OpenSpec.ofChange knifeKnivesSpec)

/-- ITS FALSE NEIGHBOUR: 'it returns false'. Refute it at one input. -/
def knifeKnivesWrong : ChangeSpec := { name := "knifeKnives", fn := fun _ => fun
  | [d] => { results := [.lit (.bool false)], args := [d] }
  | _ => none }
def KnifeKnivesWrongFalsely : Prop := knifeKnivesRow.holds Try.pinned (OpenSpec.ofChange knifeKnivesWrong)

/-- 'selionlaw06.KnifeSums': WHATEVER THE INPUT: true; the input reads as it did. -/
def knifeSumsSpec : ChangeSpec := { name := "knifeSums", fn := fun _ => fun
  | [d1, d2, d3] => { results := [.lit (.bool true)], args := [d1, d2, d3] }
  | _ => none }
def knifeSumsRow : OpenClaim := { program := "ytngonfbmlfolcaa", sum := "6122af2d965156ed8c17c40758936e73c2181706ad6232d317f73bd29b6b778a", func := "selion/selionlaw06.KnifeSums", spec := "knifeSums", unfollowed := true, recurses := true, apart := false }
def KnifeSumsSaid : Prop := knifeSumsRow.holds Try.pinned (OpenSpec.ofChange knifeSumsSpec)

/-- ITS FALSE NEIGHBOUR: 'it returns false'. Refute it at one input. -/
def knifeSumsWrong : ChangeSpec := { name := "knifeSums", fn := fun _ => fun
  | [d1, d2, d3] => { results := [.lit (.bool false)], args := [d1, d2, d3] }
  | _ => none }
def KnifeSumsWrongFalsely : Prop := knifeSumsRow.holds Try.pinned (OpenSpec.ofChange knifeSumsWrong)

/- THE SECOND FORM. 'bulk': how many values and letters a reading holds, each counted each time it is reached (what is shared counts as often as it is met; a slice's spare places count too). A statement '..UptoSaid' is the law's where the arguments, and the package variables that the reading takes, are together of bulk at most 1048576: NARROWER than '..Said'. Prove '..Said' where nothing that the law and all that it calls make is longer than what came in: it says more and counts as full. Else prove '..UptoSaid'. A law counts once. -/
mutual
def uptoBulk {H : Type} : DataW H → Nat
  | .lit (.string bytes) => bytes.length + 1
  | .lit _ => 1
  | .nil => 1
  | .ptr d => uptoBulk d + 1
  | .slice elems spare => uptoBulkAll elems + uptoBulkAll spare + 1
  | .agg parts => uptoBulkAll parts + 1
  | .iface _ d => uptoBulk d + 1
  | .map entries => uptoBulkEntries entries + 1
  | .held _ => 1
def uptoBulkAll {H : Type} : List (DataW H) → Nat
  | [] => 0
  | d :: r => uptoBulk d + uptoBulkAll r
def uptoBulkEntries {H : Type} : List (Lit × DataW H) → Nat
  | [] => 0
  | x :: r => uptoBulkEntry x + uptoBulkEntries r
def uptoBulkEntry {H : Type} : Lit × DataW H → Nat
  | (.string bytes, d) => bytes.length + uptoBulk d + 1
  | (_, d) => uptoBulk d + 1
 end
def uptoSmall : (H : Type) → List (DataW H) → Bool := fun _ ds => decide (uptoBulkAll ds ≤ 1048576)
def OpenSpec.upto (s : _root_.Go.ChangeSpec) : _root_.Go.OpenSpec := { _root_.Go.OpenSpec.ofChange s with cond := some uptoSmall }

/-- 'selionlaw02.SoilFields', WHERE WHAT IT READS IS OF BULK AT MOST 1048576: true; the input reads as it did. -/
def soilFieldsUptoRow : OpenClaim := { program := "ytngonfbmlfolcaa", sum := "6122af2d965156ed8c17c40758936e73c2181706ad6232d317f73bd29b6b778a", func := "selion/selionlaw02.SoilFields", spec := "soilFields", unfollowed := true, recurses := true, apart := false, narrowed := true }
def SoilFieldsUptoSaid : Prop := soilFieldsUptoRow.holds Try.pinned (OpenSpec.upto soilFieldsSpec)

/-- 'selionlaw02.SoilWorths', WHERE WHAT IT READS IS OF BULK AT MOST 1048576: true; the input reads as it did. -/
def soilWorthsUptoRow : OpenClaim := { program := "ytngonfbmlfolcaa", sum := "6122af2d965156ed8c17c40758936e73c2181706ad6232d317f73bd29b6b778a", func := "selion/selionlaw02.SoilWorths", spec := "soilWorths", unfollowed := true, recurses := true, apart := false, narrowed := true }
def SoilWorthsUptoSaid : Prop := soilWorthsUptoRow.holds Try.pinned (OpenSpec.upto soilWorthsSpec)

/-- 'selionlaw02.SoilPlaces', WHERE WHAT IT READS IS OF BULK AT MOST 1048576: true; the input reads as it did. -/
def soilPlacesUptoRow : OpenClaim := { program := "ytngonfbmlfolcaa", sum := "6122af2d965156ed8c17c40758936e73c2181706ad6232d317f73bd29b6b778a", func := "selion/selionlaw02.SoilPlaces", spec := "soilPlaces", unfollowed := true, recurses := true, apart := false, narrowed := true }
def SoilPlacesUptoSaid : Prop := soilPlacesUptoRow.holds Try.pinned (OpenSpec.upto soilPlacesSpec)

/-- 'selionlaw02.SoilCuts', WHERE WHAT IT READS IS OF BULK AT MOST 1048576: true; the input reads as it did. -/
def soilCutsUptoRow : OpenClaim := { program := "ytngonfbmlfolcaa", sum := "6122af2d965156ed8c17c40758936e73c2181706ad6232d317f73bd29b6b778a", func := "selion/selionlaw02.SoilCuts", spec := "soilCuts", unfollowed := true, recurses := true, apart := false, narrowed := true }
def SoilCutsUptoSaid : Prop := soilCutsUptoRow.holds Try.pinned (OpenSpec.upto soilCutsSpec)

/-- 'selionlaw02.SoilEquals', WHERE WHAT IT READS IS OF BULK AT MOST 1048576: true; the input reads as it did. -/
def soilEqualsUptoRow : OpenClaim := { program := "ytngonfbmlfolcaa", sum := "6122af2d965156ed8c17c40758936e73c2181706ad6232d317f73bd29b6b778a", func := "selion/selionlaw02.SoilEquals", spec := "soilEquals", unfollowed := true, recurses := true, apart := false, narrowed := true }
def SoilEqualsUptoSaid : Prop := soilEqualsUptoRow.holds Try.pinned (OpenSpec.upto soilEqualsSpec)

/-- 'selionlaw02.SoilDearest', WHERE WHAT IT READS IS OF BULK AT MOST 1048576: true; the input reads as it did. -/
def soilDearestUptoRow : OpenClaim := { program := "ytngonfbmlfolcaa", sum := "6122af2d965156ed8c17c40758936e73c2181706ad6232d317f73bd29b6b778a", func := "selion/selionlaw02.SoilDearest", spec := "soilDearest", unfollowed := true, recurses := true, apart := false, narrowed := true }
def SoilDearestUptoSaid : Prop := soilDearestUptoRow.holds Try.pinned (OpenSpec.upto soilDearestSpec)

/-- 'selionlaw06.KnifeWorths', WHERE WHAT IT READS IS OF BULK AT MOST 1048576: true; the input reads as it did. -/
def knifeWorthsUptoRow : OpenClaim := { program := "ytngonfbmlfolcaa", sum := "6122af2d965156ed8c17c40758936e73c2181706ad6232d317f73bd29b6b778a", func := "selion/selionlaw06.KnifeWorths", spec := "knifeWorths", unfollowed := true, recurses := true, apart := false, narrowed := true }
def KnifeWorthsUptoSaid : Prop := knifeWorthsUptoRow.holds Try.pinned (OpenSpec.upto knifeWorthsSpec)

/-- 'selionlaw06.KnifeMarks', WHERE WHAT IT READS IS OF BULK AT MOST 1048576: true; the input reads as it did. -/
def knifeMarksUptoRow : OpenClaim := { program := "ytngonfbmlfolcaa", sum := "6122af2d965156ed8c17c40758936e73c2181706ad6232d317f73bd29b6b778a", func := "selion/selionlaw06.KnifeMarks", spec := "knifeMarks", unfollowed := true, recurses := true, apart := false, narrowed := true }
def KnifeMarksUptoSaid : Prop := knifeMarksUptoRow.holds Try.pinned (OpenSpec.upto knifeMarksSpec)

/-- 'selionlaw06.KnifeCalls', WHERE WHAT IT READS IS OF BULK AT MOST 1048576: true; the input reads as it did. -/
def knifeCallsUptoRow : OpenClaim := { program := "ytngonfbmlfolcaa", sum := "6122af2d965156ed8c17c40758936e73c2181706ad6232d317f73bd29b6b778a", func := "selion/selionlaw06.KnifeCalls", spec := "knifeCalls", unfollowed := true, recurses := true, apart := false, narrowed := true }
def KnifeCallsUptoSaid : Prop := knifeCallsUptoRow.holds Try.pinned (OpenSpec.upto knifeCallsSpec)

/-- 'selionlaw06.KnifeKnives', WHERE WHAT IT READS IS OF BULK AT MOST 1048576: true; the input reads as it did. -/
def knifeKnivesUptoRow : OpenClaim := { program := "ytngonfbmlfolcaa", sum := "6122af2d965156ed8c17c40758936e73c2181706ad6232d317f73bd29b6b778a", func := "selion/selionlaw06.KnifeKnives", spec := "knifeKnives", unfollowed := true, recurses := true, apart := false, narrowed := true }
def KnifeKnivesUptoSaid : Prop := knifeKnivesUptoRow.holds Try.pinned (OpenSpec.upto knifeKnivesSpec)

/-- 'selionlaw06.KnifeSums', WHERE WHAT IT READS IS OF BULK AT MOST 1048576: true; the input reads as it did. -/
def knifeSumsUptoRow : OpenClaim := { program := "ytngonfbmlfolcaa", sum := "6122af2d965156ed8c17c40758936e73c2181706ad6232d317f73bd29b6b778a", func := "selion/selionlaw06.KnifeSums", spec := "knifeSums", unfollowed := true, recurses := true, apart := false, narrowed := true }
def KnifeSumsUptoSaid : Prop := knifeSumsUptoRow.holds Try.pinned (OpenSpec.upto knifeSumsSpec)

end Rows
end Go.Proofs.Ytngonfbmlfolcaa
