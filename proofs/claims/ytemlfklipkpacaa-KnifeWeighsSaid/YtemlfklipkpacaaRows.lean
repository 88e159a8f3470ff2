/-
  No cell of these rows narrows 'for every input' (looked for: loops, veiled, ifaces, maps, wideKeys, modest, calm, conditions, laid).
  DERIVED. THE GIVEN ROWS OF THIS SEAT. 12 by the template 'for every input the law returns true; each argument reads behind the call as it read before'; 0 by the template 'total and deterministic' (their statements: YtemlfklipkpacaaTotals.lean).
  GIVEN WITH THE SEED: the statements are not yours to turn. If you find one false, say at which input.
  Laid BY PROGRAM, IN A SANDBOX (cutbox-rows.mjs): the forced cells as the released guide's own fill.sh prints them over the translation 0724df92113806d0… (all of the seat's roots in one cut). By AI agents, Wed Nov 11 2026. No macro, syntax, notation, axiom, sorry.
-/
import Derived.Test.YtemlfklipkpacaaChecked
import GoSem.Claim
import GoSem.ClaimJoined
import GoSem.ClaimMapViews
import Derived.JoinedTies
import Derived.KernelRfl
namespace Go.Proofs.Ytemlfklipkpacaa
/- THE CELL 'sum', in the pinned program and in every row, IS THE sha256 OF THE DUMP (.gsa) THAT YtemlfklipkpacaaProg.lean LOADS. Nothing in Lean hashes anything: it is a label: what it is worth is what the hold of that sum in a sandbox is worth. -/
noncomputable def Try.pinned : Pinned := { name := "ytemlfklipkpacaa", sum := "0724df92113806d06c0f42ae4cd01b2b91903efe960bf6138aa27250f985a39c", checked := Try.checked }
namespace Rows
def none {H : Type} : Left H := { results := [], args := [] }

/-- 'selionlaw02.SoilFields': WHATEVER THE INPUT: true; the input reads as it did. -/
def soilFieldsSpec : ChangeSpec := { name := "soilFields", fn := fun _ => fun
  | [d] => { results := [.lit (.bool true)], args := [d] }
  | _ => none }
def soilFieldsRow : OpenClaim := { program := "ytemlfklipkpacaa", sum := "0724df92113806d06c0f42ae4cd01b2b91903efe960bf6138aa27250f985a39c", func := "selion/selionlaw02.SoilFields", spec := "soilFields", unfollowed := true, recurses := true, apart := false }
def SoilFieldsSaid : Prop := soilFieldsRow.holds Try.pinned (OpenSpec.ofChange soilFieldsSpec)

/-- ITS FALSE NEIGHBOUR: 'it returns false'. Refute it at one input. -/
def soilFieldsWrong : ChangeSpec := { name := "soilFields", fn := fun _ => fun
  | [d] => { results := [.lit (.bool false)], args := [d] }
  | _ => none }
def SoilFieldsWrongFalsely : Prop := soilFieldsRow.holds Try.pinned (OpenSpec.ofChange soilFieldsWrong)

/-- 'selionlaw02.SoilWorths': WHATEVER THE INPUT: true; the input reads as it did. -/
def soilWorthsSpec : ChangeSpec := { name := "soilWorths", fn := fun _ => fun
  | [d1, d2] => { results := [.lit (.bool true)], args := [d1, d2] }
  | _ => none }
def soilWorthsRow : OpenClaim := { program := "ytemlfklipkpacaa", sum := "0724df92113806d06c0f42ae4cd01b2b91903efe960bf6138aa27250f985a39c", func := "selion/selionlaw02.SoilWorths", spec := "soilWorths", unfollowed := true, recurses := true, apart := false }
def SoilWorthsSaid : Prop := soilWorthsRow.holds Try.pinned (OpenSpec.ofChange soilWorthsSpec)

/-- ITS FALSE NEIGHBOUR: 'it returns false'. Refute it at one input. -/
def soilWorthsWrong : ChangeSpec := { name := "soilWorths", fn := fun _ => fun
  | [d1, d2] => { results := [.lit (.bool false)], args := [d1, d2] }
  | _ => none }
def SoilWorthsWrongFalsely : Prop := soilWorthsRow.holds Try.pinned (OpenSpec.ofChange soilWorthsWrong)

/-- 'selionlaw02.SoilPlaces': WHATEVER THE INPUT: true; the input reads as it did. -/
def soilPlacesSpec : ChangeSpec := { name := "soilPlaces", fn := fun _ => fun
  | [d1, d2, d3] => { results := [.lit (.bool true)], args := [d1, d2, d3] }
  | _ => none }
def soilPlacesRow : OpenClaim := { program := "ytemlfklipkpacaa", sum := "0724df92113806d06c0f42ae4cd01b2b91903efe960bf6138aa27250f985a39c", func := "selion/selionlaw02.SoilPlaces", spec := "soilPlaces", unfollowed := true, recurses := true, apart := false }
def SoilPlacesSaid : Prop := soilPlacesRow.holds Try.pinned (OpenSpec.ofChange soilPlacesSpec)

/-- ITS FALSE NEIGHBOUR: 'it returns false'. Refute it at one input. -/
def soilPlacesWrong : ChangeSpec := { name := "soilPlaces", fn := fun _ => fun
  | [d1, d2, d3] => { results := [.lit (.bool false)], args := [d1, d2, d3] }
  | _ => none }
def SoilPlacesWrongFalsely : Prop := soilPlacesRow.holds Try.pinned (OpenSpec.ofChange soilPlacesWrong)

/-- 'selionlaw02.SoilCuts': WHATEVER THE INPUT: true; the input reads as it did. -/
def soilCutsSpec : ChangeSpec := { name := "soilCuts", fn := fun _ => fun
  | [d1, d2] => { results := [.lit (.bool true)], args := [d1, d2] }
  | _ => none }
def soilCutsRow : OpenClaim := { program := "ytemlfklipkpacaa", sum := "0724df92113806d06c0f42ae4cd01b2b91903efe960bf6138aa27250f985a39c", func := "selion/selionlaw02.SoilCuts", spec := "soilCuts", unfollowed := true, recurses := true, apart := false }
def SoilCutsSaid : Prop := soilCutsRow.holds Try.pinned (OpenSpec.ofChange soilCutsSpec)

/-- ITS FALSE NEIGHBOUR: 'it returns false'. Refute it at one input. -/
def soilCutsWrong : ChangeSpec := { name := "soilCuts", fn := fun _ => fun
  | [d1, d2] => { results := [.lit (.bool false)], args := [d1, d2] }
  | _ => none }
def SoilCutsWrongFalsely : Prop := soilCutsRow.holds Try.pinned (OpenSpec.ofChange soilCutsWrong)

/-- 'selionlaw02.SoilEquals': WHATEVER THE INPUT: true; the input reads as it did. -/
def soilEqualsSpec : ChangeSpec := { name := "soilEquals", fn := fun _ => fun
  | [d1, d2] => { results := [.lit (.bool true)], args := [d1, d2] }
  | _ => none }
def soilEqualsRow : OpenClaim := { program := "ytemlfklipkpacaa", sum := "0724df92113806d06c0f42ae4cd01b2b91903efe960bf6138aa27250f985a39c", func := "selion/selionlaw02.SoilEquals", spec := "soilEquals", unfollowed := true, recurses := true, apart := false }
def SoilEqualsSaid : Prop := soilEqualsRow.holds Try.pinned (OpenSpec.ofChange soilEqualsSpec)

/-- ITS FALSE NEIGHBOUR: 'it returns false'. Refute it at one input. -/
def soilEqualsWrong : ChangeSpec := { name := "soilEquals", fn := fun _ => fun
  | [d1, d2] => { results := [.lit (.bool false)], args := [d1, d2] }
  | _ => none }
def SoilEqualsWrongFalsely : Prop := soilEqualsRow.holds Try.pinned (OpenSpec.ofChange soilEqualsWrong)

/-- 'selionlaw02.SoilDearest': WHATEVER THE INPUT: true; the input reads as it did. -/
def soilDearestSpec : ChangeSpec := { name := "soilDearest", fn := fun _ => fun
  | [d1, d2, d3] => { results := [.lit (.bool true)], args := [d1, d2, d3] }
  | _ => none }
def soilDearestRow : OpenClaim := { program := "ytemlfklipkpacaa", sum := "0724df92113806d06c0f42ae4cd01b2b91903efe960bf6138aa27250f985a39c", func := "selion/selionlaw02.SoilDearest", spec := "soilDearest", unfollowed := true, recurses := true, apart := false }
def SoilDearestSaid : Prop := soilDearestRow.holds Try.pinned (OpenSpec.ofChange soilDearestSpec)

/-- ITS FALSE NEIGHBOUR: 'it returns false'. Refute it at one input. -/
def soilDearestWrong : ChangeSpec := { name := "soilDearest", fn := fun _ => fun
  | [d1, d2, d3] => { results := [.lit (.bool false)], args := [d1, d2, d3] }
  | _ => none }
def SoilDearestWrongFalsely : Prop := soilDearestRow.holds Try.pinned (OpenSpec.ofChange soilDearestWrong)

/-- 'selionlaw06.KnifeKnives': WHATEVER THE INPUT: true; the input reads as it did. -/
def knifeKnivesSpec : ChangeSpec := { name := "knifeKnives", fn := fun _ => fun
  | [d] => { results := [.lit (.bool true)], args := [d] }
  | _ => none }
def knifeKnivesRow : OpenClaim := { program := "ytemlfklipkpacaa", sum := "0724df92113806d06c0f42ae4cd01b2b91903efe960bf6138aa27250f985a39c", func := "selion/selionlaw06.KnifeKnives", spec := "knifeKnives", unfollowed := true, recurses := true, apart := false }
def KnifeKnivesSaid : Prop := knifeKnivesRow.holds Try.pinned (OpenSpec.ofChange knifeKnivesSpec)

/-- ITS FALSE NEIGHBOUR: 'it returns false'. Refute it at one input. -/
def knifeKnivesWrong : ChangeSpec := { name := "knifeKnives", fn := fun _ => fun
  | [d] => { results := [.lit (.bool false)], args := [d] }
  | _ => none }
def KnifeKnivesWrongFalsely : Prop := knifeKnivesRow.holds Try.pinned (OpenSpec.ofChange knifeKnivesWrong)

/-- 'selionlaw06.KnifeChoices': WHATEVER THE INPUT: true; the input reads as it did. -/
def knifeChoicesSpec : ChangeSpec := { name := "knifeChoices", fn := fun _ => fun
  | [d] => { results := [.lit (.bool true)], args := [d] }
  | _ => none }
def knifeChoicesRow : OpenClaim := { program := "ytemlfklipkpacaa", sum := "0724df92113806d06c0f42ae4cd01b2b91903efe960bf6138aa27250f985a39c", func := "selion/selionlaw06.KnifeChoices", spec := "knifeChoices", unfollowed := true, recurses := true, apart := false }
def KnifeChoicesSaid : Prop := knifeChoicesRow.holds Try.pinned (OpenSpec.ofChange knifeChoicesSpec)

/-- ITS FALSE NEIGHBOUR: 'it returns false'. Refute it at one input. -/
def knifeChoicesWrong : ChangeSpec := { name := "knifeChoices", fn := fun _ => fun
  | [d] => { results := [.lit (.bool false)], args := [d] }
  | _ => none }
def KnifeChoicesWrongFalsely : Prop := knifeChoicesRow.holds Try.pinned (OpenSpec.ofChange knifeChoicesWrong)

/-- 'selionlaw06.KnifeEvens': WHATEVER THE INPUT: true; the input reads as it did. -/
def knifeEvensSpec : ChangeSpec := { name := "knifeEvens", fn := fun _ => fun
  | [d] => { results := [.lit (.bool true)], args := [d] }
  | _ => none }
def knifeEvensRow : OpenClaim := { program := "ytemlfklipkpacaa", sum := "0724df92113806d06c0f42ae4cd01b2b91903efe960bf6138aa27250f985a39c", func := "selion/selionlaw06.KnifeEvens", spec := "knifeEvens", unfollowed := true, recurses := true, apart := false }
def KnifeEvensSaid : Prop := knifeEvensRow.holds Try.pinned (OpenSpec.ofChange knifeEvensSpec)

/-- ITS FALSE NEIGHBOUR: 'it returns false'. Refute it at one input. -/
def knifeEvensWrong : ChangeSpec := { name := "knifeEvens", fn := fun _ => fun
  | [d] => { results := [.lit (.bool false)], args := [d] }
  | _ => none }
def KnifeEvensWrongFalsely : Prop := knifeEvensRow.holds Try.pinned (OpenSpec.ofChange knifeEvensWrong)

/-- 'selionlaw06.KnifeWeighs': WHATEVER THE INPUT: true; the input reads as it did. -/
def knifeWeighsSpec : ChangeSpec := { name := "knifeWeighs", fn := fun _ => fun
  | [d1, d2, d3] => { results := [.lit (.bool true)], args := [d1, d2, d3] }
  | _ => none }
def knifeWeighsRow : OpenClaim := { program := "ytemlfklipkpacaa", sum := "0724df92113806d06c0f42ae4cd01b2b91903efe960bf6138aa27250f985a39c", func := "selion/selionlaw06.KnifeWeighs", spec := "knifeWeighs", unfollowed := true, recurses := true, apart := false }
def KnifeWeighsSaid : Prop := knifeWeighsRow.holds Try.pinned (OpenSpec.ofChange knifeWeighsSpec)

/-- ITS FALSE NEIGHBOUR: 'it returns false'. Refute it at one input. -/
def knifeWeighsWrong : ChangeSpec := { name := "knifeWeighs", fn := fun _ => fun
  | [d1, d2, d3] => { results := [.lit (.bool false)], args := [d1, d2, d3] }
  | _ => none }
def KnifeWeighsWrongFalsely : Prop := knifeWeighsRow.holds Try.pinned (OpenSpec.ofChange knifeWeighsWrong)

/-- 'selionlaw06.KnifeWithout': WHATEVER THE INPUT: true; the input reads as it did. -/
def knifeWithoutSpec : ChangeSpec := { name := "knifeWithout", fn := fun _ => fun
  | [d1, d2] => { results := [.lit (.bool true)], args := [d1, d2] }
  | _ => none }
def knifeWithoutRow : OpenClaim := { program := "ytemlfklipkpacaa", sum := "0724df92113806d06c0f42ae4cd01b2b91903efe960bf6138aa27250f985a39c", func := "selion/selionlaw06.KnifeWithout", spec := "knifeWithout", unfollowed := true, recurses := true, apart := false }
def KnifeWithoutSaid : Prop := knifeWithoutRow.holds Try.pinned (OpenSpec.ofChange knifeWithoutSpec)

/-- ITS FALSE NEIGHBOUR: 'it returns false'. Refute it at one input. -/
def knifeWithoutWrong : ChangeSpec := { name := "knifeWithout", fn := fun _ => fun
  | [d1, d2] => { results := [.lit (.bool false)], args := [d1, d2] }
  | _ => none }
def KnifeWithoutWrongFalsely : Prop := knifeWithoutRow.holds Try.pinned (OpenSpec.ofChange knifeWithoutWrong)

/-- 'seliontop.TopKnife': WHATEVER THE INPUT: true; the input reads as it did. -/
def topKnifeSpec : ChangeSpec := { name := "topKnife", fn := fun _ => fun
  | [d] => { results := [.lit (.bool true)], args := [d] }
  | _ => none }
def topKnifeRow : OpenClaim := { program := "ytemlfklipkpacaa", sum := "0724df92113806d06c0f42ae4cd01b2b91903efe960bf6138aa27250f985a39c", func := "selion/seliontop.TopKnife", spec := "topKnife", unfollowed := true, recurses := true, apart := false }
def TopKnifeSaid : Prop := topKnifeRow.holds Try.pinned (OpenSpec.ofChange topKnifeSpec)

/-- ITS FALSE NEIGHBOUR: 'it returns false'. Refute it at one input. -/
def topKnifeWrong : ChangeSpec := { name := "topKnife", fn := fun _ => fun
  | [d] => { results := [.lit (.bool false)], args := [d] }
  | _ => none }
def TopKnifeWrongFalsely : Prop := topKnifeRow.holds Try.pinned (OpenSpec.ofChange topKnifeWrong)

/- THE SECOND FORM. 'bulk': how many values and letters a reading holds, each counted each time it is reached (what is shared counts as often as it is met; a slice's spare places count too). A statement '..UptoSaid' is the law's where the arguments, and the package variables that the reading takes, are together of bulk at most 1048576: NARROWER than '..Said'. Prove '..Said' where nothing that the law and all that it calls make is longer than what came in: it says more and counts as full. Else prove '..UptoSaid'. A law counts once. -/
mutual
def uptoBulk {H : Type} : DataW H → Nat
  | .lit (.string bytes) => bytes.length + 1
  | .lit _ => 1
  | .nil => 1
  | .ptr d => uptoBulk d + 1
  | .slice elems spare => uptoBulkAll elems + uptoBulkAll spare + 1
  | .agg parts => uptoBulkAll parts + 1
  | .iface _ d => uptoBulk d + 1
  | .map entries => uptoBulkEntries entries + 1
  | .held _ => 1
def uptoBulkAll {H : Type} : List (DataW H) → Nat
  | [] => 0
  | d :: r => uptoBulk d + uptoBulkAll r
def uptoBulkEntries {H : Type} : List (Lit × DataW H) → Nat
  | [] => 0
  | x :: r => uptoBulkEntry x + uptoBulkEntries r
def uptoBulkEntry {H : Type} : Lit × DataW H → Nat
  | (.string bytes, d) => bytes.length + uptoBulk d + 1
  | (_, d) => uptoBulk d + 1
 end
def uptoSmall : (H : Type) → List (DataW H) → Bool := fun _ ds => decide (uptoBulkAll ds ≤ 1048576)
def OpenSpec.upto (s : _root_.Go.ChangeSpec) : _root_.Go.OpenSpec := { _root_.Go.OpenSpec.ofChange s with cond := some uptoSmall }

/-- 'selionlaw02.SoilFields', WHERE WHAT IT READS IS OF BULK AT MOST 1048576: true; the input reads as it did. -/
def soilFieldsUptoRow : OpenClaim := { program := "ytemlfklipkpacaa", sum := "0724df92113806d06c0f42ae4cd01b2b91903efe960bf6138aa27250f985a39c", func := "selion/selionlaw02.SoilFields", spec := "soilFields", unfollowed := true, recurses := true, apart := false, narrowed := true }
def SoilFieldsUptoSaid : Prop := soilFieldsUptoRow.holds Try.pinned (OpenSpec.upto soilFieldsSpec)

/-- 'selionlaw02.SoilWorths', WHERE WHAT IT READS IS OF BULK AT MOST 1048576: true; the input reads as it did. -/
def soilWorthsUptoRow : OpenClaim := { program := "ytemlfklipkpacaa", sum := "0724df92113806d06c0f42ae4cd01b2b91903efe960bf6138aa27250f985a39c", func := "selion/selionlaw02.SoilWorths", spec := "soilWorths", unfollowed := true, recurses := true, apart := false, narrowed := true }
def SoilWorthsUptoSaid : Prop := soilWorthsUptoRow.holds Try.pinned (OpenSpec.upto soilWorthsSpec)

/-- 'selionlaw02.SoilPlaces', WHERE WHAT IT READS IS OF BULK AT MOST 1048576: true; the input reads as it did. -/
def soilPlacesUptoRow : OpenClaim := { program := "ytemlfklipkpacaa", sum := "0724df92113806d06c0f42ae4cd01b2b91903efe960bf6138aa27250f985a39c", func := "selion/selionlaw02.SoilPlaces", spec := "soilPlaces", unfollowed := true, recurses := true, apart := false, narrowed := true }
def SoilPlacesUptoSaid : Prop := soilPlacesUptoRow.holds Try.pinned (OpenSpec.upto soilPlacesSpec)

/-- 'selionlaw02.SoilCuts', WHERE WHAT IT READS IS OF BULK AT MOST 1048576: true; the input reads as it did. -/
def soilCutsUptoRow : OpenClaim := { program := "ytemlfklipkpacaa", sum := "0724df92113806d06c0f42ae4cd01b2b91903efe960bf6138aa27250f985a39c", func := "selion/selionlaw02.SoilCuts", spec := "soilCuts", unfollowed := true, recurses := true, apart := false, narrowed := true }
def SoilCutsUptoSaid : Prop := soilCutsUptoRow.holds Try.pinned (OpenSpec.upto soilCutsSpec)

/-- 'selionlaw02.SoilEquals', WHERE WHAT IT READS IS OF BULK AT MOST 1048576: true; the input reads as it did. -/
def soilEqualsUptoRow : OpenClaim := { program := "ytemlfklipkpacaa", sum := "0724df92113806d06c0f42ae4cd01b2b91903efe960bf6138aa27250f985a39c", func := "selion/selionlaw02.SoilEquals", spec := "soilEquals", unfollowed := true, recurses := true, apart := false, narrowed := true }
def SoilEqualsUptoSaid : Prop := soilEqualsUptoRow.holds Try.pinned (OpenSpec.upto soilEqualsSpec)

/-- 'selionlaw02.SoilDearest', WHERE WHAT IT READS IS OF BULK AT MOST 1048576: true; the input reads as it did. -/
def soilDearestUptoRow : OpenClaim := { program := "ytemlfklipkpacaa", sum := "0724df92113806d06c0f42ae4cd01b2b91903efe960bf6138aa27250f985a39c", func := "selion/selionlaw02.SoilDearest", spec := "soilDearest", unfollowed := true, recurses := true, apart := false, narrowed := true }
def SoilDearestUptoSaid : Prop := soilDearestUptoRow.holds Try.pinned (OpenSpec.upto soilDearestSpec)

/-- 'selionlaw06.KnifeKnives', WHERE WHAT IT READS IS OF BULK AT MOST 1048576: true; the input reads as it did. -/
def knifeKnivesUptoRow : OpenClaim := { program := "ytemlfklipkpacaa", sum := "0724df92113806d06c0f42ae4cd01b2b91903efe960bf6138aa27250f985a39c", func := "selion/selionlaw06.KnifeKnives", spec := "knifeKnives", unfollowed := true, recurses := true, apart := false, narrowed := true }
def KnifeKnivesUptoSaid : Prop := knifeKnivesUptoRow.holds Try.pinned (OpenSpec.upto knifeKnivesSpec)

/-- 'selionlaw06.KnifeChoices', WHERE WHAT IT READS IS OF BULK AT MOST 1048576: true; the input reads as it did. -/
def knifeChoicesUptoRow : OpenClaim := { program := "ytemlfklipkpacaa", sum := "0724df92113806d06c0f42ae4cd01b2b91903efe960bf6138aa27250f985a39c", func := "selion/selionlaw06.KnifeChoices", spec := "knifeChoices", unfollowed := true, recurses := true, apart := false, narrowed := true }
def KnifeChoicesUptoSaid : Prop := knifeChoicesUptoRow.holds Try.pinned (OpenSpec.upto knifeChoicesSpec)

/-- 'selionlaw06.KnifeEvens', WHERE WHAT IT READS IS OF BULK AT MOST 1048576: true; the input reads as it did. -/
def knifeEvensUptoRow : OpenClaim := { program := "ytemlfklipkpacaa", sum := "0724df92113806d06c0f42ae4cd01b2b91903efe960bf6138aa27250f985a39c", func := "selion/selionlaw06.KnifeEvens", spec := "knifeEvens", unfollowed := true, recurses := true, apart := false, narrowed := true }
def KnifeEvensUptoSaid : Prop := knifeEvensUptoRow.holds Try.pinned (OpenSpec.upto knifeEvensSpec)

/-- 'selionlaw06.KnifeWeighs', WHERE WHAT IT READS IS OF BULK AT MOST 1048576: true; the input reads as it did. -/
def knifeWeighsUptoRow : OpenClaim := { program := "ytemlfklipkpacaa", sum := "0724df92113806d06c0f42ae4cd01b2b91903efe960bf6138aa27250f985a39c", func := "selion/selionlaw06.KnifeWeighs", spec := "knifeWeighs", unfollowed := true, recurses := true, apart := false, narrowed := true }
def KnifeWeighsUptoSaid : Prop := knifeWeighsUptoRow.holds Try.pinned (OpenSpec.upto knifeWeighsSpec)

/-- 'selionlaw06.KnifeWithout', WHERE WHAT IT READS IS OF BULK AT MOST 1048576: true; the input reads as it did. -/
def knifeWithoutUptoRow : OpenClaim := { program := "ytemlfklipkpacaa", sum := "0724df92113806d06c0f42ae4cd01b2b91903efe960bf6138aa27250f985a39c", func := "selion/selionlaw06.KnifeWithout", spec := "knifeWithout", unfollowed := true, recurses := true, apart := false, narrowed := true }
def KnifeWithoutUptoSaid : Prop := knifeWithoutUptoRow.holds Try.pinned (OpenSpec.upto knifeWithoutSpec)

/-- 'seliontop.TopKnife', WHERE WHAT IT READS IS OF BULK AT MOST 1048576: true; the input reads as it did. -/
def topKnifeUptoRow : OpenClaim := { program := "ytemlfklipkpacaa", sum := "0724df92113806d06c0f42ae4cd01b2b91903efe960bf6138aa27250f985a39c", func := "selion/seliontop.TopKnife", spec := "topKnife", unfollowed := true, recurses := true, apart := false, narrowed := true }
def TopKnifeUptoSaid : Prop := topKnifeUptoRow.holds Try.pinned (OpenSpec.upto topKnifeSpec)

end Rows
end Go.Proofs.Ytemlfklipkpacaa
