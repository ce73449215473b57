/-
  No cell of these rows narrows 'for every input' (looked for: loops, veiled, ifaces, maps, wideKeys, modest, calm, conditions, laid).
  DERIVED. THE GIVEN ROWS OF THIS SEAT. 4 by the template 'for every input the law returns true; each argument reads behind the call as it read before'; 0 by the template 'total and deterministic' (their statements: YthdibijkiogpjaaTotals.lean).
  GIVEN WITH THE SEED: the statements are not yours to turn. If you find one false, say at which input.
  Laid BY PROGRAM, IN A SANDBOX (cutbox-rows.mjs): the forced cells as the released guide's own fill.sh prints them over the translation 641b450619f86e29… (all of the seat's roots in one cut). By AI agents, Wed Nov 11 2026. No macro, syntax, notation, axiom, sorry.
-/
import Derived.Test.YthdibijkiogpjaaChecked
import GoSem.Claim
import GoSem.ClaimJoined
import GoSem.ClaimMapViews
import Derived.JoinedTies
import Derived.KernelRfl
namespace Go.Proofs.Ythdibijkiogpjaa
/- THE CELL 'sum', in the pinned program and in every row, IS THE sha256 OF THE DUMP (.gsa) THAT YthdibijkiogpjaaProg.lean LOADS. Nothing in Lean hashes anything: it is a label: what it is worth is what the hold of that sum in a sandbox is worth. -/
noncomputable def Try.pinned : Pinned := { name := "ythdibijkiogpjaa", sum := "641b450619f86e292d89f7c83de209ae3ea22574ab90081201346520876a533b", checked := Try.checked }
namespace Rows
def none {H : Type} : Left H := { results := [], args := [] }

/-- 'abutmentlaw09.ManifestForms': WHATEVER THE INPUT: true; the input reads as it did. -/
def manifestFormsSpec : ChangeSpec := { name := "manifestForms", fn := fun _ => fun
  | [d1, d2] => { results := [.lit (.bool true)], args := [d1, d2] }
  | _ => none }
def manifestFormsRow : OpenClaim := { program := "ythdibijkiogpjaa", sum := "641b450619f86e292d89f7c83de209ae3ea22574ab90081201346520876a533b", func := "abutment/abutmentlaw09.ManifestForms", spec := "manifestForms", unfollowed := true, recurses := true, apart := false }
def ManifestFormsSaid : Prop := manifestFormsRow.holds Try.pinned (OpenSpec.ofChange manifestFormsSpec)

/-- ITS FALSE NEIGHBOUR: 'it returns false'. Refute it at one input. -/
def manifestFormsWrong : ChangeSpec := { name := "manifestForms", fn := fun _ => fun
  | [d1, d2] => { results := [.lit (.bool false)], args := [d1, d2] }
  | _ => none }
def ManifestFormsWrongFalsely : Prop := manifestFormsRow.holds Try.pinned (OpenSpec.ofChange manifestFormsWrong)

/-- 'abutmentlaw09.ManifestCuts': WHATEVER THE INPUT: true; the input reads as it did. -/
def manifestCutsSpec : ChangeSpec := { name := "manifestCuts", fn := fun _ => fun
  | [d1, d2] => { results := [.lit (.bool true)], args := [d1, d2] }
  | _ => none }
def manifestCutsRow : OpenClaim := { program := "ythdibijkiogpjaa", sum := "641b450619f86e292d89f7c83de209ae3ea22574ab90081201346520876a533b", func := "abutment/abutmentlaw09.ManifestCuts", spec := "manifestCuts", inPlace := ["maps.clone"], unfollowed := true, recurses := true, apart := false }
def ManifestCutsSaid : Prop := manifestCutsRow.holds Try.pinned (OpenSpec.ofChange manifestCutsSpec)

/-- ITS FALSE NEIGHBOUR: 'it returns false'. Refute it at one input. -/
def manifestCutsWrong : ChangeSpec := { name := "manifestCuts", fn := fun _ => fun
  | [d1, d2] => { results := [.lit (.bool false)], args := [d1, d2] }
  | _ => none }
def ManifestCutsWrongFalsely : Prop := manifestCutsRow.holds Try.pinned (OpenSpec.ofChange manifestCutsWrong)

/-- 'abutmentlaw09.ManifestBack': WHATEVER THE INPUT: true; the input reads as it did. -/
def manifestBackSpec : ChangeSpec := { name := "manifestBack", fn := fun _ => fun
  | [d1, d2, d3] => { results := [.lit (.bool true)], args := [d1, d2, d3] }
  | _ => none }
def manifestBackRow : OpenClaim := { program := "ythdibijkiogpjaa", sum := "641b450619f86e292d89f7c83de209ae3ea22574ab90081201346520876a533b", func := "abutment/abutmentlaw09.ManifestBack", spec := "manifestBack", unfollowed := true, recurses := true, apart := false }
def ManifestBackSaid : Prop := manifestBackRow.holds Try.pinned (OpenSpec.ofChange manifestBackSpec)

/-- ITS FALSE NEIGHBOUR: 'it returns false'. Refute it at one input. -/
def manifestBackWrong : ChangeSpec := { name := "manifestBack", fn := fun _ => fun
  | [d1, d2, d3] => { results := [.lit (.bool false)], args := [d1, d2, d3] }
  | _ => none }
def ManifestBackWrongFalsely : Prop := manifestBackRow.holds Try.pinned (OpenSpec.ofChange manifestBackWrong)

/-- 'abutmentlaw09.ManifestSlots': WHATEVER THE INPUT: true; the input reads as it did. -/
def manifestSlotsSpec : ChangeSpec := { name := "manifestSlots", fn := fun _ => fun
  | [d1, d2, d3] => { results := [.lit (.bool true)], args := [d1, d2, d3] }
  | _ => none }
def manifestSlotsRow : OpenClaim := { program := "ythdibijkiogpjaa", sum := "641b450619f86e292d89f7c83de209ae3ea22574ab90081201346520876a533b", func := "abutment/abutmentlaw09.ManifestSlots", spec := "manifestSlots", unfollowed := true, recurses := true, apart := false }
def ManifestSlotsSaid : Prop := manifestSlotsRow.holds Try.pinned (OpenSpec.ofChange manifestSlotsSpec)

/-- ITS FALSE NEIGHBOUR: 'it returns false'. Refute it at one input. -/
def manifestSlotsWrong : ChangeSpec := { name := "manifestSlots", fn := fun _ => fun
  | [d1, d2, d3] => { results := [.lit (.bool false)], args := [d1, d2, d3] }
  | _ => none }
def ManifestSlotsWrongFalsely : Prop := manifestSlotsRow.holds Try.pinned (OpenSpec.ofChange manifestSlotsWrong)

/- THE SECOND FORM. 'bulk': how many values and letters a reading holds, each counted each time it is reached (what is shared counts as often as it is met; a slice's spare places count too). A statement '..UptoSaid' is the law's where the arguments, and the package variables that the reading takes, are together of bulk at most 1048576: NARROWER than '..Said'. Prove '..Said' where nothing that the law and all that it calls make is longer than what came in: it says more and counts as full. Else prove '..UptoSaid'. A law counts once. -/
mutual
def uptoBulk {H : Type} : DataW H → Nat
  | .lit (.string bytes) => bytes.length + 1
  | .lit _ => 1
  | .nil => 1
  | .ptr d => uptoBulk d + 1
  | .slice elems spare => uptoBulkAll elems + uptoBulkAll spare + 1
  | .agg parts => uptoBulkAll parts + 1
  | .iface _ d => uptoBulk d + 1
  | .map entries => uptoBulkEntries entries + 1
  | .held _ => 1
def uptoBulkAll {H : Type} : List (DataW H) → Nat
  | [] => 0
  | d :: r => uptoBulk d + uptoBulkAll r
def uptoBulkEntries {H : Type} : List (Lit × DataW H) → Nat
  | [] => 0
  | x :: r => uptoBulkEntry x + uptoBulkEntries r
def uptoBulkEntry {H : Type} : Lit × DataW H → Nat
  | (.string bytes, d) => bytes.length + uptoBulk d + 1
  | (_, d) => uptoBulk d + 1
 end
def uptoSmall : (H : Type) → List (DataW H) → Bool := fun _ ds => decide (uptoBulkAll ds ≤ 1048576)
def OpenSpec.upto (s : _root_.Go.ChangeSpec) : _root_.Go.OpenSpec := { _root_.Go.OpenSpec.ofChange s with cond := some uptoSmall }

/-- 'abutmentlaw09.ManifestForms', WHERE WHAT IT READS IS OF BULK AT MOST 1048576: true; the input reads as it did. -/
def manifestFormsUptoRow : OpenClaim := { program := "ythdibijkiogpjaa", sum := "641b450619f86e292d89f7c83de209ae3ea22574ab90081201346520876a533b", func := "abutment/abutmentlaw09.ManifestForms", spec := "manifestForms", unfollowed := true, recurses := true, apart := false, narrowed := true }
def ManifestFormsUptoSaid : Prop := manifestFormsUptoRow.holds Try.pinned (OpenSpec.upto manifestFormsSpec)

/-- 'abutmentlaw09.ManifestCuts', WHERE WHAT IT READS IS OF BULK AT MOST 1048576: true; the input reads as it did. -/
def manifestCutsUptoRow : OpenClaim := { program := "ythdibijkiogpjaa", sum := "641b450619f86e292d89f7c83de209ae3ea22574ab90081201346520876a533b", func := "abutment/abutmentlaw09.ManifestCuts", spec := "manifestCuts", inPlace := ["maps.clone"], unfollowed := true, recurses := true, apart := false, narrowed := true }
def ManifestCutsUptoSaid : Prop := manifestCutsUptoRow.holds Try.pinned (OpenSpec.upto manifestCutsSpec)

/-- 'abutmentlaw09.ManifestBack', WHERE WHAT IT READS IS OF BULK AT MOST 1048576: true; the input reads as it did. -/
def manifestBackUptoRow : OpenClaim := { program := "ythdibijkiogpjaa", sum := "641b450619f86e292d89f7c83de209ae3ea22574ab90081201346520876a533b", func := "abutment/abutmentlaw09.ManifestBack", spec := "manifestBack", unfollowed := true, recurses := true, apart := false, narrowed := true }
def ManifestBackUptoSaid : Prop := manifestBackUptoRow.holds Try.pinned (OpenSpec.upto manifestBackSpec)

/-- 'abutmentlaw09.ManifestSlots', WHERE WHAT IT READS IS OF BULK AT MOST 1048576: true; the input reads as it did. -/
def manifestSlotsUptoRow : OpenClaim := { program := "ythdibijkiogpjaa", sum := "641b450619f86e292d89f7c83de209ae3ea22574ab90081201346520876a533b", func := "abutment/abutmentlaw09.ManifestSlots", spec := "manifestSlots", unfollowed := true, recurses := true, apart := false, narrowed := true }
def ManifestSlotsUptoSaid : Prop := manifestSlotsUptoRow.holds Try.pinned (OpenSpec.upto manifestSlotsSpec)

end Rows
end Go.Proofs.Ythdibijkiogpjaa
