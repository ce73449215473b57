/-
  No cell of these rows narrows 'for every input' (looked for: loops, veiled, ifaces, maps, wideKeys, modest, calm, conditions, laid).
  DERIVED. THE GIVEN ROWS OF THIS SEAT. 6 by the template 'for every input the law returns true; each argument reads behind the call as it read before'; 0 by the template 'total and deterministic' (their statements: YtdjmjabbjjcgiaaTotals.lean).
  GIVEN WITH THE SEED: the statements are not yours to turn. If you find one false, say at which input.
  Laid BY PROGRAM, IN A SANDBOX (cutbox-rows.mjs): the forced cells as the released guide's own fill.sh prints them over the translation 324b447b6323d6b9… (all of the seat's roots in one cut). By AI agents, Wed Nov 11 2026. No macro, syntax, notation, axiom, sorry.
-/
import Derived.Test.YtdjmjabbjjcgiaaChecked
import GoSem.Claim
import GoSem.ClaimJoined
import GoSem.ClaimMapViews
import Derived.JoinedTies
import Derived.KernelRfl
namespace Go.Proofs.Ytdjmjabbjjcgiaa
/- THE CELL 'sum', in the pinned program and in every row, IS THE sha256 OF THE DUMP (.gsa) THAT YtdjmjabbjjcgiaaProg.lean LOADS. Nothing in Lean hashes anything: it is a label: what it is worth is what the hold of that sum in a sandbox is worth. -/
noncomputable def Try.pinned : Pinned := { name := "ytdjmjabbjjcgiaa", sum := "324b447b6323d6b9b757a6ce6f8886bd0614f5bd893af86a23c5e0f6ff8bb5b4", checked := Try.checked }
namespace Rows
def none {H : Type} : Left H := { results := [], args := [] }

/-- 'abutmentlaw04.FormatEncodes': WHATEVER THE INPUT: true; the input reads as it did. -/
def formatEncodesSpec : ChangeSpec := { name := "formatEncodes", fn := fun _ => fun
  | [d] => { results := [.lit (.bool true)], args := [d] }
  | _ => none }
def formatEncodesRow : OpenClaim := { program := "ytdjmjabbjjcgiaa", sum := "324b447b6323d6b9b757a6ce6f8886bd0614f5bd893af86a23c5e0f6ff8bb5b4", func := "abutment/abutmentlaw04.FormatEncodes", spec := "formatEncodes", inPlace := ["internal/reflectlite.ValueOf", "internal/reflectlite.Swapper", "(internal/reflectlite.Value).Len"], unfollowed := true, recurses := true, apart := false }
def FormatEncodesSaid : Prop := formatEncodesRow.holds Try.pinned (OpenSpec.ofChange formatEncodesSpec)

/-- ITS FALSE NEIGHBOUR: 'it returns false'. Refute it at one input. -/
def formatEncodesWrong : ChangeSpec := { name := "formatEncodes", fn := fun _ => fun
  | [d] => { results := [.lit (.bool false)], args := [d] }
  | _ => none }
def FormatEncodesWrongFalsely : Prop := formatEncodesRow.holds Try.pinned (OpenSpec.ofChange formatEncodesWrong)

/-- 'abutmentlaw04.FormatDecodes': WHATEVER THE INPUT: true; the input reads as it did. -/
def formatDecodesSpec : ChangeSpec := { name := "formatDecodes", fn := fun _ => fun
  | [d] => { results := [.lit (.bool true)], args := [d] }
  | _ => none }
def formatDecodesRow : OpenClaim := { program := "ytdjmjabbjjcgiaa", sum := "324b447b6323d6b9b757a6ce6f8886bd0614f5bd893af86a23c5e0f6ff8bb5b4", func := "abutment/abutmentlaw04.FormatDecodes", spec := "formatDecodes", inPlace := ["internal/reflectlite.ValueOf", "internal/reflectlite.Swapper", "(internal/reflectlite.Value).Len"], unfollowed := true, recurses := true, apart := false }
def FormatDecodesSaid : Prop := formatDecodesRow.holds Try.pinned (OpenSpec.ofChange formatDecodesSpec)

/-- ITS FALSE NEIGHBOUR: 'it returns false'. Refute it at one input. -/
def formatDecodesWrong : ChangeSpec := { name := "formatDecodes", fn := fun _ => fun
  | [d] => { results := [.lit (.bool false)], args := [d] }
  | _ => none }
def FormatDecodesWrongFalsely : Prop := formatDecodesRow.holds Try.pinned (OpenSpec.ofChange formatDecodesWrong)

/-- 'abutmentlaw04.FormatBack': WHATEVER THE INPUT: true; the input reads as it did. -/
def formatBackSpec : ChangeSpec := { name := "formatBack", fn := fun _ => fun
  | [d1, d2] => { results := [.lit (.bool true)], args := [d1, d2] }
  | _ => none }
def formatBackRow : OpenClaim := { program := "ytdjmjabbjjcgiaa", sum := "324b447b6323d6b9b757a6ce6f8886bd0614f5bd893af86a23c5e0f6ff8bb5b4", func := "abutment/abutmentlaw04.FormatBack", spec := "formatBack", inPlace := ["internal/reflectlite.ValueOf", "internal/reflectlite.Swapper", "(internal/reflectlite.Value).Len"], unfollowed := true, recurses := true, apart := false }
def FormatBackSaid : Prop := formatBackRow.holds Try.pinned (OpenSpec.ofChange formatBackSpec)

/-- ITS FALSE NEIGHBOUR: 'it returns false'. Refute it at one input. -/
def formatBackWrong : ChangeSpec := { name := "formatBack", fn := fun _ => fun
  | [d1, d2] => { results := [.lit (.bool false)], args := [d1, d2] }
  | _ => none }
def FormatBackWrongFalsely : Prop := formatBackRow.holds Try.pinned (OpenSpec.ofChange formatBackWrong)

/-- 'abutmentlaw04.FormatCuts': WHATEVER THE INPUT: true; the input reads as it did. -/
def formatCutsSpec : ChangeSpec := { name := "formatCuts", fn := fun _ => fun
  | [d1, d2, d3] => { results := [.lit (.bool true)], args := [d1, d2, d3] }
  | _ => none }
def formatCutsRow : OpenClaim := { program := "ytdjmjabbjjcgiaa", sum := "324b447b6323d6b9b757a6ce6f8886bd0614f5bd893af86a23c5e0f6ff8bb5b4", func := "abutment/abutmentlaw04.FormatCuts", spec := "formatCuts", inPlace := ["internal/reflectlite.ValueOf", "internal/reflectlite.Swapper", "(internal/reflectlite.Value).Len"], unfollowed := true, recurses := true, apart := false }
def FormatCutsSaid : Prop := formatCutsRow.holds Try.pinned (OpenSpec.ofChange formatCutsSpec)

/-- ITS FALSE NEIGHBOUR: 'it returns false'. Refute it at one input. -/
def formatCutsWrong : ChangeSpec := { name := "formatCuts", fn := fun _ => fun
  | [d1, d2, d3] => { results := [.lit (.bool false)], args := [d1, d2, d3] }
  | _ => none }
def FormatCutsWrongFalsely : Prop := formatCutsRow.holds Try.pinned (OpenSpec.ofChange formatCutsWrong)

/-- 'abutmentlaw04.FormatLeast': WHATEVER THE INPUT: true; the input reads as it did. -/
def formatLeastSpec : ChangeSpec := { name := "formatLeast", fn := fun _ => fun
  | [d] => { results := [.lit (.bool true)], args := [d] }
  | _ => none }
def formatLeastRow : OpenClaim := { program := "ytdjmjabbjjcgiaa", sum := "324b447b6323d6b9b757a6ce6f8886bd0614f5bd893af86a23c5e0f6ff8bb5b4", func := "abutment/abutmentlaw04.FormatLeast", spec := "formatLeast", inPlace := ["internal/reflectlite.ValueOf", "internal/reflectlite.Swapper", "(internal/reflectlite.Value).Len"], unfollowed := true, recurses := true, apart := false }
def FormatLeastSaid : Prop := formatLeastRow.holds Try.pinned (OpenSpec.ofChange formatLeastSpec)

/-- ITS FALSE NEIGHBOUR: 'it returns false'. Refute it at one input. -/
def formatLeastWrong : ChangeSpec := { name := "formatLeast", fn := fun _ => fun
  | [d] => { results := [.lit (.bool false)], args := [d] }
  | _ => none }
def FormatLeastWrongFalsely : Prop := formatLeastRow.holds Try.pinned (OpenSpec.ofChange formatLeastWrong)

/-- 'abutmentlaw04.FormatOnly': WHATEVER THE INPUT: true; the input reads as it did. -/
def formatOnlySpec : ChangeSpec := { name := "formatOnly", fn := fun _ => fun
  | [d1, d2] => { results := [.lit (.bool true)], args := [d1, d2] }
  | _ => none }
def formatOnlyRow : OpenClaim := { program := "ytdjmjabbjjcgiaa", sum := "324b447b6323d6b9b757a6ce6f8886bd0614f5bd893af86a23c5e0f6ff8bb5b4", func := "abutment/abutmentlaw04.FormatOnly", spec := "formatOnly", inPlace := ["internal/reflectlite.ValueOf", "internal/reflectlite.Swapper", "(internal/reflectlite.Value).Len"], unfollowed := true, recurses := true, apart := false }
def FormatOnlySaid : Prop := formatOnlyRow.holds Try.pinned (OpenSpec.ofChange formatOnlySpec)

/-- ITS FALSE NEIGHBOUR: 'it returns false'. Refute it at one input. -/
def formatOnlyWrong : ChangeSpec := { name := "formatOnly", fn := fun _ => fun
  | [d1, d2] => { results := [.lit (.bool false)], args := [d1, d2] }
  | _ => none }
def FormatOnlyWrongFalsely : Prop := formatOnlyRow.holds Try.pinned (OpenSpec.ofChange formatOnlyWrong)

/- THE SECOND FORM. 'bulk': how many values and letters a reading holds, each counted each time it is reached (what is shared counts as often as it is met; a slice's spare places count too). A statement '..UptoSaid' is the law's where the arguments, and the package variables that the reading takes, are together of bulk at most 1048576: NARROWER than '..Said'. Prove '..Said' where nothing that the law and all that it calls make is longer than what came in: it says more and counts as full. Else prove '..UptoSaid'. A law counts once. -/
mutual
def uptoBulk {H : Type} : DataW H → Nat
  | .lit (.string bytes) => bytes.length + 1
  | .lit _ => 1
  | .nil => 1
  | .ptr d => uptoBulk d + 1
  | .slice elems spare => uptoBulkAll elems + uptoBulkAll spare + 1
  | .agg parts => uptoBulkAll parts + 1
  | .iface _ d => uptoBulk d + 1
  | .map entries => uptoBulkEntries entries + 1
  | .held _ => 1
def uptoBulkAll {H : Type} : List (DataW H) → Nat
  | [] => 0
  | d :: r => uptoBulk d + uptoBulkAll r
def uptoBulkEntries {H : Type} : List (Lit × DataW H) → Nat
  | [] => 0
  | x :: r => uptoBulkEntry x + uptoBulkEntries r
def uptoBulkEntry {H : Type} : Lit × DataW H → Nat
  | (.string bytes, d) => bytes.length + uptoBulk d + 1
  | (_, d) => uptoBulk d + 1
 end
def uptoSmall : (H : Type) → List (DataW H) → Bool := fun _ ds => decide (uptoBulkAll ds ≤ 1048576)
def OpenSpec.upto (s : _root_.Go.ChangeSpec) : _root_.Go.OpenSpec := { _root_.Go.OpenSpec.ofChange s with cond := some uptoSmall }

/-- 'abutmentlaw04.FormatEncodes', WHERE WHAT IT READS IS OF BULK AT MOST 1048576: true; the input reads as it did. -/
def formatEncodesUptoRow : OpenClaim := { program := "ytdjmjabbjjcgiaa", sum := "324b447b6323d6b9b757a6ce6f8886bd0614f5bd893af86a23c5e0f6ff8bb5b4", func := "abutment/abutmentlaw04.FormatEncodes", spec := "formatEncodes", inPlace := ["internal/reflectlite.ValueOf", "internal/reflectlite.Swapper", "(internal/reflectlite.Value).Len"], unfollowed := true, recurses := true, apart := false, narrowed := true }
def FormatEncodesUptoSaid : Prop := formatEncodesUptoRow.holds Try.pinned (OpenSpec.upto formatEncodesSpec)

/-- 'abutmentlaw04.FormatDecodes', WHERE WHAT IT READS IS OF BULK AT MOST 1048576: true; the input reads as it did. -/
def formatDecodesUptoRow : OpenClaim := { program := "ytdjmjabbjjcgiaa", sum := "324b447b6323d6b9b757a6ce6f8886bd0614f5bd893af86a23c5e0f6ff8bb5b4", func := "abutment/abutmentlaw04.FormatDecodes", spec := "formatDecodes", inPlace := ["internal/reflectlite.ValueOf", "internal/reflectlite.Swapper", "(internal/reflectlite.Value).Len"], unfollowed := true, recurses := true, apart := false, narrowed := true }
def FormatDecodesUptoSaid : Prop := formatDecodesUptoRow.holds Try.pinned (OpenSpec.upto formatDecodesSpec)

/-- 'abutmentlaw04.FormatBack', WHERE WHAT IT READS IS OF BULK AT MOST 1048576: true; the input reads as it did. -/
def formatBackUptoRow : OpenClaim := { program := "ytdjmjabbjjcgiaa", sum := "324b447b6323d6b9b757a6ce6f8886bd0614f5bd893af86a23c5e0f6ff8bb5b4", func := "abutment/abutmentlaw04.FormatBack", spec := "formatBack", inPlace := ["internal/reflectlite.ValueOf", "internal/reflectlite.Swapper", "(internal/reflectlite.Value).Len"], unfollowed := true, recurses := true, apart := false, narrowed := true }
def FormatBackUptoSaid : Prop := formatBackUptoRow.holds Try.pinned (OpenSpec.upto formatBackSpec)

/-- 'abutmentlaw04.FormatCuts', WHERE WHAT IT READS IS OF BULK AT MOST 1048576: true; the input reads as it did. -/
def formatCutsUptoRow : OpenClaim := { program := "ytdjmjabbjjcgiaa", sum := "324b447b6323d6b9b757a6ce6f8886bd0614f5bd893af86a23c5e0f6ff8bb5b4", func := "abutment/abutmentlaw04.FormatCuts", spec := "formatCuts", inPlace := ["internal/reflectlite.ValueOf", "internal/reflectlite.Swapper", "(internal/reflectlite.Value).Len"], unfollowed := true, recurses := true, apart := false, narrowed := true }
def FormatCutsUptoSaid : Prop := formatCutsUptoRow.holds Try.pinned (OpenSpec.upto formatCutsSpec)

/-- 'abutmentlaw04.FormatLeast', WHERE WHAT IT READS IS OF BULK AT MOST 1048576: true; the input reads as it did. -/
def formatLeastUptoRow : OpenClaim := { program := "ytdjmjabbjjcgiaa", sum := "324b447b6323d6b9b757a6ce6f8886bd0614f5bd893af86a23c5e0f6ff8bb5b4", func := "abutment/abutmentlaw04.FormatLeast", spec := "formatLeast", inPlace := ["internal/reflectlite.ValueOf", "internal/reflectlite.Swapper", "(internal/reflectlite.Value).Len"], unfollowed := true, recurses := true, apart := false, narrowed := true }
def FormatLeastUptoSaid : Prop := formatLeastUptoRow.holds Try.pinned (OpenSpec.upto formatLeastSpec)

/-- 'abutmentlaw04.FormatOnly', WHERE WHAT IT READS IS OF BULK AT MOST 1048576: true; the input reads as it did. -/
def formatOnlyUptoRow : OpenClaim := { program := "ytdjmjabbjjcgiaa", sum := "324b447b6323d6b9b757a6ce6f8886bd0614f5bd893af86a23c5e0f6ff8bb5b4", func := "abutment/abutmentlaw04.FormatOnly", spec := "formatOnly", inPlace := ["internal/reflectlite.ValueOf", "internal/reflectlite.Swapper", "(internal/reflectlite.Value).Len"], unfollowed := true, recurses := true, apart := false, narrowed := true }
def FormatOnlyUptoSaid : Prop := formatOnlyUptoRow.holds Try.pinned (OpenSpec.upto formatOnlySpec)

end Rows
end Go.Proofs.Ytdjmjabbjjcgiaa
