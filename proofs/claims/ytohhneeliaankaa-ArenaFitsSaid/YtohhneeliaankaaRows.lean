/-
  No cell of these rows narrows 'for every input' (looked for: loops, veiled, ifaces, maps, wideKeys, modest, calm, conditions, laid).
  DERIVED. THE GIVEN ROWS OF THIS SEAT. 4 by the template 'for every input the law returns true; each argument reads behind the call as it read before'; 0 by the template 'total and deterministic' (their statements: YtohhneeliaankaaTotals.lean).
  GIVEN WITH THE SEED: the statements are not yours to turn. If you find one false, say at which input.
  Laid BY PROGRAM, IN A SANDBOX (cutbox-rows.mjs): the forced cells as the released guide's own fill.sh prints them over the translation c8d8c78875fad039… (all of the seat's roots in one cut). By AI agents, Wed Nov 11 2026. No macro, syntax, notation, axiom, sorry.
-/
import Derived.Test.YtohhneeliaankaaChecked
import GoSem.Claim
import GoSem.ClaimJoined
import GoSem.ClaimMapViews
import Derived.JoinedTies
import Derived.KernelRfl
namespace Go.Proofs.Ytohhneeliaankaa
/- THE CELL 'sum', in the pinned program and in every row, IS THE sha256 OF THE DUMP (.gsa) THAT YtohhneeliaankaaProg.lean LOADS. Nothing in Lean hashes anything: it is a label: what it is worth is what the hold of that sum in a sandbox is worth. -/
noncomputable def Try.pinned : Pinned := { name := "ytohhneeliaankaa", sum := "c8d8c78875fad039c56c16d69f1cde24ee2766eb49eb03bfd1a0fb9078f88de8", checked := Try.checked }
namespace Rows
def none {H : Type} : Left H := { results := [], args := [] }

/-- 'abutmentlaw06.ArenaPlays': WHATEVER THE INPUT: true; the input reads as it did. -/
def arenaPlaysSpec : ChangeSpec := { name := "arenaPlays", fn := fun _ => fun
  | [d1, d2] => { results := [.lit (.bool true)], args := [d1, d2] }
  | _ => none }
def arenaPlaysRow : OpenClaim := { program := "ytohhneeliaankaa", sum := "c8d8c78875fad039c56c16d69f1cde24ee2766eb49eb03bfd1a0fb9078f88de8", func := "abutment/abutmentlaw06.ArenaPlays", spec := "arenaPlays", apart := false }
def ArenaPlaysSaid : Prop := arenaPlaysRow.holds Try.pinned (OpenSpec.ofChange arenaPlaysSpec)

/-- ITS FALSE NEIGHBOUR: 'it returns false'. Refute it at one input. -/
def arenaPlaysWrong : ChangeSpec := { name := "arenaPlays", fn := fun _ => fun
  | [d1, d2] => { results := [.lit (.bool false)], args := [d1, d2] }
  | _ => none }
def ArenaPlaysWrongFalsely : Prop := arenaPlaysRow.holds Try.pinned (OpenSpec.ofChange arenaPlaysWrong)

/-- 'abutmentlaw06.ArenaApart': WHATEVER THE INPUT: true; the input reads as it did. -/
def arenaApartSpec : ChangeSpec := { name := "arenaApart", fn := fun _ => fun
  | [d1, d2] => { results := [.lit (.bool true)], args := [d1, d2] }
  | _ => none }
def arenaApartRow : OpenClaim := { program := "ytohhneeliaankaa", sum := "c8d8c78875fad039c56c16d69f1cde24ee2766eb49eb03bfd1a0fb9078f88de8", func := "abutment/abutmentlaw06.ArenaApart", spec := "arenaApart", apart := false }
def ArenaApartSaid : Prop := arenaApartRow.holds Try.pinned (OpenSpec.ofChange arenaApartSpec)

/-- ITS FALSE NEIGHBOUR: 'it returns false'. Refute it at one input. -/
def arenaApartWrong : ChangeSpec := { name := "arenaApart", fn := fun _ => fun
  | [d1, d2] => { results := [.lit (.bool false)], args := [d1, d2] }
  | _ => none }
def ArenaApartWrongFalsely : Prop := arenaApartRow.holds Try.pinned (OpenSpec.ofChange arenaApartWrong)

/-- 'abutmentlaw06.ArenaPeak': WHATEVER THE INPUT: true; the input reads as it did. -/
def arenaPeakSpec : ChangeSpec := { name := "arenaPeak", fn := fun _ => fun
  | [d1, d2] => { results := [.lit (.bool true)], args := [d1, d2] }
  | _ => none }
def arenaPeakRow : OpenClaim := { program := "ytohhneeliaankaa", sum := "c8d8c78875fad039c56c16d69f1cde24ee2766eb49eb03bfd1a0fb9078f88de8", func := "abutment/abutmentlaw06.ArenaPeak", spec := "arenaPeak", apart := false }
def ArenaPeakSaid : Prop := arenaPeakRow.holds Try.pinned (OpenSpec.ofChange arenaPeakSpec)

/-- ITS FALSE NEIGHBOUR: 'it returns false'. Refute it at one input. -/
def arenaPeakWrong : ChangeSpec := { name := "arenaPeak", fn := fun _ => fun
  | [d1, d2] => { results := [.lit (.bool false)], args := [d1, d2] }
  | _ => none }
def ArenaPeakWrongFalsely : Prop := arenaPeakRow.holds Try.pinned (OpenSpec.ofChange arenaPeakWrong)

/-- 'abutmentlaw06.ArenaFits': WHATEVER THE INPUT: true; the input reads as it did. -/
def arenaFitsSpec : ChangeSpec := { name := "arenaFits", fn := fun _ => fun
  | [d1, d2] => { results := [.lit (.bool true)], args := [d1, d2] }
  | _ => none }
def arenaFitsRow : OpenClaim := { program := "ytohhneeliaankaa", sum := "c8d8c78875fad039c56c16d69f1cde24ee2766eb49eb03bfd1a0fb9078f88de8", func := "abutment/abutmentlaw06.ArenaFits", spec := "arenaFits", apart := false }
def ArenaFitsSaid : Prop := arenaFitsRow.holds Try.pinned (OpenSpec.ofChange arenaFitsSpec)

/-- ITS FALSE NEIGHBOUR: 'it returns false'. Refute it at one input. -/
def arenaFitsWrong : ChangeSpec := { name := "arenaFits", fn := fun _ => fun
  | [d1, d2] => { results := [.lit (.bool false)], args := [d1, d2] }
  | _ => none }
def ArenaFitsWrongFalsely : Prop := arenaFitsRow.holds Try.pinned (OpenSpec.ofChange arenaFitsWrong)

/- THE SECOND FORM. 'bulk': how many values and letters a reading holds, each counted each time it is reached (what is shared counts as often as it is met; a slice's spare places count too). A statement '..UptoSaid' is the law's where the arguments, and the package variables that the reading takes, are together of bulk at most 1048576: NARROWER than '..Said'. Prove '..Said' where nothing that the law and all that it calls make is longer than what came in: it says more and counts as full. Else prove '..UptoSaid'. A law counts once. -/
mutual
def uptoBulk {H : Type} : DataW H → Nat
  | .lit (.string bytes) => bytes.length + 1
  | .lit _ => 1
  | .nil => 1
  | .ptr d => uptoBulk d + 1
  | .slice elems spare => uptoBulkAll elems + uptoBulkAll spare + 1
  | .agg parts => uptoBulkAll parts + 1
  | .iface _ d => uptoBulk d + 1
  | .map entries => uptoBulkEntries entries + 1
  | .held _ => 1
def uptoBulkAll {H : Type} : List (DataW H) → Nat
  | [] => 0
  | d :: r => uptoBulk d + uptoBulkAll r
def uptoBulkEntries {H : Type} : List (Lit × DataW H) → Nat
  | [] => 0
  | x :: r => uptoBulkEntry x + uptoBulkEntries r
def uptoBulkEntry {H : Type} : Lit × DataW H → Nat
  | (.string bytes, d) => bytes.length + uptoBulk d + 1
  | (_, d) => uptoBulk d + 1
 end
def uptoSmall : (H : Type) → List (DataW H) → Bool := fun _ ds => decide (uptoBulkAll ds ≤ 1048576)
def OpenSpec.upto (s : _root_.Go.ChangeSpec) : _root_.Go.OpenSpec := { _root_.Go.OpenSpec.ofChange s with cond := some uptoSmall }

/-- 'abutmentlaw06.ArenaPlays', WHERE WHAT IT READS IS OF BULK AT MOST 1048576: true; the input reads as it did. -/
def arenaPlaysUptoRow : OpenClaim := { program := "ytohhneeliaankaa", sum := "c8d8c78875fad039c56c16d69f1cde24ee2766eb49eb03bfd1a0fb9078f88de8", func := "abutment/abutmentlaw06.ArenaPlays", spec := "arenaPlays", apart := false, narrowed := true }
def ArenaPlaysUptoSaid : Prop := arenaPlaysUptoRow.holds Try.pinned (OpenSpec.upto arenaPlaysSpec)

/-- 'abutmentlaw06.ArenaApart', WHERE WHAT IT READS IS OF BULK AT MOST 1048576: true; the input reads as it did. -/
def arenaApartUptoRow : OpenClaim := { program := "ytohhneeliaankaa", sum := "c8d8c78875fad039c56c16d69f1cde24ee2766eb49eb03bfd1a0fb9078f88de8", func := "abutment/abutmentlaw06.ArenaApart", spec := "arenaApart", apart := false, narrowed := true }
def ArenaApartUptoSaid : Prop := arenaApartUptoRow.holds Try.pinned (OpenSpec.upto arenaApartSpec)

/-- 'abutmentlaw06.ArenaPeak', WHERE WHAT IT READS IS OF BULK AT MOST 1048576: true; the input reads as it did. -/
def arenaPeakUptoRow : OpenClaim := { program := "ytohhneeliaankaa", sum := "c8d8c78875fad039c56c16d69f1cde24ee2766eb49eb03bfd1a0fb9078f88de8", func := "abutment/abutmentlaw06.ArenaPeak", spec := "arenaPeak", apart := false, narrowed := true }
def ArenaPeakUptoSaid : Prop := arenaPeakUptoRow.holds Try.pinned (OpenSpec.upto arenaPeakSpec)

/-- 'abutmentlaw06.ArenaFits', WHERE WHAT IT READS IS OF BULK AT MOST 1048576: true; the input reads as it did. -/
def arenaFitsUptoRow : OpenClaim := { program := "ytohhneeliaankaa", sum := "c8d8c78875fad039c56c16d69f1cde24ee2766eb49eb03bfd1a0fb9078f88de8", func := "abutment/abutmentlaw06.ArenaFits", spec := "arenaFits", apart := false, narrowed := true }
def ArenaFitsUptoSaid : Prop := arenaFitsUptoRow.holds Try.pinned (OpenSpec.upto arenaFitsSpec)

end Rows
end Go.Proofs.Ytohhneeliaankaa
