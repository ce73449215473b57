/- What (*Space).join leaves. -/
import Derived.Test.YtbkgpilmgllkiaaSpJoin0
import Derived.Test.YtbkgpilmgllkiaaSpJoin1
import Derived.Test.YtbkgpilmgllkiaaSpJoin2
namespace Go.Proofs.Ytbkgpilmgllkiaa
open Go.ChangeShapes Go.WideShapes Go.ChangeAt Go.RowKit

theorem join_any (p : Nat) (s : Sp) (G : Nat → Prop) (i f n' : Nat) (w : World) (h : Spc w G p s) (hi : i = nextI s.fr f) (h1 : s.first ≤ f) (h2 : f + n' ≤ s.first + s.blocks) (hn : 1 ≤ n') (hno : ∀ b, f ≤ b → b < f + n' → ¬ hasB s.fr b) :
    Calls Try.prog 66 #[.pointer (some ⟨p, 0, none⟩), .int .i64 i, .agg #[.int .i64 f, .int .i64 n']] w fun e w' => ∃ G', e = .returned (.tuple #[]) ∧ Spc w' G' p { s with fr := joinL s.fr i f n' } ∧ Far G w w' ∧ ∀ k, G' k → G k ∨ w.heap.size ≤ k := by
  by_cases hl0 : 0 < i
  · by_cases hlt : (xAt s.fr (i - 1)).1 + (xAt s.fr (i - 1)).2 = f
    · exact join_l2 p s G i f n' w h hi h1 h2 hn hno hl0 hlt
    · exact join_l1 p s G i f n' w h hi h1 h2 hn hno hl0 hlt
  · exact join_l0 p s G i f n' w h hi h1 h2 hn hno hl0
end Go.Proofs.Ytbkgpilmgllkiaa
