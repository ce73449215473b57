/- (*Space).join: written by wip/tools/genjoin.py. -/
import Derived.Test.YtbkgpilmgllkiaaSpCut
import Derived.BigRegion
namespace Go.Proofs.Ytbkgpilmgllkiaa
open Go.ChangeShapes Go.WideShapes Go.ChangeAt Go.RowKit

theorem box2x {w w' : World} {x y : Value} (h : Below (w.heap.size + 1) (w.alloc (.cells #[x, y] 98)) w') : Row w' w.heap.size 98 [x, y] := by
  have r1 : Row (w.alloc (.cells #[x, y] 98)) w.heap.size 98 [x, y] := heap_alloc_new _ _
  exact r1.below h (Nat.lt_succ_self _)
section
variable {l : List Ex} {i f n : Nat}
theorem touchL_t (h0 : 0 < i) (h : (xAt l (i - 1)).1 + (xAt l (i - 1)).2 = f) : touchL l i f = true := by simp [touchL, h0, h]
theorem touchL_f (h : 0 < i → (xAt l (i - 1)).1 + (xAt l (i - 1)).2 ≠ f) : touchL l i f = false := by
  unfold touchL
  by_cases h0 : 0 < i
  · simp [h0, h h0]
  · simp [h0]
theorem touchR_t (h0 : i < l.length) (h : (xAt l i).1 = f) : touchR l i f = true := by simp [touchR, h0, h]
theorem touchR_f (h : i < l.length → (xAt l i).1 ≠ f) : touchR l i f = false := by
  unfold touchR
  by_cases h0 : i < l.length
  · simp [h0, h h0]
  · simp [h0]
end

end Go.Proofs.Ytbkgpilmgllkiaa
