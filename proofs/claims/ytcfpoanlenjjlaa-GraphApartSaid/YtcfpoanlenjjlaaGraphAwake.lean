/- What the laws' awake and few answer. -/
import Derived.Test.YtcfpoanlenjjlaaGraphOrd
import Derived.Lib.QuietBelow
namespace Go.Proofs.Ytcfpoanlenjjlaa
open Go.ChangeShapes Go.WideShapes Go.ChangeAt Go.RowKit

theorem alloc_edge (w : World) (t : TypeId) (u v : Int) (hu : I64 u) (hv : I64 v) : ReadsE (w.alloc (.cells #[.int .i64 u, .int .i64 v] t)) (w.heap.size + 1) (some ⟨w.heap.size, 0, none⟩) 1 [(u, v)] := by
  have h : Row (w.alloc (.cells #[.int .i64 u, .int .i64 v] t)) w.heap.size t [.int .i64 u, .int .i64 v] := heap_alloc_new _ _
  refine ⟨rfl, by simp [hu, hv], fun _ => ⟨_, 0, rfl, Nat.lt_succ_self _, fun i hi => ?_⟩⟩
  obtain rfl : i = 0 := by omega
  exact ⟨h.cell 0, h.cell 1⟩

set_option maxHeartbeats 800000 in
set_option maxRecDepth 100000 in
theorem awake_any (w : World) : Calls Try.prog 8 #[] w fun e w' => e = .returned (.bool true) ∧ Below w.heap.size w w' := by
  have HF : Hid (formed 1 [(0, 0)] = true) := by unfold Hid; decide
  have HO : Hid (ordered 0 [] = true) := by unfold Hid; decide
  have z0 : I64 0 := I64.of (by omega) (by omega)
  have z1 : I64 1 := I64.of (by omega) (by omega)
  have Z0 := Lib.hid z0
  have Z1 := Lib.hid z1
  clear z0 z1
  go_enter Try.func8, Try.ntmps8
  go_wp2_with fail
  refine (formed_any 1 _ 1 1 [(0, 0)] _ Z1.out (alloc_edge w 37 0 0 Z0.out Z0.out) (by simp) (by omega)).mono ?_; rintro e w1 ⟨rfl, hb1⟩
  rw [HF.out]
  go_wp2_with fail
  refine (ordered_any 0 _ 0 0 [] _ Z0.out (ReadsE.nil _ 0 _) (by simp) (by omega)).mono ?_; rintro e w2 ⟨rfl, hb2⟩
  rw [HO.out]
  have hb3 : Below w.heap.size w w2 := (((Below.refl _ _).alloc (Nat.le_refl _) _).trans (hb1.mono (by simp))).trans (hb2.mono (by have := hb1.size; simp at this; omega))
  have HB := Lib.hid hb3
  clear hb1 hb2 hb3
  go_wp2
  go_ret
  exact ⟨rfl, HB.out⟩

set_option maxRecDepth 100000 in
theorem few_any (N : Int) (a : Option Addr) (n cap : Nat) (w : World) : Calls Try.prog 9 #[.agg #[.int .i64 N, .slice a n cap]] w fun e w' => e = .returned (.bool (decide (n ≤ 300))) ∧ Below w.heap.size w w' := by
  go_enter Try.func9, Try.ntmps9
  go_wp2
  go_ret
  exact ⟨ret_bool (by rw [Bool.eq_iff_iff]; simp; omega), (Below.refl _ _).alloc (Nat.le_refl _) _⟩
end Go.Proofs.Ytcfpoanlenjjlaa
