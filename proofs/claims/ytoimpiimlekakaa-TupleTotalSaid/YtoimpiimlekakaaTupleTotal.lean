/-
  TupleTotal: whatever three tuples and order; no condition.
-/
import Derived.Test.YtoimpiimlekakaaRows
import Derived.Test.YtoimpiimlekakaaTupLaw
import Derived.WalkKit
import Derived.ProofKit
import Derived.OpenShut
import Derived.ShutString
import Derived.ChangeOld
import Derived.Below
namespace Go.Proofs.Ytoimpiimlekakaa.tupleTotal
open Go.ChangeShapes Go.WideShapes Go.ChangeAt Go.RowKit
open Go.ChangeMaps (open_string shut_string)
set_option linter.unusedVariables false

theorem own : ownKnob Try.prog.godebug = none := by kernel_rfl
theorem laidOut : laidOutB Try.prog = true := by kernel_rfl


set_option maxHeartbeats 4000000 in
set_option maxRecDepth 100000 in
theorem walk (xa xb xc : Tup) (x1 : Tup) (w : World) (ya : TupOk xa) (yb : TupOk xb) (yc : TupOk xc) (y1 : TupOk x1) :
    Calls Try.prog 5 #[.agg #[.int .i64 xa.a, .int .i64 xa.b, .int .i64 xa.c, .int .i64 xa.d, .int .i64 xa.e, .int .i64 xb.a, .int .i64 xb.b, .int .i64 xb.c, .int .i64 xb.d, .int .i64 xb.e, .int .i64 xc.a, .int .i64 xc.b, .int .i64 xc.c, .int .i64 xc.d, .int .i64 xc.e], .agg #[.int .i64 x1.a, .int .i64 x1.b, .int .i64 x1.c, .int .i64 x1.d, .int .i64 x1.e]] w fun e w' => e = .returned (.bool true) ∧ Below w.heap.size w w' := by
  obtain ⟨W1, hW1, hb1, s1, r1, r2⟩ := boxes2 w [.int .i64 xa.a, .int .i64 xa.b, .int .i64 xa.c, .int .i64 xa.d, .int .i64 xa.e, .int .i64 xb.a, .int .i64 xb.b, .int .i64 xb.c, .int .i64 xb.d, .int .i64 xb.e, .int .i64 xc.a, .int .i64 xc.b, .int .i64 xc.c, .int .i64 xc.d, .int .i64 xc.e] [.int .i64 x1.a, .int .i64 x1.b, .int .i64 x1.c, .int .i64 x1.d, .int .i64 x1.e] 39 25
  have HW1 := Lib.hid hW1
  have HS1 := Lib.hid s1
  have c0 : W1.cell? ⟨w.heap.size, 0, none⟩ = some (.int .i64 xa.a) := r1.cell 0
  have c1 : W1.cell? ⟨w.heap.size, 1, none⟩ = some (.int .i64 xa.b) := r1.cell 1
  have c2 : W1.cell? ⟨w.heap.size, 2, none⟩ = some (.int .i64 xa.c) := r1.cell 2
  have c3 : W1.cell? ⟨w.heap.size, 3, none⟩ = some (.int .i64 xa.d) := r1.cell 3
  have c4 : W1.cell? ⟨w.heap.size, 4, none⟩ = some (.int .i64 xa.e) := r1.cell 4
  have c5 : W1.cell? ⟨w.heap.size, 5, none⟩ = some (.int .i64 xb.a) := r1.cell 5
  have c6 : W1.cell? ⟨w.heap.size, 6, none⟩ = some (.int .i64 xb.b) := r1.cell 6
  have c7 : W1.cell? ⟨w.heap.size, 7, none⟩ = some (.int .i64 xb.c) := r1.cell 7
  have c8 : W1.cell? ⟨w.heap.size, 8, none⟩ = some (.int .i64 xb.d) := r1.cell 8
  have c9 : W1.cell? ⟨w.heap.size, 9, none⟩ = some (.int .i64 xb.e) := r1.cell 9
  have c10 : W1.cell? ⟨w.heap.size, 10, none⟩ = some (.int .i64 xc.a) := r1.cell 10
  have c11 : W1.cell? ⟨w.heap.size, 11, none⟩ = some (.int .i64 xc.b) := r1.cell 11
  have c12 : W1.cell? ⟨w.heap.size, 12, none⟩ = some (.int .i64 xc.c) := r1.cell 12
  have c13 : W1.cell? ⟨w.heap.size, 13, none⟩ = some (.int .i64 xc.d) := r1.cell 13
  have c14 : W1.cell? ⟨w.heap.size, 14, none⟩ = some (.int .i64 xc.e) := r1.cell 14
  have HRO := Lib.hid r2
  have HB1 := Lib.hid hb1
  have HA := Lib.hid awake_any
  have HFO := Lib.hid (formed_any x1)
  clear r1 r2 hb1 s1 hW1 ya yb yc y1
  go_enter Try.func5, Try.ntmps5
  go_upto_region 1 with (fail)
  rw [← HW1.out]
  clear HW1
  have HT : Hid (∀ a b c : List Value, Below (w.heap.size + 2) W1 (((W1.alloc (.cells a.toArray 23)).alloc (.cells b.toArray 23)).alloc (.cells c.toArray 23)).drew ∧ Row (((W1.alloc (.cells a.toArray 23)).alloc (.cells b.toArray 23)).alloc (.cells c.toArray 23)).drew (w.heap.size + 2) 23 a ∧ Row (((W1.alloc (.cells a.toArray 23)).alloc (.cells b.toArray 23)).alloc (.cells c.toArray 23)).drew (w.heap.size + 2 + 1) 23 b ∧ Row (((W1.alloc (.cells a.toArray 23)).alloc (.cells b.toArray 23)).alloc (.cells c.toArray 23)).drew (w.heap.size + 2 + 1 + 1) 23 c) := fun a b c => by
    obtain ⟨W, hW, hb, _, q1, q2, q3⟩ := boxes3 W1 a b c 23 23 23
    rw [← hW]
    have h := HS1.out
    rw [h] at hb q1 q2 q3
    exact ⟨⟨hb.os, hb.tape, hb.output, hb.size, hb.block⟩, q1, q2, q3⟩
  have hs1 := HS1.out
  have hb0 : Below (w.heap.size + 2) W1 W1 := Below.refl _ _
  have HK : Hid (∀ W, Below (w.heap.size + 2) W1 W → W.cell? ⟨w.heap.size, 0, none⟩ = some (.int .i64 xa.a) ∧ W.cell? ⟨w.heap.size, 1, none⟩ = some (.int .i64 xa.b) ∧ W.cell? ⟨w.heap.size, 2, none⟩ = some (.int .i64 xa.c) ∧ W.cell? ⟨w.heap.size, 3, none⟩ = some (.int .i64 xa.d) ∧ W.cell? ⟨w.heap.size, 4, none⟩ = some (.int .i64 xa.e) ∧ W.cell? ⟨w.heap.size, 5, none⟩ = some (.int .i64 xb.a) ∧ W.cell? ⟨w.heap.size, 6, none⟩ = some (.int .i64 xb.b) ∧ W.cell? ⟨w.heap.size, 7, none⟩ = some (.int .i64 xb.c) ∧ W.cell? ⟨w.heap.size, 8, none⟩ = some (.int .i64 xb.d) ∧ W.cell? ⟨w.heap.size, 9, none⟩ = some (.int .i64 xb.e) ∧ W.cell? ⟨w.heap.size, 10, none⟩ = some (.int .i64 xc.a) ∧ W.cell? ⟨w.heap.size, 11, none⟩ = some (.int .i64 xc.b) ∧ W.cell? ⟨w.heap.size, 12, none⟩ = some (.int .i64 xc.c) ∧ W.cell? ⟨w.heap.size, 13, none⟩ = some (.int .i64 xc.d) ∧ W.cell? ⟨w.heap.size, 14, none⟩ = some (.int .i64 xc.e)) := fun W hb => ⟨(hb.cell (p := ⟨w.heap.size, 0, none⟩) (show w.heap.size < w.heap.size + 2 by omega)).trans c0, (hb.cell (p := ⟨w.heap.size, 1, none⟩) (show w.heap.size < w.heap.size + 2 by omega)).trans c1, (hb.cell (p := ⟨w.heap.size, 2, none⟩) (show w.heap.size < w.heap.size + 2 by omega)).trans c2, (hb.cell (p := ⟨w.heap.size, 3, none⟩) (show w.heap.size < w.heap.size + 2 by omega)).trans c3, (hb.cell (p := ⟨w.heap.size, 4, none⟩) (show w.heap.size < w.heap.size + 2 by omega)).trans c4, (hb.cell (p := ⟨w.heap.size, 5, none⟩) (show w.heap.size < w.heap.size + 2 by omega)).trans c5, (hb.cell (p := ⟨w.heap.size, 6, none⟩) (show w.heap.size < w.heap.size + 2 by omega)).trans c6, (hb.cell (p := ⟨w.heap.size, 7, none⟩) (show w.heap.size < w.heap.size + 2 by omega)).trans c7, (hb.cell (p := ⟨w.heap.size, 8, none⟩) (show w.heap.size < w.heap.size + 2 by omega)).trans c8, (hb.cell (p := ⟨w.heap.size, 9, none⟩) (show w.heap.size < w.heap.size + 2 by omega)).trans c9, (hb.cell (p := ⟨w.heap.size, 10, none⟩) (show w.heap.size < w.heap.size + 2 by omega)).trans c10, (hb.cell (p := ⟨w.heap.size, 11, none⟩) (show w.heap.size < w.heap.size + 2 by omega)).trans c11, (hb.cell (p := ⟨w.heap.size, 12, none⟩) (show w.heap.size < w.heap.size + 2 by omega)).trans c12, (hb.cell (p := ⟨w.heap.size, 13, none⟩) (show w.heap.size < w.heap.size + 2 by omega)).trans c13, (hb.cell (p := ⟨w.heap.size, 14, none⟩) (show w.heap.size < w.heap.size + 2 by omega)).trans c14⟩
  have HKD : Hid (∀ X, Below (w.heap.size + 2) W1 X → X.drew.cell? ⟨w.heap.size, 0, none⟩ = some (.int .i64 xa.a) ∧ X.drew.cell? ⟨w.heap.size, 1, none⟩ = some (.int .i64 xa.b) ∧ X.drew.cell? ⟨w.heap.size, 2, none⟩ = some (.int .i64 xa.c) ∧ X.drew.cell? ⟨w.heap.size, 3, none⟩ = some (.int .i64 xa.d) ∧ X.drew.cell? ⟨w.heap.size, 4, none⟩ = some (.int .i64 xa.e) ∧ X.drew.cell? ⟨w.heap.size, 5, none⟩ = some (.int .i64 xb.a) ∧ X.drew.cell? ⟨w.heap.size, 6, none⟩ = some (.int .i64 xb.b) ∧ X.drew.cell? ⟨w.heap.size, 7, none⟩ = some (.int .i64 xb.c) ∧ X.drew.cell? ⟨w.heap.size, 8, none⟩ = some (.int .i64 xb.d) ∧ X.drew.cell? ⟨w.heap.size, 9, none⟩ = some (.int .i64 xb.e) ∧ X.drew.cell? ⟨w.heap.size, 10, none⟩ = some (.int .i64 xc.a) ∧ X.drew.cell? ⟨w.heap.size, 11, none⟩ = some (.int .i64 xc.b) ∧ X.drew.cell? ⟨w.heap.size, 12, none⟩ = some (.int .i64 xc.c) ∧ X.drew.cell? ⟨w.heap.size, 13, none⟩ = some (.int .i64 xc.d) ∧ X.drew.cell? ⟨w.heap.size, 14, none⟩ = some (.int .i64 xc.e)) := fun X hb => HK.out _ ⟨hb.os, hb.tape, hb.output, hb.size, hb.block⟩
  go_cut [5, 6, 7] from 5 to 13 (fun sa sb sc wx => ∃ ga gb gc : Nat, sa = .pointer (some ⟨ga, 0, none⟩) ∧ sb = .pointer (some ⟨gb, 0, none⟩) ∧ sc = .pointer (some ⟨gc, 0, none⟩) ∧ Hid (Below (w.heap.size + 2) W1 wx) ∧ Hid (Row wx ga 23 [.int .i64 xa.a, .int .i64 xa.b, .int .i64 xa.c, .int .i64 xa.d, .int .i64 xa.e]) ∧ Hid (Row wx gb 23 [.int .i64 xb.a, .int .i64 xb.b, .int .i64 xb.c, .int .i64 xb.d, .int .i64 xb.e]) ∧ Hid (Row wx gc 23 [.int .i64 xc.a, .int .i64 xc.b, .int .i64 xc.c, .int .i64 xc.d, .int .i64 xc.e]))
  case first =>
    go_region_held3 (fun W => W.cell? ⟨w.heap.size, 0, none⟩ = some (.int .i64 xa.a) ∧ W.cell? ⟨w.heap.size, 1, none⟩ = some (.int .i64 xa.b) ∧ W.cell? ⟨w.heap.size, 2, none⟩ = some (.int .i64 xa.c) ∧ W.cell? ⟨w.heap.size, 3, none⟩ = some (.int .i64 xa.d) ∧ W.cell? ⟨w.heap.size, 4, none⟩ = some (.int .i64 xa.e) ∧ W.cell? ⟨w.heap.size, 5, none⟩ = some (.int .i64 xb.a) ∧ W.cell? ⟨w.heap.size, 6, none⟩ = some (.int .i64 xb.b) ∧ W.cell? ⟨w.heap.size, 7, none⟩ = some (.int .i64 xb.c) ∧ W.cell? ⟨w.heap.size, 8, none⟩ = some (.int .i64 xb.d) ∧ W.cell? ⟨w.heap.size, 9, none⟩ = some (.int .i64 xb.e) ∧ W.cell? ⟨w.heap.size, 10, none⟩ = some (.int .i64 xc.a) ∧ W.cell? ⟨w.heap.size, 11, none⟩ = some (.int .i64 xc.b) ∧ W.cell? ⟨w.heap.size, 12, none⟩ = some (.int .i64 xc.c) ∧ W.cell? ⟨w.heap.size, 13, none⟩ = some (.int .i64 xc.d) ∧ W.cell? ⟨w.heap.size, 14, none⟩ = some (.int .i64 xc.e)) (first | (with_reducible refine HKD.out _ ?_; first | exact hb0 | exact hb0.alloc (by first | omega | (simp; omega)) _ | exact (hb0.alloc (by first | omega | (simp; omega)) _).alloc (by first | omega | (simp; omega)) _ | exact ((hb0.alloc (by first | omega | (simp; omega)) _).alloc (by first | omega | (simp; omega)) _).alloc (by first | omega | (simp; omega)) _))
      (first | fail)
    all_goals go_wp2
    all_goals go_meet
    all_goals (first
      | exact ⟨_, _, _, rfl, rfl, rfl, (HT.out [.int .i64 xa.a, .int .i64 xa.b, .int .i64 xa.c, .int .i64 xa.d, .int .i64 xa.e] [.int .i64 xb.a, .int .i64 xb.b, .int .i64 xb.c, .int .i64 xb.d, .int .i64 xb.e] [.int .i64 xc.a, .int .i64 xc.b, .int .i64 xc.c, .int .i64 xc.d, .int .i64 xc.e]).1, (HT.out [.int .i64 xa.a, .int .i64 xa.b, .int .i64 xa.c, .int .i64 xa.d, .int .i64 xa.e] [.int .i64 xb.a, .int .i64 xb.b, .int .i64 xb.c, .int .i64 xb.d, .int .i64 xb.e] [.int .i64 xc.a, .int .i64 xc.b, .int .i64 xc.c, .int .i64 xc.d, .int .i64 xc.e]).2.1, (HT.out [.int .i64 xa.a, .int .i64 xa.b, .int .i64 xa.c, .int .i64 xa.d, .int .i64 xa.e] [.int .i64 xb.a, .int .i64 xb.b, .int .i64 xb.c, .int .i64 xb.d, .int .i64 xb.e] [.int .i64 xc.a, .int .i64 xc.b, .int .i64 xc.c, .int .i64 xc.d, .int .i64 xc.e]).2.2.1, (HT.out [.int .i64 xa.a, .int .i64 xa.b, .int .i64 xa.c, .int .i64 xa.d, .int .i64 xa.e] [.int .i64 xb.a, .int .i64 xb.b, .int .i64 xb.c, .int .i64 xb.d, .int .i64 xb.e] [.int .i64 xc.a, .int .i64 xc.b, .int .i64 xc.c, .int .i64 xc.d, .int .i64 xc.e]).2.2.2⟩
      | exact ⟨_, _, _, rfl, rfl, rfl, (HT.out [.int .i64 xa.a, .int .i64 xa.b, .int .i64 xa.c, .int .i64 xa.d, .int .i64 xa.e] [.int .i64 xc.a, .int .i64 xc.b, .int .i64 xc.c, .int .i64 xc.d, .int .i64 xc.e] [.int .i64 xb.a, .int .i64 xb.b, .int .i64 xb.c, .int .i64 xb.d, .int .i64 xb.e]).1, (HT.out [.int .i64 xa.a, .int .i64 xa.b, .int .i64 xa.c, .int .i64 xa.d, .int .i64 xa.e] [.int .i64 xc.a, .int .i64 xc.b, .int .i64 xc.c, .int .i64 xc.d, .int .i64 xc.e] [.int .i64 xb.a, .int .i64 xb.b, .int .i64 xb.c, .int .i64 xb.d, .int .i64 xb.e]).2.1, (HT.out [.int .i64 xa.a, .int .i64 xa.b, .int .i64 xa.c, .int .i64 xa.d, .int .i64 xa.e] [.int .i64 xc.a, .int .i64 xc.b, .int .i64 xc.c, .int .i64 xc.d, .int .i64 xc.e] [.int .i64 xb.a, .int .i64 xb.b, .int .i64 xb.c, .int .i64 xb.d, .int .i64 xb.e]).2.2.2, (HT.out [.int .i64 xa.a, .int .i64 xa.b, .int .i64 xa.c, .int .i64 xa.d, .int .i64 xa.e] [.int .i64 xc.a, .int .i64 xc.b, .int .i64 xc.c, .int .i64 xc.d, .int .i64 xc.e] [.int .i64 xb.a, .int .i64 xb.b, .int .i64 xb.c, .int .i64 xb.d, .int .i64 xb.e]).2.2.1⟩
      | exact ⟨_, _, _, rfl, rfl, rfl, (HT.out [.int .i64 xb.a, .int .i64 xb.b, .int .i64 xb.c, .int .i64 xb.d, .int .i64 xb.e] [.int .i64 xa.a, .int .i64 xa.b, .int .i64 xa.c, .int .i64 xa.d, .int .i64 xa.e] [.int .i64 xc.a, .int .i64 xc.b, .int .i64 xc.c, .int .i64 xc.d, .int .i64 xc.e]).1, (HT.out [.int .i64 xb.a, .int .i64 xb.b, .int .i64 xb.c, .int .i64 xb.d, .int .i64 xb.e] [.int .i64 xa.a, .int .i64 xa.b, .int .i64 xa.c, .int .i64 xa.d, .int .i64 xa.e] [.int .i64 xc.a, .int .i64 xc.b, .int .i64 xc.c, .int .i64 xc.d, .int .i64 xc.e]).2.2.1, (HT.out [.int .i64 xb.a, .int .i64 xb.b, .int .i64 xb.c, .int .i64 xb.d, .int .i64 xb.e] [.int .i64 xa.a, .int .i64 xa.b, .int .i64 xa.c, .int .i64 xa.d, .int .i64 xa.e] [.int .i64 xc.a, .int .i64 xc.b, .int .i64 xc.c, .int .i64 xc.d, .int .i64 xc.e]).2.1, (HT.out [.int .i64 xb.a, .int .i64 xb.b, .int .i64 xb.c, .int .i64 xb.d, .int .i64 xb.e] [.int .i64 xa.a, .int .i64 xa.b, .int .i64 xa.c, .int .i64 xa.d, .int .i64 xa.e] [.int .i64 xc.a, .int .i64 xc.b, .int .i64 xc.c, .int .i64 xc.d, .int .i64 xc.e]).2.2.2⟩
      | exact ⟨_, _, _, rfl, rfl, rfl, (HT.out [.int .i64 xb.a, .int .i64 xb.b, .int .i64 xb.c, .int .i64 xb.d, .int .i64 xb.e] [.int .i64 xc.a, .int .i64 xc.b, .int .i64 xc.c, .int .i64 xc.d, .int .i64 xc.e] [.int .i64 xa.a, .int .i64 xa.b, .int .i64 xa.c, .int .i64 xa.d, .int .i64 xa.e]).1, (HT.out [.int .i64 xb.a, .int .i64 xb.b, .int .i64 xb.c, .int .i64 xb.d, .int .i64 xb.e] [.int .i64 xc.a, .int .i64 xc.b, .int .i64 xc.c, .int .i64 xc.d, .int .i64 xc.e] [.int .i64 xa.a, .int .i64 xa.b, .int .i64 xa.c, .int .i64 xa.d, .int .i64 xa.e]).2.2.2, (HT.out [.int .i64 xb.a, .int .i64 xb.b, .int .i64 xb.c, .int .i64 xb.d, .int .i64 xb.e] [.int .i64 xc.a, .int .i64 xc.b, .int .i64 xc.c, .int .i64 xc.d, .int .i64 xc.e] [.int .i64 xa.a, .int .i64 xa.b, .int .i64 xa.c, .int .i64 xa.d, .int .i64 xa.e]).2.1, (HT.out [.int .i64 xb.a, .int .i64 xb.b, .int .i64 xb.c, .int .i64 xb.d, .int .i64 xb.e] [.int .i64 xc.a, .int .i64 xc.b, .int .i64 xc.c, .int .i64 xc.d, .int .i64 xc.e] [.int .i64 xa.a, .int .i64 xa.b, .int .i64 xa.c, .int .i64 xa.d, .int .i64 xa.e]).2.2.1⟩
      | exact ⟨_, _, _, rfl, rfl, rfl, (HT.out [.int .i64 xc.a, .int .i64 xc.b, .int .i64 xc.c, .int .i64 xc.d, .int .i64 xc.e] [.int .i64 xa.a, .int .i64 xa.b, .int .i64 xa.c, .int .i64 xa.d, .int .i64 xa.e] [.int .i64 xb.a, .int .i64 xb.b, .int .i64 xb.c, .int .i64 xb.d, .int .i64 xb.e]).1, (HT.out [.int .i64 xc.a, .int .i64 xc.b, .int .i64 xc.c, .int .i64 xc.d, .int .i64 xc.e] [.int .i64 xa.a, .int .i64 xa.b, .int .i64 xa.c, .int .i64 xa.d, .int .i64 xa.e] [.int .i64 xb.a, .int .i64 xb.b, .int .i64 xb.c, .int .i64 xb.d, .int .i64 xb.e]).2.2.1, (HT.out [.int .i64 xc.a, .int .i64 xc.b, .int .i64 xc.c, .int .i64 xc.d, .int .i64 xc.e] [.int .i64 xa.a, .int .i64 xa.b, .int .i64 xa.c, .int .i64 xa.d, .int .i64 xa.e] [.int .i64 xb.a, .int .i64 xb.b, .int .i64 xb.c, .int .i64 xb.d, .int .i64 xb.e]).2.2.2, (HT.out [.int .i64 xc.a, .int .i64 xc.b, .int .i64 xc.c, .int .i64 xc.d, .int .i64 xc.e] [.int .i64 xa.a, .int .i64 xa.b, .int .i64 xa.c, .int .i64 xa.d, .int .i64 xa.e] [.int .i64 xb.a, .int .i64 xb.b, .int .i64 xb.c, .int .i64 xb.d, .int .i64 xb.e]).2.1⟩
      | exact ⟨_, _, _, rfl, rfl, rfl, (HT.out [.int .i64 xc.a, .int .i64 xc.b, .int .i64 xc.c, .int .i64 xc.d, .int .i64 xc.e] [.int .i64 xb.a, .int .i64 xb.b, .int .i64 xb.c, .int .i64 xb.d, .int .i64 xb.e] [.int .i64 xa.a, .int .i64 xa.b, .int .i64 xa.c, .int .i64 xa.d, .int .i64 xa.e]).1, (HT.out [.int .i64 xc.a, .int .i64 xc.b, .int .i64 xc.c, .int .i64 xc.d, .int .i64 xc.e] [.int .i64 xb.a, .int .i64 xb.b, .int .i64 xb.c, .int .i64 xb.d, .int .i64 xb.e] [.int .i64 xa.a, .int .i64 xa.b, .int .i64 xa.c, .int .i64 xa.d, .int .i64 xa.e]).2.2.2, (HT.out [.int .i64 xc.a, .int .i64 xc.b, .int .i64 xc.c, .int .i64 xc.d, .int .i64 xc.e] [.int .i64 xb.a, .int .i64 xb.b, .int .i64 xb.c, .int .i64 xb.d, .int .i64 xb.e] [.int .i64 xa.a, .int .i64 xa.b, .int .i64 xa.c, .int .i64 xa.d, .int .i64 xa.e]).2.2.1, (HT.out [.int .i64 xc.a, .int .i64 xc.b, .int .i64 xc.c, .int .i64 xc.d, .int .i64 xc.e] [.int .i64 xb.a, .int .i64 xb.b, .int .i64 xb.c, .int .i64 xb.d, .int .i64 xb.e] [.int .i64 xa.a, .int .i64 xa.b, .int .i64 xa.c, .int .i64 xa.d, .int .i64 xa.e]).2.1⟩)
  case rest =>
    obtain ⟨ga, gb, gc, rfl, rfl, rfl, HBC, HRA, HRB, HRC⟩ := hcut
    clear hs1 hb0 HK HKD HT c0 c1 c2 c3 c4 c5 c6 c7 c8 c9 c10 c11 c12 c13 c14
    have HGS : Hid (w.heap.size + 2 ≤ wc.heap.size) := Nat.le_trans (Nat.le_of_eq HS1.out.symm) HBC.out.size
    have HRR : Hid (∀ W, Below wc.heap.size wc W → Below w.heap.size w W ∧ Row W ga 23 [.int .i64 xa.a, .int .i64 xa.b, .int .i64 xa.c, .int .i64 xa.d, .int .i64 xa.e] ∧ Row W gb 23 [.int .i64 xb.a, .int .i64 xb.b, .int .i64 xb.c, .int .i64 xb.d, .int .i64 xb.e] ∧ Row W gc 23 [.int .i64 xc.a, .int .i64 xc.b, .int .i64 xc.c, .int .i64 xc.d, .int .i64 xc.e] ∧ Row W (w.heap.size + 1) 25 [.int .i64 x1.a, .int .i64 x1.b, .int .i64 x1.c, .int .i64 x1.d, .int .i64 x1.e]) := fun W hb => by
      have h2 := HBC.out.trans (hb.mono HGS.out)
      exact ⟨HB1.out.trans (h2.mono (by omega)), HRA.out.below hb HRA.out.lt, HRB.out.below hb HRB.out.lt, HRC.out.below hb HRC.out.lt, HRO.out.below h2 (by omega)⟩
    have hnext : ∀ W W', Below wc.heap.size wc W → Below W.heap.size W W' → Below wc.heap.size wc W' := fun W W' h hb => h.trans (hb.mono h.size)
    have HN := Lib.hid hnext
    clear hnext HBC HRA HRB HRC HRO HB1 HGS HS1
    by_cases hf : Fm x1
    rotate_left
    · rw [decide_eq_false hf] at HFO
      have HCC := Lib.hid (cmp_any x1 xa xb)
      rw [show cmpT x1 xa xb = 0 from by unfold cmpT; rw [if_neg hf]] at HCC
      clear hf
      go_wp2_with fail
      refine (HA.out _).mono ?_; rintro e w2 ⟨rfl, hb⟩
      have HB2 := Lib.hid hb
      obtain ⟨_, _, _, _, r5⟩ := HRR.out _ hb
      obtain ⟨d0, d1, d2, d3, d4⟩ := five0 r5
      clear hb r5
      go_wp2_with fail
      refine (HFO.out _).mono ?_; rintro e w3 ⟨rfl, hb⟩
      have HB3 := Lib.hid (HN.out _ _ HB2.out hb)
      clear hb d0 d1 d2 d3 d4
      go_wp2_with fail
      refine (HA.out _).mono ?_; rintro e w4 ⟨rfl, hb⟩
      have HB4 := Lib.hid (HN.out _ _ HB3.out hb)
      obtain ⟨_, r1, r2, _, r5⟩ := HRR.out _ HB4.out
      obtain ⟨d0, d1, d2, d3, d4⟩ := five0 r5
      obtain ⟨p0, p1, p2, p3, p4⟩ := five0 r1
      obtain ⟨q0, q1, q2, q3, q4⟩ := five0 r2
      clear hb r1 r2 r5
      go_wp2_with fail
      refine (HCC.out _).mono ?_; rintro e w5 ⟨rfl, hb⟩
      have HB5 := Lib.hid (HN.out _ _ HB4.out hb)
      clear hb
      go_wp2
      go_ret
      exact ⟨rfl, (HRR.out _ HB5.out).1⟩
    · rw [decide_eq_true hf] at HFO
      have HAB := Lib.hid (cmp_any x1 xa xb)
      have HBA := Lib.hid (cmp_any x1 xb xa)
      have HBCc := Lib.hid (cmp_any x1 xb xc)
      have HAC := Lib.hid (cmp_any x1 xa xc)
      have HUA := Lib.hid (cut_any x1 xa)
      have HUB := Lib.hid (cut_any x1 xb)
      have hrg := cmpT_range x1 xb xa
      have hanti := cmpT_anti x1 xa xb
      have hcut := cut_iff hf xa xb
      have htr := cmpT_trans (o := x1) (a := xa) (b := xb) (c := xc)
      generalize cmpT x1 xa xb = C at *
      generalize cmpT x1 xb xa = D at *
      generalize cmpT x1 xb xc = E at *
      generalize cmpT x1 xa xc = F at *
      generalize cutT x1 xa = ua at *
      generalize cutT x1 xb = ub at *
      have hg := fun W x y => guard_tup W .eql x y #[.int .i64 ua.a, .int .i64 ua.b, .int .i64 ua.c, .int .i64 ua.d, .int .i64 ua.e] #[.int .i64 ub.a, .int .i64 ub.b, .int .i64 ub.c, .int .i64 ub.d, .int .i64 ub.e]
      clear hf
      rcases hrg with hD | hD | hD
      · subst hD
        obtain rfl : C = 1 := by omega
        have heq : ∀ W, (binOp .eql 23 (.agg #[.int .i64 ua.a, .int .i64 ua.b, .int .i64 ua.c, .int .i64 ua.d, .int .i64 ua.e]) (.agg #[.int .i64 ub.a, .int .i64 ub.b, .int .i64 ub.c, .int .i64 ub.d, .int .i64 ub.e])).run Try.prog W = .ok (.bool false) W := fun W => by rw [eqT, decide_eq_false (fun h => absurd (hcut.2 h) (by decide))]
        clear hanti hcut htr
        go_wp2_with fail
        refine (HA.out _).mono ?_; rintro e w2 ⟨rfl, hb⟩
        have HB2 := Lib.hid hb
        obtain ⟨_, _, _, _, r5⟩ := HRR.out _ hb
        obtain ⟨d0, d1, d2, d3, d4⟩ := five0 r5
        clear hb r5
        go_wp2_with fail
        refine (HFO.out _).mono ?_; rintro e w3 ⟨rfl, hb⟩
        have HB3 := Lib.hid (HN.out _ _ HB2.out hb)
        obtain ⟨_, r1, r2, r3, r5⟩ := HRR.out _ HB3.out
        clear hb d0 d1 d2 d3 d4
        obtain ⟨d0, d1, d2, d3, d4⟩ := five r5
        obtain ⟨p0, p1, p2, p3, p4⟩ := five r1
        obtain ⟨q0, q1, q2, q3, q4⟩ := five r2
        have Q1 := Lib.hid (regrownC HAB.out w3)
        have Q2 := Lib.hid (regrownC HBA.out w3)
        have Q3 := Lib.hid (regrownC HUA.out w3)
        have Q4 := Lib.hid (regrownC HUB.out w3)
        clear r1 r2 r3 r5
        go_wp2
        refine wp_region_quiet_below (by kernel_rfl) (by kernel_rfl) ?_
        repeat (any_goals (first | go_big_quiet_step (with_reducible first | exact Q1.out _ _ | exact Q2.out _ _ | exact Q3.out _ _ | exact Q4.out _ _) | quiet_step (with_reducible first | exact Q1.out _ _ | exact Q2.out _ _ | exact Q3.out _ _ | exact Q4.out _ _)))
        refine wpQuiet_nil ?_
        intro w5 hw5
        obtain ⟨⟨dq, osq⟩, hw5⟩ := hw5
        have hb5 := below_regrown w3 dq osq
        subst hw5
        have HB6 := Lib.hid (HN.out _ _ HB3.out hb5)
        clear hb5 d0 d1 d2 d3 d4 p0 p1 p2 p3 p4 q0 q1 q2 q3 q4 Q1 Q2 Q3 Q4
        generalize Sort.grow (redrawn w3 dq) osq = w6 at *
        obtain ⟨_, r1, r2, r3, r5⟩ := HRR.out _ HB6.out
        obtain ⟨d0, d1, d2, d3, d4⟩ := five0 r5
        obtain ⟨p0, p1, p2, p3, p4⟩ := five0 r1
        obtain ⟨q0, q1, q2, q3, q4⟩ := five0 r2
        clear r1 r2 r3 r5
        go_wp2_with fail
        refine (HAB.out _).mono ?_; rintro e w7 ⟨rfl, hb⟩
        have HB7 := Lib.hid (HN.out _ _ HB6.out hb)
        clear hb d0 d1 d2 d3 d4 p0 p1 p2 p3 p4 q0 q1 q2 q3 q4
        go_wp2
        go_ret
        exact ⟨rfl, (HRR.out _ HB7.out).1⟩
      · subst hD
        obtain rfl : C = 0 := by omega
        have heq : ∀ W, (binOp .eql 23 (.agg #[.int .i64 ua.a, .int .i64 ua.b, .int .i64 ua.c, .int .i64 ua.d, .int .i64 ua.e]) (.agg #[.int .i64 ub.a, .int .i64 ub.b, .int .i64 ub.c, .int .i64 ub.d, .int .i64 ub.e])).run Try.prog W = .ok (.bool true) W := fun W => by rw [eqT, decide_eq_true (hcut.1 rfl)]
        have htr2 : E ≤ 0 → F ≤ 0 := htr (by decide)
        have HTR := Lib.hid htr2
        clear htr2
        clear hanti hcut htr
        go_wp2_with fail
        refine (HA.out _).mono ?_; rintro e w2 ⟨rfl, hb⟩
        have HB2 := Lib.hid hb
        obtain ⟨_, _, _, _, r5⟩ := HRR.out _ hb
        obtain ⟨d0, d1, d2, d3, d4⟩ := five0 r5
        clear hb r5
        go_wp2_with fail
        refine (HFO.out _).mono ?_; rintro e w3 ⟨rfl, hb⟩
        have HB3 := Lib.hid (HN.out _ _ HB2.out hb)
        obtain ⟨_, r1, r2, r3, r5⟩ := HRR.out _ HB3.out
        clear hb d0 d1 d2 d3 d4
        obtain ⟨d0, d1, d2, d3, d4⟩ := five r5
        obtain ⟨p0, p1, p2, p3, p4⟩ := five r1
        obtain ⟨q0, q1, q2, q3, q4⟩ := five r2
        have Q1 := Lib.hid (regrownC HAB.out w3)
        have Q2 := Lib.hid (regrownC HBA.out w3)
        have Q3 := Lib.hid (regrownC HUA.out w3)
        have Q4 := Lib.hid (regrownC HUB.out w3)
        clear r1 r2 r3 r5
        go_wp2
        refine wp_region_quiet_below (by kernel_rfl) (by kernel_rfl) ?_
        repeat (any_goals (first | go_big_quiet_step (with_reducible first | exact Q1.out _ _ | exact Q2.out _ _ | exact Q3.out _ _ | exact Q4.out _ _) | quiet_step (with_reducible first | exact Q1.out _ _ | exact Q2.out _ _ | exact Q3.out _ _ | exact Q4.out _ _)))
        refine wpQuiet_nil ?_
        intro w5 hw5
        obtain ⟨⟨dq, osq⟩, hw5⟩ := hw5
        have hb5 := below_regrown w3 dq osq
        subst hw5
        have HB6 := Lib.hid (HN.out _ _ HB3.out hb5)
        clear hb5 d0 d1 d2 d3 d4 p0 p1 p2 p3 p4 q0 q1 q2 q3 q4 Q1 Q2 Q3 Q4
        generalize Sort.grow (redrawn w3 dq) osq = w6 at *
        obtain ⟨_, r1, r2, r3, r5⟩ := HRR.out _ HB6.out
        obtain ⟨d0, d1, d2, d3, d4⟩ := five0 r5
        obtain ⟨p0, p1, p2, p3, p4⟩ := five0 r1
        obtain ⟨q0, q1, q2, q3, q4⟩ := five0 r2
        clear r1 r2 r3 r5
        go_wp2_with fail
        refine (HAB.out _).mono ?_; rintro e w7 ⟨rfl, hb⟩
        have HB7 := Lib.hid (HN.out _ _ HB6.out hb)
        clear hb d0 d1 d2 d3 d4 p0 p1 p2 p3 p4 q0 q1 q2 q3 q4
        obtain ⟨_, r1, r2, r3, r5⟩ := HRR.out _ HB7.out
        obtain ⟨d0, d1, d2, d3, d4⟩ := five0 r5
        obtain ⟨q0, q1, q2, q3, q4⟩ := five0 r2
        obtain ⟨p0, p1, p2, p3, p4⟩ := five0 r3
        clear r1 r2 r3 r5
        go_wp2_with fail
        refine (HBCc.out _).mono ?_; rintro e w8 ⟨rfl, hb⟩
        have HB8 := Lib.hid (HN.out _ _ HB7.out hb)
        clear hb d0 d1 d2 d3 d4 p0 p1 p2 p3 p4 q0 q1 q2 q3 q4
        by_cases hE : 0 < E
        · have gE : decide (E > 0) = true := by simpa using hE
          have gE' : decide (0 < E) = true := by simpa using hE
          clear hE
          go_wp2
          go_ret
          exact ⟨rfl, (HRR.out _ HB8.out).1⟩
        · have gE : decide (E > 0) = false := by simpa using hE
          have gE' : decide (0 < E) = false := by simpa using hE
          have hF := HTR.out (by omega)
          have gF : decide (F ≤ 0) = true := by simpa using hF
          clear hE hF
          obtain ⟨_, r1, r2, r3, r5⟩ := HRR.out _ HB8.out
          obtain ⟨d0, d1, d2, d3, d4⟩ := five0 r5
          obtain ⟨q0, q1, q2, q3, q4⟩ := five0 r1
          obtain ⟨p0, p1, p2, p3, p4⟩ := five0 r3
          clear r1 r2 r3 r5
          go_wp2_with fail
          refine (HAC.out _).mono ?_; rintro e w9 ⟨rfl, hb⟩
          have HB9 := Lib.hid (HN.out _ _ HB8.out hb)
          clear hb
          go_wp2
          go_ret
          exact ⟨rfl, (HRR.out _ HB9.out).1⟩
      · subst hD
        obtain rfl : C = (-1) := by omega
        have heq : ∀ W, (binOp .eql 23 (.agg #[.int .i64 ua.a, .int .i64 ua.b, .int .i64 ua.c, .int .i64 ua.d, .int .i64 ua.e]) (.agg #[.int .i64 ub.a, .int .i64 ub.b, .int .i64 ub.c, .int .i64 ub.d, .int .i64 ub.e])).run Try.prog W = .ok (.bool false) W := fun W => by rw [eqT, decide_eq_false (fun h => absurd (hcut.2 h) (by decide))]
        have htr2 : E ≤ 0 → F ≤ 0 := htr (by decide)
        have HTR := Lib.hid htr2
        clear htr2
        clear hanti hcut htr
        go_wp2_with fail
        refine (HA.out _).mono ?_; rintro e w2 ⟨rfl, hb⟩
        have HB2 := Lib.hid hb
        obtain ⟨_, _, _, _, r5⟩ := HRR.out _ hb
        obtain ⟨d0, d1, d2, d3, d4⟩ := five0 r5
        clear hb r5
        go_wp2_with fail
        refine (HFO.out _).mono ?_; rintro e w3 ⟨rfl, hb⟩
        have HB3 := Lib.hid (HN.out _ _ HB2.out hb)
        obtain ⟨_, r1, r2, r3, r5⟩ := HRR.out _ HB3.out
        clear hb d0 d1 d2 d3 d4
        obtain ⟨d0, d1, d2, d3, d4⟩ := five r5
        obtain ⟨p0, p1, p2, p3, p4⟩ := five r1
        obtain ⟨q0, q1, q2, q3, q4⟩ := five r2
        have Q1 := Lib.hid (regrownC HAB.out w3)
        have Q2 := Lib.hid (regrownC HBA.out w3)
        have Q3 := Lib.hid (regrownC HUA.out w3)
        have Q4 := Lib.hid (regrownC HUB.out w3)
        clear r1 r2 r3 r5
        go_wp2
        refine wp_region_quiet_below (by kernel_rfl) (by kernel_rfl) ?_
        repeat (any_goals (first | go_big_quiet_step (with_reducible first | exact Q1.out _ _ | exact Q2.out _ _ | exact Q3.out _ _ | exact Q4.out _ _) | quiet_step (with_reducible first | exact Q1.out _ _ | exact Q2.out _ _ | exact Q3.out _ _ | exact Q4.out _ _)))
        refine wpQuiet_nil ?_
        intro w5 hw5
        obtain ⟨⟨dq, osq⟩, hw5⟩ := hw5
        have hb5 := below_regrown w3 dq osq
        subst hw5
        have HB6 := Lib.hid (HN.out _ _ HB3.out hb5)
        clear hb5 d0 d1 d2 d3 d4 p0 p1 p2 p3 p4 q0 q1 q2 q3 q4 Q1 Q2 Q3 Q4
        generalize Sort.grow (redrawn w3 dq) osq = w6 at *
        obtain ⟨_, r1, r2, r3, r5⟩ := HRR.out _ HB6.out
        obtain ⟨d0, d1, d2, d3, d4⟩ := five0 r5
        obtain ⟨p0, p1, p2, p3, p4⟩ := five0 r1
        obtain ⟨q0, q1, q2, q3, q4⟩ := five0 r2
        clear r1 r2 r3 r5
        go_wp2_with fail
        refine (HAB.out _).mono ?_; rintro e w7 ⟨rfl, hb⟩
        have HB7 := Lib.hid (HN.out _ _ HB6.out hb)
        clear hb d0 d1 d2 d3 d4 p0 p1 p2 p3 p4 q0 q1 q2 q3 q4
        obtain ⟨_, r1, r2, r3, r5⟩ := HRR.out _ HB7.out
        obtain ⟨d0, d1, d2, d3, d4⟩ := five0 r5
        obtain ⟨q0, q1, q2, q3, q4⟩ := five0 r2
        obtain ⟨p0, p1, p2, p3, p4⟩ := five0 r3
        clear r1 r2 r3 r5
        go_wp2_with fail
        refine (HBCc.out _).mono ?_; rintro e w8 ⟨rfl, hb⟩
        have HB8 := Lib.hid (HN.out _ _ HB7.out hb)
        clear hb d0 d1 d2 d3 d4 p0 p1 p2 p3 p4 q0 q1 q2 q3 q4
        by_cases hE : 0 < E
        · have gE : decide (E > 0) = true := by simpa using hE
          have gE' : decide (0 < E) = true := by simpa using hE
          clear hE
          go_wp2
          go_ret
          exact ⟨rfl, (HRR.out _ HB8.out).1⟩
        · have gE : decide (E > 0) = false := by simpa using hE
          have gE' : decide (0 < E) = false := by simpa using hE
          have hF := HTR.out (by omega)
          have gF : decide (F ≤ 0) = true := by simpa using hF
          clear hE hF
          obtain ⟨_, r1, r2, r3, r5⟩ := HRR.out _ HB8.out
          obtain ⟨d0, d1, d2, d3, d4⟩ := five0 r5
          obtain ⟨q0, q1, q2, q3, q4⟩ := five0 r1
          obtain ⟨p0, p1, p2, p3, p4⟩ := five0 r3
          clear r1 r2 r3 r5
          go_wp2_with fail
          refine (HAC.out _).mono ?_; rintro e w9 ⟨rfl, hb⟩
          have HB9 := Lib.hid (HN.out _ _ HB8.out hb)
          clear hb
          go_wp2
          go_ret
          exact ⟨rfl, (HRR.out _ HB9.out).1⟩

set_option maxRecDepth 100000 in
theorem lifted (os : Os) (started : os.Started) (H : Type) (enc : TypeId × Value → H) :
    ReturnsInHanded {} Try.checked os 5 .any (Rows.tupleTotalSpec.pre6 enc Try.prog Try.f5 Rows.tupleTotalRow.domain false) (Rows.tupleTotalSpec.post enc Try.prog Try.f5 false true false false) := by
  refine returnsInHanded_of_change (C := Try.checked) own started (by kernel_rfl) Try.func5
    (ChangeSpec.witness6 (enc := enc) (C := Try.checked) false ⟨#[], #[.agg #[.int .i64 0, .int .i64 0, .int .i64 0, .int .i64 0, .int .i64 0, .int .i64 0, .int .i64 0, .int .i64 0, .int .i64 0, .int .i64 0, .int .i64 0, .int .i64 0, .int .i64 0, .int .i64 0, .int .i64 0], .agg #[.int .i64 0, .int .i64 0, .int .i64 0, .int .i64 0, .int .i64 0]], []⟩ 8 (by kernel_rfl) (by kernel_rfl) (by kernel_rfl) (by kernel_rfl)) ?_
  intro W base args ds gs before hval0 hW hcnd _
  have hval : ∀ (j : Nat) t v, Try.f5.params[j]? = some t → args[j]? = some v → Value.okWide Try.prog W .any base t v := hval0
  have hW' := hW
  obtain ⟨p, q, hA0, hV, rfl, hfz, hnd⟩ := hW
  have hA : DataW.TrodAll enc Try.prog W 0 (fun _ => true) true Try.f5.params.toList args.toList ds p := hA0
  rw [Try.params5] at hA hval
  obtain ⟨v0, vs0, d0, ds0, p0, q0, hargs, rfl, rfl, h0, r0⟩ := trodAll_cons hA
  obtain ⟨v1, vs1, d1, ds1, p1, q1, rfl, rfl, rfl, h1, r1⟩ := trodAll_cons r0
  obtain ⟨rfl, rfl, rfl⟩ := trodAll_nil r1
  obtain rfl : args = #[v0, v1] := by cases args; simp_all
  obtain ⟨rfl, rfl⟩ := trodVars_none hV
  have k0 := h0
  have lt0 : ∀ x ∈ p0, x.block < W.heap.size := by obtain ⟨m, hm⟩ := k0; exact DataW.trod_lt m _ _ _ hm
  have k1 := h1
  have lt1 : ∀ x ∈ p1, x.block < W.heap.size := by obtain ⟨m, hm⟩ := k1; exact DataW.trod_lt m _ _ _ hm
  obtain ⟨xa, xb, xc, rfl, ya, yb, yc⟩ := open_tup3 Try.underlying39 Try.underlying23 Try.underlying2 (by kernel_rfl) (by kernel_rfl) (by kernel_rfl) (hval 0 39 v0 rfl rfl) h0
  obtain ⟨x1, rfl, y1⟩ := open_tup Try.underlying25 Try.underlying3 (by kernel_rfl) (by kernel_rfl) (hval 1 25 v1 rfl rfl) h1
  clear hA0 hval0
  refine (walk xa xb xc x1 W ya yb yc y1).mono fun e W' ⟨he, bel⟩ => ?_
  subst he
  exact ⟨_, rfl, _, _, _, [], _, [], hW', trodAll_mk1 (shut_bool Try.underlying4 _), (trodAll_cons_mk (Below.trod laidOut (by kernel_rfl) (of_decide_eq_true (by kernel_rfl)) k0 bel lt0) (trodAll_cons_mk (Below.trod laidOut (by kernel_rfl) (of_decide_eq_true (by kernel_rfl)) k1 bel lt1) trodAll_mk0)), rfl, bel.frame _, fun h => by cases h⟩

theorem over : Rows.tupleTotalRow.holds Try.pinned (OpenSpec.ofChange Rows.tupleTotalSpec) :=
  OpenClaim.holds_of_wide 5 Try.f5 rfl rfl rfl rfl rfl rfl rfl ⟨rfl, rfl, rfl, rfl, rfl⟩ rfl rfl rfl rfl rfl (by kernel_rfl) Try.func5 (by kernel_rfl)
    (of_decide_eq_true (by kernel_rfl)) (by unfold Func.isWrapper; first | (rw [if_pos (by decide +kernel)]; kernel_rfl) | (rw [if_neg (by decide +kernel)]; exact ⟨rfl, rfl⟩))
    (fun os started H enc _ => lifted os started H enc)

theorem proved : Rows.TupleTotalSaid := over
end Go.Proofs.Ytoimpiimlekakaa.tupleTotal
