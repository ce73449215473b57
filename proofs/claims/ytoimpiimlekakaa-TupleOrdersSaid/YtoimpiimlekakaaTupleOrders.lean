/-
  TupleOrders: whatever two tuples and order; no condition.
-/
import Derived.Test.YtoimpiimlekakaaRows
import Derived.Test.YtoimpiimlekakaaTupLaw
import Derived.WalkKit
import Derived.ProofKit
import Derived.OpenShut
import Derived.ShutString
import Derived.ChangeOld
import Derived.Below
namespace Go.Proofs.Ytoimpiimlekakaa.tupleOrders
open Go.ChangeShapes Go.WideShapes Go.ChangeAt Go.RowKit
open Go.ChangeMaps (open_string shut_string)
set_option linter.unusedVariables false

theorem own : ownKnob Try.prog.godebug = none := by kernel_rfl
theorem laidOut : laidOutB Try.prog = true := by kernel_rfl


set_option maxHeartbeats 4000000 in
set_option maxRecDepth 100000 in
theorem walk (x0 : Tup) (x1 : Tup) (x2 : Tup) (w : World) (y0 : TupOk x0) (y1 : TupOk x1) (y2 : TupOk x2) :
    Calls Try.prog 3 #[.agg #[.int .i64 x0.a, .int .i64 x0.b, .int .i64 x0.c, .int .i64 x0.d, .int .i64 x0.e], .agg #[.int .i64 x1.a, .int .i64 x1.b, .int .i64 x1.c, .int .i64 x1.d, .int .i64 x1.e], .agg #[.int .i64 x2.a, .int .i64 x2.b, .int .i64 x2.c, .int .i64 x2.d, .int .i64 x2.e]] w fun e w' => e = .returned (.bool true) ∧ Below w.heap.size w w' := by
  obtain ⟨W1, hW1, hb1, s1, r1, r2, r3⟩ := boxes3 w [.int .i64 x0.a, .int .i64 x0.b, .int .i64 x0.c, .int .i64 x0.d, .int .i64 x0.e] [.int .i64 x1.a, .int .i64 x1.b, .int .i64 x1.c, .int .i64 x1.d, .int .i64 x1.e] [.int .i64 x2.a, .int .i64 x2.b, .int .i64 x2.c, .int .i64 x2.d, .int .i64 x2.e] 23 23 25
  have HW1 := Lib.hid hW1
  have HB := Lib.hid hb1
  have HSZ := Lib.hid s1
  have HR := Lib.hid (And.intro r1 (And.intro r2 r3))
  have HA := Lib.hid (awake_any W1)
  obtain ⟨d0, d1, d2, d3, d4⟩ := five0 r3
  have HRR : Hid (∀ o, Row (W1.alloc o) w.heap.size 23 [.int .i64 x0.a, .int .i64 x0.b, .int .i64 x0.c, .int .i64 x0.d, .int .i64 x0.e] ∧ Row (W1.alloc o) (w.heap.size + 1) 23 [.int .i64 x1.a, .int .i64 x1.b, .int .i64 x1.c, .int .i64 x1.d, .int .i64 x1.e] ∧ Row (W1.alloc o) (w.heap.size + 2) 25 [.int .i64 x2.a, .int .i64 x2.b, .int .i64 x2.c, .int .i64 x2.d, .int .i64 x2.e]) := fun o => ⟨r1.alloc o, r2.alloc o, r3.alloc o⟩
  have hr4 : Row (W1.alloc (.cells #[.int .i64 x2.a, .int .i64 x2.b, .int .i64 x2.c, .int .i64 x2.d, .int .i64 x2.e] 26)) (w.heap.size + 3) 26 [.int .i64 x2.a, .int .i64 x2.b, .int .i64 x2.c, .int .i64 x2.d, .int .i64 x2.e] := by rw [← s1]; exact heap_alloc_new _ _
  have hb4 : Below w.heap.size w (W1.alloc (.cells #[.int .i64 x2.a, .int .i64 x2.b, .int .i64 x2.c, .int .i64 x2.d, .int .i64 x2.e] 26)) := hb1.alloc (by omega) _
  have HR4 := Lib.hid (And.intro hr4 hb4)
  have HZ := Lib.hid s1
  clear r1 r2 r3 hb1 hW1 y0 y1 y2 hr4 hb4 HSZ HR HB
  go_enter Try.func3, Try.ntmps3
  go_upto_region 1 with (fail)
  rw [← HW1.out]
  clear HW1
  go_wp2
  rw [s1] at *
  clear d0 d1 d2 d3 d4 s1
  obtain ⟨r1, r2, r3⟩ := HRR.out (.cells #[.int .i64 x2.a, .int .i64 x2.b, .int .i64 x2.c, .int .i64 x2.d, .int .i64 x2.e] 26)
  obtain ⟨r4, hb4⟩ := HR4.out
  generalize W1.alloc (.cells #[.int .i64 x2.a, .int .i64 x2.b, .int .i64 x2.c, .int .i64 x2.d, .int .i64 x2.e] 26) = W2 at *
  obtain ⟨p0, p1, p2, p3, p4⟩ := five r1
  obtain ⟨q0, q1, q2, q3, q4⟩ := five r2
  obtain ⟨e0, e1, e2, e3, e4⟩ := five r3
  obtain ⟨f0, f1, f2, f3, f4⟩ := five r4
  have Q1 := Lib.hid (regrownC awake_any W2)
  have Q2 := Lib.hid (regrownC (formed_any x2) W2)
  have Q3 := Lib.hid (regrownC (rformed_any x2) W2)
  have Q4 := Lib.hid (regrownC (cmp_any x2 x0 x1) W2)
  have Q5 := Lib.hid (regrownC (rcmp_any x2 x0 x1) W2)
  have Q6 := Lib.hid (regrownC (cut_any x2 x0) W2)
  have Q7 := Lib.hid (regrownC (rcut_any x2 x0) W2)
  have HB4 := Lib.hid hb4
  clear HRR HR4 r1 r2 r3 r4 hb4 HA
  generalize decide (Fm x2) = B at *
  generalize cmpT x2 x0 x1 = C at *
  generalize cutT x2 x0 = u at *
  have heq : ∀ W, (binOp .eql 23 (.agg #[.int .i64 u.a, .int .i64 u.b, .int .i64 u.c, .int .i64 u.d, .int .i64 u.e]) (.agg #[.int .i64 u.a, .int .i64 u.b, .int .i64 u.c, .int .i64 u.d, .int .i64 u.e])).run Try.prog W = .ok (.bool true) W := fun W => by rw [eqT]; simp
  have hg := fun W x y => guard_tup W .eql x y #[.int .i64 u.a, .int .i64 u.b, .int .i64 u.c, .int .i64 u.d, .int .i64 u.e] #[.int .i64 u.a, .int .i64 u.b, .int .i64 u.c, .int .i64 u.d, .int .i64 u.e]
  refine wp_region_quiet_below (by kernel_rfl) (by kernel_rfl) ?_
  repeat (any_goals (first | go_big_quiet_step (with_reducible first | exact Q1.out _ _ | exact Q2.out _ _ | exact Q3.out _ _ | exact Q4.out _ _ | exact Q5.out _ _ | exact Q6.out _ _ | exact Q7.out _ _) | quiet_step (with_reducible first | exact Q1.out _ _ | exact Q2.out _ _ | exact Q3.out _ _ | exact Q4.out _ _ | exact Q5.out _ _ | exact Q6.out _ _ | exact Q7.out _ _)))
  refine wpQuiet_nil ?_
  intro w5 hw5
  obtain ⟨⟨dq, osq⟩, hw5⟩ := hw5
  have hb5 := below_regrown W2 dq osq
  subst hw5
  have HB5 := Lib.hid (HB4.out.trans (hb5.mono HB4.out.size))
  clear hb5
  go_wp2
  go_ret
  exact ⟨rfl, HB5.out⟩

set_option maxRecDepth 100000 in
theorem lifted (os : Os) (started : os.Started) (H : Type) (enc : TypeId × Value → H) :
    ReturnsInHanded {} Try.checked os 3 .any (Rows.tupleOrdersSpec.pre6 enc Try.prog Try.f3 Rows.tupleOrdersRow.domain false) (Rows.tupleOrdersSpec.post enc Try.prog Try.f3 false true false false) := by
  refine returnsInHanded_of_change (C := Try.checked) own started (by kernel_rfl) Try.func3
    (ChangeSpec.witness6 (enc := enc) (C := Try.checked) false ⟨#[], #[.agg #[.int .i64 0, .int .i64 0, .int .i64 0, .int .i64 0, .int .i64 0], .agg #[.int .i64 0, .int .i64 0, .int .i64 0, .int .i64 0, .int .i64 0], .agg #[.int .i64 0, .int .i64 0, .int .i64 0, .int .i64 0, .int .i64 0]], []⟩ 8 (by kernel_rfl) (by kernel_rfl) (by kernel_rfl) (by kernel_rfl)) ?_
  intro W base args ds gs before hval0 hW hcnd _
  have hval : ∀ (j : Nat) t v, Try.f3.params[j]? = some t → args[j]? = some v → Value.okWide Try.prog W .any base t v := hval0
  have hW' := hW
  obtain ⟨p, q, hA0, hV, rfl, hfz, hnd⟩ := hW
  have hA : DataW.TrodAll enc Try.prog W 0 (fun _ => true) true Try.f3.params.toList args.toList ds p := hA0
  rw [Try.params3] at hA hval
  obtain ⟨v0, vs0, d0, ds0, p0, q0, hargs, rfl, rfl, h0, r0⟩ := trodAll_cons hA
  obtain ⟨v1, vs1, d1, ds1, p1, q1, rfl, rfl, rfl, h1, r1⟩ := trodAll_cons r0
  obtain ⟨v2, vs2, d2, ds2, p2, q2, rfl, rfl, rfl, h2, r2⟩ := trodAll_cons r1
  obtain ⟨rfl, rfl, rfl⟩ := trodAll_nil r2
  obtain rfl : args = #[v0, v1, v2] := by cases args; simp_all
  obtain ⟨rfl, rfl⟩ := trodVars_none hV
  have k0 := h0
  have lt0 : ∀ x ∈ p0, x.block < W.heap.size := by obtain ⟨m, hm⟩ := k0; exact DataW.trod_lt m _ _ _ hm
  have k1 := h1
  have lt1 : ∀ x ∈ p1, x.block < W.heap.size := by obtain ⟨m, hm⟩ := k1; exact DataW.trod_lt m _ _ _ hm
  have k2 := h2
  have lt2 : ∀ x ∈ p2, x.block < W.heap.size := by obtain ⟨m, hm⟩ := k2; exact DataW.trod_lt m _ _ _ hm
  obtain ⟨x0, rfl, y0⟩ := open_tup Try.underlying23 Try.underlying2 (by kernel_rfl) (by kernel_rfl) (hval 0 23 v0 rfl rfl) h0
  obtain ⟨x1, rfl, y1⟩ := open_tup Try.underlying23 Try.underlying2 (by kernel_rfl) (by kernel_rfl) (hval 1 23 v1 rfl rfl) h1
  obtain ⟨x2, rfl, y2⟩ := open_tup Try.underlying25 Try.underlying3 (by kernel_rfl) (by kernel_rfl) (hval 2 25 v2 rfl rfl) h2
  clear hA0 hval0
  refine (walk x0 x1 x2 W y0 y1 y2).mono fun e W' ⟨he, bel⟩ => ?_
  subst he
  exact ⟨_, rfl, _, _, _, [], _, [], hW', trodAll_mk1 (shut_bool Try.underlying4 _), (trodAll_cons_mk (Below.trod laidOut (by kernel_rfl) (of_decide_eq_true (by kernel_rfl)) k0 bel lt0) (trodAll_cons_mk (Below.trod laidOut (by kernel_rfl) (of_decide_eq_true (by kernel_rfl)) k1 bel lt1) (trodAll_cons_mk (Below.trod laidOut (by kernel_rfl) (of_decide_eq_true (by kernel_rfl)) k2 bel lt2) trodAll_mk0))), rfl, bel.frame _, fun h => by cases h⟩

theorem over : Rows.tupleOrdersRow.holds Try.pinned (OpenSpec.ofChange Rows.tupleOrdersSpec) :=
  OpenClaim.holds_of_wide 3 Try.f3 rfl rfl rfl rfl rfl rfl rfl ⟨rfl, rfl, rfl, rfl, rfl⟩ rfl rfl rfl rfl rfl (by kernel_rfl) Try.func3 (by kernel_rfl)
    (of_decide_eq_true (by kernel_rfl)) (by unfold Func.isWrapper; first | (rw [if_pos (by decide +kernel)]; kernel_rfl) | (rw [if_neg (by decide +kernel)]; exact ⟨rfl, rfl⟩))
    (fun os started H enc _ => lifted os started H enc)

theorem proved : Rows.TupleOrdersSaid := over
end Go.Proofs.Ytoimpiimlekakaa.tupleOrders
