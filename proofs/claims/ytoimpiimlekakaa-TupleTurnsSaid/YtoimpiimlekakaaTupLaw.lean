/- What layer 11's laws share: awake; cells of a tuple's box. -/
import Derived.Test.YtoimpiimlekakaaTupSrtC
import Derived.Test.YtoimpiimlekakaaTupCutC
import Derived.Test.YtoimpiimlekakaaTupOpen
import Derived.Lib.QuietBelow
import Derived.Laws.StructEq
namespace Go.Proofs.Ytoimpiimlekakaa
open Go.ChangeShapes Go.WideShapes Go.ChangeAt Go.RowKit

set_option maxHeartbeats 1000000 in
set_option maxRecDepth 100000 in
theorem awake_any (w : World) : Calls Try.prog 8 #[] w fun e w' => e = .returned (.bool true) ∧ Below w.heap.size w w' := by
  have HF : Hid (∀ w, Calls Try.prog 9 #[.agg #[.int .i64 2, .int .i64 (-1), .int .i64 0, .int .i64 0, .int .i64 0]] w fun e w' => e = .returned (.bool true) ∧ Below w.heap.size w w') := fun w => by
    have := formed_any ⟨2, -1, 0, 0, 0⟩ w
    rw [decide_eq_true (by decide)] at this
    exact this
  have HC : Hid (∀ w, Calls Try.prog 11 #[.agg #[.int .i64 3, .int .i64 1, .int .i64 0, .int .i64 0, .int .i64 0], .agg #[.int .i64 2, .int .i64 1, .int .i64 0, .int .i64 0, .int .i64 0], .agg #[.int .i64 2, .int .i64 (-1), .int .i64 0, .int .i64 0, .int .i64 0]] w fun e w' => e = .returned (.int .i64 (-1)) ∧ Below w.heap.size w w') := fun w => by
    have := cmp_any ⟨2, -1, 0, 0, 0⟩ ⟨3, 1, 0, 0, 0⟩ ⟨2, 1, 0, 0, 0⟩ w
    rw [show cmpT ⟨2, -1, 0, 0, 0⟩ ⟨3, 1, 0, 0, 0⟩ ⟨2, 1, 0, 0, 0⟩ = -1 from by decide] at this
    exact this
  go_enter Try.func8, Try.ntmps8
  go_wp2_with fail
  refine (HF.out _).mono ?_; rintro e w1 ⟨rfl, hb1⟩
  have HB1 := Lib.hid hb1
  clear hb1
  go_wp2_with fail
  refine (HC.out _).mono ?_; rintro e w2 ⟨rfl, hb2⟩
  have HB2 : Hid (Below w.heap.size w w2) := HB1.out.trans (hb2.mono HB1.out.size)
  clear hb2
  go_wp2
  go_ret
  exact ⟨rfl, HB2.out⟩
/-- a row's five cells in every world behind -/
theorem five {W : World} {g : Nat} {T : TypeId} {x0 x1 x2 x3 x4 : Value} (h : Row W g T [x0, x1, x2, x3, x4]) : (∀ d os, (Sort.grow (redrawn W d) os).cell? ⟨g, 0, none⟩ = some x0) ∧ (∀ d os, (Sort.grow (redrawn W d) os).cell? ⟨g, 1, none⟩ = some x1) ∧ (∀ d os, (Sort.grow (redrawn W d) os).cell? ⟨g, 2, none⟩ = some x2) ∧ (∀ d os, (Sort.grow (redrawn W d) os).cell? ⟨g, 3, none⟩ = some x3) ∧ (∀ d os, (Sort.grow (redrawn W d) os).cell? ⟨g, 4, none⟩ = some x4) :=
  ⟨cell_regrown (h.cell 0), cell_regrown (h.cell 1), cell_regrown (h.cell 2), cell_regrown (h.cell 3), cell_regrown (h.cell 4)⟩
theorem five0 {W : World} {g : Nat} {T : TypeId} {x0 x1 x2 x3 x4 : Value} (h : Row W g T [x0, x1, x2, x3, x4]) : W.cell? ⟨g, 0, none⟩ = some x0 ∧ W.cell? ⟨g, 1, none⟩ = some x1 ∧ W.cell? ⟨g, 2, none⟩ = some x2 ∧ W.cell? ⟨g, 3, none⟩ = some x3 ∧ W.cell? ⟨g, 4, none⟩ = some x4 :=
  ⟨h.cell 0, h.cell 1, h.cell 2, h.cell 3, h.cell 4⟩
theorem regrownC {f : FuncId} {args : Array Value} {v : Value} (h : ∀ w, Calls Try.prog f args w fun e w' => e = .returned v ∧ Below w.heap.size w w') (W : World) : ∀ d os, Calls Try.prog f args (Sort.grow (redrawn W d) os) fun e w'' => e = .returned v ∧ ∃ p : Regrown, w'' = Sort.grow (redrawn W p.d) p.os := fun _ _ => Calls.regrown_of (h _)
theorem eq_tup (w : World) (a b c d e a' b' c' d' e' : Int) : (binOp .eql 23 (.agg #[.int .i64 a, .int .i64 b, .int .i64 c, .int .i64 d, .int .i64 e]) (.agg #[.int .i64 a', .int .i64 b', .int .i64 c', .int .i64 d', .int .i64 e'])).run Try.prog w = .ok (.bool (a == a' && (b == b' && (c == c' && (d == d' && e == e'))))) w := by
  obtain ⟨i0, hi⟩ : ∃ i, Try.prog.info? 2 = some i := by
    rcases h : Try.prog.info? 2 with _ | i
    · have : (Try.prog.info? 2).isSome = true := by kernel_rfl
      rw [h] at this; cases this
    · exact ⟨i, rfl⟩
  have hc1 : Try.prog.cellsOf 2 = 1 := by kernel_rfl
  have p0 : ∀ (a b c d e : Int) w, (part 2 #[.int .i64 a, .int .i64 b, .int .i64 c, .int .i64 d, .int .i64 e] 0).run Try.prog w = .ok (.int .i64 a) w := fun a b c d e w => run_part_plain (P := Try.prog) w (by kernel_rfl) rfl
  have p1 : ∀ (a b c d e : Int) w, (part 2 #[.int .i64 a, .int .i64 b, .int .i64 c, .int .i64 d, .int .i64 e] 1).run Try.prog w = .ok (.int .i64 b) w := fun a b c d e w => run_part_plain (P := Try.prog) w (by kernel_rfl) rfl
  have p2 : ∀ (a b c d e : Int) w, (part 2 #[.int .i64 a, .int .i64 b, .int .i64 c, .int .i64 d, .int .i64 e] 2).run Try.prog w = .ok (.int .i64 c) w := fun a b c d e w => run_part_plain (P := Try.prog) w (by kernel_rfl) rfl
  have p3 : ∀ (a b c d e : Int) w, (part 2 #[.int .i64 a, .int .i64 b, .int .i64 c, .int .i64 d, .int .i64 e] 3).run Try.prog w = .ok (.int .i64 d) w := fun a b c d e w => run_part_plain (P := Try.prog) w (by kernel_rfl) rfl
  have p4 : ∀ (a b c d e : Int) w, (part 2 #[.int .i64 a, .int .i64 b, .int .i64 c, .int .i64 d, .int .i64 e] 4).run Try.prog w = .ok (.int .i64 e) w := fun a b c d e w => run_part_plain (P := Try.prog) w (by kernel_rfl) rfl
  rw [run_eql_struct, show (10000 : Nat) = 9998 + 1 + 1 from rfl, run_equalIn_array w (9998 + 1) _ _ Try.underlying23 hi, hc1]
  have q := fun (a b : Int) (w : World) => run_equalIn_int (P := Try.prog) w 9998 2 .i64 .i64 a b Try.underlying2
  have q' : ∀ (a b : Int) (w : World), (Op.equalIn 9999 2 (.int .i64 a) (.int .i64 b)).run Try.prog w = .ok (a == b) w := q
  simp only [Op.eqItems, List.range, List.range.loop, Sem.run_bind, Nat.mul_one, p0, Result.andThen_ok, q]
  by_cases h1 : a = a' <;> by_cases h2 : b = b' <;> by_cases h3 : c = c' <;> by_cases h4 : d = d' <;> by_cases h5 : e = e' <;> simp [h1, h2, h3, h4, h5, p1, p2, p3, p4, q']
theorem guard_tup (w : World) (op : BinOp) (x y : Operand) (xs ys : Array Value) : (eqGuard op 23 x y (.agg xs) (.agg ys)).run Try.prog w = .ok () w :=
  run_eqGuard_agg w op 23 x y _ _ (by kernel_rfl)
instance tupDec : DecidableEq Tup := fun a b => decidable_of_iff (a.cols = b.cols) ⟨fun h => Tup.ext_cols h, fun h => h ▸ rfl⟩
/-- tuples alike, as the walk says it -/
theorem tup_eq (t u : Tup) : (t.a == u.a && (t.b == u.b && (t.c == u.c && (t.d == u.d && t.e == u.e)))) = decide (t = u) := by
  obtain ⟨a, b, c, d, e⟩ := t
  obtain ⟨a', b', c', d', e'⟩ := u
  simp only [Tup.mk.injEq]
  by_cases h1 : a = a' <;> by_cases h2 : b = b' <;> by_cases h3 : c = c' <;> by_cases h4 : d = d' <;> by_cases h5 : e = e' <;> simp [h1, h2, h3, h4, h5]
/-- tuples alike or not, as the walk reckons it -/
theorem eqT (t u : Tup) (w : World) : (binOp .eql 23 (.agg #[.int .i64 t.a, .int .i64 t.b, .int .i64 t.c, .int .i64 t.d, .int .i64 t.e]) (.agg #[.int .i64 u.a, .int .i64 u.b, .int .i64 u.c, .int .i64 u.d, .int .i64 u.e])).run Try.prog w = .ok (.bool (decide (t = u))) w := by
  rw [eq_tup, tup_eq]
end Go.Proofs.Ytoimpiimlekakaa
