/-
  GraphForms: for whatever two graphs; no condition.
-/
import Derived.Test.YtcfpoanlenjjlaaRows
import Derived.Test.YtcfpoanlenjjlaaGraphOrd
import Derived.Test.YtcfpoanlenjjlaaGraphSame
import Derived.Test.YtcfpoanlenjjlaaGraphAwake
import Derived.WalkKit
import Derived.ProofKit
import Derived.OpenShut
import Derived.ShutString
import Derived.ChangeOld
import Derived.Below
namespace Go.Proofs.Ytcfpoanlenjjlaa.graphForms
open Go.ChangeShapes Go.WideShapes Go.ChangeAt Go.RowKit
open Go.ChangeMaps (open_string shut_string)
set_option linter.unusedVariables false

theorem own : ownKnob Try.prog.godebug = none := by kernel_rfl
theorem laidOut : laidOutB Try.prog = true := by kernel_rfl


set_option maxHeartbeats 1600000 in
set_option maxRecDepth 100000 in
theorem walk (N0 : Int) (a0 : Option Addr) (len0 cap0 : Nat) (l0 : List (Int × Int)) (N1 : Int) (a1 : Option Addr) (len1 cap1 : Nat) (l1 : List (Int × Int)) (w : World) (wN0 : I64 N0) (wr0 : ReadsE w w.heap.size a0 len0 l0) (wc0 : len0 ≤ cap0 ∧ cap0 ≤ maxLen) (wN1 : I64 N1) (wr1 : ReadsE w w.heap.size a1 len1 l1) (wc1 : len1 ≤ cap1 ∧ cap1 ≤ maxLen) :
    Calls Try.prog 3 #[.agg #[.int .i64 N0, .slice a0 len0 cap0], .agg #[.int .i64 N1, .slice a1 len1 cap1]] w fun e w' => e = .returned (.bool true) ∧ Below w.heap.size w w' := by
  have hm0 : len0 ≤ 9223372036854775807 := by have := wc0.2; unfold maxLen at this; omega
  have hm1 : len1 ≤ 9223372036854775807 := by have := wc1.2; unfold maxLen at this; omega
  clear wc0 wc1
  go_enter Try.func3, Try.ntmps3
  go_wp2_with fail
  refine (awake_any _).mono ?_; rintro e w1 ⟨rfl, hb1⟩
  have hb1' : Below (w.heap.size + 2) ((w.alloc (.cells #[.int .i64 N0, .slice a0 len0 cap0] 24)).alloc (.cells #[.int .i64 N1, .slice a1 len1 cap1] 24)) w1 := hb1.mono (by simp)
  clear hb1
  obtain ⟨c0, c1, c2, c3⟩ := box2b hb1'
  have hsz : w.heap.size + 1 < w1.heap.size := by have := hb1'.size; simp at this; omega
  have HB1 := Lib.hid hb1'
  clear hb1'
  have H0 := Lib.hid (wr0.keep ((two_new w (.cells #[.int .i64 N0, .slice a0 len0 cap0] 24) (.cells #[.int .i64 N1, .slice a1 len1 cap1] 24)).trans (HB1.out.mono (by omega))))
  have H1 := Lib.hid (wr1.keep ((two_new w (.cells #[.int .i64 N0, .slice a0 len0 cap0] 24) (.cells #[.int .i64 N1, .slice a1 len1 cap1] 24)).trans (HB1.out.mono (by omega))))
  go_wp2_with fail
  refine (few_any N0 a0 len0 cap0 _).mono ?_; rintro e w2 ⟨rfl, hb2⟩
  have HB2 := Lib.hid (hb2.mono (show w.heap.size + 2 ≤ w1.heap.size by omega))
  obtain ⟨c0, c1, c2, c3⟩ := box2b (HB1.out.trans HB2.out)
  have HB12 := Lib.hid ((two_new w (.cells #[.int .i64 N0, .slice a0 len0 cap0] 24) (.cells #[.int .i64 N1, .slice a1 len1 cap1] 24)).trans ((HB1.out.trans HB2.out).mono (by omega)))
  have hsz2 : w.heap.size + 1 < w2.heap.size := by have := hb2.size; omega
  clear hb2
  by_cases hbig : len0 ≤ 300
  · have g1 : decide (len0 ≤ 300) = true := by simp; omega
    rw [g1]
    go_wp2_with fail
    refine (few_any N1 a1 len1 cap1 _).mono ?_; rintro e w3 ⟨rfl, hb3⟩
    have HB3 := Lib.hid (HB1.out.trans (HB2.out.trans (hb3.mono (show w.heap.size + 2 ≤ w2.heap.size by omega))))
    obtain ⟨c0, c1, c2, c3⟩ := box2b HB3.out
    have HB13 := Lib.hid ((two_new w (.cells #[.int .i64 N0, .slice a0 len0 cap0] 24) (.cells #[.int .i64 N1, .slice a1 len1 cap1] 24)).trans (HB3.out.mono (by omega)))
    clear hb3
    by_cases hbig1 : len1 ≤ 300
    · have g2 : decide (len1 ≤ 300) = true := by simp; omega
      rw [g2]
      have k0 : ∀ d os, (Sort.grow (redrawn w3 d) os).cell? ⟨w.heap.size, 0, none⟩ = some (.int .i64 N0) := cell_regrown c0
      have k1 : ∀ d os, (Sort.grow (redrawn w3 d) os).cell? ⟨w.heap.size, 1, none⟩ = some (.slice a0 len0 cap0) := cell_regrown c1
      have k2 : ∀ d os, (Sort.grow (redrawn w3 d) os).cell? ⟨w.heap.size + 1, 0, none⟩ = some (.int .i64 N1) := cell_regrown c2
      have k3 : ∀ d os, (Sort.grow (redrawn w3 d) os).cell? ⟨w.heap.size + 1, 1, none⟩ = some (.slice a1 len1 cap1) := cell_regrown c3
      have hs3 : w.heap.size ≤ w3.heap.size := HB13.out.size
      have r0 : ∀ d os, ReadsE (Sort.grow (redrawn w3 d) os) w.heap.size a0 len0 l0 := fun d os => (wr0.keep HB13.out).keep ((below_regrown w3 d os).mono hs3)
      have r1 : ∀ d os, ReadsE (Sort.grow (redrawn w3 d) os) w.heap.size a1 len1 l1 := fun d os => (wr1.keep HB13.out).keep ((below_regrown w3 d os).mono hs3)
      have hsg : ∀ d os, w.heap.size ≤ (Sort.grow (redrawn w3 d) os).heap.size := fun d os => Nat.le_trans hs3 (below_regrown w3 d os).size
      have q1 : ∀ d os, Calls Try.prog 10 #[.agg #[.int .i64 N0, .slice a0 len0 cap0]] (Sort.grow (redrawn w3 d) os) fun e w'' => e = .returned (.bool (formed N0 l0)) ∧ ∃ p : Regrown, w'' = Sort.grow (redrawn w3 p.d) p.os := fun d os => Calls.regrown_of (formed_any N0 a0 len0 cap0 l0 _ wN0 (r0 d os) (hsg d os) hm0)
      have q2 : ∀ d os, Calls Try.prog 11 #[.agg #[.int .i64 N0, .slice a0 len0 cap0]] (Sort.grow (redrawn w3 d) os) fun e w'' => e = .returned (.bool (formed N0 l0)) ∧ ∃ p : Regrown, w'' = Sort.grow (redrawn w3 p.d) p.os := fun d os => Calls.regrown_of (rformed_any N0 a0 len0 cap0 l0 _ wN0 (r0 d os) (hsg d os) hm0)
      have q3 : ∀ d os, Calls Try.prog 12 #[.agg #[.int .i64 N0, .slice a0 len0 cap0]] (Sort.grow (redrawn w3 d) os) fun e w'' => e = .returned (.bool (ordered N0 l0)) ∧ ∃ p : Regrown, w'' = Sort.grow (redrawn w3 p.d) p.os := fun d os => Calls.regrown_of (ordered_any N0 a0 len0 cap0 l0 _ wN0 (r0 d os) (hsg d os) hm0)
      have q4 : ∀ d os, Calls Try.prog 13 #[.agg #[.int .i64 N0, .slice a0 len0 cap0]] (Sort.grow (redrawn w3 d) os) fun e w'' => e = .returned (.bool (ordered N0 l0)) ∧ ∃ p : Regrown, w'' = Sort.grow (redrawn w3 p.d) p.os := fun d os => Calls.regrown_of (rordered_any N0 a0 len0 cap0 l0 _ wN0 (r0 d os) (hsg d os) hm0)
      have q5 : ∀ d os, Calls Try.prog 14 #[.agg #[.int .i64 N0, .slice a0 len0 cap0], .agg #[.int .i64 N1, .slice a1 len1 cap1]] (Sort.grow (redrawn w3 d) os) fun e w'' => e = .returned (.bool (sameG N0 l0 N1 l1)) ∧ ∃ p : Regrown, w'' = Sort.grow (redrawn w3 p.d) p.os := fun d os => Calls.regrown_of (same_any N0 a0 len0 cap0 l0 N1 a1 len1 cap1 l1 _ (r0 d os) (r1 d os) (hsg d os) (hsg d os) hm0 hm1)
      have q6 : ∀ d os, Calls Try.prog 15 #[.agg #[.int .i64 N0, .slice a0 len0 cap0], .agg #[.int .i64 N1, .slice a1 len1 cap1]] (Sort.grow (redrawn w3 d) os) fun e w'' => e = .returned (.bool (sameG N0 l0 N1 l1)) ∧ ∃ p : Regrown, w'' = Sort.grow (redrawn w3 p.d) p.os := fun d os => Calls.regrown_of (rsame_any N0 a0 len0 cap0 l0 N1 a1 len1 cap1 l1 _ (r0 d os) (r1 d os) (hsg d os) (hsg d os) hm0 hm1)
      have HSS : sameG N0 l0 N0 l0 = true := by rw [sameG_eq]; unfold eqL; simp
      have q7 : ∀ d os, Calls Try.prog 14 #[.agg #[.int .i64 N0, .slice a0 len0 cap0], .agg #[.int .i64 N0, .slice a0 len0 cap0]] (Sort.grow (redrawn w3 d) os) fun e w'' => e = .returned (.bool true) ∧ ∃ p : Regrown, w'' = Sort.grow (redrawn w3 p.d) p.os := fun d os => Calls.regrown_of ((same_any N0 a0 len0 cap0 l0 N0 a0 len0 cap0 l0 _ (r0 d os) (r0 d os) (hsg d os) (hsg d os) hm0 hm0).mono fun e w' h => by rw [HSS] at h; exact h)
      have Q1 := Lib.hid q1
      have Q2 := Lib.hid q2
      have Q3 := Lib.hid q3
      have Q4 := Lib.hid q4
      have Q5 := Lib.hid q5
      have Q6 := Lib.hid q6
      have Q7 := Lib.hid q7
      clear q1 q2 q3 q4 q5 q6 q7 HSS r0 r1 hsg
      generalize formed N0 l0 = F at *
      generalize ordered N0 l0 = O at *
      generalize sameG N0 l0 N1 l1 = S at *
      go_wp2
      refine wp_region_quiet_below (by kernel_rfl) (by kernel_rfl) ?_
      repeat (any_goals (first | go_big_quiet_step (with_reducible first | exact Q1.out _ _ | exact Q2.out _ _ | exact Q3.out _ _ | exact Q4.out _ _ | exact Q5.out _ _ | exact Q6.out _ _ | exact Q7.out _ _) | quiet_step (with_reducible first | exact Q1.out _ _ | exact Q2.out _ _ | exact Q3.out _ _ | exact Q4.out _ _ | exact Q5.out _ _ | exact Q6.out _ _ | exact Q7.out _ _)))
      refine wpQuiet_nil ?_
      intro w5 hw5
      obtain ⟨⟨dq, osq⟩, hw5⟩ := hw5
      have hb5 := below_regrown w3 dq osq
      subst hw5
      have HB5 := Lib.hid (HB13.out.trans (hb5.mono hs3))
      clear hb5
      go_wp2
      go_ret
      exact ⟨rfl, HB5.out⟩
    · have g2 : decide (len1 ≤ 300) = false := by simp; omega
      rw [g2]
      go_wp2_with fail
      refine (awake_any _).mono ?_; rintro e w4 ⟨rfl, hb4⟩
      have HB4 := Lib.hid (HB13.out.trans (hb4.mono HB13.out.size))
      clear hb4
      go_wp2
      go_ret
      exact ⟨rfl, HB4.out⟩
  · have g1 : decide (len0 ≤ 300) = false := by simp; omega
    rw [g1]
    go_wp2_with fail
    refine (awake_any _).mono ?_; rintro e w4 ⟨rfl, hb4⟩
    have HB4 := Lib.hid (HB12.out.trans (hb4.mono HB12.out.size))
    clear hb4
    go_wp2
    go_ret
    exact ⟨rfl, HB4.out⟩

set_option maxRecDepth 100000 in
theorem lifted (os : Os) (started : os.Started) (H : Type) (enc : TypeId × Value → H) :
    ReturnsInHanded {} Try.checked os 3 .any (Rows.graphFormsSpec.pre6 enc Try.prog Try.f3 Rows.graphFormsRow.domain false) (Rows.graphFormsSpec.post enc Try.prog Try.f3 false true false false) := by
  refine returnsInHanded_of_change (C := Try.checked) own started (by kernel_rfl) Try.func3
    (ChangeSpec.witness6 (enc := enc) (C := Try.checked) false ⟨#[], #[.agg #[.int .i64 0, .slice none 0 0], .agg #[.int .i64 0, .slice none 0 0]], []⟩ 8 (by kernel_rfl) (by kernel_rfl) (by kernel_rfl) (by kernel_rfl)) ?_
  intro W base args ds gs before hval0 hW hcnd _
  have hval : ∀ (j : Nat) t v, Try.f3.params[j]? = some t → args[j]? = some v → Value.okWide Try.prog W .any base t v := hval0
  have hW' := hW
  obtain ⟨p, q, hA0, hV, rfl, hfz, hnd⟩ := hW
  have hA : DataW.TrodAll enc Try.prog W 0 (fun _ => true) true Try.f3.params.toList args.toList ds p := hA0
  rw [Try.params3] at hA hval
  obtain ⟨v0, vs0, d0, ds0, p0, q0, hargs, rfl, rfl, h0, r0⟩ := trodAll_cons hA
  obtain ⟨v1, vs1, d1, ds1, p1, q1, rfl, rfl, rfl, h1, r1⟩ := trodAll_cons r0
  obtain ⟨rfl, rfl, rfl⟩ := trodAll_nil r1
  obtain rfl : args = #[v0, v1] := by cases args; simp_all
  obtain ⟨rfl, rfl⟩ := trodVars_none hV
  have k0 := h0
  have lt0 : ∀ x ∈ p0, x.block < W.heap.size := by obtain ⟨m, hm⟩ := k0; exact DataW.trod_lt m _ _ _ hm
  have k1 := h1
  have lt1 : ∀ x ∈ p1, x.block < W.heap.size := by obtain ⟨m, hm⟩ := k1; exact DataW.trod_lt m _ _ _ hm
  obtain ⟨N0, a0, len0, cap0, l0, rfl, wN0, wr0, wc0⟩ := open_graph Try.underlying24 (by kernel_rfl) (by kernel_rfl) rfl rfl Try.underlying22 Try.underlying37 (by kernel_rfl) (by kernel_rfl) Try.underlying3 rfl rfl (hval 0 24 v0 rfl rfl) h0
  obtain ⟨N1, a1, len1, cap1, l1, rfl, wN1, wr1, wc1⟩ := open_graph Try.underlying24 (by kernel_rfl) (by kernel_rfl) rfl rfl Try.underlying22 Try.underlying37 (by kernel_rfl) (by kernel_rfl) Try.underlying3 rfl rfl (hval 1 24 v1 rfl rfl) h1
  clear hA0 hval0
  refine (walk N0 a0 len0 cap0 l0 N1 a1 len1 cap1 l1 W wN0 wr0 wc0 wN1 wr1 wc1).mono fun e W' ⟨he, bel⟩ => ?_
  subst he
  exact ⟨_, rfl, _, _, _, [], _, [], hW', trodAll_mk1 (shut_bool Try.underlying4 _), (trodAll_cons_mk (Below.trod laidOut (by kernel_rfl) (of_decide_eq_true (by kernel_rfl)) k0 bel lt0) (trodAll_cons_mk (Below.trod laidOut (by kernel_rfl) (of_decide_eq_true (by kernel_rfl)) k1 bel lt1) trodAll_mk0)), rfl, bel.frame _, fun h => by cases h⟩

theorem over : Rows.graphFormsRow.holds Try.pinned (OpenSpec.ofChange Rows.graphFormsSpec) :=
  OpenClaim.holds_of_wide 3 Try.f3 rfl rfl rfl rfl rfl rfl rfl ⟨rfl, rfl, rfl, rfl, rfl⟩ rfl rfl rfl rfl rfl (by kernel_rfl) Try.func3 (by kernel_rfl)
    (of_decide_eq_true (by kernel_rfl)) (by unfold Func.isWrapper; first | (rw [if_pos (by decide +kernel)]; kernel_rfl) | (rw [if_neg (by decide +kernel)]; exact ⟨rfl, rfl⟩))
    (fun os started H enc _ => lifted os started H enc)

theorem proved : Rows.GraphFormsSaid := over
end Go.Proofs.Ytcfpoanlenjjlaa.graphForms
