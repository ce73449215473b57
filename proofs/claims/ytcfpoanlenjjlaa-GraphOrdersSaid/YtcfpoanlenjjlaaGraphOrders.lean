/-
  GraphOrders: for whatever graph; no condition.
-/
import Derived.Test.YtcfpoanlenjjlaaRows
import Derived.Test.YtcfpoanlenjjlaaGraphROrd
import Derived.Test.YtcfpoanlenjjlaaGraphAwake
import Derived.WalkKit
import Derived.ProofKit
import Derived.OpenShut
import Derived.ShutString
import Derived.ChangeOld
import Derived.Below
namespace Go.Proofs.Ytcfpoanlenjjlaa.graphOrders
open Go.ChangeShapes Go.WideShapes Go.ChangeAt Go.RowKit
open Go.ChangeMaps (open_string shut_string)
set_option linter.unusedVariables false

theorem own : ownKnob Try.prog.godebug = none := by kernel_rfl
theorem laidOut : laidOutB Try.prog = true := by kernel_rfl

theorem same_self (N : Int) (l : List (Int × Int)) : sameG N l N l = true := by rw [sameG_eq]; unfold eqL; simp

set_option maxHeartbeats 1600000 in
set_option maxRecDepth 100000 in
theorem walk (N0 : Int) (a0 : Option Addr) (len0 cap0 : Nat) (l0 : List (Int × Int)) (w : World) (wN0 : I64 N0) (wr0 : ReadsE w w.heap.size a0 len0 l0) (wc0 : len0 ≤ cap0 ∧ cap0 ≤ maxLen) :
    Calls Try.prog 4 #[.agg #[.int .i64 N0, .slice a0 len0 cap0]] w fun e w' => e = .returned (.bool true) ∧ Below w.heap.size w w' := by
  have hm0 : len0 ≤ 9223372036854775807 := by have := wc0.2; unfold maxLen at this; omega
  clear wc0
  go_enter Try.func4, Try.ntmps4
  go_wp2_with fail
  refine (awake_any _).mono ?_; rintro e w1 ⟨rfl, hb1⟩
  have HB1 := Lib.hid (hb1.mono (show w.heap.size + 1 ≤ _ by simp))
  obtain ⟨c0, c1⟩ := box2 HB1.out
  clear hb1
  have hsz : w.heap.size < w1.heap.size := by have := HB1.out.size; simp at this; omega
  go_wp2_with fail
  refine (few_any N0 a0 len0 cap0 _).mono ?_; rintro e w2 ⟨rfl, hb2⟩
  have HB2 := Lib.hid (HB1.out.trans (hb2.mono (show w.heap.size + 1 ≤ w1.heap.size by omega)))
  obtain ⟨c0, c1⟩ := box2 HB2.out
  have hsz2 : w.heap.size < w2.heap.size := by have := HB2.out.size; simp at this; omega
  have HW2 := Lib.hid (((Below.refl w.heap.size w).alloc (Nat.le_refl _) _).trans (HB2.out.mono (show w.heap.size ≤ _ by omega)))
  have HR2 := Lib.hid (wr0.keep HW2.out)
  clear hb2
  by_cases hbig : len0 ≤ 300
  · have g1 : decide (len0 ≤ 300) = true := by simp; omega
    rw [g1]
    by_cases hf : formed N0 l0 = true
    · have HF := Lib.hid hf
      clear hf
      go_wp2_with fail
      refine (order_ok N0 a0 len0 cap0 l0 w2 wN0 HF.out HR2.out (by omega)).mono ?_; rintro e w3 ⟨A3, k3, rfl, hr3, hb3⟩
      have HB3 := Lib.hid (HB2.out.trans (hb3.mono (show w.heap.size + 1 ≤ w2.heap.size by omega)))
      obtain ⟨c0, c1⟩ := box2 HB3.out
      have hsz3 : w.heap.size < w3.heap.size := by have := HB3.out.size; simp at this; omega
      have HR3 := Lib.hid (HR2.out.keep (hb3.mono (by omega)))
      have HX3 := Lib.hid hr3
      clear hr3 hb3
      go_wp2_with fail
      have HB4 := Lib.hid ((Below.refl w3.heap.size w3).alloc (Nat.le_refl _) (.cells #[.int .i64 N0, .slice A3 len0 k3] 24))
      have HR4 := Lib.hid (HR3.out.keep (HB4.out.mono (by omega)))
      have HX4 := Lib.hid (HX3.out.keep HB4.out)
      refine (rorder_ok N0 a0 len0 cap0 l0 _ wN0 HF.out HR4.out (by simp; omega)).mono ?_; rintro e w5 ⟨A5, k5, rfl, hr5, hb5⟩
      have HB5 := Lib.hid (hb5.mono (show w3.heap.size + 1 ≤ _ by simp))
      have HX5 := Lib.hid (HX4.out.keep (hb5.mono (by simp)))
      have HY5 := Lib.hid hr5
      obtain ⟨d0, d1⟩ := box2 HB5.out
      have hsz5 : w3.heap.size < w5.heap.size := by have := HB5.out.size; simp at this; omega
      have HW5 := Lib.hid (HB3.out.trans ((HB4.out.trans (HB5.out.mono (by omega))).mono (show w.heap.size + 1 ≤ w3.heap.size by omega)))
      clear hr5 hb5
      go_wp2_with fail
      have HB6 := Lib.hid ((Below.refl w5.heap.size w5).alloc (Nat.le_refl _) (.cells #[.int .i64 N0, .slice A5 len0 k5] 24))
      refine (rsame_any N0 A3 len0 k3 (order l0) N0 A5 len0 k5 (order l0) _ (HX5.out.keep (HB6.out.mono (by omega))) (HY5.out.keep HB6.out) (by simp; omega) (by simp) hm0 hm0).mono ?_; rintro e w7 ⟨rfl, hb7⟩
      rw [same_self]
      have HB7 := Lib.hid (HW5.out.trans ((HB6.out.trans (hb7.mono (by simp))).mono (show w.heap.size + 1 ≤ w5.heap.size by omega)))
      clear hb7
      go_wp2
      go_ret
      exact ⟨rfl, ((Below.refl w.heap.size w).alloc (Nat.le_refl _) _).trans (HB7.out.mono (by omega))⟩
    · have HF : Hid (formed N0 l0 = false) := by unfold Hid; simpa using hf
      clear hf
      go_wp2_with fail
      refine (order_bad N0 a0 len0 cap0 l0 w2 wN0 HF.out HR2.out (by omega) hm0).mono ?_; rintro e w3 ⟨rfl, hb3⟩
      have HB3 := Lib.hid (HB2.out.trans (hb3.mono (show w.heap.size + 1 ≤ w2.heap.size by omega)))
      obtain ⟨c0, c1⟩ := box2 HB3.out
      have hsz3 : w.heap.size < w3.heap.size := by have := HB3.out.size; simp at this; omega
      have HR3 := Lib.hid (HR2.out.keep (hb3.mono (by omega)))
      clear hb3
      go_wp2_with fail
      have HB4 := Lib.hid ((Below.refl w3.heap.size w3).alloc (Nat.le_refl _) (.cells #[.int .i64 0, .slice none 0 0] 24))
      have HR4 := Lib.hid (HR3.out.keep (HB4.out.mono (by omega)))
      refine (rorder_bad N0 a0 len0 cap0 l0 _ wN0 HF.out HR4.out (by simp; omega) hm0).mono ?_; rintro e w5 ⟨rfl, hb5⟩
      have HB5 := Lib.hid (hb5.mono (show w3.heap.size + 1 ≤ _ by simp))
      obtain ⟨d0, d1⟩ := box2 HB5.out
      have hsz5 : w3.heap.size < w5.heap.size := by have := HB5.out.size; simp at this; omega
      have HW5 := Lib.hid (HB3.out.trans ((HB4.out.trans (HB5.out.mono (by omega))).mono (show w.heap.size + 1 ≤ w3.heap.size by omega)))
      clear hb5
      go_wp2_with fail
      have HB6 := Lib.hid ((Below.refl w5.heap.size w5).alloc (Nat.le_refl _) (.cells #[.int .i64 0, .slice none 0 0] 24))
      refine (rsame_any 0 none 0 0 [] 0 none 0 0 [] _ (ReadsE.nil _ 0 _) (ReadsE.nil _ 0 _) (by simp) (by simp) (by omega) (by omega)).mono ?_; rintro e w7 ⟨rfl, hb7⟩
      rw [same_self]
      have HB7 := Lib.hid (HW5.out.trans ((HB6.out.trans (hb7.mono (by simp))).mono (show w.heap.size + 1 ≤ w5.heap.size by omega)))
      clear hb7
      go_wp2
      go_ret
      exact ⟨rfl, ((Below.refl w.heap.size w).alloc (Nat.le_refl _) _).trans (HB7.out.mono (by omega))⟩
  · have g1 : decide (len0 ≤ 300) = false := by simp; omega
    rw [g1]
    go_wp2_with fail
    refine (awake_any _).mono ?_; rintro e w4 ⟨rfl, hb4⟩
    have HB4 := Lib.hid (HW2.out.trans (hb4.mono (show w.heap.size ≤ _ by omega)))
    clear hb4
    go_wp2
    go_ret
    exact ⟨rfl, HB4.out⟩

set_option maxRecDepth 100000 in
theorem lifted (os : Os) (started : os.Started) (H : Type) (enc : TypeId × Value → H) :
    ReturnsInHanded {} Try.checked os 4 .any (Rows.graphOrdersSpec.pre6 enc Try.prog Try.f4 Rows.graphOrdersRow.domain false) (Rows.graphOrdersSpec.post enc Try.prog Try.f4 false true false false) := by
  refine returnsInHanded_of_change (C := Try.checked) own started (by kernel_rfl) Try.func4
    (ChangeSpec.witness6 (enc := enc) (C := Try.checked) false ⟨#[], #[.agg #[.int .i64 0, .slice none 0 0]], []⟩ 8 (by kernel_rfl) (by kernel_rfl) (by kernel_rfl) (by kernel_rfl)) ?_
  intro W base args ds gs before hval0 hW hcnd _
  have hval : ∀ (j : Nat) t v, Try.f4.params[j]? = some t → args[j]? = some v → Value.okWide Try.prog W .any base t v := hval0
  have hW' := hW
  obtain ⟨p, q, hA0, hV, rfl, hfz, hnd⟩ := hW
  have hA : DataW.TrodAll enc Try.prog W 0 (fun _ => true) true Try.f4.params.toList args.toList ds p := hA0
  rw [Try.params4] at hA hval
  obtain ⟨v0, vs0, d0, ds0, p0, q0, hargs, rfl, rfl, h0, r0⟩ := trodAll_cons hA
  obtain ⟨rfl, rfl, rfl⟩ := trodAll_nil r0
  obtain rfl : args = #[v0] := by cases args; simp_all
  obtain ⟨rfl, rfl⟩ := trodVars_none hV
  have k0 := h0
  have lt0 : ∀ x ∈ p0, x.block < W.heap.size := by obtain ⟨m, hm⟩ := k0; exact DataW.trod_lt m _ _ _ hm
  obtain ⟨N0, a0, len0, cap0, l0, rfl, wN0, wr0, wc0⟩ := open_graph Try.underlying24 (by kernel_rfl) (by kernel_rfl) rfl rfl Try.underlying22 Try.underlying37 (by kernel_rfl) (by kernel_rfl) Try.underlying3 rfl rfl (hval 0 24 v0 rfl rfl) h0
  clear hA0 hval0
  refine (walk N0 a0 len0 cap0 l0 W wN0 wr0 wc0).mono fun e W' ⟨he, bel⟩ => ?_
  subst he
  exact ⟨_, rfl, _, _, _, [], _, [], hW', trodAll_mk1 (shut_bool Try.underlying4 _), (trodAll_cons_mk (Below.trod laidOut (by kernel_rfl) (of_decide_eq_true (by kernel_rfl)) k0 bel lt0) trodAll_mk0), rfl, bel.frame _, fun h => by cases h⟩

theorem over : Rows.graphOrdersRow.holds Try.pinned (OpenSpec.ofChange Rows.graphOrdersSpec) :=
  OpenClaim.holds_of_wide 4 Try.f4 rfl rfl rfl rfl rfl rfl rfl ⟨rfl, rfl, rfl, rfl, rfl⟩ rfl rfl rfl rfl rfl (by kernel_rfl) Try.func4 (by kernel_rfl)
    (of_decide_eq_true (by kernel_rfl)) (by unfold Func.isWrapper; first | (rw [if_pos (by decide +kernel)]; kernel_rfl) | (rw [if_neg (by decide +kernel)]; exact ⟨rfl, rfl⟩))
    (fun os started H enc _ => lifted os started H enc)

theorem proved : Rows.GraphOrdersSaid := over
end Go.Proofs.Ytcfpoanlenjjlaa.graphOrders
