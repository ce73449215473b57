/-
  VarintSizes: for all numbers of 64 bits, varint.Size answers 1 to 10, doesn't fall, and grows by one at each power of 128; no condition.
-/
import Derived.Test.YtjmiooaijcnobaaRows
import Derived.Test.YtjmiooaijcnobaaRput
import Derived.WalkKit
import Derived.ProofKit
import Derived.OpenShut
import Derived.ShutString
namespace Go.Proofs.Ytjmiooaijcnobaa.varintSizes
open Go.ChangeShapes Go.WideShapes Go.ChangeAt Go.RowKit
open Go.ChangeMaps (open_string shut_string)
set_option linter.unusedVariables false      -- a walk need not use every 'w<i>' (that an integer argument fits its kind)

theorem own : ownKnob Try.prog.godebug = none := by kernel_rfl

theorem vs_mono : ∀ (f x y : Nat), y < f → x ≤ y → vs x ≤ vs y
  | 0, _, _, h, _ => by omega
  | f + 1, x, y, hf, h => by
    by_cases hy : y < 128
    · have h1 := vs_small hy
      have h2 := vs_small (show x < 128 by omega)
      omega
    · have h1 := vs_big hy
      by_cases hx : x < 128
      · have h2 := vs_small hx
        omega
      · have h2 := vs_big hx
        have := vs_mono f (x / 128) (y / 128) (by omega) (by omega)
        omega

set_option maxHeartbeats 1600000 in
set_option maxRecDepth 100000 in
theorem walk (a0 : Int) (a1 : Int) (w0 : (Lit.int .u64 a0).wf = true) (w1 : (Lit.int .u64 a1).wf = true) (w : World) :
    Calls Try.prog 7 #[.int .u64 a0, .int .u64 a1] w fun e w' => e = .returned (.bool true) ∧ Below w.heap.size w w' := by
  obtain ⟨x, rfl⟩ := Int.eq_ofNat_of_zero_le (u64_nonneg a0 w0)
  obtain ⟨y, rfl⟩ := Int.eq_ofNat_of_zero_le (u64_nonneg a1 w1)
  have hx : U64 x := u64_lt w0
  have hy : U64 y := u64_lt w1
  have hq : U64 (x / 128) := u64_div hx
  clear w0 w1
  have p1 := vs_pos x
  have p2 := vs_le hx
  have p3 := vs_mono (y + 1) x y (by omega)
  have E1 : Hid (x < 128 → vs x = 1) := vs_small
  have E2 : Hid (¬ x < 128 → vs x = vs (x / 128) + 1) := vs_big
  have HQ : Hid (IntKind.u64.wrap ((x : Int) / 128) = ((x / 128 : Nat) : Int)) := by
    have h := hx; unfold U64 at h
    unfold Hid
    rw [IntWalk.u64_in _ (by omega)]; rfl
  have q1 : decide ((vs x : Int) < 1) = false := by simp; omega
  have q2 : decide ((10 : Int) < (vs x : Int)) = false := by simp; omega
  by_cases hxy : x ≤ y
  · have p4 := p3 hxy
    have q4 : decide (vs y < vs x) = false := by simp; omega
    clear p3
    by_cases h128 : x < 128
    · have r1 : ((vs x : Int) == 1) = true := by have := E1.out h128; simp; omega
      go_enter Try.func7, Try.ntmps7
      go_wp2_with fail
      refine (awake_any _).mono ?_; rintro e w2 ⟨rfl, hb⟩
      go_wp2_with (go_at_call 13; refine (size_any _ ?_ _).mono ?_; assumption; rintro e w5 ⟨rfl, rfl⟩)
      go_ret
      exact ⟨by simp, hb⟩
    · have r1 : vs (x / 128) + 1 ≤ vs x ∧ vs x ≤ vs (x / 128) + 1 := by have := E2.out h128; omega
      go_enter Try.func7, Try.ntmps7
      go_wp2_with fail
      refine (awake_any _).mono ?_; rintro e w2 ⟨rfl, hb⟩
      go_wp2_with (go_at_call 13; refine (size_any _ ?_ _).mono ?_; assumption; rintro e w5 ⟨rfl, rfl⟩)
      rw [HQ.out]
      refine (size_any _ hq _).mono ?_; rintro e w5 ⟨rfl, rfl⟩
      go_wp2
      go_ret
      exact ⟨by simp; omega, hb⟩
  · clear p3
    by_cases h128 : x < 128
    · have r1 : ((vs x : Int) == 1) = true := by have := E1.out h128; simp; omega
      go_enter Try.func7, Try.ntmps7
      go_wp2_with fail
      refine (awake_any _).mono ?_; rintro e w2 ⟨rfl, hb⟩
      go_wp2_with (go_at_call 13; refine (size_any _ ?_ _).mono ?_; assumption; rintro e w5 ⟨rfl, rfl⟩)
      go_ret
      exact ⟨by simp, hb⟩
    · have r1 : vs (x / 128) + 1 ≤ vs x ∧ vs x ≤ vs (x / 128) + 1 := by have := E2.out h128; omega
      go_enter Try.func7, Try.ntmps7
      go_wp2_with fail
      refine (awake_any _).mono ?_; rintro e w2 ⟨rfl, hb⟩
      go_wp2_with (go_at_call 13; refine (size_any _ ?_ _).mono ?_; assumption; rintro e w5 ⟨rfl, rfl⟩)
      rw [HQ.out]
      refine (size_any _ hq _).mono ?_; rintro e w5 ⟨rfl, rfl⟩
      go_wp2
      go_ret
      exact ⟨by simp; omega, hb⟩

/-! ### THE ROW's STEP: WRITTEN OUT: LEAVE IT -/
set_option maxRecDepth 100000 in
theorem lifted (os : Os) (started : os.Started) (H : Type) (enc : TypeId × Value → H) :
    ReturnsInHanded {} Try.checked os 7 .any (Rows.varintSizesSpec.pre6 enc Try.prog Try.f7 Rows.varintSizesRow.domain false) (Rows.varintSizesSpec.post enc Try.prog Try.f7 false true false false) := by
  refine returnsInHanded_of_change (C := Try.checked) own started (by kernel_rfl) Try.func7
    (ChangeSpec.witness6 (enc := enc) (C := Try.checked) false ⟨#[], #[.int .u64 0, .int .u64 0], []⟩ 8 (by kernel_rfl) (by kernel_rfl) (by kernel_rfl) (by kernel_rfl)) ?_
  intro W base args ds gs before hval0 hW hcnd _
  have hval : ∀ (j : Nat) t v, Try.f7.params[j]? = some t → args[j]? = some v → Value.okWide Try.prog W .any base t v := hval0
  have hW' := hW
  obtain ⟨p, q, hA0, hV, rfl, hfz, hnd⟩ := hW
  have hA : DataW.TrodAll enc Try.prog W 0 (fun _ => true) true Try.f7.params.toList args.toList ds p := hA0
  rw [Try.params7] at hA hval
  obtain ⟨v0, vs0, d0, ds0, p0, q0, hargs, rfl, rfl, h0, r0⟩ := trodAll_cons hA
  obtain ⟨v1, vs1, d1, ds1, p1, q1, rfl, rfl, rfl, h1, r1⟩ := trodAll_cons r0
  obtain ⟨rfl, rfl, rfl⟩ := trodAll_nil r1
  obtain rfl : args = #[v0, v1] := by cases args; simp_all
  obtain ⟨rfl, rfl⟩ := trodVars_none hV
  obtain ⟨a0, rfl, rfl, rfl, w0⟩ := open_int Try.underlying23 (hval 0 23 v0 rfl rfl) h0
  obtain ⟨a1, rfl, rfl, rfl, w1⟩ := open_int Try.underlying23 (hval 1 23 v1 rfl rfl) h1
  clear hA0 hval0
  simp only [List.append_nil] at hW'
  refine (walk a0 a1 w0 w1 W).mono fun e W' ⟨he, bel⟩ => ?_
  subst he
  exact ⟨_, rfl, _, _, _, [], _, [], hW', trodAll_mk1 (shut_bool Try.underlying4 _), (trodAll_cons_mk (shut_int Try.underlying23 w0) (trodAll_cons_mk (shut_int Try.underlying23 w1) trodAll_mk0)), rfl, bel.frame _, fun h => by cases h⟩

theorem over : Rows.varintSizesRow.holds Try.pinned (OpenSpec.ofChange Rows.varintSizesSpec) :=
  OpenClaim.holds_of_wide 7 Try.f7 rfl rfl rfl rfl rfl rfl rfl ⟨rfl, rfl, rfl, rfl, rfl⟩ rfl rfl rfl rfl rfl (by kernel_rfl) Try.func7 (by kernel_rfl)
    (of_decide_eq_true (by kernel_rfl)) (by unfold Func.isWrapper; first | (rw [if_pos (by decide +kernel)]; kernel_rfl) | (rw [if_neg (by decide +kernel)]; exact ⟨rfl, rfl⟩))
    (fun os started H enc _ => lifted os started H enc)

/-- ████ THE STATEMENT ████ -/
theorem proved : Rows.VarintSizesSaid :=
  over
end Go.Proofs.Ytjmiooaijcnobaa.varintSizes
