/-
  DeviceNil: for whatever act; no condition.
-/
import Derived.Test.YtcnmbddlaaopgaaRows
import Derived.Test.YtcnmbddlaaopgaaDevLaw
import Derived.WalkKit
import Derived.ProofKit
import Derived.OpenShut
import Derived.ShutString
import Derived.ChangeOld
import Derived.Below
namespace Go.Proofs.Ytcnmbddlaaopgaa.deviceNil
open Go.ChangeShapes Go.WideShapes Go.ChangeAt Go.RowKit
open Go.ChangeMaps (open_string shut_string)
set_option linter.unusedVariables false

theorem own : ownKnob Try.prog.godebug = none := by kernel_rfl
theorem laidOut : laidOutB Try.prog = true := by kernel_rfl


set_option maxHeartbeats 4000000 in
set_option maxRecDepth 100000 in
theorem walk (kd0 i0 x0 : Int) (b0 : Bool) (ka0 : Option Addr) (kl0 kc0 : Nat) (w : World) (wk0 : I64 kd0) (wi0 : I64 i0) (wl0 : kl0 ≤ maxLen) :
    Calls Try.prog 6 #[.agg #[.int .i64 kd0, .int .i64 i0, .int .u64 x0, .bool b0, .slice ka0 kl0 kc0]] w fun e w' => e = .returned (.bool true) ∧ Below w.heap.size w w' := by
  have hm0 : kl0 ≤ 9223372036854775807 := by unfold maxLen at wl0; omega
  have hrow : Row (w.alloc (.cells #[.int .i64 kd0, .int .i64 i0, .int .u64 x0, .bool b0, .slice ka0 kl0 kc0] 33)) w.heap.size 33 [.int .i64 kd0, .int .i64 i0, .int .u64 x0, .bool b0, .slice ka0 kl0 kc0] := heap_alloc_new _ _
  have HROW := Lib.hid hrow
  have HB0 := Lib.hid ((Below.refl w.heap.size w).alloc (Nat.le_refl _) (.cells #[.int .i64 kd0, .int .i64 i0, .int .u64 x0, .bool b0, .slice ka0 kl0 kc0] 33))
  clear hrow wl0
  go_enter Try.func6, Try.ntmps6
  go_wp2_with fail
  refine (awake_any _).mono ?_; rintro e w1 ⟨rfl, hb1⟩
  have hr1 := HROW.out.below hb1 HROW.out.lt
  have c1 : w1.cell? ⟨w.heap.size, 1, none⟩ = some (.int .i64 i0) := hr1.cell 1
  have c4 : w1.cell? ⟨w.heap.size, 4, none⟩ = some (.slice ka0 kl0 kc0) := hr1.cell 4
  have HB1 := Lib.hid (HB0.out.trans (hb1.mono HB0.out.size))
  have hs1 := HB1.out.size
  clear hb1 hr1
  by_cases hbig : kl0 > 1000
  · have g : decide ((kl0 : Int) > 1000) = true := by simp; omega
    go_wp2_with fail
    refine (awake_any _).mono ?_; rintro e w2 ⟨rfl, hb2⟩
    have HB2 := Lib.hid (HB1.out.trans (hb2.mono hs1))
    clear hb2
    go_wp2
    go_ret
    exact ⟨rfl, HB2.out⟩
  · have g : decide ((kl0 : Int) > 1000) = false := by simp; omega
    go_wp2_with fail
    refine (setFuse_nil _ _).mono ?_; rintro e w2 ⟨rfl, rfl⟩
    go_wp2_with fail
    refine (setFault_nil _ _).mono ?_; rintro e w2 ⟨rfl, rfl⟩
    go_wp2_with fail
    refine (read_nil _ _).mono ?_; rintro e w2 ⟨rfl, rfl⟩
    go_wp2_with fail
    refine (write_nil _ _ _).mono ?_; rintro e w2 ⟨rfl, rfl⟩
    go_wp2_with fail
    refine (sync_nil _).mono ?_; rintro e w2 ⟨rfl, rfl⟩
    go_wp2_with fail
    refine (down_nil _).mono ?_; rintro e w2 ⟨rfl, rfl⟩
    go_wp2_with fail
    refine (crash_nil _ _).mono ?_; rintro e w2 ⟨rfl, rfl⟩
    go_wp2_with fail
    refine (size_nil _).mono ?_; rintro e w2 ⟨rfl, rfl⟩
    go_wp2_with fail
    refine (blocks_nil _).mono ?_; rintro e w2 ⟨rfl, rfl⟩
    go_wp2_with fail
    refine (acts_nil _).mono ?_; rintro e w2 ⟨rfl, rfl⟩
    go_wp2
    go_ret
    exact ⟨rfl, HB1.out⟩

set_option maxRecDepth 100000 in
theorem lifted (os : Os) (started : os.Started) (H : Type) (enc : TypeId × Value → H) :
    ReturnsInHanded {} Try.checked os 6 .any (Rows.deviceNilSpec.pre6 enc Try.prog Try.f6 Rows.deviceNilRow.domain false) (Rows.deviceNilSpec.post enc Try.prog Try.f6 false true false false) := by
  refine returnsInHanded_of_change (C := Try.checked) own started (by kernel_rfl) Try.func6
    (ChangeSpec.witness6 (enc := enc) (C := Try.checked) false ⟨#[], #[.agg #[.int .i64 0, .int .i64 0, .int .u64 0, .bool false, .slice none 0 0]], []⟩ 8 (by kernel_rfl) (by kernel_rfl) (by kernel_rfl) (by kernel_rfl)) ?_
  intro W base args ds gs before hval0 hW hcnd _
  have hval : ∀ (j : Nat) t v, Try.f6.params[j]? = some t → args[j]? = some v → Value.okWide Try.prog W .any base t v := hval0
  have hW' := hW
  obtain ⟨p, q, hA0, hV, rfl, hfz, hnd⟩ := hW
  have hA : DataW.TrodAll enc Try.prog W 0 (fun _ => true) true Try.f6.params.toList args.toList ds p := hA0
  rw [Try.params6] at hA hval
  obtain ⟨v0, vs0, d0, ds0, p0, q0, hargs, rfl, rfl, h0, r0⟩ := trodAll_cons hA
  obtain ⟨rfl, rfl, rfl⟩ := trodAll_nil r0
  obtain rfl : args = #[v0] := by cases args; simp_all
  obtain ⟨rfl, rfl⟩ := trodVars_none hV
  have k0 := h0
  have lt0 : ∀ x ∈ p0, x.block < W.heap.size := by obtain ⟨m, hm⟩ := k0; exact DataW.trod_lt m _ _ _ hm
  obtain ⟨kd0, i0, x0, b0, ka0, kl0, kc0, rfl, wk0, wi0, wl0⟩ := open_op Try.underlying33 (by kernel_rfl) (by kernel_rfl) Try.underlying3 Try.underlying29 Try.underlying4 Try.underlying31 rfl rfl rfl rfl rfl (hval 0 33 v0 rfl rfl) h0
  clear hA0 hval0
  refine (walk kd0 i0 x0 b0 ka0 kl0 kc0 W wk0 wi0 wl0).mono fun e W' ⟨he, bel⟩ => ?_
  subst he
  exact ⟨_, rfl, _, _, _, [], _, [], hW', trodAll_mk1 (shut_bool Try.underlying4 _), (trodAll_cons_mk (Below.trod laidOut (by kernel_rfl) (of_decide_eq_true (by kernel_rfl)) k0 bel lt0) trodAll_mk0), rfl, bel.frame _, fun h => by cases h⟩

theorem over : Rows.deviceNilRow.holds Try.pinned (OpenSpec.ofChange Rows.deviceNilSpec) :=
  OpenClaim.holds_of_wide 6 Try.f6 rfl rfl rfl rfl rfl rfl rfl ⟨rfl, rfl, rfl, rfl, rfl⟩ rfl rfl rfl rfl rfl (by kernel_rfl) Try.func6 (by kernel_rfl)
    (of_decide_eq_true (by kernel_rfl)) (by unfold Func.isWrapper; first | (rw [if_pos (by decide +kernel)]; kernel_rfl) | (rw [if_neg (by decide +kernel)]; exact ⟨rfl, rfl⟩))
    (fun os started H enc _ => lifted os started H enc)

theorem proved : Rows.DeviceNilSaid := over
end Go.Proofs.Ytcnmbddlaaopgaa.deviceNil
