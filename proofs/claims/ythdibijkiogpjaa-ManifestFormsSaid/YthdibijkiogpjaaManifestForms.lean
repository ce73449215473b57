/-
  ManifestForms: of whatever entries it is told whether they are formed, and of whatever size how many blocks a slot has; no condition.
-/
import Derived.Test.YthdibijkiogpjaaRows
import Derived.Test.YthdibijkiogpjaaManRForm
import Derived.WalkKit
import Derived.ProofKit
import Derived.OpenShut
import Derived.ShutString
import Derived.ChangeOld
import Derived.Below
namespace Go.Proofs.Ythdibijkiogpjaa.manifestForms
open Go.ChangeShapes Go.WideShapes Go.ChangeAt Go.RowKit
open Go.ChangeMaps (open_string shut_string)
set_option linter.unusedVariables false

theorem own : ownKnob Try.prog.godebug = none := by kernel_rfl
theorem laidOut : laidOutB Try.prog = true := by kernel_rfl


set_option maxHeartbeats 4000000 in
set_option maxRecDepth 100000 in
theorem walk (a0 : Option Addr) (len0 cap0 : Nat) (l0 : List Ent) (a1 : Int) (w : World) (wr0 : ReadsN w w.heap.size a0 len0 l0) (wm0 : len0 ≤ maxLen) (w1 : (Lit.int .i64 a1).wf = true) :
    Calls Try.prog 3 #[.slice a0 len0 cap0, .int .i64 a1] w fun e w' => e = .returned (.bool true) ∧ Below w.heap.size w w' := by
  have R1 := Lib.hid wr0
  have M1 := Lib.hid wm0
  clear wr0 wm0 w1
  go_enter Try.func3, Try.ntmps3
  go_wp2_with fail
  refine (awake_any _).mono ?_; rintro e w2 ⟨rfl, hb2⟩
  have HB2 := Lib.hid hb2
  clear hb2
  go_wp2_with fail
  refine (few_any a0 len0 cap0 l0 w2 (R1.out.keep HB2.out) M1.out).mono ?_
  rintro e w3 ⟨v, rfl, rfl, r1, rfl, hr1⟩
  have HR1 := Lib.hid hr1
  clear hr1
  cases r1
  · go_wp2_with fail
    refine (awake_any _).mono ?_; rintro e w4 ⟨rfl, hb4⟩
    go_wp2
    go_ret
    exact ⟨rfl, HB2.out.trans (hb4.mono HB2.out.size)⟩
  have hl20 := HR1.out rfl
  go_wp2_with fail
  refine (formed_any a0 len0 cap0 l0 w3 (R1.out.keep HB2.out) HB2.out.size M1.out).mono ?_
  rintro e w5 ⟨rfl, hb5⟩
  have HB5 := Lib.hid (HB2.out.trans (hb5.mono HB2.out.size))
  clear hb5
  go_wp2_with fail
  refine (plain_any a0 len0 cap0 l0 w5 (R1.out.keep HB5.out) HB5.out.size (by omega)).mono ?_
  rintro e w6 ⟨v6, rfl, ho6, hb6⟩
  have HB6 := Lib.hid (HB5.out.trans (hb6.mono HB5.out.size))
  obtain ⟨A6, c6, rfl, hr6⟩ := told ho6 R1.out.2.1
  clear hb6 ho6
  go_wp2_with fail
  refine (rformed_any A6 len0 c6 l0 w6 hr6 (Nat.le_refl _) M1.out).mono ?_
  rintro e w7 ⟨rfl, hb7⟩
  have HB7 := Lib.hid (HB6.out.trans (hb7.mono HB6.out.size))
  clear hb7 hr6
  generalize decide (FormedP l0) = f at *
  have geq : (f == f) = true := by cases f <;> rfl
  obtain ⟨z, hz⟩ : ∃ z, z = (if 8 ≤ a1 ∧ a1 ≤ 256 then (slotE a1.toNat : Int) else 0) := ⟨_, rfl⟩
  have HS := Lib.hid (slot_any a1)
  have HR := Lib.hid (rslot_any a1)
  rw [← hz] at HS HR
  clear hz
  go_wp2_with fail
  refine (HS.out w7).mono ?_
  rintro e w8 ⟨rfl, rfl⟩
  go_wp2_with fail
  refine (HR.out w7).mono ?_
  rintro e w9 ⟨rfl, rfl⟩
  go_wp2
  go_ret
  exact ⟨rfl, HB7.out⟩

set_option maxRecDepth 100000 in
theorem lifted (os : Os) (started : os.Started) (H : Type) (enc : TypeId × Value → H) :
    ReturnsInHanded {} Try.checked os 3 .any (Rows.manifestFormsSpec.pre6 enc Try.prog Try.f3 Rows.manifestFormsRow.domain false) (Rows.manifestFormsSpec.post enc Try.prog Try.f3 false true false false) := by
  refine returnsInHanded_of_change (C := Try.checked) own started (by kernel_rfl) Try.func3
    (ChangeSpec.witness6 (enc := enc) (C := Try.checked) false ⟨#[], #[.slice none 0 0, .int .i64 0], []⟩ 8 (by kernel_rfl) (by kernel_rfl) (by kernel_rfl) (by kernel_rfl)) ?_
  intro W base args ds gs before hval0 hW hcnd _
  have hval : ∀ (j : Nat) t v, Try.f3.params[j]? = some t → args[j]? = some v → Value.okWide Try.prog W .any base t v := hval0
  have hW' := hW
  obtain ⟨p, q, hA0, hV, rfl, hfz, hnd⟩ := hW
  have hA : DataW.TrodAll enc Try.prog W 0 (fun _ => true) true Try.f3.params.toList args.toList ds p := hA0
  rw [Try.params3] at hA hval
  obtain ⟨v0, vs0, d0, ds0, p0, q0, hargs, rfl, rfl, h0, r0⟩ := trodAll_cons hA
  obtain ⟨v1, vs1, d1, ds1, p1, q1, rfl, rfl, rfl, h1, r1⟩ := trodAll_cons r0
  obtain ⟨rfl, rfl, rfl⟩ := trodAll_nil r1
  obtain rfl : args = #[v0, v1] := by cases args; simp_all
  obtain ⟨rfl, rfl⟩ := trodVars_none hV
  have k0 := h0
  have lt0 : ∀ x ∈ p0, x.block < W.heap.size := by obtain ⟨m, hm⟩ := k0; exact DataW.trod_lt m _ _ _ hm
  have k1 := h1
  have lt1 : ∀ x ∈ p1, x.block < W.heap.size := by obtain ⟨m, hm⟩ := k1; exact DataW.trod_lt m _ _ _ hm
  obtain ⟨a0, len0, cap0, rfl⟩ := okWide_slice Try.underlying22 (hval 0 22 v0 rfl rfl)
  obtain ⟨l0, wr0, wm0⟩ : ∃ l0, ReadsN W W.heap.size a0 len0 l0 ∧ len0 ≤ maxLen := by
    obtain ⟨fuel0, hf0⟩ := h0
    obtain ⟨a', len', cap', l', he', hr', hm'⟩ := open_entries Try.underlying22 Try.underlying54 (by kernel_rfl) (by kernel_rfl) Try.underlying3 Try.underlying9 rfl rfl rfl rfl rfl hf0
    injection he' with e1 e2 e3
    subst e1; subst e2
    exact ⟨l', hr', hm'⟩
  obtain ⟨a1, rfl, rfl, rfl, w1⟩ := open_int Try.underlying3 (hval 1 3 v1 rfl rfl) h1
  clear hA0 hval0
  refine (walk a0 len0 cap0 l0 a1 W wr0 wm0 w1).mono fun e W' ⟨he, bel⟩ => ?_
  subst he
  exact ⟨_, rfl, _, _, _, [], _, [], hW', trodAll_mk1 (shut_bool Try.underlying4 _), (trodAll_cons_mk (Below.trod laidOut (by kernel_rfl) (of_decide_eq_true (by kernel_rfl)) k0 bel lt0) (trodAll_cons_mk (Below.trod laidOut (by kernel_rfl) (of_decide_eq_true (by kernel_rfl)) k1 bel lt1) trodAll_mk0)), rfl, bel.frame _, fun h => by cases h⟩

theorem over : Rows.manifestFormsRow.holds Try.pinned (OpenSpec.ofChange Rows.manifestFormsSpec) :=
  OpenClaim.holds_of_wide 3 Try.f3 rfl rfl rfl rfl rfl rfl rfl ⟨rfl, rfl, rfl, rfl, rfl⟩ rfl rfl rfl rfl rfl (by kernel_rfl) Try.func3 (by kernel_rfl)
    (of_decide_eq_true (by kernel_rfl)) (by unfold Func.isWrapper; first | (rw [if_pos (by decide +kernel)]; kernel_rfl) | (rw [if_neg (by decide +kernel)]; exact ⟨rfl, rfl⟩))
    (fun os started H enc _ => lifted os started H enc)

theorem proved : Rows.ManifestFormsSaid := over
end Go.Proofs.Ythdibijkiogpjaa.manifestForms
