/-
  SortSorts: whatever place, tuples and order; no condition.
-/
import Derived.Test.YteldegofbbfaeaaGreatTwoF
import Derived.Test.YteldegofbbfaeaaGreatRows
import Derived.WalkKit
import Derived.ProofKit
import Derived.OpenShut
import Derived.ShutString
import Derived.ChangeOld
import Derived.Below
namespace Go.Proofs.YteldegofbbfaeaaGreat.sortSorts
open Go.ChangeShapes Go.WideShapes Go.ChangeAt Go.RowKit
open Go.ChangeMaps (open_string shut_string)
set_option linter.unusedVariables false

theorem own : ownKnob Tryz.prog.godebug = none := by kernel_rfl
theorem laidOut : laidOutB Tryz.prog = true := by kernel_rfl


set_option maxHeartbeats 4000000 in
set_option maxRecDepth 100000 in
theorem walk (u0 u1 u2 u3 : Nat) (a1 : Option Addr) (len1 cap1 : Nat) (l1 : List AB) (x2 : AB) (w : World) (b0 : u0 ≤ 255) (b1 : u1 ≤ 255) (b2 : u2 ≤ 255) (b3 : u3 ≤ 255) (wr1 : BD w w.heap.size a1 len1 l1) (wm1 : len1 ≤ maxLen) (y2 : BX x2) :
    Calls Tryz.prog 3 #[.agg #[.int .u8 u0, .int .u8 u1, .int .u8 u2, .int .u8 u3], .slice a1 len1 cap1, .agg #[.int .i64 x2.a, .int .i64 x2.b, .int .i64 x2.c, .int .i64 x2.d, .int .i64 x2.e]] w fun e w' => e = .returned (.bool true) ∧ Below w.heap.size w w' := by
  obtain ⟨W1, B8, Am, EK, r1, r2⟩ := OU w [.int .u8 u0, .int .u8 u1, .int .u8 u2, .int .u8 u3] [.int .i64 x2.a, .int .i64 x2.b, .int .i64 x2.c, .int .i64 x2.d, .int .i64 x2.e] 23 26
  have Ef := Lib.hid B8
  have LG := Lib.hid Am
  have HSO := Lib.hid (pY u0 u1 u2 u3 u3 b2 x2 false (c := cap1) W1 ((wr1.CL Am).mono Am.size) wm1)
  obtain ⟨p0, p1, p2, p3⟩ := VQ r1
  obtain ⟨o0, o1, o2, o3, o4⟩ := oM r2
  clear B8 Am EK r1 r2 wr1 wm1 y2
  go_enter Tryz.func3, Tryz.ntmps3
  go_upto_region 1 with (fail)
  rw [← Ef.out]
  clear Ef
  go_wp2_with fail
  refine HSO.out.mono ?_; rintro e w2 ⟨rfl, hb⟩
  have Bt := Lib.hid (LG.out.trans (hb.mono LG.out.size))
  clear hb HSO p0 p1 p2 p3 o0 o1 o2 o3 o4
  go_wp2
  go_ret
  exact ⟨rfl, Bt.out⟩

set_option maxRecDepth 100000 in
theorem lifted (os : Os) (started : os.Started) (H : Type) (enc : TypeId × Value → H) :
    ReturnsInHanded {} Tryz.checked os 3 .any (Rows.sortSortsSpec.pre6 enc Tryz.prog Tryz.f3 Rows.sortSortsRow.domain false) (Rows.sortSortsSpec.post enc Tryz.prog Tryz.f3 false true false false) := by
  refine returnsInHanded_of_change (C := Tryz.checked) own started (by kernel_rfl) Tryz.func3
    (ChangeSpec.witness6 (enc := enc) (C := Tryz.checked) false ⟨#[], #[.agg #[.int .u8 0, .int .u8 0, .int .u8 0, .int .u8 0], .slice none 0 0, .agg #[.int .i64 0, .int .i64 0, .int .i64 0, .int .i64 0, .int .i64 0]], []⟩ 8 (by kernel_rfl) (by kernel_rfl) (by kernel_rfl) (by kernel_rfl)) ?_
  intro W base args ds gs before hval0 hW hcnd _
  have hval : ∀ (j : Nat) t v, Tryz.f3.params[j]? = some t → args[j]? = some v → Value.okWide Tryz.prog W .any base t v := hval0
  have hW' := hW
  obtain ⟨p, q, hA0, hV, rfl, hfz, p9⟩ := hW
  have hA : DataW.TrodAll enc Tryz.prog W 0 (fun _ => true) true Tryz.f3.params.toList args.toList ds p := hA0
  rw [Tryz.params3] at hA hval
  obtain ⟨v0, vs0, d0, ds0, p0, q0, hargs, rfl, rfl, h0, r0⟩ := trodAll_cons hA
  obtain ⟨v1, vs1, d1, ds1, p1, q1, rfl, rfl, rfl, h1, r1⟩ := trodAll_cons r0
  obtain ⟨v2, vs2, d2, ds2, p2, q2, rfl, rfl, rfl, h2, r2⟩ := trodAll_cons r1
  obtain ⟨rfl, rfl, rfl⟩ := trodAll_nil r2
  obtain rfl : args = #[v0, v1, v2] := by cases args; simp_all
  obtain ⟨rfl, rfl⟩ := trodVars_none hV
  have k0 := h0
  have lt0 : ∀ x ∈ p0, x.block < W.heap.size := by obtain ⟨m, hm⟩ := k0; exact DataW.trod_lt m _ _ _ hm
  have k1 := h1
  have xO : ∀ x ∈ p1, x.block < W.heap.size := by obtain ⟨m, hm⟩ := k1; exact DataW.trod_lt m _ _ _ hm
  have k2 := h2
  have xN : ∀ x ∈ p2, x.block < W.heap.size := by obtain ⟨m, hm⟩ := k2; exact DataW.trod_lt m _ _ _ hm
  obtain ⟨u0, u1, u2, u3, rfl, b0, b1, b2, b3⟩ := mR Tryz.underlying23 (by kernel_rfl) (by kernel_rfl) Tryz.underlying5 rfl rfl rfl rfl (hval 0 23 v0 rfl rfl) h0
  obtain ⟨a1, len1, cap1, rfl⟩ := okWide_slice Tryz.underlying24 (hval 1 24 v1 rfl rfl)
  obtain ⟨l1, wr1, wm1⟩ : ∃ l, BD W W.heap.size a1 len1 l ∧ len1 ≤ maxLen := by
    obtain ⟨fuel, hf⟩ := h1
    obtain ⟨a', len', PL, l', he', hr', hm'⟩ := pZ Tryz.underlying24 Tryz.underlying63 Tryz.underlying2 (by kernel_rfl) (by kernel_rfl) hf
    injection he' with e1 e2 e3
    subst e1; subst e2
    exact ⟨l', hr', hm'⟩
  obtain ⟨x2, rfl, y2⟩ := rG Tryz.underlying26 Tryz.underlying3 (by kernel_rfl) (by kernel_rfl) (hval 2 26 v2 rfl rfl) h2
  clear hA0 hval0
  refine (walk u0 u1 u2 u3 a1 len1 cap1 l1 x2 W b0 b1 b2 b3 wr1 wm1 y2).mono fun e W' ⟨he, O3⟩ => ?_
  subst he
  exact ⟨_, rfl, _, _, _, [], _, [], hW', trodAll_mk1 (shut_bool Tryz.underlying4 _), (trodAll_cons_mk (Below.trod laidOut (by kernel_rfl) (of_decide_eq_true (by kernel_rfl)) k0 O3 lt0) (trodAll_cons_mk (Below.trod laidOut (by kernel_rfl) (of_decide_eq_true (by kernel_rfl)) k1 O3 xO) (trodAll_cons_mk (Below.trod laidOut (by kernel_rfl) (of_decide_eq_true (by kernel_rfl)) k2 O3 xN) trodAll_mk0))), rfl, O3.frame _, fun h => by cases h⟩

theorem over : Rows.sortSortsRow.holds Tryz.pinned (OpenSpec.ofChange Rows.sortSortsSpec) :=
  OpenClaim.holds_of_wide 3 Tryz.f3 rfl rfl rfl rfl rfl rfl rfl ⟨rfl, rfl, rfl, rfl, rfl⟩ rfl rfl rfl rfl rfl (by kernel_rfl) Tryz.func3 (by kernel_rfl)
    (of_decide_eq_true (by kernel_rfl)) (by unfold Func.isWrapper; first | (rw [if_pos (by decide +kernel)]; kernel_rfl) | (rw [if_neg (by decide +kernel)]; exact ⟨rfl, rfl⟩))
    (fun os started H enc _ => lifted os started H enc)

theorem proved : Rows.SortSortsSaid := over
end Go.Proofs.YteldegofbbfaeaaGreat.sortSorts
