/-
  GraphCounts: for whatever graph; no condition.
-/
import Derived.Test.YtcfpoanlenjjlaaRows
import Derived.Test.YtcfpoanlenjjlaaGraphLst
import Derived.Test.YtcfpoanlenjjlaaGraphAwake
import Derived.WalkKit
import Derived.ProofKit
import Derived.OpenShut
import Derived.ShutString
import Derived.ChangeOld
import Derived.Below
namespace Go.Proofs.Ytcfpoanlenjjlaa.graphCounts
open Go.ChangeShapes Go.WideShapes Go.ChangeAt Go.RowKit
open Go.ChangeMaps (open_string shut_string)
set_option linter.unusedVariables false

theorem own : ownKnob Try.prog.godebug = none := by kernel_rfl
theorem laidOut : laidOutB Try.prog = true := by kernel_rfl


set_option maxHeartbeats 1600000 in
set_option maxRecDepth 100000 in
theorem walk (N0 : Int) (a0 : Option Addr) (len0 cap0 : Nat) (l0 : List (Int × Int)) (w : World) (wN0 : I64 N0) (wr0 : ReadsE w w.heap.size a0 len0 l0) (wc0 : len0 ≤ cap0 ∧ cap0 ≤ maxLen) :
    Calls Try.prog 5 #[.agg #[.int .i64 N0, .slice a0 len0 cap0]] w fun e w' => e = .returned (.bool true) ∧ Below w.heap.size w w' := by
  have hm0 : len0 ≤ 9223372036854775807 := by have := wc0.2; unfold maxLen at this; omega
  clear wc0
  have bN := wN0.bounds
  go_enter Try.func5, Try.ntmps5
  go_wp2_with fail
  refine (awake_any _).mono ?_; rintro e w1 ⟨rfl, hb1⟩
  have HB1 := Lib.hid (hb1.mono (show w.heap.size + 1 ≤ _ by simp))
  obtain ⟨c0, c1⟩ := box2 HB1.out
  clear hb1
  have hsz : w.heap.size < w1.heap.size := by have := HB1.out.size; simp at this; omega
  go_wp2_with fail
  refine (few_any N0 a0 len0 cap0 _).mono ?_; rintro e w2 ⟨rfl, hb2⟩
  have HB2 := Lib.hid (HB1.out.trans (hb2.mono (show w.heap.size + 1 ≤ w1.heap.size by omega)))
  obtain ⟨c0, c1⟩ := box2 HB2.out
  have hsz2 : w.heap.size < w2.heap.size := by have := HB2.out.size; simp at this; omega
  have HW2 := Lib.hid (((Below.refl w.heap.size w).alloc (Nat.le_refl _) _).trans (HB2.out.mono (show w.heap.size ≤ _ by omega)))
  clear hb2
  by_cases hbig : len0 ≤ 300
  · have g1 : decide (len0 ≤ 300) = true := by simp; omega
    rw [g1]
    by_cases hN : 500 < N0
    · have g2 : decide (500 < N0) = true := by simp; omega
      go_wp2_with fail
      refine (awake_any _).mono ?_; rintro e w4 ⟨rfl, hb4⟩
      have HB4 := Lib.hid (HW2.out.trans (hb4.mono (show w.heap.size ≤ _ by omega)))
      clear hb4
      go_wp2
      go_ret
      exact ⟨rfl, HB4.out⟩
    · have g2 : decide (500 < N0) = false := by simp; omega
      have HR2 := Lib.hid (wr0.keep HW2.out)
      by_cases hf : formed N0 l0 = true
      · obtain ⟨⟨hn0, hn1, _⟩, _⟩ := formed_iff.1 hf
        obtain ⟨N, rfl⟩ := Int.eq_ofNat_of_zero_le hn0
        have HF := Lib.hid hf
        have HDL : Hid ((degs N l0).length ≤ 1073741824) := by unfold Hid; rw [degs_length]; omega
        have HLL : Hid ((loops l0 len0).length ≤ 1073741824) := by unfold Hid; have := loops_length l0 len0; omega
        clear hf hn0 hn1
        go_wp2_with fail
        refine (degrees_ok N a0 len0 cap0 l0 w2 HF.out HR2.out (by omega)).mono ?_; rintro e w3 ⟨v3, rfl, ho3, hx3, hb3⟩
        have HB3 := Lib.hid (HB2.out.trans (hb3.mono (show w.heap.size + 1 ≤ w2.heap.size by omega)))
        obtain ⟨c0, c1⟩ := box2 HB3.out
        have hsz3 : w.heap.size < w3.heap.size := by have := HB3.out.size; simp at this; omega
        have HR3 := Lib.hid (HR2.out.keep (hb3.mono (by omega)))
        have HO3 := Lib.hid ho3
        have HX3 := Lib.hid hx3
        clear ho3 hx3 hb3
        go_wp2_with fail
        refine (rdegrees_ok N a0 len0 cap0 l0 w3 HF.out HR3.out (by omega)).mono ?_; rintro e w4 ⟨v4, rfl, ho4, hx4, hb4⟩
        have HB4 := Lib.hid (HB3.out.trans (hb4.mono (show w.heap.size + 1 ≤ w3.heap.size by omega)))
        obtain ⟨c0, c1⟩ := box2 HB4.out
        have hsz4 : w.heap.size < w4.heap.size := by have := HB4.out.size; simp at this; omega
        have HR4 := Lib.hid (HR3.out.keep (hb4.mono (by omega)))
        have HO34 := Lib.hid (own_keep HO3.out hb4)
        have HO4 := Lib.hid ho4
        clear ho4 hx4 hb4
        go_wp2_with fail
        refine (loops_ok N a0 len0 cap0 l0 w4 wN0 HF.out HR4.out (by omega)).mono ?_; rintro e w5 ⟨v5, rfl, ho5, hx5, hb5⟩
        have HB5 := Lib.hid (HB4.out.trans (hb5.mono (show w.heap.size + 1 ≤ w4.heap.size by omega)))
        obtain ⟨c0, c1⟩ := box2 HB5.out
        have hsz5 : w.heap.size < w5.heap.size := by have := HB5.out.size; simp at this; omega
        have HR5 := Lib.hid (HR4.out.keep (hb5.mono (by omega)))
        have HO35 := Lib.hid (own_keep HO34.out hb5)
        have HO45 := Lib.hid (own_keep HO4.out hb5)
        have HO5 := Lib.hid ho5
        have HX5 := Lib.hid hx5
        clear ho5 hx5 hb5
        go_wp2_with fail
        refine (rloops_ok N a0 len0 cap0 l0 w5 wN0 HF.out HR5.out (by omega)).mono ?_; rintro e w6 ⟨v6, rfl, ho6, hx6, hb6⟩
        have HB6 := Lib.hid (HB5.out.trans (hb6.mono (show w.heap.size + 1 ≤ w5.heap.size by omega)))
        obtain ⟨A3, k3, rfl, hr3, _⟩ := own_reads (own_keep HO35.out hb6) HX3.out
        obtain ⟨A4, k4, rfl, hr4, _⟩ := own_reads (own_keep HO45.out hb6) HX3.out
        obtain ⟨A5, k5, rfl, hr5, _⟩ := own_reads (own_keep HO5.out hb6) HX5.out
        obtain ⟨A6, k6, rfl, hr6, _⟩ := own_reads ho6 HX5.out
        have HI1 := Lib.hid ((ints_any A3 A4 _ k3 _ k4 _ _ w6 hr3 hr4 (by omega) (by omega)).mono fun e w' h => (by rw [show eqI (degs N l0) (degs N l0) = true by unfold eqI; simp] at h; exact h : e = .returned (.bool true) ∧ ∃ m, w' = w6.drewN m))
        have HI2 := Lib.hid (fun m => (ints_any A5 A6 _ k5 _ k6 _ _ (w6.drewN m) (hr5.drewN m) (hr6.drewN m) (by have := HLL.out; omega) (by have := HLL.out; omega)).mono fun e w' h => (by rw [show eqI (loops l0 len0) (loops l0 len0) = true by unfold eqI; simp] at h; exact h : e = .returned (.bool true) ∧ ∃ m', w' = (w6.drewN m).drewN m'))
        clear ho6 hx6 hb6 hr3 hr4 hr5 hr6 HO3 HO34 HO35 HO4 HO45 HO5 HX3 HX5 HR2 HR3 HR4 HR5
        generalize (loops l0 len0).length = q at *
        go_wp2_with fail
        refine HI1.out.mono ?_; rintro e w7 ⟨rfl, m, rfl⟩
        go_wp2_with fail
        refine (HI2.out m).mono ?_; rintro e w8 ⟨rfl, m', rfl⟩
        go_wp2
        go_ret
        exact ⟨rfl, below_drewN (((Below.refl w.heap.size w).alloc (Nat.le_refl _) _).trans (HB6.out.mono (show w.heap.size ≤ _ by omega))) _⟩
      · have HF : Hid (formed N0 l0 = false) := by unfold Hid; simpa using hf
        clear hf
        go_wp2_with fail
        refine (degrees_bad N0 a0 len0 cap0 l0 w2 wN0 HF.out HR2.out (by omega) hm0).mono ?_; rintro e w3 ⟨rfl, hb3⟩
        have HB3 := Lib.hid (HB2.out.trans (hb3.mono (show w.heap.size + 1 ≤ w2.heap.size by omega)))
        obtain ⟨c0, c1⟩ := box2 HB3.out
        have hsz3 : w.heap.size < w3.heap.size := by have := HB3.out.size; simp at this; omega
        have HR3 := Lib.hid (HR2.out.keep (hb3.mono (by omega)))
        clear hb3
        go_wp2_with fail
        refine (rdegrees_bad N0 a0 len0 cap0 l0 w3 wN0 HF.out HR3.out (by omega) hm0).mono ?_; rintro e w4 ⟨rfl, hb4⟩
        have HB4 := Lib.hid (HB3.out.trans (hb4.mono (show w.heap.size + 1 ≤ w3.heap.size by omega)))
        obtain ⟨c0, c1⟩ := box2 HB4.out
        have hsz4 : w.heap.size < w4.heap.size := by have := HB4.out.size; simp at this; omega
        have HR4 := Lib.hid (HR3.out.keep (hb4.mono (by omega)))
        clear hb4
        go_wp2_with fail
        refine (loops_bad N0 a0 len0 cap0 l0 w4 wN0 HF.out HR4.out (by omega) hm0).mono ?_; rintro e w5 ⟨rfl, hb5⟩
        have HB5 := Lib.hid (HB4.out.trans (hb5.mono (show w.heap.size + 1 ≤ w4.heap.size by omega)))
        obtain ⟨c0, c1⟩ := box2 HB5.out
        have hsz5 : w.heap.size < w5.heap.size := by have := HB5.out.size; simp at this; omega
        have HR5 := Lib.hid (HR4.out.keep (hb5.mono (by omega)))
        clear hb5
        go_wp2_with fail
        refine (rloops_bad N0 a0 len0 cap0 l0 w5 wN0 HF.out HR5.out (by omega) hm0).mono ?_; rintro e w6 ⟨rfl, hb6⟩
        have HB6 := Lib.hid (HB5.out.trans (hb6.mono (show w.heap.size + 1 ≤ w5.heap.size by omega)))
        clear hb6
        have HI := Lib.hid (fun m => (ints_any none none 0 0 0 0 [] [] (w6.drewN m) (B := 0) (B2 := 0) ⟨rfl, by simp, fun h => absurd h (by omega)⟩ ⟨rfl, by simp, fun h => absurd h (by omega)⟩ (by omega) (by omega)).mono fun e w' h => (by rw [show eqI [] [] = true by unfold eqI; simp] at h; exact h : e = .returned (.bool true) ∧ ∃ m', w' = (w6.drewN m).drewN m'))
        have HI0 : Hid (Calls Try.prog _ _ w6 _) := HI.out 0
        go_wp2_with fail
        refine HI0.out.mono ?_; rintro e w7 ⟨rfl, m, rfl⟩
        go_wp2_with fail
        refine (HI.out _).mono ?_; rintro e w8 ⟨rfl, m', rfl⟩
        go_wp2
        go_ret
        exact ⟨rfl, below_drewN (((Below.refl w.heap.size w).alloc (Nat.le_refl _) _).trans (HB6.out.mono (show w.heap.size ≤ _ by omega))) _⟩
  · have g1 : decide (len0 ≤ 300) = false := by simp; omega
    rw [g1]
    go_wp2_with fail
    refine (awake_any _).mono ?_; rintro e w4 ⟨rfl, hb4⟩
    have HB4 := Lib.hid (HW2.out.trans (hb4.mono (show w.heap.size ≤ _ by omega)))
    clear hb4
    go_wp2
    go_ret
    exact ⟨rfl, HB4.out⟩

set_option maxRecDepth 100000 in
theorem lifted (os : Os) (started : os.Started) (H : Type) (enc : TypeId × Value → H) :
    ReturnsInHanded {} Try.checked os 5 .any (Rows.graphCountsSpec.pre6 enc Try.prog Try.f5 Rows.graphCountsRow.domain false) (Rows.graphCountsSpec.post enc Try.prog Try.f5 false true false false) := by
  refine returnsInHanded_of_change (C := Try.checked) own started (by kernel_rfl) Try.func5
    (ChangeSpec.witness6 (enc := enc) (C := Try.checked) false ⟨#[], #[.agg #[.int .i64 0, .slice none 0 0]], []⟩ 8 (by kernel_rfl) (by kernel_rfl) (by kernel_rfl) (by kernel_rfl)) ?_
  intro W base args ds gs before hval0 hW hcnd _
  have hval : ∀ (j : Nat) t v, Try.f5.params[j]? = some t → args[j]? = some v → Value.okWide Try.prog W .any base t v := hval0
  have hW' := hW
  obtain ⟨p, q, hA0, hV, rfl, hfz, hnd⟩ := hW
  have hA : DataW.TrodAll enc Try.prog W 0 (fun _ => true) true Try.f5.params.toList args.toList ds p := hA0
  rw [Try.params5] at hA hval
  obtain ⟨v0, vs0, d0, ds0, p0, q0, hargs, rfl, rfl, h0, r0⟩ := trodAll_cons hA
  obtain ⟨rfl, rfl, rfl⟩ := trodAll_nil r0
  obtain rfl : args = #[v0] := by cases args; simp_all
  obtain ⟨rfl, rfl⟩ := trodVars_none hV
  have k0 := h0
  have lt0 : ∀ x ∈ p0, x.block < W.heap.size := by obtain ⟨m, hm⟩ := k0; exact DataW.trod_lt m _ _ _ hm
  obtain ⟨N0, a0, len0, cap0, l0, rfl, wN0, wr0, wc0⟩ := open_graph Try.underlying24 (by kernel_rfl) (by kernel_rfl) rfl rfl Try.underlying22 Try.underlying37 (by kernel_rfl) (by kernel_rfl) Try.underlying3 rfl rfl (hval 0 24 v0 rfl rfl) h0
  clear hA0 hval0
  refine (walk N0 a0 len0 cap0 l0 W wN0 wr0 wc0).mono fun e W' ⟨he, bel⟩ => ?_
  subst he
  exact ⟨_, rfl, _, _, _, [], _, [], hW', trodAll_mk1 (shut_bool Try.underlying4 _), (trodAll_cons_mk (Below.trod laidOut (by kernel_rfl) (of_decide_eq_true (by kernel_rfl)) k0 bel lt0) trodAll_mk0), rfl, bel.frame _, fun h => by cases h⟩

theorem over : Rows.graphCountsRow.holds Try.pinned (OpenSpec.ofChange Rows.graphCountsSpec) :=
  OpenClaim.holds_of_wide 5 Try.f5 rfl rfl rfl rfl rfl rfl rfl ⟨rfl, rfl, rfl, rfl, rfl⟩ rfl rfl rfl rfl rfl (by kernel_rfl) Try.func5 (by kernel_rfl)
    (of_decide_eq_true (by kernel_rfl)) (by unfold Func.isWrapper; first | (rw [if_pos (by decide +kernel)]; kernel_rfl) | (rw [if_neg (by decide +kernel)]; exact ⟨rfl, rfl⟩))
    (fun os started H enc _ => lifted os started H enc)

theorem proved : Rows.GraphCountsSaid := over
end Go.Proofs.Ytcfpoanlenjjlaa.graphCounts
