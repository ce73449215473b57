/-
  FormatEncodes: for whatever graph; no condition.
-/
import Derived.Test.YtdjmjabbjjcgiaaRows
import Derived.Test.YtdjmjabbjjcgiaaFormatREnc
import Derived.Test.YtdjmjabbjjcgiaaFormatAwake
import Derived.WalkKit
import Derived.ProofKit
import Derived.OpenShut
import Derived.ShutString
import Derived.ChangeOld
import Derived.Below
namespace Go.Proofs.Ytdjmjabbjjcgiaa.formatEncodes
open Go.ChangeShapes Go.WideShapes Go.ChangeAt Go.RowKit
open Go.ChangeMaps (open_string shut_string)
set_option linter.unusedVariables false

theorem own : ownKnob Try.prog.godebug = none := by kernel_rfl
theorem laidOut : laidOutB Try.prog = true := by kernel_rfl


set_option maxHeartbeats 1600000 in
set_option maxRecDepth 100000 in
theorem walk (N0 : Int) (a0 : Option Addr) (len0 cap0 : Nat) (l0 : List (Int × Int)) (w : World) (wN0 : I64 N0) (wr0 : ReadsE w w.heap.size a0 len0 l0) (wc0 : len0 ≤ cap0 ∧ cap0 ≤ maxLen) :
    Calls Try.prog 3 #[.agg #[.int .i64 N0, .slice a0 len0 cap0]] w fun e w' => e = .returned (.bool true) ∧ Below w.heap.size w w' := by
  have hm0 : len0 ≤ 9223372036854775807 := by have := wc0.2; unfold maxLen at this; omega
  clear wc0
  go_enter Try.func3, Try.ntmps3
  go_wp2_with fail
  refine (awake_any _).mono ?_; rintro e w1 ⟨rfl, hb1⟩
  have HB1 := Lib.hid (hb1.mono (show w.heap.size + 1 ≤ _ by simp))
  obtain ⟨c0, c1⟩ := box2 HB1.out
  clear hb1
  have hsz : w.heap.size < w1.heap.size := by have := HB1.out.size; simp at this; omega
  go_wp2_with fail
  refine (few_any N0 a0 len0 cap0 500 300 _).mono ?_; rintro e w2 ⟨rfl, hb2⟩
  have HB2 := Lib.hid (HB1.out.trans (hb2.mono (show w.heap.size + 1 ≤ w1.heap.size by omega)))
  obtain ⟨c0, c1⟩ := box2 HB2.out
  have hsz2 : w.heap.size < w2.heap.size := by have := HB2.out.size; simp at this; omega
  have HW2 := Lib.hid (((Below.refl w.heap.size w).alloc (Nat.le_refl _) _).trans (HB2.out.mono (show w.heap.size ≤ _ by omega)))
  have HR2 := Lib.hid (wr0.keep HW2.out)
  clear hb2
  by_cases hbig : N0 ≤ ((500 : Nat) : Int) ∧ len0 ≤ 300
  · have g1 : (decide (N0 ≤ ((500 : Nat) : Int)) && decide (len0 ≤ 300)) = true := by simp; omega
    rw [g1]
    clear g1
    by_cases hf : formed N0 l0 = true
    · have hN := (formed_iff.1 hf).1
      obtain ⟨M, rfl⟩ := Int.eq_ofNat_of_zero_le hN.1
      have hM : M ≤ 500 := by omega
      have hl : len0 ≤ 300 := hbig.2
      have HF := Lib.hid hf
      clear hf hN hbig
      go_wp2_with fail
      refine (encode_ok M a0 len0 cap0 l0 w2 HF.out HR2.out (by omega) (by omega)).mono ?_; rintro e w3 ⟨v3, rfl, ho3, hb3⟩
      have HB3 := Lib.hid (HB2.out.trans (hb3.mono (show w.heap.size + 1 ≤ w2.heap.size by omega)))
      obtain ⟨c0, c1⟩ := box2 HB3.out
      have hsz3 : w.heap.size < w3.heap.size := by have := HB3.out.size; simp at this; omega
      have HR3 := Lib.hid (HR2.out.keep (hb3.mono (by omega)))
      obtain ⟨A3, k3, rfl, hr3, _⟩ := own_reads ho3 (fun x hx => u8_wf (enc_byte _ _ _ hx))
      have HX3 := Lib.hid hr3
      clear hr3 hb3 ho3
      go_wp2_with fail
      refine (rencode_ok M a0 len0 cap0 l0 w3 HF.out HR3.out (by omega) (by omega)).mono ?_; rintro e w4 ⟨A4, k4, rfl, hr4, hb4⟩
      have HX4 := Lib.hid (HX3.out.keep hb4)
      have HY4 := Lib.hid hr4
      have HB4 := Lib.hid (HB3.out.trans (hb4.mono (show w.heap.size + 1 ≤ w3.heap.size by omega)))
      have hs4 := hb4.size
      have HEL := Lib.hid (enc_len (N := M) (by omega) (by rw [order_length, (HR2.out).1]; omega) (good_order HF.out))
      have HOL : Hid ((order l0).length = len0) := by unfold Hid; rw [order_length]; exact HR2.out.1
      clear hr4 hb4
      go_wp2_with fail
      refine (bsame_any A3 A4 _ _ k3 k4 _ _ w4 (HX4.out.mono hs4) HY4.out (by have := HEL.out; rw [HOL.out] at this; omega)).mono ?_; rintro e w5 ⟨rfl, q, rfl⟩
      have hd : decide (enc M (order l0) = enc M (order l0)) = true := by simp
      rw [hd]
      clear hd
      go_wp2
      go_ret
      exact ⟨rfl, below_drewN (((Below.refl w.heap.size w).alloc (Nat.le_refl _) _).trans (HB4.out.mono (by omega))) _⟩
    · have HF : Hid (formed N0 l0 = false) := by unfold Hid; simpa using hf
      clear hf
      go_wp2_with fail
      refine (encode_bad N0 a0 len0 cap0 l0 w2 wN0 HF.out HR2.out (by omega) hm0).mono ?_; rintro e w3 ⟨rfl, hb3⟩
      have HB3 := Lib.hid (HB2.out.trans (hb3.mono (show w.heap.size + 1 ≤ w2.heap.size by omega)))
      obtain ⟨c0, c1⟩ := box2 HB3.out
      have hsz3 : w.heap.size < w3.heap.size := by have := HB3.out.size; simp at this; omega
      have HR3 := Lib.hid (HR2.out.keep (hb3.mono (by omega)))
      clear hb3
      go_wp2_with fail
      refine (rencode_bad N0 a0 len0 cap0 l0 w3 wN0 HF.out HR3.out (by omega) hm0).mono ?_; rintro e w4 ⟨rfl, hb4⟩
      have HB4 := Lib.hid (HB3.out.trans (hb4.mono (show w.heap.size + 1 ≤ w3.heap.size by omega)))
      clear hb4
      go_wp2_with fail
      refine (bsame_any none none 0 0 0 0 [] [] w4 ⟨rfl, by simp, fun h => absurd h (by omega)⟩ ⟨rfl, by simp, fun h => absurd h (by omega)⟩ (by omega)).mono ?_; rintro e w5 ⟨rfl, q, rfl⟩
      go_wp2
      go_ret
      exact ⟨rfl, below_drewN (((Below.refl w.heap.size w).alloc (Nat.le_refl _) _).trans (HB4.out.mono (by omega))) _⟩
  · have g1 : (decide (N0 ≤ ((500 : Nat) : Int)) && decide (len0 ≤ 300)) = false := by rw [Bool.eq_false_iff]; simp; omega
    rw [g1]
    clear g1
    go_wp2_with fail
    refine (awake_any _).mono ?_; rintro e w3 ⟨rfl, hb3⟩
    have HB3 := Lib.hid (HB2.out.trans (hb3.mono (show w.heap.size + 1 ≤ w2.heap.size by omega)))
    clear hb3
    go_wp2
    go_ret
    exact ⟨rfl, ((Below.refl w.heap.size w).alloc (Nat.le_refl _) _).trans (HB3.out.mono (by omega))⟩

set_option maxRecDepth 100000 in
theorem lifted (os : Os) (started : os.Started) (H : Type) (enc : TypeId × Value → H) :
    ReturnsInHanded {} Try.checked os 3 .any (Rows.formatEncodesSpec.pre6 enc Try.prog Try.f3 Rows.formatEncodesRow.domain false) (Rows.formatEncodesSpec.post enc Try.prog Try.f3 false true false false) := by
  refine returnsInHanded_of_change (C := Try.checked) own started (by kernel_rfl) Try.func3
    (ChangeSpec.witness6 (enc := enc) (C := Try.checked) false ⟨#[], #[.agg #[.int .i64 0, .slice none 0 0]], []⟩ 8 (by kernel_rfl) (by kernel_rfl) (by kernel_rfl) (by kernel_rfl)) ?_
  intro W base args ds gs before hval0 hW hcnd _
  have hval : ∀ (j : Nat) t v, Try.f3.params[j]? = some t → args[j]? = some v → Value.okWide Try.prog W .any base t v := hval0
  have hW' := hW
  obtain ⟨p, q, hA0, hV, rfl, hfz, hnd⟩ := hW
  have hA : DataW.TrodAll enc Try.prog W 0 (fun _ => true) true Try.f3.params.toList args.toList ds p := hA0
  rw [Try.params3] at hA hval
  obtain ⟨v0, vs0, d0, ds0, p0, q0, hargs, rfl, rfl, h0, r0⟩ := trodAll_cons hA
  obtain ⟨rfl, rfl, rfl⟩ := trodAll_nil r0
  obtain rfl : args = #[v0] := by cases args; simp_all
  obtain ⟨rfl, rfl⟩ := trodVars_none hV
  have k0 := h0
  have lt0 : ∀ x ∈ p0, x.block < W.heap.size := by obtain ⟨m, hm⟩ := k0; exact DataW.trod_lt m _ _ _ hm
  obtain ⟨N0, a0, len0, cap0, l0, rfl, wN0, wr0, wc0⟩ := open_graph Try.underlying24 (by kernel_rfl) (by kernel_rfl) rfl rfl Try.underlying22 Try.underlying43 (by kernel_rfl) (by kernel_rfl) Try.underlying3 rfl rfl (hval 0 24 v0 rfl rfl) h0
  clear hA0 hval0
  refine (walk N0 a0 len0 cap0 l0 W wN0 wr0 wc0).mono fun e W' ⟨he, bel⟩ => ?_
  subst he
  exact ⟨_, rfl, _, _, _, [], _, [], hW', trodAll_mk1 (shut_bool Try.underlying4 _), (trodAll_cons_mk (Below.trod laidOut (by kernel_rfl) (of_decide_eq_true (by kernel_rfl)) k0 bel lt0) trodAll_mk0), rfl, bel.frame _, fun h => by cases h⟩

theorem over : Rows.formatEncodesRow.holds Try.pinned (OpenSpec.ofChange Rows.formatEncodesSpec) :=
  OpenClaim.holds_of_wide 3 Try.f3 rfl rfl rfl rfl rfl rfl rfl ⟨rfl, rfl, rfl, rfl, rfl⟩ rfl rfl rfl rfl rfl (by kernel_rfl) Try.func3 (by kernel_rfl)
    (of_decide_eq_true (by kernel_rfl)) (by unfold Func.isWrapper; first | (rw [if_pos (by decide +kernel)]; kernel_rfl) | (rw [if_neg (by decide +kernel)]; exact ⟨rfl, rfl⟩))
    (fun os started H enc _ => lifted os started H enc)

theorem proved : Rows.FormatEncodesSaid := over
end Go.Proofs.Ytdjmjabbjjcgiaa.formatEncodes
