/-
  SealZeros: a block of zeros, of whatever size below 300, is none at whatever address; no condition.
-/
import Derived.Test.YtfihbfpdfkeppaaRows
import Derived.Test.YtfihbfpdfkeppaaSealLaw
import Derived.WalkKit
import Derived.ProofKit
import Derived.OpenShut
import Derived.ShutString
import Derived.ChangeOld
import Derived.Below
namespace Go.Proofs.Ytfihbfpdfkeppaa.sealZeros
open Go.ChangeShapes Go.WideShapes Go.ChangeAt Go.RowKit
open Go.ChangeMaps (open_string shut_string)
set_option linter.unusedVariables false

theorem own : ownKnob Try.prog.godebug = none := by kernel_rfl
theorem laidOut : laidOutB Try.prog = true := by kernel_rfl


set_option maxHeartbeats 4000000 in
set_option maxRecDepth 100000 in
theorem walk (a0 : Int) (a1 : Int) (w : World) (w0 : (Lit.int .u16 a0).wf = true) (w1 : (Lit.int .i64 a1).wf = true) :
    Calls Try.prog 6 #[.int .u16 a0, .int .i64 a1] w fun e w' => e = .returned (.bool true) ∧ Below w.heap.size w w' := by
  obtain ⟨x, rfl⟩ := Int.eq_ofNat_of_zero_le (show 0 ≤ a0 by have := bounds_u16 w0; omega)
  obtain ⟨n, hn⟩ : ∃ n, n = x % 300 := ⟨_, rfl⟩
  have hmod : (x : Int) % 300 = (n : Int) := by omega
  have hnlt : n < 300 := by omega
  obtain ⟨i0, hi, hz0, hz1, hz2⟩ := info_parts infoW
  have hb64 := i64_bounds w1
  clear hn w0 w1
  by_cases hm : 8 ≤ n ∧ n ≤ 256 ∧ 0 ≤ a1
  · obtain ⟨h1, h2, h3⟩ := hm
    obtain ⟨ad, rfl⟩ := Int.eq_ofNat_of_zero_le h3
    have g1 : decide ((n : Int) < 8) = false := by simp; omega
    have g2 : decide ((n : Int) > 256) = false := by simp; omega
    have g3 : decide ((ad : Int) < 0) = false := by simp
    have had : ad ≤ 9223372036854775807 := by omega
    clear h3 hb64
    go_enter Try.func6, Try.ntmps6
    go_wp2_with (with_reducible refine stopAt 14 ?_)
    unfold Hid
    refine wpList_make_row _ rfl _ _ 24 rfl 23 i0 (.int .u64 0) Try.underlying24 hi hz0 hz1 rfl .i64 .i64 _ _ n rfl rfl rfl rfl (by rw [hz2]; omega) (by omega) ?_
    intro w2 hr2 hb2 hs2
    have hr3 : Row w2 w.heap.size 23 ((List.replicate n 0).map vw) := by rw [List.map_replicate]; exact hr2
    have hrd := hr3.words (n := n) (by simp) (fun x hx => by rw [List.mem_replicate] at hx; rw [hx.2]; decide)
    rw [List.take_of_length_le (by simp)] at hrd
    have hget := get_may (some ⟨w.heap.size, 0, none⟩) n n ad (List.replicate n 0) w2 hrd (Nat.le_refl _) (Nat.le_refl _) h1 h2 had
    rw [ok_zeros] at hget
    have HG := Lib.hid hget
    have HB2 := Lib.hid hb2
    clear hr2 hr3 hrd hget hb2 hs2
    go_wp2_with fail
    refine HG.out.mono ?_
    rintro e w3 (⟨_, rfl, hb3⟩ | ⟨h, _⟩)
    · have HB3 := Lib.hid (HB2.out.trans (hb3.mono HB2.out.size))
      clear hb3
      go_wp2_with fail
      refine (awake_any _).mono ?_; rintro e w4 ⟨rfl, hb4⟩
      have HB4 := Lib.hid (HB3.out.trans (hb4.mono HB3.out.size))
      clear hb4
      go_wp2
      go_ret
      exact ⟨rfl, HB4.out⟩
    · cases h
  · have hmay : mayW n a1 = false := by
      unfold mayW
      rw [Bool.eq_false_iff]; intro h; simp at h; omega
    have HG := Lib.hid (fun w => get_arg (some ⟨w.heap.size, 0, none⟩) n n a1 w hmay)
    have HG2 : Hid (∀ b w, Calls Try.prog _ #[.slice (some ⟨b, 0, none⟩) n n, .int .i64 a1] w _) := fun b w => get_arg (some ⟨b, 0, none⟩) n n a1 w hmay
    by_cases h1 : (n : Int) < 8
    · have g1 : decide ((n : Int) < 8) = true := by simpa using h1
      clear hm hmay h1
      go_enter Try.func6, Try.ntmps6
      go_wp2_with (with_reducible refine stopAt 14 ?_)
      unfold Hid
      refine wpList_make_row _ rfl _ _ 24 rfl 23 i0 (.int .u64 0) Try.underlying24 hi hz0 hz1 rfl .i64 .i64 _ _ n rfl rfl rfl rfl (by rw [hz2]; omega) (by omega) ?_
      intro w2 hr2 hb2 hs2
      have HB2 := Lib.hid hb2
      clear hr2 hb2 hs2
      go_wp2_with fail
      refine (HG2.out _ _).mono ?_; rintro e w3 ⟨rfl, rfl⟩
      go_wp2_with fail
      refine (awake_any _).mono ?_; rintro e w4 ⟨rfl, hb4⟩
      have HB4 := Lib.hid (HB2.out.trans (hb4.mono HB2.out.size))
      clear hb4
      go_wp2
      go_ret
      exact ⟨rfl, HB4.out⟩
    have g1 : decide ((n : Int) < 8) = false := by simpa using h1
    by_cases h2 : (n : Int) > 256
    · have g2 : decide ((n : Int) > 256) = true := by simpa using h2
      clear hm hmay h1 h2
      go_enter Try.func6, Try.ntmps6
      go_wp2_with (with_reducible refine stopAt 14 ?_)
      unfold Hid
      refine wpList_make_row _ rfl _ _ 24 rfl 23 i0 (.int .u64 0) Try.underlying24 hi hz0 hz1 rfl .i64 .i64 _ _ n rfl rfl rfl rfl (by rw [hz2]; omega) (by omega) ?_
      intro w2 hr2 hb2 hs2
      have HB2 := Lib.hid hb2
      clear hr2 hb2 hs2
      go_wp2_with fail
      refine (HG2.out _ _).mono ?_; rintro e w3 ⟨rfl, rfl⟩
      go_wp2_with fail
      refine (awake_any _).mono ?_; rintro e w4 ⟨rfl, hb4⟩
      have HB4 := Lib.hid (HB2.out.trans (hb4.mono HB2.out.size))
      clear hb4
      go_wp2
      go_ret
      exact ⟨rfl, HB4.out⟩
    have g2 : decide ((n : Int) > 256) = false := by simpa using h2
    have g3 : decide (a1 < 0) = true := by simp; omega
    clear hm hmay h1 h2
    go_enter Try.func6, Try.ntmps6
    go_wp2_with (with_reducible refine stopAt 14 ?_)
    unfold Hid
    refine wpList_make_row _ rfl _ _ 24 rfl 23 i0 (.int .u64 0) Try.underlying24 hi hz0 hz1 rfl .i64 .i64 _ _ n rfl rfl rfl rfl (by rw [hz2]; omega) (by omega) ?_
    intro w2 hr2 hb2 hs2
    have HB2 := Lib.hid hb2
    clear hr2 hb2 hs2
    go_wp2_with fail
    refine (HG2.out _ _).mono ?_; rintro e w3 ⟨rfl, rfl⟩
    go_wp2_with fail
    refine (awake_any _).mono ?_; rintro e w4 ⟨rfl, hb4⟩
    have HB4 := Lib.hid (HB2.out.trans (hb4.mono HB2.out.size))
    clear hb4
    go_wp2
    go_ret
    exact ⟨rfl, HB4.out⟩

set_option maxRecDepth 100000 in
theorem lifted (os : Os) (started : os.Started) (H : Type) (enc : TypeId × Value → H) :
    ReturnsInHanded {} Try.checked os 6 .any (Rows.sealZerosSpec.pre6 enc Try.prog Try.f6 Rows.sealZerosRow.domain false) (Rows.sealZerosSpec.post enc Try.prog Try.f6 false true false false) := by
  refine returnsInHanded_of_change (C := Try.checked) own started (by kernel_rfl) Try.func6
    (ChangeSpec.witness6 (enc := enc) (C := Try.checked) false ⟨#[], #[.int .u16 0, .int .i64 0], []⟩ 8 (by kernel_rfl) (by kernel_rfl) (by kernel_rfl) (by kernel_rfl)) ?_
  intro W base args ds gs before hval0 hW hcnd _
  have hval : ∀ (j : Nat) t v, Try.f6.params[j]? = some t → args[j]? = some v → Value.okWide Try.prog W .any base t v := hval0
  have hW' := hW
  obtain ⟨p, q, hA0, hV, rfl, hfz, hnd⟩ := hW
  have hA : DataW.TrodAll enc Try.prog W 0 (fun _ => true) true Try.f6.params.toList args.toList ds p := hA0
  rw [Try.params6] at hA hval
  obtain ⟨v0, vs0, d0, ds0, p0, q0, hargs, rfl, rfl, h0, r0⟩ := trodAll_cons hA
  obtain ⟨v1, vs1, d1, ds1, p1, q1, rfl, rfl, rfl, h1, r1⟩ := trodAll_cons r0
  obtain ⟨rfl, rfl, rfl⟩ := trodAll_nil r1
  obtain rfl : args = #[v0, v1] := by cases args; simp_all
  obtain ⟨rfl, rfl⟩ := trodVars_none hV
  have k0 := h0
  have lt0 : ∀ x ∈ p0, x.block < W.heap.size := by obtain ⟨m, hm⟩ := k0; exact DataW.trod_lt m _ _ _ hm
  have k1 := h1
  have lt1 : ∀ x ∈ p1, x.block < W.heap.size := by obtain ⟨m, hm⟩ := k1; exact DataW.trod_lt m _ _ _ hm
  obtain ⟨a0, rfl, rfl, rfl, w0⟩ := open_int Try.underlying37 (hval 0 37 v0 rfl rfl) h0
  obtain ⟨a1, rfl, rfl, rfl, w1⟩ := open_int Try.underlying3 (hval 1 3 v1 rfl rfl) h1
  clear hA0 hval0
  refine (walk a0 a1 W w0 w1).mono fun e W' ⟨he, bel⟩ => ?_
  subst he
  exact ⟨_, rfl, _, _, _, [], _, [], hW', trodAll_mk1 (shut_bool Try.underlying4 _), (trodAll_cons_mk (Below.trod laidOut (by kernel_rfl) (of_decide_eq_true (by kernel_rfl)) k0 bel lt0) (trodAll_cons_mk (Below.trod laidOut (by kernel_rfl) (of_decide_eq_true (by kernel_rfl)) k1 bel lt1) trodAll_mk0)), rfl, bel.frame _, fun h => by cases h⟩

theorem over : Rows.sealZerosRow.holds Try.pinned (OpenSpec.ofChange Rows.sealZerosSpec) :=
  OpenClaim.holds_of_wide 6 Try.f6 rfl rfl rfl rfl rfl rfl rfl ⟨rfl, rfl, rfl, rfl, rfl⟩ rfl rfl rfl rfl rfl (by kernel_rfl) Try.func6 (by kernel_rfl)
    (of_decide_eq_true (by kernel_rfl)) (by unfold Func.isWrapper; first | (rw [if_pos (by decide +kernel)]; kernel_rfl) | (rw [if_neg (by decide +kernel)]; exact ⟨rfl, rfl⟩))
    (fun os started H enc _ => lifted os started H enc)

theorem proved : Rows.SealZerosSaid := over
end Go.Proofs.Ytfihbfpdfkeppaa.sealZeros
