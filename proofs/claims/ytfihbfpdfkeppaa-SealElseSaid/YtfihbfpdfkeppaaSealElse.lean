/-
  SealElse: whatever the payload, size and two addresses below 2^32, a block put at the one is got at the other just if they are the same; no condition.
-/
import Derived.Test.YtfihbfpdfkeppaaRows
import Derived.Test.YtfihbfpdfkeppaaSealLaw
import Derived.WalkKit
import Derived.ProofKit
import Derived.OpenShut
import Derived.ShutString
import Derived.ChangeOld
import Derived.Below
namespace Go.Proofs.Ytfihbfpdfkeppaa.sealElse
open Go.ChangeShapes Go.WideShapes Go.ChangeAt Go.RowKit
open Go.ChangeMaps (open_string shut_string)
set_option linter.unusedVariables false

theorem own : ownKnob Try.prog.godebug = none := by kernel_rfl
theorem laidOut : laidOutB Try.prog = true := by kernel_rfl


set_option maxHeartbeats 4000000 in
set_option maxRecDepth 100000 in
theorem walk (a0 : Option Addr) (len0 cap0 : Nat) (z0 : List Int) (a1 : Int) (a2_0 a2_1 : Int) (w : World) (w0 : IsRow .u64 w a0 len0 cap0 z0) (w1 : (Lit.int .i64 a1).wf = true) (w2_0 : (Lit.int .u32 a2_0).wf = true) (w2_1 : (Lit.int .u32 a2_1).wf = true) :
    Calls Try.prog 7 #[.slice a0 len0 cap0, .int .i64 a1, .agg #[.int .u32 a2_0, .int .u32 a2_1]] w fun e w' => e = .returned (.bool true) ∧ Below w.heap.size w w' := by
  obtain ⟨l, hl⟩ := w0.reads u64_nonneg
  clear w0
  obtain ⟨a, rfl⟩ := Int.eq_ofNat_of_zero_le (show 0 ≤ a2_0 by have := bounds_u32 w2_0; omega)
  obtain ⟨b, rfl⟩ := Int.eq_ofNat_of_zero_le (show 0 ≤ a2_1 by have := bounds_u32 w2_1; omega)
  have ha32 := u32_lt w2_0
  have hb32 := u32_lt w2_1
  have hb1 := i64_bounds w1
  have hbw : Below w.heap.size w (w.alloc (.cells #[.int .u32 (a : Int), .int .u32 (b : Int)] 40)) := (Below.refl _ _).alloc (Nat.le_refl _) _
  clear w2_0 w2_1 w1
  by_cases hbig : 1000 < len0
  · have g1 : decide (1000 < len0) = true := by simp; omega
    go_enter Try.func7, Try.ntmps7
    go_wp2
    go_quiet (fail)
    go_wp2_with fail
    refine (awake_any _).mono ?_; rintro e w2 ⟨rfl, hb2⟩
    go_wp2_with fail
    refine (awake_any _).mono ?_; rintro e w3 ⟨rfl, hb3⟩
    go_wp2
    go_ret
    exact ⟨rfl, ((below_drewN hbw _).trans (hb2.mono hbw.size)).trans (hb3.mono ((below_drewN hbw _).trans (hb2.mono hbw.size)).size)⟩
  have g1 : decide (1000 < len0) = false := by simp; omega
  by_cases hok : 8 ≤ a1 ∧ a1 ≤ 256 ∧ 0 ≤ (a : Int) ∧ (len0 : Int) ≤ a1 - 2
  · obtain ⟨h1, h2, _, h4⟩ := hok
    obtain ⟨size, rfl⟩ := Int.eq_ofNat_of_zero_le (show 0 ≤ a1 by omega)
    have k1 : 8 ≤ size := by omega
    have k2 : size ≤ 256 := by omega
    have k4 : len0 ≤ size - 2 := by omega
    clear h1 h2 h4 hb1
    have HL := Lib.hid hl
    have hll : l.length ≤ size - 2 := by rw [hl.1]; exact k4
    have HSL := Lib.hid (seal_len (ad := a) (tag := 1) (pl := l) (size := size) hll (by omega))
    have HSU : Hid (∀ x ∈ sealW size a 1 l, (Lit.int .u64 (x : Nat)).wf = true) := fun x hx => u64_wf (seal_u64 (fun y hy => u64_lt (hl.2.1 y hy)) (by omega) (by rw [hl.1]; omega) x hx)
    have HEL := Lib.hid (seal_else (ad := a) (ad2 := b) (tag := 1) (fun y hy => u64_lt (hl.2.1 y hy)) (by omega) ha32 hb32 hll (by omega) (show size ≤ 1000000 by omega))
    have HP1 : Hid (∀ w2, Below w.heap.size w w2 → _) := fun w2 (hb : Below w.heap.size w w2) => put_ok size a 1 a0 len0 cap0 l w2 (hl.keep hb) hb.size k1 k2 (by omega) (by omega) k4
    clear hl hll
    generalize sealW size a 1 l = S at *
    by_cases hab : a = b
    · have g2 : ((a : Int) == (b : Int)) = true := by simp; omega
      have HE := Lib.hid (HEL.out.2 hab)
      clear hab HEL
      go_enter Try.func7, Try.ntmps7
      go_wp2
      go_quiet (fail)
      go_wp2_with fail
      refine (awake_any _).mono ?_; rintro e w2 ⟨rfl, hb2⟩
      have HB2 := Lib.hid ((below_drewN hbw _).trans (hb2.mono hbw.size))
      clear hb2
      go_wp2_with fail
      refine (HP1.out w2 HB2.out).mono ?_; rintro e w3 ⟨rfl, hr3, hb3⟩
      have HB3 := Lib.hid (HB2.out.trans (hb3.mono HB2.out.size))
      have hr5 := hr3.words (n := size) (by rw [HSL.out]; exact Nat.le_refl _) HSU.out
      rw [List.take_of_length_le (by rw [HSL.out]; exact Nat.le_refl _)] at hr5
      have HG := Lib.hid (get_may (some ⟨w2.heap.size, 0, none⟩) size size b S w3 hr5 (Nat.le_refl _) (Nat.le_refl _) k1 k2 (by omega))
      clear hr3 hb3 hr5
      go_wp2_with fail
      refine HG.out.mono ?_
      rintro e w4 (⟨ho, _⟩ | ⟨ho, v, rfl, hown, hb4⟩)
      · rw [HE.out] at ho; cases ho
      · have HB4 := Lib.hid (HB3.out.trans (hb4.mono HB3.out.size))
        clear ho hown hb4
        go_wp2
        go_ret
        exact ⟨rfl, HB4.out⟩
    · have g2 : ((a : Int) == (b : Int)) = false := by simp; omega
      have HE : Hid (okW S b = false) := by
        unfold Hid; rw [Bool.eq_false_iff]; exact fun h => hab (HEL.out.1 h)
      clear hab HEL
      go_enter Try.func7, Try.ntmps7
      go_wp2
      go_quiet (fail)
      go_wp2_with fail
      refine (awake_any _).mono ?_; rintro e w2 ⟨rfl, hb2⟩
      have HB2 := Lib.hid ((below_drewN hbw _).trans (hb2.mono hbw.size))
      clear hb2
      go_wp2_with fail
      refine (HP1.out w2 HB2.out).mono ?_; rintro e w3 ⟨rfl, hr3, hb3⟩
      have HB3 := Lib.hid (HB2.out.trans (hb3.mono HB2.out.size))
      have hr5 := hr3.words (n := size) (by rw [HSL.out]; exact Nat.le_refl _) HSU.out
      rw [List.take_of_length_le (by rw [HSL.out]; exact Nat.le_refl _)] at hr5
      have HG := Lib.hid (get_may (some ⟨w2.heap.size, 0, none⟩) size size b S w3 hr5 (Nat.le_refl _) (Nat.le_refl _) k1 k2 (by omega))
      clear hr3 hb3 hr5
      go_wp2_with fail
      refine HG.out.mono ?_
      rintro e w4 (⟨ho, rfl, hb4⟩ | ⟨ho, _⟩)
      · have HB4 := Lib.hid (HB3.out.trans (hb4.mono HB3.out.size))
        clear ho hb4
        go_wp2
        go_ret
        exact ⟨rfl, HB4.out⟩
      · rw [HE.out] at ho; cases ho
  · have HP1 := Lib.hid (fun w => put_no a1 a 1 a0 len0 cap0 w hok)
    clear hok hl
    go_enter Try.func7, Try.ntmps7
    go_wp2
    go_quiet (fail)
    go_wp2_with fail
    refine (awake_any _).mono ?_; rintro e w2 ⟨rfl, hb2⟩
    have HB2 := Lib.hid ((below_drewN hbw _).trans (hb2.mono hbw.size))
    clear hb2
    go_wp2_with fail
    refine (HP1.out w2).mono ?_; rintro e w3 ⟨rfl, rfl⟩
    go_wp2
    go_ret
    exact ⟨rfl, HB2.out⟩

set_option maxRecDepth 100000 in
theorem lifted (os : Os) (started : os.Started) (H : Type) (enc : TypeId × Value → H) :
    ReturnsInHanded {} Try.checked os 7 .any (Rows.sealElseSpec.pre6 enc Try.prog Try.f7 Rows.sealElseRow.domain false) (Rows.sealElseSpec.post enc Try.prog Try.f7 false true false false) := by
  refine returnsInHanded_of_change (C := Try.checked) own started (by kernel_rfl) Try.func7
    (ChangeSpec.witness6 (enc := enc) (C := Try.checked) false ⟨#[], #[.slice none 0 0, .int .i64 0, .agg #[.int .u32 0, .int .u32 0]], []⟩ 8 (by kernel_rfl) (by kernel_rfl) (by kernel_rfl) (by kernel_rfl)) ?_
  intro W base args ds gs before hval0 hW hcnd _
  have hval : ∀ (j : Nat) t v, Try.f7.params[j]? = some t → args[j]? = some v → Value.okWide Try.prog W .any base t v := hval0
  have hW' := hW
  obtain ⟨p, q, hA0, hV, rfl, hfz, hnd⟩ := hW
  have hA : DataW.TrodAll enc Try.prog W 0 (fun _ => true) true Try.f7.params.toList args.toList ds p := hA0
  rw [Try.params7] at hA hval
  obtain ⟨v0, vs0, d0, ds0, p0, q0, hargs, rfl, rfl, h0, r0⟩ := trodAll_cons hA
  obtain ⟨v1, vs1, d1, ds1, p1, q1, rfl, rfl, rfl, h1, r1⟩ := trodAll_cons r0
  obtain ⟨v2, vs2, d2, ds2, p2, q2, rfl, rfl, rfl, h2, r2⟩ := trodAll_cons r1
  obtain ⟨rfl, rfl, rfl⟩ := trodAll_nil r2
  obtain rfl : args = #[v0, v1, v2] := by cases args; simp_all
  obtain ⟨rfl, rfl⟩ := trodVars_none hV
  have k0 := h0
  have lt0 : ∀ x ∈ p0, x.block < W.heap.size := by obtain ⟨m, hm⟩ := k0; exact DataW.trod_lt m _ _ _ hm
  have k1 := h1
  have lt1 : ∀ x ∈ p1, x.block < W.heap.size := by obtain ⟨m, hm⟩ := k1; exact DataW.trod_lt m _ _ _ hm
  have k2 := h2
  have lt2 : ∀ x ∈ p2, x.block < W.heap.size := by obtain ⟨m, hm⟩ := k2; exact DataW.trod_lt m _ _ _ hm
  obtain ⟨a0, len0, cap0, rfl⟩ := okWide_slice Try.underlying24 (hval 0 24 v0 rfl rfl)
  obtain ⟨z0, w0⟩ : ∃ zs, IsRow .u64 W a0 len0 cap0 zs := by
    obtain ⟨fuel, hf⟩ := h0
    rcases open_ints Try.underlying24 Try.underlying23 (by kernel_rfl) hf with ⟨hcs, _⟩ | ⟨x, l, c, zs, hcs, _, hl, hm, hz, _, hcell, hwz⟩
    · simp [Value.cells] at hcs
      obtain ⟨rfl, rfl, rfl⟩ := hcs
      exact ⟨[], .inl ⟨rfl, rfl, rfl, rfl⟩⟩
    · simp [Value.cells] at hcs
      obtain ⟨rfl, rfl, rfl⟩ := hcs
      exact ⟨zs, .inr ⟨_, rfl, hl, hm, by simpa using hz, hcell, hwz⟩⟩
  obtain ⟨a1, rfl, rfl, rfl, w1⟩ := open_int Try.underlying3 (hval 1 3 v1 rfl rfl) h1
  obtain ⟨a2_0, a2_1, rfl, w2_0, w2_1⟩ := open_arr2 Try.underlying40 Try.underlying39 (by kernel_rfl) (by kernel_rfl) (hval 2 40 v2 rfl rfl) h2
  clear hA0 hval0
  refine (walk a0 len0 cap0 z0 a1 a2_0 a2_1 W w0 w1 w2_0 w2_1).mono fun e W' ⟨he, bel⟩ => ?_
  subst he
  exact ⟨_, rfl, _, _, _, [], _, [], hW', trodAll_mk1 (shut_bool Try.underlying4 _), (trodAll_cons_mk (Below.trod laidOut (by kernel_rfl) (of_decide_eq_true (by kernel_rfl)) k0 bel lt0) (trodAll_cons_mk (Below.trod laidOut (by kernel_rfl) (of_decide_eq_true (by kernel_rfl)) k1 bel lt1) (trodAll_cons_mk (Below.trod laidOut (by kernel_rfl) (of_decide_eq_true (by kernel_rfl)) k2 bel lt2) trodAll_mk0))), rfl, bel.frame _, fun h => by cases h⟩

theorem over : Rows.sealElseRow.holds Try.pinned (OpenSpec.ofChange Rows.sealElseSpec) :=
  OpenClaim.holds_of_wide 7 Try.f7 rfl rfl rfl rfl rfl rfl rfl ⟨rfl, rfl, rfl, rfl, rfl⟩ rfl rfl rfl rfl rfl (by kernel_rfl) Try.func7 (by kernel_rfl)
    (of_decide_eq_true (by kernel_rfl)) (by unfold Func.isWrapper; first | (rw [if_pos (by decide +kernel)]; kernel_rfl) | (rw [if_neg (by decide +kernel)]; exact ⟨rfl, rfl⟩))
    (fun os started H enc _ => lifted os started H enc)

theorem proved : Rows.SealElseSaid := over
end Go.Proofs.Ytfihbfpdfkeppaa.sealElse
