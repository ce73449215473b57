/-
  SealPuts: whatever the size, address, tag and payload, seal.Put answers what the reference answers; no condition.
-/
import Derived.Test.YtfihbfpdfkeppaaRows
import Derived.Test.YtfihbfpdfkeppaaSealLaw
import Derived.WalkKit
import Derived.ProofKit
import Derived.OpenShut
import Derived.ShutString
import Derived.ChangeOld
import Derived.Below
namespace Go.Proofs.Ytfihbfpdfkeppaa.sealPuts
open Go.ChangeShapes Go.WideShapes Go.ChangeAt Go.RowKit
open Go.ChangeMaps (open_string shut_string)
set_option linter.unusedVariables false

theorem own : ownKnob Try.prog.godebug = none := by kernel_rfl
theorem laidOut : laidOutB Try.prog = true := by kernel_rfl


set_option maxHeartbeats 4000000 in
set_option maxRecDepth 100000 in
theorem walk (a0_0 a0_1 : Int) (a1 : Int) (a2 : Option Addr) (len2 cap2 : Nat) (z2 : List Int) (w : World) (w0_0 : (Lit.int .i64 a0_0).wf = true) (w0_1 : (Lit.int .i64 a0_1).wf = true) (w1 : (Lit.int .u64 a1).wf = true) (w2 : IsRow .u64 w a2 len2 cap2 z2) :
    Calls Try.prog 3 #[.agg #[.int .i64 a0_0, .int .i64 a0_1], .int .u64 a1, .slice a2 len2 cap2] w fun e w' => e = .returned (.bool true) ∧ Below w.heap.size w w' := by
  obtain ⟨l, hl⟩ := w2.reads u64_nonneg
  clear w2
  obtain ⟨tag, rfl⟩ := Int.eq_ofNat_of_zero_le (u64_nonneg a1 w1)
  have htag := u64_lt w1
  have hb0 := i64_bounds w0_0
  have hb1 := i64_bounds w0_1
  have hbw : Below w.heap.size w (w.alloc (.cells #[.int .i64 a0_0, .int .i64 a0_1] 22)) := (Below.refl _ _).alloc (Nat.le_refl _) _
  clear w0_0 w0_1 w1
  by_cases hbig : 1000 < len2
  · have g1 : decide (1000 < len2) = true := by simp; omega
    go_enter Try.func3, Try.ntmps3
    go_wp2
    go_quiet (fail)
    go_wp2_with fail
    refine (awake_any _).mono ?_; rintro e w2 ⟨rfl, hb2⟩
    go_wp2_with fail
    refine (awake_any _).mono ?_; rintro e w3 ⟨rfl, hb3⟩
    go_wp2
    go_ret
    exact ⟨rfl, ((below_drewN hbw _).trans (hb2.mono hbw.size)).trans (hb3.mono ((below_drewN hbw _).trans (hb2.mono hbw.size)).size)⟩
  have g1 : decide (1000 < len2) = false := by simp; omega
  by_cases hok : 8 ≤ a0_0 ∧ a0_0 ≤ 256 ∧ 0 ≤ a0_1 ∧ (len2 : Int) ≤ a0_0 - 2
  · obtain ⟨h1, h2, h3, h4⟩ := hok
    obtain ⟨size, rfl⟩ := Int.eq_ofNat_of_zero_le (show 0 ≤ a0_0 by omega)
    obtain ⟨ad, rfl⟩ := Int.eq_ofNat_of_zero_le h3
    have k1 : 8 ≤ size := by omega
    have k2 : size ≤ 256 := by omega
    have k3 : ad ≤ 9223372036854775807 := by omega
    have k4 : len2 ≤ size - 2 := by omega
    clear h1 h2 h3 h4 hb0 hb1
    have HL := Lib.hid hl
    have HSL := Lib.hid (seal_len (ad := ad) (tag := tag) (pl := l) (size := size) (by rw [hl.1]; exact k4) (by omega))
    have HSU : Hid (∀ x ∈ sealW size ad tag l, (Lit.int .u64 (x : Nat)).wf = true) := fun x hx => u64_wf (seal_u64 (fun y hy => u64_lt (hl.2.1 y hy)) htag (by rw [hl.1]; omega) x hx)
    have HP1 : Hid (∀ w2, Below w.heap.size w w2 → _) := fun w2 (hb : Below w.heap.size w w2) => put_ok size ad tag a2 len2 cap2 l w2 (hl.keep hb) hb.size k1 k2 k3 htag k4
    have HP2 : Hid (∀ w2, Below w.heap.size w w2 → _) := fun w2 (hb : Below w.heap.size w w2) => rput_ok size ad tag a2 len2 cap2 l w2 (hl.keep hb) k1 k2 k3 htag k4
    clear hl
    generalize sealW size ad tag l = S at *
    go_enter Try.func3, Try.ntmps3
    go_wp2
    go_quiet (fail)
    go_wp2_with fail
    refine (awake_any _).mono ?_; rintro e w2 ⟨rfl, hb2⟩
    have HB2 := Lib.hid ((below_drewN hbw _).trans (hb2.mono hbw.size))
    clear hb2
    go_wp2_with fail
    refine (HP1.out w2 HB2.out).mono ?_; rintro e w3 ⟨rfl, hr3, hb3⟩
    have HR3 := Lib.hid hr3
    have HB3 := Lib.hid (HB2.out.trans (hb3.mono HB2.out.size))
    clear hr3 hb3
    go_wp2_with fail
    refine (HP2.out w3 HB3.out).mono ?_; rintro e w4 ⟨v, rfl, hown, hb4⟩
    obtain ⟨A, cA, rfl, hr4, _⟩ := own_reads hown HSU.out
    have hr5 := (HR3.out.below hb4 HR3.out.lt).words (n := size) (by rw [HSL.out]; exact Nat.le_refl _) HSU.out
    rw [List.take_of_length_le (by rw [HSL.out]; exact Nat.le_refl _)] at hr5
    have hsame := wsame_any (some ⟨w2.heap.size, 0, none⟩) A size size size cA S S w4 hr5 hr4 (by omega)
    rw [decide_eq_true rfl] at hsame
    have HS := Lib.hid hsame
    have HB4 := Lib.hid (HB3.out.trans (hb4.mono HB3.out.size))
    clear hown hr4 hr5 hsame hb4
    go_wp2_with fail
    refine HS.out.mono ?_; rintro e w5 ⟨rfl, m, rfl⟩
    go_wp2
    go_ret
    exact ⟨rfl, below_drewN HB4.out m⟩
  · have HP1 := Lib.hid (fun w => put_no a0_0 a0_1 tag a2 len2 cap2 w hok)
    have HP2 := Lib.hid (fun w => rput_no a0_0 a0_1 tag a2 len2 cap2 w hok)
    have HS : Hid (∀ w, _) := fun w => wsame_any none none 0 0 0 0 [] [] w (nil_reads w 0) (nil_reads w 0) (by omega)
    clear hok hl
    go_enter Try.func3, Try.ntmps3
    go_wp2
    go_quiet (fail)
    go_wp2_with fail
    refine (awake_any _).mono ?_; rintro e w2 ⟨rfl, hb2⟩
    have HB2 := Lib.hid ((below_drewN hbw _).trans (hb2.mono hbw.size))
    clear hb2
    go_wp2_with fail
    refine (HP1.out w2).mono ?_; rintro e w3 ⟨rfl, rfl⟩
    go_wp2_with fail
    refine (HP2.out w2).mono ?_; rintro e w3 ⟨rfl, rfl⟩
    go_wp2_with fail
    refine (HS.out _).mono ?_; rintro e w5 ⟨rfl, m, rfl⟩
    go_wp2
    go_ret
    exact ⟨rfl, below_drewN HB2.out m⟩

set_option maxRecDepth 100000 in
theorem lifted (os : Os) (started : os.Started) (H : Type) (enc : TypeId × Value → H) :
    ReturnsInHanded {} Try.checked os 3 .any (Rows.sealPutsSpec.pre6 enc Try.prog Try.f3 Rows.sealPutsRow.domain false) (Rows.sealPutsSpec.post enc Try.prog Try.f3 false true false false) := by
  refine returnsInHanded_of_change (C := Try.checked) own started (by kernel_rfl) Try.func3
    (ChangeSpec.witness6 (enc := enc) (C := Try.checked) false ⟨#[], #[.agg #[.int .i64 0, .int .i64 0], .int .u64 0, .slice none 0 0], []⟩ 8 (by kernel_rfl) (by kernel_rfl) (by kernel_rfl) (by kernel_rfl)) ?_
  intro W base args ds gs before hval0 hW hcnd _
  have hval : ∀ (j : Nat) t v, Try.f3.params[j]? = some t → args[j]? = some v → Value.okWide Try.prog W .any base t v := hval0
  have hW' := hW
  obtain ⟨p, q, hA0, hV, rfl, hfz, hnd⟩ := hW
  have hA : DataW.TrodAll enc Try.prog W 0 (fun _ => true) true Try.f3.params.toList args.toList ds p := hA0
  rw [Try.params3] at hA hval
  obtain ⟨v0, vs0, d0, ds0, p0, q0, hargs, rfl, rfl, h0, r0⟩ := trodAll_cons hA
  obtain ⟨v1, vs1, d1, ds1, p1, q1, rfl, rfl, rfl, h1, r1⟩ := trodAll_cons r0
  obtain ⟨v2, vs2, d2, ds2, p2, q2, rfl, rfl, rfl, h2, r2⟩ := trodAll_cons r1
  obtain ⟨rfl, rfl, rfl⟩ := trodAll_nil r2
  obtain rfl : args = #[v0, v1, v2] := by cases args; simp_all
  obtain ⟨rfl, rfl⟩ := trodVars_none hV
  have k0 := h0
  have lt0 : ∀ x ∈ p0, x.block < W.heap.size := by obtain ⟨m, hm⟩ := k0; exact DataW.trod_lt m _ _ _ hm
  have k1 := h1
  have lt1 : ∀ x ∈ p1, x.block < W.heap.size := by obtain ⟨m, hm⟩ := k1; exact DataW.trod_lt m _ _ _ hm
  have k2 := h2
  have lt2 : ∀ x ∈ p2, x.block < W.heap.size := by obtain ⟨m, hm⟩ := k2; exact DataW.trod_lt m _ _ _ hm
  obtain ⟨a0_0, a0_1, rfl, w0_0, w0_1⟩ := open_arr2 Try.underlying22 Try.underlying3 (by kernel_rfl) (by kernel_rfl) (hval 0 22 v0 rfl rfl) h0
  obtain ⟨a1, rfl, rfl, rfl, w1⟩ := open_int Try.underlying23 (hval 1 23 v1 rfl rfl) h1
  obtain ⟨a2, len2, cap2, rfl⟩ := okWide_slice Try.underlying24 (hval 2 24 v2 rfl rfl)
  obtain ⟨z2, w2⟩ : ∃ zs, IsRow .u64 W a2 len2 cap2 zs := by
    obtain ⟨fuel, hf⟩ := h2
    rcases open_ints Try.underlying24 Try.underlying23 (by kernel_rfl) hf with ⟨hcs, _⟩ | ⟨x, l, c, zs, hcs, _, hl, hm, hz, _, hcell, hwz⟩
    · simp [Value.cells] at hcs
      obtain ⟨rfl, rfl, rfl⟩ := hcs
      exact ⟨[], .inl ⟨rfl, rfl, rfl, rfl⟩⟩
    · simp [Value.cells] at hcs
      obtain ⟨rfl, rfl, rfl⟩ := hcs
      exact ⟨zs, .inr ⟨_, rfl, hl, hm, by simpa using hz, hcell, hwz⟩⟩
  clear hA0 hval0
  refine (walk a0_0 a0_1 a1 a2 len2 cap2 z2 W w0_0 w0_1 w1 w2).mono fun e W' ⟨he, bel⟩ => ?_
  subst he
  exact ⟨_, rfl, _, _, _, [], _, [], hW', trodAll_mk1 (shut_bool Try.underlying4 _), (trodAll_cons_mk (Below.trod laidOut (by kernel_rfl) (of_decide_eq_true (by kernel_rfl)) k0 bel lt0) (trodAll_cons_mk (Below.trod laidOut (by kernel_rfl) (of_decide_eq_true (by kernel_rfl)) k1 bel lt1) (trodAll_cons_mk (Below.trod laidOut (by kernel_rfl) (of_decide_eq_true (by kernel_rfl)) k2 bel lt2) trodAll_mk0))), rfl, bel.frame _, fun h => by cases h⟩

theorem over : Rows.sealPutsRow.holds Try.pinned (OpenSpec.ofChange Rows.sealPutsSpec) :=
  OpenClaim.holds_of_wide 3 Try.f3 rfl rfl rfl rfl rfl rfl rfl ⟨rfl, rfl, rfl, rfl, rfl⟩ rfl rfl rfl rfl rfl (by kernel_rfl) Try.func3 (by kernel_rfl)
    (of_decide_eq_true (by kernel_rfl)) (by unfold Func.isWrapper; first | (rw [if_pos (by decide +kernel)]; kernel_rfl) | (rw [if_neg (by decide +kernel)]; exact ⟨rfl, rfl⟩))
    (fun os started H enc _ => lifted os started H enc)

theorem proved : Rows.SealPutsSaid := over
end Go.Proofs.Ytfihbfpdfkeppaa.sealPuts
