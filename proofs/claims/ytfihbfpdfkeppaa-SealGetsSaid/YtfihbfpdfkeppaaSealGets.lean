/-
  SealGets: whatever the block and address, seal.Get answers what the reference answers; no condition.
-/
import Derived.Test.YtfihbfpdfkeppaaRows
import Derived.Test.YtfihbfpdfkeppaaSealLaw
import Derived.WalkKit
import Derived.ProofKit
import Derived.OpenShut
import Derived.ShutString
import Derived.ChangeOld
import Derived.Below
namespace Go.Proofs.Ytfihbfpdfkeppaa.sealGets
open Go.ChangeShapes Go.WideShapes Go.ChangeAt Go.RowKit
open Go.ChangeMaps (open_string shut_string)
set_option linter.unusedVariables false

theorem own : ownKnob Try.prog.godebug = none := by kernel_rfl
theorem laidOut : laidOutB Try.prog = true := by kernel_rfl


set_option maxHeartbeats 4000000 in
set_option maxRecDepth 100000 in
theorem walk (a0 : Option Addr) (len0 cap0 : Nat) (z0 : List Int) (a1 : Int) (w : World) (w0 : IsRow .u64 w a0 len0 cap0 z0) (w1 : (Lit.int .i64 a1).wf = true) :
    Calls Try.prog 4 #[.slice a0 len0 cap0, .int .i64 a1] w fun e w' => e = .returned (.bool true) ∧ Below w.heap.size w w' := by
  obtain ⟨l, hl⟩ := w0.reads u64_nonneg
  have hcap := w0.cap.1
  clear w0
  have hb1 := i64_bounds w1
  clear w1
  by_cases hbig : 1000 < len0
  · have g1 : decide (1000 < len0) = true := by simp; omega
    go_enter Try.func4, Try.ntmps4
    go_wp2_with fail
    refine (awake_any _).mono ?_; rintro e w2 ⟨rfl, hb⟩
    go_wp2_with fail
    refine (awake_any _).mono ?_; rintro e w3 ⟨rfl, hb3⟩
    go_wp2
    go_ret
    exact ⟨rfl, hb.trans (hb3.mono hb.size)⟩
  have g1 : decide (1000 < len0) = false := by simp; omega
  have HNIL : Hid (∀ w, _) := fun w => wsame_any none none 0 0 0 0 [] [] w (nil_reads w 0) (nil_reads w 0) (by omega)
  by_cases hm : 8 ≤ len0 ∧ len0 ≤ 256 ∧ 0 ≤ a1
  · obtain ⟨h1, h2, h3⟩ := hm
    obtain ⟨ad, rfl⟩ := Int.eq_ofNat_of_zero_le h3
    have had : ad ≤ 9223372036854775807 := by omega
    clear h3 hb1
    have HL := Lib.hid hl
    have HG1 : Hid (∀ w2, Below w.heap.size w w2 → _) := fun w2 (hb : Below w.heap.size w w2) => get_may a0 len0 cap0 ad l w2 (hl.keep hb) hb.size hcap h1 h2 had
    have HG2 : Hid (∀ w2, Below w.heap.size w w2 → _) := fun w2 (hb : Below w.heap.size w w2) => rget_may a0 len0 cap0 ad l w2 (hl.keep hb) hb.size hcap h1 h2 had
    clear hl
    have hnum : okW l ad = true → numW l - 1 ≤ len0 := fun h => by have := (ok_parts HL.out.1 (by omega) h).2.1; omega
    have HNUM := Lib.hid hnum
    clear hnum
    go_enter Try.func4, Try.ntmps4
    go_wp2_with fail
    refine (awake_any _).mono ?_; rintro e w2 ⟨rfl, hb2⟩
    have HB2 := Lib.hid hb2
    clear hb2
    go_wp2_with fail
    refine (HG1.out w2 HB2.out).mono ?_
    rintro e w3 (⟨ho, rfl, hb3⟩ | ⟨ho, v, rfl, hown, hb3⟩)
    · have HB3 := Lib.hid (HB2.out.trans (hb3.mono HB2.out.size))
      have HO := Lib.hid ho
      clear hb3 ho
      go_wp2_with fail
      refine (HG2.out w3 HB3.out).mono ?_
      rintro e w4 (⟨ho, rfl, hb4⟩ | ⟨ho, _⟩)
      · have HB4 := Lib.hid (HB3.out.trans (hb4.mono HB3.out.size))
        clear hb4 ho
        go_wp2_with fail
        refine (HNIL.out _).mono ?_; rintro e w5 ⟨rfl, m, rfl⟩
        go_wp2
        go_ret
        exact ⟨rfl, below_drewN HB4.out m⟩
      · rw [HO.out] at ho; cases ho
    · have HB3 := Lib.hid (HB2.out.trans (hb3.mono HB2.out.size))
      have HO := Lib.hid ho
      have hpl := HL.out.take (m := numW l - 1) (HNUM.out ho)
      obtain ⟨A, cA, rfl, hr3, _⟩ := own_reads hown hpl.2.1
      have HR3 := Lib.hid hr3
      have HPL := Lib.hid hpl
      have hn1 : numW l - 1 ≤ 1000 := by have := HNUM.out ho; omega
      generalize tagW l = tg at *
      generalize l.take (numW l - 1) = pl at *
      generalize numW l - 1 = p at *
      clear hown hb3 ho hr3 hpl
      go_wp2_with fail
      refine (HG2.out w3 HB3.out).mono ?_
      rintro e w4 (⟨ho, _⟩ | ⟨ho, rfl, hb4⟩)
      · rw [HO.out] at ho; cases ho
      · have HB4 := Lib.hid (HB3.out.trans (hb4.mono HB3.out.size))
        have hsame := wsame_any A a0 p p cA cap0 pl pl w4 (HR3.out.keep hb4) (HPL.out.keep HB4.out) (by omega)
        rw [decide_eq_true rfl] at hsame
        have HS := Lib.hid hsame
        clear hsame hb4 ho
        go_wp2_with fail
        refine HS.out.mono ?_; rintro e w5 ⟨rfl, m, rfl⟩
        go_wp2
        go_ret
        exact ⟨rfl, below_drewN HB4.out m⟩
  · have hmay : mayW len0 a1 = false := by
      unfold mayW
      rw [Bool.eq_false_iff]; intro h; simp at h; omega
    have HG1 := Lib.hid (fun w => get_arg a0 len0 cap0 a1 w hmay)
    have HG2 := Lib.hid (fun w => rget_arg a0 len0 cap0 a1 w hmay)
    clear hmay hm hl
    go_enter Try.func4, Try.ntmps4
    go_wp2_with fail
    refine (awake_any _).mono ?_; rintro e w2 ⟨rfl, hb2⟩
    have HB2 := Lib.hid hb2
    clear hb2
    go_wp2_with fail
    refine (HG1.out w2).mono ?_; rintro e w3 ⟨rfl, rfl⟩
    go_wp2_with fail
    refine (HG2.out w2).mono ?_; rintro e w3 ⟨rfl, rfl⟩
    go_wp2_with fail
    refine (HNIL.out _).mono ?_; rintro e w5 ⟨rfl, m, rfl⟩
    go_wp2
    go_ret
    exact ⟨rfl, below_drewN HB2.out m⟩

set_option maxRecDepth 100000 in
theorem lifted (os : Os) (started : os.Started) (H : Type) (enc : TypeId × Value → H) :
    ReturnsInHanded {} Try.checked os 4 .any (Rows.sealGetsSpec.pre6 enc Try.prog Try.f4 Rows.sealGetsRow.domain false) (Rows.sealGetsSpec.post enc Try.prog Try.f4 false true false false) := by
  refine returnsInHanded_of_change (C := Try.checked) own started (by kernel_rfl) Try.func4
    (ChangeSpec.witness6 (enc := enc) (C := Try.checked) false ⟨#[], #[.slice none 0 0, .int .i64 0], []⟩ 8 (by kernel_rfl) (by kernel_rfl) (by kernel_rfl) (by kernel_rfl)) ?_
  intro W base args ds gs before hval0 hW hcnd _
  have hval : ∀ (j : Nat) t v, Try.f4.params[j]? = some t → args[j]? = some v → Value.okWide Try.prog W .any base t v := hval0
  have hW' := hW
  obtain ⟨p, q, hA0, hV, rfl, hfz, hnd⟩ := hW
  have hA : DataW.TrodAll enc Try.prog W 0 (fun _ => true) true Try.f4.params.toList args.toList ds p := hA0
  rw [Try.params4] at hA hval
  obtain ⟨v0, vs0, d0, ds0, p0, q0, hargs, rfl, rfl, h0, r0⟩ := trodAll_cons hA
  obtain ⟨v1, vs1, d1, ds1, p1, q1, rfl, rfl, rfl, h1, r1⟩ := trodAll_cons r0
  obtain ⟨rfl, rfl, rfl⟩ := trodAll_nil r1
  obtain rfl : args = #[v0, v1] := by cases args; simp_all
  obtain ⟨rfl, rfl⟩ := trodVars_none hV
  have k0 := h0
  have lt0 : ∀ x ∈ p0, x.block < W.heap.size := by obtain ⟨m, hm⟩ := k0; exact DataW.trod_lt m _ _ _ hm
  have k1 := h1
  have lt1 : ∀ x ∈ p1, x.block < W.heap.size := by obtain ⟨m, hm⟩ := k1; exact DataW.trod_lt m _ _ _ hm
  obtain ⟨a0, len0, cap0, rfl⟩ := okWide_slice Try.underlying24 (hval 0 24 v0 rfl rfl)
  obtain ⟨z0, w0⟩ : ∃ zs, IsRow .u64 W a0 len0 cap0 zs := by
    obtain ⟨fuel, hf⟩ := h0
    rcases open_ints Try.underlying24 Try.underlying23 (by kernel_rfl) hf with ⟨hcs, _⟩ | ⟨x, l, c, zs, hcs, _, hl, hm, hz, _, hcell, hwz⟩
    · simp [Value.cells] at hcs
      obtain ⟨rfl, rfl, rfl⟩ := hcs
      exact ⟨[], .inl ⟨rfl, rfl, rfl, rfl⟩⟩
    · simp [Value.cells] at hcs
      obtain ⟨rfl, rfl, rfl⟩ := hcs
      exact ⟨zs, .inr ⟨_, rfl, hl, hm, by simpa using hz, hcell, hwz⟩⟩
  obtain ⟨a1, rfl, rfl, rfl, w1⟩ := open_int Try.underlying3 (hval 1 3 v1 rfl rfl) h1
  clear hA0 hval0
  refine (walk a0 len0 cap0 z0 a1 W w0 w1).mono fun e W' ⟨he, bel⟩ => ?_
  subst he
  exact ⟨_, rfl, _, _, _, [], _, [], hW', trodAll_mk1 (shut_bool Try.underlying4 _), (trodAll_cons_mk (Below.trod laidOut (by kernel_rfl) (of_decide_eq_true (by kernel_rfl)) k0 bel lt0) (trodAll_cons_mk (Below.trod laidOut (by kernel_rfl) (of_decide_eq_true (by kernel_rfl)) k1 bel lt1) trodAll_mk0)), rfl, bel.frame _, fun h => by cases h⟩

theorem over : Rows.sealGetsRow.holds Try.pinned (OpenSpec.ofChange Rows.sealGetsSpec) :=
  OpenClaim.holds_of_wide 4 Try.f4 rfl rfl rfl rfl rfl rfl rfl ⟨rfl, rfl, rfl, rfl, rfl⟩ rfl rfl rfl rfl rfl (by kernel_rfl) Try.func4 (by kernel_rfl)
    (of_decide_eq_true (by kernel_rfl)) (by unfold Func.isWrapper; first | (rw [if_pos (by decide +kernel)]; kernel_rfl) | (rw [if_neg (by decide +kernel)]; exact ⟨rfl, rfl⟩))
    (fun os started H enc _ => lifted os started H enc)

theorem proved : Rows.SealGetsSaid := over
end Go.Proofs.Ytfihbfpdfkeppaa.sealGets
