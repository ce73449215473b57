/-
  ManifestBack: whatever size and entries, what is saved is loaded as it was, with its generation, and the next generation is greater; no condition.
-/
import Derived.Test.YthdibijkiogpjaaRows
import Derived.Test.YthdibijkiogpjaaManBack
import Derived.WalkKit
import Derived.ProofKit
import Derived.OpenShut
import Derived.ShutString
import Derived.ChangeOld
import Derived.Below
namespace Go.Proofs.Ythdibijkiogpjaa.manifestBack
open Go.ChangeShapes Go.WideShapes Go.ChangeAt Go.RowKit
open Go.ChangeMaps (open_string shut_string)
set_option linter.unusedVariables false

theorem own : ownKnob Try.prog.godebug = none := by kernel_rfl
theorem laidOut : laidOutB Try.prog = true := by kernel_rfl


set_option maxHeartbeats 4000000 in
set_option maxRecDepth 100000 in
theorem walk (a0 : Int) (a1 : Option Addr) (len1 cap1 : Nat) (l1 : List Ent) (a2 : Option Addr) (len2 cap2 : Nat) (l2 : List Ent) (w : World) (w0 : (Lit.int .u8 a0).wf = true) (wr1 : ReadsN w w.heap.size a1 len1 l1) (wm1 : len1 ≤ maxLen) (wr2 : ReadsN w w.heap.size a2 len2 l2) (wm2 : len2 ≤ maxLen) :
    Calls Try.prog 5 #[.int .u8 a0, .slice a1 len1 cap1, .slice a2 len2 cap2] w fun e w' => e = .returned (.bool true) ∧ Below w.heap.size w w' := by
  obtain ⟨a, rfl⟩ := Int.eq_ofNat_of_zero_le (show 0 ≤ a0 by have := bounds_u8 w0; omega)
  have ha8 := u8_lt w0
  have R1 := Lib.hid wr1
  have R2 := Lib.hid wr2
  have M1 := Lib.hid wm1
  have M2 := Lib.hid wm2
  clear wr1 wr2 w0 wm1 wm2
  go_enter Try.func5, Try.ntmps5
  go_wp2_with fail
  refine (awake_any _).mono ?_; rintro e w2 ⟨rfl, hb2⟩
  have HB2 := Lib.hid hb2
  clear hb2
  go_wp2_with fail
  refine (few_any a1 len1 cap1 l1 w2 (R1.out.keep HB2.out) M1.out).mono ?_
  rintro e w3 ⟨v, rfl, rfl, r1, rfl, hr1⟩
  have HR1 := Lib.hid hr1
  clear hr1
  cases r1
  · go_wp2_with fail
    refine (awake_any _).mono ?_; rintro e w4 ⟨rfl, hb4⟩
    go_wp2
    go_ret
    exact ⟨rfl, HB2.out.trans (hb4.mono HB2.out.size)⟩
  have hl20 := HR1.out rfl
  go_wp2_with fail
  refine (few_any a2 len2 cap2 l2 w3 (R2.out.keep HB2.out) M2.out).mono ?_
  rintro e w4 ⟨v, rfl, rfl, r2, rfl, hr2⟩
  have HR2 := Lib.hid hr2
  clear hr2
  cases r2
  · go_wp2_with fail
    refine (awake_any _).mono ?_; rintro e w5 ⟨rfl, hb4⟩
    go_wp2
    go_ret
    exact ⟨rfl, HB2.out.trans (hb4.mono HB2.out.size)⟩
  have hm20 := HR2.out rfl
  go_wp2_with fail
  refine (formed_any a1 len1 cap1 l1 w4 (R1.out.keep HB2.out) HB2.out.size M1.out).mono ?_
  rintro e w5 ⟨rfl, hb5⟩
  have HB5 := Lib.hid (HB2.out.trans (hb5.mono HB2.out.size))
  clear hb5
  by_cases hf1 : FormedP l1
  · rw [decide_eq_true hf1]
    go_wp2_with fail
    refine (formed_any a2 len2 cap2 l2 w5 (R2.out.keep HB5.out) HB5.out.size M2.out).mono ?_
    rintro e w6 ⟨rfl, hb6⟩
    have HB6 := Lib.hid (HB5.out.trans (hb6.mono HB5.out.size))
    clear hb6
    by_cases hf2 : FormedP l2
    · rw [decide_eq_true hf2]
      have HF1 := Lib.hid hf1
      have HF2 := Lib.hid hf2
      clear hf1 hf2
      obtain ⟨q, hq⟩ : ∃ q, q = a % 200 := ⟨_, rfl⟩
      obtain ⟨size, hsz⟩ : ∃ size, size = 8 + q := ⟨_, rfl⟩
      have hb200 : size ≤ 207 ∧ 8 ≤ size := by omega
      have hmod : (a : Int) % 200 = (q : Int) := by omega
      have hadd : 8 + (q : Int) = (size : Int) := by omega
      have hql : q < 200 := by omega
      obtain ⟨hk0, hk11, hk62⟩ := slot_pos hb200.2 (by omega)
      obtain ⟨k, hk⟩ : ∃ k, k = slotE size := ⟨_, rfl⟩
      have HSL : Hid (∀ W, Calls Try.prog 12 #[.int .i64 (size : Int)] W fun e w' => e = .returned (.int .i64 (k : Int)) ∧ W = w') := fun W => by
        have hs := slot_any (size : Int) W
        rw [if_pos (by omega), Int.toNat_natCast, ← hk] at hs; exact hs
      rw [← hk] at hk0 hk11 hk62
      have hkk : 2 * (k : Int) ≤ 22 := by omega
      obtain ⟨s1, s2, s3, HC⟩ := back_case hk hb200.2 (by omega) HF1.out HF2.out
      have HC := Lib.hid HC
      have HSZ : Hid (slotE size = k) := hk.symm
      clear hq hsz hk
      go_wp2_with fail
      refine (HSL.out _).mono ?_; rintro e w7 ⟨rfl, rfl⟩
      go_wp2_with fail
      refine (run_new size (2 * (k : Int)) HB6.out (by omega) (by omega)).mono ?_
      rintro e w8 ⟨p, G, rfl, hrun8⟩
      go_wp2_with fail
      refine (ready_save hrun8 (good_fresh (size := size) (k := k) (Int.le_refl _) fun _ => []).ready HSZ.out hk11 1 a1 len1 cap1 l1 (by omega) R1.out M1.out HF1.out ⟨by omega, by omega⟩ HC.out.1).mono ?_
      rintro e w9 ⟨rfl, G9, hrun9⟩
      clear hrun8
      go_wp2_with fail
      refine (ready_save hrun9 HC.out.2.1 HSZ.out hk11 2 a2 len2 cap2 l2 (by omega) R2.out M2.out HF2.out ⟨by omega, by omega⟩ HC.out.2.2.1).mono ?_
      rintro e w10 ⟨rfl, G10, hrun10⟩
      clear hrun9
      go_wp2_with fail
      refine (ready_load hrun10 HC.out.2.2.2.1 HSZ.out hk11 (by omega) HC.out.2.2.2.2.1).mono ?_
      rintro e w11 ⟨v11, rfl, ho11, hrun11⟩
      obtain ⟨A11, c11, rfl, hr11⟩ := told ho11 (formed_ok HF2.out)
      have hm12 := HF2.out.1
      have hl12 := HF1.out.1
      clear hrun10 ho11
      go_wp2_with fail
      refine (plain_any A11 l2.length c11 l2 w11 hr11 (Nat.le_refl _) (by omega)).mono ?_
      rintro e w12 ⟨v12, rfl, ho12, hb12⟩
      have hrun12 := hrun11.below hb12
      obtain ⟨A12, c12, rfl, hr12⟩ := told ho12 (formed_ok HF2.out)
      clear ho12 hb12 hr11 hrun11
      go_wp2_with fail
      refine (plain_any a2 len2 cap2 l2 w12 (R2.out.keep hrun12.1) hrun12.1.size (by omega)).mono ?_
      rintro e w13 ⟨v13, rfl, ho13, hb13⟩
      have hrun13 := hrun12.below hb13
      have hr12 := hr12.keep hb13
      obtain ⟨A13, c13, rfl, hr13⟩ := told ho13 (formed_ok HF2.out)
      clear ho13 hb13 hrun12
      go_wp2_with fail
      refine (rsame_any A12 A13 l2.length len2 c12 c13 l2 l2 w13 hr12 hr13 (by omega)).mono ?_
      rintro e w14 ⟨rfl, q14, rfl⟩
      rw [decide_eq_true rfl]
      have hrun14 := hrun13.below (below_drewN (Below.refl _ w13) q14)
      generalize w13.drewN q14 = w14 at *
      clear hr12 hr13 hrun13
      go_wp2_with fail
      refine (ready_save hrun14 (s' := { s3 with acts := s3.acts + (s2.acts + ((2 * k : Nat) : Int) - s2.acts) }) HC.out.2.2.2.1 HSZ.out hk11 5 a1 len1 cap1 l1 (by omega) R1.out M1.out HF1.out ⟨by omega, by omega⟩ (HC.out.2.2.2.2.2.1 _)).mono ?_
      rintro e w15 ⟨rfl, G15, hrun15⟩
      clear hrun14
      go_wp2_with fail
      refine (ready_load hrun15 (l := l1) (g := 5) (nx := 6) HC.out.2.2.2.2.2.2.1 HSZ.out hk11 (by omega) HC.out.2.2.2.2.2.2.2).mono ?_
      rintro e w16 ⟨v16, rfl, ho16, hrun16⟩
      obtain ⟨A16, c16, rfl, hr16⟩ := told ho16 (formed_ok HF1.out)
      clear hrun15 ho16
      go_wp2_with fail
      refine (plain_any A16 l1.length c16 l1 w16 hr16 (Nat.le_refl _) (by omega)).mono ?_
      rintro e w17 ⟨v17, rfl, ho17, hb17⟩
      have hrun17 := hrun16.below hb17
      obtain ⟨A17, c17, rfl, hr17⟩ := told ho17 (formed_ok HF1.out)
      clear ho17 hb17 hr16 hrun16
      go_wp2_with fail
      refine (plain_any a1 len1 cap1 l1 w17 (R1.out.keep hrun17.1) hrun17.1.size (by omega)).mono ?_
      rintro e w18 ⟨v18, rfl, ho18, hb18⟩
      have hrun18 := hrun17.below hb18
      have hr17 := hr17.keep hb18
      obtain ⟨A18, c18, rfl, hr18⟩ := told ho18 (formed_ok HF1.out)
      clear ho18 hb18 hrun17
      go_wp2_with fail
      refine (rsame_any A17 A18 l1.length len1 c17 c18 l1 l1 w18 hr17 hr18 (by omega)).mono ?_
      rintro e w19 ⟨rfl, q19, rfl⟩
      rw [decide_eq_true rfl]
      have HEND : Hid (Below w.heap.size w (w18.drewN q19)) := below_drewN hrun18.1 q19
      clear hr17 hr18 hrun18
      go_wp2
      go_ret
      exact ⟨rfl, HEND.out⟩
    · rw [decide_eq_false hf2]
      go_wp2_with fail
      refine (awake_any _).mono ?_; rintro e w7 ⟨rfl, hb4⟩
      go_wp2
      go_ret
      exact ⟨rfl, HB6.out.trans (hb4.mono HB6.out.size)⟩
  · rw [decide_eq_false hf1]
    go_wp2_with fail
    refine (awake_any _).mono ?_; rintro e w6 ⟨rfl, hb4⟩
    go_wp2
    go_ret
    exact ⟨rfl, HB5.out.trans (hb4.mono HB5.out.size)⟩

set_option maxRecDepth 100000 in
theorem lifted (os : Os) (started : os.Started) (H : Type) (enc : TypeId × Value → H) :
    ReturnsInHanded {} Try.checked os 5 .any (Rows.manifestBackSpec.pre6 enc Try.prog Try.f5 Rows.manifestBackRow.domain false) (Rows.manifestBackSpec.post enc Try.prog Try.f5 false true false false) := by
  refine returnsInHanded_of_change (C := Try.checked) own started (by kernel_rfl) Try.func5
    (ChangeSpec.witness6 (enc := enc) (C := Try.checked) false ⟨#[], #[.int .u8 0, .slice none 0 0, .slice none 0 0], []⟩ 8 (by kernel_rfl) (by kernel_rfl) (by kernel_rfl) (by kernel_rfl)) ?_
  intro W base args ds gs before hval0 hW hcnd _
  have hval : ∀ (j : Nat) t v, Try.f5.params[j]? = some t → args[j]? = some v → Value.okWide Try.prog W .any base t v := hval0
  have hW' := hW
  obtain ⟨p, q, hA0, hV, rfl, hfz, hnd⟩ := hW
  have hA : DataW.TrodAll enc Try.prog W 0 (fun _ => true) true Try.f5.params.toList args.toList ds p := hA0
  rw [Try.params5] at hA hval
  obtain ⟨v0, vs0, d0, ds0, p0, q0, hargs, rfl, rfl, h0, r0⟩ := trodAll_cons hA
  obtain ⟨v1, vs1, d1, ds1, p1, q1, rfl, rfl, rfl, h1, r1⟩ := trodAll_cons r0
  obtain ⟨v2, vs2, d2, ds2, p2, q2, rfl, rfl, rfl, h2, r2⟩ := trodAll_cons r1
  obtain ⟨rfl, rfl, rfl⟩ := trodAll_nil r2
  obtain rfl : args = #[v0, v1, v2] := by cases args; simp_all
  obtain ⟨rfl, rfl⟩ := trodVars_none hV
  have k0 := h0
  have lt0 : ∀ x ∈ p0, x.block < W.heap.size := by obtain ⟨m, hm⟩ := k0; exact DataW.trod_lt m _ _ _ hm
  have k1 := h1
  have lt1 : ∀ x ∈ p1, x.block < W.heap.size := by obtain ⟨m, hm⟩ := k1; exact DataW.trod_lt m _ _ _ hm
  have k2 := h2
  have lt2 : ∀ x ∈ p2, x.block < W.heap.size := by obtain ⟨m, hm⟩ := k2; exact DataW.trod_lt m _ _ _ hm
  obtain ⟨a0, rfl, rfl, rfl, w0⟩ := open_int Try.underlying5 (hval 0 5 v0 rfl rfl) h0
  obtain ⟨a1, len1, cap1, rfl⟩ := okWide_slice Try.underlying22 (hval 1 22 v1 rfl rfl)
  obtain ⟨l1, wr1, wm1⟩ : ∃ l1, ReadsN W W.heap.size a1 len1 l1 ∧ len1 ≤ maxLen := by
    obtain ⟨fuel1, hf1⟩ := h1
    obtain ⟨a', len', cap', l', he', hr', hm'⟩ := open_entries Try.underlying22 Try.underlying54 (by kernel_rfl) (by kernel_rfl) Try.underlying3 Try.underlying9 rfl rfl rfl rfl rfl hf1
    injection he' with e1 e2 e3
    subst e1; subst e2
    exact ⟨l', hr', hm'⟩
  obtain ⟨a2, len2, cap2, rfl⟩ := okWide_slice Try.underlying22 (hval 2 22 v2 rfl rfl)
  obtain ⟨l2, wr2, wm2⟩ : ∃ l2, ReadsN W W.heap.size a2 len2 l2 ∧ len2 ≤ maxLen := by
    obtain ⟨fuel2, hf2⟩ := h2
    obtain ⟨a', len', cap', l', he', hr', hm'⟩ := open_entries Try.underlying22 Try.underlying54 (by kernel_rfl) (by kernel_rfl) Try.underlying3 Try.underlying9 rfl rfl rfl rfl rfl hf2
    injection he' with e1 e2 e3
    subst e1; subst e2
    exact ⟨l', hr', hm'⟩
  clear hA0 hval0
  refine (walk a0 a1 len1 cap1 l1 a2 len2 cap2 l2 W w0 wr1 wm1 wr2 wm2).mono fun e W' ⟨he, bel⟩ => ?_
  subst he
  exact ⟨_, rfl, _, _, _, [], _, [], hW', trodAll_mk1 (shut_bool Try.underlying4 _), (trodAll_cons_mk (Below.trod laidOut (by kernel_rfl) (of_decide_eq_true (by kernel_rfl)) k0 bel lt0) (trodAll_cons_mk (Below.trod laidOut (by kernel_rfl) (of_decide_eq_true (by kernel_rfl)) k1 bel lt1) (trodAll_cons_mk (Below.trod laidOut (by kernel_rfl) (of_decide_eq_true (by kernel_rfl)) k2 bel lt2) trodAll_mk0))), rfl, bel.frame _, fun h => by cases h⟩

theorem over : Rows.manifestBackRow.holds Try.pinned (OpenSpec.ofChange Rows.manifestBackSpec) :=
  OpenClaim.holds_of_wide 5 Try.f5 rfl rfl rfl rfl rfl rfl rfl ⟨rfl, rfl, rfl, rfl, rfl⟩ rfl rfl rfl rfl rfl (by kernel_rfl) Try.func5 (by kernel_rfl)
    (of_decide_eq_true (by kernel_rfl)) (by unfold Func.isWrapper; first | (rw [if_pos (by decide +kernel)]; kernel_rfl) | (rw [if_neg (by decide +kernel)]; exact ⟨rfl, rfl⟩))
    (fun os started H enc _ => lifted os started H enc)

theorem proved : Rows.ManifestBackSaid := over
end Go.Proofs.Ythdibijkiogpjaa.manifestBack
