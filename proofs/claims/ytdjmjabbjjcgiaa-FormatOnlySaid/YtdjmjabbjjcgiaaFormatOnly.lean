/-
  FormatOnly: for whatever two graphs; no condition.
-/
import Derived.Test.YtdjmjabbjjcgiaaRows
import Derived.Test.YtdjmjabbjjcgiaaFormatAwake
import Derived.Test.YtdjmjabbjjcgiaaGraphROrd
import Derived.Test.YtdjmjabbjjcgiaaRput
import Derived.WalkKit
import Derived.ProofKit
import Derived.OpenShut
import Derived.ShutString
import Derived.ChangeOld
import Derived.Below
namespace Go.Proofs.Ytdjmjabbjjcgiaa.formatOnly
open Go.ChangeShapes Go.WideShapes Go.ChangeAt Go.RowKit
open Go.ChangeMaps (open_string shut_string)
set_option linter.unusedVariables false

theorem own : ownKnob Try.prog.godebug = none := by kernel_rfl
theorem laidOut : laidOutB Try.prog = true := by kernel_rfl

theorem only_eq {M1 M2 : Nat} {E F : List (Int × Int)} (h : Good M1 0 E) (hN : M1 ≤ 1073741824) (hE : E.length ≤ 1073741824) (h' : Good M2 0 F) (hM : M2 ≤ 1073741824) (hF : F.length ≤ 1073741824) : sameG (M1 : Int) E (M2 : Int) F = decide (enc M1 E = enc M2 F) := by
  unfold sameG eqL
  rw [Bool.eq_iff_iff]
  simp only [Bool.and_eq_true, decide_eq_true_eq]
  constructor
  · rintro ⟨h1, rfl⟩
    obtain rfl : M1 = M2 := by omega
    rfl
  · intro he
    obtain ⟨h1, h2⟩ := enc_inj h hN hE h' hM hF he
    exact ⟨by omega, h2⟩

set_option maxHeartbeats 3200000 in
set_option maxRecDepth 100000 in
theorem walk (N0 : Int) (a0 : Option Addr) (len0 cap0 : Nat) (l0 : List (Int × Int)) (N1 : Int) (a1 : Option Addr) (len1 cap1 : Nat) (l1 : List (Int × Int)) (w : World) (wN0 : I64 N0) (wr0 : ReadsE w w.heap.size a0 len0 l0) (wc0 : len0 ≤ cap0 ∧ cap0 ≤ maxLen) (wN1 : I64 N1) (wr1 : ReadsE w w.heap.size a1 len1 l1) (wc1 : len1 ≤ cap1 ∧ cap1 ≤ maxLen) :
    Calls Try.prog 8 #[.agg #[.int .i64 N0, .slice a0 len0 cap0], .agg #[.int .i64 N1, .slice a1 len1 cap1]] w fun e w' => e = .returned (.bool true) ∧ Below w.heap.size w w' := by
  have hm0 : len0 ≤ 9223372036854775807 := by have := wc0.2; unfold maxLen at this; omega
  have hm1 : len1 ≤ 9223372036854775807 := by have := wc1.2; unfold maxLen at this; omega
  clear wc0 wc1
  have hWA := two_new w (.cells #[.int .i64 N0, .slice a0 len0 cap0] 24) (.cells #[.int .i64 N1, .slice a1 len1 cap1] 24)
  have HWA := Lib.hid hWA
  have hzA : ((w.alloc (.cells #[.int .i64 N0, .slice a0 len0 cap0] 24)).alloc (.cells #[.int .i64 N1, .slice a1 len1 cap1] 24)).heap.size = w.heap.size + 2 := by simp
  have HZA := Lib.hid hzA
  clear hWA hzA
  go_enter Try.func8, Try.ntmps8
  go_wp2_with fail
  refine (awake_any _).mono ?_; rintro e w1 ⟨rfl, hb1⟩
  have HB1 : Hid (Below (w.heap.size + 2) ((w.alloc (.cells #[.int .i64 N0, .slice a0 len0 cap0] 24)).alloc (.cells #[.int .i64 N1, .slice a1 len1 cap1] 24)) w1) := hb1.mono (by rw [HZA.out]; omega)
  obtain ⟨c0, c1, c2, c3⟩ := box2b HB1.out
  have hs1 : w.heap.size + 1 < w1.heap.size := by have := HB1.out.size; rw [HZA.out] at this; omega
  clear hb1
  go_wp2_with fail
  refine (few_any N0 a0 len0 cap0 200 150 _).mono ?_; rintro e w2 ⟨rfl, hb2⟩
  have HB2 := Lib.hid (HB1.out.trans (hb2.mono (show w.heap.size + 2 ≤ w1.heap.size by omega)))
  obtain ⟨c0, c1, c2, c3⟩ := box2b HB2.out
  have hs2 : w.heap.size + 1 < w2.heap.size := by have := hb2.size; omega
  have HW2 := Lib.hid (HWA.out.trans (HB2.out.mono (show w.heap.size ≤ w.heap.size + 2 by omega)))
  clear hb2
  by_cases hbig : N0 ≤ ((200 : Nat) : Int) ∧ len0 ≤ 150
  · have g1 : (decide (N0 ≤ ((200 : Nat) : Int)) && decide (len0 ≤ 150)) = true := by simp; omega
    rw [g1]
    clear g1
    go_wp2_with fail
    refine (few_any N1 a1 len1 cap1 200 150 _).mono ?_; rintro e w3 ⟨rfl, hb3⟩
    have HB3 := Lib.hid (HB2.out.trans (hb3.mono (show w.heap.size + 2 ≤ w2.heap.size by omega)))
    obtain ⟨c0, c1, c2, c3⟩ := box2b HB3.out
    have hs3 : w.heap.size + 1 < w3.heap.size := by have := hb3.size; omega
    have HW3 := Lib.hid (HWA.out.trans (HB3.out.mono (show w.heap.size ≤ w.heap.size + 2 by omega)))
    have HP3 := Lib.hid (wr0.keep HW3.out)
    have HQ3 := Lib.hid (wr1.keep HW3.out)
    clear hb3
    by_cases hbig1 : N1 ≤ ((200 : Nat) : Int) ∧ len1 ≤ 150
    · have g1 : (decide (N1 ≤ ((200 : Nat) : Int)) && decide (len1 ≤ 150)) = true := by simp; omega
      rw [g1]
      clear g1
      by_cases hf : formed N0 l0 = true
      · have hN := (formed_iff.1 hf).1
        obtain ⟨M0, rfl⟩ := Int.eq_ofNat_of_zero_le hN.1
        have hM : M0 ≤ 200 := by omega
        have hl : len0 ≤ 150 := hbig.2
        have HF := Lib.hid hf
        have HOL : Hid ((order l0).length = len0) := by unfold Hid; rw [order_length]; exact HP3.out.1
        have HG := Lib.hid (good_order hf)
        clear hf hN hbig
        go_wp2_with fail
        refine (encode_ok M0 a0 len0 cap0 l0 _ HF.out HP3.out (by omega) (by omega)).mono ?_; rintro e w4 ⟨v4, rfl, ho4, hb4⟩
        obtain ⟨A4, k4, rfl, hr4, _⟩ := own_reads ho4 (fun x hx => u8_wf (enc_byte _ _ _ hx))
        have HX4 := Lib.hid hr4
        have HB4 := Lib.hid (HB3.out.trans (hb4.mono (show w.heap.size + 2 ≤ w3.heap.size by omega)))
        obtain ⟨c0, c1, c2, c3⟩ := box2b HB4.out
        have hs4 : w.heap.size + 1 < w4.heap.size := by have := hb4.size; omega
        have HP4 := Lib.hid (HP3.out.keep (hb4.mono (by omega)))
        have HQ4 := Lib.hid (HQ3.out.keep (hb4.mono (by omega)))
        have HEL := Lib.hid (enc_len (N := M0) (by omega) (by rw [HOL.out]; omega) HG.out)
        have hn4 : (enc M0 (order l0)).length ≤ 40021 := by have := HEL.out; rw [HOL.out] at this; omega
        clear ho4 hb4 hr4 HEL
        by_cases hf1 : formed N1 l1 = true
        · have hN1 := (formed_iff.1 hf1).1
          obtain ⟨M1, rfl⟩ := Int.eq_ofNat_of_zero_le hN1.1
          have hM1 : M1 ≤ 200 := by omega
          have hl1 : len1 ≤ 150 := hbig1.2
          have HF1 := Lib.hid hf1
          have HOL1 : Hid ((order l1).length = len1) := by unfold Hid; rw [order_length]; exact HQ3.out.1
          have HG1 := Lib.hid (good_order hf1)
          clear hf1 hN1 hbig1
          go_wp2_with fail
          refine (encode_ok M1 a1 len1 cap1 l1 _ HF1.out HQ4.out (by omega) (by omega)).mono ?_; rintro e w5 ⟨v5, rfl, ho5, hb5⟩
          obtain ⟨A5, k5, rfl, hr5, _⟩ := own_reads ho5 (fun x hx => u8_wf (enc_byte _ _ _ hx))
          have HX5 := Lib.hid ((HX4.out.keep hb5).mono hb5.size)
          have HY5 := Lib.hid hr5
          have HB5 := Lib.hid (HB4.out.trans (hb5.mono (show w.heap.size + 2 ≤ w4.heap.size by omega)))
          obtain ⟨c0, c1, c2, c3⟩ := box2b HB5.out
          have hs5 : w.heap.size + 1 < w5.heap.size := by have := hb5.size; omega
          have HP5 := Lib.hid (HP4.out.keep (hb5.mono (by omega)))
          have HQ5 := Lib.hid (HQ4.out.keep (hb5.mono (by omega)))
          clear ho5 hb5 hr5
          go_wp2_with fail
          refine (rorder_ok M0 a0 len0 cap0 l0 _ wN0 HF.out HP5.out (by omega)).mono ?_; rintro e w6 ⟨A6, k6, rfl, hr6, hb6⟩
          have HB6 := Lib.hid (HB5.out.trans (hb6.mono (show w.heap.size + 2 ≤ w5.heap.size by omega)))
          have hs6 : w.heap.size + 1 < w6.heap.size := by have := hb6.size; omega
          have HX6 := Lib.hid ((HX5.out.keep hb6).mono hb6.size)
          have HY6 := Lib.hid ((HY5.out.keep hb6).mono hb6.size)
          have HQ6 := Lib.hid (HQ5.out.keep (hb6.mono (by omega)))
          have HA7 := Lib.hid ((Below.refl w6.heap.size w6).alloc (Nat.le_refl _) (.cells #[.int .i64 (M0 : Int), .slice A6 len0 k6] 24))
          have hz7 : (w6.alloc (.cells #[.int .i64 (M0 : Int), .slice A6 len0 k6] 24)).heap.size = w6.heap.size + 1 := by simp
          have HZ7 := Lib.hid hz7
          have HO7 : Hid (Row (w6.alloc (.cells #[.int .i64 (M0 : Int), .slice A6 len0 k6] 24)) w6.heap.size 24 [.int .i64 (M0 : Int), .slice A6 len0 k6]) := heap_alloc_new _ _
          have HB7 := Lib.hid (HB6.out.trans (HA7.out.mono (show w.heap.size + 2 ≤ w6.heap.size by omega)))
          obtain ⟨c0, c1, c2, c3⟩ := box2b HB6.out
          have HX7 := Lib.hid ((HX6.out.keep HA7.out).mono HA7.out.size)
          have HY7 := Lib.hid ((HY6.out.keep HA7.out).mono HA7.out.size)
          have HQ7 := Lib.hid (HQ6.out.keep (HA7.out.mono (show w.heap.size ≤ w6.heap.size by omega)))
          have HR7 := Lib.hid (hr6.keep HA7.out)
          clear hr6 hb6 hz7
          go_wp2_with fail
          refine (rorder_ok M1 a1 len1 cap1 l1 _ wN1 HF1.out HQ7.out (by rw [HZ7.out]; omega)).mono ?_; rintro e w8 ⟨A8, k8, rfl, hr8, hb8⟩
          have HB8 := Lib.hid (HB7.out.trans (hb8.mono (by rw [HZ7.out]; omega)))
          have HO8 := Lib.hid (HO7.out.below hb8 (by rw [HZ7.out]; omega))
          have hs8 : w6.heap.size < w8.heap.size := HO8.out.lt
          have HX8 := Lib.hid ((HX7.out.keep hb8).mono hb8.size)
          have HY8 := Lib.hid ((HY7.out.keep hb8).mono hb8.size)
          have HR8 := Lib.hid (HR7.out.keep (hb8.mono (by rw [HZ7.out]; omega)))
          have HA9 := Lib.hid ((Below.refl w8.heap.size w8).alloc (Nat.le_refl _) (.cells #[.int .i64 (M1 : Int), .slice A8 len1 k8] 24))
          have HT9 : Hid (Row (w8.alloc (.cells #[.int .i64 (M1 : Int), .slice A8 len1 k8] 24)) w8.heap.size 24 [.int .i64 (M1 : Int), .slice A8 len1 k8]) := heap_alloc_new _ _
          have HO9 := Lib.hid (HO8.out.alloc (.cells #[.int .i64 (M1 : Int), .slice A8 len1 k8] 24))
          have HB9 := Lib.hid (HWA.out.trans ((HB8.out.trans (HA9.out.mono (show w.heap.size + 2 ≤ w8.heap.size by omega))).mono (show w.heap.size ≤ w.heap.size + 2 by omega)))
          have HX9 := Lib.hid (HX8.out.keep HA9.out)
          have HY9 := Lib.hid (HY8.out.keep HA9.out)
          have HR9 := Lib.hid (HR8.out.keep (HA9.out.mono (show w6.heap.size ≤ w8.heap.size by omega)))
          have HS9 := Lib.hid (hr8.keep HA9.out)
          have HS : Hid (sameG (M0 : Int) (order l0) (M1 : Int) (order l1) = decide (enc M0 (order l0) = enc M1 (order l1))) := only_eq HG.out (by omega) (by rw [HOL.out]; omega) HG1.out (by omega) (by rw [HOL1.out]; omega)
          have hzz : w8.heap.size < (w8.alloc (.cells #[.int .i64 (M1 : Int), .slice A8 len1 k8] 24)).heap.size := HT9.out.lt
          have HZZ := Lib.hid hzz
          clear hr8 hb8 c0 c1 c2 c3 hzz
          go_wp2
          generalize w8.alloc (.cells #[.int .i64 (M1 : Int), .slice A8 len1 k8] 24) = w9 at *
          have hz9 := HZZ.out
          have bl : ∀ d os, Below w9.heap.size w9 (Sort.grow (redrawn w9 d) os) := fun d os => below_regrown w9 d os
          have k0 : ∀ d os, (Sort.grow (redrawn w9 d) os).cell? ⟨w6.heap.size, 0, none⟩ = some (.int .i64 (M0 : Int)) := cell_regrown (HO9.out.cell 0)
          have k1 : ∀ d os, (Sort.grow (redrawn w9 d) os).cell? ⟨w6.heap.size, 1, none⟩ = some (.slice A6 len0 k6) := cell_regrown (HO9.out.cell 1)
          have k2 : ∀ d os, (Sort.grow (redrawn w9 d) os).cell? ⟨w8.heap.size, 0, none⟩ = some (.int .i64 (M1 : Int)) := cell_regrown (HT9.out.cell 0)
          have k3 : ∀ d os, (Sort.grow (redrawn w9 d) os).cell? ⟨w8.heap.size, 1, none⟩ = some (.slice A8 len1 k8) := cell_regrown (HT9.out.cell 1)
          have hsg : ∀ d os, w9.heap.size ≤ (Sort.grow (redrawn w9 d) os).heap.size := fun d os => (bl d os).size
          have q1 : ∀ d os, Calls Try.prog 13 #[.slice A4 (enc M0 (order l0)).length k4, .slice A5 (enc M1 (order l1)).length k5] (Sort.grow (redrawn w9 d) os) fun e w'' => e = .returned (.bool (decide (enc M0 (order l0) = enc M1 (order l1)))) ∧ ∃ p : Regrown, w'' = Sort.grow (redrawn w9 p.d) p.os := fun d os =>
            Calls.regrown_of ((bsame_any A4 A5 _ _ k4 k5 _ _ _ (((HX9.out.mono (by omega)).keep (bl d os)).mono (hsg d os)) (((HY9.out.mono (by omega)).keep (bl d os)).mono (hsg d os)) (by omega)).mono fun e w' ⟨h1, k, h2⟩ => ⟨h1, by rw [← h2]; exact below_drewN (Below.refl _ _) k⟩)
          have q2 : ∀ d os, Calls Try.prog 16 #[.agg #[.int .i64 (M0 : Int), .slice A6 len0 k6], .agg #[.int .i64 (M1 : Int), .slice A8 len1 k8]] (Sort.grow (redrawn w9 d) os) fun e w'' => e = .returned (.bool (decide (enc M0 (order l0) = enc M1 (order l1)))) ∧ ∃ p : Regrown, w'' = Sort.grow (redrawn w9 p.d) p.os := fun d os =>
            Calls.regrown_of ((rsame_any M0 A6 len0 k6 (order l0) M1 A8 len1 k8 (order l1) _ ((HR9.out.mono (show w6.heap.size ≤ w9.heap.size by omega)).keep (bl d os)) ((HS9.out.mono (show w8.heap.size ≤ w9.heap.size by omega)).keep (bl d os)) (hsg d os) (hsg d os) (by omega) (by omega)).mono fun e w' h => by rw [HS.out] at h; exact h)
          have Q1 := Lib.hid q1
          have Q2 := Lib.hid q2
          clear q1 q2 bl hsg
          generalize decide (enc M0 (order l0) = enc M1 (order l1)) = S at *
          refine wp_region_quiet_below (by kernel_rfl) (by kernel_rfl) ?_
          repeat (any_goals (first | go_big_quiet_step (with_reducible first | exact Q1.out _ _ | exact Q2.out _ _) | quiet_step (with_reducible first | exact Q1.out _ _ | exact Q2.out _ _)))
          refine wpQuiet_nil ?_
          intro wz hwz
          obtain ⟨⟨dq, osq⟩, hwz⟩ := hwz
          have hbz := below_regrown w9 dq osq
          subst hwz
          have HBZ := Lib.hid (HB9.out.trans (hbz.mono HB9.out.size))
          clear hbz
          go_wp2
          go_ret
          exact ⟨ret_bool (by simp), HBZ.out⟩
        · have HF1 : Hid (formed N1 l1 = false) := by unfold Hid; simpa using hf1
          clear hf1
          go_wp2_with fail
          refine (encode_bad N1 a1 len1 cap1 l1 _ wN1 HF1.out HQ4.out (by omega) hm1).mono ?_; rintro e w5 ⟨rfl, hb5⟩
          have HB5 := Lib.hid (HWA.out.trans ((HB4.out.trans (hb5.mono (show w.heap.size + 2 ≤ w4.heap.size by omega))).mono (show w.heap.size ≤ w.heap.size + 2 by omega)))
          clear hb5
          go_wp2
          go_ret
          exact ⟨rfl, HB5.out⟩
      · have HF : Hid (formed N0 l0 = false) := by unfold Hid; simpa using hf
        clear hf
        go_wp2_with fail
        refine (encode_bad N0 a0 len0 cap0 l0 _ wN0 HF.out HP3.out (by omega) hm0).mono ?_; rintro e w4 ⟨rfl, hb4⟩
        have HB4 := Lib.hid (HB3.out.trans (hb4.mono (show w.heap.size + 2 ≤ w3.heap.size by omega)))
        obtain ⟨c0, c1, c2, c3⟩ := box2b HB4.out
        have hs4 : w.heap.size + 1 < w4.heap.size := by have := hb4.size; omega
        have HQ4 := Lib.hid (HQ3.out.keep (hb4.mono (by omega)))
        clear hb4
        by_cases hf1 : formed N1 l1 = true
        · have hN1 := (formed_iff.1 hf1).1
          obtain ⟨M1, rfl⟩ := Int.eq_ofNat_of_zero_le hN1.1
          have hM1 : M1 ≤ 200 := by omega
          have hl1 : len1 ≤ 150 := hbig1.2
          have HF1 := Lib.hid hf1
          clear hf1 hN1 hbig1
          go_wp2_with fail
          refine (encode_ok M1 a1 len1 cap1 l1 _ HF1.out HQ4.out (by omega) (by omega)).mono ?_; rintro e w5 ⟨v5, rfl, ho5, hb5⟩
          have HB5 := Lib.hid (HWA.out.trans ((HB4.out.trans (hb5.mono (show w.heap.size + 2 ≤ w4.heap.size by omega))).mono (show w.heap.size ≤ w.heap.size + 2 by omega)))
          clear ho5 hb5
          go_wp2
          go_ret
          exact ⟨rfl, HB5.out⟩
        · have HF1 : Hid (formed N1 l1 = false) := by unfold Hid; simpa using hf1
          clear hf1
          go_wp2_with fail
          refine (encode_bad N1 a1 len1 cap1 l1 _ wN1 HF1.out HQ4.out (by omega) hm1).mono ?_; rintro e w5 ⟨rfl, hb5⟩
          have HB5 := Lib.hid (HWA.out.trans ((HB4.out.trans (hb5.mono (show w.heap.size + 2 ≤ w4.heap.size by omega))).mono (show w.heap.size ≤ w.heap.size + 2 by omega)))
          clear hb5
          go_wp2
          go_ret
          exact ⟨rfl, HB5.out⟩
    · have g1 : (decide (N1 ≤ ((200 : Nat) : Int)) && decide (len1 ≤ 150)) = false := by rw [Bool.eq_false_iff]; simp; omega
      rw [g1]
      clear g1
      go_wp2_with fail
      refine (awake_any _).mono ?_; rintro e wz ⟨rfl, hbz⟩
      have HBZ := Lib.hid (HW3.out.trans (hbz.mono HW3.out.size))
      clear hbz
      go_wp2
      go_ret
      exact ⟨rfl, HBZ.out⟩
  · have g1 : (decide (N0 ≤ ((200 : Nat) : Int)) && decide (len0 ≤ 150)) = false := by rw [Bool.eq_false_iff]; simp; omega
    rw [g1]
    clear g1
    go_wp2_with fail
    refine (awake_any _).mono ?_; rintro e wz ⟨rfl, hbz⟩
    have HBZ := Lib.hid (HW2.out.trans (hbz.mono HW2.out.size))
    clear hbz
    go_wp2
    go_ret
    exact ⟨rfl, HBZ.out⟩

set_option maxRecDepth 100000 in
theorem lifted (os : Os) (started : os.Started) (H : Type) (enc : TypeId × Value → H) :
    ReturnsInHanded {} Try.checked os 8 .any (Rows.formatOnlySpec.pre6 enc Try.prog Try.f8 Rows.formatOnlyRow.domain false) (Rows.formatOnlySpec.post enc Try.prog Try.f8 false true false false) := by
  refine returnsInHanded_of_change (C := Try.checked) own started (by kernel_rfl) Try.func8
    (ChangeSpec.witness6 (enc := enc) (C := Try.checked) false ⟨#[], #[.agg #[.int .i64 0, .slice none 0 0], .agg #[.int .i64 0, .slice none 0 0]], []⟩ 8 (by kernel_rfl) (by kernel_rfl) (by kernel_rfl) (by kernel_rfl)) ?_
  intro W base args ds gs before hval0 hW hcnd _
  have hval : ∀ (j : Nat) t v, Try.f8.params[j]? = some t → args[j]? = some v → Value.okWide Try.prog W .any base t v := hval0
  have hW' := hW
  obtain ⟨p, q, hA0, hV, rfl, hfz, hnd⟩ := hW
  have hA : DataW.TrodAll enc Try.prog W 0 (fun _ => true) true Try.f8.params.toList args.toList ds p := hA0
  rw [Try.params8] at hA hval
  obtain ⟨v0, vs0, d0, ds0, p0, q0, hargs, rfl, rfl, h0, r0⟩ := trodAll_cons hA
  obtain ⟨v1, vs1, d1, ds1, p1, q1, rfl, rfl, rfl, h1, r1⟩ := trodAll_cons r0
  obtain ⟨rfl, rfl, rfl⟩ := trodAll_nil r1
  obtain rfl : args = #[v0, v1] := by cases args; simp_all
  obtain ⟨rfl, rfl⟩ := trodVars_none hV
  have k0 := h0
  have lt0 : ∀ x ∈ p0, x.block < W.heap.size := by obtain ⟨m, hm⟩ := k0; exact DataW.trod_lt m _ _ _ hm
  have k1 := h1
  have lt1 : ∀ x ∈ p1, x.block < W.heap.size := by obtain ⟨m, hm⟩ := k1; exact DataW.trod_lt m _ _ _ hm
  obtain ⟨N0, a0, len0, cap0, l0, rfl, wN0, wr0, wc0⟩ := open_graph Try.underlying24 (by kernel_rfl) (by kernel_rfl) rfl rfl Try.underlying22 Try.underlying43 (by kernel_rfl) (by kernel_rfl) Try.underlying3 rfl rfl (hval 0 24 v0 rfl rfl) h0
  obtain ⟨N1, a1, len1, cap1, l1, rfl, wN1, wr1, wc1⟩ := open_graph Try.underlying24 (by kernel_rfl) (by kernel_rfl) rfl rfl Try.underlying22 Try.underlying43 (by kernel_rfl) (by kernel_rfl) Try.underlying3 rfl rfl (hval 1 24 v1 rfl rfl) h1
  clear hA0 hval0
  refine (walk N0 a0 len0 cap0 l0 N1 a1 len1 cap1 l1 W wN0 wr0 wc0 wN1 wr1 wc1).mono fun e W' ⟨he, bel⟩ => ?_
  subst he
  exact ⟨_, rfl, _, _, _, [], _, [], hW', trodAll_mk1 (shut_bool Try.underlying4 _), (trodAll_cons_mk (Below.trod laidOut (by kernel_rfl) (of_decide_eq_true (by kernel_rfl)) k0 bel lt0) (trodAll_cons_mk (Below.trod laidOut (by kernel_rfl) (of_decide_eq_true (by kernel_rfl)) k1 bel lt1) trodAll_mk0)), rfl, bel.frame _, fun h => by cases h⟩

theorem over : Rows.formatOnlyRow.holds Try.pinned (OpenSpec.ofChange Rows.formatOnlySpec) :=
  OpenClaim.holds_of_wide 8 Try.f8 rfl rfl rfl rfl rfl rfl rfl ⟨rfl, rfl, rfl, rfl, rfl⟩ rfl rfl rfl rfl rfl (by kernel_rfl) Try.func8 (by kernel_rfl)
    (of_decide_eq_true (by kernel_rfl)) (by unfold Func.isWrapper; first | (rw [if_pos (by decide +kernel)]; kernel_rfl) | (rw [if_neg (by decide +kernel)]; exact ⟨rfl, rfl⟩))
    (fun os started H enc _ => lifted os started H enc)

theorem proved : Rows.FormatOnlySaid := over
end Go.Proofs.Ytdjmjabbjjcgiaa.formatOnly
