/-
  SpaceLeast: for whatever is done, whatever is asked for last; no condition.
-/
import Derived.Test.YtjpomohfoknjiaaRows
import Derived.Test.YtjpomohfoknjiaaSpLaw
import Derived.WalkKit
import Derived.ProofKit
import Derived.OpenShut
import Derived.ShutString
import Derived.ChangeOld
import Derived.Below
namespace Go.Proofs.Ytjpomohfoknjiaa.spaceLeast
open Go.ChangeShapes Go.WideShapes Go.ChangeAt Go.RowKit
open Go.ChangeMaps (open_string shut_string)
set_option linter.unusedVariables false

theorem own : ownKnob Try.prog.godebug = none := by kernel_rfl
theorem laidOut : laidOutB Try.prog = true := by kernel_rfl


set_option maxHeartbeats 4000000 in
set_option maxRecDepth 100000 in
theorem walk (a0 : Option Addr) (len0 cap0 : Nat) (l0 : List (Int × Int × Int)) (a1 : Int) (w : World) (wr0 : ReadsT w w.heap.size a0 len0 l0) (wm0 : len0 ≤ maxLen) (w1 : (Lit.int .u8 a1).wf = true) :
    Calls Try.prog 5 #[.slice a0 len0 cap0, .int .u8 a1] w fun e w' => e = .returned (.bool true) ∧ Below w.heap.size w w' := by
  have hm0 : len0 ≤ 9223372036854775807 := by unfold maxLen at wm0; omega
  have HZ0 := Lib.hid wr0
  obtain ⟨c1, rfl⟩ : ∃ c : Nat, a1 = (c : Int) := ⟨a1.toNat, by have := u8_nonneg a1 w1; omega⟩
  have hc1 := u8_lt w1
  clear wm0 wr0 w1
  go_enter Try.func5, Try.ntmps5
  go_wp2_with fail
  refine (awake_any _).mono ?_; rintro e w1 ⟨rfl, hb1⟩
  have HB1 := Lib.hid hb1
  have hs1 := hb1.size
  clear hb1
  by_cases hbig : len0 > 80
  · have g1 : decide ((len0 : Int) > 80) = true := by simp; omega
    have g2 : decide (80 < len0) = true := by simp; omega
    go_wp2_with fail
    refine (awake_any _).mono ?_; rintro e w2 ⟨rfl, hb2⟩
    have HB2 := Lib.hid (HB1.out.trans (hb2.mono hs1))
    clear hb2
    go_wp2
    go_ret
    exact ⟨rfl, HB2.out⟩
  have g1 : decide ((len0 : Int) > 80) = false := by simp; omega
  have g2 : decide (80 < len0) = false := by simp; omega
  have HN := Lib.hid (run_new (w0 := w) (w := w1) (f := 0) (n := 200) (by omega) (by omega) HB1.out)
  go_wp2_with fail
  refine HN.out.mono ?_
  rintro e w2 ⟨p, rfl, hr2, _⟩
  have HR2 := Lib.hid hr2
  clear hr2 HN
  go_wp2
  go_loopw [6] (fun iv wr => ∃ (i : Nat) (s : Sp), i ≤ len0 ∧ iv = .int .i64 (i : Int) ∧ Hid (Run w wr p s (.slice none 0 0) 0 [])) (fun iv _ => len0 - (intOf iv).toNat)
  case atStart => exact ⟨0, _, by omega, rfl, HR2.out⟩
  case round =>
    obtain ⟨i, s, hi, rfl, HR⟩ := hrel
    have hpl := HR.out.lt
    have CELLS : Hid (∀ (w3 : World) (a : Addr) {v : Value}, Below w.heap.size w w3 → a.block < w.heap.size → wr.cell? a = some v → w3.cell? a = some v) := fun w3 a v hb ha hv => (hb.cell ha).trans ((HR.out.base.cell ha).symm.trans hv)
    by_cases hlt : i < len0
    · have g0 : decide (i < len0) = true := by simpa using hlt
      obtain ⟨b, off, x, y, z, rfl, hbb, d0, d1, d2, hx, hy, hz, _⟩ := (HZ0.out.keep HR.out.base).at_ hlt
      have hbl : b < wr.heap.size := by have := HR.out.base.size; omega
      have hj0 : (0 : Int) ≤ (i : Int) := by omega
      have hj1 : (i : Int) < (len0 : Int) := by omega
      by_cases k1 : x = 1
      · have q1 : (x == 1) = true := by simp [k1]
        have q1' : decide (x = 1) = true := by simp [k1]
        have hc := run_take HR.out hz
        have HC := Lib.hid hc
        clear hc k1
        go_wp2_with fail
        refine HC.out.mono ?_
        rintro e w3 ⟨rfl, hr3, _⟩
        have HR3 := Lib.hid hr3
        clear hr3
        go_wp2
        go_roundw
        case rel => exact ⟨i + 1, _, by omega, by go_num, HR3.out⟩
        case measure => simp [intOf]; omega
      have q1 : (x == 1) = false := by simp [k1]
      have q1' : decide (x = 1) = false := by simp [k1]
      by_cases k2 : x = 2
      · have q2 : (x == 2) = true := by simp [k2]
        have q2' : decide (x = 2) = true := by simp [k2]
        have hc := run_give (HR.out.drewN 1) hy hz
        have HC := Lib.hid hc
        clear hc k2 k1
        go_wp2
        go_region_held3 (fun w' => w'.cell? ⟨b, off + i * 3 + 1, none⟩ = some (.int .i64 y) ∧ w'.cell? ⟨b, off + i * 3 + 2, none⟩ = some (.int .i64 z))
          (first | (exact ⟨d1, d2⟩) | (exact ⟨CELLS.out _ _ hr3.base hbb d1, CELLS.out _ _ hr3.base hbb d2⟩))
          ((go_split_ands; go_at_call 12; refine HC.out.mono ?_; rintro e w3 ⟨rfl, hr3, _⟩))
        have HR3 := Lib.hid hr3
        clear hr3
        go_wp2
        go_roundw
        case rel => exact ⟨i + 1, _, by omega, by go_num, HR3.out⟩
        case measure => simp [intOf]; omega
      have q2 : (x == 2) = false := by simp [k2]
      have q2' : decide (x = 2) = false := by simp [k2]
      by_cases k3 : x = 3
      · have q3 : (x == 3) = true := by simp [k3]
        have q3' : decide (x = 3) = true := by simp [k3]
        have hc := run_hold (HR.out.drewN 1) hy hz
        have HC := Lib.hid hc
        clear hc k3 k2 k1
        go_wp2
        go_region_held3 (fun w' => w'.cell? ⟨b, off + i * 3 + 1, none⟩ = some (.int .i64 y) ∧ w'.cell? ⟨b, off + i * 3 + 2, none⟩ = some (.int .i64 z))
          (first | (exact ⟨d1, d2⟩) | (exact ⟨CELLS.out _ _ hr3.base hbb d1, CELLS.out _ _ hr3.base hbb d2⟩))
          ((go_split_ands; go_at_call 14; refine HC.out.mono ?_; rintro e w3 ⟨rfl, hr3, _⟩))
        have HR3 := Lib.hid hr3
        clear hr3
        go_wp2
        go_roundw
        case rel => exact ⟨i + 1, _, by omega, by go_num, HR3.out⟩
        case measure => simp [intOf]; omega
      have q3 : (x == 3) = false := by simp [k3]
      have q3' : decide (x = 3) = false := by simp [k3]
      clear k3 k2 k1
      go_wp2
      go_roundw
      case rel => exact ⟨i + 1, s, by omega, by go_num, HR.out⟩
      case measure => simp [intOf]; omega
    · obtain rfl : i = len0 := by omega
      have g0 : decide (i < i) = false := by simp
      obtain ⟨r, hr⟩ : ∃ r : Nat, r = c1 % 30 := ⟨_, rfl⟩
      have hmod : ((c1 : Int)) % 30 = (r : Int) := by omega
      have htm : ((c1 : Int)).tmod 30 = (r : Int) := by rw [Int.tmod_eq_emod_of_nonneg (by omega)]; omega
      have hr30 : r < 30 := by omega
      have hw8 : IntKind.u8.wrap (r : Int) = (r : Int) := by rw [IntKind.wrap_u8]; omega
      obtain ⟨k, hk⟩ : ∃ k : Nat, k = 1 + r := ⟨_, rfl⟩
      have hadd : (1 : Int) + (r : Int) = (k : Int) := by omega
      have hk1 : 1 ≤ k := by omega
      have hk2 : k ≤ 30 := by omega
      clear hr hk
      go_wp2_with fail
      refine (run_extents HR.out).mono ?_
      rintro e w3 ⟨A, c, rfl, _, hr3, _⟩
      have ht := run_take hr3 (m := (k : Int)) (I64.of (by omega) (by omega))
      have hok := hr3.ok
      have hts : takeS s (k : Int) = if fitI s.fr k < s.fr.length then ({ s with fr := cutL s.fr (fitI s.fr k) (xAt s.fr (fitI s.fr k)).1 k }, (xAt s.fr (fitI s.fr k)).1, 0) else (s, 0, 5) := by unfold takeS; rw [if_neg (by omega), Int.toNat_natCast]
      have hlow : ∀ j, j < fitI s.fr k → (xAt s.fr j).2 < k := fun j hj => by have := findIdx_below hj; simpa using this
      have hat : fitI s.fr k < s.fr.length → k ≤ (xAt s.fr (fitI s.fr k)).2 := fun h => by have := findIdx_at h; unfold fitI; simpa using this
      have hfle : fitI s.fr k ≤ s.fr.length := List.findIdx_le_length
      have hlen := hok.len
      have hbn : ∀ j, j < s.fr.length → (xAt s.fr j).1 + (xAt s.fr j).2 ≤ 2000000 := fun j hj => by have := hok.2.2.getD hj; have := hok.1; have := hok.2.1; omega
      generalize fitI s.fr k = j0 at *
      have HLOW := Lib.hid hlow
      have HAT := Lib.hid hat
      have HBN := Lib.hid hbn
      have HNL : Hid (∀ j, j < s.fr.length → j < s.fr.length) := fun _ h => h
      by_cases hfl : j0 < s.fr.length
      · rw [if_pos hfl] at hts
        rw [hts] at ht
        dsimp only at ht
        obtain ⟨a, ha⟩ : ∃ a, (xAt s.fr j0).1 = a := ⟨_, rfl⟩
        rw [ha] at ht
        have HA := Lib.hid ha
        generalize s.fr = L at *
        generalize cutL L j0 a k = L' at *
        obtain ⟨N, hN⟩ : ∃ N, N = L.length := ⟨_, rfl⟩
        rw [← hN] at ht hfl hfle hlen
        have HN' := Lib.hid hN
        have HT := Lib.hid ht
        clear hts ht hok hlow hat hbn hr3 hlt hi ha hN HR
        go_wp2_with fail
        rw [HN'.out.symm]
        refine HT.out.mono ?_
        rintro e w4 ⟨rfl, hr4, _⟩
        have HO := Lib.hid hr4.own
        have HB4 := Lib.hid hr4.base
        clear hr4
        go_wp2
        go_loopw [11] (fun iv wr => ∃ j : Nat, j ≤ j0 ∧ iv = .int .i64 (j : Int) ∧ wr = w4) (fun iv _ => N - (intOf iv).toNat)
        case atStart => exact ⟨0, Nat.zero_le _, rfl, by trivial⟩
        case round =>
          obtain ⟨j, hj, rfl, rfl⟩ := hrel
          have hjN : j < N := by omega
          obtain ⟨g, rfl, hg, e0, e1⟩ := own2_at HO.out hjN
          have gj : decide (j < N) = true := by simp; omega
          have ji0 : (0 : Int) ≤ (j : Int) := by omega
          have ji1 : (j : Int) < (N : Int) := by omega
          by_cases hjj : j = j0
          · subst hjj
            have hge := HAT.out (by rw [← HN'.out]; exact hjN)
            rw [HA.out] at e0
            generalize (xAt L j).2 = b2 at e1 hge
            have gk : decide (k ≤ b2) = true := by simp; omega
            have gk2 : decide ((b2 : Int) ≥ (k : Int)) = true := by simp; omega
            clear hge
            go_wp2
            go_ret
            exact ⟨by simp, HB4.out⟩
          · have hlt2 := HLOW.out j (by omega)
            generalize (xAt L j).2 = b2 at e1 hlt2
            generalize (xAt L j).1 = a2 at e0
            have gk : decide (k ≤ b2) = false := by simp; omega
            have gk2 : decide ((b2 : Int) ≥ (k : Int)) = false := by simp; omega
            have HJ : Hid (j + 1 ≤ j0) := by unfold Hid; omega
            clear hlt2 hjj
            go_wp2
            go_roundw
            case rel => exact ⟨j + 1, HJ.out, by go_num, by trivial⟩
            case measure => simp [intOf]; omega
      · rw [if_neg hfl] at hts
        rw [hts] at ht
        dsimp only at ht
        have hjl : j0 = s.fr.length := by omega
        subst hjl
        have HL0 := Lib.hid (⟨s.fr, rfl, HLOW.out, HBN.out⟩ : ∃ L, L = s.fr ∧ (∀ j, j < s.fr.length → (xAt L j).2 < k) ∧ ∀ j, j < s.fr.length → (xAt L j).1 + (xAt L j).2 ≤ 2000000)
        obtain ⟨N, hN⟩ : ∃ N, N = s.fr.length := ⟨_, rfl⟩
        have hNl : N ≤ 1000000 := by omega
        rw [← hN] at ht
        have HN' := Lib.hid hN
        have HT := Lib.hid ht
        clear hts ht hok hlow hat hbn hr3 hlt hi hN HR hfl hfle hlen
        go_wp2_with fail
        rw [HN'.out.symm]
        refine HT.out.mono ?_
        rintro e w4 ⟨rfl, hr4, _⟩
        have HO := Lib.hid hr4.own
        have HB4 := Lib.hid hr4.base
        clear hr4
        go_wp2
        go_loopw [11] (fun iv wr => ∃ j : Nat, j ≤ N ∧ iv = .int .i64 (j : Int) ∧ wr = w4) (fun iv _ => N - (intOf iv).toNat)
        case atStart => exact ⟨0, Nat.zero_le _, rfl, by trivial⟩
        case round =>
          obtain ⟨j, hj, rfl, rfl⟩ := hrel
          by_cases hjN : j < N
          · obtain ⟨g, rfl, hg, e0, e1⟩ := own2_at HO.out hjN
            have gj : decide (j < N) = true := by simp; omega
            have ji0 : (0 : Int) ≤ (j : Int) := by omega
            have ji1 : (j : Int) < (N : Int) := by omega
            have hlt2 := HLOW.out j (by rw [← HN'.out]; exact hjN)
            generalize (xAt s.fr j).2 = b2 at e1 hlt2
            generalize (xAt s.fr j).1 = a2 at e0
            have gk : decide (k ≤ b2) = false := by simp; omega
            have gk2 : decide ((b2 : Int) ≥ (k : Int)) = false := by simp; omega
            clear hlt2
            go_wp2
            go_roundw
            case rel => exact ⟨j + 1, hjN, by go_num, by trivial⟩
            case measure => simp [intOf]; omega
          · obtain rfl : j = N := by omega
            have gj : decide (j < j) = false := by simp
            go_wp2
            go_ret
            exact ⟨by simp, HB4.out⟩

set_option maxRecDepth 100000 in
theorem lifted (os : Os) (started : os.Started) (H : Type) (enc : TypeId × Value → H) :
    ReturnsInHanded {} Try.checked os 5 .any (Rows.spaceLeastSpec.pre6 enc Try.prog Try.f5 Rows.spaceLeastRow.domain false) (Rows.spaceLeastSpec.post enc Try.prog Try.f5 false true false false) := by
  refine returnsInHanded_of_change (C := Try.checked) own started (by kernel_rfl) Try.func5
    (ChangeSpec.witness6 (enc := enc) (C := Try.checked) false ⟨#[], #[.slice none 0 0, .int .u8 0], []⟩ 8 (by kernel_rfl) (by kernel_rfl) (by kernel_rfl) (by kernel_rfl)) ?_
  intro W base args ds gs before hval0 hW hcnd _
  have hval : ∀ (j : Nat) t v, Try.f5.params[j]? = some t → args[j]? = some v → Value.okWide Try.prog W .any base t v := hval0
  have hW' := hW
  obtain ⟨p, q, hA0, hV, rfl, hfz, hnd⟩ := hW
  have hA : DataW.TrodAll enc Try.prog W 0 (fun _ => true) true Try.f5.params.toList args.toList ds p := hA0
  rw [Try.params5] at hA hval
  obtain ⟨v0, vs0, d0, ds0, p0, q0, hargs, rfl, rfl, h0, r0⟩ := trodAll_cons hA
  obtain ⟨v1, vs1, d1, ds1, p1, q1, rfl, rfl, rfl, h1, r1⟩ := trodAll_cons r0
  obtain ⟨rfl, rfl, rfl⟩ := trodAll_nil r1
  obtain rfl : args = #[v0, v1] := by cases args; simp_all
  obtain ⟨rfl, rfl⟩ := trodVars_none hV
  have k0 := h0
  have lt0 : ∀ x ∈ p0, x.block < W.heap.size := by obtain ⟨m, hm⟩ := k0; exact DataW.trod_lt m _ _ _ hm
  have k1 := h1
  have lt1 : ∀ x ∈ p1, x.block < W.heap.size := by obtain ⟨m, hm⟩ := k1; exact DataW.trod_lt m _ _ _ hm
  obtain ⟨a0, len0, cap0, rfl⟩ := okWide_slice Try.underlying23 (hval 0 23 v0 rfl rfl)
  obtain ⟨l0, wr0, wm0⟩ : ∃ l0, ReadsT W W.heap.size a0 len0 l0 ∧ len0 ≤ maxLen := by
    obtain ⟨fuel0, hf0⟩ := h0
    obtain ⟨a', len', cap', l', he', hr', hm'⟩ := open_triples Try.underlying23 Try.underlying31 (by kernel_rfl) (by kernel_rfl) Try.underlying3 rfl rfl rfl hf0
    injection he' with e1 e2 e3
    subst e1; subst e2
    exact ⟨l', hr', hm'⟩
  obtain ⟨a1, rfl, rfl, rfl, w1⟩ := open_int Try.underlying5 (hval 1 5 v1 rfl rfl) h1
  clear hA0 hval0
  refine (walk a0 len0 cap0 l0 a1 W wr0 wm0 w1).mono fun e W' ⟨he, bel⟩ => ?_
  subst he
  exact ⟨_, rfl, _, _, _, [], _, [], hW', trodAll_mk1 (shut_bool Try.underlying4 _), (trodAll_cons_mk (Below.trod laidOut (by kernel_rfl) (of_decide_eq_true (by kernel_rfl)) k0 bel lt0) (trodAll_cons_mk (Below.trod laidOut (by kernel_rfl) (of_decide_eq_true (by kernel_rfl)) k1 bel lt1) trodAll_mk0)), rfl, bel.frame _, fun h => by cases h⟩

theorem over : Rows.spaceLeastRow.holds Try.pinned (OpenSpec.ofChange Rows.spaceLeastSpec) :=
  OpenClaim.holds_of_wide 5 Try.f5 rfl rfl rfl rfl rfl rfl rfl ⟨rfl, rfl, rfl, rfl, rfl⟩ rfl rfl rfl rfl rfl (by kernel_rfl) Try.func5 (by kernel_rfl)
    (of_decide_eq_true (by kernel_rfl)) (by unfold Func.isWrapper; first | (rw [if_pos (by decide +kernel)]; kernel_rfl) | (rw [if_neg (by decide +kernel)]; exact ⟨rfl, rfl⟩))
    (fun os started H enc _ => lifted os started H enc)

theorem proved : Rows.SpaceLeastSaid := over
end Go.Proofs.Ytjpomohfoknjiaa.spaceLeast
