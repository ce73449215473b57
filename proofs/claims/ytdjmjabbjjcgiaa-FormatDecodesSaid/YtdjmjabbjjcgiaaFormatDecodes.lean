/-
  FormatDecodes: for whatever bytes; no condition.
-/
import Derived.Test.YtdjmjabbjjcgiaaRows
import Derived.Test.YtdjmjabbjjcgiaaFormatRDec
import Derived.Test.YtdjmjabbjjcgiaaFormatREnc
import Derived.Test.YtdjmjabbjjcgiaaFormatAwake
import Derived.WalkKit
import Derived.ProofKit
import Derived.OpenShut
import Derived.ShutString
import Derived.ChangeOld
import Derived.Below
namespace Go.Proofs.Ytdjmjabbjjcgiaa.formatDecodes
open Go.ChangeShapes Go.WideShapes Go.ChangeAt Go.RowKit
open Go.ChangeMaps (open_string shut_string)
set_option linter.unusedVariables false

theorem own : ownKnob Try.prog.godebug = none := by kernel_rfl
theorem laidOut : laidOutB Try.prog = true := by kernel_rfl

theorem same_self (N : Int) (l : List (Int × Int)) : sameG N l N l = true := by rw [sameG_eq]; unfold eqL; simp

set_option maxHeartbeats 1600000 in
set_option maxRecDepth 100000 in
theorem walk (a0 : Option Addr) (len0 cap0 : Nat) (z0 : List Int) (w : World) (w0 : IsRow .u8 w a0 len0 cap0 z0) :
    Calls Try.prog 4 #[.slice a0 len0 cap0] w fun e w' => e = .returned (.bool true) ∧ Below w.heap.size w w' := by
  obtain ⟨l, hl⟩ := w0.reads u8_nonneg
  clear w0
  by_cases hbig : 3000 < len0
  · have g1 : decide (3000 < len0) = true := by simp; omega
    go_enter Try.func4, Try.ntmps4
    go_wp2_with fail
    refine (awake_any _).mono ?_; rintro e w2 ⟨rfl, hb⟩
    go_wp2_with fail
    refine (awake_any _).mono ?_; rintro e w3 ⟨rfl, hb3⟩
    go_wp2
    go_ret
    exact ⟨rfl, hb.trans (hb3.mono hb.size)⟩
  · have hd : decide (3000 < len0) = false := by simp; omega
    go_enter Try.func4, Try.ntmps4
    go_wp2_with fail
    refine (awake_any _).mono ?_; rintro e w2 ⟨rfl, hb⟩
    have HL2 := Lib.hid ((hl.keep hb).mono hb.size)
    have HB := Lib.hid hb
    clear hb
    have hlen := hl.1
    clear hl
    go_wp2_with fail
    refine (decode_any a0 len0 cap0 l w2 HL2.out (Nat.le_refl _) (by omega)).mono ?_; rintro e w3 ⟨hb3, h3⟩
    have HL3 := Lib.hid ((HL2.out.keep hb3).mono hb3.size)
    have HB3 := Lib.hid (HB.out.trans (hb3.mono HB.out.size))
    have hs3 := HB3.out.size
    clear hb3
    rcases h3 with ⟨hf, rfl⟩ | ⟨M, E, A, c, ht, rfl, hr3⟩
    · have HF := Lib.hid hf
      clear hf
      generalize hp : (dec l).2.2.2 = p
      have HP := Lib.hid hp
      clear hp
      go_wp2_with fail
      have HL4 := Lib.hid ((HL3.out.keep ((Below.refl _ _).alloc (Nat.le_refl _) (.cells #[.int .i64 0, .slice none 0 0] 24))).mono (show w3.heap.size ≤ (w3.alloc (.cells #[.int .i64 0, .slice none 0 0] 24)).heap.size by simp))
      have HB4 := Lib.hid (HB3.out.alloc hs3 (.cells #[.int .i64 0, .slice none 0 0] 24))
      have hg4 : Row (w3.alloc (.cells #[.int .i64 0, .slice none 0 0] 24)) w3.heap.size 24 [.int .i64 0, .slice none 0 0] := heap_alloc_new _ _
      refine (rdecode_any a0 len0 cap0 l _ HL4.out (Nat.le_refl _) (by omega)).mono ?_; rintro e w5 ⟨hb5, h5⟩
      have HB5 := Lib.hid (HB4.out.trans (hb5.mono HB4.out.size))
      have hg5 := hg4.below hb5 (by simp)
      have g0 := hg5.cell 0
      have g1 := hg5.cell 1
      have hs5 : w3.heap.size < w5.heap.size := hg5.lt
      have hw5 := HB5.out.size
      clear hb5 hg4 hg5
      rcases h5 with ⟨hf5, rfl⟩ | ⟨M, E, A, c, ht, rfl, hr3⟩
      · clear hf5
        rw [HP.out]
        have HB6 := Lib.hid (HB5.out.alloc (show w.heap.size ≤ w5.heap.size by omega) (.cells #[.int .i64 0, .slice none 0 0] 24))
        go_wp2_with fail
        refine (rsame_any 0 none 0 0 [] 0 none 0 0 [] _ (ReadsE.nil _ 0 _) (ReadsE.nil _ 0 _) (by simp) (by simp) (by omega) (by omega)).mono ?_; rintro e w7 ⟨rfl, hb7⟩
        rw [same_self]
        have HB7 := Lib.hid (HB6.out.trans (hb7.mono HB6.out.size))
        clear hb7
        go_wp2
        go_ret
        exact ⟨rfl, HB7.out⟩
      · exfalso
        have := HF.out
        rw [ht] at this
        cases this
    · have HT := Lib.hid ht
      have HR3 := Lib.hid hr3
      have hEl := (dec_edges (fun c hc => u8_lt (HL2.out.2.1 c hc)) ht).2.2.1
      clear ht hr3
      go_wp2_with fail
      have HL4 := Lib.hid ((HL3.out.keep ((Below.refl _ _).alloc (Nat.le_refl _) (.cells #[.int .i64 (M : Int), .slice A E.length c] 24))).mono (show w3.heap.size ≤ (w3.alloc (.cells #[.int .i64 (M : Int), .slice A E.length c] 24)).heap.size by simp))
      have HR4 := Lib.hid (HR3.out.keep ((Below.refl _ _).alloc (Nat.le_refl _) (.cells #[.int .i64 (M : Int), .slice A E.length c] 24)))
      have HB4 := Lib.hid (HB3.out.alloc hs3 (.cells #[.int .i64 (M : Int), .slice A E.length c] 24))
      have hg4 : Row (w3.alloc (.cells #[.int .i64 (M : Int), .slice A E.length c] 24)) w3.heap.size 24 [.int .i64 (M : Int), .slice A E.length c] := heap_alloc_new _ _
      refine (rdecode_any a0 len0 cap0 l _ HL4.out (Nat.le_refl _) (by omega)).mono ?_; rintro e w5 ⟨hb5, h5⟩
      have HB5 := Lib.hid (HB4.out.trans (hb5.mono HB4.out.size))
      have hg5 := hg4.below hb5 (by simp)
      have g0 := hg5.cell 0
      have g1 := hg5.cell 1
      have hs5 : w3.heap.size < w5.heap.size := hg5.lt
      have hw5 := HB5.out.size
      have HR5 := Lib.hid (HR4.out.keep (hb5.mono (by simp)))
      clear hb5 hg4 hg5
      rcases h5 with ⟨hf5, rfl⟩ | ⟨M2, E2, A2, c2, ht2, rfl, hr5⟩
      · exfalso
        rw [HT.out] at hf5
        cases hf5
      · have hh := HT.out.symm.trans ht2
        injection hh with _ hh; injection hh with e1 hh; injection hh with e2 _
        subst e1 e2
        have HX5 := Lib.hid hr5
        have HB6 := Lib.hid (HB5.out.alloc (show w.heap.size ≤ w5.heap.size by omega) (.cells #[.int .i64 (M : Int), .slice A2 E.length c2] 24))
        have HBL := Lib.hid ((Below.refl w5.heap.size w5).alloc (Nat.le_refl _) (.cells #[.int .i64 (M : Int), .slice A2 E.length c2] 24))
        clear ht2 hr5
        go_wp2_with fail
        refine (rsame_any M A E.length c E M A2 E.length c2 E _ (HR5.out.keep (HBL.out.mono (by omega))) (HX5.out.keep HBL.out) (by simp; omega) (by simp) (by omega) (by omega)).mono ?_; rintro e w7 ⟨rfl, hb7⟩
        rw [same_self]
        have HB7 := Lib.hid (HB6.out.trans (hb7.mono HB6.out.size))
        clear hb7
        go_wp2
        go_ret
        exact ⟨rfl, HB7.out⟩

set_option maxRecDepth 100000 in
theorem lifted (os : Os) (started : os.Started) (H : Type) (enc : TypeId × Value → H) :
    ReturnsInHanded {} Try.checked os 4 .any (Rows.formatDecodesSpec.pre6 enc Try.prog Try.f4 Rows.formatDecodesRow.domain false) (Rows.formatDecodesSpec.post enc Try.prog Try.f4 false true false false) := by
  refine returnsInHanded_of_change (C := Try.checked) own started (by kernel_rfl) Try.func4
    (ChangeSpec.witness6 (enc := enc) (C := Try.checked) false ⟨#[], #[.slice none 0 0], []⟩ 8 (by kernel_rfl) (by kernel_rfl) (by kernel_rfl) (by kernel_rfl)) ?_
  intro W base args ds gs before hval0 hW hcnd _
  have hval : ∀ (j : Nat) t v, Try.f4.params[j]? = some t → args[j]? = some v → Value.okWide Try.prog W .any base t v := hval0
  have hW' := hW
  obtain ⟨p, q, hA0, hV, rfl, hfz, hnd⟩ := hW
  have hA : DataW.TrodAll enc Try.prog W 0 (fun _ => true) true Try.f4.params.toList args.toList ds p := hA0
  rw [Try.params4] at hA hval
  obtain ⟨v0, vs0, d0, ds0, p0, q0, hargs, rfl, rfl, h0, r0⟩ := trodAll_cons hA
  obtain ⟨rfl, rfl, rfl⟩ := trodAll_nil r0
  obtain rfl : args = #[v0] := by cases args; simp_all
  obtain ⟨rfl, rfl⟩ := trodVars_none hV
  have k0 := h0
  have lt0 : ∀ x ∈ p0, x.block < W.heap.size := by obtain ⟨m, hm⟩ := k0; exact DataW.trod_lt m _ _ _ hm
  obtain ⟨a0, len0, cap0, rfl⟩ := okWide_slice Try.underlying27 (hval 0 27 v0 rfl rfl)
  obtain ⟨z0, w0⟩ : ∃ zs, IsRow .u8 W a0 len0 cap0 zs := by
    obtain ⟨fuel, hf⟩ := h0
    rcases open_ints Try.underlying27 Try.underlying5 (by kernel_rfl) hf with ⟨hcs, _⟩ | ⟨x, l, c, zs, hcs, _, hl, hm, hz, _, hcell, hwz⟩
    · simp [Value.cells] at hcs
      obtain ⟨rfl, rfl, rfl⟩ := hcs
      exact ⟨[], .inl ⟨rfl, rfl, rfl, rfl⟩⟩
    · simp [Value.cells] at hcs
      obtain ⟨rfl, rfl, rfl⟩ := hcs
      exact ⟨zs, .inr ⟨_, rfl, hl, hm, by simpa using hz, hcell, hwz⟩⟩
  clear hA0 hval0
  refine (walk a0 len0 cap0 z0 W w0).mono fun e W' ⟨he, bel⟩ => ?_
  subst he
  exact ⟨_, rfl, _, _, _, [], _, [], hW', trodAll_mk1 (shut_bool Try.underlying4 _), (trodAll_cons_mk (Below.trod laidOut (by kernel_rfl) (of_decide_eq_true (by kernel_rfl)) k0 bel lt0) trodAll_mk0), rfl, bel.frame _, fun h => by cases h⟩

theorem over : Rows.formatDecodesRow.holds Try.pinned (OpenSpec.ofChange Rows.formatDecodesSpec) :=
  OpenClaim.holds_of_wide 4 Try.f4 rfl rfl rfl rfl rfl rfl rfl ⟨rfl, rfl, rfl, rfl, rfl⟩ rfl rfl rfl rfl rfl (by kernel_rfl) Try.func4 (by kernel_rfl)
    (of_decide_eq_true (by kernel_rfl)) (by unfold Func.isWrapper; first | (rw [if_pos (by decide +kernel)]; kernel_rfl) | (rw [if_neg (by decide +kernel)]; exact ⟨rfl, rfl⟩))
    (fun os started H enc _ => lifted os started H enc)

theorem proved : Rows.FormatDecodesSaid := over
end Go.Proofs.Ytdjmjabbjjcgiaa.formatDecodes
