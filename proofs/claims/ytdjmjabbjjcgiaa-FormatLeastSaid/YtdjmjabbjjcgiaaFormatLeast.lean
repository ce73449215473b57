/-
  FormatLeast: for whatever bytes; no condition.
-/
import Derived.Test.YtdjmjabbjjcgiaaRows
import Derived.Test.YtdjmjabbjjcgiaaFormatDec
import Derived.Test.YtdjmjabbjjcgiaaFormatAwake
import Derived.WalkKit
import Derived.ProofKit
import Derived.OpenShut
import Derived.ShutString
import Derived.ChangeOld
import Derived.Below
namespace Go.Proofs.Ytdjmjabbjjcgiaa.formatLeast
open Go.ChangeShapes Go.WideShapes Go.ChangeAt Go.RowKit
open Go.ChangeMaps (open_string shut_string)
set_option linter.unusedVariables false

theorem own : ownKnob Try.prog.godebug = none := by kernel_rfl
theorem laidOut : laidOutB Try.prog = true := by kernel_rfl


set_option maxHeartbeats 1600000 in
set_option maxRecDepth 100000 in
theorem walk (a0 : Option Addr) (len0 cap0 : Nat) (z0 : List Int) (w : World) (w0 : IsRow .u8 w a0 len0 cap0 z0) :
    Calls Try.prog 7 #[.slice a0 len0 cap0] w fun e w' => e = .returned (.bool true) ∧ Below w.heap.size w w' := by
  have hcap := w0.cap
  obtain ⟨l, hl⟩ := w0.reads u8_nonneg
  clear w0
  by_cases hbig : 3000 < len0
  · have g1 : decide (3000 < len0) = true := by simp; omega
    go_enter Try.func7, Try.ntmps7
    go_wp2_with fail
    refine (awake_any _).mono ?_; rintro e w2 ⟨rfl, hb⟩
    go_wp2_with fail
    refine (awake_any _).mono ?_; rintro e w3 ⟨rfl, hb3⟩
    go_wp2
    go_ret
    exact ⟨rfl, hb.trans (hb3.mono hb.size)⟩
  · have hd : decide (3000 < len0) = false := by simp; omega
    go_enter Try.func7, Try.ntmps7
    go_wp2_with fail
    refine (awake_any _).mono ?_; rintro e w2 ⟨rfl, hb⟩
    have HL2 := Lib.hid ((hl.keep hb).mono hb.size)
    have HB := Lib.hid hb
    clear hb
    have hlen := hl.1
    clear hl
    go_wp2_with fail
    refine (decode_any a0 len0 cap0 l w2 HL2.out (Nat.le_refl _) (by omega)).mono ?_; rintro e w3 ⟨hb3, h3⟩
    have HL3 := Lib.hid ((HL2.out.keep hb3).mono hb3.size)
    have HB3 := Lib.hid (HB.out.trans (hb3.mono HB.out.size))
    have hs3 := HB3.out.size
    clear hb3
    rcases h3 with ⟨hf, rfl⟩ | ⟨M, E, A, c, ht, rfl, hr3⟩
    · have hple := dec_le l
      have hcut := (dec_cut l (dec l).2.2.2 hple).2 hf (Nat.le_refl _)
      generalize (dec l).2.2.2 = p at *
      have HCUT : Hid ((dec (l.take p)).1 = true ∨ dec (l.take p) = (false, 0, [], p)) := by
        rcases hcut with h | h
        · exact .inl h.1
        · exact .inr h
      clear hcut hf
      have HL4 := Lib.hid (((HL3.out.keep ((Below.refl _ _).alloc (Nat.le_refl _) (.cells #[.int .i64 0, .slice none 0 0] 24))).mono (show w3.heap.size ≤ (w3.alloc (.cells #[.int .i64 0, .slice none 0 0] 24)).heap.size by simp)).take (show p ≤ len0 by omega))
      have HB4 := Lib.hid (HB3.out.alloc hs3 (.cells #[.int .i64 0, .slice none 0 0] 24))
      obtain ⟨i0, hi, hz0, hz1, hz2⟩ := info_parts info5
      have hsl : ∀ w' (kh : IntKind), (Instr.slice 27 (.slice a0 len0 cap0) none (some (.int kh (p : Int))) none).run Try.prog w' = .ok (.slice a0 p cap0) w' := fun w' kh =>
        run_head w' 27 5 i0 Try.underlying27 hi a0 len0 cap0 p (by omega) kh _ rfl
      go_wp2_with fail
      refine (decode_any a0 p cap0 (l.take p) _ HL4.out (Nat.le_refl _) (by omega)).mono ?_; rintro e w5 ⟨hb5, h5⟩
      have HB5 := Lib.hid (HB4.out.trans (hb5.mono HB4.out.size))
      have hw5 := HB5.out.size
      clear hb5
      rcases h5 with ⟨hf5, rfl⟩ | ⟨M, E, A, c, ht, rfl, hr3⟩
      · have hp : (dec (l.take p)).2.2.2 = p := by
          rcases HCUT.out with h | h
          · rw [h] at hf5; cases hf5
          · rw [h]
        rw [hp]
        clear hp hf5
        have HB6 := Lib.hid (HB5.out.alloc (show w.heap.size ≤ w5.heap.size by omega) (.cells #[.int .i64 0, .slice none 0 0] 24))
        go_wp2
        go_ret
        exact ⟨rfl, HB6.out⟩
      · clear ht hr3
        have HB6 := Lib.hid (HB5.out.alloc (show w.heap.size ≤ w5.heap.size by omega) (.cells #[.int .i64 (M : Int), .slice A E.length c] 24))
        go_wp2
        go_ret
        exact ⟨rfl, HB6.out⟩
    · clear ht hr3
      have HB4 := Lib.hid (HB3.out.alloc hs3 (.cells #[.int .i64 (M : Int), .slice A E.length c] 24))
      go_wp2
      go_ret
      exact ⟨rfl, HB4.out⟩

set_option maxRecDepth 100000 in
theorem lifted (os : Os) (started : os.Started) (H : Type) (enc : TypeId × Value → H) :
    ReturnsInHanded {} Try.checked os 7 .any (Rows.formatLeastSpec.pre6 enc Try.prog Try.f7 Rows.formatLeastRow.domain false) (Rows.formatLeastSpec.post enc Try.prog Try.f7 false true false false) := by
  refine returnsInHanded_of_change (C := Try.checked) own started (by kernel_rfl) Try.func7
    (ChangeSpec.witness6 (enc := enc) (C := Try.checked) false ⟨#[], #[.slice none 0 0], []⟩ 8 (by kernel_rfl) (by kernel_rfl) (by kernel_rfl) (by kernel_rfl)) ?_
  intro W base args ds gs before hval0 hW hcnd _
  have hval : ∀ (j : Nat) t v, Try.f7.params[j]? = some t → args[j]? = some v → Value.okWide Try.prog W .any base t v := hval0
  have hW' := hW
  obtain ⟨p, q, hA0, hV, rfl, hfz, hnd⟩ := hW
  have hA : DataW.TrodAll enc Try.prog W 0 (fun _ => true) true Try.f7.params.toList args.toList ds p := hA0
  rw [Try.params7] at hA hval
  obtain ⟨v0, vs0, d0, ds0, p0, q0, hargs, rfl, rfl, h0, r0⟩ := trodAll_cons hA
  obtain ⟨rfl, rfl, rfl⟩ := trodAll_nil r0
  obtain rfl : args = #[v0] := by cases args; simp_all
  obtain ⟨rfl, rfl⟩ := trodVars_none hV
  have k0 := h0
  have lt0 : ∀ x ∈ p0, x.block < W.heap.size := by obtain ⟨m, hm⟩ := k0; exact DataW.trod_lt m _ _ _ hm
  obtain ⟨a0, len0, cap0, rfl⟩ := okWide_slice Try.underlying27 (hval 0 27 v0 rfl rfl)
  obtain ⟨z0, w0⟩ : ∃ zs, IsRow .u8 W a0 len0 cap0 zs := by
    obtain ⟨fuel, hf⟩ := h0
    rcases open_ints Try.underlying27 Try.underlying5 (by kernel_rfl) hf with ⟨hcs, _⟩ | ⟨x, l, c, zs, hcs, _, hl, hm, hz, _, hcell, hwz⟩
    · simp [Value.cells] at hcs
      obtain ⟨rfl, rfl, rfl⟩ := hcs
      exact ⟨[], .inl ⟨rfl, rfl, rfl, rfl⟩⟩
    · simp [Value.cells] at hcs
      obtain ⟨rfl, rfl, rfl⟩ := hcs
      exact ⟨zs, .inr ⟨_, rfl, hl, hm, by simpa using hz, hcell, hwz⟩⟩
  clear hA0 hval0
  refine (walk a0 len0 cap0 z0 W w0).mono fun e W' ⟨he, bel⟩ => ?_
  subst he
  exact ⟨_, rfl, _, _, _, [], _, [], hW', trodAll_mk1 (shut_bool Try.underlying4 _), (trodAll_cons_mk (Below.trod laidOut (by kernel_rfl) (of_decide_eq_true (by kernel_rfl)) k0 bel lt0) trodAll_mk0), rfl, bel.frame _, fun h => by cases h⟩

theorem over : Rows.formatLeastRow.holds Try.pinned (OpenSpec.ofChange Rows.formatLeastSpec) :=
  OpenClaim.holds_of_wide 7 Try.f7 rfl rfl rfl rfl rfl rfl rfl ⟨rfl, rfl, rfl, rfl, rfl⟩ rfl rfl rfl rfl rfl (by kernel_rfl) Try.func7 (by kernel_rfl)
    (of_decide_eq_true (by kernel_rfl)) (by unfold Func.isWrapper; first | (rw [if_pos (by decide +kernel)]; kernel_rfl) | (rw [if_neg (by decide +kernel)]; exact ⟨rfl, rfl⟩))
    (fun os started H enc _ => lifted os started H enc)

theorem proved : Rows.FormatLeastSaid := over
end Go.Proofs.Ytdjmjabbjjcgiaa.formatLeast
