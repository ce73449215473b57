/- What the laws' awake and the reference's Few answer. -/
import Derived.Test.YtdjmjabbjjcgiaaFormatEnc
import Derived.Lib.QuietBelow
namespace Go.Proofs.Ytdjmjabbjjcgiaa
open Go.ChangeShapes Go.WideShapes Go.ChangeAt Go.RowKit

theorem few_any (N : Int) (a : Option Addr) (n cap : Nat) (x y : Nat) (w : World) : Calls Try.prog 10 #[.agg #[.int .i64 N, .slice a n cap], .int .i64 (x : Int), .int .i64 (y : Int)] w fun e w' => e = .returned (.bool (decide (N ≤ (x : Int)) && decide (n ≤ y))) ∧ Below w.heap.size w w' := by
  by_cases h : N ≤ (x : Int)
  · have g : decide (N ≤ (x : Int)) = true := by simp; omega
    have HX : Hid ((decide (N ≤ (x : Int)) && decide (n ≤ y)) = decide (n ≤ y)) := by unfold Hid; rw [g, Bool.true_and]
    go_enter Try.func10, Try.ntmps10
    go_wp2
    go_ret
    exact ⟨ret_bool (by first | rfl | exact HX.out.symm), (Below.refl _ _).alloc (Nat.le_refl _) _⟩
  · have g : decide (N ≤ (x : Int)) = false := by simp; omega
    have HX : Hid ((decide (N ≤ (x : Int)) && decide (n ≤ y)) = false) := by unfold Hid; rw [g, Bool.false_and]
    go_enter Try.func10, Try.ntmps10
    go_wp2
    go_ret
    exact ⟨ret_bool (by first | rfl | exact HX.out.symm), (Below.refl _ _).alloc (Nat.le_refl _) _⟩

theorem diffs_byte : ∀ (p : Int) (es : List (Int × Int)), ∀ c ∈ diffs p es, c < 256
  | _, [], c, h => by simp [diffs] at h
  | p, e :: r, c, h => by
    simp only [diffs] at h
    rcases List.mem_append.1 h with h | h
    · exact uv_byte h
    · exact diffs_byte _ r c h
theorem encV_byte : ∀ (k u : Nat) (E : List (Int × Int)), ∀ c ∈ encV k u E, c < 256
  | 0, _, _, c, h => by simp [encV] at h
  | k + 1, u, E, c, h => by
    simp only [encV] at h
    rcases List.mem_append.1 h with h | h
    · exact uv_byte h
    · rcases List.mem_append.1 h with h | h
      · exact diffs_byte _ _ c h
      · exact encV_byte k _ _ c h
theorem enc_byte (N : Nat) (E : List (Int × Int)) : ∀ c ∈ enc N E, c < 256 := by
  intro c h
  unfold enc at h
  rcases List.mem_append.1 h with h | h
  · simp at h; omega
  · rcases List.mem_append.1 h with h | h
    · exact uv_byte h
    · rcases List.mem_append.1 h with h | h
      · exact uv_byte h
      · exact encV_byte _ _ _ c h
theorem awake_enc : enc 2 (order [(0, 1), (1, 1)]) = [71, 2, 2, 1, 1, 1, 0] := by
  have h : Good 2 0 [(0, 1), (1, 1)] := ⟨by decide, by decide⟩
  rw [h.order]; decide

set_option maxHeartbeats 800000 in
set_option maxRecDepth 100000 in
theorem awake_any (w : World) : Calls Try.prog 9 #[] w fun e w' => e = .returned (.bool true) ∧ Below w.heap.size w w' := by
  have HF : Hid (formed ((2 : Nat) : Int) [(0, 1), (1, 1)] = true) := by unfold Hid; decide
  have HE : Hid (ReadsE (w.alloc (.cells #[.int .i64 0, .int .i64 1, .int .i64 1, .int .i64 1] 43)) (w.heap.size + 1) (some ⟨w.heap.size, 0, none⟩) 2 [(0, 1), (1, 1)]) := by
    have h : Row (w.alloc (.cells #[.int .i64 0, .int .i64 1, .int .i64 1, .int .i64 1] 43)) w.heap.size 43 [.int .i64 0, .int .i64 1, .int .i64 1, .int .i64 1] := heap_alloc_new _ _
    refine ⟨rfl, fun x hx => ?_, fun _ => ⟨_, 0, rfl, Nat.lt_succ_self _, fun i hi => ?_⟩⟩
    · simp at hx
      rcases hx with rfl | rfl <;> exact ⟨I64.of (by decide) (by decide), I64.of (by decide) (by decide)⟩
    · match i, hi with
      | 0, _ => exact ⟨h.cell 0, h.cell 1⟩
      | 1, _ => exact ⟨h.cell 2, h.cell 3⟩
  go_enter Try.func9, Try.ntmps9
  go_wp2_with fail
  refine (encode_ok 2 _ 2 2 [(0, 1), (1, 1)] _ HF.out HE.out (by simp) (by omega)).mono ?_
  rintro e w1 ⟨v, rfl, ho, hb⟩
  rw [awake_enc] at ho
  obtain ⟨A, c, rfl, hr, _⟩ := own_reads ho (by intro x hx; exact u8_wf (by simp at hx; omega))
  have HB := Lib.hid (((Below.refl w.heap.size w).alloc (Nat.le_refl _) (.cells #[.int .i64 0, .int .i64 1, .int .i64 1, .int .i64 1] 43)).trans (hb.mono (by simp)))
  obtain ⟨b, off, rfl, hb2, hc⟩ := hr.2.2 (by decide)
  have hcv : (convert 27 9 (.slice (some ⟨b, off, none⟩) 7 c)).run Try.prog w1 = .ok (.string { data := #[71, 2, 2, 1, 1, 1, 0] }) w1 := by
    rw [run_string w1 27 9 5 Try.underlying27 Try.underlying5 Try.underlying9 b off 7 c [71, 2, 2, 1, 1, 1, 0] rfl hc]
    congr 2
  clear ho hb hr hc
  go_wp2
  go_ret
  exact ⟨rfl, HB.out⟩
end Go.Proofs.Ytdjmjabbjjcgiaa
