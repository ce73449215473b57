/- What varint.Size answers: the length of the number's bytes; for every number of 64 bits. -/
import Derived.Test.YtdjmjabbjjcgiaaWords
namespace Go.Proofs.Ytdjmjabbjjcgiaa
open Go.ChangeShapes Go.WideShapes Go.ChangeAt Go.RowKit
def U64 (n : Nat) : Prop := n < 18446744073709551616

/-- a number's bytes, with f bounding how many there are -/
def uvF : Nat → Nat → List Nat
  | 0, _ => []
  | f + 1, x => if x < 128 then [x] else (x % 128 + 128) :: uvF f (x / 128)
def uv (x : Nat) : List Nat := uvF (x + 1) x
theorem uvF_any : ∀ (f g x : Nat), x < f → x < g → uvF f x = uvF g x
  | 0, _, x, h, _ => by omega
  | _, 0, x, _, h => by omega
  | f + 1, g + 1, x, hf, hg => by
    simp only [uvF]
    by_cases h : x < 128
    · rw [if_pos h, if_pos h]
    · rw [if_neg h, if_neg h, uvF_any f g (x / 128) (by omega) (by omega)]
theorem uv_small {x : Nat} (h : x < 128) : uv x = [x] := by unfold uv uvF; rw [if_pos h]
theorem uv_big {x : Nat} (h : ¬ x < 128) : uv x = (x % 128 + 128) :: uv (x / 128) := by
  show uvF (x + 1) x = _
  unfold uvF; rw [if_neg h]; congr 1
  exact uvF_any _ _ _ (by omega) (by omega)
theorem uvF_len : ∀ (k f x : Nat), x < 128 ^ (k + 1) → (uvF f x).length ≤ k + 1
  | _, 0, x, _ => by simp [uvF]
  | 0, f + 1, x, h => by simp only [uvF]; rw [if_pos (by simpa using h)]; simp
  | k + 1, f + 1, x, h => by
    simp only [uvF]
    by_cases hx : x < 128
    · rw [if_pos hx]; simp
    · rw [if_neg hx, List.length_cons]
      have := uvF_len k f (x / 128) (by rw [Nat.pow_succ] at h; exact Nat.div_lt_of_lt_mul (by rw [Nat.mul_comm]; exact h))
      omega
theorem uvF_byte : ∀ (f x : Nat), ∀ c ∈ uvF f x, c < 256
  | 0, _, c, h => by simp [uvF] at h
  | f + 1, x, c, h => by
    simp only [uvF] at h
    by_cases hx : x < 128
    · rw [if_pos hx] at h; simp at h; omega
    · rw [if_neg hx] at h
      rcases List.mem_cons.1 h with h | h
      · omega
      · exact uvF_byte f _ c h
theorem uv_byte {x c : Nat} (h : c ∈ uv x) : c < 256 := uvF_byte _ _ _ h
def vs (x : Nat) : Nat := (uv x).length
theorem vs_small {x : Nat} (h : x < 128) : vs x = 1 := by rw [vs, uv_small h]; rfl
theorem vs_big {x : Nat} (h : ¬ x < 128) : vs x = vs (x / 128) + 1 := by rw [vs, uv_big h]; rfl
theorem vs_pos (x : Nat) : 1 ≤ vs x := by
  by_cases h : x < 128
  · have := vs_small h; omega
  · have := vs_big h; omega
theorem vs_le {x : Nat} (h : U64 x) : vs x ≤ 10 := uvF_len 9 _ x (Nat.lt_of_lt_of_le h (by decide))
theorem u64_div {y : Nat} (h : U64 y) : U64 (y / 128) := by unfold U64 at *; omega

set_option maxHeartbeats 400000 in
set_option maxRecDepth 100000 in
theorem size_any (x : Nat) (hx : U64 x) (w : World) :
    Calls Try.prog 32 #[.int .u64 x] w fun e w' => e = .returned (.int .i64 (vs x)) ∧ w = w' := by
  have hp := vs_pos x
  have hv := vs_le hx
  go_enter Try.func32, Try.ntmps32
  go_wp2
  go_loop [0, 3] (fun a n => ∃ y m : Nat, U64 y ∧ 1 ≤ m ∧ m ≤ 10 ∧ m + vs y = vs x + 1 ∧ a = .int .u64 y ∧ n = .int .i64 m) (fun a _ => (intOf a).toNat)
  case atStart => exact ⟨x, 1, hx, by omega, by omega, by omega, rfl, rfl⟩
  case round =>
    obtain ⟨y, m, hy, hm1, hm2, hm, rfl, rfl⟩ := hrel
    by_cases hlt : y < 128
    · have e1 := vs_small hlt
      go_wp2
      go_ret
      exact ⟨ret_int (by omega), rfl⟩
    · have e1 := vs_big hlt
      have hp2 := vs_pos (y / 128)
      have hd := u64_div hy
      have HE := Lib.hid e1; clear e1
      go_wp2
      go_round
      case rel => 
        have e1 := HE.out
        refine ⟨y / 128, m + 1, hd, by omega, by omega, by omega, ?_, by go_num⟩
        go_num
      case measure => simp [intOf]; omega
end Go.Proofs.Ytdjmjabbjjcgiaa
