/- What scan takes, in plain numbers: what is taken is the number whose bytes stand there. -/
import Derived.Test.YtdjmjabbjjcgiaaTakeAll
import Derived.Test.YtdjmjabbjjcgiaaSize
namespace Go.Proofs.Ytdjmjabbjjcgiaa

theorem scan_ok : ∀ (l : List Nat) (p y x u : Nat), (∀ c ∈ l, c < 256) → p ≤ 9 → y < 128 ^ p → scan l p y = (x, u, 0) →
    ∃ z, x = y + z * 128 ^ p ∧ p < u ∧ u ≤ p + l.length ∧ uv z = l.take (u - p) ∧ (0 < p → 0 < z) ∧ U64 x
  | [], p, y, x, u, _, _, _, h => by simp [scan] at h
  | c :: r, p, y, x, u, hl, hp, hy, h => by
    have hc : c < 256 := hl c (by simp)
    unfold scan at h
    by_cases hok : okB c p = true
    · rw [if_pos hok] at h
      have h9 := ok9 hok
      by_cases h128 : c < 128
      · rw [if_pos h128] at h
        injection h with h1 h2
        injection h2 with h2 _
        subst h1 h2
        have hm : c % 128 = c := Nat.mod_eq_of_lt h128
        refine ⟨c, by rw [hm], by omega, by simp, ?_, ?_, ?_⟩
        · rw [uv_small h128, show p + 1 - p = 1 by omega]; rfl
        · intro hp0
          have := okB_iff.1 hok
          omega
        · have h1 := step_lt hp h9
          have h2 := pow9 hp
          unfold U64
          generalize 128 ^ p = q at *
          generalize c % 128 * q = z at *
          omega
      · rw [if_neg h128] at h
        have hp1 := ok_lt hok hp h128
        obtain ⟨z, hz1, hz2, hz3, hz4, hz5, hz6⟩ := scan_ok r (p + 1) _ x u (fun c hc => hl c (by simp [hc])) hp1 (u64_add hy) h
        have hz0 := hz5 (by omega)
        refine ⟨c % 128 + 128 * z, ?_, by omega, by simp only [List.length_cons]; omega, ?_, by omega, hz6⟩
        · rw [hz1, Nat.pow_succ, Nat.add_mul]
          have : z * (128 ^ p * 128) = 128 * z * 128 ^ p := by rw [Nat.mul_comm (128 ^ p), ← Nat.mul_assoc, Nat.mul_comm z]
          omega
        · rw [uv_big (by omega), show u - p = (u - (p + 1)) + 1 by omega, List.take_succ_cons, ← hz4]
          rw [show (c % 128 + 128 * z) % 128 + 128 = c by omega, show (c % 128 + 128 * z) / 128 = z by omega]
    · rw [if_neg hok] at h; simp at h

theorem scan_err : ∀ (l : List Nat) (p y : Nat), (scan l p y).2.2 = 0 ∨ ((scan l p y).2.2 = 3 ∧ (scan l p y).1 = 0)
  | [], p, y => by simp [scan]
  | c :: r, p, y => by
    unfold scan
    split
    · split
      · simp
      · exact scan_err r _ _
    · simp

/-- What is put is taken: the number's bytes, whatever stands behind. -/
theorem scan_uv : ∀ (f z p y : Nat) (r : List Nat), z < f → y < 128 ^ p → (0 < p → 0 < z) → p ≤ 9 → y + z * 128 ^ p < 18446744073709551616 → scan (uv z ++ r) p y = (y + z * 128 ^ p, p + vs z, 0)
  | 0, z, _, _, _, h, _, _, _, _ => by omega
  | f + 1, z, p, y, r, hf, hy, hz, hp, hb => by
    have h2 := pow9 hp
    by_cases hs : z < 128
    · rw [uv_small hs, List.cons_append]
      have hok : okB z p = true := okB_iff.2 (by
        by_cases e : p = 9
        · subst e
          have h3 : z * 128 ^ 9 < 18446744073709551616 := by omega
          have h4 : (128 : Nat) ^ 9 = 9223372036854775808 := by decide
          rw [h4] at h3
          have := hz (by omega)
          omega
        · omega)
      unfold scan
      rw [if_pos hok, if_pos hs, Nat.mod_eq_of_lt hs, vs_small hs]
    · rw [uv_big hs, List.cons_append]
      have hp9 : p + 1 ≤ 9 := by
        by_cases e : p = 9
        · subst e
          have h3 : z * 128 ^ 9 < 18446744073709551616 := by omega
          have h4 : (128 : Nat) ^ 9 = 9223372036854775808 := by decide
          rw [h4] at h3
          omega
        · omega
      have hok : okB (z % 128 + 128) p = true := okB_iff.2 (by omega)
      have hm : (z % 128 + 128) % 128 = z % 128 := by omega
      have e1 : y + z * 128 ^ p = (y + z % 128 * 128 ^ p) + z / 128 * 128 ^ (p + 1) := by
        have h5 : z = z % 128 + 128 * (z / 128) := by omega
        have h6 : z * 128 ^ p = (z % 128 + 128 * (z / 128)) * 128 ^ p := by rw [← h5]
        rw [h6, Nat.pow_succ, Nat.add_mul]
        have : z / 128 * (128 ^ p * 128) = 128 * (z / 128) * 128 ^ p := by rw [Nat.mul_comm (128 ^ p), ← Nat.mul_assoc, Nat.mul_comm (z / 128)]
        omega
      have hy' : y + z % 128 * 128 ^ p < 128 ^ (p + 1) := by
        have := u64_add (c := z % 128 + 128) hy
        rwa [hm] at this
      have := scan_uv f (z / 128) (p + 1) (y + z % 128 * 128 ^ p) r (by omega) hy' (fun _ => by omega) hp9 (by rw [← e1]; exact hb)
      unfold scan
      rw [if_pos hok, if_neg (by omega), hm, this, vs_big hs, ← e1]
      congr 2
      omega
theorem scan_put (z : Nat) (r : List Nat) (h : U64 z) : scan (uv z ++ r) 0 0 = (z, vs z, 0) := by
  have := scan_uv (z + 1) z 0 0 r (by omega) (by decide) (fun h => absurd h (by omega)) (by omega) (by unfold U64 at h; omega)
  rw [this]; simp
end Go.Proofs.Ytdjmjabbjjcgiaa
