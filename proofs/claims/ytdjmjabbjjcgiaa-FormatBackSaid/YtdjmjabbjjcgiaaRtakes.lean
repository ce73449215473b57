/- What the reference's Take answers: the same function scan; for slices of at most 100000 bytes, at places from 0 to their length. -/
import Derived.Test.YtdjmjabbjjcgiaaTakes
namespace Go.Proofs.Ytdjmjabbjjcgiaa
open Go.ChangeShapes Go.WideShapes Go.ChangeAt Go.RowKit

theorem okB_iff {c p : Nat} : okB c (p : Int) = true ↔ p = 0 ∨ (p = 9 ∧ c = 1) ∨ (p ≠ 9 ∧ c ≠ 0) := by
  unfold okB
  by_cases h : (p : Int) = 9
  · rw [if_pos h]; simp; omega
  · rw [if_neg h]; simp; omega

def pw (p : Nat) : Nat := 128 ^ p

/-- the reference's value of 'x + c%128*by' -/
theorem add_step {y c p : Nat} (hy : y < 128 ^ p) (hp : p ≤ 9) (h9 : p = 9 → c = 1) :
    IntKind.u64.wrap ((y : Int) + IntKind.u64.wrap ((c : Int) % 128 * (pw p : Int))) = ((y + c % 128 * 128 ^ p : Nat) : Int) := by
  have h1 := step_lt hp h9
  have h2 := pow9 hp
  unfold pw
  generalize 128 ^ p = q at *
  have e : (c : Int) % 128 * (q : Int) = ((c % 128 * q : Nat) : Int) := by push_cast; rfl
  rw [e]
  generalize c % 128 * q = z at *
  rw [IntWalk.u64_in (z : Int) (by omega), IntWalk.u64_in _ (by omega)]
  omega

theorem by_step {p : Nat} (hp : p + 1 ≤ 9) : IntKind.u64.wrap ((pw p : Int) * 128) = (pw (p + 1) : Int) := by
  have h2 := pow9 hp
  have e : (pw p : Int) * 128 = (pw (p + 1) : Int) := by unfold pw; rw [Nat.pow_succ]; push_cast; rfl
  rw [e]
  unfold pw
  generalize 128 ^ (p + 1) = q at *
  exact IntWalk.u64_in _ (by omega)

set_option maxHeartbeats 1600000 in
set_option maxRecDepth 100000 in
theorem rtake_in (a : Option Addr) (n cap : Nat) (l : List Nat) (t : Nat) (w : World) (hl : Reads .u8 w w.heap.size a n l) (hn : n ≤ 100000) (ht : t ≤ n) :
    Calls Try.prog 37 #[.slice a n cap, .int .i64 t] w fun e w' => e = .returned (.tuple #[.int .u64 (scan (l.drop t) 0 0).1, .int .i64 ((t + (scan (l.drop t) 0 0).2.1 : Nat)), .int .i64 (scan (l.drop t) 0 0).2.2]) ∧ ∃ m, w.drewN m = w' := by
  have hlen := hl.1
  have HL : Hid (l.length = n) := hlen
  clear hlen
  have ht' : decide (n < t) = false := by simp; omega
  have ht'' : decide ((t : Int) < 0) = false := by simp
  go_enter Try.func37, Try.ntmps37
  go_wp2
  go_loopw [7, 8, 9] (fun x b j wr => ∃ k y : Nat, t ≤ k ∧ k ≤ n ∧ k - t ≤ 9 ∧ Hid (y < 128 ^ (k - t)) ∧ Hid (scan (l.drop k) (k - t) y = scan (l.drop t) 0 0) ∧ x = .int .u64 y ∧ b = .int .u64 (pw (k - t)) ∧ j = .int .i64 k ∧ ∃ m, wr = w.drewN m) (fun _ _ j _ => n - (intOf j).toNat)
  case atStart => exact ⟨t, 0, by omega, by omega, by omega, Nat.pow_pos (by omega), by rw [Nat.sub_self]; exact rfl, rfl, by rw [Nat.sub_self]; rfl, rfl, 0, rfl⟩
  case round =>
    obtain ⟨k, y, hk1, hk2, hk9, HY, HS, rfl, rfl, rfl, m, rfl⟩ := hrel
    by_cases hlt : k < n
    · obtain ⟨b, off, c, rfl, hb, hcell, hwf, HC⟩ := hl.at_ hlt
      have hc := u8_lt hwf
      have hd1 : (0 : Int) ≤ (k : Int) - t := by omega
      have HD : Hid (l.drop k = c :: l.drop (k + 1)) := by have := HC.out; have h2 := HL.out; unfold Hid; rw [this]; exact drop_cons (by omega)
      by_cases hok : okB c ((k - t : Nat) : Int) = true
      · have h9 := ok9 hok
        have HO : Hid (IntKind.u64.wrap ((y : Int) + IntKind.u64.wrap ((c : Int) % 128 * ((pw (k - t) : Nat) : Int))) = ((y + c % 128 * 128 ^ (k - t) : Nat) : Int)) := add_step HY.out hk9 h9
        have HK := Lib.hid hok
        have H9 := Lib.hid h9
        have g3 : k ≤ t ∨ ((c : Int) == 0) = false := by
          by_cases h : k ≤ t
          · exact .inl h
          · right; have := okB_iff.1 hok; simp; omega
        clear hok h9
        by_cases h128 : c < 128
        · have h1 : scan (l.drop t) 0 0 = (y + c % 128 * 128 ^ (k - t), k - t + 1, 0) := by
            rw [← HS.out, HD.out]; simp only [scan, HK.out, h128, if_true]
          have H1 := Lib.hid h1
          clear h1
          by_cases hp9 : 9 ≤ k - t
          · have g1 : ((k : Int) - t == 9) = true := by simp; omega
            have g2 : ((c : Int) != 1) = false := by have := H9.out (by omega); simp; omega
            have g3' : ((c : Int) == 0) = false := by have := H9.out (by omega); simp; omega
            clear g3
            have g4 : decide (t < k) = true := by simp; omega
            go_wp2
            go_ret3
            rw [H1.out]
            exact ⟨ret3 HO.out (by simp; omega) rfl, m, rfl⟩
          · have g1 : ((k : Int) - t == 9) = false := by simp; omega
            rcases g3 with g3 | g3
            · obtain rfl : k = t := by omega
              have g4 : decide (k < k) = false := by simp
              go_wp2
              go_ret3
              rw [H1.out]
              exact ⟨ret3 (by have := HO.out; rw [Nat.sub_self] at this; rw [Nat.sub_self]; exact this) (by simp) rfl, m, rfl⟩
            · go_wp2
              all_goals
                go_ret3
                rw [H1.out]
                exact ⟨ret3 HO.out (by simp; omega) rfl, m, rfl⟩
        · have hp9 : k - t + 1 ≤ 9 := ok_lt HK.out hk9 h128
          have HB : Hid (IntKind.u64.wrap ((pw (k - t) : Int) * 128) = (pw (k - t + 1) : Int)) := by_step hp9
          have g1 : ((k : Int) - t == 9) = false := by simp; omega
          have g3' : ((c : Int) == 0) = false := by simp; omega
          clear g3
          go_wp2
          all_goals
            go_roundw
            case rel =>
              have e1 : k + 1 - t = (k - t) + 1 := by omega
              refine ⟨k + 1, y + c % 128 * 128 ^ (k - t), by omega, by omega, by omega, ?_, ?_, by rw [HO.out], by rw [HB.out, e1], by go_num, m, rfl⟩
              · rw [e1]; exact u64_add HY.out
              · unfold Hid; rw [e1, ← HS.out, HD.out]; simp only [scan, HK.out, h128, if_true, if_false]
            case measure => simp [intOf]; omega
      · have h1 : scan (l.drop t) 0 0 = (0, k - t, 3) := by
          rw [← HS.out, HD.out]; simp [scan, hok]
        have H1 := Lib.hid h1
        have g0 : t < k := by
          by_cases h : t < k
          · exact h
          · have e : k - t = 0 := by omega
            rw [e] at hok; simp [okB] at hok
        have g5 : (k - t = 9 ∧ c ≠ 1) ∨ (k - t ≠ 9 ∧ c = 0) := by
          have : ¬ (k - t = 0 ∨ (k - t = 9 ∧ c = 1) ∨ (k - t ≠ 9 ∧ c ≠ 0)) := fun h => hok (okB_iff.2 h)
          omega
        clear h1 hok
        rcases g5 with ⟨h9, hc1⟩ | ⟨h9, hc0⟩
        · have g1 : ((k : Int) - t == 9) = true := by simp; omega
          have g2 : ((c : Int) != 1) = true := by simp; omega
          clear h9 hc1
          go_wp2
          go_ret3
          rw [H1.out]
          exact ⟨ret3 rfl (by simp; omega) rfl, m, rfl⟩
        · have g1 : ((k : Int) - t == 9) = false := by simp; omega
          have g3 : ((c : Int) == 0) = true := by simp; omega
          clear h9 hc0
          go_wp2
          go_ret3
          rw [H1.out]
          exact ⟨ret3 rfl (by simp; omega) rfl, m, rfl⟩
    · go_wp2
      go_ret3
      have h1 : scan (l.drop t) 0 0 = (0, n - t, 3) := by
        have h2 := HL.out
        rw [← HS.out, List.drop_eq_nil_of_le (by omega)]; simp only [scan]
        congr 2; omega
      rw [h1]
      exact ⟨ret3 rfl (by simp; omega) rfl, m, rfl⟩
end Go.Proofs.Ytdjmjabbjjcgiaa
