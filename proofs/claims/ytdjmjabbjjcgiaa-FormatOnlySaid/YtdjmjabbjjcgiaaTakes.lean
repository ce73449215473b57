/- What varint.mayStand and varint.Take answer, as the function scan of the bytes; for slices of at most 100000 bytes, at places from 0 to their length. -/
import Derived.Test.YtdjmjabbjjcgiaaWords
import Derived.Laws.Bits64b
namespace Go.Proofs.Ytdjmjabbjjcgiaa
open Go.ChangeShapes Go.WideShapes Go.ChangeAt Go.RowKit

def okB (c : Nat) (p : Int) : Bool := decide (p = 0) || (if p = 9 then decide (c = 1) else decide (c ≠ 0))

def scan : List Nat → Nat → Nat → Nat × Nat × Nat
  | [], p, _ => (0, p, 3)
  | c :: r, p, x => if okB c p then (if c < 128 then (x + c % 128 * 128 ^ p, p + 1, 0) else scan r (p + 1) (x + c % 128 * 128 ^ p)) else (0, p, 3)

theorem drop_cons {l : List Nat} {k : Nat} (h : k < l.length) : l.drop k = l.getD k 0 :: l.drop (k + 1) := by
  rw [List.drop_eq_getElem_cons h]; simp [h]

theorem pow128 (p : Nat) : 128 ^ p = 2 ^ (7 * p) := by rw [Nat.pow_mul]

theorem step_lt {c p : Nat} (hp : p ≤ 9) (h9 : p = 9 → c = 1) : c % 128 * 128 ^ p ≤ 9223372036854775808 := by
  by_cases e : p = 9
  · subst e; have := h9 rfl; subst this; decide
  · have h1 : 128 ^ p ≤ 128 ^ 8 := Nat.pow_le_pow_right (by omega) (by omega)
    have h2 : c % 128 * 128 ^ p ≤ 127 * 128 ^ 8 := Nat.mul_le_mul (by omega) h1
    have h3 : 127 * 128 ^ 8 ≤ 9223372036854775808 := by decide
    omega
theorem pow9 {p : Nat} (hp : p ≤ 9) : 128 ^ p ≤ 9223372036854775808 := Nat.le_trans (Nat.pow_le_pow_right (by omega) hp) (by decide)

/-- the walk's value of 'x |= uint64(c%128) << (7*p)' -/
theorem or_step {y c p : Nat} (hy : y < 128 ^ p) (hp : p ≤ 9) (h9 : p = 9 → c = 1) :
    bits .or .u64 (y : Int) (IntKind.u64.wrap ((c : Int) % 128 * 2 ^ (7 * p))) = ((y + c % 128 * 128 ^ p : Nat) : Int) := by
  have h1 := step_lt hp h9
  have h2 := pow9 hp
  have e : (c : Int) % 128 * 2 ^ (7 * p) = ((c % 128 * 128 ^ p : Nat) : Int) := by rw [pow128]; push_cast; rfl
  rw [e, IntWalk.u64_in _ (by omega), bits_or_u64_nat _ _ (by omega) (by omega)]
  congr 1
  rw [pow128, Nat.mul_comm, Nat.or_comm, ← Nat.two_pow_add_eq_or_of_lt (by rw [← pow128]; exact hy)]
  omega

theorem u64_add {y c p : Nat} (hy : y < 128 ^ p) : y + c % 128 * 128 ^ p < 128 ^ (p + 1) := by
  have : c % 128 * 128 ^ p ≤ 127 * 128 ^ p := Nat.mul_le_mul_right _ (by omega)
  rw [Nat.pow_succ]; omega

theorem ok9 {c p : Nat} (h : okB c p = true) : p = 9 → c = 1 := by
  intro e; subst e; simpa [okB] using h

set_option maxHeartbeats 400000 in
set_option maxRecDepth 100000 in
theorem may_any (c : Nat) (p : Int) (hp : 0 ≤ p ∧ p ≤ 1000000) (w : World) :
    Calls Try.prog 64 #[.int .u8 c, .int .i64 p] w fun e w' => e = .returned (.bool (okB c p)) ∧ w = w' := by
  by_cases h0 : p = 0
  · subst h0
    go_enter Try.func64, Try.ntmps64
    go_wp2
    go_ret
    exact ⟨ret_bool (by simp [okB]), rfl⟩
  · have h0' : (p == 0) = false := by simp [h0]
    by_cases h9 : p = 9
    · subst h9
      go_enter Try.func64, Try.ntmps64
      go_wp2
      go_ret
      exact ⟨ret_bool (by rw [Bool.eq_iff_iff]; simp [okB]; omega), rfl⟩
    · have h9' : (p == 9) = false := by simp [h9]
      go_enter Try.func64, Try.ntmps64
      go_wp2
      go_ret
      exact ⟨ret_bool (by rw [Bool.eq_iff_iff]; simp [okB, h0, h9]), rfl⟩

theorem ret3 {k1 k2 k3 : IntKind} {a b c a' b' c' : Int} (h1 : a = a') (h2 : b = b') (h3 : c = c') : Ending.returned (.tuple #[.int k1 a, .int k2 b, .int k3 c]) = .returned (.tuple #[.int k1 a', .int k2 b', .int k3 c']) := by rw [h1, h2, h3]

theorem ok_lt {c p : Nat} (h : okB c p = true) (hp : p ≤ 9) (hc : ¬ c < 128) : p + 1 ≤ 9 := by
  have := ok9 h
  by_cases e : p = 9
  · have := this e; omega
  · omega

set_option maxHeartbeats 800000 in
set_option maxRecDepth 100000 in
theorem take_in (a : Option Addr) (n cap : Nat) (l : List Nat) (t : Nat) (w : World) (hl : Reads .u8 w w.heap.size a n l) (hn : n ≤ 100000) (ht : t ≤ n) :
    Calls Try.prog 44 #[.slice a n cap, .int .i64 t] w fun e w' => e = .returned (.tuple #[.int .u64 (scan (l.drop t) 0 0).1, .int .i64 ((t + (scan (l.drop t) 0 0).2.1 : Nat)), .int .i64 (scan (l.drop t) 0 0).2.2]) ∧ ∃ m, w.drewN m = w' := by
  have hlen := hl.1
  have HL : Hid (l.length = n) := hlen
  clear hlen
  have ht' : decide (n < t) = false := by simp; omega
  have ht'' : decide ((t : Int) < 0) = false := by simp
  go_enter Try.func44, Try.ntmps44
  go_wp2
  go_loopw [7, 8] (fun x j wr => ∃ k y : Nat, t ≤ k ∧ k ≤ n ∧ k - t ≤ 9 ∧ Hid (y < 128 ^ (k - t)) ∧ Hid (scan (l.drop k) (k - t) y = scan (l.drop t) 0 0) ∧ x = .int .u64 y ∧ j = .int .i64 k ∧ ∃ m, wr = w.drewN m) (fun _ j _ => n - (intOf j).toNat)
  case atStart => exact ⟨t, 0, by omega, by omega, by omega, Nat.pow_pos (by omega), by rw [Nat.sub_self]; exact rfl, rfl, rfl, 0, rfl⟩
  case round =>
    obtain ⟨k, y, hk1, hk2, hk9, HY, HS, rfl, rfl, m, rfl⟩ := hrel
    by_cases hlt : k < n
    · obtain ⟨b, off, c, rfl, hb, hcell, hwf, HC⟩ := hl.at_ hlt
      have hc := u8_lt hwf
      have hd1 : (0 : Int) ≤ (k : Int) - t := by omega
      have he : ((k : Int) - t) = ((k - t : Nat) : Int) := by omega
      have HD : Hid (l.drop k = c :: l.drop (k + 1)) := by have := HC.out; have h2 := HL.out; unfold Hid; rw [this]; exact drop_cons (by omega)
      by_cases hok : okB c ((k : Int) - t) = true
      · have hok2 : okB c ((k - t : Nat) : Int) = true := by rw [← he]; exact hok
        have h9 := ok9 hok2
        have HO : Hid (bits .or .u64 (y : Int) (IntKind.u64.wrap ((c : Int) % 128 * 2 ^ (7 * (k - t)))) = ((y + c % 128 * 128 ^ (k - t) : Nat) : Int)) := or_step HY.out hk9 h9
        have HE := Lib.hid he
        have HK := Lib.hid hok2
        have H9 := Lib.hid h9
        clear he hok2 h9
        by_cases h128 : c < 128
        · go_wp2_with (go_at_call 64; refine (may_any _ _ (by omega) _).mono ?_; rintro e w' ⟨rfl, rfl⟩)
          go_ret3
          have h1 : scan (l.drop t) 0 0 = (y + c % 128 * 128 ^ (k - t), k - t + 1, 0) := by
            rw [← HS.out, HD.out]; simp only [scan, HK.out, h128, if_true]
          rw [h1]
          exact ⟨ret3 HO.out (by simp; omega) rfl, m, rfl⟩
        · go_wp2_with (go_at_call 64; refine (may_any _ _ (by omega) _).mono ?_; rintro e w' ⟨rfl, rfl⟩)
          go_roundw
          case rel =>
            have h1 := ok_lt HK.out hk9 h128
            have e1 : k + 1 - t = (k - t) + 1 := by omega
            refine ⟨k + 1, y + c % 128 * 128 ^ (k - t), by omega, by omega, by omega, ?_, ?_, by rw [HO.out], by go_num, m, rfl⟩
            · rw [e1]; exact u64_add HY.out
            · unfold Hid; rw [e1, ← HS.out, HD.out]; simp only [scan, HK.out, h128, if_true, if_false]
          case measure => simp [intOf]; omega
      · have hok1 : okB c ((k : Int) - t) = false := by simpa using hok
        have HK : Hid (okB c ((k - t : Nat) : Int) = false) := by unfold Hid; rw [← he]; exact hok1
        clear hok
        clear he
        go_wp2_with (go_at_call 64; refine (may_any _ _ (by omega) _).mono ?_; rintro e w' ⟨rfl, rfl⟩)
        go_ret3
        have h1 : scan (l.drop t) 0 0 = (0, k - t, 3) := by
          rw [← HS.out, HD.out]; simp [scan, HK.out]
        rw [h1]
        exact ⟨ret3 rfl (by simp; omega) rfl, m, rfl⟩
    · go_wp2
      go_ret3
      have h1 : scan (l.drop t) 0 0 = (0, n - t, 3) := by
        have h2 := HL.out
        rw [← HS.out, List.drop_eq_nil_of_le (by omega)]; simp only [scan]
        congr 2; omega
      rw [h1]
      exact ⟨ret3 rfl (by simp; omega) rfl, m, rfl⟩

end Go.Proofs.Ytdjmjabbjjcgiaa
