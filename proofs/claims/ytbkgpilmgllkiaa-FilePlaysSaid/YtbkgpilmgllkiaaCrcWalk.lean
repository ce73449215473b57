/- What crc.layOver, Next and Sum answer: the functions layC, nx and sm of natural numbers; for all arguments. -/
import Derived.Test.YtbkgpilmgllkiaaWords
import Derived.Test.YtbkgpilmgllkiaaCrcMath
namespace Go.Proofs.Ytbkgpilmgllkiaa
open Go.ChangeShapes Go.WideShapes Go.ChangeAt Go.RowKit

theorem sts_snoc (k r : Nat) : sts (k + 1) r = st (sts k r) := by
  rw [show k + 1 = 1 + k by omega, sts_more]; rfl

set_option maxHeartbeats 800000 in
set_option maxRecDepth 100000 in
theorem lay_any (r c : Nat) (w : World) (hr : r < 4294967296) (hc : c < 256) :
    Calls Try.prog 98 #[.int .u32 r, .int .u32 c] w fun e w' => e = .returned (.int .u32 (layC r c)) ∧ w = w' := by
  have hx := u32_xor_nat r c hr (by omega)
  have HX := Lib.hid hx
  have h0 : r ^^^ c < 4294967296 := Nat.xor_lt_two_pow (n := 32) hr (by omega)
  clear hx
  go_enter Try.func98, Try.ntmps98
  go_wp2
  rw [HX.out]
  go_loop [0, 9] (fun nv kv => ∃ k n : Nat, k ≤ 8 ∧ n < 4294967296 ∧ kv = .int .i64 k ∧ nv = .int .u32 n ∧ Hid (n = sts k (r ^^^ c))) (fun _ kv => 8 - (intOf kv).toNat)
  case atStart => exact ⟨0, _, by omega, h0, rfl, rfl, rfl⟩
  case round =>
    obtain ⟨k, n, hk, hn, rfl, rfl, HN⟩ := hrel
    by_cases hlt : k < 8
    · have hand : bits .and .u32 (n : Int) 1 = ((n % 2 : Nat) : Int) := by
        have h := u32_and_nat n 1 hn (by decide)
        rwa [Nat.and_one_is_mod] at h
      have hdiv : IntKind.u32.wrap ((n : Int) / 2) = ((n / 2 : Nat) : Int) := by rw [IntKind.wrap_u32']; omega
      have HX2 := Lib.hid (u32_xor_nat (n / 2) 3988292384 (by omega) (by decide))
      have HS : Hid (∀ m, m = st n → m = sts (k + 1) (r ^^^ c)) := fun m hm => by rw [hm, sts_snoc, HN.out]
      have HL : Hid (st n < 4294967296) := st_lt hn
      by_cases hodd : n % 2 = 1
      · have g : (bits .and .u32 (n : Int) 1 == 1) = true := by rw [hand, hodd]; rfl
        clear hand hdiv
        go_wp2
        go_round
        case rel => exact ⟨k + 1, n / 2 ^^^ 3988292384, by omega, by have := HL.out; unfold st at this; rwa [if_pos hodd] at this, by go_num, congrArg (Value.int .u32) HX2.out, HS.out _ (by unfold st; rw [if_pos hodd])⟩
        case measure => simp [intOf]; omega
      · have g : (bits .and .u32 (n : Int) 1 == 1) = false := by rw [hand, show n % 2 = 0 by omega]; rfl
        clear hand hdiv
        go_wp2
        go_round
        case rel => exact ⟨k + 1, n / 2, by omega, by omega, by go_num, rfl, HS.out _ (by unfold st; rw [if_neg hodd])⟩
        case measure => simp [intOf]; omega
    · obtain rfl : k = 8 := by omega
      go_wp2
      go_ret
      exact ⟨ret_int (by rw [HN.out]; rfl), rfl⟩

theorem bits_cm (s : Nat) (hs : s < 4294967296) : bits .xor .u32 IntKind.u32.max (s : Int) = (cm s : Int) := by
  rw [show IntKind.u32.max = 4294967295 by decide]
  have h := u32_xor_nat 4294967295 s (by decide) hs
  have e : cm s = 4294967295 ^^^ s := by unfold cm cmx top; exact Eq.refl _
  rw [e]; exact h

set_option maxHeartbeats 800000 in
set_option maxRecDepth 100000 in
theorem next_any (s x : Nat) (w : World) (hs : s < 4294967296) (hx : x < 18446744073709551616) :
    Calls Try.prog 95 #[.int .u32 s, .int .u64 x] w fun e w' => e = .returned (.int .u32 (nx s x)) ∧ w = w' := by
  have HX := Lib.hid (bits_cm s hs)
  have h0 : cm s < 4294967296 := cm_lt hs
  go_enter Try.func95, Try.ntmps95
  go_wp2
  rw [HX.out]
  go_loop [1, 5, 8] (fun xv rv kv => ∃ k y r : Nat, k ≤ 8 ∧ r < 4294967296 ∧ y < 18446744073709551616 ∧ kv = .int .i64 k ∧ xv = .int .u64 y ∧ rv = .int .u32 r ∧ Hid (wd (8 - k) r y = wd 8 (cm s) x)) (fun _ _ kv => 8 - (intOf kv).toNat)
  case atStart => exact ⟨0, x, _, by omega, h0, hx, rfl, rfl, rfl, rfl⟩
  case round =>
    obtain ⟨k, y, r, hk, hr, hy, rfl, rfl, rfl, HN⟩ := hrel
    by_cases hlt : k < 8
    · have hb : bits .and .u64 (y : Int) 255 % 4294967296 = ((y % 256 : Nat) : Int) := by
        have h := u64_and_nat y 255 hy (by decide)
        rw [show (255 : Nat) = 2 ^ 8 - 1 from rfl, Nat.and_two_pow_sub_one_eq_mod] at h
        have h2 : bits .and .u64 (y : Int) 255 = ((y % 256 : Nat) : Int) := h
        rw [h2]; omega
      have HB := Lib.hid hb
      clear hb
      have HS : Hid (wd (8 - (k + 1)) (layC r (y % 256)) (y / 256) = wd 8 (cm s) x) := by
        have h := HN.out
        rw [show 8 - k = (8 - (k + 1)) + 1 by omega] at h
        exact h
      have HL := layC_lt hr (show y % 256 < 256 by omega)
      go_wp2_with fail
      rw [HB.out]
      refine (lay_any r (y % 256) _ hr (by omega)).mono ?_; rintro e w' ⟨rfl, rfl⟩
      go_wp2
      go_round
      case rel => exact ⟨k + 1, y / 256, _, by omega, HL, by omega, by go_num, by go_num, rfl, HS.out⟩
      case measure => simp [intOf]; omega
    · obtain rfl : k = 8 := by omega
      have HC : Hid (bits .xor .u32 IntKind.u32.max (r : Int) = (nx s x : Int)) := by
        have h := HN.out
        unfold Hid
        rw [bits_cm r hr]
        have h2 : r = wd 8 (cm s) x := h
        rw [h2]; exact Eq.refl _
      go_wp2
      go_ret
      exact ⟨ret_int HC.out, rfl⟩

theorem sm_next {l : List Nat} {n k c : Nat} (hl : l.length = n) (hk : k < n) (hc : c = l.getD k 0) : nx (sm (l.take k)) c = sm (l.take (k + 1)) := by
  rw [List.take_succ_eq_append_getElem (by omega), sm_snoc, hc, List.getD_eq_getElem?_getD, List.getElem?_eq_getElem (by omega)]
  exact Eq.refl _

set_option maxHeartbeats 800000 in
set_option maxRecDepth 100000 in
theorem sum_any (a : Option Addr) (n cap : Nat) (l : List Nat) (w : World) {B : Nat} (hl : Reads .u64 w B a n l) (hn : n ≤ 1000000) :
    Calls Try.prog 94 #[.slice a n cap] w fun e w' => e = .returned (.int .u32 (sm l)) ∧ w = w' := by
  have HLEN := Lib.hid hl.1
  go_enter Try.func94, Try.ntmps94
  go_wp2
  go_loop [3, 8] (fun sv kv => ∃ k s : Nat, k ≤ n ∧ s < 4294967296 ∧ kv = .int .i64 k ∧ sv = .int .u32 s ∧ Hid (s = sm (l.take k))) (fun _ kv => n - (intOf kv).toNat)
  case atStart => exact ⟨0, 0, by omega, by omega, rfl, rfl, rfl⟩
  case round =>
    obtain ⟨k, s, hk, hs, rfl, rfl, HN⟩ := hrel
    by_cases hlt : k < n
    · obtain ⟨b, o, c, rfl, hb, hc, hw, HC⟩ := hl.at_ hlt
      have hc64 := u64_lt hw
      have HS : Hid (nx s c = sm (l.take (k + 1))) := by
        unfold Hid; rw [HN.out]; exact sm_next HLEN.out hlt HC.out
      have HL := nx_lt c hs
      go_wp2_with fail
      refine (next_any s c _ hs hc64).mono ?_; rintro e w' ⟨rfl, rfl⟩
      go_wp2
      go_round
      case rel => exact ⟨k + 1, _, by omega, HL, by go_num, rfl, HS.out⟩
      case measure => simp [intOf]; omega
    · obtain rfl : k = n := by omega
      go_wp2
      go_ret
      exact ⟨ret_int (by rw [HN.out, List.take_of_length_le (by have := HLEN.out; omega)]), rfl⟩
end Go.Proofs.Ytbkgpilmgllkiaa
