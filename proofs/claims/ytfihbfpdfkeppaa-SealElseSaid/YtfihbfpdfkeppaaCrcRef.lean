/- What the reference's Sum and the laws' awake answer. -/
import Derived.Test.YtfihbfpdfkeppaaCrcWalk
namespace Go.Proofs.Ytfihbfpdfkeppaa
open Go.ChangeShapes Go.WideShapes Go.ChangeAt Go.RowKit

theorem run_next {l : List Nat} {n k c r : Nat} (hl : l.length = n) (hk : k < n) (hc : c = l.getD k 0) (hr : r = run 4294967295 (l.take k)) : wd 8 r c = run 4294967295 (l.take (k + 1)) := by
  rw [List.take_succ_eq_append_getElem (by omega), run_snoc, hr, hc, List.getD_eq_getElem?_getD, List.getElem?_eq_getElem (by omega)]
  exact Eq.refl _

set_option maxHeartbeats 1600000 in
set_option maxRecDepth 100000 in
theorem rsum_any (a : Option Addr) (n cap : Nat) (l : List Nat) (w : World) {B : Nat} (hl : Reads .u64 w B a n l) (hn : n ≤ 1000000) :
    Calls Try.prog 16 #[.slice a n cap] w fun e w' => e = .returned (.int .u32 (sm l)) ∧ w = w' := by
  have HLEN := Lib.hid hl.1
  go_enter Try.func16, Try.ntmps16
  go_wp2
  go_loop [3, 4] (fun rv iv => ∃ i r : Nat, i ≤ n ∧ r < 4294967296 ∧ iv = .int .i64 i ∧ rv = .int .u32 r ∧ Hid (r = run 4294967295 (l.take i))) (fun _ iv => n - (intOf iv).toNat)
  case atStart => exact ⟨0, 4294967295, by omega, by omega, rfl, rfl, rfl⟩
  case round =>
    obtain ⟨i, r, hi, hr, rfl, rfl, HN⟩ := hrel
    by_cases hlt : i < n
    · obtain ⟨b, o, c, rfl, hb, hc, hw, HC⟩ := hl.at_ hlt
      have hc64 := u64_lt hw
      have HS : Hid (wd 8 r c = run 4294967295 (l.take (i + 1))) := run_next HLEN.out hlt HC.out HN.out
      go_wp2
      go_loop [3, 5, 6] (fun rv yv kv => ∃ k y q : Nat, k ≤ 8 ∧ q < 4294967296 ∧ y < 18446744073709551616 ∧ kv = .int .i64 k ∧ yv = .int .u64 y ∧ rv = .int .u32 q ∧ Hid (wd (8 - k) q y = wd 8 r c)) (fun _ _ kv => 8 - (intOf kv).toNat)
      case atStart => exact ⟨0, c, r, by omega, hr, hc64, rfl, rfl, rfl, rfl⟩
      case round =>
        obtain ⟨k, y, q, hk, hq, hy, rfl, rfl, rfl, HQ⟩ := hrel
        by_cases hk8 : k < 8
        · have HX : Hid (bits .xor .u32 (q : Int) ((y : Int) % 256) = ((q ^^^ y % 256 : Nat) : Int)) := by
            have h := u32_xor_nat q (y % 256) hq (by omega)
            unfold Hid; rw [← h]; rfl
          have hx := Nat.xor_lt_two_pow (n := 32) hq (show y % 256 < 2 ^ 32 by omega)
          have HS2 : Hid (wd (8 - (k + 1)) (lay q (y % 256)) (y / 256) = wd 8 r c) := by
            have h := HQ.out
            rw [show 8 - k = (8 - (k + 1)) + 1 by omega] at h
            exact h
          have HL := lay_lt hq (show y % 256 < 256 by omega)
          go_wp2
          rw [HX.out]
          go_loop [3, 7] (fun rv jv => ∃ j v : Nat, j ≤ 8 ∧ v < 4294967296 ∧ jv = .int .i64 j ∧ rv = .int .u32 v ∧ Hid (v = sts j (q ^^^ y % 256))) (fun _ jv => 8 - (intOf jv).toNat)
          case atStart => exact ⟨0, _, by omega, hx, rfl, rfl, rfl⟩
          case round =>
            obtain ⟨j, v, hj, hv, rfl, rfl, HV⟩ := hrel
            by_cases hj8 : j < 8
            · have HX2 := Lib.hid (u32_xor_nat (v / 2) 3988292384 (by omega) (by decide))
              have HS3 : Hid (∀ m, m = st v → m = sts (j + 1) (q ^^^ y % 256)) := fun m hm => by rw [hm, sts_snoc, HV.out]
              have HL3 : Hid (st v < 4294967296) := st_lt hv
              by_cases hodd : v % 2 = 1
              · have g : ((v : Int) % 2 == 1) = true := by simp; omega
                go_wp2
                go_round
                case rel => exact ⟨j + 1, v / 2 ^^^ 3988292384, by omega, by have := HL3.out; unfold st at this; rwa [if_pos hodd] at this, by go_num, congrArg (Value.int .u32) HX2.out, HS3.out _ (by unfold st; rw [if_pos hodd])⟩
                case measure => simp [intOf]; omega
              · have g : ((v : Int) % 2 == 1) = false := by simp; omega
                go_wp2
                go_round
                case rel => exact ⟨j + 1, v / 2, by omega, by omega, by go_num, rfl, HS3.out _ (by unfold st; rw [if_neg hodd])⟩
                case measure => simp [intOf]; omega
            · obtain rfl : j = 8 := by omega
              go_wp2
              go_round
              case rel => exact ⟨k + 1, y / 256, v, by omega, hv, by omega, by go_num, by go_num, rfl, by unfold Hid; rw [HV.out]; exact HS2.out⟩
              case measure => simp [intOf]; omega
        · obtain rfl : k = 8 := by omega
          have HE : Hid (q = run 4294967295 (l.take (i + 1))) := by
            unfold Hid; rw [← HS.out, ← HQ.out]; exact Eq.refl _
          go_wp2
          go_round
          case rel => exact ⟨i + 1, q, by omega, hq, by go_num, rfl, HE⟩
          case measure => simp [intOf]; omega
    · obtain rfl : i = n := by omega
      have HE : Hid (sm l = 4294967295 - r) := by
        unfold Hid
        rw [sm_run, ← cm_sub hr, HN.out, List.take_of_length_le (by have := HLEN.out; omega)]
      go_wp2
      go_ret
      exact ⟨ret_int (by rw [HE.out]; omega), rfl⟩

end Go.Proofs.Ytfihbfpdfkeppaa
