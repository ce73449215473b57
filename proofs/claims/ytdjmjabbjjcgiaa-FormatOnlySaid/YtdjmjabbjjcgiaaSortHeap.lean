/- sort.siftDown_func and heapSort_func, where 'less' may lay blocks. -/
import Derived.Test.YtdjmjabbjjcgiaaSortKit
import Derived.IntWalk
import Derived.Sort.WalkB3
namespace Go.Proofs.Ytdjmjabbjjcgiaa
open Go.ChangeShapes Go.WideShapes Go.ChangeAt Go.RowKit
open Go.Sort (swp size_swp PermIn SortedIn SWO)
open Go.Proofs (SWK SwapSwapsK sortWorldK)
open Go.Sort (HoldsK putRowK)
section
variable (lt : Int × Int → Int × Int → Bool)
theorem sd_end {hi F r : Nat} {d : Array (Int × Int)} (h : hi ≤ 2 * r + 1) : Sort.siftDown lt hi F r d = d := by
  rw [Sort.siftDown, dif_pos (by omega)]
theorem sd_two_stop {hi F r : Nat} {d : Array (Int × Int)} (h : 2 * r + 2 < hi) (h1 : lt d[F + (2 * r + 1)]! d[F + (2 * r + 2)]! = true) (h2 : lt d[F + r]! d[F + (2 * r + 2)]! = false) : Sort.siftDown lt hi F r d = d := by
  rw [Sort.siftDown, dif_neg (by omega)]
  rw [if_pos (by rw [show F + (2 * r + 1) + 1 = F + (2 * r + 2) by omega, h1]; simp; omega), if_pos (by rw [h2]; rfl)]
theorem sd_two_go {hi F r : Nat} {d : Array (Int × Int)} (h : 2 * r + 2 < hi) (h1 : lt d[F + (2 * r + 1)]! d[F + (2 * r + 2)]! = true) (h2 : lt d[F + r]! d[F + (2 * r + 2)]! = true) : Sort.siftDown lt hi F r d = Sort.siftDown lt hi F (2 * r + 2) (swp d (F + r) (F + (2 * r + 2))) := by
  conv => lhs; rw [Sort.siftDown]
  rw [dif_neg (by omega), if_pos (by rw [show F + (2 * r + 1) + 1 = F + (2 * r + 2) by omega, h1]; simp; omega), if_neg (by rw [h2]; simp), dif_pos h]
theorem sd_one_stop {hi F r : Nat} {d : Array (Int × Int)} (h : 2 * r + 1 < hi) (h1 : ¬ 2 * r + 2 < hi ∨ lt d[F + (2 * r + 1)]! d[F + (2 * r + 2)]! = false) (h2 : lt d[F + r]! d[F + (2 * r + 1)]! = false) : Sort.siftDown lt hi F r d = d := by
  rw [Sort.siftDown, dif_neg (by omega)]
  rw [if_neg (by rw [show F + (2 * r + 1) + 1 = F + (2 * r + 2) by omega]; rcases h1 with h1 | h1 <;> simp [h1] <;> omega), if_pos (by rw [h2]; rfl)]
theorem sd_one_go {hi F r : Nat} {d : Array (Int × Int)} (h : 2 * r + 1 < hi) (h1 : ¬ 2 * r + 2 < hi ∨ lt d[F + (2 * r + 1)]! d[F + (2 * r + 2)]! = false) (h2 : lt d[F + r]! d[F + (2 * r + 1)]! = true) : Sort.siftDown lt hi F r d = Sort.siftDown lt hi F (2 * r + 1) (swp d (F + r) (F + (2 * r + 1))) := by
  conv => lhs; rw [Sort.siftDown]
  rw [dif_neg (by omega), if_neg (by rw [show F + (2 * r + 1) + 1 = F + (2 * r + 2) by omega]; rcases h1 with h1 | h1 <;> simp [h1] <;> omega), if_neg (by rw [h2]; simp)]
theorem size_sift (hi F r : Nat) (d : Array (Int × Int)) : (Sort.siftDown lt hi F r d).size = d.size := Sort.size_siftDown lt hi F _ r d (Nat.le_refl _)
end
section
variable {g : Nat} {lb : Array Value} {sf : Nat} {sb : Array Value} {blk n : Nat} {w : World} {d : Array (Int × Int)}

set_option maxHeartbeats 4000000 in
set_option maxRecDepth 100000 in
theorem sift_any (S : Srt g lb sf sb blk n w d) (lo hi F : Nat) (hF : F + hi ≤ n) (hlo : lo ≤ hi) :
    Calls Try.prog 65 #[.agg #[.func (.func g) #[] lb, .func (.func sf) #[] sb], .int .i64 lo, .int .i64 hi, .int .i64 F] w fun e w' => e = .returned (.tuple #[]) ∧ SWK encE 2 w blk 0 (Sort.siftDown ltE hi F lo d) w' := by
  have HS := Lib.hid S
  have eg := S.eg
  have hsm := S.small
  have HM := Lib.hid (Mid.start S)
  clear S
  go_enter Try.func65, Try.ntmps65
  go_wp2
  go_loopw [8] (fun iv wr => ∃ (r : Nat) (dk : Array (Int × Int)), iv = .int .i64 r ∧ r ≤ hi ∧ Hid (Mid g lb sf sb blk n w w.heap.size dk wr) ∧ Hid (Sort.siftDown ltE hi F r dk = Sort.siftDown ltE hi F lo d)) (fun iv _ => hi - (intOf iv).toNat)
  case atStart => exact ⟨lo, d, rfl, hlo, HM.out, rfl⟩
  case round =>
    obtain ⟨r, dk, rfl, hr, HI, HO⟩ := hrel
    have c0 := HI.out.c0
    by_cases hend : hi ≤ 2 * r + 1
    · have g0 : decide ((hi : Int) ≤ 2 * (r : Int) + 1) = true := by simp; omega
      go_wp2
      go_end0
      exact ⟨rfl, by rw [← HO.out, sd_end ltE hend]; exact HI.out.sw⟩
    · have g0 : decide ((hi : Int) ≤ 2 * (r : Int) + 1) = false := by simp; omega
      -- what is done from where the greater child is known: root r, child c
      have hrest : ∀ (wq : World) (c : Nat), c < hi → r < c → Mid g lb sf sb blk n w w.heap.size dk wq →
          Calls Try.prog g (#[.int .i64 ((F : Int) + (r : Int)), .int .i64 ((F : Int) + (c : Int))] ++ lb) wq fun e w' => e = .returned (.bool (ltE dk[F + r]! dk[F + c]!)) ∧ Mid g lb sf sb blk n w w.heap.size dk w' := fun wq c hc hrc hm => by
        have := hm.less HS.out (F + r) (F + c) (by omega) (by omega)
        rw [show ((F + r : Nat) : Int) = (F : Int) + (r : Int) by omega, show ((F + c : Nat) : Int) = (F : Int) + (c : Int) by omega] at this
        exact this.mono fun e w' h => ⟨h.1, h.2.1⟩
      have HR := Lib.hid hrest
      clear hrest
      by_cases h2 : 2 * r + 2 < hi
      · have g1 : decide (2 * (r : Int) + 1 + 1 < (hi : Int)) = true := by simp; omega
        have hl := HI.out.less HS.out (F + (2 * r + 1)) (F + (2 * r + 2)) (by omega) (by omega)
        rw [show ((F + (2 * r + 1) : Nat) : Int) = (F : Int) + (2 * (r : Int) + 1) by omega, show ((F + (2 * r + 2) : Nat) : Int) = (F : Int) + (2 * (r : Int) + 1) + 1 by omega] at hl
        cases hlv : ltE dk[F + (2 * r + 1)]! dk[F + (2 * r + 2)]! with
        | true =>
          rw [hlv] at hl
          have HLV := Lib.hid hlv
          have HL := Lib.hid hl
          clear hlv hl
          go_wp2_with (go_at_fn g; refine HL.out.mono ?_; rintro e w2 ⟨rfl, hm2, _, _⟩; have c2 := hm2.c0)
          have hq := HR.out w2 (2 * r + 2) (by omega) (by omega) hm2
          rw [show ((2 * r + 2 : Nat) : Int) = 2 * (r : Int) + 1 + 1 by omega] at hq
          cases hl2 : ltE dk[F + r]! dk[F + (2 * r + 2)]! with
          | true =>
            rw [hl2] at hq
            have HG := Lib.hid (sd_two_go ltE h2 HLV.out hl2)
            clear hl2
            refine hq.mono ?_; rintro e w3 ⟨rfl, hm3⟩
            have c3 := hm3.c1
            obtain ⟨w4, hs, hm4, _, _⟩ := hm3.swap HS.out (F + r) (F + (2 * r + 2)) (by omega) (by omega)
            rw [show ((F + r : Nat) : Int) = (F : Int) + (r : Int) by omega, show ((F + (2 * r + 2) : Nat) : Int) = (F : Int) + (2 * (r : Int) + 1 + 1) by omega] at hs
            have HS2 := Lib.hid hs
            have HM4 := Lib.hid hm4
            clear hs hm4
            go_wp2
            rw [HS2.out, Oper.upon_value]
            go_wp2
            go_roundw
            case rel => exact ⟨2 * r + 2, swp dk (F + r) (F + (2 * r + 2)), congrArg (Value.int .i64) (by omega), by omega, HM4.out, by unfold Hid; rw [← HO.out, HG.out]⟩
            case measure => simp [intOf]; omega
          | false =>
            rw [hl2] at hq
            have HG := Lib.hid (sd_two_stop ltE h2 HLV.out hl2)
            clear hl2
            refine hq.mono ?_; rintro e w3 ⟨rfl, hm3⟩
            go_wp2
            refine bodyPost_ret (results_none rfl _ _ _) rfl ?_
            exact ⟨rfl, by rw [← HO.out, HG.out]; exact hm3.sw⟩
        | false =>
          rw [hlv] at hl
          have HLV := Lib.hid hlv
          have HL := Lib.hid hl
          clear hlv hl
          go_wp2_with (go_at_fn g; refine HL.out.mono ?_; rintro e w2 ⟨rfl, hm2, _, _⟩; have c2 := hm2.c0)
          have hq := HR.out w2 (2 * r + 1) (by omega) (by omega) hm2
          rw [show ((2 * r + 1 : Nat) : Int) = 2 * (r : Int) + 1 by omega] at hq
          cases hl2 : ltE dk[F + r]! dk[F + (2 * r + 1)]! with
          | true =>
            rw [hl2] at hq
            have HG := Lib.hid (sd_one_go ltE (hi := hi) (F := F) (r := r) (d := dk) (by omega) (.inr HLV.out) hl2)
            clear hl2
            refine hq.mono ?_; rintro e w3 ⟨rfl, hm3⟩
            have c3 := hm3.c1
            obtain ⟨w4, hs, hm4, _, _⟩ := hm3.swap HS.out (F + r) (F + (2 * r + 1)) (by omega) (by omega)
            rw [show ((F + r : Nat) : Int) = (F : Int) + (r : Int) by omega, show ((F + (2 * r + 1) : Nat) : Int) = (F : Int) + (2 * (r : Int) + 1) by omega] at hs
            have HS2 := Lib.hid hs
            have HM4 := Lib.hid hm4
            clear hs hm4
            go_wp2
            rw [HS2.out, Oper.upon_value]
            go_wp2
            go_roundw
            case rel => exact ⟨2 * r + 1, swp dk (F + r) (F + (2 * r + 1)), congrArg (Value.int .i64) (by omega), by omega, HM4.out, by unfold Hid; rw [← HO.out, HG.out]⟩
            case measure => simp [intOf]; omega
          | false =>
            rw [hl2] at hq
            have HG := Lib.hid (sd_one_stop ltE (hi := hi) (F := F) (r := r) (d := dk) (by omega) (.inr HLV.out) hl2)
            clear hl2
            refine hq.mono ?_; rintro e w3 ⟨rfl, hm3⟩
            go_wp2
            refine bodyPost_ret (results_none rfl _ _ _) rfl ?_
            exact ⟨rfl, by rw [← HO.out, HG.out]; exact hm3.sw⟩
      · have g1 : decide (2 * (r : Int) + 1 + 1 < (hi : Int)) = false := by simp; omega
        go_wp2
        have hq := HR.out _ (2 * r + 1) (by omega) (by omega) HI.out
        rw [show ((2 * r + 1 : Nat) : Int) = 2 * (r : Int) + 1 by omega] at hq
        cases hl2 : ltE dk[F + r]! dk[F + (2 * r + 1)]! with
        | true =>
          rw [hl2] at hq
          have HG := Lib.hid (sd_one_go ltE (hi := hi) (F := F) (r := r) (d := dk) (by omega) (.inl h2) hl2)
          clear hl2
          refine hq.mono ?_; rintro e w3 ⟨rfl, hm3⟩
          have c3 := hm3.c1
          obtain ⟨w4, hs, hm4, _, _⟩ := hm3.swap HS.out (F + r) (F + (2 * r + 1)) (by omega) (by omega)
          rw [show ((F + r : Nat) : Int) = (F : Int) + (r : Int) by omega, show ((F + (2 * r + 1) : Nat) : Int) = (F : Int) + (2 * (r : Int) + 1) by omega] at hs
          have HS2 := Lib.hid hs
          have HM4 := Lib.hid hm4
          clear hs hm4
          go_wp2
          rw [HS2.out, Oper.upon_value]
          go_wp2
          go_roundw
          case rel => exact ⟨2 * r + 1, swp dk (F + r) (F + (2 * r + 1)), congrArg (Value.int .i64) (by omega), by omega, HM4.out, by unfold Hid; rw [← HO.out, HG.out]⟩
          case measure => simp [intOf]; omega
        | false =>
          rw [hl2] at hq
          have HG := Lib.hid (sd_one_stop ltE (hi := hi) (F := F) (r := r) (d := dk) (by omega) (.inl h2) hl2)
          clear hl2
          refine hq.mono ?_; rintro e w3 ⟨rfl, hm3⟩
          go_wp2
          refine bodyPost_ret (results_none rfl _ _ _) rfl ?_
          exact ⟨rfl, by rw [← HO.out, HG.out]; exact hm3.sw⟩
end
end Go.Proofs.Ytdjmjabbjjcgiaa
