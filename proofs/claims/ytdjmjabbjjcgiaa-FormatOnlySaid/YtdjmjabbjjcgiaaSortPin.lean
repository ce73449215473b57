/- sort.partialInsertionSort_func, where 'less' may lay blocks. -/
import Derived.Test.YtdjmjabbjjcgiaaSortKit
import Derived.IntWalk
import Derived.Sort.LotA
import Derived.Sort.WalkA6
namespace Go.Proofs.Ytdjmjabbjjcgiaa
open Go.ChangeShapes Go.WideShapes Go.ChangeAt Go.RowKit
open Go.Sort (swp size_swp PermIn SortedIn SWO)
open Go.Proofs (SWK SwapSwapsK sortWorldK)
open Go.Sort (HoldsK putRowK)
section
variable {g : Nat} {lb : Array Value} {sf : Nat} {sb : Array Value} {blk n : Nat} {w : World} {d : Array (Int × Int)}

set_option maxHeartbeats 8000000 in
set_option maxRecDepth 100000 in
theorem pin_any (S : Srt g lb sf sb blk n w d) (a b : Nat) (hab : a < b) (hb : b ≤ n) :
    Calls Try.prog 61 #[.agg #[.func (.func g) #[] lb, .func (.func sf) #[] sb], .int .i64 a, .int .i64 b] w fun e w' =>
      e = .returned (.bool (Sort.partialInsertionSort ltE d a b).2) ∧ SWK encE 2 w blk 0 (Sort.partialInsertionSort ltE d a b).1 w' := by
  have HS := Lib.hid S
  have eg := S.eg
  have hsm := S.small
  have HM := Lib.hid (Mid.start S)
  obtain ⟨L, hL⟩ : ∃ L, b = a + L := ⟨b - a, by omega⟩
  have hbl : (b : Int) - (a : Int) = (L : Int) := by omega
  have HBA : Hid (b - a = L) := by unfold Hid; omega
  clear S hL
  go_enter Try.func61, Try.ntmps61
  go_wp2
  go_loopw [7, 8] (fun iv tv wr => ∃ (t i : Nat) (dk : Array (Int × Int)), tv = .int .i64 t ∧ iv = .int .i64 i ∧ t ≤ 5 ∧ a < i ∧ i ≤ b ∧ Hid (Mid g lb sf sb blk n w w.heap.size dk wr) ∧ Hid (Sort.partialIns ltE a b (5 - t) i dk = Sort.partialInsertionSort ltE d a b)) (fun _ tv _ => 5 - (intOf tv).toNat)
  case atStart => exact ⟨0, a + 1, d, rfl, by go_num, by omega, by omega, by omega, HM.out, rfl⟩
  case round =>
    obtain ⟨t, i0, dk, rfl, rfl, ht, hai, hib, HI, HO⟩ := hrel
    by_cases ht5 : t < 5
    · have g0 : decide ((t : Int) < 5) = true := by simp; omega
      obtain ⟨s, hs⟩ : ∃ s, 5 - t = s + 1 := ⟨4 - t, by omega⟩
      have HST : Hid (5 - (t + 1) = s) := by unfold Hid; omega
      rw [hs, Sort.partialIns_succ] at HO
      clear hs
      go_upto_block 2 with (fail)
      go_cut [7] from 13 to 90 (fun s7 wx => ∃ i : Nat, s7 = .int .i64 i ∧ a < i ∧ i ≤ b ∧ Hid (Mid g lb sf sb blk n w w.heap.size dk wx) ∧ Hid (Sort.scanSorted ltE dk b i0 = i))
      case first =>
        go_wp2_with fail
        go_loopw [7] (fun iv wq => ∃ i : Nat, iv = .int .i64 i ∧ a < i ∧ i ≤ b ∧ Hid (Mid g lb sf sb blk n w w.heap.size dk wq) ∧ Hid (Sort.scanSorted ltE dk b i = Sort.scanSorted ltE dk b i0)) (fun iv _ => b - (intOf iv).toNat)
        case atStart => exact ⟨i0, rfl, hai, hib, HI.out, rfl⟩
        case round =>
          obtain ⟨i, rfl, hai1, hib1, HJ, HU⟩ := hrel
          have c0 := HJ.out.c0
          by_cases hlt : i < b
          · have g1 : decide ((i : Int) < (b : Int)) = true := by simp; omega
            have hl := HJ.out.less HS.out i (i - 1) (by omega) (by omega)
            rw [show (((i - 1 : Nat) : Int)) = (i : Int) - 1 by omega] at hl
            cases hlv : ltE dk[i]! dk[i - 1]! with
            | false =>
              rw [hlv] at hl
              have HG := Lib.hid (Go.Proofs.scanSorted_go ltE dk b i hlt hlv)
              clear hlv
              go_wp2_with (go_at_fn g; refine hl.mono ?_; rintro e w2 ⟨rfl, hm2, _, _⟩)
              go_roundw
              case rel => exact ⟨i + 1, by go_num, by omega, by omega, hm2, by unfold Hid; rw [← HG.out, HU.out]⟩
              case measure => simp [intOf]; omega
            | true =>
              rw [hlv] at hl
              have HG := Lib.hid (Go.Proofs.scanSorted_stop ltE dk b i (.inr hlv))
              clear hlv
              go_wp2_with (go_at_fn g; refine hl.mono ?_; rintro e w2 ⟨rfl, hm2, _, _⟩)
              go_meet
              exact ⟨i, rfl, hai1, hib1, hm2, by unfold Hid; rw [← HU.out, HG.out]⟩
          · have g1 : decide ((i : Int) < (b : Int)) = false := by simp; omega
            have HG := Lib.hid (Go.Proofs.scanSorted_stop ltE dk b i (.inl hlt))
            go_wp2
            go_meet
            exact ⟨i, rfl, hai1, hib1, HJ.out, by unfold Hid; rw [← HU.out, HG.out]⟩
      case rest =>
        obtain ⟨i2, rfl, hai2, hib2, HI2, HU2⟩ := hcut
        rw [HU2.out] at HO
        have c0 := HI2.out.c0
        have c1 := HI2.out.c1
        by_cases hend : i2 = b
        · have HR : Hid (Sort.partialInsertionSort ltE d a b = (dk, true)) := by unfold Hid; rw [← HO.out, if_pos hend]
          subst hend
          go_wp2
          go_ret
          rw [HR.out]
          exact ⟨rfl, HI2.out.sw⟩
        · have g1 : ((i2 : Int) == (b : Int)) = false := by simp; omega
          have g1' : (i2 == b) = false := by simp; omega
          by_cases h50 : L < 50
          · have g2 : decide ((L : Int) < 50) = true := by simp; omega
            have HR : Hid (Sort.partialInsertionSort ltE d a b = (dk, false)) := by unfold Hid; rw [← HO.out, if_neg hend, if_pos (by rw [HBA.out]; exact h50)]
            clear hend
            go_wp2
            go_ret
            rw [HR.out]
            exact ⟨rfl, HI2.out.sw⟩
          · have g2 : decide ((L : Int) < 50) = false := by simp; omega
            obtain ⟨d1, hd1⟩ : ∃ d1, swp dk i2 (i2 - 1) = d1 := ⟨_, rfl⟩
            have HR : Hid (Sort.partialIns ltE a b s i2 (Sort.fixUp ltE b i2 (Sort.fixDown ltE a i2 d1)) = Sort.partialInsertionSort ltE d a b) := by
              unfold Hid; rw [← HO.out, if_neg hend, if_neg (by rw [HBA.out]; exact h50), hd1]
            obtain ⟨w3, hs, hm3, _, _⟩ := HI2.out.swap HS.out i2 (i2 - 1) (by omega) (by omega)
            rw [show (((i2 - 1 : Nat) : Int)) = (i2 : Int) - 1 by omega] at hs
            rw [hd1] at hm3
            have HS2 := Lib.hid hs
            have HM3 := Lib.hid hm3
            have hlt2 : i2 < b := by omega
            clear hend hs hm3 hd1 HO c0 HI2
            go_wp2
            rw [HS2.out, Oper.upon_value]
            go_upto_if 47 with (fail)
            go_cut [9] from 13 to 90 (fun _ wx => Hid (Mid g lb sf sb blk n w w.heap.size (Sort.fixDown ltE a i2 d1) wx))
            case first =>
              have c0 := HM3.out.c0
              have c1 := HM3.out.c1
              by_cases h2 : 2 ≤ i2 - a
              · have g3 : decide ((2 : Int) ≤ (i2 : Int) - (a : Int)) = true := by simp; omega
                have HF : Hid (Sort.fixDown ltE a i2 d1 = Sort.shiftDown ltE (i2 - 1) d1) := by unfold Hid Sort.fixDown; rw [if_pos h2]
                rw [g3]
                go_wp2
                go_loopw [9] (fun jv wq => ∃ (j : Nat) (dj : Array (Int × Int)), jv = .int .i64 j ∧ j < i2 ∧ Hid (Mid g lb sf sb blk n w w.heap.size dj wq) ∧ Hid (Sort.shiftDown ltE j dj = Sort.shiftDown ltE (i2 - 1) d1)) (fun jv _ => (intOf jv).toNat)
                case atStart => exact ⟨i2 - 1, d1, congrArg (Value.int .i64) (by omega), by omega, HM3.out, rfl⟩
                case round =>
                  obtain ⟨j, dj, rfl, hji, HJ, HN⟩ := hrel
                  have c0 := HJ.out.c0
                  have c1 := HJ.out.c1
                  by_cases hj1 : 1 ≤ j
                  · have g4 : decide ((1 : Int) ≤ (j : Int)) = true := by simp; omega
                    have hl := HJ.out.less HS.out j (j - 1) (by omega) (by omega)
                    rw [show (((j - 1 : Nat) : Int)) = (j : Int) - 1 by omega] at hl
                    cases hlv : ltE dj[j]! dj[j - 1]! with
                    | true =>
                      rw [hlv] at hl
                      have HG := Lib.hid (Go.Proofs.shiftDown_go ltE j dj hj1 hlv)
                      clear hlv
                      go_wp2_with (go_at_fn g; refine hl.mono ?_; rintro e w2 ⟨rfl, hm2, _, _⟩; have c2 := hm2.c1)
                      obtain ⟨w4, hs, hm4, _, _⟩ := hm2.swap HS.out j (j - 1) (by omega) (by omega)
                      rw [show (((j - 1 : Nat) : Int)) = (j : Int) - 1 by omega] at hs
                      rw [hs, Oper.upon_value]
                      have HM4 := Lib.hid hm4
                      clear hm4 hs hm2 hl
                      go_wp2
                      go_roundw
                      case rel => exact ⟨j - 1, _, congrArg (Value.int .i64) (by omega), by omega, HM4.out, by unfold Hid; rw [← HG.out, HN.out]⟩
                      case measure => simp [intOf]; omega
                    | false =>
                      rw [hlv] at hl
                      have HG := Lib.hid (Go.Proofs.shiftDown_stop ltE j dj (.inr hlv))
                      clear hlv
                      go_wp2_with (go_at_fn g; refine hl.mono ?_; rintro e w2 ⟨rfl, hm2, _, _⟩)
                      go_meet
                      unfold Hid
                      rw [HF.out, ← HN.out, HG.out]; exact hm2
                  · have g4 : decide ((1 : Int) ≤ (j : Int)) = false := by simp; omega
                    have HG := Lib.hid (Go.Proofs.shiftDown_stop ltE j dj (.inl (by omega)))
                    go_wp2
                    go_meet
                    unfold Hid
                    rw [HF.out, ← HN.out, HG.out]; exact HJ.out
              · have g3 : decide ((2 : Int) ≤ (i2 : Int) - (a : Int)) = false := by simp; omega
                have HF : Hid (Sort.fixDown ltE a i2 d1 = d1) := by unfold Hid Sort.fixDown; rw [if_neg h2]
                go_wp2
                go_meet
                unfold Hid
                rw [HF.out]; exact HM3.out
            case rest =>
              have HM5 := Lib.hid hcut.out
              clear hcut HM3
              generalize Sort.fixDown ltE a i2 d1 = d2 at *
              have c0 := HM5.out.c0
              have c1 := HM5.out.c1
              by_cases h2 : 2 ≤ b - i2
              · have g3 : decide ((2 : Int) ≤ (b : Int) - (i2 : Int)) = true := by simp; omega
                have HF : Hid (Sort.fixUp ltE b i2 d2 = Sort.shiftUp ltE b (i2 + 1) d2) := by unfold Hid Sort.fixUp; rw [if_pos h2]
                go_wp2
                go_loopw [10] (fun jv wq => ∃ (j : Nat) (dj : Array (Int × Int)), jv = .int .i64 j ∧ i2 < j ∧ j ≤ b ∧ Hid (Mid g lb sf sb blk n w w.heap.size dj wq) ∧ Hid (Sort.shiftUp ltE b j dj = Sort.shiftUp ltE b (i2 + 1) d2)) (fun jv _ => b - (intOf jv).toNat)
                case atStart => exact ⟨i2 + 1, d2, by go_num, by omega, by omega, HM5.out, rfl⟩
                case round =>
                  obtain ⟨j, dj, rfl, hji, hjb, HJ, HN⟩ := hrel
                  have c0 := HJ.out.c0
                  have c1 := HJ.out.c1
                  by_cases hj1 : j < b
                  · have g4 : decide ((j : Int) < (b : Int)) = true := by simp; omega
                    have hl := HJ.out.less HS.out j (j - 1) (by omega) (by omega)
                    rw [show (((j - 1 : Nat) : Int)) = (j : Int) - 1 by omega] at hl
                    cases hlv : ltE dj[j]! dj[j - 1]! with
                    | true =>
                      rw [hlv] at hl
                      have HG := Lib.hid (Go.Proofs.shiftUp_go ltE b j dj hj1 hlv)
                      clear hlv
                      go_wp2_with (go_at_fn g; refine hl.mono ?_; rintro e w2 ⟨rfl, hm2, _, _⟩; have c2 := hm2.c1)
                      obtain ⟨w4, hs, hm4, _, _⟩ := hm2.swap HS.out j (j - 1) (by omega) (by omega)
                      rw [show (((j - 1 : Nat) : Int)) = (j : Int) - 1 by omega] at hs
                      rw [hs, Oper.upon_value]
                      have HM4 := Lib.hid hm4
                      clear hm4 hs hm2 hl
                      go_wp2
                      go_roundw
                      case rel => exact ⟨j + 1, _, by go_num, by omega, by omega, HM4.out, by unfold Hid; rw [← HG.out, HN.out]⟩
                      case measure => simp [intOf]; omega
                    | false =>
                      rw [hlv] at hl
                      have HG := Lib.hid (Go.Proofs.shiftUp_stop ltE b j dj (.inr hlv))
                      clear hlv
                      go_wp2_with (go_at_fn g; refine hl.mono ?_; rintro e w2 ⟨rfl, hm2, _, _⟩)
                      go_roundw
                      case rel => exact ⟨t + 1, i2, Sort.fixUp ltE b i2 d2, by go_num, rfl, by omega, hai2, hib2, by unfold Hid; rw [HF.out, ← HN.out, HG.out]; exact hm2, by unfold Hid; rw [HST.out, HR.out]⟩
                      case measure => simp [intOf]; omega
                  · have g4 : decide ((j : Int) < (b : Int)) = false := by simp; omega
                    have HG := Lib.hid (Go.Proofs.shiftUp_stop ltE b j dj (.inl hj1))
                    go_wp2
                    go_roundw
                    case rel => exact ⟨t + 1, i2, Sort.fixUp ltE b i2 d2, by go_num, rfl, by omega, hai2, hib2, by unfold Hid; rw [HF.out, ← HN.out, HG.out]; exact HJ.out, by unfold Hid; rw [HST.out, HR.out]⟩
                    case measure => simp [intOf]; omega
              · have g3 : decide ((2 : Int) ≤ (b : Int) - (i2 : Int)) = false := by simp; omega
                have HF : Hid (Sort.fixUp ltE b i2 d2 = d2) := by unfold Hid Sort.fixUp; rw [if_neg h2]
                go_wp2
                go_roundw
                case rel => exact ⟨t + 1, i2, Sort.fixUp ltE b i2 d2, by go_num, rfl, by omega, hai2, hib2, by unfold Hid; rw [HF.out]; exact HM5.out, by unfold Hid; rw [HST.out, HR.out]⟩
                case measure => simp [intOf]; omega
    · have g0 : decide ((t : Int) < 5) = false := by simp; omega
      obtain rfl : t = 5 := by omega
      go_wp2
      go_ret
      rw [← HO.out]
      exact ⟨rfl, HI.out.sw⟩
end
end Go.Proofs.Ytdjmjabbjjcgiaa
