/- sort.insertionSort_func, where 'less' may lay blocks. -/
import Derived.Test.YtdjmjabbjjcgiaaSortKit
import Derived.IntWalk
namespace Go.Proofs.Ytdjmjabbjjcgiaa
open Go.ChangeShapes Go.WideShapes Go.ChangeAt Go.RowKit
open Go.Sort (swp size_swp PermIn SortedIn SWO)
open Go.Proofs (SWK SwapSwapsK sortWorldK)
open Go.Sort (HoldsK putRowK)
section
variable {g : Nat} {lb : Array Value} {sf : Nat} {sb : Array Value} {blk n : Nat} {w : World} {d : Array (Int × Int)}

set_option maxHeartbeats 2000000 in
set_option maxRecDepth 100000 in
theorem ins_any (S : Srt g lb sf sb blk n w d) (a b : Nat) (hab : a ≤ b) (hb : b ≤ n) :
    Calls Try.prog 56 #[.agg #[.func (.func g) #[] lb, .func (.func sf) #[] sb], .int .i64 a, .int .i64 b] w fun e w' => e = .returned (.tuple #[]) ∧ SWK encE 2 w blk 0 (Sort.insertionSort ltE d a b) w' := by
  have HS := Lib.hid S
  have eg := S.eg
  have hsm := S.small
  have HM := Lib.hid (Mid.start S)
  clear S
  go_enter Try.func56, Try.ntmps56
  go_wp2
  go_loopw [6] (fun iv wr => ∃ (i : Nat) (dk : Array (Int × Int)), iv = .int .i64 i ∧ a < i ∧ i ≤ b + 1 ∧ Hid (Mid g lb sf sb blk n w w.heap.size dk wr) ∧ Hid (Sort.insOuter ltE a b i dk = Sort.insOuter ltE a b (a + 1) d)) (fun iv _ => b + 1 - (intOf iv).toNat)
  case atStart => exact ⟨a + 1, d, by go_num, by omega, by omega, HM.out, rfl⟩
  case round =>
    obtain ⟨i, dk, rfl, hai, hib, HI, HO⟩ := hrel
    by_cases hlt : i < b
    · have g0 : decide ((i : Int) < (b : Int)) = true := by simp; omega
      go_wp2
      go_loopw [7] (fun jv wq => ∃ (j : Nat) (dj : Array (Int × Int)), jv = .int .i64 j ∧ a ≤ j ∧ j ≤ i ∧ Hid (Mid g lb sf sb blk n w w.heap.size dj wq) ∧ Hid (Sort.insInner ltE a j dj = Sort.insInner ltE a i dk)) (fun jv _ => (intOf jv).toNat)
      case atStart => exact ⟨i, dk, rfl, by omega, by omega, HI.out, rfl⟩
      case round =>
        obtain ⟨j, dj, rfl, haj, hji, HJ, HN⟩ := hrel
        have c0 := HJ.out.c0
        have c1 := HJ.out.c1
        by_cases hja : a < j
        · have g1 : decide ((a : Int) < (j : Int)) = true := by simp; omega
          have hl := HJ.out.less HS.out j (j - 1) (by omega) (by omega)
          rw [show (((j - 1 : Nat) : Int)) = (j : Int) - 1 by omega] at hl
          cases hlv : ltE dj[j]! dj[j - 1]! with
          | true =>
            rw [hlv] at hl
            have HLV := Lib.hid hlv
            clear hlv
            go_wp2_with (go_at_fn g; refine hl.mono ?_; rintro e w2 ⟨rfl, hm2, _, _⟩; have c2 := hm2.c1)
            obtain ⟨w3, hs, hm3, _, _⟩ := hm2.swap HS.out j (j - 1) (by omega) (by omega)
            rw [show (((j - 1 : Nat) : Int)) = (j : Int) - 1 by omega] at hs
            rw [hs, Oper.upon_value]
            have HM3 := Lib.hid hm3
            clear hm3 hs hm2 hl
            have HN2 : Hid (Sort.insInner ltE a (j - 1) (swp dj j (j - 1)) = Sort.insInner ltE a i dk) := by
              unfold Hid; rw [← HN.out, Go.Proofs.insInner_go ltE a j dj hja HLV.out]
            go_wp2
            go_roundw
            case rel => exact ⟨j - 1, _, by congr 1; omega, by omega, by omega, HM3.out, HN2.out⟩
            case measure => simp [intOf]; omega
          | false =>
            rw [hlv] at hl
            have HLV := Lib.hid hlv
            clear hlv
            have HM2 : Hid (Sort.insOuter ltE a b (i + 1) dj = Sort.insOuter ltE a b (a + 1) d) := by
              unfold Hid
              rw [← HO.out, Go.Proofs.insOuter_go _ _ _ _ _ hlt, ← HN.out, Go.Proofs.insInner_stop _ _ _ _ (.inr HLV.out)]
            go_wp2_with (go_at_fn g; refine hl.mono ?_; rintro e w2 ⟨rfl, hm2, _, _⟩)
            go_roundw
            case rel => exact ⟨i + 1, dj, by go_num, by omega, by omega, hm2, HM2.out⟩
            case measure => simp [intOf]; omega
        · have g1 : decide ((a : Int) < (j : Int)) = false := by simp; omega
          have HM2 : Hid (Sort.insOuter ltE a b (i + 1) dj = Sort.insOuter ltE a b (a + 1) d) := by
            unfold Hid
            rw [← HO.out, Go.Proofs.insOuter_go _ _ _ _ _ hlt, ← HN.out, Go.Proofs.insInner_stop _ _ _ _ (.inl (by omega))]
          go_wp2
          go_roundw
          case rel => exact ⟨i + 1, dj, by go_num, by omega, by omega, HJ.out, HM2.out⟩
          case measure => simp [intOf]; omega
    · have g0 : decide ((i : Int) < (b : Int)) = false := by simp; omega
      go_wp2
      go_end0
      exact ⟨rfl, by have := HI.out.sw; unfold Sort.insertionSort; rwa [← HO.out, Go.Proofs.insOuter_stop _ _ _ _ _ hlt]⟩
end
end Go.Proofs.Ytdjmjabbjjcgiaa
