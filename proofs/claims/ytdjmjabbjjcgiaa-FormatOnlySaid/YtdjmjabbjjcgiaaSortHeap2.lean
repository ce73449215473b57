/- sort.heapSort_func, where 'less' may lay blocks. -/
import Derived.Test.YtdjmjabbjjcgiaaSortHeap
namespace Go.Proofs.Ytdjmjabbjjcgiaa
open Go.ChangeShapes Go.WideShapes Go.ChangeAt Go.RowKit
open Go.Sort (swp size_swp PermIn SortedIn SWO)
open Go.Proofs (SWK SwapSwapsK sortWorldK)
open Go.Sort (HoldsK putRowK)
section
variable {g : Nat} {lb : Array Value} {sf : Nat} {sb : Array Value} {blk n : Nat} {w : World} {d : Array (Int × Int)}

set_option maxHeartbeats 4000000 in
set_option maxRecDepth 100000 in
theorem heap_any (S : Srt g lb sf sb blk n w d) (a b : Nat) (hab : a < b) (hb : b ≤ n) :
    Calls Try.prog 57 #[.agg #[.func (.func g) #[] lb, .func (.func sf) #[] sb], .int .i64 a, .int .i64 b] w fun e w' => e = .returned (.tuple #[]) ∧ SWK encE 2 w blk 0 (Sort.heapSort ltE d a b) w' := by
  have HS := Lib.hid S
  have hsm := S.small
  have HM := Lib.hid (Mid.start S)
  obtain ⟨L, hL⟩ : ∃ L, b = a + L := ⟨b - a, by omega⟩
  have hbl : (b : Int) - (a : Int) = (L : Int) := by omega
  have hL1 : 0 < L := by omega
  have HLN : Hid (a + L ≤ n) := by unfold Hid; omega
  have HLB := Lib.hid hL
  have hLs : L < 4611686018427387904 := by omega
  have hL2 : (0 : Int) ≤ (L : Int) - 1 := by omega
  have hL3 : (1 : Int) ≤ (L : Int) := by omega
  clear S hL hab
  go_enter Try.func57, Try.ntmps57
  go_wp2
  go_loopw [9] (fun iv wr => ∃ (k : Nat) (z : Int) (dk : Array (Int × Int)), iv = .int .i64 z ∧ z + 1 = (k : Int) ∧ k ≤ L ∧ Hid (Mid g lb sf sb blk n w w.heap.size dk wr) ∧ Hid (Sort.heapBuild ltE L a k dk = Sort.heapBuild ltE L a ((L - 1) / 2 + 1) d)) (fun iv _ => (intOf iv + 1).toNat)
  case atStart => exact ⟨(L - 1) / 2 + 1, _, d, rfl, by omega, by omega, HM.out, rfl⟩
  case round =>
    obtain ⟨k, z, dk, rfl, hz, hk, HI, HO⟩ := hrel
    have c0 := HI.out.c0
    have c1 := HI.out.c1
    cases k with
    | zero =>
      obtain rfl : z = -1 := by omega
      have HB : Hid (dk = Sort.heapBuild ltE L a ((L - 1) / 2 + 1) d) := HO.out
      go_wp2
      go_loopw [10] (fun iv wq => ∃ (k : Nat) (z : Int) (dj : Array (Int × Int)), iv = .int .i64 z ∧ z + 1 = (k : Int) ∧ k ≤ L ∧ Hid (Mid g lb sf sb blk n w w.heap.size dj wq) ∧ Hid (Sort.heapPop ltE a k dj = Sort.heapPop ltE a L dk)) (fun iv _ => (intOf iv + 1).toNat)
      case atStart => exact ⟨L, _, dk, rfl, by omega, by omega, HI.out, rfl⟩
      case round =>
        obtain ⟨k, z, dj, rfl, hz2, hk2, HJ, HP⟩ := hrel
        have c0 := HJ.out.c0
        have c1 := HJ.out.c1
        cases k with
        | zero =>
          obtain rfl : z = -1 := by omega
          go_wp2
          go_end0
          refine ⟨rfl, ?_⟩
          have h := HP.out
          rw [show Sort.heapPop ltE a 0 dj = dj from rfl] at h
          unfold Sort.heapSort
          rw [show b - a = L by have := HLB.out; omega, ← HB.out, ← h]
          exact HJ.out.sw
        | succ k =>
          obtain rfl : z = (k : Int) := by omega
          have hk0 : (0 : Int) ≤ (k : Int) := by omega
          obtain ⟨w3, hs, hm3, _, _⟩ := HJ.out.swap HS.out a (a + k) (by have := HLN.out; omega) (by have := HLN.out; omega)
          rw [show ((a + k : Nat) : Int) = (a : Int) + (k : Int) by omega] at hs
          have HS2 := Lib.hid hs
          have d0 := hm3.c0
          have d1 := hm3.c1
          have HM3 := Lib.hid hm3
          clear hs hm3
          go_wp2
          rw [HS2.out, Oper.upon_value]
          go_wp2_with fail
          refine (sift_any (HM3.out.srt HS.out) 0 k a (by have := HLN.out; omega) (by omega)).mono ?_; rintro e w4 ⟨rfl, hm4⟩
          have HM4 := Lib.hid (HM3.out.call HS.out hm4 (by rw [size_sift, size_swp]; exact HJ.out.size))
          clear hm4
          go_wp2
          go_roundw
          case rel => exact ⟨k, (k : Int) - 1, _, rfl, by omega, by omega, HM4.out, by unfold Hid; rw [← HP.out]; rfl⟩
          case measure => simp [intOf]
    | succ k =>
      obtain rfl : z = (k : Int) := by omega
      have hk0 : (0 : Int) ≤ (k : Int) := by omega
      go_wp2_with fail
      refine (sift_any (HI.out.srt HS.out) k L a HLN.out (by omega)).mono ?_; rintro e w4 ⟨rfl, hm4⟩
      have HM4 := Lib.hid (HI.out.call HS.out hm4 (by rw [size_sift]; exact HI.out.size))
      clear hm4
      go_wp2
      go_roundw
      case rel => exact ⟨k, (k : Int) - 1, _, rfl, by omega, by omega, HM4.out, by unfold Hid; rw [← HO.out]; rfl⟩
      case measure => simp [intOf]
end
end Go.Proofs.Ytdjmjabbjjcgiaa
