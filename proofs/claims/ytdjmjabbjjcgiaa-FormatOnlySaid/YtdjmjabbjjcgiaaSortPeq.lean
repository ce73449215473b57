/- sort.partitionEqual_func, where 'less' may lay blocks. -/
import Derived.Test.YtdjmjabbjjcgiaaSortKit
import Derived.IntWalk
import Derived.Sort.LotC
import Derived.Sort.WalkC
namespace Go.Proofs.Ytdjmjabbjjcgiaa
open Go.ChangeShapes Go.WideShapes Go.ChangeAt Go.RowKit
open Go.Sort (swp size_swp PermIn SortedIn SWO)
open Go.Proofs (SWK SwapSwapsK sortWorldK)
open Go.Sort (HoldsK putRowK)
section
variable {g : Nat} {lb : Array Value} {sf : Nat} {sb : Array Value} {blk n : Nat} {w : World} {d : Array (Int × Int)}

set_option maxHeartbeats 8000000 in
set_option maxRecDepth 100000 in
theorem peq_any (S : Srt g lb sf sb blk n w d) (a b pv : Nat) (ha : a ≤ pv) (hp : pv < b) (hb : b ≤ n) :
    Calls Try.prog 62 #[.agg #[.func (.func g) #[] lb, .func (.func sf) #[] sb], .int .i64 a, .int .i64 b, .int .i64 pv] w fun e w' =>
      e = .returned (.int .i64 (Sort.partitionEqual ltE d a b pv).1) ∧ SWK encE 2 w blk 0 (Sort.partitionEqual ltE d a b pv).2 w' := by
  have HS := Lib.hid S
  have eg := S.eg
  have hsm := S.small
  have HM := Lib.hid (Mid.start S)
  have hab : a < b := by omega
  obtain ⟨W0, hs, hm0, _, _⟩ := HM.out.swap HS.out a pv (by omega) (by omega)
  have HS0 := Lib.hid hs
  have HM0 := Lib.hid hm0
  have c1 := HM.out.c1
  clear S hs hm0
  obtain ⟨e, rfl⟩ : ∃ e, b = e + 1 := ⟨b - 1, by omega⟩
  have HPQ : Hid (∀ r, Sort.partEqLoop ltE a (a + 1) e (swp d a pv) = r → Sort.partitionEqual ltE d a (e + 1) pv = r) := by
    rintro r rfl; rfl
  go_enter Try.func62, Try.ntmps62
  go_wp2
  rw [HS0.out, Oper.upon_value]
  go_wp2
  go_loopw [9, 10] (fun iv jv wr => ∃ (i j : Nat) (dk : Array (Int × Int)), iv = .int .i64 i ∧ jv = .int .i64 j ∧ a < i ∧ i ≤ e + 2 ∧ a ≤ j ∧ j ≤ e ∧ Hid (Mid g lb sf sb blk n w w.heap.size dk wr) ∧ Hid (Sort.partEqLoop ltE a i j dk = Sort.partEqLoop ltE a (a + 1) e (swp d a pv))) (fun iv _ _ => e + 3 - (intOf iv).toNat)
  case atStart => exact ⟨a + 1, e, _, by go_num, rfl, by omega, by omega, by omega, by omega, HM0.out, rfl⟩
  case round =>
    obtain ⟨i0, j0, dk, rfl, rfl, hai0, hie0, haj0, hje0, HK, HL⟩ := hrel
    go_upto_block 2 with (fail)
    go_cut [9] from 20 to 56 (fun s9 wx => ∃ i : Nat, s9 = .int .i64 i ∧ a < i ∧ i ≤ e + 2 ∧ Hid (Mid g lb sf sb blk n w w.heap.size dk wx) ∧ Hid (Sort.scanUp (fun x => !ltE dk[a]! x) dk j0 i0 = i))
    case first =>
      go_wp2_with fail
      go_loopw [9] (fun iv wq => ∃ i : Nat, iv = .int .i64 i ∧ a < i ∧ i ≤ e + 2 ∧ Hid (Mid g lb sf sb blk n w w.heap.size dk wq) ∧ Hid (Sort.scanUp (fun x => !ltE dk[a]! x) dk j0 i = Sort.scanUp (fun x => !ltE dk[a]! x) dk j0 i0)) (fun iv _ => e + 3 - (intOf iv).toNat)
      case atStart => exact ⟨i0, by go_num, by omega, by omega, HK.out, rfl⟩
      case round =>
        obtain ⟨i, rfl, hai, hie, HI, HU⟩ := hrel
        have c0 := HI.out.c0
        by_cases hij : i ≤ j0
        · have g1 : decide ((i : Int) ≤ (j0 : Int)) = true := by simp; omega
          have hl := HI.out.less HS.out a i (by omega) (by omega)
          cases hlv : ltE dk[a]! dk[i]! with
          | false =>
            rw [hlv] at hl
            have HG := Lib.hid (Go.Proofs.scanUp_go (fun x => !ltE dk[a]! x) dk j0 i hij (by simp [hlv]))
            clear hlv
            go_wp2_with (go_at_fn g; refine hl.mono ?_; rintro e w2 ⟨rfl, hm2, _, _⟩)
            go_roundw
            case rel => exact ⟨i + 1, by go_num, by omega, by omega, hm2, by unfold Hid; rw [← HG.out, HU.out]⟩
            case measure => simp [intOf]; omega
          | true =>
            rw [hlv] at hl
            have HG := Lib.hid (Go.Proofs.scanUp_end (fun x => !ltE dk[a]! x) dk j0 i (.inr (by simp [hlv])))
            clear hlv
            go_wp2_with (go_at_fn g; refine hl.mono ?_; rintro e w2 ⟨rfl, hm2, _, _⟩)
            go_meet
            exact ⟨i, rfl, hai, hie, hm2, by unfold Hid; rw [← HU.out, HG.out]⟩
        · have g1 : decide ((i : Int) ≤ (j0 : Int)) = false := by simp; omega
          have HG := Lib.hid (Go.Proofs.scanUp_end (fun x => !ltE dk[a]! x) dk j0 i (.inl hij))
          go_wp2
          go_meet
          exact ⟨i, rfl, hai, hie, HI.out, by unfold Hid; rw [← HU.out, HG.out]⟩
    case rest =>
      obtain ⟨i2, rfl, hai2, hie2, HI3, HU3⟩ := hcut
      go_upto_block 4 with (fail)
      go_cut [10] from 20 to 56 (fun s10 wx => ∃ j : Nat, s10 = .int .i64 j ∧ a ≤ j ∧ j ≤ e ∧ Hid (Mid g lb sf sb blk n w w.heap.size dk wx) ∧ Hid (Sort.scanDown (fun x => ltE dk[a]! x) dk i2 j0 = j))
      case first =>
        go_wp2_with fail
        go_loopw [10] (fun jv wq => ∃ j : Nat, jv = .int .i64 j ∧ a ≤ j ∧ j ≤ e ∧ Hid (Mid g lb sf sb blk n w w.heap.size dk wq) ∧ Hid (Sort.scanDown (fun x => ltE dk[a]! x) dk i2 j = Sort.scanDown (fun x => ltE dk[a]! x) dk i2 j0)) (fun jv _ => (intOf jv).toNat)
        case atStart => exact ⟨j0, rfl, by omega, by omega, HI3.out, rfl⟩
        case round =>
          obtain ⟨j, rfl, haj, hje, HI, HU⟩ := hrel
          have c0 := HI.out.c0
          by_cases hij : i2 ≤ j
          · have g1 : decide ((i2 : Int) ≤ (j : Int)) = true := by simp; omega
            have hl := HI.out.less HS.out a j (by omega) (by omega)
            cases hlv : ltE dk[a]! dk[j]! with
            | true =>
              rw [hlv] at hl
              have HG := Lib.hid (Go.Proofs.scanDown_go (fun x => ltE dk[a]! x) dk i2 j hij (by omega) (by simp [hlv]))
              clear hlv
              go_wp2_with (go_at_fn g; refine hl.mono ?_; rintro e w2 ⟨rfl, hm2, _, _⟩)
              go_roundw
              case rel => exact ⟨j - 1, congrArg (Value.int .i64) (by omega), by omega, by omega, hm2, by unfold Hid; rw [← HG.out, HU.out]⟩
              case measure => simp [intOf]; omega
            | false =>
              rw [hlv] at hl
              have HG := Lib.hid (Go.Proofs.scanDown_end (fun x => ltE dk[a]! x) dk i2 j (.inr (by simp [hlv])))
              clear hlv
              go_wp2_with (go_at_fn g; refine hl.mono ?_; rintro e w2 ⟨rfl, hm2, _, _⟩)
              go_meet
              exact ⟨j, rfl, haj, hje, hm2, by unfold Hid; rw [← HU.out, HG.out]⟩
          · have g1 : decide ((i2 : Int) ≤ (j : Int)) = false := by simp; omega
            have HG := Lib.hid (Go.Proofs.scanDown_end (fun x => ltE dk[a]! x) dk i2 j (.inl hij))
            go_wp2
            go_meet
            exact ⟨j, rfl, haj, hje, HI.out, by unfold Hid; rw [← HU.out, HG.out]⟩
      case rest =>
        obtain ⟨j2, rfl, haj2, hje2, HI4, HU4⟩ := hcut
        have c0 := HI4.out.c0
        have c1 := HI4.out.c1
        have hle : i0 ≤ i2 := by rw [← HU3.out]; exact Sort.scanUp_ge _ _ _ _
        have HEQ : Hid (Sort.partEqLoop ltE a i0 j0 dk = if i2 > j2 then (i2, dk) else Sort.partEqLoop ltE a (i2 + 1) (j2 - 1) (swp dk i2 j2)) := by
          unfold Hid; rw [Sort.partEqLoop_eq, HU3.out, HU4.out]
        by_cases hgt2 : j2 < i2
        · have g2 : decide ((j2 : Int) < (i2 : Int)) = true := by simp; omega
          have HR : Hid (Sort.partitionEqual ltE d a (e + 1) pv = (i2, dk)) := HPQ.out (i2, dk) (by rw [← HL.out, HEQ.out, if_pos hgt2])
          go_wp2
          go_ret
          rw [HR.out]
          exact ⟨rfl, HI4.out.sw⟩
        · have g2 : decide ((j2 : Int) < (i2 : Int)) = false := by simp; omega
          have HR : Hid (Sort.partEqLoop ltE a (i2 + 1) (j2 - 1) (swp dk i2 j2) = Sort.partEqLoop ltE a (a + 1) e (swp d a pv)) := by
            unfold Hid; rw [← HL.out, HEQ.out, if_neg hgt2]
          obtain ⟨w4, hs, hm4, _, _⟩ := HI4.out.swap HS.out i2 j2 (by omega) (by omega)
          have HS3 := Lib.hid hs
          have HM4 := Lib.hid hm4
          clear hs hm4
          go_wp2
          rw [HS3.out, Oper.upon_value]
          go_wp2
          go_roundw
          case rel => exact ⟨i2 + 1, j2 - 1, _, by go_num, congrArg (Value.int .i64) (by omega), by omega, by omega, by omega, by omega, HM4.out, HR.out⟩
          case measure => simp [intOf]; omega
end
end Go.Proofs.Ytdjmjabbjjcgiaa
