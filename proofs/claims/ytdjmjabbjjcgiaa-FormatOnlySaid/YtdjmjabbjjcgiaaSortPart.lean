/- sort.partition_func, where 'less' may lay blocks. -/
import Derived.Test.YtdjmjabbjjcgiaaSortKit
import Derived.IntWalk
import Derived.Sort.LotC
import Derived.Sort.WalkC
namespace Go.Proofs.Ytdjmjabbjjcgiaa
open Go.ChangeShapes Go.WideShapes Go.ChangeAt Go.RowKit
open Go.Sort (swp size_swp PermIn SortedIn SWO)
open Go.Proofs (SWK SwapSwapsK sortWorldK)
open Go.Sort (HoldsK putRowK)
section
variable {g : Nat} {lb : Array Value} {sf : Nat} {sb : Array Value} {blk n : Nat} {w : World} {d : Array (Int × Int)}

set_option maxHeartbeats 8000000 in
set_option maxRecDepth 100000 in
theorem part_any (S : Srt g lb sf sb blk n w d) (a b pv : Nat) (ha : a ≤ pv) (hp : pv < b) (hb : b ≤ n) :
    Calls Try.prog 63 #[.agg #[.func (.func g) #[] lb, .func (.func sf) #[] sb], .int .i64 a, .int .i64 b, .int .i64 pv] w fun e w' =>
      e = .returned (.tuple #[.int .i64 (Sort.partition ltE d a b pv).1, .bool (Sort.partition ltE d a b pv).2.1]) ∧ SWK encE 2 w blk 0 (Sort.partition ltE d a b pv).2.2 w' := by
  have HS := Lib.hid S
  have eg := S.eg
  have hsm := S.small
  have HM := Lib.hid (Mid.start S)
  have hab : a < b := by omega
  have HPT : Hid (∀ d1 i1 j1, d1 = swp d a pv → i1 = Sort.scanUp (fun x => ltE x d1[a]!) d1 (b - 1) (a + 1) → j1 = Sort.scanDown (fun x => !ltE x d1[a]!) d1 i1 (b - 1) →
      Sort.partition ltE d a b pv = if i1 > j1 then (j1, true, swp d1 j1 a) else ((Sort.partLoop ltE a (i1 + 1) (j1 - 1) (swp d1 i1 j1)).1, false, swp (Sort.partLoop ltE a (i1 + 1) (j1 - 1) (swp d1 i1 j1)).2 (Sort.partLoop ltE a (i1 + 1) (j1 - 1) (swp d1 i1 j1)).1 a)) := by
    rintro d1 i1 j1 rfl rfl rfl; rfl
  obtain ⟨W0, hs, hm0, _, _⟩ := HM.out.swap HS.out a pv (by omega) (by omega)
  have HS0 := Lib.hid hs
  have HM0 := Lib.hid hm0
  have c1 := HM.out.c1
  clear S hs hm0
  obtain ⟨e, rfl⟩ : ∃ e, b = e + 1 := ⟨b - 1, by omega⟩
  obtain ⟨d1, hd1⟩ : ∃ d1, swp d a pv = d1 := ⟨_, rfl⟩
  rw [hd1] at HM0
  have HD1 := Lib.hid hd1
  clear hd1
  go_enter Try.func63, Try.ntmps63
  go_wp2
  rw [HS0.out, Oper.upon_value]
  go_upto_block 0 with (fail)
  go_cut [10] from 21 to 32 (fun s10 wx => ∃ i : Nat, s10 = .int .i64 i ∧ a < i ∧ i ≤ e + 2 ∧ Hid (Mid g lb sf sb blk n w w.heap.size d1 wx) ∧ Hid (Sort.scanUp (fun x => ltE x d1[a]!) d1 e (a + 1) = i))
  case first =>
    go_wp2_with fail
    go_loopw [10] (fun iv wq => ∃ i : Nat, iv = .int .i64 i ∧ a < i ∧ i ≤ e + 2 ∧ Hid (Mid g lb sf sb blk n w w.heap.size d1 wq) ∧ Hid (Sort.scanUp (fun x => ltE x d1[a]!) d1 e i = Sort.scanUp (fun x => ltE x d1[a]!) d1 e (a + 1))) (fun iv _ => e + 3 - (intOf iv).toNat)
    case atStart => exact ⟨(a + 1), by go_num, by omega, by omega, HM0.out, rfl⟩
    case round =>
      obtain ⟨i, rfl, hai, hie, HI, HU⟩ := hrel
      have c0 := HI.out.c0
      by_cases hij : i ≤ e
      · have g1 : decide ((i : Int) ≤ (e : Int)) = true := by simp; omega
        have hl := HI.out.less HS.out i a (by omega) (by omega)
        cases hlv : ltE d1[i]! d1[a]! with
        | true =>
          rw [hlv] at hl
          have HG := Lib.hid (Go.Proofs.scanUp_go (fun x => ltE x d1[a]!) d1 e i hij (by simp [hlv]))
          clear hlv
          go_wp2_with (go_at_fn g; refine hl.mono ?_; rintro e w2 ⟨rfl, hm2, _, _⟩)
          go_roundw
          case rel => exact ⟨i + 1, by go_num, by omega, by omega, hm2, by unfold Hid; rw [← HG.out, HU.out]⟩
          case measure => simp [intOf]; omega
        | false =>
          rw [hlv] at hl
          have HG := Lib.hid (Go.Proofs.scanUp_end (fun x => ltE x d1[a]!) d1 e i (.inr (by simp [hlv])))
          clear hlv
          go_wp2_with (go_at_fn g; refine hl.mono ?_; rintro e w2 ⟨rfl, hm2, _, _⟩)
          go_meet
          exact ⟨i, rfl, hai, hie, hm2, by unfold Hid; rw [← HU.out, HG.out]⟩
      · have g1 : decide ((i : Int) ≤ (e : Int)) = false := by simp; omega
        have HG := Lib.hid (Go.Proofs.scanUp_end (fun x => ltE x d1[a]!) d1 e i (.inl hij))
        go_wp2
        go_meet
        exact ⟨i, rfl, hai, hie, HI.out, by unfold Hid; rw [← HU.out, HG.out]⟩
  case rest =>
    obtain ⟨i1, rfl, hai1, hie1, HI1, HU1⟩ := hcut
    go_upto_block 2 with (fail)
    go_cut [11] from 33 to 45 (fun s11 wx => ∃ j : Nat, s11 = .int .i64 j ∧ a ≤ j ∧ j ≤ e ∧ Hid (Mid g lb sf sb blk n w w.heap.size d1 wx) ∧ Hid (Sort.scanDown (fun x => !ltE x d1[a]!) d1 i1 e = j))
    case first =>
      go_wp2_with fail
      go_loopw [11] (fun jv wq => ∃ j : Nat, jv = .int .i64 j ∧ a ≤ j ∧ j ≤ e ∧ Hid (Mid g lb sf sb blk n w w.heap.size d1 wq) ∧ Hid (Sort.scanDown (fun x => !ltE x d1[a]!) d1 i1 j = Sort.scanDown (fun x => !ltE x d1[a]!) d1 i1 e)) (fun jv _ => (intOf jv).toNat)
      case atStart => exact ⟨e, rfl, by omega, by omega, HI1.out, rfl⟩
      case round =>
        obtain ⟨j, rfl, haj, hje, HI, HU⟩ := hrel
        have c0 := HI.out.c0
        by_cases hij : i1 ≤ j
        · have g1 : decide ((i1 : Int) ≤ (j : Int)) = true := by simp; omega
          have hl := HI.out.less HS.out j a (by omega) (by omega)
          cases hlv : ltE d1[j]! d1[a]! with
          | false =>
            rw [hlv] at hl
            have HG := Lib.hid (Go.Proofs.scanDown_go (fun x => !ltE x d1[a]!) d1 i1 j hij (by omega) (by simp [hlv]))
            clear hlv
            go_wp2_with (go_at_fn g; refine hl.mono ?_; rintro e w2 ⟨rfl, hm2, _, _⟩)
            go_roundw
            case rel => exact ⟨j - 1, congrArg (Value.int .i64) (by omega), by omega, by omega, hm2, by unfold Hid; rw [← HG.out, HU.out]⟩
            case measure => simp [intOf]; omega
          | true =>
            rw [hlv] at hl
            have HG := Lib.hid (Go.Proofs.scanDown_end (fun x => !ltE x d1[a]!) d1 i1 j (.inr (by simp [hlv])))
            clear hlv
            go_wp2_with (go_at_fn g; refine hl.mono ?_; rintro e w2 ⟨rfl, hm2, _, _⟩)
            go_meet
            exact ⟨j, rfl, haj, hje, hm2, by unfold Hid; rw [← HU.out, HG.out]⟩
        · have g1 : decide ((i1 : Int) ≤ (j : Int)) = false := by simp; omega
          have HG := Lib.hid (Go.Proofs.scanDown_end (fun x => !ltE x d1[a]!) d1 i1 j (.inl hij))
          go_wp2
          go_meet
          exact ⟨j, rfl, haj, hje, HI.out, by unfold Hid; rw [← HU.out, HG.out]⟩
    case rest =>
      obtain ⟨j1, rfl, haj1, hje1, HI2, HU2⟩ := hcut
      have c0 := HI2.out.c0
      have c1 := HI2.out.c1
      have HPV := Lib.hid (HPT.out d1 i1 j1 HD1.out.symm HU1.out.symm HU2.out.symm)
      by_cases hgt : j1 < i1
      · have g1 : decide ((j1 : Int) < (i1 : Int)) = true := by simp; omega
        have HPW : Hid (Sort.partition ltE d a (e + 1) pv = (j1, true, swp d1 j1 a)) := by unfold Hid; rw [HPV.out, if_pos hgt]
        obtain ⟨w3, hs, hm3, _, _⟩ := HI2.out.swap HS.out j1 a (by omega) (by omega)
        have HS2 := Lib.hid hs
        have HM3 := Lib.hid hm3
        clear hs hm3
        go_wp2
        rw [HS2.out, Oper.upon_value]
        go_wp2
        go_ret2
        rw [HPW.out]
        exact ⟨rfl, HM3.out.sw⟩
      · have g1 : decide ((j1 : Int) < (i1 : Int)) = false := by simp; omega
        have HPW : Hid (∀ r, Sort.partLoop ltE a (i1 + 1) (j1 - 1) (swp d1 i1 j1) = r → Sort.partition ltE d a (e + 1) pv = (r.1, false, swp r.2 r.1 a)) := by
          rintro r rfl; rw [HPV.out, if_neg hgt]
        obtain ⟨w3, hs, hm3, _, _⟩ := HI2.out.swap HS.out i1 j1 (by omega) (by omega)
        have HS2 := Lib.hid hs
        have HM3 := Lib.hid hm3
        clear hs hm3
        go_wp2
        rw [HS2.out, Oper.upon_value]
        go_wp2
        go_loopw [10, 11] (fun iv jv wr => ∃ (i j : Nat) (dk : Array (Int × Int)), iv = .int .i64 i ∧ jv = .int .i64 j ∧ a < i ∧ i ≤ e + 2 ∧ a ≤ j ∧ j ≤ e ∧ Hid (Mid g lb sf sb blk n w w.heap.size dk wr) ∧ Hid (Sort.partLoop ltE a i j dk = Sort.partLoop ltE a (i1 + 1) (j1 - 1) (swp d1 i1 j1))) (fun iv _ _ => e + 3 - (intOf iv).toNat)
        case atStart => exact ⟨i1 + 1, j1 - 1, _, by go_num, congrArg (Value.int .i64) (by omega), by omega, by omega, by omega, by omega, HM3.out, rfl⟩
        case round =>
          obtain ⟨i0, j0, dk, rfl, rfl, hai0, hie0, haj0, hje0, HK, HL⟩ := hrel
          go_upto_block 6 with (fail)
          go_cut [10] from 64 to 100 (fun s10 wx => ∃ i : Nat, s10 = .int .i64 i ∧ a < i ∧ i ≤ e + 2 ∧ Hid (Mid g lb sf sb blk n w w.heap.size dk wx) ∧ Hid (Sort.scanUp (fun x => ltE x dk[a]!) dk j0 i0 = i))
          case first =>
            go_wp2_with fail
            go_loopw [10] (fun iv wq => ∃ i : Nat, iv = .int .i64 i ∧ a < i ∧ i ≤ e + 2 ∧ Hid (Mid g lb sf sb blk n w w.heap.size dk wq) ∧ Hid (Sort.scanUp (fun x => ltE x dk[a]!) dk j0 i = Sort.scanUp (fun x => ltE x dk[a]!) dk j0 i0)) (fun iv _ => e + 3 - (intOf iv).toNat)
            case atStart => exact ⟨i0, by go_num, by omega, by omega, HK.out, rfl⟩
            case round =>
              obtain ⟨i, rfl, hai, hie, HI, HU⟩ := hrel
              have c0 := HI.out.c0
              by_cases hij : i ≤ j0
              · have g1 : decide ((i : Int) ≤ (j0 : Int)) = true := by simp; omega
                have hl := HI.out.less HS.out i a (by omega) (by omega)
                cases hlv : ltE dk[i]! dk[a]! with
                | true =>
                  rw [hlv] at hl
                  have HG := Lib.hid (Go.Proofs.scanUp_go (fun x => ltE x dk[a]!) dk j0 i hij (by simp [hlv]))
                  clear hlv
                  go_wp2_with (go_at_fn g; refine hl.mono ?_; rintro e w2 ⟨rfl, hm2, _, _⟩)
                  go_roundw
                  case rel => exact ⟨i + 1, by go_num, by omega, by omega, hm2, by unfold Hid; rw [← HG.out, HU.out]⟩
                  case measure => simp [intOf]; omega
                | false =>
                  rw [hlv] at hl
                  have HG := Lib.hid (Go.Proofs.scanUp_end (fun x => ltE x dk[a]!) dk j0 i (.inr (by simp [hlv])))
                  clear hlv
                  go_wp2_with (go_at_fn g; refine hl.mono ?_; rintro e w2 ⟨rfl, hm2, _, _⟩)
                  go_meet
                  exact ⟨i, rfl, hai, hie, hm2, by unfold Hid; rw [← HU.out, HG.out]⟩
              · have g1 : decide ((i : Int) ≤ (j0 : Int)) = false := by simp; omega
                have HG := Lib.hid (Go.Proofs.scanUp_end (fun x => ltE x dk[a]!) dk j0 i (.inl hij))
                go_wp2
                go_meet
                exact ⟨i, rfl, hai, hie, HI.out, by unfold Hid; rw [← HU.out, HG.out]⟩
          case rest =>
            obtain ⟨i2, rfl, hai2, hie2, HI3, HU3⟩ := hcut
            go_upto_block 8 with (fail)
            go_cut [11] from 64 to 100 (fun s11 wx => ∃ j : Nat, s11 = .int .i64 j ∧ a ≤ j ∧ j ≤ e ∧ Hid (Mid g lb sf sb blk n w w.heap.size dk wx) ∧ Hid (Sort.scanDown (fun x => !ltE x dk[a]!) dk i2 j0 = j))
            case first =>
              go_wp2_with fail
              go_loopw [11] (fun jv wq => ∃ j : Nat, jv = .int .i64 j ∧ a ≤ j ∧ j ≤ e ∧ Hid (Mid g lb sf sb blk n w w.heap.size dk wq) ∧ Hid (Sort.scanDown (fun x => !ltE x dk[a]!) dk i2 j = Sort.scanDown (fun x => !ltE x dk[a]!) dk i2 j0)) (fun jv _ => (intOf jv).toNat)
              case atStart => exact ⟨j0, rfl, by omega, by omega, HI3.out, rfl⟩
              case round =>
                obtain ⟨j, rfl, haj, hje, HI, HU⟩ := hrel
                have c0 := HI.out.c0
                by_cases hij : i2 ≤ j
                · have g1 : decide ((i2 : Int) ≤ (j : Int)) = true := by simp; omega
                  have hl := HI.out.less HS.out j a (by omega) (by omega)
                  cases hlv : ltE dk[j]! dk[a]! with
                  | false =>
                    rw [hlv] at hl
                    have HG := Lib.hid (Go.Proofs.scanDown_go (fun x => !ltE x dk[a]!) dk i2 j hij (by omega) (by simp [hlv]))
                    clear hlv
                    go_wp2_with (go_at_fn g; refine hl.mono ?_; rintro e w2 ⟨rfl, hm2, _, _⟩)
                    go_roundw
                    case rel => exact ⟨j - 1, congrArg (Value.int .i64) (by omega), by omega, by omega, hm2, by unfold Hid; rw [← HG.out, HU.out]⟩
                    case measure => simp [intOf]; omega
                  | true =>
                    rw [hlv] at hl
                    have HG := Lib.hid (Go.Proofs.scanDown_end (fun x => !ltE x dk[a]!) dk i2 j (.inr (by simp [hlv])))
                    clear hlv
                    go_wp2_with (go_at_fn g; refine hl.mono ?_; rintro e w2 ⟨rfl, hm2, _, _⟩)
                    go_meet
                    exact ⟨j, rfl, haj, hje, hm2, by unfold Hid; rw [← HU.out, HG.out]⟩
                · have g1 : decide ((i2 : Int) ≤ (j : Int)) = false := by simp; omega
                  have HG := Lib.hid (Go.Proofs.scanDown_end (fun x => !ltE x dk[a]!) dk i2 j (.inl hij))
                  go_wp2
                  go_meet
                  exact ⟨j, rfl, haj, hje, HI.out, by unfold Hid; rw [← HU.out, HG.out]⟩
            case rest =>
              obtain ⟨j2, rfl, haj2, hje2, HI4, HU4⟩ := hcut
              have c0 := HI4.out.c0
              have c1 := HI4.out.c1
              have hle : i0 ≤ i2 := by rw [← HU3.out]; exact Sort.scanUp_ge _ _ _ _
              have HEQ : Hid (Sort.partLoop ltE a i0 j0 dk = if i2 > j2 then (j2, dk) else Sort.partLoop ltE a (i2 + 1) (j2 - 1) (swp dk i2 j2)) := by
                unfold Hid; rw [Sort.partLoop_eq, HU3.out, HU4.out]
              by_cases hgt2 : j2 < i2
              · have g2 : decide ((j2 : Int) < (i2 : Int)) = true := by simp; omega
                have HR : Hid (Sort.partition ltE d a (e + 1) pv = (j2, false, swp dk j2 a)) := HPW.out (j2, dk) (by rw [← HL.out, HEQ.out, if_pos hgt2])
                obtain ⟨w4, hs, hm4, _, _⟩ := HI4.out.swap HS.out j2 a (by omega) (by omega)
                have HS3 := Lib.hid hs
                have HM4 := Lib.hid hm4
                clear hs hm4
                go_wp2
                rw [HS3.out, Oper.upon_value]
                go_wp2
                go_ret2
                rw [HR.out]
                exact ⟨rfl, HM4.out.sw⟩
              · have g2 : decide ((j2 : Int) < (i2 : Int)) = false := by simp; omega
                have HR : Hid (Sort.partLoop ltE a (i2 + 1) (j2 - 1) (swp dk i2 j2) = Sort.partLoop ltE a (i1 + 1) (j1 - 1) (swp d1 i1 j1)) := by
                  unfold Hid; rw [← HL.out, HEQ.out, if_neg hgt2]
                obtain ⟨w4, hs, hm4, _, _⟩ := HI4.out.swap HS.out i2 j2 (by omega) (by omega)
                have HS3 := Lib.hid hs
                have HM4 := Lib.hid hm4
                clear hs hm4
                go_wp2
                rw [HS3.out, Oper.upon_value]
                go_wp2
                go_roundw
                case rel => exact ⟨i2 + 1, j2 - 1, _, by go_num, congrArg (Value.int .i64) (by omega), by omega, by omega, by omega, by omega, HM4.out, HR.out⟩
                case measure => simp [intOf]; omega
end
end Go.Proofs.Ytdjmjabbjjcgiaa
