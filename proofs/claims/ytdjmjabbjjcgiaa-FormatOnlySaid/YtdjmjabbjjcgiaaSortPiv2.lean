/- sort.choosePivot_func, where 'less' may lay blocks. -/
import Derived.Test.YtdjmjabbjjcgiaaSortPiv
namespace Go.Proofs.Ytdjmjabbjjcgiaa
open Go.ChangeShapes Go.WideShapes Go.ChangeAt Go.RowKit
open Go.Sort (swp size_swp PermIn SortedIn SWO)
open Go.Proofs (SWK SwapSwapsK sortWorldK)
open Go.Sort (HoldsK putRowK)
section
variable {g : Nat} {lb : Array Value} {sf : Nat} {sb : Array Value} {blk n : Nat} {w W : World} {d : Array (Int × Int)}

theorem med_le {a b c s : Nat} (ha : a < n) (hb : b < n) (hc : c < n) : (Sort.median ltE d a b c s).1 < n ∧ (Sort.median ltE d a b c s).2 ≤ s + 3 := by
  unfold Sort.median
  have h1 := ord2_lt (d := d) (s := s) ha hb
  have h2 := ord2_lt (d := d) (s := (Sort.order2 ltE d a b s).2.2) h1.2.1 hc
  have h3 := ord2_lt (d := d) (s := (Sort.order2 ltE d (Sort.order2 ltE d a b s).2.1 c (Sort.order2 ltE d a b s).2.2).2.2) h1.1 h2.1
  exact ⟨h3.2.1, by simp only; omega⟩

set_option maxHeartbeats 4000000 in
set_option maxRecDepth 100000 in
theorem choose_any (S : Srt g lb sf sb blk n w d) (a b : Nat) (hab : a + 8 ≤ b) (hb : b ≤ n) :
    Calls Try.prog 59 #[.agg #[.func (.func g) #[] lb, .func (.func sf) #[] sb], .int .i64 a, .int .i64 b] w fun e w' =>
      e = .returned (.tuple #[.int .i64 (Sort.choosePivot ltE d a b).1, .int .i64 (Sort.hintCode (Sort.choosePivot ltE d a b).2)]) ∧ SWK encE 2 w blk 0 d w' := by
  have HS := Lib.hid S
  have HM := Lib.hid (Mid.start S)
  have hsm := S.small
  obtain ⟨L, hL⟩ : ∃ L, b = a + L := ⟨b - a, by omega⟩
  obtain ⟨Q, hQ⟩ : ∃ Q, L / 4 = Q := ⟨_, rfl⟩
  have hbl : (b : Int) - (a : Int) = (L : Int) := by omega
  have hq : (L : Int) / 4 = (Q : Int) := by omega
  have hL8 : 8 ≤ L := by omega
  have hL0 : (0 : Int) ≤ (L : Int) := by omega
  have g8 : decide ((8 : Int) ≤ (L : Int)) = true := by simp; omega
  have HC : Hid (w.heap.size + 1 ≠ blk) := by have := S.hblk; unfold Hid; omega
  have HSW2 := Lib.hid (HM.out.sw.alloc (.cells #[.int .i64 0] 3))
  have HR2 : Hid (Row ((w.alloc (.cells #[.func (.func g) #[] lb, .func (.func sf) #[] sb] 78)).alloc (.cells #[.int .i64 0] 3)) (w.heap.size + 1) 3 [.int .i64 ((0 : Nat) : Int)]) := by
    have := heap_alloc_new (w.alloc (.cells #[.func (.func g) #[] lb, .func (.func sf) #[] sb] 78)) (.cells #[.int .i64 0] 3)
    rw [show (w.alloc (.cells #[.func (.func g) #[] lb, .func (.func sf) #[] sb] 78)).heap.size = w.heap.size + 1 by simp] at this
    exact this
  have HLN : Hid (a + L ≤ n) := by unfold Hid; omega
  have HQ4 : Hid (4 * Q ≤ L ∧ L < 4 * Q + 4) := by unfold Hid; omega
  have HCH : Hid (Sort.choosePivot ltE d a b = ((Sort.rawPivot ltE d a b).1, Sort.hintOf (Sort.rawPivot ltE d a b).2)) := Sort.choosePivot_eq ltE d a b
  have hQs : Q < 4611686018427387904 := by omega
  have hLs : L < 4611686018427387904 := by omega
  have has : a < 4611686018427387904 := by omega
  have haL : a + L < 4611686018427387904 := by omega
  have haQ : a + 3 * Q < 4611686018427387904 := by omega
  have HB0 := Lib.hid hab
  have HBL : Hid (b - a = L) := by unfold Hid; omega
  have HQQ := Lib.hid hQ
  clear hab hL hb S hQ
  by_cases h50 : 50 ≤ L
  · have g50 : decide ((50 : Int) ≤ (L : Int)) = true := by simp; omega
    have HP : Hid (∀ r1 r2 r3, r1 = Sort.medianAdjacent ltE d (a + Q) 0 → r2 = Sort.medianAdjacent ltE d (a + Q * 2) r1.2 → r3 = Sort.medianAdjacent ltE d (a + Q * 3) r2.2 → Sort.rawPivot ltE d a b = Sort.median ltE d r1.1 r2.1 r3.1 r3.2) := by
      rintro r1 r2 r3 rfl rfl rfl
      unfold Sort.rawPivot
      simp only [HBL.out, HQQ.out, Nat.mul_one]
      rw [if_pos (by omega), if_pos h50]
    go_enter Try.func59, Try.ntmps59
    go_wp2_with fail
    refine (meda_any HS.out (a + Q) (w.heap.size + 1) 0 HSW2.out (by omega) (by have := HLN.out; have := HQ4.out; omega) (by omega) HR2.out (by omega)).mono ?_; rintro e w1 ⟨rfl, hc1⟩
    have hle1 := Lib.hid (med_le (d := d) (n := n) (a := a + Q - 1) (b := a + Q) (c := a + Q + 1) (s := 0) (by have := HLN.out; have := HQ4.out; omega) (by have := HLN.out; have := HQ4.out; omega) (by have := HLN.out; have := HQ4.out; omega))
    obtain ⟨⟨x1, s1⟩, hr1⟩ : ∃ r, Sort.medianAdjacent ltE d (a + Q) 0 = r := ⟨_, rfl⟩
    have hr1' : Sort.median ltE d (a + Q - 1) (a + Q) (a + Q + 1) 0 = (x1, s1) := hr1
    rw [hr1'] at hle1
    rw [hr1] at hc1 ⊢
    have HR1 := Lib.hid hr1
    clear hr1 hr1'
    obtain ⟨hx1, hs1⟩ := hle1.out
    simp only at hx1 hs1
    have d0 := hc1.cell (p := ⟨w.heap.size, 0, none⟩) (v := .func (.func g) #[] lb) (by simp; omega) (by simp) (by simp)
    have d1 := hc1.cell (p := ⟨w.heap.size, 1, none⟩) (v := .func (.func sf) #[] sb) (by simp; omega) (by simp) (by simp)
    have hz1 : w.heap.size < w1.heap.size := by have := hc1.size; simp at this; omega
    have C1 := Lib.hid hc1
    clear hc1
    go_wp2_with fail
    refine (meda_any HS.out (a + Q * 2) (w.heap.size + 1) s1 C1.out.sw (by omega) (by have := HLN.out; have := HQ4.out; omega) (by omega) C1.out.row (by omega)).mono ?_; rintro e w2 ⟨rfl, hc2⟩
    have hle2 := Lib.hid (med_le (d := d) (n := n) (a := a + Q * 2 - 1) (b := a + Q * 2) (c := a + Q * 2 + 1) (s := s1) (by have := HLN.out; have := HQ4.out; omega) (by have := HLN.out; have := HQ4.out; omega) (by have := HLN.out; have := HQ4.out; omega))
    obtain ⟨⟨x2, s2⟩, hr2⟩ : ∃ r, Sort.medianAdjacent ltE d (a + Q * 2) s1 = r := ⟨_, rfl⟩
    have hr2' : Sort.median ltE d (a + Q * 2 - 1) (a + Q * 2) (a + Q * 2 + 1) s1 = (x2, s2) := hr2
    rw [hr2'] at hle2
    rw [hr2] at hc2 ⊢
    have HR2' := Lib.hid hr2
    clear hr2 hr2'
    obtain ⟨hx2, hs2⟩ := hle2.out
    simp only at hx2 hs2
    have d0 := hc2.cell (p := ⟨w.heap.size, 0, none⟩) (by simp; omega) (by simp) d0
    have d1 := hc2.cell (p := ⟨w.heap.size, 1, none⟩) (by simp; omega) (by simp) d1
    have hz2 : w.heap.size < w2.heap.size := by have := hc2.size; omega
    have C2 := Lib.hid hc2
    clear hc2
    go_wp2_with fail
    refine (meda_any HS.out (a + Q * 3) (w.heap.size + 1) s2 C2.out.sw (by omega) (by have := HLN.out; have := HQ4.out; omega) (by omega) C2.out.row (by omega)).mono ?_; rintro e w3 ⟨rfl, hc3⟩
    have hle3 := Lib.hid (med_le (d := d) (n := n) (a := a + Q * 3 - 1) (b := a + Q * 3) (c := a + Q * 3 + 1) (s := s2) (by have := HLN.out; have := HQ4.out; omega) (by have := HLN.out; have := HQ4.out; omega) (by have := HLN.out; have := HQ4.out; omega))
    obtain ⟨⟨x3, s3⟩, hr3⟩ : ∃ r, Sort.medianAdjacent ltE d (a + Q * 3) s2 = r := ⟨_, rfl⟩
    have hr3' : Sort.median ltE d (a + Q * 3 - 1) (a + Q * 3) (a + Q * 3 + 1) s2 = (x3, s3) := hr3
    rw [hr3'] at hle3
    rw [hr3] at hc3 ⊢
    have HR3 := Lib.hid hr3
    clear hr3 hr3'
    obtain ⟨hx3, hs3⟩ := hle3.out
    simp only at hx3 hs3
    have d0 := hc3.cell (p := ⟨w.heap.size, 0, none⟩) (by simp; omega) (by simp) d0
    have d1 := hc3.cell (p := ⟨w.heap.size, 1, none⟩) (by simp; omega) (by simp) d1
    have C3 := Lib.hid hc3
    clear hc3
    go_wp2_with fail
    refine (med_any HS.out x1 x2 x3 (w.heap.size + 1) s3 C3.out.sw hx1 hx2 hx3 (by omega) C3.out.row (by omega)).mono ?_; rintro e w4 ⟨rfl, hc4⟩
    obtain ⟨⟨x4, s4⟩, hr4⟩ : ∃ r, Sort.median ltE d x1 x2 x3 s3 = r := ⟨_, rfl⟩
    have HV := Lib.hid ((HP.out (x1, s1) (x2, s2) (x3, s3) HR1.out.symm HR2'.out.symm HR3.out.symm).trans hr4)
    rw [hr4] at hc4 ⊢
    have k0 := hc4.row.cell 0
    have CF := Lib.hid hc4
    clear hc4 hr4
    by_cases hs0 : s4 = 0
    · subst hs0
      have HH : Hid (Sort.hintOf 0 = .increasing) := rfl
      go_wp2
      go_ret2
      rw [HCH.out, HV.out]
      exact ⟨rfl, CF.out.sw⟩
    · by_cases hs12 : s4 = 12
      · subst hs12
        go_wp2
        go_ret2
        rw [HCH.out, HV.out]
        exact ⟨rfl, CF.out.sw⟩
      · have e0 : ((s4 : Int) == 0) = false := by simp; omega
        have e12 : ((s4 : Int) == 12) = false := by simp; omega
        have HH : Hid (Sort.hintOf s4 = .unknown) := by unfold Hid Sort.hintOf; rw [if_neg hs0, if_neg hs12]
        clear hs0 hs12
        go_wp2
        go_ret2
        rw [HCH.out, HV.out, HH.out]
        exact ⟨rfl, CF.out.sw⟩
  · have g50 : decide ((50 : Int) ≤ (L : Int)) = false := by simp; omega
    have HP : Hid (Sort.rawPivot ltE d a b = Sort.median ltE d (a + Q) (a + Q * 2) (a + Q * 3) 0) := by
      unfold Hid Sort.rawPivot
      simp only [HBL.out, HQQ.out, Nat.mul_one]
      rw [if_pos (by omega), if_neg (by omega)]
    go_enter Try.func59, Try.ntmps59
    go_wp2_with fail
    refine (med_any HS.out (a + Q) (a + Q * 2) (a + Q * 3) (w.heap.size + 1) 0 HSW2.out (by have := HLN.out; have := HQ4.out; omega) (by have := HLN.out; have := HQ4.out; omega) (by have := HLN.out; have := HQ4.out; omega) (by omega) HR2.out (by omega)).mono ?_; rintro e w4 ⟨rfl, hc4⟩
    obtain ⟨⟨x4, s4⟩, hr4⟩ : ∃ r, Sort.median ltE d (a + Q) (a + Q * 2) (a + Q * 3) 0 = r := ⟨_, rfl⟩
    have HV := Lib.hid (HP.out.trans hr4)
    rw [hr4] at hc4 ⊢
    have k0 := hc4.row.cell 0
    have CF := Lib.hid hc4
    clear hc4 hr4
    by_cases hs0 : s4 = 0
    · subst hs0
      have HH : Hid (Sort.hintOf 0 = .increasing) := rfl
      go_wp2
      go_ret2
      rw [HCH.out, HV.out]
      exact ⟨rfl, CF.out.sw⟩
    · by_cases hs12 : s4 = 12
      · subst hs12
        go_wp2
        go_ret2
        rw [HCH.out, HV.out]
        exact ⟨rfl, CF.out.sw⟩
      · have e0 : ((s4 : Int) == 0) = false := by simp; omega
        have e12 : ((s4 : Int) == 12) = false := by simp; omega
        have HH : Hid (Sort.hintOf s4 = .unknown) := by unfold Hid Sort.hintOf; rw [if_neg hs0, if_neg hs12]
        clear hs0 hs12
        go_wp2
        go_ret2
        rw [HCH.out, HV.out, HH.out]
        exact ⟨rfl, CF.out.sw⟩
end
end Go.Proofs.Ytdjmjabbjjcgiaa
