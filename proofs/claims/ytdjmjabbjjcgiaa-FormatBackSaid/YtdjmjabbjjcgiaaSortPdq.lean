/- sort.pdqsort_func, where 'less' may lay blocks. -/
import Derived.Test.YtdjmjabbjjcgiaaSortIns
import Derived.Test.YtdjmjabbjjcgiaaSortHeap2
import Derived.Test.YtdjmjabbjjcgiaaSortPiv2
import Derived.Test.YtdjmjabbjjcgiaaSortPart
import Derived.Test.YtdjmjabbjjcgiaaSortPeq
import Derived.Test.YtdjmjabbjjcgiaaSortPin
import Derived.Test.YtdjmjabbjjcgiaaShelf
import Derived.Sort.Walk13a
namespace Go.Proofs.Ytdjmjabbjjcgiaa
open Go.ChangeShapes Go.WideShapes Go.ChangeAt Go.RowKit
open Go.Sort (swp size_swp PermIn SortedIn SWO)
open Go.Proofs (SWK SwapSwapsK sortWorldK)
open Go.Sort (HoldsK putRowK)
section
variable {a b m : Nat} {d d' : Array (Int × Int)}
theorem bel_sub (h : Sort.Below ltE a b d) (hm : m ≤ b) : Sort.Below ltE a m d := h.imp id fun h i h1 h2 => h i h1 (by omega)
theorem bel_same (h : Sort.Below ltE a m d) (ha : a ≤ m) (hs : ∀ i, i < m → d'[i]! = d[i]!) : Sort.Below ltE a m d' := by
  rcases Nat.eq_zero_or_pos a with h0 | h0
  · exact .inl h0
  · refine .inr fun i h1 h2 => ?_
    rcases h with h | h
    · omega
    · rw [hs i h2, hs (a - 1) (by omega)]; exact h i h1 h2
theorem bel_after (h : ∀ i, m < i → i < b → ltE d[i]! d[m]! = false) : Sort.Below ltE (m + 1) b d := .inr fun i h1 h2 => by
  rw [Nat.add_sub_cancel]; exact h i (by omega) h2
theorem bel_peq {p : Int × Int} (ha : a < m) (h1 : ∀ i, a ≤ i → i < m → ltE p d[i]! = false) (h2 : ∀ i, m ≤ i → i < b → ltE p d[i]! = true) : Sort.Below ltE m b d := .inr fun i h3 h4 => by
  have e1 := h1 (m - 1) (by omega) (by omega)
  have e2 := h2 i h3 h4
  rw [ltE_false] at *
  rw [ltE_iff] at e2
  omega
end
section
variable {g : Nat} {lb : Array Value} {sf : Nat} {sb : Array Value} {blk n : Nat} {w wr : World} {d dk : Array (Int × Int)} {B : Nat}

theorem brk_any (S : Srt g lb sf sb blk n w d) (a b : Nat) (hab : a ≤ b) (hb : b ≤ n) :
    Calls Try.prog 58 #[.agg #[.func (.func g) #[] lb, .func (.func sf) #[] sb], .int .i64 a, .int .i64 b] w fun e w' => e = .returned (.tuple #[]) ∧ SWK encE 2 w blk 0 (Sort.breakPatterns d a b) w' := by
  have h := Any.breakPatterns_func_cells_w (P := Try.prog) (ρ := Try.laysGg6_ren) { Try.laysGg6 with } encE 2 encE_len (.func g) #[] lb sf sb blk 0 a b d w (by rw [S.size]; exact S.swap) S.holds S.hblk hab (by rw [S.size]; exact hb) (by rw [S.size]; exact S.small)
  exact h
theorem rev_any (S : Srt g lb sf sb blk n w d) (a b : Nat) (hab : a ≤ b) (hb : b ≤ n) :
    Calls Try.prog 60 #[.agg #[.func (.func g) #[] lb, .func (.func sf) #[] sb], .int .i64 a, .int .i64 b] w fun e w' => e = .returned (.tuple #[]) ∧ SWK encE 2 w blk 0 (Sort.reverseRange d a b) w' := by
  have h := Any.reverseRange_func_cells_w (P := Try.prog) (ρ := Try.laysGg6_ren) { Try.laysGg6 with } encE 2 encE_len (.func g) #[] lb sf sb blk 0 a b d w (by rw [S.size]; exact S.swap) S.holds S.hblk hab (by rw [S.size]; exact hb) (by rw [S.size]; exact S.small)
  exact h
theorem size_pdq {a b lim : Nat} (hab : a ≤ b) (hb : b ≤ d.size) (hB : Sort.Below ltE a b d) : (Sort.pdq ltE d a b lim true true).size = d.size := (Sort.pdq_sorts ltE swo_ltE d a b lim true true hab hb hB).1.1

set_option maxHeartbeats 16000000 in
set_option maxRecDepth 100000 in
theorem pdq_any : ∀ (N : Nat) (w : World) (d : Array (Int × Int)) (a0 b0 lim0 : Nat), Srt g lb sf sb blk n w d → b0 - a0 < N → a0 ≤ b0 → b0 ≤ n → lim0 < 4611686018427387904 → Sort.Below ltE a0 b0 d →
    Calls Try.prog 43 #[.agg #[.func (.func g) #[] lb, .func (.func sf) #[] sb], .int .i64 a0, .int .i64 b0, .int .i64 lim0] w fun e w' => e = .returned (.tuple #[]) ∧ SWK encE 2 w blk 0 (Sort.pdq ltE d a0 b0 lim0 true true) w' := by
  intro N
  induction N with
  | zero => intro _ _ _ _ _ _ h; exact absurd h (Nat.not_lt_zero _)
  | succ N ih =>
    intro w d a0 b0 lim0 S hN hab0 hb0 hlim0 hB0
    have HS := Lib.hid S
    have IH := Lib.hid ih
    have eg := S.eg
    have hsm := S.small
    have HM := Lib.hid (Mid.start S)
    have HBEL := Lib.hid hB0
    clear S ih hB0
    go_enter Try.func43, Try.ntmps43
    go_wp2
    go_loopw [1, 2, 3, 8, 9] (fun s1 s2 s3 s8 s9 wr => ∃ (a b lim : Nat) (wb wp : Bool) (dk : Array (Int × Int)), s1 = .int .i64 a ∧ s2 = .int .i64 b ∧ s3 = .int .i64 lim ∧ s8 = .bool wb ∧ s9 = .bool wp ∧
      a ≤ b ∧ b ≤ n ∧ b - a ≤ b0 - a0 ∧ lim ≤ lim0 ∧ Hid (Sort.Below ltE a b dk) ∧ Hid (Mid g lb sf sb blk n w w.heap.size dk wr) ∧ Hid (Sort.pdq ltE dk a b lim wb wp = Sort.pdq ltE d a0 b0 lim0 true true)) (fun s1 s2 _ _ _ _ => (intOf s2).toNat - (intOf s1).toNat)
    case atStart => exact ⟨a0, b0, lim0, true, true, d, rfl, rfl, rfl, rfl, rfl, hab0, hb0, by omega, by omega, HBEL.out, HM.out, rfl⟩
    case round =>
      obtain ⟨a, b, lim, wb, wp, dk, rfl, rfl, rfl, rfl, rfl, hab, hb, hsub, hlim, HB, HI, HO⟩ := hrel
      have c0 := HI.out.c0
      have c1 := HI.out.c1
      obtain ⟨L, hL⟩ : ∃ L, b = a + L := ⟨b - a, by omega⟩
      have hbl : (b : Int) - (a : Int) = (L : Int) := by omega
      have HL := Lib.hid hL
      have hL2 : L ≤ b0 - a0 := by omega
      have hLs : L < 4611686018427387904 := by omega
      clear hL
      by_cases h12 : L ≤ 12
      · have g12 : decide ((L : Int) ≤ 12) = true := by simp; omega
        have HR : Hid (Sort.pdq ltE d a0 b0 lim0 true true = Sort.insertionSort ltE dk a b) := by unfold Hid; rw [← HO.out, Sort.pdq_small (by have := HL.out; omega)]
        go_wp2_with fail
        refine (ins_any (HI.out.srt HS.out) a b hab hb).mono ?_; rintro e w2 ⟨rfl, h2⟩
        have HF := Lib.hid (sw_on HI.out.sw HS.out.hblk h2 ((Sort.insertionSort_holds swo_ltE dk a b hab (by rw [HI.out.size]; exact hb)).1.1))
        clear h2
        go_wp2
        refine bodyPost_ret (results_none rfl _ _ _) rfl ?_
        exact ⟨rfl, by rw [HR.out]; exact HF.out⟩
      · have g12 : decide ((L : Int) ≤ 12) = false := by simp; omega
        by_cases hl0 : lim = 0
        · subst hl0
          have HR : Hid (Sort.pdq ltE d a0 b0 lim0 true true = Sort.heapSort ltE dk a b) := by unfold Hid; rw [← HO.out, Sort.pdq_heap (by have := HL.out; omega) rfl]
          go_wp2_with fail
          refine (heap_any (HI.out.srt HS.out) a b (by have := HL.out; omega) hb).mono ?_; rintro e w2 ⟨rfl, h2⟩
          have HF := Lib.hid (sw_on HI.out.sw HS.out.hblk h2 ((Sort.heapSort_holds swo_ltE dk a b hab (by rw [HI.out.size]; exact hb)).1.1))
          clear h2
          go_wp2
          refine bodyPost_ret (results_none rfl _ _ _) rfl ?_
          exact ⟨rfl, by rw [HR.out]; exact HF.out⟩
        · have gl : ((lim : Int) == 0) = false := by simp; omega
          have hab' : a < b := by have := HL.out; omega
          have hbd : b ≤ dk.size := by rw [HI.out.size]; exact hb
          have n12 : ¬ b - a ≤ 12 := by have := HL.out; omega
          have FD := Lib.hid (fun h1 => Sort.pdq_done (lt := ltE) (d := dk) (a := a) (b := b) (limit := lim) (wb := wb) (wp := wp) n12 hl0 h1)
          have FE := Lib.hid (fun h1 h2 h3 => Sort.pdq_eq (lt := ltE) (d := dk) (a := a) (b := b) (limit := lim) (wb := wb) (wp := wp) n12 hl0 h1 h2 h3)
          have FL := Lib.hid (fun h1 h2 h3 h4 => Sort.pdq_left (lt := ltE) (d := dk) (a := a) (b := b) (limit := lim) (wb := wb) (wp := wp) n12 hl0 h1 h2 h3 h4)
          have FR := Lib.hid (fun h1 h2 h3 h4 => Sort.pdq_right (lt := ltE) (d := dk) (a := a) (b := b) (limit := lim) (wb := wb) (wp := wp) n12 hl0 h1 h2 h3 h4)
          have FX := Lib.hid (Sort.rd_facts (lt := ltE) (limit := lim) (wb := wb) (wp := wp) swo_ltE Sort.partialInsertionSort_holds Sort.reverseRange_holds hab' hbd HB.out)
          have K1 : Hid (wb = false → (Sort.rd ltE dk a b lim wb wp).d1 = Sort.breakPatterns dk a b ∧ (Sort.rd ltE dk a b lim wb wp).lim = lim - 1) := by rintro rfl; exact Sort.rd_false
          have K0 : Hid (wb = true → (Sort.rd ltE dk a b lim wb wp).d1 = dk ∧ (Sort.rd ltE dk a b lim wb wp).lim = lim) := by rintro rfl; exact Sort.rd_true
          have K2 : Hid ((Sort.rd ltE dk a b lim wb wp).c = Sort.choosePivot ltE (Sort.rd ltE dk a b lim wb wp).d1 a b) := Sort.rd_c
          have K3 := Lib.hid (fun hh => Sort.rd_dec (lt := ltE) (d := dk) (a := a) (b := b) (limit := lim) (wb := wb) (wp := wp) hh)
          have K4 := Lib.hid (fun hh => Sort.rd_not (lt := ltE) (d := dk) (a := a) (b := b) (limit := lim) (wb := wb) (wp := wp) hh)
          have K5 := Lib.hid (fun hh => Sort.rd_pi_yes (lt := ltE) (d := dk) (a := a) (b := b) (limit := lim) (wb := wb) (wp := wp) hh)
          have K6 := Lib.hid (fun hh => Sort.rd_pi_no (lt := ltE) (d := dk) (a := a) (b := b) (limit := lim) (wb := wb) (wp := wp) hh)
          have hlle : (Sort.rd ltE dk a b lim wb wp).lim ≤ lim := Sort.rd_lim_le
          generalize Sort.rd ltE dk a b lim wb wp = R at *
          obtain ⟨d1, lim1, ⟨p1, ch⟩, d2, pivot, hint, d3, done⟩ := R
          obtain ⟨fs1, fb1, ⟨fc1, fc2⟩, fs2, fb2, ⟨fp1, fp2⟩, fs3, fb3⟩ := FX.out
          simp only at hlle fc1 fc2 fp1 fp2
          have ES1 : Hid (d1.size = n) := fs1.trans HI.out.size
          have ES2 : Hid (d2.size = n) := fs2.trans HI.out.size
          have ES3 : Hid (d3.size = n) := fs3.trans HI.out.size
          have FB3 := Lib.hid fb3
          have HL0 : Hid (lim ≠ 0) := hl0
          clear fs1 fb1 fs2 fb2 fs3 fb3 FX hl0 hbd n12
          go_upto_if 35 with (fail)
          go_cut [3] from 19 to 129 (fun s3 wx => s3 = .int .i64 lim1 ∧ Hid (Mid g lb sf sb blk n w w.heap.size d1 wx))
          case first =>
            cases wb with
            | false =>
              have hk := K1.out rfl
              try simp only at hk
              obtain ⟨hk1, hk2⟩ := hk
              have HK1 := Lib.hid hk1
              have HK2 := Lib.hid hk2
              clear hk1 hk2
              go_wp2_with fail
              refine (brk_any (HI.out.srt HS.out) a b hab hb).mono ?_; rintro e w2 ⟨rfl, h2⟩
              have HM2 := Lib.hid (HI.out.call HS.out h2 (by rw [← HK1.out]; exact ES1.out))
              clear h2
              go_wp2_with fail
              go_meet
              exact ⟨congrArg (Value.int .i64) (by have := HK2.out; have := HL0.out; omega), by rw [HK1.out]; exact HM2.out⟩
            | true =>
              have hk := K0.out rfl
              try simp only at hk
              obtain ⟨hk1, hk2⟩ := hk
              have HK1 := Lib.hid hk1
              have HK2 := Lib.hid hk2
              clear hk1 hk2
              go_wp2_with fail
              go_meet
              exact ⟨by rw [HK2.out], by rw [HK1.out]; exact HI.out⟩
          case rest =>
            obtain ⟨rfl, HI1⟩ := hcut
            clear c0 c1 HI K0 K1
            have hch := K2.out
            simp only at hch
            have HCH := Lib.hid hch.symm
            clear hch K2
            have c0 := HI1.out.c0
            have c1 := HI1.out.c1
            go_wp2_with fail
            refine (choose_any (HI1.out.srt HS.out) a b (by have := HL.out; omega) hb).mono ?_
            rw [HCH.out]
            obtain ⟨hc, hhc⟩ : ∃ hc, Sort.hintCode ch = hc := ⟨_, rfl⟩
            simp only
            rw [hhc]
            rintro e w2 ⟨rfl, h2⟩
            have HHC := Lib.hid hhc
            have HI2 := Lib.hid (HI1.out.call HS.out h2 ES1.out)
            clear h2 hhc c0 c1
            have c0 := HI2.out.c0
            have c1 := HI2.out.c1
            go_upto_if 50 with (fail)
            go_cut [11, 12] from 19 to 129 (fun s11 s12 wx => s11 = .int .i64 pivot ∧ s12 = .int .i64 (Sort.hintCode hint) ∧ Hid (Mid g lb sf sb blk n w w.heap.size d2 wx))
            case first =>
              by_cases hh : ch = .decreasing
              · have hk := K3.out hh
                try simp only at hk
                obtain ⟨hk1, hk2, hk3⟩ := hk
                have HK1 := Lib.hid hk1
                have HK2 := Lib.hid hk2
                have HK3 := Lib.hid hk3
                have gh : (hc == 2) = true := by rw [← HHC.out, hh]; rfl
                clear hk1 hk2 hk3 hh
                rw [gh]
                go_wp2_with fail
                refine (rev_any (HI2.out.srt HS.out) a b hab hb).mono ?_; rintro e w3 ⟨rfl, h3⟩
                have HM3 := Lib.hid (HI2.out.call HS.out h3 (by rw [← HK1.out]; exact ES2.out))
                clear h3
                go_wp2_with fail
                go_meet
                exact ⟨congrArg (Value.int .i64) (by have := HK2.out; omega), by rw [HK3.out]; rfl, by rw [HK1.out]; exact HM3.out⟩
              · have hk := K4.out hh
                try simp only at hk
                obtain ⟨hk1, hk2, hk3⟩ := hk
                have HK1 := Lib.hid hk1
                have HK2 := Lib.hid hk2
                have HK3 := Lib.hid hk3
                have gh : (hc == 2) = false := by rw [← HHC.out]; cases ch <;> first | rfl | exact absurd rfl hh
                clear hk1 hk2 hk3 hh
                rw [gh]
                go_wp2_with fail
                go_meet
                exact ⟨by rw [HK2.out], by rw [HK3.out, HHC.out], by rw [HK1.out]; exact HI2.out⟩
            case rest =>
              obtain ⟨rfl, rfl, HI3⟩ := hcut
              clear c0 c1 HI2 K3 K4 HCH HHC
              obtain ⟨hd, hhd⟩ : ∃ hd, Sort.hintCode hint = hd := ⟨_, rfl⟩
              rw [hhd]
              have HHD : Hid ((hd == 1) = decide (hint = .increasing)) := by unfold Hid; rw [← hhd]; cases hint <;> rfl
              clear hhd
              go_upto_region 16 with (fail)
              go_cut [68] from 19 to 129 (fun s68 wx => s68 = .bool (wb && wp && hd == 1) ∧ wx = wc)
              case first =>
                cases wb <;> cases wp
                all_goals go_wp2_with fail
                all_goals go_meet
                all_goals exact ⟨rfl, rfl⟩
              case rest =>
                obtain ⟨rfl, rfl⟩ := hcut
                rw [HHD.out]
                obtain ⟨q, hq⟩ : ∃ q, (wb && wp && decide (hint = .increasing)) = q := ⟨_, rfl⟩
                rw [hq]
                have k5 := K5.out
                have k6 := K6.out
                try simp only at k5 k6
                rw [hq] at k5 k6
                have HK5 := Lib.hid k5
                have HK6 := Lib.hid k6
                clear K5 K6 k5 k6 hq HHD
                have c0 := HI3.out.c0
                have c1 := HI3.out.c1
                go_upto_if 68 with (fail)
                go_cut [72] from 19 to 129 (fun _ wx => Hid (done = false) ∧ Hid (Mid g lb sf sb blk n w w.heap.size d3 wx))
                case first =>
                  cases q with
                  | true =>
                    have HP := Lib.hid (HK5.out rfl)
                    go_wp2_with fail
                    refine (pin_any (HI3.out.srt HS.out) a b hab' hb).mono ?_
                    rw [← HP.out]
                    rintro e w3 ⟨rfl, h3⟩
                    have HM3 := Lib.hid (HI3.out.call HS.out h3 ES3.out)
                    clear h3
                    cases done with
                    | true =>
                      have HR := Lib.hid (FD.out rfl)
                      go_wp2
                      refine bodyPost_ret (results_none rfl _ _ _) rfl ?_
                      exact ⟨rfl, by rw [← HO.out, HR.out]; exact HM3.out.sw⟩
                    | false =>
                      go_wp2_with fail
                      go_meet
                      exact ⟨by unfold Hid; trivial, HM3.out⟩
                  | false =>
                    have hp := HK6.out rfl
                    injection hp with hp1 hp2
                    have HP1 := Lib.hid hp1
                    have HP2 := Lib.hid hp2
                    clear hp1 hp2
                    go_wp2_with fail
                    go_meet
                    exact ⟨HP2.out, by rw [HP1.out]; exact HI3.out⟩
                case rest =>
                  obtain ⟨HDN, HI4⟩ := hcut
                  have hdn : done = false := HDN.out
                  subst hdn
                  clear HI3 HK5 HK6 HDN c0 c1 FD
                  have fe := FE.out
                  have fl := FL.out
                  have fr := FR.out
                  try simp only at fe fl fr
                  obtain ⟨q, hq⟩ : ∃ q, (decide (a > 0) && !ltE d3[a - 1]! d3[pivot]!) = q := ⟨_, rfl⟩
                  rw [hq] at fe fl fr
                  have FE' := Lib.hid (fe trivial)
                  have FL' := Lib.hid (fl trivial)
                  have FR' := Lib.hid (fr trivial)
                  have HQ := Lib.hid hq
                  have HBD3 : Hid (b ≤ d3.size) := by unfold Hid; rw [ES3.out]; exact hb
                  clear fe fl fr hq FE FL FR
                  have c0 := HI4.out.c0
                  have c1 := HI4.out.c1
                  go_upto_region 18 with (fail)
                  go_cut [83] from 19 to 129 (fun s83 wx => s83 = .bool q ∧ Hid (Mid g lb sf sb blk n w w.heap.size d3 wx))
                  case first =>
                    by_cases ha0 : 0 < a
                    · have ga : decide ((0 : Int) < (a : Int)) = true := by simp; omega
                      have ga2 : decide (0 < a) = true := by simp; omega
                      have hl := HI4.out.less HS.out (a - 1) pivot (by omega) (by omega)
                      rw [show (((a - 1 : Nat) : Int)) = (a : Int) - 1 by omega] at hl
                      cases hlv : ltE d3[a - 1]! d3[pivot]! with
                      | true =>
                        have HQ2 : Hid (false = q) := by unfold Hid; rw [← HQ.out, hlv]; simp
                        rw [hlv] at hl
                        clear hlv
                        go_wp2_with (go_at_fn g; refine hl.mono ?_; rintro e w4 ⟨rfl, hm4, _, _⟩)
                        go_meet
                        exact ⟨congrArg Value.bool HQ2.out, hm4⟩
                      | false =>
                        have HQ2 : Hid (true = q) := by unfold Hid; rw [← HQ.out, hlv]; simp; omega
                        rw [hlv] at hl
                        clear hlv
                        go_wp2_with (go_at_fn g; refine hl.mono ?_; rintro e w4 ⟨rfl, hm4, _, _⟩)
                        go_meet
                        exact ⟨congrArg Value.bool HQ2.out, hm4⟩
                    · have ga : decide ((0 : Int) < (a : Int)) = false := by simp; omega
                      have ga2 : decide (0 < a) = false := by simp; omega
                      have HQ2 : Hid (false = q) := by unfold Hid; rw [← HQ.out]; simp; omega
                      go_wp2
                      go_meet
                      exact ⟨congrArg Value.bool HQ2.out, HI4.out⟩
                  case rest =>
                    obtain ⟨rfl, HI5⟩ := hcut
                    clear c0 c1 HI4
                    have c0 := HI5.out.c0
                    have c1 := HI5.out.c1
                    cases q with
                    | true =>
                      have hq := HQ.out
                      simp only [Bool.and_eq_true, decide_eq_true_eq, Bool.not_eq_true'] at hq
                      obtain ⟨ha0, hlv⟩ := hq
                      have hpre : ∀ i, a ≤ i → i < b → ltE d3[i]! d3[pivot]! = false := fun i h1 h2 => by
                        rcases FB3.out with h0 | h0
                        · omega
                        · exact swo_ltE.ntrans _ _ _ (h0 i h1 h2) hlv
                      obtain ⟨r1, r2, rp, re, rg⟩ := Sort.partitionEqual_holds ltE swo_ltE d3 a b pivot fp1 fp2 HBD3.out hpre
                      have hc := peq_any (HI5.out.srt HS.out) a b pivot fp1 fp2 hb
                      have hfe := FE'.out rfl ⟨r1, r2⟩
                      obtain ⟨⟨mid, d4⟩, hpe⟩ : ∃ r, Sort.partitionEqual ltE d3 a b pivot = r := ⟨_, rfl⟩
                      rw [hpe] at r1 r2 rp re rg hc hfe
                      simp only at r1 r2
                      have HRP := Lib.hid rp
                      have HNB : Hid (Sort.Below ltE mid b d4) := bel_peq r1 re rg
                      have HFE := Lib.hid hfe
                      have HC := Lib.hid hc
                      clear rp re rg hfe hc hpe hlv hpre
                      go_wp2_with fail
                      refine HC.out.mono ?_; rintro e w4 ⟨rfl, h4⟩
                      have HM4 := Lib.hid (HI5.out.call HS.out h4 (HRP.out.1.trans ES3.out))
                      clear h4
                      go_wp2
                      go_roundw
                      case rel => exact ⟨mid, b, lim1, wb, wp, d4, rfl, rfl, rfl, rfl, rfl, r2, hb, by omega, by omega, HNB.out, HM4.out, by unfold Hid; rw [← HFE.out, HO.out]⟩
                      case measure => simp [intOf]; omega
                    | false =>
                      obtain ⟨r1, r2, rp, rl, rg⟩ := Sort.partition_holds ltE swo_ltE d3 a b pivot fp1 fp2 HBD3.out
                      have hc := part_any (HI5.out.srt HS.out) a b pivot fp1 fp2 hb
                      have hfl := FL'.out rfl ⟨r1, r2⟩
                      have hfr := FR'.out rfl ⟨r1, r2⟩
                      obtain ⟨⟨mid, ap, d4⟩, hpe⟩ : ∃ r, Sort.partition ltE d3 a b pivot = r := ⟨_, rfl⟩
                      rw [hpe] at r1 r2 rp rg hc hfl hfr
                      simp only at r1 r2
                      have hB4 : Sort.Below ltE a b d4 := FB3.out.perm HBD3.out rp
                      have HS4 : Hid (d4.size = n) := rp.1.trans ES3.out
                      have HBL : Hid (Sort.Below ltE a mid d4) := bel_sub hB4 (by omega)
                      have HBR : Hid (Sort.Below ltE (mid + 1) b d4) := bel_after rg
                      have HRG := Lib.hid rg
                      have HFL := Lib.hid hfl
                      have HFR := Lib.hid hfr
                      have HC := Lib.hid hc
                      clear rp rl rg hfl hfr hc hpe hB4
                      obtain ⟨M1, hm1⟩ : ∃ M1, mid = a + M1 := ⟨mid - a, by omega⟩
                      obtain ⟨M2, hm2⟩ : ∃ M2, b = mid + M2 := ⟨b - mid, by omega⟩
                      obtain ⟨Q, hQ⟩ : ∃ Q, L / 8 = Q := ⟨_, rfl⟩
                      have hz1 : (mid : Int) - (a : Int) = (M1 : Int) := by omega
                      have hz2 : (b : Int) - (mid : Int) = (M2 : Int) := by omega
                      have hz3 : (L : Int) / 8 = (Q : Int) := by omega
                      have hz4 : (0 : Int) ≤ (L : Int) := by omega
                      have HD1 : Hid (decide (mid - a ≥ (b - a) / 8) = decide (Q ≤ M1)) := by
                        unfold Hid; rw [show mid - a = M1 by omega, show b - a = L by have := HL.out; omega, hQ]
                      have HD2 : Hid (decide (b - mid ≥ (b - a) / 8) = decide (Q ≤ M2)) := by
                        unfold Hid; rw [show b - mid = M2 by omega, show b - a = L by have := HL.out; omega, hQ]
                      have HM1 := Lib.hid hm1
                      have HM2 := Lib.hid hm2
                      have hM1 : M1 < L := by have := HL.out; omega
                      have hM2 : M2 ≤ L := by have := HL.out; omega
                      clear hm1 hm2 hQ
                      by_cases hlt : M1 < M2
                      · have glt : decide ((M1 : Int) < (M2 : Int)) = true := by simp; omega
                        have hgo := HFL.out (by have := HM1.out; have := HM2.out; omega)
                        rw [HD1.out] at hgo
                        have HGO := Lib.hid hgo
                        clear hgo
                        go_wp2_with fail
                        refine HC.out.mono ?_; rintro e w4 ⟨rfl, h4⟩
                        have HI6 := Lib.hid (HI5.out.call HS.out h4 HS4.out)
                        clear h4 c0 c1
                        have c0 := HI6.out.c0
                        have c1 := HI6.out.c1
                        go_wp2_with fail
                        refine (IH.out w4 d4 a mid lim1 (HI6.out.srt HS.out) (by omega) r1 (by omega) (by omega) HBL.out).mono ?_; rintro e w5 ⟨rfl, h5⟩
                        have hps := Sort.pdq_sorts ltE swo_ltE d4 a mid lim1 true true r1 (by rw [HS4.out]; omega) HBL.out
                        have HSZ : Hid ((Sort.pdq ltE d4 a mid lim1 true true).size = n) := hps.1.1.trans HS4.out
                        have HNB : Hid (Sort.Below ltE (mid + 1) b (Sort.pdq ltE d4 a mid lim1 true true)) := bel_after fun i h1 h2 => by
                          rw [hps.1.2.1 i (.inr (by omega)), hps.1.2.1 mid (.inr (by omega))]; exact HRG.out i h1 h2
                        clear hps
                        have HI7 := Lib.hid (HI6.out.call HS.out h5 HSZ.out)
                        clear h5 c0 c1
                        generalize Sort.pdq ltE d4 a mid lim1 true true = d5 at *
                        go_wp2
                        go_roundw
                        case rel => exact ⟨mid + 1, b, lim1, decide (Q ≤ M1), ap, d5, by go_num, rfl, rfl, by first | rfl | (congr 1; rw [Bool.eq_iff_iff]; simp), rfl, by omega, hb, by omega, by omega, HNB.out, HI7.out, by unfold Hid; rw [← HGO.out, HO.out]⟩
                        case measure => simp [intOf]; omega
                      · have glt : decide ((M1 : Int) < (M2 : Int)) = false := by simp; omega
                        have hgo := HFR.out (by have := HM1.out; have := HM2.out; omega)
                        rw [HD2.out] at hgo
                        have HGO := Lib.hid hgo
                        clear hgo
                        go_wp2_with fail
                        refine HC.out.mono ?_; rintro e w4 ⟨rfl, h4⟩
                        have HI6 := Lib.hid (HI5.out.call HS.out h4 HS4.out)
                        clear h4 c0 c1
                        have c0 := HI6.out.c0
                        have c1 := HI6.out.c1
                        go_wp2_with fail
                        refine (IH.out w4 d4 (mid + 1) b lim1 (HI6.out.srt HS.out) (by omega) (by omega) hb (by omega) HBR.out).mono ?_; rintro e w5 ⟨rfl, h5⟩
                        have hps := Sort.pdq_sorts ltE swo_ltE d4 (mid + 1) b lim1 true true (by omega) (by rw [HS4.out]; exact hb) HBR.out
                        have HSZ : Hid ((Sort.pdq ltE d4 (mid + 1) b lim1 true true).size = n) := hps.1.1.trans HS4.out
                        have HNB : Hid (Sort.Below ltE a mid (Sort.pdq ltE d4 (mid + 1) b lim1 true true)) := bel_same HBL.out r1 fun i h1 => hps.1.2.1 i (.inl (by omega))
                        clear hps
                        have HI7 := Lib.hid (HI6.out.call HS.out h5 HSZ.out)
                        clear h5 c0 c1
                        generalize Sort.pdq ltE d4 (mid + 1) b lim1 true true = d5 at *
                        go_wp2
                        go_roundw
                        case rel => exact ⟨a, mid, lim1, decide (Q ≤ M2), ap, d5, rfl, rfl, rfl, by first | rfl | (congr 1; rw [Bool.eq_iff_iff]; simp), rfl, r1, by omega, by omega, by omega, HNB.out, HI7.out, by unfold Hid; rw [← HGO.out, HO.out]⟩
                        case measure => simp [intOf]; omega
end
end Go.Proofs.Ytdjmjabbjjcgiaa
