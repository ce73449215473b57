/-
  GraphStays: for whatever graph and number; no condition.
-/
import Derived.Test.YtcfpoanlenjjlaaRows
import Derived.Test.YtcfpoanlenjjlaaGraphTurn
import Derived.Test.YtcfpoanlenjjlaaGraphOrd
import Derived.Test.YtcfpoanlenjjlaaGraphAwake
import Derived.Test.YtcfpoanlenjjlaaGraphCnt
import Derived.Test.YtcfpoanlenjjlaaGraphSame
import Derived.WalkKit
import Derived.ProofKit
import Derived.OpenShut
import Derived.ShutString
import Derived.ChangeOld
import Derived.Below
namespace Go.Proofs.Ytcfpoanlenjjlaa.graphStays
open Go.ChangeShapes Go.WideShapes Go.ChangeAt Go.RowKit
open Go.ChangeMaps (open_string shut_string)
set_option linter.unusedVariables false

theorem own : ownKnob Try.prog.godebug = none := by kernel_rfl
theorem laidOut : laidOutB Try.prog = true := by kernel_rfl

theorem same_self2 (N : Int) (l : List (Int × Int)) : sameG N l N l = true := by rw [sameG_eq]; unfold eqL; simp
theorem u16_lt {x : Int} (h : (Lit.int .u16 x).wf = true) : 0 ≤ x ∧ x < 65536 := by
  simp [Lit.wf, IntKind.min, IntKind.max, IntKind.signed, IntKind.bits] at h; omega

set_option maxHeartbeats 1600000 in
set_option maxRecDepth 100000 in
theorem walk (N0 : Int) (a0 : Option Addr) (len0 cap0 : Nat) (l0 : List (Int × Int)) (a1 : Int) (w : World) (wN0 : I64 N0) (wr0 : ReadsE w w.heap.size a0 len0 l0) (wc0 : len0 ≤ cap0 ∧ cap0 ≤ maxLen) (w1 : (Lit.int .u16 a1).wf = true) :
    Calls Try.prog 6 #[.agg #[.int .i64 N0, .slice a0 len0 cap0], .int .u16 a1] w fun e w' => e = .returned (.bool true) ∧ Below w.heap.size w w' := by
  have hm0 : len0 ≤ 9223372036854775807 := by have := wc0.2; unfold maxLen at this; omega
  obtain ⟨ht0, ht1⟩ := u16_lt w1
  obtain ⟨t, rfl⟩ := Int.eq_ofNat_of_zero_le ht0
  have bN := wN0.bounds
  clear wc0 w1 ht0
  go_enter Try.func6, Try.ntmps6
  go_wp2_with fail
  refine (awake_any _).mono ?_; rintro e w1 ⟨rfl, hb1⟩
  have HBX : Hid (Row (w.alloc (.cells #[.int .i64 N0, .slice a0 len0 cap0] 24)) w.heap.size 24 [.int .i64 N0, .slice a0 len0 cap0]) := heap_alloc_new _ _
  have R1 := Lib.hid (HBX.out.keep hb1)
  have W1 := Lib.hid (((Below.refl w.heap.size w).alloc (Nat.le_refl _) (.cells #[.int .i64 N0, .slice a0 len0 cap0] 24)).trans (hb1.mono (by simp)))
  have c0 := R1.out.cell 0
  have c1 := R1.out.cell 1
  clear hb1
  go_wp2_with fail
  refine (few_any N0 a0 len0 cap0 _).mono ?_; rintro e w2 ⟨rfl, hb2⟩
  have R2 := Lib.hid (R1.out.keep hb2)
  have W2 := Lib.hid (W1.out.trans (hb2.mono W1.out.size))
  have c0 := R2.out.cell 0
  have c1 := R2.out.cell 1
  have z2 : w.heap.size < w2.heap.size := R2.out.lt
  have E2 := Lib.hid (wr0.keep W2.out)
  clear hb2
  by_cases hbig : len0 ≤ 300
  · have g1 : decide (len0 ≤ 300) = true := by simp; omega
    rw [g1]
    by_cases hN : 500 < N0
    · have g2 : decide (500 < N0) = true := by simp; omega
      go_wp2_with fail
      refine (awake_any _).mono ?_; rintro e w4 ⟨rfl, hb4⟩
      have HB4 := Lib.hid (W2.out.trans (hb4.mono W2.out.size))
      clear hb4
      go_wp2
      go_ret
      exact ⟨rfl, HB4.out⟩
    · have g2 : decide (500 < N0) = false := by simp; omega
      go_wp2_with fail
      refine (formed_any N0 a0 len0 cap0 l0 _ wN0 E2.out (by omega) hm0).mono ?_; rintro e w3 ⟨rfl, hb3⟩
      have R3 := Lib.hid (R2.out.keep hb3)
      have W3 := Lib.hid (W2.out.trans (hb3.mono W2.out.size))
      have c0 := R3.out.cell 0
      have c1 := R3.out.cell 1
      have z3 : w.heap.size < w3.heap.size := R3.out.lt
      have E3 := Lib.hid (wr0.keep W3.out)
      clear hb3
      by_cases hf : formed N0 l0 = true
      · rw [hf]
        obtain ⟨⟨hn0, hn1, _⟩, hends⟩ := formed_iff.1 hf
        obtain ⟨N, rfl⟩ := Int.eq_ofNat_of_zero_le hn0
        have HF := Lib.hid hf
        have HSUM := Lib.hid (degs_sum (N := N) (l := l0) hends)
        have HLEN := Lib.hid wr0.1
        have HWF := Lib.hid wr0.2.1
        clear hf hn0 hn1 hends
        go_wp2_with fail
        refine (order_ok N a0 len0 cap0 l0 w3 wN0 HF.out E3.out (by omega)).mono ?_; rintro e w4 ⟨A4, k4, rfl, hr4, hb4⟩
        have R4 := Lib.hid ((R3.out.keep hb4).alloc (.cells #[.int .i64 (N : Int), .slice A4 len0 k4] 24))
        have W4 := Lib.hid (W3.out.trans ((hb4.mono W3.out.size).alloc (Nat.le_trans W3.out.size hb4.size) (.cells #[.int .i64 (N : Int), .slice A4 len0 k4] 24)))
        have Ra : Hid (Row (w4.alloc (.cells #[.int .i64 (N : Int), .slice A4 len0 k4] 24)) w4.heap.size 24 [.int .i64 (N : Int), .slice A4 len0 k4]) := heap_alloc_new _ _
        have Ea := Lib.hid (hr4.keep ((Below.refl w4.heap.size w4).alloc (Nat.le_refl _) (.cells #[.int .i64 (N : Int), .slice A4 len0 k4] 24)))
        have z4 : w.heap.size < w4.heap.size := by have := hb4.size; omega
        clear hr4 hb4
        go_wp2_with fail
        refine (order_ok N A4 len0 k4 (order l0) _ wN0 (order_formed HF.out) Ea.out (by simp)).mono ?_; rintro e w5 ⟨A5, k5, rfl, hr5, hb5⟩
        have R5 := Lib.hid ((R4.out.keep hb5).alloc (.cells #[.int .i64 (N : Int), .slice A5 len0 k5] 24))
        have Ra5 := Lib.hid ((Ra.out.keep hb5).alloc (.cells #[.int .i64 (N : Int), .slice A5 len0 k5] 24))
        have W5 := Lib.hid (W4.out.trans ((hb5.mono W4.out.size).alloc (Nat.le_trans W4.out.size hb5.size) (.cells #[.int .i64 (N : Int), .slice A5 len0 k5] 24)))
        have Rb : Hid (Row (w5.alloc (.cells #[.int .i64 (N : Int), .slice A5 len0 k5] 24)) w5.heap.size 24 [.int .i64 (N : Int), .slice A5 len0 k5]) := heap_alloc_new _ _
        rw [order_order] at hr5
        have Eb := Lib.hid (hr5.keep ((Below.refl w5.heap.size w5).alloc (Nat.le_refl _) (.cells #[.int .i64 (N : Int), .slice A5 len0 k5] 24)))
        have Ea5 := Lib.hid ((Ea.out.keep (hb5.mono (by simp))).keep ((Below.refl w5.heap.size w5).alloc (Nat.le_refl _) (.cells #[.int .i64 (N : Int), .slice A5 len0 k5] 24) |>.mono (by have := hb5.size; simp at this; omega)))
        have z5 : w4.heap.size < w5.heap.size := by have := hb5.size; simp at this; omega
        have c0 := (R4.out.keep hb5).cell 0
        have c1 := (R4.out.keep hb5).cell 1
        clear hr5 hb5 c0 c1
        have c0 := R5.out.cell 0
        have c1 := R5.out.cell 1
        obtain ⟨w6, hw6⟩ : ∃ w6, w5.alloc (.cells #[.int .i64 (N : Int), .slice A5 len0 k5] 24) = w6 := ⟨_, rfl⟩
        have z6 : w6.heap.size = w5.heap.size + 1 := by rw [← hw6]; simp
        rw [hw6] at R5 Ra5 W5 Rb Eb Ea5 c0 c1
        obtain ⟨i0, hi, hz0, hz1, hz2⟩ := info_parts info_edge
        go_wp2_with fail
        obtain ⟨Bt, hBt⟩ : ∃ Bt, w5.heap.size + 1 = Bt := ⟨_, rfl⟩
        rw [hBt]
        have zt : w6.heap.size = Bt := by omega
        have HRT : Hid (Row (w6.alloc (.cells #[.int .i64 (N : Int), .slice none 0 0] 24)) Bt 24 [.int .i64 (N : Int), .slice none 0 0]) := by unfold Hid; rw [← zt]; exact heap_alloc_new _ _
        have HNIL : Hid ((w6.alloc (.cells #[.int .i64 (N : Int), .slice none 0 0] 24)).ownsRow (Bt + 1) 37 2 (.slice none 0 0) 0 (flatE (turnE l0 len0 t 0))) := World.ownsRow_nil _ _ _ _
        have HZT := Lib.hid zt
        have zt2 : w.heap.size < Bt := by omega
        have zt4 : w4.heap.size < Bt := by omega
        have zt5 : w5.heap.size < Bt := by omega
        clear hw6 z6 hBt zt c0 c1
        go_loopw [10] (fun iv wr => ∃ (i : Nat) (v : Value), i ≤ len0 ∧ iv = .int .i64 i ∧ Hid (Below Bt w6 wr) ∧ Hid (Row wr Bt 24 [.int .i64 (N : Int), v]) ∧ Hid (wr.ownsRow (Bt + 1) 37 2 v i (flatE (turnE l0 len0 t i)))) (fun iv _ => len0 - (intOf iv).toNat)
        case atStart => exact ⟨0, .slice none 0 0, by omega, rfl, (Below.refl _ _).alloc (by have := HZT.out; omega) _, HRT.out, HNIL.out⟩
        case round =>
          obtain ⟨i, v, hil, rfl, HBW, HO, HW⟩ := hrel
          have RB := Lib.hid (R5.out.below HBW.out zt2)
          have c0 := RB.out.cell 0
          have c1 := RB.out.cell 1
          have o0 := HO.out.cell 0
          have o1 := HO.out.cell 1
          have hbr : Bt < wr.heap.size := HO.out.lt
          have hwr : w.heap.size < wr.heap.size := by omega
          have WW := Lib.hid (W5.out.trans (HBW.out.mono (show w.heap.size ≤ Bt by omega)))
          by_cases hlt : i < len0
          · obtain ⟨r, hr⟩ : ∃ r, (i + t) % len0 = r := ⟨_, rfl⟩
            have hrl : r < len0 := by rw [← hr]; exact Nat.mod_lt _ (by omega)
            obtain ⟨b, off, u, x, rfl, hb, hu, hx, wu, wx, HEK⟩ := (wr0.keep WW.out).at_ hrl
            have hb2 : b < wr.heap.size := by omega
            have HTS : Hid (turnE l0 len0 t (i + 1) = turnE l0 len0 t i ++ [(x, u)]) := by
              unfold Hid; rw [turnE_snoc, hr]; unfold gE; rw [HEK.out]; rfl
            have hs1 : IntKind.i64.wrap ((i : Int) + (t : Int)) = (i : Int) + (t : Int) := IntWalk.i64_in _ (by omega)
            have hs2 : ((i : Int) + (t : Int)).tmod (len0 : Int) = (r : Int) := by
              rw [Int.tmod_eq_emod_of_nonneg (by omega), ← hr]; simp
            have hs3 : ((i : Int) + (t : Int)) % (len0 : Int) = (r : Int) := by rw [← hr]; simp
            have hs4 : IntKind.i64.wrap (t : Int) = (t : Int) := IntWalk.i64_in _ (by omega)
            have hs5 : IntKind.i64.wrap (r : Int) = (r : Int) := IntWalk.i64_in _ (by omega)
            have hr0 : (0 : Int) ≤ (r : Int) := by omega
            have hr1 : (r : Int) < (len0 : Int) := by omega
            have hn0 : (0 : Int) < (len0 : Int) := by omega
            have hnz : ¬ len0 = 0 := by omega
            have hnz2 : ((len0 : Int) == 0) = false := by simp; omega
            clear hr
            go_wp2
            go_region_held3 (fun w' => w'.cell? ⟨w.heap.size, 1, none⟩ = some (.slice (some ⟨b, off, none⟩) len0 cap0) ∧ w'.cell? ⟨b, off + r * 2, none⟩ = some (.int .i64 u) ∧ w'.cell? ⟨b, off + r * 2 + 1, none⟩ = some (.int .i64 x)) (go_keep) (fail)
            go_wp2_with (with_reducible refine stopAt 78 ?_)
            unfold Hid
            refine wpList_append_own _ rfl _ _ 22 rfl (Bt + 1) 37 i0 (.agg #[.int .i64 0, .int .i64 0]) 2 16 Try.underlying22 hi hz0 hz1 hz2 rfl (by omega) v i _ rfl ((HW.out.alloc _).alloc _).drew ⟨wr.heap.size + 1, 0, none⟩ 1 1 [.int .i64 x, .int .i64 u] rfl rfl (fun j v h => news22 (w := wr) j v h) (by simp [Value.oneCell']) (by unfold maxLen; omega) (by omega) (by simp; omega) ?_
            intro v' w' hown' hgrow' _
            have hrb : Row w' Bt 24 [.int .i64 (N : Int), v] := by
              have h := (HO.out.alloc (.cells #[.int .i64 u, .int .i64 x] 37)).alloc (.cells #[.int .i64 x, .int .i64 u] 37)
              exact (hgrow'.block Bt h.lt (fun e => by have := (HW.out.lt Bt e.symm).1; omega)).trans h
            have hbw : Below Bt w6 w' := by
              have hz : w6.heap.size ≤ wr.heap.size := HBW.out.size
              refine Below.grown (((HBW.out.alloc (by omega) (.cells #[.int .i64 u, .int .i64 x] 37)).alloc (by simp; omega) (.cells #[.int .i64 x, .int .i64 u] 37)).drew) hgrow' (by simp; omega) fun k hk => by have := (HW.out.lt k hk).1; omega
            obtain ⟨g, cp, T, rfl, hg, hrow, hc1, hc2, hc3⟩ := own_row2 hown' (by omega)
            have HRB := Lib.hid hrb
            have HBB := Lib.hid hbw
            have HWW := Lib.hid hown'
            have o0' := hrb.cell 0
            have o1' := hrb.cell 1
            have of1 := hrb.free 1
            have hbw2 : Bt < w'.heap.size := hrb.lt
            clear hrb hbw hown' hgrow' o0 o1 c0 c1 hrow hc1 hc2 hc3
            go_wp2
            have HF1 := Lib.hid (HRB.out.set 1 (.slice (some ⟨g, 0, none⟩) (i + 1) cp))
            have HF2 := Lib.hid (HBB.out.setCell (p := ⟨Bt, 1, none⟩) (Nat.le_refl _) (.slice (some ⟨g, 0, none⟩) (i + 1) cp))
            have HF3 : Hid ((w'.setCell ⟨Bt, 1, none⟩ (.slice (some ⟨g, 0, none⟩) (i + 1) cp)).ownsRow (Bt + 1) 37 2 (.slice (some ⟨g, 0, none⟩) (i + 1) cp) (i + 1) (flatE (turnE l0 len0 t (i + 1)))) := by
              unfold Hid
              rw [HTS.out, flatE_snoc]
              exact own_keep2 HWW.out fun b hb _ => heap_setCell_other _ _ _ _ (by show b ≠ Bt; omega)
            go_roundw
            case rel => exact ⟨i + 1, _, by omega, by go_num, HF2.out, HF1.out, HF3.out⟩
            case measure => simp [intOf]; omega
          · obtain rfl : i = len0 := by omega
            obtain ⟨At, kt, rfl, hrt⟩ := own_edges HW.out (turnE_length _ _ _ _) (fun x hx => by
              have hi0 : 0 < i := by
                rcases Nat.eq_zero_or_pos i with h | h
                · subst h; simp [turnE] at hx
                · exact h
              obtain ⟨y, hy, rfl⟩ := turnE_mem HLEN.out hi0 hx
              exact ⟨(HWF.out y hy).2, (HWF.out y hy).1⟩)
            have RTr := Lib.hid hrt
            have RA := Lib.hid (Ra5.out.below HBW.out zt4)
            have RBB := Lib.hid (Rb.out.below HBW.out zt5)
            have EA := Lib.hid (Ea5.out.keep (HBW.out.mono (by have := HZT.out; omega)))
            have EB := Lib.hid (Eb.out.keep (HBW.out.mono (by have := HZT.out; omega)))
            have EG := Lib.hid (wr0.keep WW.out)
            have za : w4.heap.size < wr.heap.size := by omega
            have zb : w5.heap.size < wr.heap.size := by omega
            have zr : w.heap.size ≤ wr.heap.size := by omega
            clear hrt HW HNIL HRT
            go_wp2_with fail
            refine (order_ok (N : Int) At i kt (turnE l0 i t i) wr wN0 (turnE_formed HLEN.out t HF.out) RTr.out (by omega)).mono ?_; rintro e w7 ⟨A7, k7, rfl, hr7, hb7⟩
            rw [turnE_order HLEN.out t] at hr7
            have HB8 : Hid (Below wr.heap.size wr (w7.alloc (.cells #[.int .i64 (N : Int), .slice A7 i k7] 24))) := hb7.alloc hb7.size _
            have RC8 : Hid (Row (w7.alloc (.cells #[.int .i64 (N : Int), .slice A7 i k7] 24)) w7.heap.size 24 [.int .i64 (N : Int), .slice A7 i k7]) := heap_alloc_new _ _
            have EC8 := Lib.hid (hr7.keep ((Below.refl w7.heap.size w7).alloc (Nat.le_refl _) (.cells #[.int .i64 (N : Int), .slice A7 i k7] 24)))
            have z7 : wr.heap.size ≤ w7.heap.size := hb7.size
            obtain ⟨w8, hw8⟩ : ∃ w8, w7.alloc (.cells #[.int .i64 (N : Int), .slice A7 i k7] 24) = w8 := ⟨_, rfl⟩
            have z8 : w7.heap.size < w8.heap.size := by rw [← hw8]; simp
            rw [hw8] at HB8 RC8 EC8
            have RG8 := Lib.hid (RB.out.keep HB8.out)
            have RA8 := Lib.hid (RA.out.keep HB8.out)
            have RB8 := Lib.hid (RBB.out.keep HB8.out)
            have EA8 := Lib.hid (EA.out.keep (HB8.out.mono (by omega)))
            have EB8 := Lib.hid (EB.out.keep (HB8.out.mono (by omega)))
            have EG8 := Lib.hid (EG.out.keep (HB8.out.mono (by omega)))
            have W8 := Lib.hid (WW.out.trans (HB8.out.mono zr))
            have ca0 := RA8.out.cell 0
            have ca1 := RA8.out.cell 1
            clear hr7 hb7 c0 c1 o0 o1 HO
            go_wp2_with fail
            refine (ordered_any (N : Int) A4 i k4 (order l0) w8 wN0 EA8.out (by omega) hm0).mono ?_; rintro e w9 ⟨rfl, hb9⟩
            rw [order_ordered HF.out]
            have B9 := Lib.hid hb9
            have ca0' := (RA8.out.keep B9.out).cell 0
            have ca1' := (RA8.out.keep B9.out).cell 1
            have cb0 := (RB8.out.keep B9.out).cell 0
            have cb1 := (RB8.out.keep B9.out).cell 1
            clear ca0 ca1 hb9
            go_wp2_with fail
            refine (same_any (N : Int) A4 i k4 (order l0) (N : Int) A5 i k5 (order l0) w9 (EA8.out.keep (B9.out.mono (by omega))) (EB8.out.keep (B9.out.mono (by omega))) (by have := B9.out.size; omega) (by have := B9.out.size; omega) hm0 hm0).mono ?_; rintro e w10 ⟨rfl, hb10⟩
            rw [same_self2]
            have B10 := Lib.hid (B9.out.trans (hb10.mono B9.out.size))
            have ca0 := (RA8.out.keep B10.out).cell 0
            have ca1 := (RA8.out.keep B10.out).cell 1
            have cc0 := (RC8.out.keep B10.out).cell 0
            have cc1 := (RC8.out.keep B10.out).cell 1
            clear ca0' ca1' cb0 cb1 hb10
            go_wp2_with fail
            refine (same_any (N : Int) A4 i k4 (order l0) (N : Int) A7 i k7 (order l0) w10 (EA8.out.keep (B10.out.mono (by omega))) (EC8.out.keep (B10.out.mono (by omega))) (by have := B10.out.size; omega) (by have := B10.out.size; omega) hm0 hm0).mono ?_; rintro e w11 ⟨rfl, hb11⟩
            rw [same_self2]
            have B11 := Lib.hid (B10.out.trans (hb11.mono B10.out.size))
            have cg0 := (RG8.out.keep B11.out).cell 0
            have cg1 := (RG8.out.keep B11.out).cell 1
            clear ca0 ca1 cc0 cc1 hb11
            go_wp2_with fail
            refine (degrees_ok N a0 i cap0 l0 w11 HF.out (EG8.out.keep (B11.out.mono (by omega))) (by have := B11.out.size; omega)).mono ?_; rintro e w12 ⟨v12, rfl, ho12, hx12, hb12⟩
            have B12 := Lib.hid (B11.out.trans (hb12.mono B11.out.size))
            have HO12 := Lib.hid ho12
            have HX12 := Lib.hid hx12
            have ca0 := (RA8.out.keep B12.out).cell 0
            have ca1 := (RA8.out.keep B12.out).cell 1
            clear cg0 cg1 hb12 ho12 hx12
            go_wp2_with fail
            refine (degrees_ok N A4 i k4 (order l0) w12 (order_formed HF.out) (EA8.out.keep (B12.out.mono (by omega))) (by have := B12.out.size; omega)).mono ?_; rintro e w13 ⟨v13, rfl, ho13, hx13, hb13⟩
            rw [degs_order] at ho13 hx13
            have B13 := Lib.hid (B12.out.trans (hb13.mono B12.out.size))
            have cg0 := (RG8.out.keep B13.out).cell 0
            have cg1 := (RG8.out.keep B13.out).cell 1
            have HD : Hid ((degs N l0).length = N) := degs_length _ _
            obtain ⟨D, hD⟩ : ∃ D, degs N l0 = D := ⟨_, rfl⟩
            rw [hD] at HD HSUM HO12 HX12 ho13 hx13
            obtain ⟨A12, k12, rfl, hr12, _⟩ := own_reads (own_keep HO12.out hb13) HX12.out
            obtain ⟨A13, k13, rfl, hr13, _⟩ := own_reads ho13 hx13
            have ER12 := Lib.hid hr12
            have ER13 := Lib.hid hr13
            have hN5 : N ≤ 500 := by omega
            clear ca0 ca1 hb13 ho13 hx13 HO12 HX12 hr12 hr13 hD
            go_wp2
            go_loopw [18, 19] (fun sv iv wq => ∃ k q : Nat, k ≤ N ∧ sv = .int .i64 ((D.take k).sum : Nat) ∧ iv = .int .i64 k ∧ wq = w13.drewN q) (fun _ iv _ => N - (intOf iv).toNat)
            case atStart => exact ⟨0, 0, by omega, rfl, rfl, rfl⟩
            case round =>
              obtain ⟨k, q, hk, rfl, rfl, rfl⟩ := hrel
              by_cases hkN : k < N
              · obtain ⟨b, off, u, rfl, hb, hu, wu, HE⟩ := ER12.out.at_ hkN
                obtain ⟨b2, off2, c, rfl, hb2, hc, wc, HE2⟩ := ER13.out.at_ hkN
                obtain rfl : u = c := HE.out.trans HE2.out.symm
                have hS := sum_take_snoc HD.out hkN HE.out
                have hSl := sum_take_le D (k + 1)
                rw [HSUM.out, hS] at hSl
                obtain ⟨s, hs⟩ : ∃ s, (D.take k).sum = s := ⟨_, rfl⟩
                rw [hs] at hS hSl ⊢
                have HS := Lib.hid hS
                have hw1 : IntKind.i64.wrap ((s : Int) + (u : Int)) = (s : Int) + (u : Int) := IntWalk.i64_in _ (by omega)
                have hj0 : (0 : Int) ≤ (k : Int) := by omega
                have hj1 : (k : Int) < (N : Int) := by omega
                have g : ((u : Int) != (u : Int)) = false := by simp
                have g2 : decide ((N : Int) ≤ (k : Int)) = false := by simp; omega
                have g3 : ¬ (N ≤ k) := by omega
                clear hS hs HE2
                go_wp2
                go_quiet (fail)
                go_wp2
                go_roundw
                case rel => exact ⟨k + 1, q + nq, by omega, by rw [HS.out]; go_num, by go_num, by simp⟩
                case measure => simp [intOf]; omega
              · obtain rfl : k = N := by omega
                have hS : (D.take k).sum = 2 * i := by rw [List.take_of_length_le (by rw [HD.out]; omega), HSUM.out, HLEN.out]
                rw [hS]
                obtain ⟨t2, ht2⟩ : ∃ t2, 2 * i = t2 := ⟨_, rfl⟩
                rw [ht2]
                have hw1 : IntKind.i64.wrap (2 * (i : Int)) = (t2 : Int) := by rw [← ht2]; rw [IntWalk.i64_in _ (by omega)]; simp
                go_wp2
                go_ret
                exact ⟨rfl, below_drewN (W8.out.trans (B13.out.mono (by omega))) _⟩
      · have HF : Hid (formed N0 l0 = false) := by unfold Hid; simpa using hf
        rw [HF.out]
        go_wp2_with fail
        refine (awake_any _).mono ?_; rintro e w4 ⟨rfl, hb4⟩
        have HB4 := Lib.hid (W3.out.trans (hb4.mono W3.out.size))
        clear hb4 hf
        go_wp2
        go_ret
        exact ⟨rfl, HB4.out⟩
  · have g1 : decide (len0 ≤ 300) = false := by simp; omega
    rw [g1]
    go_wp2_with fail
    refine (awake_any _).mono ?_; rintro e w4 ⟨rfl, hb4⟩
    have HB4 := Lib.hid (W2.out.trans (hb4.mono W2.out.size))
    clear hb4
    go_wp2
    go_ret
    exact ⟨rfl, HB4.out⟩

set_option maxRecDepth 100000 in
theorem lifted (os : Os) (started : os.Started) (H : Type) (enc : TypeId × Value → H) :
    ReturnsInHanded {} Try.checked os 6 .any (Rows.graphStaysSpec.pre6 enc Try.prog Try.f6 Rows.graphStaysRow.domain false) (Rows.graphStaysSpec.post enc Try.prog Try.f6 false true false false) := by
  refine returnsInHanded_of_change (C := Try.checked) own started (by kernel_rfl) Try.func6
    (ChangeSpec.witness6 (enc := enc) (C := Try.checked) false ⟨#[], #[.agg #[.int .i64 0, .slice none 0 0], .int .u16 0], []⟩ 8 (by kernel_rfl) (by kernel_rfl) (by kernel_rfl) (by kernel_rfl)) ?_
  intro W base args ds gs before hval0 hW hcnd _
  have hval : ∀ (j : Nat) t v, Try.f6.params[j]? = some t → args[j]? = some v → Value.okWide Try.prog W .any base t v := hval0
  have hW' := hW
  obtain ⟨p, q, hA0, hV, rfl, hfz, hnd⟩ := hW
  have hA : DataW.TrodAll enc Try.prog W 0 (fun _ => true) true Try.f6.params.toList args.toList ds p := hA0
  rw [Try.params6] at hA hval
  obtain ⟨v0, vs0, d0, ds0, p0, q0, hargs, rfl, rfl, h0, r0⟩ := trodAll_cons hA
  obtain ⟨v1, vs1, d1, ds1, p1, q1, rfl, rfl, rfl, h1, r1⟩ := trodAll_cons r0
  obtain ⟨rfl, rfl, rfl⟩ := trodAll_nil r1
  obtain rfl : args = #[v0, v1] := by cases args; simp_all
  obtain ⟨rfl, rfl⟩ := trodVars_none hV
  have k0 := h0
  have lt0 : ∀ x ∈ p0, x.block < W.heap.size := by obtain ⟨m, hm⟩ := k0; exact DataW.trod_lt m _ _ _ hm
  have k1 := h1
  have lt1 : ∀ x ∈ p1, x.block < W.heap.size := by obtain ⟨m, hm⟩ := k1; exact DataW.trod_lt m _ _ _ hm
  obtain ⟨N0, a0, len0, cap0, l0, rfl, wN0, wr0, wc0⟩ := open_graph Try.underlying24 (by kernel_rfl) (by kernel_rfl) rfl rfl Try.underlying22 Try.underlying37 (by kernel_rfl) (by kernel_rfl) Try.underlying3 rfl rfl (hval 0 24 v0 rfl rfl) h0
  obtain ⟨a1, rfl, rfl, rfl, w1⟩ := open_int Try.underlying35 (hval 1 35 v1 rfl rfl) h1
  clear hA0 hval0
  refine (walk N0 a0 len0 cap0 l0 a1 W wN0 wr0 wc0 w1).mono fun e W' ⟨he, bel⟩ => ?_
  subst he
  exact ⟨_, rfl, _, _, _, [], _, [], hW', trodAll_mk1 (shut_bool Try.underlying4 _), (trodAll_cons_mk (Below.trod laidOut (by kernel_rfl) (of_decide_eq_true (by kernel_rfl)) k0 bel lt0) (trodAll_cons_mk (Below.trod laidOut (by kernel_rfl) (of_decide_eq_true (by kernel_rfl)) k1 bel lt1) trodAll_mk0)), rfl, bel.frame _, fun h => by cases h⟩

theorem over : Rows.graphStaysRow.holds Try.pinned (OpenSpec.ofChange Rows.graphStaysSpec) :=
  OpenClaim.holds_of_wide 6 Try.f6 rfl rfl rfl rfl rfl rfl rfl ⟨rfl, rfl, rfl, rfl, rfl⟩ rfl rfl rfl rfl rfl (by kernel_rfl) Try.func6 (by kernel_rfl)
    (of_decide_eq_true (by kernel_rfl)) (by unfold Func.isWrapper; first | (rw [if_pos (by decide +kernel)]; kernel_rfl) | (rw [if_neg (by decide +kernel)]; exact ⟨rfl, rfl⟩))
    (fun os started H enc _ => lifted os started H enc)

theorem proved : Rows.GraphStaysSaid := over
end Go.Proofs.Ytcfpoanlenjjlaa.graphStays
