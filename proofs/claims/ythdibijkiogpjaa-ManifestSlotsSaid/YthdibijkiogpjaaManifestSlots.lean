/-
  ManifestSlots: whatever size, generation and entries, a Save writes the blocks of its own slot alone; no condition.
-/
import Derived.Test.YthdibijkiogpjaaRows
import Derived.Test.YthdibijkiogpjaaManSlots
import Derived.WalkKit
import Derived.ProofKit
import Derived.OpenShut
import Derived.ShutString
import Derived.ChangeOld
import Derived.Below
namespace Go.Proofs.Ythdibijkiogpjaa.manifestSlots
open Go.ChangeShapes Go.WideShapes Go.ChangeAt Go.RowKit
open Go.ChangeMaps (open_string shut_string)
set_option linter.unusedVariables false

theorem own : ownKnob Try.prog.godebug = none := by kernel_rfl
theorem laidOut : laidOutB Try.prog = true := by kernel_rfl


set_option maxHeartbeats 4000000 in
set_option maxRecDepth 100000 in
theorem walk (a0 : Int) (a1 : Int) (a2 : Option Addr) (len2 cap2 : Nat) (l2 : List Ent) (w : World) (w0 : (Lit.int .u8 a0).wf = true) (w1 : (Lit.int .u8 a1).wf = true) (wr2 : ReadsN w w.heap.size a2 len2 l2) (wm2 : len2 ≤ maxLen) :
    Calls Try.prog 6 #[.int .u8 a0, .int .u8 a1, .slice a2 len2 cap2] w fun e w' => e = .returned (.bool true) ∧ Below w.heap.size w w' := by
  obtain ⟨i0, hi0, hz0, hz1, hz2⟩ := info_parts infoU
  obtain ⟨a, rfl⟩ := Int.eq_ofNat_of_zero_le (show 0 ≤ a0 by have := bounds_u8 w0; omega)
  obtain ⟨gn, rfl⟩ := Int.eq_ofNat_of_zero_le (show 0 ≤ a1 by have := bounds_u8 w1; omega)
  have ha8 := u8_lt w0
  have hg8 := u8_lt w1
  have R2 := Lib.hid wr2
  have M2 := Lib.hid wm2
  clear wr2 w0 w1 wm2
  go_enter Try.func6, Try.ntmps6
  go_wp2_with fail
  refine (awake_any _).mono ?_; rintro e w2 ⟨rfl, hb2⟩
  have HB2 := Lib.hid hb2
  clear hb2
  go_wp2_with fail
  refine (few_any a2 len2 cap2 l2 w2 (R2.out.keep HB2.out) M2.out).mono ?_
  rintro e w3 ⟨v, rfl, rfl, r1, rfl, hr1⟩
  have HR1 := Lib.hid hr1
  clear hr1
  cases r1
  · go_wp2_with fail
    refine (awake_any _).mono ?_; rintro e w4 ⟨rfl, hb4⟩
    go_wp2
    go_ret
    exact ⟨rfl, HB2.out.trans (hb4.mono HB2.out.size)⟩
  have hl20 := HR1.out rfl
  go_wp2_with fail
  refine (formed_any a2 len2 cap2 l2 w3 (R2.out.keep HB2.out) HB2.out.size M2.out).mono ?_
  rintro e w6 ⟨rfl, hb5⟩
  have HB6 := Lib.hid (HB2.out.trans (hb5.mono HB2.out.size))
  clear hb5
  by_cases hf2 : FormedP l2
  · rw [decide_eq_true hf2]
    have HF2 := Lib.hid hf2
    clear hf2
    obtain ⟨q, hq⟩ : ∃ q, q = a % 200 := ⟨_, rfl⟩
    obtain ⟨size, hsz⟩ : ∃ size, size = 8 + q := ⟨_, rfl⟩
    have hb200 : size ≤ 207 ∧ 8 ≤ size := by omega
    have hmod : (a : Int) % 200 = (q : Int) := by omega
    have hadd : 8 + (q : Int) = (size : Int) := by omega
    have hql : q < 200 := by omega
    obtain ⟨g, hg⟩ : ∃ g, g = 1 + gn := ⟨_, rfl⟩
    have haddg : 1 + (gn : Int) = (g : Int) := by omega
    have hgb : 1 ≤ g ∧ g ≤ 256 := by omega
    obtain ⟨hk0, hk11, hk62⟩ := slot_pos hb200.2 (by omega)
    obtain ⟨k, hk⟩ : ∃ k, k = slotE size := ⟨_, rfl⟩
    have HSL : Hid (∀ W, Calls Try.prog 12 #[.int .i64 (size : Int)] W fun e w' => e = .returned (.int .i64 (k : Int)) ∧ W = w') := fun W => by
      have hs := slot_any (size : Int) W
      rw [if_pos (by omega), Int.toNat_natCast, ← hk] at hs; exact hs
    rw [← hk] at hk0 hk11 hk62
    obtain ⟨nb, hnb⟩ : ∃ nb, nb = 2 * k + 2 := ⟨_, rfl⟩
    have hadd2 : 2 * (k : Int) + 2 = (nb : Int) := by omega
    have hnb2 : 4 ≤ nb ∧ nb ≤ 24 := by omega
    have hnbk : 2 * k + 2 ≤ nb ∧ nb ≤ 2 * k + 2 := by omega
    have HNB : Hid (nb = 2 * k + 2) := hnb
    have HSZ : Hid (slotE size = k) := hk.symm
    clear hq hsz hk hg hnb
    go_wp2_with fail
    refine (HSL.out _).mono ?_; rintro e w7 ⟨rfl, rfl⟩
    go_wp2_with fail
    refine (run_new size (nb : Int) HB6.out (by omega) (by omega)).mono ?_
    rintro e w8 ⟨p, G, rfl, hrun8⟩
    have HRUN8 := Lib.hid hrun8
    clear hrun8
    have hkl : decide ((k : Int) < 1) = false := by simp; omega
    go_wp2_with (with_reducible refine stopAt 55 ?_)
    unfold Hid
    refine wpList_make_row _ rfl _ _ 47 rfl 38 i0 (.int .u64 0) Try.underlying47 hi0 hz0 hz1 rfl .i64 .i64 _ _ size rfl rfl rfl rfl (by rw [hz2]; omega) (by omega) ?_
    intro w9 hr9 hb9 hs9
    obtain ⟨mg, hmg⟩ : ∃ mg, mg = w8.heap.size := ⟨_, rfl⟩
    rw [← hmg] at hr9 ⊢
    have HMG : Hid (¬ G mg) := fun h => by have := HRUN8.out.2.1.lt h; omega
    have hs1 : (0 : Int) < (size : Int) := by omega
    have hc0 : w9.cell? ⟨mg, 0, none⟩ = some (.int .u64 0) := by
      rw [hr9.cell, List.getElem?_replicate, if_pos (by omega)]
    have hf0 := hr9.free 0
    have HR9 : Hid (Row (w9.setCell ⟨mg, 0, none⟩ (.int .u64 7)) mg 38 ((markL size).map vw)) := by
      have h := hr9.set 0 (.int .u64 7)
      have e : (List.replicate size (Value.int .u64 0)).set 0 (.int .u64 7) = (markL size).map vw := by
        obtain ⟨m, rfl⟩ : ∃ m, size = m + 1 := ⟨size - 1, by omega⟩
        rw [List.replicate_succ, List.set_cons_zero]
        unfold markL
        rw [List.map_cons, List.map_replicate]; rfl
      rw [e] at h; exact h
    have HRUN9 : Hid (Run w (w9.setCell ⟨mg, 0, none⟩ (.int .u64 7)) G p (fresh size (nb : Int)) 0) := by
      have hsw : Far (fun b => b = mg) w9 (w9.setCell ⟨mg, 0, none⟩ (.int .u64 7)) := (Far.refl (fun b => b = mg) w9).set (p := ⟨mg, 0, none⟩) (.inl rfl) _
      have h9 := HRUN8.out.below hb9
      have hw8 : w.heap.size ≤ mg := by have := HRUN8.out.1.size; omega
      exact ⟨h9.1.trans (hsw.below h9.1.size fun b hb => by rw [hb]; exact hw8), h9.2.1.far hsw fun b hb e => by subst e; exact HMG.out hb, h9.2.2⟩
    clear hs9 hmg hr9 hb9
    go_wp2
    generalize w9.setCell ⟨mg, 0, none⟩ (.int .u64 7) = w10 at *
    have HM10 : Hid (Reads .u64 w10 w10.heap.size (some ⟨mg, 0, none⟩) size (markL size)) := by
      have h := HR9.out.words (n := size) (by rw [mark_len (by omega)]; exact Nat.le_refl _) (fun x hx => by
        unfold markL at hx
        rcases List.mem_cons.1 hx with rfl | hx
        · decide
        · rw [List.eq_of_mem_replicate hx]; decide)
      rw [List.take_of_length_le (by rw [mark_len (by omega)]; exact Nat.le_refl _)] at h; exact h
    have hmgl : mg < w10.heap.size := HR9.out.lt
    have HM10 : Hid (Reads .u64 w10 (mg + 1) (some ⟨mg, 0, none⟩) size (markL size)) := by
      obtain ⟨q1, q2, q3⟩ := HM10.out
      refine ⟨q1, q2, fun hn => ?_⟩
      obtain ⟨b, off, e, _, hc⟩ := q3 hn
      have e' := e
      injection e' with e'; injection e' with e1 _
      exact ⟨b, off, e, by omega, hc⟩
    go_loopw [13] (fun iv wr => ∃ j : Nat, j ≤ nb ∧ iv = .int .i64 (j : Int) ∧ ∃ G' s', Hid (Run w wr G' p s' j) ∧ Hid (¬ G' mg) ∧ Hid (Calm s' ∧ s'.later = marks size j ∧ s'.size = size ∧ s'.blocks = (nb : Int) ∧ s'.fl = nothing) ∧ Hid (Reads .u64 wr (mg + 1) (some ⟨mg, 0, none⟩) size (markL size)) ∧ Hid (mg < wr.heap.size)) (fun iv _ => nb - (intOf iv).toNat)
    case atStart => exact ⟨0, by omega, rfl, G, fresh size (nb : Int), HRUN9.out, HMG.out, ⟨fresh_calm _ _, rfl, rfl, rfl, rfl⟩, HM10.out, hmgl⟩
    case round =>
      obtain ⟨j, hj, rfl, G', s', HRN, HMN, HS, HRD, HLT⟩ := hrel
      by_cases hlt : j < nb
      · have hj0 : decide ((j : Int) < (nb : Int)) = true := by simpa using hlt
        have hrt : right s' (j : Int) = true := by
          unfold right
          rw [HS.out.2.2.2.1]; simp; omega
        have hwo := write_ok HS.out.1 hrt (l := markL size) (by rw [mark_len (by omega), HS.out.2.2.1])
        have hrw := run_write HRN.out (j : Int) (some ⟨mg, 0, none⟩) size size (markL size) (by omega) (I64.of (by omega) (by omega)) HRD.out HLT.out
        rw [hwo] at hrw
        have HRW := Lib.hid hrw
        clear hrw hwo hrt
        go_wp2_with fail
        refine HRW.out.mono ?_
        rintro e w11 ⟨rfl, G11, hrun, hfar, hG⟩
        have HRN1 := Lib.hid hrun
        have HMN1 : Hid (¬ G11 mg) := fun h => by
          rcases hG mg h with h | h
          · exact HMN.out h
          · have := HLT.out; omega
        have HRD1 := Lib.hid (HRD.out.far HLT.out hfar fun _ b off e h => by
          injection e with e; injection e with e _; subst e; exact HMN.out h)
        have HLT1 : Hid (mg < w11.heap.size) := Nat.lt_of_lt_of_le HLT.out hfar.size
        have HS1 : Hid (Calm ({ s' with acts := s'.acts + 1, later := s'.later ++ [((j : Int), markL size)] } : St) ∧ s'.later ++ [((j : Int), markL size)] = marks size (j + 1) ∧ s'.size = size ∧ s'.blocks = (nb : Int) ∧ s'.fl = nothing) := by
          refine ⟨HS.out.1, ?_, HS.out.2.2⟩
          rw [HS.out.2.1, marks_snoc]
        clear hrun hfar hG HRW
        go_wp2
        go_roundw
        case rel => exact ⟨j + 1, by omega, by go_num, G11, _, HRN1.out, HMN1.out, HS1.out, HRD1.out, HLT1.out⟩
        case measure => simp [intOf]; omega
      · obtain rfl : j = nb := by omega
        have hj0 : decide ((j : Int) < (j : Int)) = false := by simp
        have hsv := run_save3 HRN.out HS.out.2.2.1 HSZ.out hk11 g a2 len2 cap2 l2 (by omega) HS.out.1 (by rw [HS.out.2.2.2.1]; omega) R2.out M2.out HF2.out ⟨by omega, by omega⟩
        rw [HS.out.2.1, HS.out.2.2.2.2] at hsv
        have HSV := Lib.hid hsv
        clear hsv
        go_wp2_with fail
        refine HSV.out.mono ?_
        rintro e w12 ⟨rfl, G12, hrun, hfar, hG⟩
        have HRN2 := Lib.hid hrun
        have HMN2 : Hid (¬ G12 mg) := fun h => by
          rcases hG mg h with h | h
          · exact HMN.out h
          · have := HLT.out; omega
        have HRD2 := Lib.hid (HRD.out.far HLT.out hfar fun _ b off e h => by
          injection e with e; injection e with e _; subst e; exact HMN.out h)
        have HLT2 : Hid (mg < w12.heap.size) := Nat.lt_of_lt_of_le HLT.out hfar.size
        have HC2 : Hid (Calm s') := HS.out.1
        have HZ2 : Hid (s'.size = size ∧ s'.blocks = (j : Int)) := ⟨HS.out.2.2.1, HS.out.2.2.2.1⟩
        clear hrun hfar hG HSV
        obtain ⟨gm, hgm⟩ : ∃ gm, gm = g % 2 := ⟨_, rfl⟩
        have hgmod : (g : Int) % 2 = (gm : Int) := by omega
        have hgm2 : gm ≤ 1 := by omega
        have hwgm : IntKind.i64.wrap (gm : Int) = (gm : Int) := IntWalk.i64_in _ (by omega)
        have HGM : Hid (g % 2 = gm) := hgm.symm
        clear hgm
        have HNOWE : Hid (∀ x, ({ s' with acts := s'.acts + (k : Int) + 1, fl := lay nothing (marks size j ++ wrE size k g l2 k 0), later := [] } : St).now x = blk size (lay nothing (marks size j ++ wrE size k g l2 k 0) x)) := by
          intro x
          show blk s'.size _ = _
          rw [HZ2.out.1]; rfl
        have HS2 : Hid (Calm ({ s' with acts := s'.acts + (k : Int) + 1, fl := lay nothing (marks size j ++ wrE size k g l2 k 0), later := [] } : St) ∧ ({ s' with acts := s'.acts + (k : Int) + 1, fl := lay nothing (marks size j ++ wrE size k g l2 k 0), later := [] } : St).size = size ∧ ({ s' with acts := s'.acts + (k : Int) + 1, fl := lay nothing (marks size j ++ wrE size k g l2 k 0), later := [] } : St).blocks = (j : Int) ∧ ∀ x, ({ s' with acts := s'.acts + (k : Int) + 1, fl := lay nothing (marks size j ++ wrE size k g l2 k 0), later := [] } : St).now x = blk size (lay nothing (marks size j ++ wrE size k g l2 k 0) x)) := ⟨HC2.out, HZ2.out.1, HZ2.out.2, HNOWE.out⟩
        generalize ({ s' with acts := s'.acts + (k : Int) + 1, fl := lay nothing (marks size j ++ wrE size k g l2 k 0), later := [] } : St) = t0 at *
        clear HNOWE HS HC2 HZ2
        have hk0' : ¬ ((k : Int) = 0) := by omega
        go_wp2
        go_loopw [14] (fun iv wr => ∃ i : Nat, i ≤ j ∧ iv = .int .i64 (i : Int) ∧ ∃ s', Hid (Run w wr G12 p s' (j + 20 + i)) ∧ Hid (Calm s' ∧ s'.size = size ∧ s'.blocks = (j : Int) ∧ ∀ x, s'.now x = blk size (lay nothing (marks size j ++ wrE size k g l2 k 0) x)) ∧ Hid (Reads .u64 wr (mg + 1) (some ⟨mg, 0, none⟩) size (markL size)) ∧ Hid (mg < wr.heap.size)) (fun iv _ => j - (intOf iv).toNat)
        case atStart => exact ⟨0, by omega, rfl, t0, HRN2.out, HS2.out, HRD2.out, HLT2.out⟩
        case round =>
          obtain ⟨i, hi, rfl, s2, HRN', HS', HRD', HLT'⟩ := hrel
          by_cases hlt2 : i < j
          · have hi0 : decide ((i : Int) < (j : Int)) = true := by simpa using hlt2
            have hrt : right s2 (i : Int) = true := by
              unfold right
              rw [HS'.out.2.2.1]; simp; omega
            have hrr := run_read HRN'.out (i : Int) (by omega) (I64.of (by omega) (by omega)) HS'.out.1 hrt
            have HS4 : Hid (Calm ({ s2 with acts := s2.acts + 1 } : St) ∧ ({ s2 with acts := s2.acts + 1 } : St).size = size ∧ ({ s2 with acts := s2.acts + 1 } : St).blocks = (j : Int) ∧ ∀ x, ({ s2 with acts := s2.acts + 1 } : St).now x = blk size (lay nothing (marks size j ++ wrE size k g l2 k 0) x)) := HS'.out
            generalize ({ s2 with acts := s2.acts + 1 } : St) = s3 at hrr HS4
            rw [HS'.out.2.2.2, HS'.out.2.1] at hrr
            have HRR := Lib.hid hrr
            clear hrr hrt
            have hsn := slots_now (size := size) (k := k) (g := g) (i := i) (l := l2) hb200.2 hk0 (by omega)
            have hjn : j = 2 * k + 2 := by omega
            rw [← hjn, HGM.out] at hsn
            obtain ⟨di, hdi⟩ : ∃ di, di = i / k := ⟨_, rfl⟩
            rw [← hdi] at hsn
            have hdv : (i : Int) / (k : Int) = (di : Int) := by rw [hdi]; exact (Int.natCast_ediv i k).symm
            have hdv2 : (i : Int).tdiv (k : Int) = (di : Int) := by rw [hdi]; rfl
            have hdl : di ≤ i := by rw [hdi]; exact Nat.div_le_self _ _
            have HSN := Lib.hid hsn
            clear hsn hdi hjn
            go_wp2_with fail
            refine HRR.out.mono ?_
            rintro e w23 ⟨A23, c23, rfl, hrb, hrun, hfar⟩
            have HRB := Lib.hid hrb
            have HRN3 := Lib.hid hrun
            have hpm : p ≠ mg := fun e => HMN2.out (by rw [← e]; exact HRN'.out.2.1.mine)
            have HRD3 := Lib.hid (HRD'.out.far HLT'.out hfar fun _ b off e h => by
              injection e with e; injection e with e _; subst e; exact hpm h.symm)
            have HLT3 : Hid (mg < w23.heap.size) := Nat.lt_of_lt_of_le HLT'.out hfar.size
            clear hrb hrun hfar HRR
            by_cases hown : di = gm
            · have hg1 : ((di : Int) == (gm : Int)) = true := by simp; omega
              by_cases hown2 : i < 2 * k
              · have hg2 : decide ((i : Int) < 2 * (k : Int)) = true := by simp; omega
                have HDEC : Hid (decide (blk size (lay nothing (marks size j ++ wrE size k g l2 k 0) (i : Int)) = markL size) = false) := decide_eq_false (HSN.out.1 ⟨hown, hown2⟩)
                clear hown hown2
                go_wp2_with fail
                refine (wsame_any A23 (some ⟨mg, 0, none⟩) size size c23 size _ _ w23 HRB.out HRD3.out (by omega)).mono ?_
                rintro e w24 ⟨rfl, q24, rfl⟩
                rw [HDEC.out]
                have HRN4 := Lib.hid (HRN3.out.below (below_drewN (Below.refl _ w23) q24))
                have HRD4 := Lib.hid (HRD3.out.drewN q24)
                have HLT4 : Hid (mg < (w23.drewN q24).heap.size) := HLT3.out
                generalize w23.drewN q24 = w25 at *
                go_wp2
                go_roundw
                case rel => exact ⟨i + 1, by omega, by go_num, _, HRN4.out, HS4.out, HRD4.out, HLT4.out⟩
                case measure => simp [intOf]; omega
              · have hg2 : decide ((i : Int) < 2 * (k : Int)) = false := by simp; omega
                have HDEC : Hid (decide (blk size (lay nothing (marks size j ++ wrE size k g l2 k 0) (i : Int)) = markL size) = true) := decide_eq_true (HSN.out.2 fun h => hown2 h.2)
                clear hown hown2
                go_wp2_with fail
                refine (wsame_any A23 (some ⟨mg, 0, none⟩) size size c23 size _ _ w23 HRB.out HRD3.out (by omega)).mono ?_
                rintro e w24 ⟨rfl, q24, rfl⟩
                rw [HDEC.out]
                have HRN4 := Lib.hid (HRN3.out.below (below_drewN (Below.refl _ w23) q24))
                have HRD4 := Lib.hid (HRD3.out.drewN q24)
                have HLT4 : Hid (mg < (w23.drewN q24).heap.size) := HLT3.out
                generalize w23.drewN q24 = w25 at *
                go_wp2
                go_roundw
                case rel => exact ⟨i + 1, by omega, by go_num, _, HRN4.out, HS4.out, HRD4.out, HLT4.out⟩
                case measure => simp [intOf]; omega
            · have hg1 : ((di : Int) == (gm : Int)) = false := by simp; omega
              have HDEC : Hid (decide (blk size (lay nothing (marks size j ++ wrE size k g l2 k 0) (i : Int)) = markL size) = true) := decide_eq_true (HSN.out.2 fun h => hown h.1)
              clear hown
              go_wp2_with fail
              refine (wsame_any A23 (some ⟨mg, 0, none⟩) size size c23 size _ _ w23 HRB.out HRD3.out (by omega)).mono ?_
              rintro e w24 ⟨rfl, q24, rfl⟩
              rw [HDEC.out]
              have HRN4 := Lib.hid (HRN3.out.below (below_drewN (Below.refl _ w23) q24))
              have HRD4 := Lib.hid (HRD3.out.drewN q24)
              have HLT4 : Hid (mg < (w23.drewN q24).heap.size) := HLT3.out
              generalize w23.drewN q24 = w25 at *
              go_wp2
              go_roundw
              case rel => exact ⟨i + 1, by omega, by go_num, _, HRN4.out, HS4.out, HRD4.out, HLT4.out⟩
              case measure => simp [intOf]; omega
          · obtain rfl : i = j := by omega
            have hi0 : decide ((i : Int) < (i : Int)) = false := by simp
            go_wp2
            go_ret
            exact ⟨rfl, HRN'.out.1⟩
  · rw [decide_eq_false hf2]
    go_wp2_with fail
    refine (awake_any _).mono ?_; rintro e w7 ⟨rfl, hb4⟩
    go_wp2
    go_ret
    exact ⟨rfl, HB6.out.trans (hb4.mono HB6.out.size)⟩

set_option maxRecDepth 100000 in
theorem lifted (os : Os) (started : os.Started) (H : Type) (enc : TypeId × Value → H) :
    ReturnsInHanded {} Try.checked os 6 .any (Rows.manifestSlotsSpec.pre6 enc Try.prog Try.f6 Rows.manifestSlotsRow.domain false) (Rows.manifestSlotsSpec.post enc Try.prog Try.f6 false true false false) := by
  refine returnsInHanded_of_change (C := Try.checked) own started (by kernel_rfl) Try.func6
    (ChangeSpec.witness6 (enc := enc) (C := Try.checked) false ⟨#[], #[.int .u8 0, .int .u8 0, .slice none 0 0], []⟩ 8 (by kernel_rfl) (by kernel_rfl) (by kernel_rfl) (by kernel_rfl)) ?_
  intro W base args ds gs before hval0 hW hcnd _
  have hval : ∀ (j : Nat) t v, Try.f6.params[j]? = some t → args[j]? = some v → Value.okWide Try.prog W .any base t v := hval0
  have hW' := hW
  obtain ⟨p, q, hA0, hV, rfl, hfz, hnd⟩ := hW
  have hA : DataW.TrodAll enc Try.prog W 0 (fun _ => true) true Try.f6.params.toList args.toList ds p := hA0
  rw [Try.params6] at hA hval
  obtain ⟨v0, vs0, d0, ds0, p0, q0, hargs, rfl, rfl, h0, r0⟩ := trodAll_cons hA
  obtain ⟨v1, vs1, d1, ds1, p1, q1, rfl, rfl, rfl, h1, r1⟩ := trodAll_cons r0
  obtain ⟨v2, vs2, d2, ds2, p2, q2, rfl, rfl, rfl, h2, r2⟩ := trodAll_cons r1
  obtain ⟨rfl, rfl, rfl⟩ := trodAll_nil r2
  obtain rfl : args = #[v0, v1, v2] := by cases args; simp_all
  obtain ⟨rfl, rfl⟩ := trodVars_none hV
  have k0 := h0
  have lt0 : ∀ x ∈ p0, x.block < W.heap.size := by obtain ⟨m, hm⟩ := k0; exact DataW.trod_lt m _ _ _ hm
  have k1 := h1
  have lt1 : ∀ x ∈ p1, x.block < W.heap.size := by obtain ⟨m, hm⟩ := k1; exact DataW.trod_lt m _ _ _ hm
  have k2 := h2
  have lt2 : ∀ x ∈ p2, x.block < W.heap.size := by obtain ⟨m, hm⟩ := k2; exact DataW.trod_lt m _ _ _ hm
  obtain ⟨a0, rfl, rfl, rfl, w0⟩ := open_int Try.underlying5 (hval 0 5 v0 rfl rfl) h0
  obtain ⟨a1, rfl, rfl, rfl, w1⟩ := open_int Try.underlying5 (hval 1 5 v1 rfl rfl) h1
  obtain ⟨a2, len2, cap2, rfl⟩ := okWide_slice Try.underlying22 (hval 2 22 v2 rfl rfl)
  obtain ⟨l2, wr2, wm2⟩ : ∃ l2, ReadsN W W.heap.size a2 len2 l2 ∧ len2 ≤ maxLen := by
    obtain ⟨fuel2, hf2⟩ := h2
    obtain ⟨a', len', cap', l', he', hr', hm'⟩ := open_entries Try.underlying22 Try.underlying54 (by kernel_rfl) (by kernel_rfl) Try.underlying3 Try.underlying9 rfl rfl rfl rfl rfl hf2
    injection he' with e1 e2 e3
    subst e1; subst e2
    exact ⟨l', hr', hm'⟩
  clear hA0 hval0
  refine (walk a0 a1 a2 len2 cap2 l2 W w0 w1 wr2 wm2).mono fun e W' ⟨he, bel⟩ => ?_
  subst he
  exact ⟨_, rfl, _, _, _, [], _, [], hW', trodAll_mk1 (shut_bool Try.underlying4 _), (trodAll_cons_mk (Below.trod laidOut (by kernel_rfl) (of_decide_eq_true (by kernel_rfl)) k0 bel lt0) (trodAll_cons_mk (Below.trod laidOut (by kernel_rfl) (of_decide_eq_true (by kernel_rfl)) k1 bel lt1) (trodAll_cons_mk (Below.trod laidOut (by kernel_rfl) (of_decide_eq_true (by kernel_rfl)) k2 bel lt2) trodAll_mk0))), rfl, bel.frame _, fun h => by cases h⟩

theorem over : Rows.manifestSlotsRow.holds Try.pinned (OpenSpec.ofChange Rows.manifestSlotsSpec) :=
  OpenClaim.holds_of_wide 6 Try.f6 rfl rfl rfl rfl rfl rfl rfl ⟨rfl, rfl, rfl, rfl, rfl⟩ rfl rfl rfl rfl rfl (by kernel_rfl) Try.func6 (by kernel_rfl)
    (of_decide_eq_true (by kernel_rfl)) (by unfold Func.isWrapper; first | (rw [if_pos (by decide +kernel)]; kernel_rfl) | (rw [if_neg (by decide +kernel)]; exact ⟨rfl, rfl⟩))
    (fun os started H enc _ => lifted os started H enc)

theorem proved : Rows.ManifestSlotsSaid := over
end Go.Proofs.Ythdibijkiogpjaa.manifestSlots
