/-
  ArenaPlays: for whatever room, whatever acts; no condition.
-/
import Derived.Test.YtohhneeliaankaaRows
import Derived.Test.YtohhneeliaankaaArRef
import Derived.WalkKit
import Derived.ProofKit
import Derived.OpenShut
import Derived.ShutString
import Derived.ChangeOld
import Derived.Below
namespace Go.Proofs.Ytohhneeliaankaa.arenaPlays
open Go.ChangeShapes Go.WideShapes Go.ChangeAt Go.RowKit
open Go.ChangeMaps (open_string shut_string)
set_option linter.unusedVariables false

theorem own : ownKnob Try.prog.godebug = none := by kernel_rfl
theorem laidOut : laidOutB Try.prog = true := by kernel_rfl


set_option maxHeartbeats 4000000 in
set_option maxRecDepth 100000 in
theorem walk (a0 : Int) (a1 : Option Addr) (len1 cap1 : Nat) (l1 : List (Int × Int)) (w : World) (w0 : (Lit.int .i64 a0).wf = true) (wr1 : ReadsE w w.heap.size a1 len1 l1) (wm1 : len1 ≤ maxLen) :
    Calls Try.prog 3 #[.int .i64 a0, .slice a1 len1 cap1] w fun e w' => e = .returned (.bool true) ∧ Below w.heap.size w w' := by
  have hb0 := i64_bounds w0
  have HZ0 := Lib.hid wr1
  have hcap : len1 ≤ 9223372036854775807 := by unfold maxLen at wm1; omega
  clear wr1 wm1
  go_enter Try.func3, Try.ntmps3
  go_wp2_with fail
  refine (awake_any _).mono ?_; rintro e w1 ⟨rfl, hb1⟩
  have HB1 := Lib.hid hb1
  have hs1 := hb1.size
  clear hb1
  by_cases hbig : len1 > 60 ∨ a0 > 100000
  · have HEND : ∀ w2, Below w1.heap.size w1 w2 → Below w.heap.size w w2 := fun w2 h => HB1.out.trans (h.mono hs1)
    by_cases h60 : len1 > 60
    · have g1 : decide (60 < len1) = true := by simpa using h60
      go_wp2_with fail
      refine (awake_any _).mono ?_; rintro e w2 ⟨rfl, hb2⟩
      have HB2 := Lib.hid (HEND _ hb2)
      clear hb2 HEND
      go_wp2
      go_ret
      exact ⟨rfl, HB2.out⟩
    · have g1 : decide (60 < len1) = false := by simpa using h60
      have g2 : decide (a0 > 100000) = true := by simp; omega
      go_wp2_with fail
      refine (awake_any _).mono ?_; rintro e w2 ⟨rfl, hb2⟩
      have HB2 := Lib.hid (HEND _ hb2)
      clear hb2 HEND
      go_wp2
      go_ret
      exact ⟨rfl, HB2.out⟩
  have h60 : len1 ≤ 60 := by omega
  have ha0 : a0 ≤ 100000 := by omega
  have g1 : decide (60 < len1) = false := by simp; omega
  have g2 : decide (a0 > 100000) = false := by simp; omega
  go_wp2_with fail
  refine (arnew_any a0 _ hb0.1 hb0.2).mono ?_; rintro e w2 ⟨rfl, ha2, hb2⟩
  have HA2 := Lib.hid ha2
  have HB2 := Lib.hid (HB1.out.trans (hb2.mono hs1))
  have hs2 := hb2.size
  obtain ⟨p, hp⟩ : ∃ p, w1.heap.size = p := ⟨_, rfl⟩
  have hp1 : w.heap.size ≤ p := by omega
  rw [hp] at HA2
  unfold ptr
  rw [hp]
  clear ha2 hb2 hbig g1 g2
  go_wp2_with fail
  refine (rnew_any w.heap.size a0 _ (by omega) hb0.1 hb0.2).mono ?_; rintro e w3 ⟨rfl, ra3, hb3⟩
  obtain ⟨r, hr⟩ : ∃ r, w2.heap.size = r := ⟨_, rfl⟩
  rw [hr] at ra3 ⊢
  have HRUN : Hid (Run w.heap.size w w3 (fun k => k = p) p (empty a0.toNat) (.slice none 0 0) [] []) := Run.start (HA2.out.below hb3) rfl (fun k hk => by omega) (HB2.out.trans (hb3.mono (by omega)))
  have HRA := Lib.hid ra3
  have HROOM : Hid ((empty a0.toNat).room ≤ 100000) := by show a0.toNat ≤ 100000; omega
  clear ra3 hb3 hp hr HA2 HB2
  go_wp2
  go_loopw [7, 8] (fun av iv wr => ∃ (i : Nat) (G : Nat → Prop) (s : Ar) (gs : List (Nat × Nat × Bool)), i ≤ len1 ∧ iv = .int .i64 (i : Int) ∧ Hid (Run w.heap.size w wr G p s av gs gs) ∧ Hid (RAr w.heap.size wr r s.room s.peak gs) ∧ Hid (s.room ≤ 100000) ∧ gs.length ≤ i) (fun _ iv _ => len1 - (intOf iv).toNat)
  case atStart => exact ⟨0, _, empty a0.toNat, [], by omega, rfl, HRUN.out, HRA.out, HROOM.out, Nat.le_refl _⟩
  case round =>
    obtain ⟨i, G, s, gs, hi, rfl, RUN, RAR, HRO, hgl⟩ := hrel
    obtain ⟨A, c, rfl, hgc⟩ := RUN.out.own.form
    have hsz := RUN.out.bel.size
    by_cases hlt : i < len1
    · have g0 : decide (i < len1) = true := by simpa using hlt
      obtain ⟨b, off, kd, z, rfl, hbb, d0, d1, _, hz, _⟩ := (HZ0.out.keep RUN.out.bel).at_ hlt
      have hj0 : (0 : Int) ≤ (i : Int) := by omega
      have hj1 : (i : Int) < (len1 : Int) := by omega
      have hus := RUN.out.used
      by_cases hk : kd = 1
      · have gk : (kd == 1) = true := by simp [hk]
        clear hk
        by_cases hfit : 0 ≤ z ∧ z ≤ ((s.room - s.used : Nat) : Int)
        · obtain ⟨n, rfl⟩ := Int.eq_ofNat_of_zero_le hfit.1
          have hgr := run_grant RUN.out hsz n (by omega) (by have := HRO.out; omega)
          have hfit2 : n ≤ s.room - sumOf gs := by omega
          have HUS := Lib.hid hus
          have hn6 : n ≤ 100000 := by have := HRO.out; omega
          clear hfit hus
          go_wp2_with fail
          refine hgr.mono ?_; rintro e w4 ⟨b4, g4, G4, rfl, R4, hr4, hg4, _, _, hs4, hk4⟩
          have RA4 := RAR.out.rows (w' := w4) fun k t cs ht hr => hk4 k t cs (by rcases ht with rfl | rfl | rfl <;> decide) hr
          have hrg := rgrant_any w.heap.size r s.room s.peak gs b4 n w4 RA4 (by omega) hfit2 (by omega)
          have HR4 := Lib.hid R4
          have HB4 := Lib.hid hr4
          have HG4 := Lib.hid hg4
          clear hgr R4 hr4 hg4 hk4 RA4 hfit2
          go_wp2_with fail
          refine hrg.mono ?_; rintro e w5 ⟨rfl, RA5, hk5, hbl5⟩
          have R5 := HR4.out.kept hk5 (by unfold RT; decide) (by unfold RT; decide) (by unfold RT; decide) hbl5
          have hb5 := hk5.row HB4.out (by unfold RT; decide)
          have hg5 := hk5.row HG4.out (by unfold RT; decide)
          have hcl := clear_any b4 g4 n w5 hb5 hg5 (by omega)
          have gL : decide ((gs.length : Int) ≥ 0) = true := by simp
          have hs5 := hk5.size
          have HR5 := Lib.hid R5
          have HA5 := Lib.hid RA5
          clear hrg RA5 hk5 hbl5 R5 hb5 hg5 HR4 HB4 HG4
          go_wp2_with fail
          refine hcl.mono ?_; rintro e w5' ⟨rfl, rfl⟩
          have hb6 := (Below.refl w5'.heap.size w5').alloc (Nat.le_refl _) (.cells #[.pointer (some ⟨b4, 0, none⟩)] 31)
          have R6 := Lib.hid (HR5.out.below hb6 (by omega))
          have RA6 := Lib.hid (HA5.out.below hb6)
          have hr6 : Row (w5'.alloc (.cells #[.pointer (some ⟨b4, 0, none⟩)] 31)) w5'.heap.size 31 [ptr b4] := heap_alloc_new _ _
          have HC6 := Lib.hid (hr6.cell 0)
          have hz6 : (w5'.alloc (.cells #[.pointer (some ⟨b4, 0, none⟩)] 31)).heap.size = w5'.heap.size + 1 := by simp
          have HZ6 := Lib.hid hz6
          clear hcl hb6 hr6 hz6 HR5 HA5
          go_wp2_with (with_reducible refine stopAt 85 ?_)
          unfold Hid
          refine wpList_push rfl _ _ rfl R6.out (by rw [HZ6.out]; omega) rfl w5'.heap.size b4 n 1 true rfl HC6.out (by omega) ?_
          intro v7 w7 R7 hs7 hk7
          have RA7 := RA6.out.rows (w' := w7) fun k t cs ht hr => hk7 k t cs (by rcases ht with rfl | rfl | rfl <;> decide) hr
          obtain ⟨A7, c7, rfl, hgc7⟩ := R7.own.form
          have hlen : (gs ++ [(b4, n, true)]).length = gs.length + 1 := by simp
          rw [hlen]
          rw [hlen] at R7
          have RR := Lib.hid R7
          rw [← HUS.out] at RA7
          have RA : Hid (RAr w.heap.size w7 r (grant s b4 n).room (grant s b4 n).peak (gs ++ [(b4, n, true)])) := RA7
          have hro : Hid ((grant s b4 n).room ≤ 100000) := HRO.out
          clear R7 RA7 R6 RA6 HC6 hgc7 hk7
          obtain ⟨mm, hrr⟩ := RR.out.row
          have hsd := RR.out.arn.sound
          obtain ⟨npk, hnpk⟩ : ∃ x, (grant s b4 n).peak = x := ⟨_, rfl⟩
          obtain ⟨nro, hnro⟩ : ∃ x, (grant s b4 n).room = x := ⟨_, rfl⟩
          obtain ⟨nus, hnus⟩ : ∃ x, (grant s b4 n).used = x := ⟨_, rfl⟩
          obtain ⟨nle, hnle⟩ : ∃ x, nro - nus = x := ⟨_, rfl⟩
          have hsu : sumOf (gs ++ [(b4, n, true)]) = nus := RR.out.used.symm.trans hnus
          have y1 := arused_q hrr
          have y2 := rused_q RA.out
          have y3 := arpeak_q hrr
          have y4 := arleft_q hrr hsd
          have y5 := arroom_q hrr
          obtain ⟨vs, vt, hrf, _⟩ := RA.out
          have f0 := hrf.cell 0
          have f1 := hrf.cell 1
          simp only [List.getElem?_cons_zero, List.getElem?_cons_succ] at f0 f1
          have hpp := hsd.peak
          have hpr := hsd.room
          rw [hnpk, hnro, hnus] at hpp
          rw [hnro] at hpr
          rw [hnus] at y1
          rw [hsu] at y2
          rw [hnpk] at y3 f1
          rw [hnro, hnus, hnle] at y4
          rw [hnro] at y5 f0
          have hsub : (nro : Int) - (nus : Int) = (nle : Int) := by omega
          have x5 : (-9223372036854775808 : Int) ≤ (nle : Int) := by omega
          have x6 : (nle : Int) ≤ 9223372036854775807 := by omega
          have Y1 := Lib.hid y1
          have Y2 := Lib.hid y2
          have Y3 := Lib.hid y3
          have Y4 := Lib.hid y4
          have Y5 := Lib.hid y5
          clear hrr hsd hnpk hnro hnus hnle hpp hpr hsu hrf y1 y2 y3 y4 y5
          go_wp2_with fail
          go_quiet (with_reducible first | exact Y1.out _ | exact Y2.out _ | exact Y3.out _ | exact Y4.out _ | exact Y5.out _)
          go_wp2
          go_roundw
          case rel => exact ⟨i + 1, G4, grant s b4 n, gs ++ [(b4, n, true)], by omega, by go_num, RR.out.drewN (by have := RR.out.bel.size; omega) _, RA.out.drewN _, hro.out, by rw [hlen]; omega⟩
          case measure => simp [intOf]; omega
        · have hgr := grant_no p s G z wr RUN.out.arn (by omega)
          have hrg := rgrant_no w.heap.size r s.room s.peak gs z wr RAR.out (by rw [← hus]; omega)
          obtain ⟨er, her⟩ : ∃ er : Int, (if z < 0 then (1 : Int) else 7) = er := ⟨_, rfl⟩
          rw [her] at hgr hrg
          clear her hfit hus
          go_wp2_with fail
          refine hgr.mono ?_; rintro e w3 ⟨rfl, rfl⟩
          go_wp2_with fail
          refine hrg.mono ?_; rintro e w4 ⟨rfl, q4, rfl⟩
          have RR := Lib.hid (RUN.out.drewN hsz q4)
          have RA := Lib.hid (RAR.out.drewN q4)
          have hbb4 : b < (w3.drewN q4).heap.size := by show b < w3.heap.size; omega
          generalize w3.drewN q4 = w5 at *
          clear hgr hrg
          obtain ⟨mm, hrr⟩ := RR.out.row
          have hsd := RR.out.arn.sound
          obtain ⟨npk, hnpk⟩ : ∃ x, (s).peak = x := ⟨_, rfl⟩
          obtain ⟨nro, hnro⟩ : ∃ x, (s).room = x := ⟨_, rfl⟩
          obtain ⟨nus, hnus⟩ : ∃ x, (s).used = x := ⟨_, rfl⟩
          obtain ⟨nle, hnle⟩ : ∃ x, nro - nus = x := ⟨_, rfl⟩
          have hsu : sumOf (gs) = nus := RR.out.used.symm.trans hnus
          have y1 := arused_q hrr
          have y2 := rused_q RA.out
          have y3 := arpeak_q hrr
          have y4 := arleft_q hrr hsd
          have y5 := arroom_q hrr
          obtain ⟨vs, vt, hrf, _⟩ := RA.out
          have f0 := hrf.cell 0
          have f1 := hrf.cell 1
          simp only [List.getElem?_cons_zero, List.getElem?_cons_succ] at f0 f1
          have hpp := hsd.peak
          have hpr := hsd.room
          rw [hnpk, hnro, hnus] at hpp
          rw [hnro] at hpr
          rw [hnus] at y1
          rw [hsu] at y2
          rw [hnpk] at y3 f1
          rw [hnro, hnus, hnle] at y4
          rw [hnro] at y5 f0
          have hsub : (nro : Int) - (nus : Int) = (nle : Int) := by omega
          have x5 : (-9223372036854775808 : Int) ≤ (nle : Int) := by omega
          have x6 : (nle : Int) ≤ 9223372036854775807 := by omega
          have Y1 := Lib.hid y1
          have Y2 := Lib.hid y2
          have Y3 := Lib.hid y3
          have Y4 := Lib.hid y4
          have Y5 := Lib.hid y5
          clear hrr hsd hnpk hnro hnus hnle hpp hpr hsu hrf y1 y2 y3 y4 y5
          go_wp2_with fail
          go_quiet (with_reducible first | exact Y1.out _ | exact Y2.out _ | exact Y3.out _ | exact Y4.out _ | exact Y5.out _)
          go_wp2
          go_roundw
          case rel => exact ⟨i + 1, G, s, gs, by omega, by go_num, RR.out.drewN (by have := RR.out.bel.size; omega) _, RA.out.drewN _, HRO.out, by omega⟩
          case measure => simp [intOf]; omega
      · have gk : (kd == 1) = false := by simp [hk]
        clear hk
        by_cases h2 : kd = 2
        · have gk2 : (kd == 2) = true := by simp [h2]
          clear h2
          by_cases hin : 0 ≤ z ∧ z < (gs.length : Int)
          · obtain ⟨k, rfl⟩ := Int.eq_ofNat_of_zero_le hin.1
            have hkl : k < gs.length := by omega
            obtain ⟨⟨bb, bn, bt⟩, hq⟩ : ∃ q, gs[k]? = some q := ⟨_, List.getElem?_eq_getElem hkl⟩
            obtain ⟨ga, ca, hav, hcell⟩ := RUN.out.own.at_ hq
            injection hav with hav1 hav2 hav3
            subst hav1
            subst hav3
            have hrl := run_release RUN.out hsz hq
            have RA0 := RAR
            have gz1 : decide ((k : Int) < 0) = false := by simp
            have gz2 : decide (gs.length ≤ k) = false := by simp; omega
            have hk0 : (0 : Int) ≤ (k : Int) := by omega
            have hk1 : (k : Int) < (gs.length : Int) := by omega
            have HQ := Lib.hid hq
            unfold ptr at hcell
            clear hin hav2 hq hus
            go_wp2_with fail
            refine hrl.mono ?_; rintro e w3 ⟨rfl, R3, hr3, hs3, hk3⟩
            have RA3 := RAR.out.rows (w' := w3) fun k t cs ht hr => hk3 k t cs (by rcases ht with rfl | rfl | rfl <;> decide) (fun e => by
              obtain ⟨v, hb⟩ := RUN.out.play.buf HQ.out
              subst e
              have := hr.typed hb
              rcases ht with rfl | rfl | rfl <;> exact absurd this (by decide)) hr
            have hrr := rrelease_any w.heap.size r s.room s.peak gs k bb bn bt w3 RA3 HQ.out
            have HR3 := Lib.hid R3
            have HB3 := Lib.hid hr3
            clear R3 hr3 RA3 hrl hk3 hcell
            go_wp2_with fail
            refine hrr.mono ?_; rintro e w4 ⟨rfl, RA4, hk4, hb4⟩
            have R4 := HR3.out.kept hk4 (by unfold RT; decide) (by unfold RT; decide) (by unfold RT; decide) hb4
            have hb5 := hk4.row HB3.out (by unfold RT; decide)
            have dW : w4.cell? ⟨bb, 0, none⟩ = some (.slice none 0 0) := hb5.cell 0
            have hq4 : (gs.set k (bb, bn, false))[k]? = some (bb, bn, false) := by rw [List.getElem?_set, if_pos rfl, if_pos hkl]
            obtain ⟨gb, cb, hbv, hcell4⟩ := R4.own.at_ hq4
            injection hbv with hbv1 hbv2 hbv3
            injection hbv1 with hbv1
            injection hbv1 with hbv1
            subst hbv1
            subst hbv3
            unfold ptr at hcell4
            have hlen : (gs.set k (bb, bn, false)).length = gs.length := List.length_set
            have RR := Lib.hid R4
            have RA : Hid (RAr w.heap.size w4 r (rel s bb bn bt).room (rel s bb bn bt).peak (gs.set k (bb, bn, false))) := by rw [rel_room, rel_peak]; exact RA4
            have hro : Hid ((rel s bb bn bt).room ≤ 100000) := by rw [rel_room]; exact HRO.out
            clear R4 RA4 hk4 hb4 hb5 hbv2 hrr HR3 HB3 hq4
            obtain ⟨mm, hrr⟩ := RR.out.row
            have hsd := RR.out.arn.sound
            obtain ⟨npk, hnpk⟩ : ∃ x, (rel s bb bn bt).peak = x := ⟨_, rfl⟩
            obtain ⟨nro, hnro⟩ : ∃ x, (rel s bb bn bt).room = x := ⟨_, rfl⟩
            obtain ⟨nus, hnus⟩ : ∃ x, (rel s bb bn bt).used = x := ⟨_, rfl⟩
            obtain ⟨nle, hnle⟩ : ∃ x, nro - nus = x := ⟨_, rfl⟩
            have hsu : sumOf (gs.set k (bb, bn, false)) = nus := RR.out.used.symm.trans hnus
            have y1 := arused_q hrr
            have y2 := rused_q RA.out
            have y3 := arpeak_q hrr
            have y4 := arleft_q hrr hsd
            have y5 := arroom_q hrr
            obtain ⟨vs, vt, hrf, _⟩ := RA.out
            have f0 := hrf.cell 0
            have f1 := hrf.cell 1
            simp only [List.getElem?_cons_zero, List.getElem?_cons_succ] at f0 f1
            have hpp := hsd.peak
            have hpr := hsd.room
            rw [hnpk, hnro, hnus] at hpp
            rw [hnro] at hpr
            rw [hnus] at y1
            rw [hsu] at y2
            rw [hnpk] at y3 f1
            rw [hnro, hnus, hnle] at y4
            rw [hnro] at y5 f0
            have hsub : (nro : Int) - (nus : Int) = (nle : Int) := by omega
            have x5 : (-9223372036854775808 : Int) ≤ (nle : Int) := by omega
            have x6 : (nle : Int) ≤ 9223372036854775807 := by omega
            have Y1 := Lib.hid y1
            have Y2 := Lib.hid y2
            have Y3 := Lib.hid y3
            have Y4 := Lib.hid y4
            have Y5 := Lib.hid y5
            clear hrr hsd hnpk hnro hnus hnle hpp hpr hsu hrf y1 y2 y3 y4 y5
            go_wp2_with fail
            go_quiet (with_reducible first | exact Y1.out _ | exact Y2.out _ | exact Y3.out _ | exact Y4.out _ | exact Y5.out _)
            go_wp2
            go_roundw
            case rel => exact ⟨i + 1, G, rel s bb bn bt, gs.set k (bb, bn, false), by omega, by go_num, RR.out.drewN (by have := RR.out.bel.size; omega) _, RA.out.drewN _, hro.out, by rw [hlen]; omega⟩
            case measure => simp [intOf]; omega
          · have RR := RUN
            have RA := RAR
            clear hus
            by_cases hz0 : z < 0
            · have gz1 : decide (z < 0) = true := by simpa using hz0
              go_wp2
              go_roundw
              case rel => exact ⟨i + 1, G, s, gs, by omega, by go_num, RR.out, RA.out, HRO.out, by omega⟩
              case measure => simp [intOf]; omega
            · have gz1 : decide (z < 0) = false := by simpa using hz0
              have gz2 : decide (z ≥ (gs.length : Int)) = true := by simp; omega
              go_wp2
              go_roundw
              case rel => exact ⟨i + 1, G, s, gs, by omega, by go_num, RR.out, RA.out, HRO.out, by omega⟩
              case measure => simp [intOf]; omega
        · have gk2 : (kd == 2) = false := by simp [h2]
          have RR := RUN
          have RA := RAR
          clear h2 hus
          obtain ⟨mm, hrr⟩ := RR.out.row
          have hsd := RR.out.arn.sound
          obtain ⟨npk, hnpk⟩ : ∃ x, (s).peak = x := ⟨_, rfl⟩
          obtain ⟨nro, hnro⟩ : ∃ x, (s).room = x := ⟨_, rfl⟩
          obtain ⟨nus, hnus⟩ : ∃ x, (s).used = x := ⟨_, rfl⟩
          obtain ⟨nle, hnle⟩ : ∃ x, nro - nus = x := ⟨_, rfl⟩
          have hsu : sumOf (gs) = nus := RR.out.used.symm.trans hnus
          have y1 := arused_q hrr
          have y2 := rused_q RA.out
          have y3 := arpeak_q hrr
          have y4 := arleft_q hrr hsd
          have y5 := arroom_q hrr
          obtain ⟨vs, vt, hrf, _⟩ := RA.out
          have f0 := hrf.cell 0
          have f1 := hrf.cell 1
          simp only [List.getElem?_cons_zero, List.getElem?_cons_succ] at f0 f1
          have hpp := hsd.peak
          have hpr := hsd.room
          rw [hnpk, hnro, hnus] at hpp
          rw [hnro] at hpr
          rw [hnus] at y1
          rw [hsu] at y2
          rw [hnpk] at y3 f1
          rw [hnro, hnus, hnle] at y4
          rw [hnro] at y5 f0
          have hsub : (nro : Int) - (nus : Int) = (nle : Int) := by omega
          have x5 : (-9223372036854775808 : Int) ≤ (nle : Int) := by omega
          have x6 : (nle : Int) ≤ 9223372036854775807 := by omega
          have Y1 := Lib.hid y1
          have Y2 := Lib.hid y2
          have Y3 := Lib.hid y3
          have Y4 := Lib.hid y4
          have Y5 := Lib.hid y5
          clear hrr hsd hnpk hnro hnus hnle hpp hpr hsu hrf y1 y2 y3 y4 y5
          go_wp2_with fail
          go_quiet (with_reducible first | exact Y1.out _ | exact Y2.out _ | exact Y3.out _ | exact Y4.out _ | exact Y5.out _)
          go_wp2
          go_roundw
          case rel => exact ⟨i + 1, G, s, gs, by omega, by go_num, RR.out.drewN (by have := RR.out.bel.size; omega) _, RA.out.drewN _, HRO.out, by omega⟩
          case measure => simp [intOf]; omega
    · have g0 : decide (i < len1) = false := by simpa using hlt
      have HB := Lib.hid RUN.out.bel
      go_wp2
      go_ret
      exact ⟨rfl, HB.out⟩

set_option maxRecDepth 100000 in
theorem lifted (os : Os) (started : os.Started) (H : Type) (enc : TypeId × Value → H) :
    ReturnsInHanded {} Try.checked os 3 .any (Rows.arenaPlaysSpec.pre6 enc Try.prog Try.f3 Rows.arenaPlaysRow.domain false) (Rows.arenaPlaysSpec.post enc Try.prog Try.f3 false true false false) := by
  refine returnsInHanded_of_change (C := Try.checked) own started (by kernel_rfl) Try.func3
    (ChangeSpec.witness6 (enc := enc) (C := Try.checked) false ⟨#[], #[.int .i64 0, .slice none 0 0], []⟩ 8 (by kernel_rfl) (by kernel_rfl) (by kernel_rfl) (by kernel_rfl)) ?_
  intro W base args ds gs before hval0 hW hcnd _
  have hval : ∀ (j : Nat) t v, Try.f3.params[j]? = some t → args[j]? = some v → Value.okWide Try.prog W .any base t v := hval0
  have hW' := hW
  obtain ⟨p, q, hA0, hV, rfl, hfz, hnd⟩ := hW
  have hA : DataW.TrodAll enc Try.prog W 0 (fun _ => true) true Try.f3.params.toList args.toList ds p := hA0
  rw [Try.params3] at hA hval
  obtain ⟨v0, vs0, d0, ds0, p0, q0, hargs, rfl, rfl, h0, r0⟩ := trodAll_cons hA
  obtain ⟨v1, vs1, d1, ds1, p1, q1, rfl, rfl, rfl, h1, r1⟩ := trodAll_cons r0
  obtain ⟨rfl, rfl, rfl⟩ := trodAll_nil r1
  obtain rfl : args = #[v0, v1] := by cases args; simp_all
  obtain ⟨rfl, rfl⟩ := trodVars_none hV
  have k0 := h0
  have lt0 : ∀ x ∈ p0, x.block < W.heap.size := by obtain ⟨m, hm⟩ := k0; exact DataW.trod_lt m _ _ _ hm
  have k1 := h1
  have lt1 : ∀ x ∈ p1, x.block < W.heap.size := by obtain ⟨m, hm⟩ := k1; exact DataW.trod_lt m _ _ _ hm
  obtain ⟨a0, rfl, rfl, rfl, w0⟩ := open_int Try.underlying3 (hval 0 3 v0 rfl rfl) h0
  obtain ⟨a1, len1, cap1, rfl⟩ := okWide_slice Try.underlying22 (hval 1 22 v1 rfl rfl)
  obtain ⟨l1, wr1, wm1⟩ : ∃ l1, ReadsE W W.heap.size a1 len1 l1 ∧ len1 ≤ maxLen := by
    obtain ⟨fuel1, hf1⟩ := h1
    obtain ⟨a', len', cap', l', he', hr', hm1', hm2'⟩ := open_edges Try.underlying22 Try.underlying30 (by kernel_rfl) (by kernel_rfl) Try.underlying3 rfl rfl hf1
    injection he' with e1 e2 e3
    subst e1; subst e2
    exact ⟨l', hr', by omega⟩
  clear hA0 hval0
  refine (walk a0 a1 len1 cap1 l1 W w0 wr1 wm1).mono fun e W' ⟨he, bel⟩ => ?_
  subst he
  exact ⟨_, rfl, _, _, _, [], _, [], hW', trodAll_mk1 (shut_bool Try.underlying4 _), (trodAll_cons_mk (Below.trod laidOut (by kernel_rfl) (of_decide_eq_true (by kernel_rfl)) k0 bel lt0) (trodAll_cons_mk (Below.trod laidOut (by kernel_rfl) (of_decide_eq_true (by kernel_rfl)) k1 bel lt1) trodAll_mk0)), rfl, bel.frame _, fun h => by cases h⟩

theorem over : Rows.arenaPlaysRow.holds Try.pinned (OpenSpec.ofChange Rows.arenaPlaysSpec) :=
  OpenClaim.holds_of_wide 3 Try.f3 rfl rfl rfl rfl rfl rfl rfl ⟨rfl, rfl, rfl, rfl, rfl⟩ rfl rfl rfl rfl rfl (by kernel_rfl) Try.func3 (by kernel_rfl)
    (of_decide_eq_true (by kernel_rfl)) (by unfold Func.isWrapper; first | (rw [if_pos (by decide +kernel)]; kernel_rfl) | (rw [if_neg (by decide +kernel)]; exact ⟨rfl, rfl⟩))
    (fun os started H enc _ => lifted os started H enc)

theorem proved : Rows.ArenaPlaysSaid := over
end Go.Proofs.Ytohhneeliaankaa.arenaPlays
