/-
  ArenaPeak: for whatever room, whatever acts; no condition.
-/
import Derived.Test.YtohhneeliaankaaRows
import Derived.Test.YtohhneeliaankaaArLaw
import Derived.WalkKit
import Derived.ProofKit
import Derived.OpenShut
import Derived.ShutString
import Derived.ChangeOld
import Derived.Below
namespace Go.Proofs.Ytohhneeliaankaa.arenaPeak
open Go.ChangeShapes Go.WideShapes Go.ChangeAt Go.RowKit
open Go.ChangeMaps (open_string shut_string)
set_option linter.unusedVariables false

theorem own : ownKnob Try.prog.godebug = none := by kernel_rfl
theorem laidOut : laidOutB Try.prog = true := by kernel_rfl


set_option maxHeartbeats 4000000 in
set_option maxRecDepth 100000 in
theorem walk (a0 : Int) (a1 : Option Addr) (len1 cap1 : Nat) (l1 : List (Int × Int)) (w : World) (w0 : (Lit.int .i64 a0).wf = true) (wr1 : ReadsE w w.heap.size a1 len1 l1) (wm1 : len1 ≤ maxLen) :
    Calls Try.prog 5 #[.int .i64 a0, .slice a1 len1 cap1] w fun e w' => e = .returned (.bool true) ∧ Below w.heap.size w w' := by
  have hb0 := i64_bounds w0
  have HZ0 := Lib.hid wr1
  have hcap : len1 ≤ 9223372036854775807 := by unfold maxLen at wm1; omega
  clear wr1 wm1
  go_enter Try.func5, Try.ntmps5
  go_wp2_with fail
  refine (awake_any _).mono ?_; rintro e w1 ⟨rfl, hb1⟩
  have HB1 := Lib.hid hb1
  have hs1 := hb1.size
  clear hb1
  by_cases hbig : len1 > 60 ∨ a0 > 100000
  · have HEND : ∀ w2, Below w1.heap.size w1 w2 → Below w.heap.size w w2 := fun w2 h => HB1.out.trans (h.mono hs1)
    by_cases h60 : len1 > 60
    · have g1 : decide (60 < len1) = true := by simpa using h60
      go_wp2_with fail
      refine (awake_any _).mono ?_; rintro e w2 ⟨rfl, hb2⟩
      have HB2 := Lib.hid (HEND _ hb2)
      clear hb2 HEND
      go_wp2
      go_ret
      exact ⟨rfl, HB2.out⟩
    · have g1 : decide (60 < len1) = false := by simpa using h60
      have g2 : decide (a0 > 100000) = true := by simp; omega
      go_wp2_with fail
      refine (awake_any _).mono ?_; rintro e w2 ⟨rfl, hb2⟩
      have HB2 := Lib.hid (HEND _ hb2)
      clear hb2 HEND
      go_wp2
      go_ret
      exact ⟨rfl, HB2.out⟩
  have h60 : len1 ≤ 60 := by omega
  have ha0 : a0 ≤ 100000 := by omega
  have g1 : decide (60 < len1) = false := by simp; omega
  have g2 : decide (a0 > 100000) = false := by simp; omega
  go_wp2_with fail
  refine (arnew_any a0 _ hb0.1 hb0.2).mono ?_; rintro e w2 ⟨rfl, ha2, hb2⟩
  have hp1 : w.heap.size ≤ w1.heap.size := hs1
  have HRUN : Hid (Run w.heap.size w w2 (fun k => k = w1.heap.size) w1.heap.size (empty a0.toNat) (.slice none 0 0) [] []) := Run.start ha2 rfl (fun k hk => by omega) (HB1.out.trans (hb2.mono hs1))
  have HROOM : Hid ((empty a0.toNat).room ≤ 100000) := by show a0.toNat ≤ 100000; omega
  obtain ⟨p, hp⟩ : ∃ p, w1.heap.size = p := ⟨_, rfl⟩
  rw [hp] at HRUN
  unfold ptr
  rw [hp]
  have HB2 : Hid (w.heap.size ≤ w2.heap.size) := by have := hb2.size; unfold Hid; omega
  clear ha2 hb2 hp hbig g1 g2
  go_wp2
  go_loopw [6, 7, 8] (fun av pv iv wr => ∃ (i : Nat) (G : Nat → Prop) (s : Ar) (gs : List (Nat × Nat × Bool)), i ≤ len1 ∧ iv = .int .i64 (i : Int) ∧ pv = .int .i64 (s.peak : Int) ∧ Hid (Run w.heap.size w wr G p s av gs gs) ∧ Hid (s.room ≤ 100000) ∧ gs.length ≤ i) (fun _ _ iv _ => len1 - (intOf iv).toNat)
  case atStart => exact ⟨0, _, empty a0.toNat, [], by omega, rfl, rfl, HRUN.out, HROOM.out, Nat.le_refl _⟩
  case round =>
    obtain ⟨i, G, s, gs, hi, rfl, rfl, RUN, HRO, hgl⟩ := hrel
    obtain ⟨A, c, rfl, hgc⟩ := RUN.out.own.form
    have hsz := RUN.out.bel.size
    by_cases hlt : i < len1
    · have g0 : decide (i < len1) = true := by simpa using hlt
      obtain ⟨b, off, kd, z, rfl, hbb, d0, d1, _, hz, _⟩ := (HZ0.out.keep RUN.out.bel).at_ hlt
      have hj0 : (0 : Int) ≤ (i : Int) := by omega
      have hj1 : (i : Int) < (len1 : Int) := by omega
      obtain ⟨pk, hpk⟩ : ∃ x, s.peak = x := ⟨_, rfl⟩
      rw [hpk]
      have HPK0 := Lib.hid hpk
      clear hpk
      by_cases hk : kd = 1
      · have gk : (kd == 1) = true := by simp [hk]
        clear hk
        by_cases hfit : 0 ≤ z ∧ z ≤ ((s.room - s.used : Nat) : Int)
        · obtain ⟨n, rfl⟩ := Int.eq_ofNat_of_zero_le hfit.1
          have hgr := run_grant RUN.out hsz n (by omega) (by have := HRO.out; omega)
          clear hfit
          go_wp2_with fail
          refine hgr.mono ?_; rintro e w4 ⟨b4, g4, G4, rfl, R4, _, _, _, _, hs4, _⟩
          have hb5 := (Below.refl w4.heap.size w4).alloc (Nat.le_refl _) (.cells #[.pointer (some ⟨b4, 0, none⟩)] 31)
          have R5 := Lib.hid (R4.below hb5 (by omega))
          have hr5 : Row (w4.alloc (.cells #[.pointer (some ⟨b4, 0, none⟩)] 31)) w4.heap.size 31 [ptr b4] := heap_alloc_new _ _
          have hc5 := hr5.cell 0
          have hz5 : (w4.alloc (.cells #[.pointer (some ⟨b4, 0, none⟩)] 31)).heap.size = w4.heap.size + 1 := by simp
          have HC5 := Lib.hid hc5
          have HZ5 := Lib.hid hz5
          clear hgr hb5 hr5 hc5 hz5 R4
          go_wp2_with (with_reducible refine stopAt 53 ?_)
          unfold Hid
          refine wpList_push rfl _ _ rfl R5.out (by rw [HZ5.out]; omega) rfl w4.heap.size b4 n 1 true rfl HC5.out (by omega) ?_
          intro v6 w6 R6 hs6 _
          obtain ⟨A6, c6, rfl, hgc6⟩ := R6.own.form
          have hlen : (gs ++ [(b4, n, true)]).length = gs.length + 1 := by simp
          rw [hlen]
          rw [hlen] at R6
          have RR := Lib.hid R6
          have hro : Hid ((grant s b4 n).room ≤ 100000) := HRO.out
          clear R6 R5 HC5 hgc6
          obtain ⟨mm, hrr⟩ := RR.out.row
          have hsd := RR.out.arn.sound
          have t1 := arpeak_any p (grant s b4 n) mm _ hrr
          have t2 := arroom_any p (grant s b4 n) mm _ hrr
          have t3 := arused_any p (grant s b4 n) mm _ hrr
          have t4 := arleft_any p (grant s b4 n) mm _ hrr hsd
          obtain ⟨npk, hnpk⟩ : ∃ x, (grant s b4 n).peak = x := ⟨_, rfl⟩
          obtain ⟨nro, hnro⟩ : ∃ x, (grant s b4 n).room = x := ⟨_, rfl⟩
          obtain ⟨nus, hnus⟩ : ∃ x, (grant s b4 n).used = x := ⟨_, rfl⟩
          obtain ⟨nle, hnle⟩ : ∃ x, nro - nus = x := ⟨_, rfl⟩
          have hpp := hsd.peak
          have hpr := hsd.room
          rw [hnpk, hnro, hnus] at hpp
          rw [hnro] at hpr
          rw [hnpk] at t1
          rw [hnro] at t2
          rw [hnus] at t3
          rw [hnro, hnus, hnle] at t4
          have hup : pk ≤ npk := by have h1 := HPK0.out; rw [← hnpk]; show pk ≤ if s.peak < s.used + n then s.used + n else s.peak; split <;> omega
          have x1 : decide (npk < pk) = false := by simp; omega
          have x2 : decide (nro < npk) = false := by simp; omega
          have x3 : decide (npk < nus) = false := by simp; omega
          have x4 : (nus : Int) + (nle : Int) = (nro : Int) := by omega
          have x5 : (-9223372036854775808 : Int) ≤ (nro : Int) := by omega
          have x6 : (nro : Int) ≤ 9223372036854775807 := by omega
          have HPK := Lib.hid hnpk
          clear hrr hsd hnpk hnro hnus hnle hpp hpr hup
          go_wp2_with fail
          refine t1.mono ?_; rintro e wt ⟨rfl, rfl⟩
          go_wp2_with fail
          refine t1.mono ?_; rintro e wt ⟨rfl, rfl⟩
          go_wp2_with fail
          refine t2.mono ?_; rintro e wt ⟨rfl, rfl⟩
          go_wp2_with fail
          refine t3.mono ?_; rintro e wt ⟨rfl, rfl⟩
          go_wp2_with fail
          refine t1.mono ?_; rintro e wt ⟨rfl, rfl⟩
          go_wp2_with fail
          refine t3.mono ?_; rintro e wt ⟨rfl, rfl⟩
          go_wp2_with fail
          refine t4.mono ?_; rintro e wt ⟨rfl, rfl⟩
          go_wp2_with fail
          refine t2.mono ?_; rintro e wt ⟨rfl, rfl⟩
          go_wp2_with fail
          refine t3.mono ?_; rintro e wt ⟨rfl, rfl⟩
          go_wp2_with fail
          refine t1.mono ?_; rintro e wt ⟨rfl, rfl⟩
          go_wp2
          go_roundw
          case rel => exact ⟨i + 1, G4, grant s b4 n, gs ++ [(b4, n, true)], by omega, by go_num, by rw [HPK.out], RR.out, HRO.out, by omega⟩
          case measure => simp [intOf]; omega
        · have hgr := grant_no p s G z wr RUN.out.arn (by omega)
          obtain ⟨er, her⟩ : ∃ er : Int, (if z < 0 then (1 : Int) else 7) = er := ⟨_, rfl⟩
          have her0 : er ≠ 0 := by rw [← her]; split <;> decide
          have ge : (er == 0) = false := by simpa using her0
          rw [her] at hgr
          clear her her0 hfit
          go_wp2_with fail
          refine hgr.mono ?_; rintro e w3 ⟨rfl, rfl⟩
          have RR := RUN
          clear hgr
          obtain ⟨mm, hrr⟩ := RR.out.row
          have hsd := RR.out.arn.sound
          have t1 := arpeak_any p (s) mm _ hrr
          have t2 := arroom_any p (s) mm _ hrr
          have t3 := arused_any p (s) mm _ hrr
          have t4 := arleft_any p (s) mm _ hrr hsd
          obtain ⟨npk, hnpk⟩ : ∃ x, (s).peak = x := ⟨_, rfl⟩
          obtain ⟨nro, hnro⟩ : ∃ x, (s).room = x := ⟨_, rfl⟩
          obtain ⟨nus, hnus⟩ : ∃ x, (s).used = x := ⟨_, rfl⟩
          obtain ⟨nle, hnle⟩ : ∃ x, nro - nus = x := ⟨_, rfl⟩
          have hpp := hsd.peak
          have hpr := hsd.room
          rw [hnpk, hnro, hnus] at hpp
          rw [hnro] at hpr
          rw [hnpk] at t1
          rw [hnro] at t2
          rw [hnus] at t3
          rw [hnro, hnus, hnle] at t4
          have hup : pk ≤ npk := by have h1 := HPK0.out; omega
          have x1 : decide (npk < pk) = false := by simp; omega
          have x2 : decide (nro < npk) = false := by simp; omega
          have x3 : decide (npk < nus) = false := by simp; omega
          have x4 : (nus : Int) + (nle : Int) = (nro : Int) := by omega
          have x5 : (-9223372036854775808 : Int) ≤ (nro : Int) := by omega
          have x6 : (nro : Int) ≤ 9223372036854775807 := by omega
          have HPK := Lib.hid hnpk
          clear hrr hsd hnpk hnro hnus hnle hpp hpr hup
          go_wp2_with fail
          refine t1.mono ?_; rintro e wt ⟨rfl, rfl⟩
          go_wp2_with fail
          refine t1.mono ?_; rintro e wt ⟨rfl, rfl⟩
          go_wp2_with fail
          refine t2.mono ?_; rintro e wt ⟨rfl, rfl⟩
          go_wp2_with fail
          refine t3.mono ?_; rintro e wt ⟨rfl, rfl⟩
          go_wp2_with fail
          refine t1.mono ?_; rintro e wt ⟨rfl, rfl⟩
          go_wp2_with fail
          refine t3.mono ?_; rintro e wt ⟨rfl, rfl⟩
          go_wp2_with fail
          refine t4.mono ?_; rintro e wt ⟨rfl, rfl⟩
          go_wp2_with fail
          refine t2.mono ?_; rintro e wt ⟨rfl, rfl⟩
          go_wp2_with fail
          refine t3.mono ?_; rintro e wt ⟨rfl, rfl⟩
          go_wp2_with fail
          refine t1.mono ?_; rintro e wt ⟨rfl, rfl⟩
          go_wp2
          go_roundw
          case rel => exact ⟨i + 1, G, s, gs, by omega, by go_num, by rw [HPK.out], RR.out, HRO.out, by omega⟩
          case measure => simp [intOf]; omega
      · have gk : (kd == 1) = false := by simp [hk]
        clear hk
        by_cases hpos : 0 < gs.length
        · have gp : decide (0 < gs.length) = true := by simpa using hpos
          obtain ⟨u, hu, huw⟩ := wrap_nat z
          have hu64 := u64_lt huw
          obtain ⟨k, hkk⟩ : ∃ k, u % gs.length = k := ⟨_, rfl⟩
          have hkl : k < gs.length := by rw [← hkk]; exact Nat.mod_lt _ hpos
          obtain ⟨⟨bb, bn, bt⟩, hq⟩ : ∃ q, gs[k]? = some q := ⟨_, List.getElem?_eq_getElem hkl⟩
          obtain ⟨ga, ca, hav, hcell⟩ := RUN.out.own.at_ hq
          injection hav with hav1 hav2 hav3
          subst hav1
          subst hav3
          have hrl := run_release RUN.out hsz hq
          obtain ⟨L, hL⟩ : ∃ L, gs.length = L := ⟨_, rfl⟩
          have HL := Lib.hid hL
          rw [hL] at gp hpos hkl hkk hgl
          rw [hL]
          have hm : (u : Int) % (L : Int) = (k : Int) := by omega
          have hm2 : (u : Int).tmod (L : Int) = (k : Int) := by rw [Int.tmod_eq_emod_of_nonneg (by omega)]; exact hm
          have hL0 : ¬ ((L : Int) = 0) := by omega
          have hk0 : (0 : Int) ≤ (k : Int) := by omega
          have hk1 : (k : Int) < (L : Int) := by omega
          unfold ptr at hcell
          clear hL hkk hq
          go_wp2_with fail
          refine hrl.mono ?_; rintro e w3 ⟨rfl, R3, _, hs3, _⟩
          rw [HL.out] at R3
          have RR := Lib.hid R3
          clear R3 hcell hrl
          obtain ⟨mm, hrr⟩ := RR.out.row
          have hsd := RR.out.arn.sound
          have t1 := arpeak_any p (rel s bb bn bt) mm _ hrr
          have t2 := arroom_any p (rel s bb bn bt) mm _ hrr
          have t3 := arused_any p (rel s bb bn bt) mm _ hrr
          have t4 := arleft_any p (rel s bb bn bt) mm _ hrr hsd
          obtain ⟨npk, hnpk⟩ : ∃ x, (rel s bb bn bt).peak = x := ⟨_, rfl⟩
          obtain ⟨nro, hnro⟩ : ∃ x, (rel s bb bn bt).room = x := ⟨_, rfl⟩
          obtain ⟨nus, hnus⟩ : ∃ x, (rel s bb bn bt).used = x := ⟨_, rfl⟩
          obtain ⟨nle, hnle⟩ : ∃ x, nro - nus = x := ⟨_, rfl⟩
          have hpp := hsd.peak
          have hpr := hsd.room
          rw [hnpk, hnro, hnus] at hpp
          rw [hnro] at hpr
          rw [hnpk] at t1
          rw [hnro] at t2
          rw [hnus] at t3
          rw [hnro, hnus, hnle] at t4
          have hup : pk ≤ npk := by have h1 := HPK0.out; rw [rel_peak] at hnpk; omega
          have x1 : decide (npk < pk) = false := by simp; omega
          have x2 : decide (nro < npk) = false := by simp; omega
          have x3 : decide (npk < nus) = false := by simp; omega
          have x4 : (nus : Int) + (nle : Int) = (nro : Int) := by omega
          have x5 : (-9223372036854775808 : Int) ≤ (nro : Int) := by omega
          have x6 : (nro : Int) ≤ 9223372036854775807 := by omega
          have HPK := Lib.hid hnpk
          clear hrr hsd hnpk hnro hnus hnle hpp hpr hup
          go_wp2_with fail
          refine t1.mono ?_; rintro e wt ⟨rfl, rfl⟩
          go_wp2_with fail
          refine t1.mono ?_; rintro e wt ⟨rfl, rfl⟩
          go_wp2_with fail
          refine t2.mono ?_; rintro e wt ⟨rfl, rfl⟩
          go_wp2_with fail
          refine t3.mono ?_; rintro e wt ⟨rfl, rfl⟩
          go_wp2_with fail
          refine t1.mono ?_; rintro e wt ⟨rfl, rfl⟩
          go_wp2_with fail
          refine t3.mono ?_; rintro e wt ⟨rfl, rfl⟩
          go_wp2_with fail
          refine t4.mono ?_; rintro e wt ⟨rfl, rfl⟩
          go_wp2_with fail
          refine t2.mono ?_; rintro e wt ⟨rfl, rfl⟩
          go_wp2_with fail
          refine t3.mono ?_; rintro e wt ⟨rfl, rfl⟩
          go_wp2_with fail
          refine t1.mono ?_; rintro e wt ⟨rfl, rfl⟩
          go_wp2
          go_roundw
          case rel => exact ⟨i + 1, G, rel s bb bn bt, gs.set k (bb, bn, false), by omega, by go_num, by rw [HPK.out], RR.out, (by rw [rel_room]; exact HRO.out), by rw [List.length_set, HL.out]; omega⟩
          case measure => simp [intOf]; omega
        · have gp : decide (0 < gs.length) = false := by simpa using hpos
          have RR := RUN
          go_wp2_with fail
          obtain ⟨mm, hrr⟩ := RR.out.row
          have hsd := RR.out.arn.sound
          have t1 := arpeak_any p (s) mm _ hrr
          have t2 := arroom_any p (s) mm _ hrr
          have t3 := arused_any p (s) mm _ hrr
          have t4 := arleft_any p (s) mm _ hrr hsd
          obtain ⟨npk, hnpk⟩ : ∃ x, (s).peak = x := ⟨_, rfl⟩
          obtain ⟨nro, hnro⟩ : ∃ x, (s).room = x := ⟨_, rfl⟩
          obtain ⟨nus, hnus⟩ : ∃ x, (s).used = x := ⟨_, rfl⟩
          obtain ⟨nle, hnle⟩ : ∃ x, nro - nus = x := ⟨_, rfl⟩
          have hpp := hsd.peak
          have hpr := hsd.room
          rw [hnpk, hnro, hnus] at hpp
          rw [hnro] at hpr
          rw [hnpk] at t1
          rw [hnro] at t2
          rw [hnus] at t3
          rw [hnro, hnus, hnle] at t4
          have hup : pk ≤ npk := by have h1 := HPK0.out; omega
          have x1 : decide (npk < pk) = false := by simp; omega
          have x2 : decide (nro < npk) = false := by simp; omega
          have x3 : decide (npk < nus) = false := by simp; omega
          have x4 : (nus : Int) + (nle : Int) = (nro : Int) := by omega
          have x5 : (-9223372036854775808 : Int) ≤ (nro : Int) := by omega
          have x6 : (nro : Int) ≤ 9223372036854775807 := by omega
          have HPK := Lib.hid hnpk
          clear hrr hsd hnpk hnro hnus hnle hpp hpr hup
          refine t1.mono ?_; rintro e wt ⟨rfl, rfl⟩
          go_wp2_with fail
          refine t1.mono ?_; rintro e wt ⟨rfl, rfl⟩
          go_wp2_with fail
          refine t2.mono ?_; rintro e wt ⟨rfl, rfl⟩
          go_wp2_with fail
          refine t3.mono ?_; rintro e wt ⟨rfl, rfl⟩
          go_wp2_with fail
          refine t1.mono ?_; rintro e wt ⟨rfl, rfl⟩
          go_wp2_with fail
          refine t3.mono ?_; rintro e wt ⟨rfl, rfl⟩
          go_wp2_with fail
          refine t4.mono ?_; rintro e wt ⟨rfl, rfl⟩
          go_wp2_with fail
          refine t2.mono ?_; rintro e wt ⟨rfl, rfl⟩
          go_wp2_with fail
          refine t3.mono ?_; rintro e wt ⟨rfl, rfl⟩
          go_wp2_with fail
          refine t1.mono ?_; rintro e wt ⟨rfl, rfl⟩
          go_wp2
          go_roundw
          case rel => exact ⟨i + 1, G, s, gs, by omega, by go_num, by rw [HPK.out], RR.out, HRO.out, by omega⟩
          case measure => simp [intOf]; omega
    · have g0 : decide (i < len1) = false := by simpa using hlt
      have HS0 := Lib.hid hsz
      obtain ⟨pk, hpk⟩ : ∃ x, s.peak = x := ⟨_, rfl⟩
      rw [hpk]
      have HPK0 := Lib.hid hpk
      have hg60 : gs.length ≤ 60 := by omega
      obtain ⟨L, hL⟩ : ∃ L, gs.length = L := ⟨_, rfl⟩
      have R0 := RUN.out
      rw [hL] at hg60 hgc
      rw [hL] at R0 ⊢
      have HL := Lib.hid hL
      have HR0 := Lib.hid R0
      clear RUN hpk hL R0 hgl hi hlt
      go_wp2
      go_loopw [11] (fun jv ww => ∃ (j : Nat) (s' : Ar) (gs' : List (Nat × Nat × Bool)), j ≤ L ∧ jv = .int .i64 (j : Int) ∧ Hid (Run w.heap.size w ww G p s' (.slice A L c) gs' gs') ∧ Hid (gs'.length = L) ∧ Hid (s'.peak = pk) ∧ Hid (∀ k, k < j → ∀ q, gs'[k]? = some q → q.2.2 = false)) (fun jv _ => L - (intOf jv).toNat)
      case atStart => exact ⟨0, s, gs, by omega, rfl, HR0.out, HL.out, HPK0.out, fun k hk => by omega⟩
      case round =>
        obtain ⟨j, s', gs', hj, rfl, R2, HL2, HP2, HD2⟩ := hrel
        by_cases hjl : j < L
        · have gj : decide (j < L) = true := by simpa using hjl
          obtain ⟨⟨bb, bn, bt⟩, hq⟩ : ∃ q, gs'[j]? = some q := ⟨_, List.getElem?_eq_getElem (by rw [HL2.out]; exact hjl)⟩
          obtain ⟨ga, ca, hav, hcell⟩ := R2.out.own.at_ hq
          injection hav with hav1 hav2 hav3
          subst hav1
          have hrl := run_release R2.out (by have := R2.out.bel.size; omega) hq
          have HQ := Lib.hid hq
          have hk0 : (0 : Int) ≤ (j : Int) := by omega
          have hk1 : (j : Int) < (L : Int) := by omega
          unfold ptr at hcell
          clear hq hav2 hav3
          go_wp2_with fail
          refine hrl.mono ?_; rintro e w3 ⟨rfl, R3, _, hs3, _⟩
          have RR := Lib.hid R3
          clear R3 hrl hcell
          go_wp2
          go_roundw
          case rel =>
            refine ⟨j + 1, rel s' bb bn bt, gs'.set j (bb, bn, false), by omega, by go_num, RR.out, by unfold Hid; rw [List.length_set]; exact HL2.out, by unfold Hid; rw [rel_peak]; exact HP2.out, fun k hk q hq => ?_⟩
            rw [List.getElem?_set] at hq
            by_cases e : j = k
            · subst e
              rw [if_pos rfl, if_pos (by rw [HL2.out]; exact hjl)] at hq
              injection hq with hq; subst hq; rfl
            · rw [if_neg e] at hq; exact HD2.out k (by omega) q hq
          case measure => simp [intOf]; omega
        · have gj : decide (j < L) = false := by simpa using hjl
          obtain ⟨mm, hrr⟩ := R2.out.row
          have hsd := R2.out.arn.sound
          have hus : s'.used = 0 := by
            rw [hsd.used, R2.out.play.2.1, stOf_nil gs' fun k q hq => HD2.out k (by have := (List.getElem?_eq_some_iff.1 hq).1; have := HL2.out; omega) q hq]; rfl
          have t1 := arpeak_any p s' mm _ hrr
          have t3 := arused_any p s' mm _ hrr
          rw [HP2.out] at t1
          rw [hus] at t3
          have HBB := Lib.hid R2.out.bel
          clear hrr hsd hus HR0 R2
          go_wp2_with fail
          refine t3.mono ?_; rintro e wt ⟨rfl, rfl⟩
          go_wp2_with fail
          refine t1.mono ?_; rintro e wt ⟨rfl, rfl⟩
          go_wp2
          go_ret
          exact ⟨rfl, HBB.out⟩

set_option maxRecDepth 100000 in
theorem lifted (os : Os) (started : os.Started) (H : Type) (enc : TypeId × Value → H) :
    ReturnsInHanded {} Try.checked os 5 .any (Rows.arenaPeakSpec.pre6 enc Try.prog Try.f5 Rows.arenaPeakRow.domain false) (Rows.arenaPeakSpec.post enc Try.prog Try.f5 false true false false) := by
  refine returnsInHanded_of_change (C := Try.checked) own started (by kernel_rfl) Try.func5
    (ChangeSpec.witness6 (enc := enc) (C := Try.checked) false ⟨#[], #[.int .i64 0, .slice none 0 0], []⟩ 8 (by kernel_rfl) (by kernel_rfl) (by kernel_rfl) (by kernel_rfl)) ?_
  intro W base args ds gs before hval0 hW hcnd _
  have hval : ∀ (j : Nat) t v, Try.f5.params[j]? = some t → args[j]? = some v → Value.okWide Try.prog W .any base t v := hval0
  have hW' := hW
  obtain ⟨p, q, hA0, hV, rfl, hfz, hnd⟩ := hW
  have hA : DataW.TrodAll enc Try.prog W 0 (fun _ => true) true Try.f5.params.toList args.toList ds p := hA0
  rw [Try.params5] at hA hval
  obtain ⟨v0, vs0, d0, ds0, p0, q0, hargs, rfl, rfl, h0, r0⟩ := trodAll_cons hA
  obtain ⟨v1, vs1, d1, ds1, p1, q1, rfl, rfl, rfl, h1, r1⟩ := trodAll_cons r0
  obtain ⟨rfl, rfl, rfl⟩ := trodAll_nil r1
  obtain rfl : args = #[v0, v1] := by cases args; simp_all
  obtain ⟨rfl, rfl⟩ := trodVars_none hV
  have k0 := h0
  have lt0 : ∀ x ∈ p0, x.block < W.heap.size := by obtain ⟨m, hm⟩ := k0; exact DataW.trod_lt m _ _ _ hm
  have k1 := h1
  have lt1 : ∀ x ∈ p1, x.block < W.heap.size := by obtain ⟨m, hm⟩ := k1; exact DataW.trod_lt m _ _ _ hm
  obtain ⟨a0, rfl, rfl, rfl, w0⟩ := open_int Try.underlying3 (hval 0 3 v0 rfl rfl) h0
  obtain ⟨a1, len1, cap1, rfl⟩ := okWide_slice Try.underlying22 (hval 1 22 v1 rfl rfl)
  obtain ⟨l1, wr1, wm1⟩ : ∃ l1, ReadsE W W.heap.size a1 len1 l1 ∧ len1 ≤ maxLen := by
    obtain ⟨fuel1, hf1⟩ := h1
    obtain ⟨a', len', cap', l', he', hr', hm1', hm2'⟩ := open_edges Try.underlying22 Try.underlying30 (by kernel_rfl) (by kernel_rfl) Try.underlying3 rfl rfl hf1
    injection he' with e1 e2 e3
    subst e1; subst e2
    exact ⟨l', hr', by omega⟩
  clear hA0 hval0
  refine (walk a0 a1 len1 cap1 l1 W w0 wr1 wm1).mono fun e W' ⟨he, bel⟩ => ?_
  subst he
  exact ⟨_, rfl, _, _, _, [], _, [], hW', trodAll_mk1 (shut_bool Try.underlying4 _), (trodAll_cons_mk (Below.trod laidOut (by kernel_rfl) (of_decide_eq_true (by kernel_rfl)) k0 bel lt0) (trodAll_cons_mk (Below.trod laidOut (by kernel_rfl) (of_decide_eq_true (by kernel_rfl)) k1 bel lt1) trodAll_mk0)), rfl, bel.frame _, fun h => by cases h⟩

theorem over : Rows.arenaPeakRow.holds Try.pinned (OpenSpec.ofChange Rows.arenaPeakSpec) :=
  OpenClaim.holds_of_wide 5 Try.f5 rfl rfl rfl rfl rfl rfl rfl ⟨rfl, rfl, rfl, rfl, rfl⟩ rfl rfl rfl rfl rfl (by kernel_rfl) Try.func5 (by kernel_rfl)
    (of_decide_eq_true (by kernel_rfl)) (by unfold Func.isWrapper; first | (rw [if_pos (by decide +kernel)]; kernel_rfl) | (rw [if_neg (by decide +kernel)]; exact ⟨rfl, rfl⟩))
    (fun os started H enc _ => lifted os started H enc)

theorem proved : Rows.ArenaPeakSaid := over
end Go.Proofs.Ytohhneeliaankaa.arenaPeak
