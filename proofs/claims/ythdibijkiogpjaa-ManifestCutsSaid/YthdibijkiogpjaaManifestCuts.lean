/-
  ManifestCuts: behind whatever row of Saves with the next generations, each cut at any act, whatever is kept, what stands is what stood, or the new one; no condition.
-/
import Derived.Test.YthdibijkiogpjaaRows
import Derived.Test.YthdibijkiogpjaaManCuts
import Derived.WalkKit
import Derived.ProofKit
import Derived.OpenShut
import Derived.ShutString
import Derived.ChangeOld
import Derived.Below
namespace Go.Proofs.Ythdibijkiogpjaa.manifestCuts
open Go.ChangeShapes Go.WideShapes Go.ChangeAt Go.RowKit
open Go.ChangeMaps (open_string shut_string)
set_option linter.unusedVariables false

theorem own : ownKnob Try.prog.godebug = none := by kernel_rfl
theorem laidOut : laidOutB Try.prog = true := by kernel_rfl


set_option maxHeartbeats 4000000 in
set_option maxRecDepth 100000 in
theorem walk (a0 : Int) (a1 : Option Addr) (len1 cap1 : Nat) (l1 : List CutV) (w : World) (w0 : (Lit.int .u8 a0).wf = true) (wr1 : ReadsC w w.heap.size a1 len1 l1) (wm1 : len1 ≤ maxLen) :
    Calls Try.prog 4 #[.int .u8 a0, .slice a1 len1 cap1] w fun e w' => e = .returned (.bool true) ∧ Below w.heap.size w w' := by
  obtain ⟨a, rfl⟩ := Int.eq_ofNat_of_zero_le (show 0 ≤ a0 by have := bounds_u8 w0; omega)
  have ha8 := u8_lt w0
  have R1 := Lib.hid wr1
  have M1 := Lib.hid wm1
  have hm1 : len1 ≤ 9223372036854775807 := by unfold maxLen at wm1; exact wm1
  clear wr1 w0 wm1
  go_enter Try.func4, Try.ntmps4
  go_wp2_with fail
  refine (awake_any _).mono ?_; rintro e w2 ⟨rfl, hb2⟩
  have HB2 := Lib.hid hb2
  clear hb2
  by_cases hbig : 10 < len1
  · have g1 : decide ((len1 : Int) > 10) = true := by simp; omega
    go_wp2_with fail
    refine (awake_any _).mono ?_; rintro e w4 ⟨rfl, hb4⟩
    go_wp2
    go_ret
    exact ⟨rfl, HB2.out.trans (hb4.mono HB2.out.size)⟩
  have g1 : decide ((len1 : Int) > 10) = false := by simp; omega
  obtain ⟨q, hq⟩ : ∃ q, q = a % 60 := ⟨_, rfl⟩
  obtain ⟨size, hsz⟩ : ∃ size, size = 8 + q := ⟨_, rfl⟩
  have hb200 : size ≤ 67 ∧ 8 ≤ size := by omega
  have hmod : (a : Int) % 60 = (q : Int) := by omega
  have hadd : 8 + (q : Int) = (size : Int) := by omega
  have hql : q < 60 := by omega
  obtain ⟨hk0, hk11, hk62⟩ := slot_pos hb200.2 (by omega)
  obtain ⟨k, hk⟩ : ∃ k, k = slotE size := ⟨_, rfl⟩
  have HSL : Hid (∀ W, Calls Try.prog 13 #[.int .i64 (size : Int)] W fun e w' => e = .returned (.int .i64 (k : Int)) ∧ W = w') := fun W => by
    have hs := rslot_any (size : Int) W
    rw [if_pos (by omega), Int.toNat_natCast, ← hk] at hs; exact hs
  rw [← hk] at hk0 hk11 hk62
  have HSZ : Hid (slotE size = k) := hk.symm
  clear hq hsz hk
  go_wp2_with fail
  refine (HSL.out _).mono ?_; rintro e w7 ⟨rfl, rfl⟩
  go_wp2_with fail
  refine (run_new size (2 * (k : Int)) HB2.out (by omega) (by omega)).mono ?_
  rintro e w8 ⟨p0, G0, rfl, hrun8⟩
  have HRUN8 := Lib.hid hrun8
  clear hrun8
  clear hmod hadd
  go_wp2
  go_loopw [9, 6, 8] (fun iv dv sv wr => ∃ i : Nat, i ≤ len1 ∧ iv = .int .i64 (i : Int) ∧ ∃ (p : Nat) (G : Nat → Prop) (s : St) (n : Nat) (tg : Nat → Nat → Nat) (L : Nat → List Ent) (ls : List Ent), dv = .pointer (some ⟨p, 0, none⟩) ∧ n ≤ 1000 * i ∧ Hid (RunS w wr G p s n sv ls) ∧ Hid (Good size k s tg L) ∧ Hid (∀ s i', s ≤ 1 → i' < k → tg s i' ≤ 2 * i) ∧ Hid ((loadP s.now size).1 = ls)) (fun iv _ _ _ => len1 - (intOf iv).toNat)
  case atStart =>
    refine ⟨0, by omega, rfl, p0, G0, fresh size (2 * (k : Int)), 0, fun _ _ => 0, fun _ => [], [], rfl, by omega, ⟨HRUN8.out, Stood.nil _ _⟩, good_fresh (Int.le_refl _) _, fun _ _ _ _ => Nat.zero_le _, ?_⟩
    unfold Hid
    rw [load_fresh hb200.2 (by omega)]
  case round =>
    obtain ⟨i, hi, rfl, p, G, s, n, tg, L, ls, rfl, hn, HRUN, HGD, HTG, HLS⟩ := hrel
    by_cases hlt : i < len1
    · have hj0 : (0 : Int) ≤ (i : Int) := by omega
      have hj1 : (i : Int) < (len1 : Int) := by omega
      have gi : decide ((i : Int) < (len1 : Int)) = true := by simpa using hlt
      obtain ⟨b, off, o, rfl, hb, c0, c1, c2, c3, HOK, _⟩ := R1.out.at_ hlt
      obtain ⟨la, ll, lc, l, atn, ka, kl, kc, keep, whole⟩ := o
      simp only at c0 c1 c2 c3
      have HCELL : Hid (∀ W, Below w.heap.size w W → W.cell? ⟨b, off + i * 4, none⟩ = some (.slice la ll lc) ∧ W.cell? ⟨b, off + i * 4 + 1, none⟩ = some (.int .u8 (atn : Int)) ∧ W.cell? ⟨b, off + i * 4 + 2, none⟩ = some (.slice ka kl kc) ∧ W.cell? ⟨b, off + i * 4 + 3, none⟩ = some (.bool whole)) := fun W hW =>
        ⟨(hW.cell (p := ⟨b, off + i * 4, none⟩) hb).trans c0, (hW.cell (p := ⟨b, off + i * 4 + 1, none⟩) hb).trans c1, (hW.cell (p := ⟨b, off + i * 4 + 2, none⟩) hb).trans c2, (hW.cell (p := ⟨b, off + i * 4 + 3, none⟩) hb).trans c3⟩
      clear c0 c1 c2 c3
      have HRL : Hid (ReadsN w w.heap.size la ll l) := HOK.out.1
      have HLM : Hid (ll ≤ maxLen) := HOK.out.2.1
      have HRK : Hid (ReadsB w w.heap.size ka kl keep) := HOK.out.2.2.2.1
      have hat : atn < 256 := HOK.out.2.2.1
      have hkm : kl ≤ 9223372036854775807 := by have := HOK.out.2.2.2.2; unfold maxLen at this; simpa using this
      clear HOK
      obtain ⟨c0, c1, c2, c3⟩ := HCELL.out _ HRUN.out.1.1
      go_wp2_with fail
      refine (few_any la ll lc l wr (HRL.out.keep HRUN.out.1.1) HLM.out).mono ?_
      rintro e w3 ⟨v, rfl, rfl, r1, rfl, hr1⟩
      have HR1 := Lib.hid hr1
      clear hr1
      cases r1
      · go_wp2
        go_ret
        exact ⟨rfl, HRUN.out.1.1⟩
      have hl20 := HR1.out rfl
      by_cases hk100 : 100 < kl
      · have gk : decide ((kl : Int) > 100) = true := by simp; omega
        go_wp2
        go_ret
        exact ⟨rfl, HRUN.out.1.1⟩
      have gk : decide ((kl : Int) > 100) = false := by simp; omega
      obtain ⟨l0, g0, nx, hld⟩ : ∃ l0 g0 nx, loadP s.now size = (l0, g0, nx) := ⟨_, _, _, rfl⟩
      have hl0 : l0 = ls := by have := HLS.out; rw [hld] at this; exact this
      subst hl0
      have HLD := Lib.hid hld
      clear hld HLS
      go_wp2_with fail
      refine (rs_load HRUN.out HGD.out.ready HSZ.out hk11 (by omega) HLD.out).mono ?_
      rintro e w10 ⟨v10, rfl, _, hrun10⟩
      have HRUN10 := Lib.hid hrun10
      have HGD10 : Hid (Good size k { s with acts := s.acts + ((2 * k : Nat) : Int) } tg L) := HGD.out
      have HLD10 : Hid (loadP ({ s with acts := s.acts + ((2 * k : Nat) : Int) } : St).now size = (l0, g0, nx)) := HLD.out
      clear hrun10 HRUN HGD HLD c0 c1 c2 c3
      generalize ({ s with acts := s.acts + ((2 * k : Nat) : Int) } : St) = s1 at *
      obtain ⟨c0, c1, c2, c3⟩ := HCELL.out _ HRUN10.out.1.1
      go_wp2_with fail
      refine (formed_any la ll lc l w10 (HRL.out.keep HRUN10.out.1.1) HRUN10.out.1.1.size HLM.out).mono ?_
      rintro e w11 ⟨rfl, hb11⟩
      have HRUN11 := Lib.hid (HRUN10.out.below hb11)
      clear hb11 HRUN10 c0 c1 c2 c3
      obtain ⟨c0, c1, c2, c3⟩ := HCELL.out _ HRUN11.out.1.1
      by_cases hf : FormedP l
      · rw [decide_eq_true hf]
        have HF := Lib.hid hf
        clear hf
        obtain ⟨k1, hk1⟩ : ∃ k1, k1 = k + 1 := ⟨_, rfl⟩
        have hkadd : (k : Int) + 1 = (k1 : Int) := by omega
        obtain ⟨f, hff⟩ : ∃ f, f = atn % k1 := ⟨_, rfl⟩
        have hk1n : ¬ ((k1 : Int) = 0) := by omega
        have hk1m : ¬ (k1 = 0) := by omega
        have hkw : IntKind.i64.wrap (k1 : Int) = (k1 : Int) := IntWalk.i64_in _ (by omega)
        have hkw2 : IntKind.i64.wrap ((k : Int) + 1) = (k1 : Int) := by rw [hkadd]; exact hkw
        have hfm : (atn : Int) % (k1 : Int) = (f : Int) := by rw [hff]; exact (Int.natCast_emod atn k1).symm
        have hft : (atn : Int).tmod (k1 : Int) = (f : Int) := by rw [hff]; rfl
        have hfk : f ≤ k := by
          have := Nat.mod_lt atn (show 0 < k1 by omega)
          omega
        have hfw : IntKind.i64.wrap (f : Int) = (f : Int) := IntWalk.i64_in _ (by omega)
        have haw : IntKind.i64.wrap (atn : Int) = (atn : Int) := IntWalk.i64_in _ (by omega)
        have hb1 : k1 ≤ k + 1 ∧ k + 1 ≤ k1 := by omega
        have HCR := Lib.hid (cut_round (f := f) (whole := whole) (keep := keep) HSZ.out.symm hb200.2 (by omega) HGD10.out HTG.out (by omega) hfk HLD10.out HF.out)
        have HRDY : Hid (slotE s1.size = k ∧ s1.down = false ∧ 2 * (k : Int) ≤ s1.blocks) := ⟨by rw [HGD10.out.1.2.2.1]; exact HSZ.out, HGD10.out.1.1.1, HGD10.out.1.2.2.2⟩
        clear hk1 hff
        obtain ⟨hgp, er, s2, hsv, her, tg2, L2, hgd2, htg2, hor, hwh⟩ := HCR.out
        have HGP := Lib.hid hgp
        have HSV := Lib.hid hsv
        have HG2 := Lib.hid hgd2
        have HT2 := Lib.hid htg2
        have HOR := Lib.hid hor
        have HWH := Lib.hid hwh
        clear HCR hgp hsv hgd2 htg2 hor hwh
        cases whole
        · have HSV : Hid (saveE { s1 with fb := true, fn := (f : Int) } nx l = (er, s2)) := by
            have h := HSV.out
            unfold cutS at h
            rw [if_neg (by decide)] at h; exact h
          have her : (er == 0) = false := her
          have HRDF : Hid (slotE ({ s1 with fb := true, fn := (f : Int) } : St).size = k ∧ ({ s1 with fb := true, fn := (f : Int) } : St).down = false ∧ 2 * (k : Int) ≤ ({ s1 with fb := true, fn := (f : Int) } : St).blocks) := HRDY.out
          have HFU : Hid (∀ m, Calls Try.prog 16 #[.pointer (some ⟨p, 0, none⟩), .int .i64 (f : Int)] (w11.drewN m) fun e w' => e = .returned (.tuple #[]) ∧ RunS w w' G p { s1 with fb := true, fn := (f : Int) } (n + 40) u8 l0) := fun m => rs_fuse (HRUN11.out.below (below_drewN (Below.refl _ w11) m)) (f : Int) (by omega) (by omega)
          go_wp2
          go_region_held3 (fun w' => w'.cell? ⟨b, off + i * 4 + 1, none⟩ = some (.int .u8 (atn : Int))) (first | exact c1 | exact d1)
            (first
              | (go_at_call 13; refine (HSL.out _).mono ?_; rintro e w12 ⟨rfl, rfl⟩)
              | (go_at_call 16; refine (HFU.out _).mono ?_; rintro e w13 ⟨rfl, hrun13⟩; have d1 : w13.cell? ⟨b, off + i * 4 + 1, none⟩ = some (.int .u8 (atn : Int)) := (HCELL.out _ hrun13.1.1).2.1))
          have HRUN13 := Lib.hid hrun13
          clear hrun13 d1 c0 c1 c2 c3 HFU
          obtain ⟨c0, c1, c2, c3⟩ := HCELL.out _ HRUN13.out.1.1
          clear hfm hft hfw haw hkadd hkw hkw2
          go_wp2_with fail
          refine (rs_save HRUN13.out (er := er) (s' := s2) HRDF.out.1 hk11 HRDF.out.2.1 HRDF.out.2.2 nx la ll lc l (by omega) HRL.out HLM.out HF.out HGP.out HSV.out).mono ?_
          rintro e w14 ⟨rfl, G14, hrun14⟩
          have HRUN14 := Lib.hid hrun14
          clear hrun14 c0 c1 c2 c3
          obtain ⟨c0, c1, c2, c3⟩ := HCELL.out _ HRUN14.out.1.1
          go_wp2_with fail
          refine (rs_crash HRUN14.out ka kl kc keep HRK.out (by omega)).mono ?_
          rintro e w15 ⟨p15, G15, rfl, hrun15⟩
          have HRUN15 := Lib.hid hrun15
          clear hrun15 c0 c1 c2 c3
          obtain ⟨lx, gx, nxx, hld2⟩ : ∃ lx gx nxx, loadP (crash s2 keep).now size = (lx, gx, nxx) := ⟨_, _, _, rfl⟩
          have hor : lx = l ∨ lx = l0 := by have h := HOR.out; rw [hld2] at h; exact h
          have hwh : false = true → lx = l := by
            have h := HWH.out
            rw [hld2] at h
            first
              | exact h
              | exact fun _ => h (by trivial)
              | exact fun h0 => Bool.noConfusion h0
          have HLD2 := Lib.hid hld2
          clear hld2
          go_wp2_with fail
          refine (rs_load HRUN15.out HG2.out.ready HSZ.out hk11 (by omega) HLD2.out).mono ?_
          rintro e w16 ⟨v16, rfl, ho16, hrun16⟩
          have HRUN16 := Lib.hid hrun16
          have HG16 : Hid (Good size k { crash s2 keep with acts := (crash s2 keep).acts + ((2 * k : Nat) : Int) } tg2 L2) := HG2.out
          have HLD16 : Hid (loadP ({ crash s2 keep with acts := (crash s2 keep).acts + ((2 * k : Nat) : Int) } : St).now size = (lx, gx, nxx)) := HLD2.out
          clear hrun16 HRUN15 HLD2
          generalize ({ crash s2 keep with acts := (crash s2 keep).acts + ((2 * k : Nat) : Int) } : St) = s16 at *
          have hst16 := HRUN16.out.2
          obtain ⟨As, ms, cs, hus, hms, hrs, _⟩ := hst16
          have hxok : ∀ e ∈ lx, EntOk e := by
            rcases hor with h | h
            · rw [h]; exact HRL.out.2.1
            · rw [h]; exact hrs.2.1
          have hxlen : lx.length ≤ 1000 := by
            rcases hor with h | h
            · rw [h]; have := HF.out.1; omega
            · rw [h, hrs.1]; exact hms
          have HXOK := Lib.hid hxok
          have HOR := Lib.hid hor
          have HWH := Lib.hid hwh
          clear hor hwh hus hrs hms hxok
          obtain ⟨A16, c16, rfl, hr16⟩ := told ho16 HXOK.out
          have HR16 := Lib.hid hr16
          clear ho16 hr16
          go_wp2_with fail
          refine (plain_any A16 lx.length c16 lx w16 HR16.out (Nat.le_refl _) (by omega)).mono ?_
          rintro e w17 ⟨v17, rfl, ho17, hb17⟩
          have HRUN17 := Lib.hid (HRUN16.out.below hb17)
          have HGOT : Hid (∀ A m c, v17 = .slice A m c → 0 < m → ∀ b off, A = some ⟨b, off, none⟩ → ¬ G15 b) := by
            intro A m c hv hm b' off' hA hg
            have h1 := HRUN16.out.1.2.1.lt hg
            have h2 := (ho17.lt b' (by rw [hv, hA]; rfl)).1
            omega
          obtain ⟨A17, c17, rfl, hr17⟩ := told ho17 HXOK.out
          have HGOT : Hid (0 < lx.length → ∀ b off, A17 = some ⟨b, off, none⟩ → ¬ G15 b) := HGOT.out A17 lx.length c17 rfl
          have HR17 := Lib.hid hr17
          clear ho17 hb17 hr17 HRUN16 HR16
          obtain ⟨c0, c1, c2, c3⟩ := HCELL.out _ HRUN17.out.1.1
          go_wp2_with fail
          refine (plain_any la ll lc l w17 (HRL.out.keep HRUN17.out.1.1) HRUN17.out.1.1.size (by omega)).mono ?_
          rintro e w18 ⟨v18, rfl, ho18, hb18⟩
          have HRUN18 := Lib.hid (HRUN17.out.below hb18)
          have HR17' := Lib.hid ((HR17.out.keep hb18).mono hb18.size)
          obtain ⟨A18, c18, rfl, hr18⟩ := told ho18 HRL.out.2.1
          have HR18 := Lib.hid hr18
          clear ho18 hb18 hr18 HRUN17 c0 c1 c2 c3 HR17
          go_wp2_with fail
          refine (rsame_any A17 A18 lx.length ll c17 c18 lx l w18 HR17'.out HR18.out (by omega)).mono ?_
          rintro e w19 ⟨rfl, q19, rfl⟩
          have HRUN19 := Lib.hid (HRUN18.out.below (below_drewN (Below.refl _ w18) q19))
          have HR19 : Hid (ReadsN (w18.drewN q19) (w18.drewN q19).heap.size A17 lx.length lx) := HR17'.out.drewN q19
          clear HRUN18 HR17' HR18
          generalize w18.drewN q19 = w19 at *
          obtain ⟨c0, c1, c2, c3⟩ := HCELL.out _ HRUN19.out.1.1
          by_cases his : lx = l
          · rw [decide_eq_true his]
            clear his
            go_wp2_with fail
            refine (rs_crash (RunS.turn (c := c17) HRUN19.out HR19.out hxlen HGOT.out) none 0 0 [] ⟨rfl, fun h => absurd h (by omega)⟩ (by omega)).mono ?_
            rintro e w22 ⟨p22, G22, rfl, hrun22⟩
            have HRUN22 := Lib.hid hrun22
            have hgc := good_crash HG16.out []
            have HG22 := Lib.hid hgc.1
            have HL22 : Hid ((loadP (crash s16 []).now size).1 = lx) := by
              unfold Hid; rw [hgc.2, HLD16.out]
            have HT22 : Hid (∀ s i', s ≤ 1 → i' < k → tg2 s i' ≤ 2 * (i + 1)) := HT2.out
            clear hrun22 hgc
            go_wp2
            go_roundw
            case rel => exact ⟨i + 1, by omega, by go_num, p22, G22, crash s16 [], _, tg2, L2, lx, rfl, by omega, HRUN22.out, HG22.out, HT22.out, HL22.out⟩
            case measure => simp [intOf]; omega
          · rw [decide_eq_false his]
            have hx0 : lx = l0 := by
              rcases HOR.out with h | h
              · exact absurd h his
              · exact h
            have HX0 := Lib.hid hx0
            clear his hx0
            obtain ⟨As, ms, cs, rfl, hms, hrs, _⟩ := HRUN19.out.2
            have HRS := Lib.hid hrs
            clear hrs
            go_wp2_with fail
            refine (rsame_any A17 As lx.length ms c17 cs lx l0 w19 HR19.out HRS.out (by omega)).mono ?_
            rintro e w20 ⟨rfl, q20, rfl⟩
            rw [decide_eq_true HX0.out]
            have HRUN20 := Lib.hid (HRUN19.out.below (below_drewN (Below.refl _ w19) q20))
            have HR20 : Hid (ReadsN (w19.drewN q20) (w19.drewN q20).heap.size A17 lx.length lx) := HR19.out.drewN q20
            clear HRUN19 HR19 HRS HX0 c0 c1 c2 c3
            generalize w19.drewN q20 = w21 at *
            go_wp2_with fail
            refine (rs_crash (RunS.turn (c := c17) HRUN20.out HR20.out hxlen HGOT.out) none 0 0 [] ⟨rfl, fun h => absurd h (by omega)⟩ (by omega)).mono ?_
            rintro e w22 ⟨p22, G22, rfl, hrun22⟩
            have HRUN22 := Lib.hid hrun22
            have hgc := good_crash HG16.out []
            have HG22 := Lib.hid hgc.1
            have HL22 : Hid ((loadP (crash s16 []).now size).1 = lx) := by
              unfold Hid; rw [hgc.2, HLD16.out]
            have HT22 : Hid (∀ s i', s ≤ 1 → i' < k → tg2 s i' ≤ 2 * (i + 1)) := HT2.out
            clear hrun22 hgc
            go_wp2
            go_roundw
            case rel => exact ⟨i + 1, by omega, by go_num, p22, G22, crash s16 [], _, tg2, L2, lx, rfl, by omega, HRUN22.out, HG22.out, HT22.out, HL22.out⟩
            case measure => simp [intOf]; omega
        · have HSV : Hid (saveE s1 nx l = (er, s2)) := by
            have h := HSV.out
            unfold cutS at h
            rw [if_pos rfl] at h; exact h
          have her : (er == 0) = true := her
          clear hfm hft hfw haw hkadd hkw hkw2
          go_wp2_with fail
          refine (rs_save HRUN11.out (er := er) (s' := s2) HRDY.out.1 hk11 HRDY.out.2.1 HRDY.out.2.2 nx la ll lc l (by omega) HRL.out HLM.out HF.out HGP.out HSV.out).mono ?_
          rintro e w14 ⟨rfl, G14, hrun14⟩
          have HRUN14 := Lib.hid hrun14
          clear hrun14 c0 c1 c2 c3
          obtain ⟨c0, c1, c2, c3⟩ := HCELL.out _ HRUN14.out.1.1
          go_wp2_with fail
          refine (rs_crash HRUN14.out ka kl kc keep HRK.out (by omega)).mono ?_
          rintro e w15 ⟨p15, G15, rfl, hrun15⟩
          have HRUN15 := Lib.hid hrun15
          clear hrun15 c0 c1 c2 c3
          obtain ⟨lx, gx, nxx, hld2⟩ : ∃ lx gx nxx, loadP (crash s2 keep).now size = (lx, gx, nxx) := ⟨_, _, _, rfl⟩
          have hor : lx = l ∨ lx = l0 := by have h := HOR.out; rw [hld2] at h; exact h
          have hwh : true = true → lx = l := by
            have h := HWH.out
            rw [hld2] at h
            first
              | exact h
              | exact fun _ => h (by trivial)
              | exact fun h0 => Bool.noConfusion h0
          have HLD2 := Lib.hid hld2
          clear hld2
          go_wp2_with fail
          refine (rs_load HRUN15.out HG2.out.ready HSZ.out hk11 (by omega) HLD2.out).mono ?_
          rintro e w16 ⟨v16, rfl, ho16, hrun16⟩
          have HRUN16 := Lib.hid hrun16
          have HG16 : Hid (Good size k { crash s2 keep with acts := (crash s2 keep).acts + ((2 * k : Nat) : Int) } tg2 L2) := HG2.out
          have HLD16 : Hid (loadP ({ crash s2 keep with acts := (crash s2 keep).acts + ((2 * k : Nat) : Int) } : St).now size = (lx, gx, nxx)) := HLD2.out
          clear hrun16 HRUN15 HLD2
          generalize ({ crash s2 keep with acts := (crash s2 keep).acts + ((2 * k : Nat) : Int) } : St) = s16 at *
          have hst16 := HRUN16.out.2
          obtain ⟨As, ms, cs, hus, hms, hrs, _⟩ := hst16
          have hxok : ∀ e ∈ lx, EntOk e := by
            rcases hor with h | h
            · rw [h]; exact HRL.out.2.1
            · rw [h]; exact hrs.2.1
          have hxlen : lx.length ≤ 1000 := by
            rcases hor with h | h
            · rw [h]; have := HF.out.1; omega
            · rw [h, hrs.1]; exact hms
          have HXOK := Lib.hid hxok
          have HOR := Lib.hid hor
          have HWH := Lib.hid hwh
          clear hor hwh hus hrs hms hxok
          obtain ⟨A16, c16, rfl, hr16⟩ := told ho16 HXOK.out
          have HR16 := Lib.hid hr16
          clear ho16 hr16
          go_wp2_with fail
          refine (plain_any A16 lx.length c16 lx w16 HR16.out (Nat.le_refl _) (by omega)).mono ?_
          rintro e w17 ⟨v17, rfl, ho17, hb17⟩
          have HRUN17 := Lib.hid (HRUN16.out.below hb17)
          have HGOT : Hid (∀ A m c, v17 = .slice A m c → 0 < m → ∀ b off, A = some ⟨b, off, none⟩ → ¬ G15 b) := by
            intro A m c hv hm b' off' hA hg
            have h1 := HRUN16.out.1.2.1.lt hg
            have h2 := (ho17.lt b' (by rw [hv, hA]; rfl)).1
            omega
          obtain ⟨A17, c17, rfl, hr17⟩ := told ho17 HXOK.out
          have HGOT : Hid (0 < lx.length → ∀ b off, A17 = some ⟨b, off, none⟩ → ¬ G15 b) := HGOT.out A17 lx.length c17 rfl
          have HR17 := Lib.hid hr17
          clear ho17 hb17 hr17 HRUN16 HR16
          obtain ⟨c0, c1, c2, c3⟩ := HCELL.out _ HRUN17.out.1.1
          go_wp2_with fail
          refine (plain_any la ll lc l w17 (HRL.out.keep HRUN17.out.1.1) HRUN17.out.1.1.size (by omega)).mono ?_
          rintro e w18 ⟨v18, rfl, ho18, hb18⟩
          have HRUN18 := Lib.hid (HRUN17.out.below hb18)
          have HR17' := Lib.hid ((HR17.out.keep hb18).mono hb18.size)
          obtain ⟨A18, c18, rfl, hr18⟩ := told ho18 HRL.out.2.1
          have HR18 := Lib.hid hr18
          clear ho18 hb18 hr18 HRUN17 c0 c1 c2 c3 HR17
          go_wp2_with fail
          refine (rsame_any A17 A18 lx.length ll c17 c18 lx l w18 HR17'.out HR18.out (by omega)).mono ?_
          rintro e w19 ⟨rfl, q19, rfl⟩
          have HRUN19 := Lib.hid (HRUN18.out.below (below_drewN (Below.refl _ w18) q19))
          have HR19 : Hid (ReadsN (w18.drewN q19) (w18.drewN q19).heap.size A17 lx.length lx) := HR17'.out.drewN q19
          clear HRUN18 HR17' HR18
          generalize w18.drewN q19 = w19 at *
          obtain ⟨c0, c1, c2, c3⟩ := HCELL.out _ HRUN19.out.1.1
          by_cases his : lx = l
          · rw [decide_eq_true his]
            clear his
            go_wp2_with fail
            refine (rs_crash (RunS.turn (c := c17) HRUN19.out HR19.out hxlen HGOT.out) none 0 0 [] ⟨rfl, fun h => absurd h (by omega)⟩ (by omega)).mono ?_
            rintro e w22 ⟨p22, G22, rfl, hrun22⟩
            have HRUN22 := Lib.hid hrun22
            have hgc := good_crash HG16.out []
            have HG22 := Lib.hid hgc.1
            have HL22 : Hid ((loadP (crash s16 []).now size).1 = lx) := by
              unfold Hid; rw [hgc.2, HLD16.out]
            have HT22 : Hid (∀ s i', s ≤ 1 → i' < k → tg2 s i' ≤ 2 * (i + 1)) := HT2.out
            clear hrun22 hgc
            go_wp2
            go_roundw
            case rel => exact ⟨i + 1, by omega, by go_num, p22, G22, crash s16 [], _, tg2, L2, lx, rfl, by omega, HRUN22.out, HG22.out, HT22.out, HL22.out⟩
            case measure => simp [intOf]; omega
          · exact absurd (HWH.out (by trivial)) his
      · rw [decide_eq_false hf]
        clear hf
        go_wp2
        go_ret
        exact ⟨rfl, HRUN11.out.1.1⟩
    · obtain rfl : i = len1 := by omega
      have gi : decide ((i : Int) < (i : Int)) = false := by simp
      obtain ⟨l0, g0, nx, hld⟩ : ∃ l0 g0 nx, loadP s.now size = (l0, g0, nx) := ⟨_, _, _, rfl⟩
      have hl0 : l0 = ls := by have := HLS.out; rw [hld] at this; exact this
      subst hl0
      have HLD := Lib.hid hld
      clear hld HLS
      go_wp2_with fail
      refine (rs_load HRUN.out HGD.out.ready HSZ.out hk11 (by omega) HLD.out).mono ?_
      rintro e w10 ⟨v10, rfl, ho10, hrun10⟩
      obtain ⟨A9, m9, c9, rfl, hm9, hr9, _⟩ := hrun10.2
      obtain ⟨A10, c10, rfl, hr10⟩ := told ho10 hr9.2.1
      have hl9 : l0.length ≤ 1000 := by rw [hr9.1]; exact hm9
      have HRUN10 := Lib.hid hrun10
      have HR9 := Lib.hid hr9
      clear hrun10 ho10 hr9
      go_wp2_with fail
      refine (plain_any A10 l0.length c10 l0 w10 hr10 (Nat.le_refl _) (by omega)).mono ?_
      rintro e w11 ⟨v11, rfl, ho11, hb11⟩
      have hrun11 := HRUN10.out.below hb11
      obtain ⟨A11, c11, rfl, hr11⟩ := told ho11 HR9.out.2.1
      have hr9' := HR9.out.keep hb11
      have HEND := Lib.hid hrun11.1.1
      clear ho11 hb11 hr10 hrun11 HRUN10
      go_wp2_with fail
      refine (rsame_any A11 A9 l0.length m9 c11 c9 l0 l0 w11 hr11 hr9' (by omega)).mono ?_
      rintro e w12 ⟨rfl, q12, rfl⟩
      rw [decide_eq_true rfl]
      go_wp2
      go_ret
      exact ⟨rfl, below_drewN HEND.out q12⟩

set_option maxRecDepth 100000 in
theorem lifted (os : Os) (started : os.Started) (H : Type) (enc : TypeId × Value → H) :
    ReturnsInHanded {} Try.checked os 4 .any (Rows.manifestCutsSpec.pre6 enc Try.prog Try.f4 Rows.manifestCutsRow.domain false) (Rows.manifestCutsSpec.post enc Try.prog Try.f4 false true false false) := by
  refine returnsInHanded_of_change (C := Try.checked) own started (by kernel_rfl) Try.func4
    (ChangeSpec.witness6 (enc := enc) (C := Try.checked) false ⟨#[], #[.int .u8 0, .slice none 0 0], []⟩ 8 (by kernel_rfl) (by kernel_rfl) (by kernel_rfl) (by kernel_rfl)) ?_
  intro W base args ds gs before hval0 hW hcnd _
  have hval : ∀ (j : Nat) t v, Try.f4.params[j]? = some t → args[j]? = some v → Value.okWide Try.prog W .any base t v := hval0
  have hW' := hW
  obtain ⟨p, q, hA0, hV, rfl, hfz, hnd⟩ := hW
  have hA : DataW.TrodAll enc Try.prog W 0 (fun _ => true) true Try.f4.params.toList args.toList ds p := hA0
  rw [Try.params4] at hA hval
  obtain ⟨v0, vs0, d0, ds0, p0, q0, hargs, rfl, rfl, h0, r0⟩ := trodAll_cons hA
  obtain ⟨v1, vs1, d1, ds1, p1, q1, rfl, rfl, rfl, h1, r1⟩ := trodAll_cons r0
  obtain ⟨rfl, rfl, rfl⟩ := trodAll_nil r1
  obtain rfl : args = #[v0, v1] := by cases args; simp_all
  obtain ⟨rfl, rfl⟩ := trodVars_none hV
  have k0 := h0
  have lt0 : ∀ x ∈ p0, x.block < W.heap.size := by obtain ⟨m, hm⟩ := k0; exact DataW.trod_lt m _ _ _ hm
  have k1 := h1
  have lt1 : ∀ x ∈ p1, x.block < W.heap.size := by obtain ⟨m, hm⟩ := k1; exact DataW.trod_lt m _ _ _ hm
  obtain ⟨a0, rfl, rfl, rfl, w0⟩ := open_int Try.underlying5 (hval 0 5 v0 rfl rfl) h0
  obtain ⟨a1, len1, cap1, rfl⟩ := okWide_slice Try.underlying30 (hval 1 30 v1 rfl rfl)
  obtain ⟨l1, wr1, wm1⟩ : ∃ l1, ReadsC W W.heap.size a1 len1 l1 ∧ len1 ≤ maxLen := by
    obtain ⟨fuel1, hf1⟩ := h1
    obtain ⟨a', len', cap', l', he', hr', hm'⟩ := open_cuts Try.underlying30 Try.underlying37 (by kernel_rfl) (by kernel_rfl) rfl rfl rfl rfl Try.underlying22 Try.underlying54 (by kernel_rfl) (by kernel_rfl) Try.underlying3 Try.underlying9 rfl rfl rfl rfl rfl Try.underlying5 Try.underlying4 Try.underlying35 (by kernel_rfl) hf1
    injection he' with e1 e2 e3
    subst e1; subst e2
    exact ⟨l', hr', hm'⟩
  clear hA0 hval0
  refine (walk a0 a1 len1 cap1 l1 W w0 wr1 wm1).mono fun e W' ⟨he, bel⟩ => ?_
  subst he
  exact ⟨_, rfl, _, _, _, [], _, [], hW', trodAll_mk1 (shut_bool Try.underlying4 _), (trodAll_cons_mk (Below.trod laidOut (by kernel_rfl) (of_decide_eq_true (by kernel_rfl)) k0 bel lt0) (trodAll_cons_mk (Below.trod laidOut (by kernel_rfl) (of_decide_eq_true (by kernel_rfl)) k1 bel lt1) trodAll_mk0)), rfl, bel.frame _, fun h => by cases h⟩

theorem over : Rows.manifestCutsRow.holds Try.pinned (OpenSpec.ofChange Rows.manifestCutsSpec) :=
  OpenClaim.holds_of_wide 4 Try.f4 rfl rfl rfl rfl rfl rfl rfl ⟨rfl, rfl, rfl, rfl, rfl⟩ rfl rfl rfl rfl rfl (by kernel_rfl) Try.func4 (by kernel_rfl)
    (of_decide_eq_true (by kernel_rfl)) (by unfold Func.isWrapper; first | (rw [if_pos (by decide +kernel)]; kernel_rfl) | (rw [if_neg (by decide +kernel)]; exact ⟨rfl, rfl⟩))
    (fun os started H enc _ => lifted os started H enc)

theorem proved : Rows.ManifestCutsSaid := over
end Go.Proofs.Ythdibijkiogpjaa.manifestCuts
