/-
  SpacePlays: for whatever space, whatever is done; no condition.
-/
import Derived.Test.YtjpomohfoknjiaaRows
import Derived.Test.YtjpomohfoknjiaaSpPlay
import Derived.WalkKit
import Derived.ProofKit
import Derived.OpenShut
import Derived.ShutString
import Derived.ChangeOld
import Derived.Below
namespace Go.Proofs.Ytjpomohfoknjiaa.spacePlays
open Go.ChangeShapes Go.WideShapes Go.ChangeAt Go.RowKit
open Go.ChangeMaps (open_string shut_string)
set_option linter.unusedVariables false

theorem own : ownKnob Try.prog.godebug = none := by kernel_rfl
theorem laidOut : laidOutB Try.prog = true := by kernel_rfl

theorem u16_lt {c : Int} (h : (Lit.int .u16 c).wf = true) : 0 ≤ c ∧ c < 65536 := by
  simp [Lit.wf, IntKind.min, IntKind.max, IntKind.signed, IntKind.bits] at h; omega
theorem opCells {w w' : World} {x y z : Int} (h : Row w' w.heap.size 31 [.int .i64 x, .int .i64 y, .int .i64 z]) : w'.cell? ⟨w.heap.size, 0, none⟩ = some (.int .i64 x) ∧ w'.cell? ⟨w.heap.size, 1, none⟩ = some (.int .i64 y) ∧ w'.cell? ⟨w.heap.size, 2, none⟩ = some (.int .i64 z) := ⟨h.cell 0, h.cell 1, h.cell 2⟩
theorem takeS_cases {s : Sp} (h : s.ok) (z : Int) : (∃ (m a : Nat) (s' : Sp), z = (m : Int) ∧ takeS s z = (s', a, 0) ∧ a + m ≤ 2000000) ∨ ∃ te : Nat, te ≠ 0 ∧ te ≤ 5 ∧ takeS s z = (s, 0, te) := by
  by_cases hz : z < 1
  · exact .inr ⟨1, by omega, by omega, takeS_bad s hz⟩
  · obtain ⟨m, rfl⟩ : ∃ m : Nat, z = (m : Int) := ⟨z.toNat, by omega⟩
    rcases takeS_spec h (n := m) (by omega) with ⟨s', a, e, ht, _⟩ | ⟨e, _⟩
    · refine .inl ⟨m, a, s', rfl, e, ?_⟩
      have h1 := h.2.2.has (ht.room (a + m - 1) (by omega) (by omega))
      have := h.1; have := h.2.1; omega
    · exact .inr ⟨5, by omega, by omega, e⟩

set_option maxHeartbeats 4000000 in
set_option maxRecDepth 100000 in
theorem walk (a0 : Int) (a1 : Int) (a2 : Option Addr) (len2 cap2 : Nat) (l2 : List (Int × Int × Int)) (w : World) (w0 : (Lit.int .i64 a0).wf = true) (w1 : (Lit.int .u16 a1).wf = true) (wr2 : ReadsT w w.heap.size a2 len2 l2) (wm2 : len2 ≤ maxLen) :
    Calls Try.prog 3 #[.int .i64 a0, .int .u16 a1, .slice a2 len2 cap2] w fun e w' => e = .returned (.bool true) ∧ Below w.heap.size w w' := by
  have hm0 : len2 ≤ 9223372036854775807 := by unfold maxLen at wm2; omega
  have HZ0 := Lib.hid wr2
  have hb0 := i64_bounds w0
  have hb1 := u16_lt w1
  obtain ⟨c1, rfl⟩ : ∃ c : Nat, a1 = (c : Int) := ⟨a1.toNat, by omega⟩
  clear wm2 wr2 w1
  go_enter Try.func3, Try.ntmps3
  go_wp2_with fail
  refine (awake_any _).mono ?_; rintro e w1 ⟨rfl, hb1'⟩
  have HB1 := Lib.hid hb1'
  have hs1 := hb1'.size
  clear hb1'
  by_cases hbig : len2 > 80
  · have g1 : decide ((len2 : Int) > 80) = true := by simp; omega
    have g2 : decide (80 < len2) = true := by simp; omega
    go_wp2_with fail
    refine (awake_any _).mono ?_; rintro e w2 ⟨rfl, hb2⟩
    have HB2 := Lib.hid (HB1.out.trans (hb2.mono hs1))
    clear hb2
    go_wp2
    go_ret
    exact ⟨rfl, HB2.out⟩
  have g1 : decide ((len2 : Int) > 80) = false := by simp; omega
  have g2 : decide (80 < len2) = false := by simp; omega
  obtain ⟨n, hn⟩ : ∃ r : Nat, r = c1 % 300 := ⟨_, rfl⟩
  have hmod : ((c1 : Int)) % 300 = (n : Int) := by omega
  have htm : ((c1 : Int)).tmod 300 = (n : Int) := by rw [Int.tmod_eq_emod_of_nonneg (by omega)]; omega
  have hn300 : n < 300 := by omega
  have hw16 : IntKind.u16.wrap (n : Int) = (n : Int) := by rw [IntKind.wrap_u16]; omega
  have h80 : len2 ≤ 80 := by omega
  clear hn hbig
  by_cases hin : ¬ (0 ≤ a0 ∧ a0 ≤ 1000000)
  · have HN1 := Lib.hid (fun w => new_none a0 (n : Int) w (fun h => hin ⟨h.1, h.2.1⟩))
    have HN2 := Lib.hid (fun w => rnew_none a0 (n : Int) w (fun h => hin ⟨h.1, h.2.1⟩))
    go_wp2_with fail
    refine (HN1.out _).mono ?_
    rintro e w2 ⟨rfl, rfl⟩
    go_wp2_with fail
    refine (HN2.out _).mono ?_
    rintro e w3 ⟨rfl, rfl⟩
    go_wp2
    go_ret
    exact ⟨rfl, HB1.out⟩
  have hin := Classical.not_not.1 hin
  obtain ⟨lo, rfl⟩ : ∃ f : Nat, a0 = (f : Int) := ⟨a0.toNat, by omega⟩
  have HN1 := Lib.hid (run_new (w0 := w) (w := w1) (f := lo) (n := n) (by omega) (by omega) HB1.out)
  have HN2 := Lib.hid (fun w => rnew_any lo n w (by omega) (by omega))
  go_wp2_with fail
  refine HN1.out.mono ?_
  rintro e w2 ⟨p, rfl, hr2, _⟩
  have HR2 := Lib.hid hr2
  clear hr2 HN1
  go_wp2_with fail
  refine (HN2.out _).mono ?_
  rintro e w3 ⟨q, g, rfl, hrs3, hq3, hg3, hb3⟩
  have HRS3 := Lib.hid hrs3
  have HR3 := Lib.hid (HR2.out.far hb3)
  have hgw : w.heap.size ≤ g := Nat.le_trans HR2.out.base.size hg3
  have HREL0 : Hid (Rel (newSp lo n) lo (List.replicate n false)) := by
    refine ⟨rfl, by rw [List.length_replicate]; rfl, fun k hk => ?_⟩
    rw [List.length_replicate] at hk
    rw [newSp_has, List.getD_eq_getElem?_getD, List.getElem?_replicate, if_pos hk]
    simp; omega
  clear hrs3 hb3 HN2 hq3 hg3
  go_wp2
  go_loopw [10, 11] (fun tv iv wl => ∃ (i N c : Nat) (A : Option Addr) (s : Sp) (L : List Ex) (T : List Bool), i ≤ len2 ∧ N ≤ i ∧ iv = .int .i64 (i : Int) ∧ tv = .slice A N c ∧ Hid (L.length = N ∧ ∀ x ∈ L, x.1 + x.2 ≤ 2000000) ∧ Hid (Run w wl p s (.slice A N c) N L) ∧ Hid (RSp wl q g lo T) ∧ Hid (Rel s lo T)) (fun _ iv _ => len2 - (intOf iv).toNat)
  case atStart => exact ⟨0, 0, 0, none, _, [], _, by omega, by omega, rfl, rfl, ⟨rfl, by simp⟩, HR3.out, HRS3.out, HREL0.out⟩
  case round =>
    obtain ⟨i, N, c, A, s, L, T, hi, hNi, rfl, rfl, HL, HR, HRS, HREL⟩ := hrel
    by_cases hlt : i < len2
    · have g0 : decide (i < len2) = true := by simpa using hlt
      obtain ⟨b, off, x, y, z, rfl, hbb, d0, d1, d2, hx, hy, hz, _⟩ := (HZ0.out.keep HR.out.base).at_ hlt
      have hbl : b < wr.heap.size := by have := HR.out.base.size; omega
      have hj0 : (0 : Int) ≤ (i : Int) := by omega
      have hj1 : (i : Int) < (len2 : Int) := by omega
      have hal := (Below.refl wr.heap.size wr).alloc (Nat.le_refl _) (.cells #[.int .i64 x, .int .i64 y, .int .i64 z] 31)
      have hop : Row (wr.alloc (.cells #[.int .i64 x, .int .i64 y, .int .i64 z] 31)) wr.heap.size 31 [.int .i64 x, .int .i64 y, .int .i64 z] := heap_alloc_new _ _
      have HOP := Lib.hid hop
      have HR4 := Lib.hid (HR.out.far hal)
      have HRS4 := Lib.hid (HRS.out.keep (KeepT.of_below hal))
      have HALW : Hid (Below w.heap.size w (wr.alloc (.cells #[.int .i64 x, .int .i64 y, .int .i64 z] 31))) := HR4.out.base
      obtain ⟨o0, o1, o2⟩ := opCells hop
      clear hal hop
      by_cases k1 : x = 1
      · have q1 : (x == 1) = true := by simp [k1]
        have q1' : decide (x = 1) = true := by simp [k1]
        clear k1
        rcases takeS_cases HR.out.ok z with ⟨m, a, s', hzm, e, ham⟩ | ⟨te, hte, hte5, e⟩
        · subst hzm
          go_wp2_with fail
          generalize wr.alloc (.cells #[.int .i64 x, .int .i64 y, .int .i64 (m : Int)] 31) = w4 at *
          have hgr : g < wr.heap.size := HRS.out.bits.lt
          have hc := run_take HR4.out hz
          rw [e] at hc
          have HC := Lib.hid hc
          have HC2 : Hid (∀ W, KeepT w4 W → Calls Try.prog 11 #[.pointer (some ⟨q, 0, none⟩), .int .i64 (m : Int)] W fun e w' => ∃ T', e = .returned (.tuple #[.int .i64 (a : Nat), .int .i64 (0 : Nat)]) ∧ RSp w' q g lo T' ∧ Far (fun b => b = g) W w' ∧ Rel s' lo T') := fun W hk => by
            have := rtake_rel (HRS4.out.keep hk) HREL.out HR4.out.ok hz
            rw [e] at this; exact this
          clear hc e
          go_wp2_with fail
          refine HC.out.mono ?_
          rintro e w5 ⟨rfl, hr5, hk5⟩
          have HR5 := Lib.hid hr5
          have HK5 := Lib.hid hk5
          have HOP5 := Lib.hid (hk5 _ _ _ HOP.out (by decide) (by decide))
          have HRS5 := Lib.hid (HRS4.out.keep hk5)
          have o25 : w5.cell? ⟨wr.heap.size, 2, none⟩ = some (.int .i64 (m : Int)) := HOP5.out.cell 2
          clear hr5 hk5 HC o0 o1 o2
          go_wp2_with fail
          refine (HC2.out _ HK5.out).mono ?_
          rintro e w6 ⟨T1, rfl, hrs6, hf6, hrel6⟩
          have HRS6 := Lib.hid hrs6
          have HREL9 := Lib.hid hrel6
          have HR6 := Lib.hid (HR5.out.bits HRS5.out.bits hgw hf6)
          have o26 : w6.cell? ⟨wr.heap.size, 2, none⟩ = some (.int .i64 (m : Int)) := (hf6.row HOP5.out (by omega)).cell 2
          have hg6 := hrs6.bits.lt
          clear hrs6 hf6 hrel6 HC2 HR5 HRS5 HK5 o25
          go_wp2_with (with_reducible refine stopAt 90 ?_)
          unfold Hid
          have HR7 := Lib.hid (HR6.out.far ((Below.refl _ w6).alloc (Nat.le_refl _) (.cells #[.int .i64 (a : Int), .int .i64 (m : Int)] 36)))
          have HRS7 := Lib.hid (HRS6.out.keep (KeepT.of_below ((Below.refl _ w6).alloc (Nat.le_refl _) (.cells #[.int .i64 (a : Int), .int .i64 (m : Int)] 36))))
          refine wpList_run_push rfl _ _ rfl HR7.out rfl ⟨w6.heap.size, 0, none⟩ rfl (a, m) (newsX rfl) (by omega) ?_
          intro A1 c1 w9 HR8 HK8
          obtain ⟨N1, hN1⟩ : ∃ N1, N1 = N + 1 := ⟨_, rfl⟩
          have HL9 : Hid ((L ++ [(a, m)]).length = N1 ∧ ∀ x ∈ L ++ [(a, m)], x.1 + x.2 ≤ 2000000) := by
            refine ⟨by rw [List.length_append, HL.out.1, hN1]; rfl, fun x hx => ?_⟩
            rcases List.mem_append.1 hx with hx | hx
            · exact HL.out.2 x hx
            · simp at hx; subst hx; exact ham
          rw [← hN1] at HR8 ⊢
          have HR9 : Hid (Run w w9 p s' (.slice A1 N1 c1) N1 (L ++ [(a, m)])) := HR8
          have HRS9 := Lib.hid (HRS7.out.keep HK8.out)
          have hN9 : N1 ≤ i + 1 := by omega
          generalize L ++ [(a, m)] = L1 at *
          clear hN1 HR6 HRS6 HR7 HRS7 HK8 HR8 HOP5 o26 hg6
          clear HR4 HRS4 HOP HALW HL HRS HR HREL d0 d1 d2 hx hy hz hbl
          have HEQ : Hid (sumB s'.fr = cntF T1 T1.length) := HREL9.out.sum HR9.out.ok
          have hfl9 := HR9.out.ok.len
          have hfr := run_free HR9.out
          rw [HEQ.out] at hfr
          have HF := Lib.hid hfr
          have HF2 : Hid (∀ W, RSp W q g lo T1 → Calls Try.prog 17 #[.pointer (some ⟨q, 0, none⟩)] W fun e w' => e = .returned (.int .i64 (cntF T1 T1.length : Nat)) ∧ w' = W) := fun W h => rfree_any W q g lo T1 h
          generalize cntF T1 T1.length = cf at *
          clear hfr HEQ
          go_wp2_with fail
          refine HF.out.mono ?_
          rintro e wa ⟨rfl, hba⟩
          have HRa := Lib.hid (HR9.out.far hba)
          have HRSa := Lib.hid (HRS9.out.keep (KeepT.of_below hba))
          clear hba HF HR9 HRS9
          go_wp2_with fail
          refine (HF2.out _ HRSa.out).mono ?_
          rintro e wb ⟨rfl, rfl⟩
          have HX := Lib.hid (run_extents HRa.out)
          clear HF2
          go_wp2_with fail
          refine HX.out.mono ?_
          rintro e wc ⟨Ac, cc, rfl, hrc, hrc', hbc⟩
          have HRSc := Lib.hid (HRSa.out.keep (KeepT.of_below hbc))
          have HRc := Lib.hid hrc
          have HRc' := Lib.hid hrc'
          have HY := Lib.hid (rextents_any wc q g lo T1 HRSc.out)
          clear hbc hrc hrc' HX HRa HRSa
          go_wp2_with fail
          refine HY.out.mono ?_
          rintro e wd ⟨Ad, cd, O, rfl, hod, hru, hbd⟩
          obtain rfl : O = s'.fr := HREL9.out.runs HRc.out.ok hru
          have HRd := Lib.hid (HRc.out.far hbd)
          have HRSd := Lib.hid (HRSc.out.keep (KeepT.of_below hbd))
          have HSA := Lib.hid (same_any wd (n := s'.fr.length) rfl (own2_below HRc'.out.own hbd) hod (by omega))
          clear hod hru hbd HY HRc HRc' HRSc
          go_wp2_with fail
          refine HSA.out.mono ?_
          rintro e we ⟨rfl, hbe⟩
          have HRe := Lib.hid (HRd.out.far hbe)
          have HRSe := Lib.hid (HRSd.out.keep (KeepT.of_below hbe))
          clear hbe HSA HRd HRSd
          go_wp2
          go_roundw
          case rel => exact ⟨i + 1, N1, c1, A1, s', L1, T1, by omega, hN9, by go_num, rfl, HL9.out, HRe.out, HRSe.out, HREL9.out⟩
          case measure => simp [intOf]; omega
        · go_wp2_with fail
          generalize wr.alloc (.cells #[.int .i64 x, .int .i64 y, .int .i64 z] 31) = w4 at *
          have hgr : g < wr.heap.size := HRS.out.bits.lt
          have hc := run_take HR4.out hz
          rw [e] at hc
          have HC := Lib.hid hc
          have HC2 : Hid (∀ W, KeepT w4 W → Calls Try.prog 11 #[.pointer (some ⟨q, 0, none⟩), .int .i64 z] W fun e w' => ∃ T', e = .returned (.tuple #[.int .i64 (0 : Nat), .int .i64 (te : Nat)]) ∧ RSp w' q g lo T' ∧ Far (fun b => b = g) W w' ∧ Rel s lo T') := fun W hk => by
            have := rtake_rel (HRS4.out.keep hk) HREL.out HR4.out.ok hz
            rw [e] at this; exact this
          clear hc e
          go_wp2_with fail
          refine HC.out.mono ?_
          rintro e w5 ⟨rfl, hr5, hk5⟩
          have HR5 := Lib.hid hr5
          have HK5 := Lib.hid hk5
          have HOP5 := Lib.hid (hk5 _ _ _ HOP.out (by decide) (by decide))
          have HRS5 := Lib.hid (HRS4.out.keep hk5)
          have o25 : w5.cell? ⟨wr.heap.size, 2, none⟩ = some (.int .i64 z) := HOP5.out.cell 2
          clear hr5 hk5 HC o0 o1 o2
          go_wp2_with fail
          refine (HC2.out _ HK5.out).mono ?_
          rintro e w6 ⟨T1, rfl, hrs6, hf6, hrel6⟩
          have HRS6 := Lib.hid hrs6
          have HREL9 := Lib.hid hrel6
          have HR6 := Lib.hid (HR5.out.bits HRS5.out.bits hgw hf6)
          have o26 : w6.cell? ⟨wr.heap.size, 2, none⟩ = some (.int .i64 z) := (hf6.row HOP5.out (by omega)).cell 2
          have hg6 := hrs6.bits.lt
          clear hrs6 hf6 hrel6 HC2 HR5 HRS5 HK5 o25
          have gte : ((te : Int) == 0) = false := by simp; omega
          have gte2 : (te == 0) = false := by simp; omega
          generalize w6 = w9 at *
          have HR9 := HR6
          have HRS9 := HRS6
          have HL9 := HL
          have hN9 : N ≤ i + 1 := by omega
          clear HR6 HRS6 HOP5 o26 hg6
          clear HR4 HRS4 HOP HALW HL HRS HR HREL d0 d1 d2 hx hy hz hbl
          have HEQ : Hid (sumB s.fr = cntF T1 T1.length) := HREL9.out.sum HR9.out.ok
          have hfl9 := HR9.out.ok.len
          have hfr := run_free HR9.out
          rw [HEQ.out] at hfr
          have HF := Lib.hid hfr
          have HF2 : Hid (∀ W, RSp W q g lo T1 → Calls Try.prog 17 #[.pointer (some ⟨q, 0, none⟩)] W fun e w' => e = .returned (.int .i64 (cntF T1 T1.length : Nat)) ∧ w' = W) := fun W h => rfree_any W q g lo T1 h
          generalize cntF T1 T1.length = cf at *
          clear hfr HEQ
          go_wp2_with fail
          refine HF.out.mono ?_
          rintro e wa ⟨rfl, hba⟩
          have HRa := Lib.hid (HR9.out.far hba)
          have HRSa := Lib.hid (HRS9.out.keep (KeepT.of_below hba))
          clear hba HF HR9 HRS9
          go_wp2_with fail
          refine (HF2.out _ HRSa.out).mono ?_
          rintro e wb ⟨rfl, rfl⟩
          have HX := Lib.hid (run_extents HRa.out)
          clear HF2
          go_wp2_with fail
          refine HX.out.mono ?_
          rintro e wc ⟨Ac, cc, rfl, hrc, hrc', hbc⟩
          have HRSc := Lib.hid (HRSa.out.keep (KeepT.of_below hbc))
          have HRc := Lib.hid hrc
          have HRc' := Lib.hid hrc'
          have HY := Lib.hid (rextents_any wc q g lo T1 HRSc.out)
          clear hbc hrc hrc' HX HRa HRSa
          go_wp2_with fail
          refine HY.out.mono ?_
          rintro e wd ⟨Ad, cd, O, rfl, hod, hru, hbd⟩
          obtain rfl : O = s.fr := HREL9.out.runs HRc.out.ok hru
          have HRd := Lib.hid (HRc.out.far hbd)
          have HRSd := Lib.hid (HRSc.out.keep (KeepT.of_below hbd))
          have HSA := Lib.hid (same_any wd (n := s.fr.length) rfl (own2_below HRc'.out.own hbd) hod (by omega))
          clear hod hru hbd HY HRc HRc' HRSc
          go_wp2_with fail
          refine HSA.out.mono ?_
          rintro e we ⟨rfl, hbe⟩
          have HRe := Lib.hid (HRd.out.far hbe)
          have HRSe := Lib.hid (HRSd.out.keep (KeepT.of_below hbe))
          clear hbe HSA HRd HRSd
          go_wp2
          go_roundw
          case rel => exact ⟨i + 1, N, c, A, s, L, T1, by omega, hN9, by go_num, rfl, HL9.out, HRe.out, HRSe.out, HREL9.out⟩
          case measure => simp [intOf]; omega
      have q1 : (x == 1) = false := by simp [k1]
      have q1' : decide (x = 1) = false := by simp [k1]
      by_cases k2 : x = 2
      · have q2 : (x == 2) = true := by simp [k2]
        have q2' : decide (x = 2) = true := by simp [k2]
        clear k1 k2
        go_wp2_with fail
        generalize wr.alloc (.cells #[.int .i64 x, .int .i64 y, .int .i64 z] 31) = w4 at *
        obtain ⟨s1, te, hst⟩ : ∃ s1 te, giveS s y z = (s1, te) := ⟨_, _, rfl⟩
        have hc := run_give (HR4.out.drewN 1) hy hz
        rw [hst] at hc
        have HC := Lib.hid hc
        have HC2 : Hid (∀ W, KeepT (w4.drewN 1) W → Calls Try.prog 13 #[.pointer (some ⟨q, 0, none⟩), .int .i64 y, .int .i64 z] W fun e w' => ∃ T', e = .returned (.int .i64 (te : Nat)) ∧ RSp w' q g lo T' ∧ Far (fun b => b = g) W w' ∧ Rel s1 lo T') := fun W hk => by
          have := rgive_rel ((HRS4.out.drewN 1).keep hk) HREL.out HR4.out.ok hy hz
          rw [hst] at this; exact this
        have hgr : g < wr.heap.size := HRS.out.bits.lt
        clear hc hst
        go_wp2
        go_region_held3 (fun w' => w'.cell? ⟨wr.heap.size, 1, none⟩ = some (.int .i64 y) ∧ w'.cell? ⟨wr.heap.size, 2, none⟩ = some (.int .i64 z))
          (first
            | (exact ⟨o1, o2⟩)
            | (exact ⟨(hk5 _ _ _ (HOP.out.drewN 1) (by decide) (by decide)).cell 1, (hk5 _ _ _ (HOP.out.drewN 1) (by decide) (by decide)).cell 2⟩)
            | (exact ⟨(hf6.row (hk5 _ _ _ (HOP.out.drewN 1) (by decide) (by decide)) (by omega)).cell 1, (hf6.row (hk5 _ _ _ (HOP.out.drewN 1) (by decide) (by decide)) (by omega)).cell 2⟩))
          (first
            | (go_split_ands; go_at_call 12; refine HC.out.mono ?_; rintro e w5 ⟨rfl, hr5, hk5⟩)
            | (go_split_ands; go_at_call 13; refine (HC2.out _ hk5).mono ?_; rintro e w6 ⟨T1, rfl, hrs6, hf6, hrel6⟩))
        have HR9 := Lib.hid (hr5.bits ((HRS4.out.drewN 1).keep hk5).bits hgw hf6)
        have HRS9 := Lib.hid hrs6
        have HREL9 := Lib.hid hrel6
        have HL9 := HL
        have hN9 : N ≤ i + 1 := by omega
        generalize w6 = w9 at *
        clear hr5 hk5 hrs6 hf6 hrel6 HC HC2 o0 o1 o2
        clear HR4 HRS4 HOP HALW HL HRS HR HREL d0 d1 d2 hx hy hz hbl
        have HEQ : Hid (sumB s1.fr = cntF T1 T1.length) := HREL9.out.sum HR9.out.ok
        have hfl9 := HR9.out.ok.len
        have hfr := run_free HR9.out
        rw [HEQ.out] at hfr
        have HF := Lib.hid hfr
        have HF2 : Hid (∀ W, RSp W q g lo T1 → Calls Try.prog 17 #[.pointer (some ⟨q, 0, none⟩)] W fun e w' => e = .returned (.int .i64 (cntF T1 T1.length : Nat)) ∧ w' = W) := fun W h => rfree_any W q g lo T1 h
        generalize cntF T1 T1.length = cf at *
        clear hfr HEQ
        go_wp2_with fail
        refine HF.out.mono ?_
        rintro e wa ⟨rfl, hba⟩
        have HRa := Lib.hid (HR9.out.far hba)
        have HRSa := Lib.hid (HRS9.out.keep (KeepT.of_below hba))
        clear hba HF HR9 HRS9
        go_wp2_with fail
        refine (HF2.out _ HRSa.out).mono ?_
        rintro e wb ⟨rfl, rfl⟩
        have HX := Lib.hid (run_extents HRa.out)
        clear HF2
        go_wp2_with fail
        refine HX.out.mono ?_
        rintro e wc ⟨Ac, cc, rfl, hrc, hrc', hbc⟩
        have HRSc := Lib.hid (HRSa.out.keep (KeepT.of_below hbc))
        have HRc := Lib.hid hrc
        have HRc' := Lib.hid hrc'
        have HY := Lib.hid (rextents_any wc q g lo T1 HRSc.out)
        clear hbc hrc hrc' HX HRa HRSa
        go_wp2_with fail
        refine HY.out.mono ?_
        rintro e wd ⟨Ad, cd, O, rfl, hod, hru, hbd⟩
        obtain rfl : O = s1.fr := HREL9.out.runs HRc.out.ok hru
        have HRd := Lib.hid (HRc.out.far hbd)
        have HRSd := Lib.hid (HRSc.out.keep (KeepT.of_below hbd))
        have HSA := Lib.hid (same_any wd (n := s1.fr.length) rfl (own2_below HRc'.out.own hbd) hod (by omega))
        clear hod hru hbd HY HRc HRc' HRSc
        go_wp2_with fail
        refine HSA.out.mono ?_
        rintro e we ⟨rfl, hbe⟩
        have HRe := Lib.hid (HRd.out.far hbe)
        have HRSe := Lib.hid (HRSd.out.keep (KeepT.of_below hbe))
        clear hbe HSA HRd HRSd
        go_wp2
        go_roundw
        case rel => exact ⟨i + 1, N, c, A, s1, L, T1, by omega, hN9, by go_num, rfl, HL9.out, HRe.out, HRSe.out, HREL9.out⟩
        case measure => simp [intOf]; omega
      have q2 : (x == 2) = false := by simp [k2]
      have q2' : decide (x = 2) = false := by simp [k2]
      by_cases k3 : x = 3
      · have q3 : (x == 3) = true := by simp [k3]
        have q3' : decide (x = 3) = true := by simp [k3]
        clear k1 k2 k3
        go_wp2_with fail
        generalize wr.alloc (.cells #[.int .i64 x, .int .i64 y, .int .i64 z] 31) = w4 at *
        obtain ⟨s1, te, hst⟩ : ∃ s1 te, holdS s y z = (s1, te) := ⟨_, _, rfl⟩
        have hc := run_hold (HR4.out.drewN 1) hy hz
        rw [hst] at hc
        have HC := Lib.hid hc
        have HC2 : Hid (∀ W, KeepT (w4.drewN 1) W → Calls Try.prog 15 #[.pointer (some ⟨q, 0, none⟩), .int .i64 y, .int .i64 z] W fun e w' => ∃ T', e = .returned (.int .i64 (te : Nat)) ∧ RSp w' q g lo T' ∧ Far (fun b => b = g) W w' ∧ Rel s1 lo T') := fun W hk => by
          have := rhold_rel ((HRS4.out.drewN 1).keep hk) HREL.out HR4.out.ok hy hz
          rw [hst] at this; exact this
        have hgr : g < wr.heap.size := HRS.out.bits.lt
        clear hc hst
        go_wp2
        go_region_held3 (fun w' => w'.cell? ⟨wr.heap.size, 1, none⟩ = some (.int .i64 y) ∧ w'.cell? ⟨wr.heap.size, 2, none⟩ = some (.int .i64 z))
          (first
            | (exact ⟨o1, o2⟩)
            | (exact ⟨(hk5 _ _ _ (HOP.out.drewN 1) (by decide) (by decide)).cell 1, (hk5 _ _ _ (HOP.out.drewN 1) (by decide) (by decide)).cell 2⟩)
            | (exact ⟨(hf6.row (hk5 _ _ _ (HOP.out.drewN 1) (by decide) (by decide)) (by omega)).cell 1, (hf6.row (hk5 _ _ _ (HOP.out.drewN 1) (by decide) (by decide)) (by omega)).cell 2⟩))
          (first
            | (go_split_ands; go_at_call 14; refine HC.out.mono ?_; rintro e w5 ⟨rfl, hr5, hk5⟩)
            | (go_split_ands; go_at_call 15; refine (HC2.out _ hk5).mono ?_; rintro e w6 ⟨T1, rfl, hrs6, hf6, hrel6⟩))
        have HR9 := Lib.hid (hr5.bits ((HRS4.out.drewN 1).keep hk5).bits hgw hf6)
        have HRS9 := Lib.hid hrs6
        have HREL9 := Lib.hid hrel6
        have HL9 := HL
        have hN9 : N ≤ i + 1 := by omega
        generalize w6 = w9 at *
        clear hr5 hk5 hrs6 hf6 hrel6 HC HC2 o0 o1 o2
        clear HR4 HRS4 HOP HALW HL HRS HR HREL d0 d1 d2 hx hy hz hbl
        have HEQ : Hid (sumB s1.fr = cntF T1 T1.length) := HREL9.out.sum HR9.out.ok
        have hfl9 := HR9.out.ok.len
        have hfr := run_free HR9.out
        rw [HEQ.out] at hfr
        have HF := Lib.hid hfr
        have HF2 : Hid (∀ W, RSp W q g lo T1 → Calls Try.prog 17 #[.pointer (some ⟨q, 0, none⟩)] W fun e w' => e = .returned (.int .i64 (cntF T1 T1.length : Nat)) ∧ w' = W) := fun W h => rfree_any W q g lo T1 h
        generalize cntF T1 T1.length = cf at *
        clear hfr HEQ
        go_wp2_with fail
        refine HF.out.mono ?_
        rintro e wa ⟨rfl, hba⟩
        have HRa := Lib.hid (HR9.out.far hba)
        have HRSa := Lib.hid (HRS9.out.keep (KeepT.of_below hba))
        clear hba HF HR9 HRS9
        go_wp2_with fail
        refine (HF2.out _ HRSa.out).mono ?_
        rintro e wb ⟨rfl, rfl⟩
        have HX := Lib.hid (run_extents HRa.out)
        clear HF2
        go_wp2_with fail
        refine HX.out.mono ?_
        rintro e wc ⟨Ac, cc, rfl, hrc, hrc', hbc⟩
        have HRSc := Lib.hid (HRSa.out.keep (KeepT.of_below hbc))
        have HRc := Lib.hid hrc
        have HRc' := Lib.hid hrc'
        have HY := Lib.hid (rextents_any wc q g lo T1 HRSc.out)
        clear hbc hrc hrc' HX HRa HRSa
        go_wp2_with fail
        refine HY.out.mono ?_
        rintro e wd ⟨Ad, cd, O, rfl, hod, hru, hbd⟩
        obtain rfl : O = s1.fr := HREL9.out.runs HRc.out.ok hru
        have HRd := Lib.hid (HRc.out.far hbd)
        have HRSd := Lib.hid (HRSc.out.keep (KeepT.of_below hbd))
        have HSA := Lib.hid (same_any wd (n := s1.fr.length) rfl (own2_below HRc'.out.own hbd) hod (by omega))
        clear hod hru hbd HY HRc HRc' HRSc
        go_wp2_with fail
        refine HSA.out.mono ?_
        rintro e we ⟨rfl, hbe⟩
        have HRe := Lib.hid (HRd.out.far hbe)
        have HRSe := Lib.hid (HRSd.out.keep (KeepT.of_below hbe))
        clear hbe HSA HRd HRSd
        go_wp2
        go_roundw
        case rel => exact ⟨i + 1, N, c, A, s1, L, T1, by omega, hN9, by go_num, rfl, HL9.out, HRe.out, HRSe.out, HREL9.out⟩
        case measure => simp [intOf]; omega
      have q3 : (x == 3) = false := by simp [k3]
      have q3' : decide (x = 3) = false := by simp [k3]
      by_cases k4 : x = 4
      · have q4 : (x == 4) = true := by simp [k4]
        have q4' : decide (x = 4) = true := by simp [k4]
        clear k1 k2 k3 k4
        go_wp2_with fail
        generalize wr.alloc (.cells #[.int .i64 x, .int .i64 y, .int .i64 z] 31) = w4 at *
        by_cases hy0 : y < 0
        · have gy : decide (y ≥ 0) = false := by simp; omega
          have gy2 : decide ((0 : Int) ≤ y) = false := by simp; omega
          go_wp2
          go_quiet (fail)
          have HR4' := Lib.hid (HR4.out.drewN nq)
          have HRS4' := Lib.hid (HRS4.out.drewN nq)
          generalize w4.drewN nq = w9 at *
          have HR9 : Hid (Run w w9 p s (.slice A N c) N L) := HR4'.out
          have HRS9 : Hid (RSp w9 q g lo T) := HRS4'.out
          have HREL9 := HREL
          have HL9 := HL
          have hN9 : N ≤ i + 1 := by omega
          clear HR4' HRS4' o0 o1 o2
          clear HR4 HRS4 HOP HALW HL HRS HR HREL d0 d1 d2 hx hy hz hbl
          have HEQ : Hid (sumB s.fr = cntF T T.length) := HREL9.out.sum HR9.out.ok
          have hfl9 := HR9.out.ok.len
          have hfr := run_free HR9.out
          rw [HEQ.out] at hfr
          have HF := Lib.hid hfr
          have HF2 : Hid (∀ W, RSp W q g lo T → Calls Try.prog 17 #[.pointer (some ⟨q, 0, none⟩)] W fun e w' => e = .returned (.int .i64 (cntF T T.length : Nat)) ∧ w' = W) := fun W h => rfree_any W q g lo T h
          generalize cntF T T.length = cf at *
          clear hfr HEQ
          go_wp2_with fail
          refine HF.out.mono ?_
          rintro e wa ⟨rfl, hba⟩
          have HRa := Lib.hid (HR9.out.far hba)
          have HRSa := Lib.hid (HRS9.out.keep (KeepT.of_below hba))
          clear hba HF HR9 HRS9
          go_wp2_with fail
          refine (HF2.out _ HRSa.out).mono ?_
          rintro e wb ⟨rfl, rfl⟩
          have HX := Lib.hid (run_extents HRa.out)
          clear HF2
          go_wp2_with fail
          refine HX.out.mono ?_
          rintro e wc ⟨Ac, cc, rfl, hrc, hrc', hbc⟩
          have HRSc := Lib.hid (HRSa.out.keep (KeepT.of_below hbc))
          have HRc := Lib.hid hrc
          have HRc' := Lib.hid hrc'
          have HY := Lib.hid (rextents_any wc q g lo T HRSc.out)
          clear hbc hrc hrc' HX HRa HRSa
          go_wp2_with fail
          refine HY.out.mono ?_
          rintro e wd ⟨Ad, cd, O, rfl, hod, hru, hbd⟩
          obtain rfl : O = s.fr := HREL9.out.runs HRc.out.ok hru
          have HRd := Lib.hid (HRc.out.far hbd)
          have HRSd := Lib.hid (HRSc.out.keep (KeepT.of_below hbd))
          have HSA := Lib.hid (same_any wd (n := s.fr.length) rfl (own2_below HRc'.out.own hbd) hod (by omega))
          clear hod hru hbd HY HRc HRc' HRSc
          go_wp2_with fail
          refine HSA.out.mono ?_
          rintro e we ⟨rfl, hbe⟩
          have HRe := Lib.hid (HRd.out.far hbe)
          have HRSe := Lib.hid (HRSd.out.keep (KeepT.of_below hbe))
          clear hbe HSA HRd HRSd
          go_wp2
          go_roundw
          case rel => exact ⟨i + 1, N, c, A, s, L, T, by omega, hN9, by go_num, rfl, HL9.out, HRe.out, HRSe.out, HREL9.out⟩
          case measure => simp [intOf]; omega
        by_cases hyN : (N : Int) ≤ y
        · have gy : decide (y ≥ 0) = true := by simp; omega
          have gy2 : decide ((0 : Int) ≤ y) = true := by simp; omega
          have gz : decide (y < (N : Int)) = false := by simp; omega
          go_wp2
          go_quiet (fail)
          have HR4' := Lib.hid (HR4.out.drewN nq)
          have HRS4' := Lib.hid (HRS4.out.drewN nq)
          generalize w4.drewN nq = w9 at *
          have HR9 : Hid (Run w w9 p s (.slice A N c) N L) := HR4'.out
          have HRS9 : Hid (RSp w9 q g lo T) := HRS4'.out
          have HREL9 := HREL
          have HL9 := HL
          have hN9 : N ≤ i + 1 := by omega
          clear HR4' HRS4' o0 o1 o2
          clear HR4 HRS4 HOP HALW HL HRS HR HREL d0 d1 d2 hx hy hz hbl
          have HEQ : Hid (sumB s.fr = cntF T T.length) := HREL9.out.sum HR9.out.ok
          have hfl9 := HR9.out.ok.len
          have hfr := run_free HR9.out
          rw [HEQ.out] at hfr
          have HF := Lib.hid hfr
          have HF2 : Hid (∀ W, RSp W q g lo T → Calls Try.prog 17 #[.pointer (some ⟨q, 0, none⟩)] W fun e w' => e = .returned (.int .i64 (cntF T T.length : Nat)) ∧ w' = W) := fun W h => rfree_any W q g lo T h
          generalize cntF T T.length = cf at *
          clear hfr HEQ
          go_wp2_with fail
          refine HF.out.mono ?_
          rintro e wa ⟨rfl, hba⟩
          have HRa := Lib.hid (HR9.out.far hba)
          have HRSa := Lib.hid (HRS9.out.keep (KeepT.of_below hba))
          clear hba HF HR9 HRS9
          go_wp2_with fail
          refine (HF2.out _ HRSa.out).mono ?_
          rintro e wb ⟨rfl, rfl⟩
          have HX := Lib.hid (run_extents HRa.out)
          clear HF2
          go_wp2_with fail
          refine HX.out.mono ?_
          rintro e wc ⟨Ac, cc, rfl, hrc, hrc', hbc⟩
          have HRSc := Lib.hid (HRSa.out.keep (KeepT.of_below hbc))
          have HRc := Lib.hid hrc
          have HRc' := Lib.hid hrc'
          have HY := Lib.hid (rextents_any wc q g lo T HRSc.out)
          clear hbc hrc hrc' HX HRa HRSa
          go_wp2_with fail
          refine HY.out.mono ?_
          rintro e wd ⟨Ad, cd, O, rfl, hod, hru, hbd⟩
          obtain rfl : O = s.fr := HREL9.out.runs HRc.out.ok hru
          have HRd := Lib.hid (HRc.out.far hbd)
          have HRSd := Lib.hid (HRSc.out.keep (KeepT.of_below hbd))
          have HSA := Lib.hid (same_any wd (n := s.fr.length) rfl (own2_below HRc'.out.own hbd) hod (by omega))
          clear hod hru hbd HY HRc HRc' HRSc
          go_wp2_with fail
          refine HSA.out.mono ?_
          rintro e we ⟨rfl, hbe⟩
          have HRe := Lib.hid (HRd.out.far hbe)
          have HRSe := Lib.hid (HRSd.out.keep (KeepT.of_below hbe))
          clear hbe HSA HRd HRSd
          go_wp2
          go_roundw
          case rel => exact ⟨i + 1, N, c, A, s, L, T, by omega, hN9, by go_num, rfl, HL9.out, HRe.out, HRSe.out, HREL9.out⟩
          case measure => simp [intOf]; omega
        obtain ⟨j, rfl⟩ : ∃ j : Nat, y = (j : Int) := ⟨y.toNat, by omega⟩
        have hjN : j < N := by omega
        have gy : decide ((j : Int) ≥ 0) = true := by simp
        have gy2 : decide ((0 : Int) ≤ (j : Int)) = true := by simp
        have gz : decide ((j : Int) < (N : Int)) = true := by simp; omega
        have gz2 : decide (j < N) = true := by simp; omega
        have ki0 : (0 : Int) ≤ (j : Int) := by omega
        have ki1 : (j : Int) < (N : Int) := by omega
        have hkl : j < L.length := by rw [HL.out.1]; exact hjN
        have hbx := HL.out.2 _ (getD_lt hkl)
        obtain ⟨g2, rfl, hg2l, e0, e1⟩ := own2_at HR4.out.own hjN
        have HX2 : Hid (xAt L j = ((xAt L j).1, (xAt L j).2)) := rfl
        generalize (xAt L j).1 = a2 at *
        generalize (xAt L j).2 = n2 at *
        obtain ⟨s1, te, hst⟩ : ∃ s1 te, giveS s (a2 : Int) (n2 : Int) = (s1, te) := ⟨_, _, rfl⟩
        have hya : I64 (a2 : Int) := I64.of (by omega) (by omega)
        have hna : I64 (n2 : Int) := I64.of (by omega) (by omega)
        have hc := run_give (HR4.out.drewN 1) hya hna
        rw [hst] at hc
        have HC := Lib.hid hc
        have HC2 : Hid (∀ W, KeepT (w4.drewN 1) W → Calls Try.prog 13 #[.pointer (some ⟨q, 0, none⟩), .int .i64 (a2 : Int), .int .i64 (n2 : Int)] W fun e w' => ∃ T', e = .returned (.int .i64 (te : Nat)) ∧ RSp w' q g lo T' ∧ Far (fun b => b = g) W w' ∧ Rel s1 lo T') := fun W hk => by
          have := rgive_rel ((HRS4.out.drewN 1).keep hk) HREL.out HR4.out.ok hya hna
          rw [hst] at this; exact this
        have hgr : g < wr.heap.size := HRS.out.bits.lt
        clear hc hst
        go_wp2
        go_region_held3 (fun w' => w'.cell? ⟨wr.heap.size, 1, none⟩ = some (.int .i64 (j : Int)) ∧ w'.cell? ⟨g2, j * 2, none⟩ = some (.int .i64 (a2 : Int)) ∧ w'.cell? ⟨g2, j * 2 + 1, none⟩ = some (.int .i64 (n2 : Int)))
          (first
            | (exact ⟨o1, e0, e1⟩)
            | (exact ⟨(hk5 _ _ _ (HOP.out.drewN 1) (by decide) (by decide)).cell 1, run_cells hr5 HX2.out hjN⟩)
            | (exact ⟨(hf6.row (hk5 _ _ _ (HOP.out.drewN 1) (by decide) (by decide)) (by omega)).cell 1, run_cells (hr5.bits ((HRS4.out.drewN 1).keep hk5).bits hgw hf6) HX2.out hjN⟩))
          (first
            | (go_split_ands; go_at_call 12; refine HC.out.mono ?_; rintro e w5 ⟨rfl, hr5, hk5⟩)
            | (go_split_ands; go_at_call 13; refine (HC2.out _ hk5).mono ?_; rintro e w6 ⟨T1, rfl, hrs6, hf6, hrel6⟩))
        have HR9 := Lib.hid (hr5.bits ((HRS4.out.drewN 1).keep hk5).bits hgw hf6)
        have HRS9 := Lib.hid hrs6
        have HREL9 := Lib.hid hrel6
        have HL9 := HL
        have hN9 : N ≤ i + 1 := by omega
        generalize w6 = w9 at *
        clear hr5 hk5 hrs6 hf6 hrel6 HC HC2 o0 o1 o2 e0 e1
        clear HR4 HRS4 HOP HALW HL HRS HR HREL d0 d1 d2 hx hy hz hbl
        have HEQ : Hid (sumB s1.fr = cntF T1 T1.length) := HREL9.out.sum HR9.out.ok
        have hfl9 := HR9.out.ok.len
        have hfr := run_free HR9.out
        rw [HEQ.out] at hfr
        have HF := Lib.hid hfr
        have HF2 : Hid (∀ W, RSp W q g lo T1 → Calls Try.prog 17 #[.pointer (some ⟨q, 0, none⟩)] W fun e w' => e = .returned (.int .i64 (cntF T1 T1.length : Nat)) ∧ w' = W) := fun W h => rfree_any W q g lo T1 h
        generalize cntF T1 T1.length = cf at *
        clear hfr HEQ
        go_wp2_with fail
        refine HF.out.mono ?_
        rintro e wa ⟨rfl, hba⟩
        have HRa := Lib.hid (HR9.out.far hba)
        have HRSa := Lib.hid (HRS9.out.keep (KeepT.of_below hba))
        clear hba HF HR9 HRS9
        go_wp2_with fail
        refine (HF2.out _ HRSa.out).mono ?_
        rintro e wb ⟨rfl, rfl⟩
        have HX := Lib.hid (run_extents HRa.out)
        clear HF2
        go_wp2_with fail
        refine HX.out.mono ?_
        rintro e wc ⟨Ac, cc, rfl, hrc, hrc', hbc⟩
        have HRSc := Lib.hid (HRSa.out.keep (KeepT.of_below hbc))
        have HRc := Lib.hid hrc
        have HRc' := Lib.hid hrc'
        have HY := Lib.hid (rextents_any wc q g lo T1 HRSc.out)
        clear hbc hrc hrc' HX HRa HRSa
        go_wp2_with fail
        refine HY.out.mono ?_
        rintro e wd ⟨Ad, cd, O, rfl, hod, hru, hbd⟩
        obtain rfl : O = s1.fr := HREL9.out.runs HRc.out.ok hru
        have HRd := Lib.hid (HRc.out.far hbd)
        have HRSd := Lib.hid (HRSc.out.keep (KeepT.of_below hbd))
        have HSA := Lib.hid (same_any wd (n := s1.fr.length) rfl (own2_below HRc'.out.own hbd) hod (by omega))
        clear hod hru hbd HY HRc HRc' HRSc
        go_wp2_with fail
        refine HSA.out.mono ?_
        rintro e we ⟨rfl, hbe⟩
        have HRe := Lib.hid (HRd.out.far hbe)
        have HRSe := Lib.hid (HRSd.out.keep (KeepT.of_below hbe))
        clear hbe HSA HRd HRSd
        go_wp2
        go_roundw
        case rel => exact ⟨i + 1, N, c, (some ⟨g2, 0, none⟩), s1, L, T1, by omega, hN9, by go_num, rfl, HL9.out, HRe.out, HRSe.out, HREL9.out⟩
        case measure => simp [intOf]; omega
      have q4 : (x == 4) = false := by simp [k4]
      have q4' : decide (x = 4) = false := by simp [k4]
      clear k1 k2 k3 k4
      go_wp2_with fail
      generalize wr.alloc (.cells #[.int .i64 x, .int .i64 y, .int .i64 z] 31) = w4 at *
      have HR4' := HR4
      have HRS4' := HRS4
      generalize w4 = w9 at *
      have HR9 : Hid (Run w w9 p s (.slice A N c) N L) := HR4'.out
      have HRS9 : Hid (RSp w9 q g lo T) := HRS4'.out
      have HREL9 := HREL
      have HL9 := HL
      have hN9 : N ≤ i + 1 := by omega
      clear HR4' HRS4' o0 o1 o2
      clear HR4 HRS4 HOP HALW HL HRS HR HREL d0 d1 d2 hx hy hz hbl
      have HEQ : Hid (sumB s.fr = cntF T T.length) := HREL9.out.sum HR9.out.ok
      have hfl9 := HR9.out.ok.len
      have hfr := run_free HR9.out
      rw [HEQ.out] at hfr
      have HF := Lib.hid hfr
      have HF2 : Hid (∀ W, RSp W q g lo T → Calls Try.prog 17 #[.pointer (some ⟨q, 0, none⟩)] W fun e w' => e = .returned (.int .i64 (cntF T T.length : Nat)) ∧ w' = W) := fun W h => rfree_any W q g lo T h
      generalize cntF T T.length = cf at *
      clear hfr HEQ
      go_wp2_with fail
      refine HF.out.mono ?_
      rintro e wa ⟨rfl, hba⟩
      have HRa := Lib.hid (HR9.out.far hba)
      have HRSa := Lib.hid (HRS9.out.keep (KeepT.of_below hba))
      clear hba HF HR9 HRS9
      go_wp2_with fail
      refine (HF2.out _ HRSa.out).mono ?_
      rintro e wb ⟨rfl, rfl⟩
      have HX := Lib.hid (run_extents HRa.out)
      clear HF2
      go_wp2_with fail
      refine HX.out.mono ?_
      rintro e wc ⟨Ac, cc, rfl, hrc, hrc', hbc⟩
      have HRSc := Lib.hid (HRSa.out.keep (KeepT.of_below hbc))
      have HRc := Lib.hid hrc
      have HRc' := Lib.hid hrc'
      have HY := Lib.hid (rextents_any wc q g lo T HRSc.out)
      clear hbc hrc hrc' HX HRa HRSa
      go_wp2_with fail
      refine HY.out.mono ?_
      rintro e wd ⟨Ad, cd, O, rfl, hod, hru, hbd⟩
      obtain rfl : O = s.fr := HREL9.out.runs HRc.out.ok hru
      have HRd := Lib.hid (HRc.out.far hbd)
      have HRSd := Lib.hid (HRSc.out.keep (KeepT.of_below hbd))
      have HSA := Lib.hid (same_any wd (n := s.fr.length) rfl (own2_below HRc'.out.own hbd) hod (by omega))
      clear hod hru hbd HY HRc HRc' HRSc
      go_wp2_with fail
      refine HSA.out.mono ?_
      rintro e we ⟨rfl, hbe⟩
      have HRe := Lib.hid (HRd.out.far hbe)
      have HRSe := Lib.hid (HRSd.out.keep (KeepT.of_below hbe))
      clear hbe HSA HRd HRSd
      go_wp2
      go_roundw
      case rel => exact ⟨i + 1, N, c, A, s, L, T, by omega, hN9, by go_num, rfl, HL9.out, HRe.out, HRSe.out, HREL9.out⟩
      case measure => simp [intOf]; omega
    · obtain rfl : i = len2 := by omega
      have g0 : decide (i < i) = false := by simp
      go_wp2
      go_ret
      exact ⟨rfl, HR.out.base⟩

set_option maxRecDepth 100000 in
theorem lifted (os : Os) (started : os.Started) (H : Type) (enc : TypeId × Value → H) :
    ReturnsInHanded {} Try.checked os 3 .any (Rows.spacePlaysSpec.pre6 enc Try.prog Try.f3 Rows.spacePlaysRow.domain false) (Rows.spacePlaysSpec.post enc Try.prog Try.f3 false true false false) := by
  refine returnsInHanded_of_change (C := Try.checked) own started (by kernel_rfl) Try.func3
    (ChangeSpec.witness6 (enc := enc) (C := Try.checked) false ⟨#[], #[.int .i64 0, .int .u16 0, .slice none 0 0], []⟩ 8 (by kernel_rfl) (by kernel_rfl) (by kernel_rfl) (by kernel_rfl)) ?_
  intro W base args ds gs before hval0 hW hcnd _
  have hval : ∀ (j : Nat) t v, Try.f3.params[j]? = some t → args[j]? = some v → Value.okWide Try.prog W .any base t v := hval0
  have hW' := hW
  obtain ⟨p, q, hA0, hV, rfl, hfz, hnd⟩ := hW
  have hA : DataW.TrodAll enc Try.prog W 0 (fun _ => true) true Try.f3.params.toList args.toList ds p := hA0
  rw [Try.params3] at hA hval
  obtain ⟨v0, vs0, d0, ds0, p0, q0, hargs, rfl, rfl, h0, r0⟩ := trodAll_cons hA
  obtain ⟨v1, vs1, d1, ds1, p1, q1, rfl, rfl, rfl, h1, r1⟩ := trodAll_cons r0
  obtain ⟨v2, vs2, d2, ds2, p2, q2, rfl, rfl, rfl, h2, r2⟩ := trodAll_cons r1
  obtain ⟨rfl, rfl, rfl⟩ := trodAll_nil r2
  obtain rfl : args = #[v0, v1, v2] := by cases args; simp_all
  obtain ⟨rfl, rfl⟩ := trodVars_none hV
  have k0 := h0
  have lt0 : ∀ x ∈ p0, x.block < W.heap.size := by obtain ⟨m, hm⟩ := k0; exact DataW.trod_lt m _ _ _ hm
  have k1 := h1
  have lt1 : ∀ x ∈ p1, x.block < W.heap.size := by obtain ⟨m, hm⟩ := k1; exact DataW.trod_lt m _ _ _ hm
  have k2 := h2
  have lt2 : ∀ x ∈ p2, x.block < W.heap.size := by obtain ⟨m, hm⟩ := k2; exact DataW.trod_lt m _ _ _ hm
  obtain ⟨a0, rfl, rfl, rfl, w0⟩ := open_int Try.underlying3 (hval 0 3 v0 rfl rfl) h0
  obtain ⟨a1, rfl, rfl, rfl, w1⟩ := open_int Try.underlying22 (hval 1 22 v1 rfl rfl) h1
  obtain ⟨a2, len2, cap2, rfl⟩ := okWide_slice Try.underlying23 (hval 2 23 v2 rfl rfl)
  obtain ⟨l2, wr2, wm2⟩ : ∃ l2, ReadsT W W.heap.size a2 len2 l2 ∧ len2 ≤ maxLen := by
    obtain ⟨fuel2, hf2⟩ := h2
    obtain ⟨a', len', cap', l', he', hr', hm'⟩ := open_triples Try.underlying23 Try.underlying31 (by kernel_rfl) (by kernel_rfl) Try.underlying3 rfl rfl rfl hf2
    injection he' with e1 e2 e3
    subst e1; subst e2
    exact ⟨l', hr', hm'⟩
  clear hA0 hval0
  refine (walk a0 a1 a2 len2 cap2 l2 W w0 w1 wr2 wm2).mono fun e W' ⟨he, bel⟩ => ?_
  subst he
  exact ⟨_, rfl, _, _, _, [], _, [], hW', trodAll_mk1 (shut_bool Try.underlying4 _), (trodAll_cons_mk (Below.trod laidOut (by kernel_rfl) (of_decide_eq_true (by kernel_rfl)) k0 bel lt0) (trodAll_cons_mk (Below.trod laidOut (by kernel_rfl) (of_decide_eq_true (by kernel_rfl)) k1 bel lt1) (trodAll_cons_mk (Below.trod laidOut (by kernel_rfl) (of_decide_eq_true (by kernel_rfl)) k2 bel lt2) trodAll_mk0))), rfl, bel.frame _, fun h => by cases h⟩

theorem over : Rows.spacePlaysRow.holds Try.pinned (OpenSpec.ofChange Rows.spacePlaysSpec) :=
  OpenClaim.holds_of_wide 3 Try.f3 rfl rfl rfl rfl rfl rfl rfl ⟨rfl, rfl, rfl, rfl, rfl⟩ rfl rfl rfl rfl rfl (by kernel_rfl) Try.func3 (by kernel_rfl)
    (of_decide_eq_true (by kernel_rfl)) (by unfold Func.isWrapper; first | (rw [if_pos (by decide +kernel)]; kernel_rfl) | (rw [if_neg (by decide +kernel)]; exact ⟨rfl, rfl⟩))
    (fun os started H enc _ => lifted os started H enc)

theorem proved : Rows.SpacePlaysSaid := over
end Go.Proofs.Ytjpomohfoknjiaa.spacePlays
