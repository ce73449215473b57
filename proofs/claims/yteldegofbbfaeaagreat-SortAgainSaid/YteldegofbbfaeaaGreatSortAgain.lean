/-
  SortAgain: whatever place, tuples and Jz; no condition.
-/
import Derived.Test.YteldegofbbfaeaaGreatFourF
import Derived.Test.YteldegofbbfaeaaGreatRows
import Derived.WalkKit
import Derived.ProofKit
import Derived.OpenShut
import Derived.ShutString
import Derived.ChangeOld
import Derived.Below
namespace Go.Proofs.YteldegofbbfaeaaGreat.sortAgain
open Go.ChangeShapes Go.WideShapes Go.ChangeAt Go.RowKit
open Go.ChangeMaps (open_string shut_string)
set_option linter.unusedVariables false

theorem own : ownKnob Tryz.prog.godebug = none := by kernel_rfl
theorem laidOut : laidOutB Tryz.prog = true := by kernel_rfl


set_option maxHeartbeats 4000000 in
set_option maxRecDepth 100000 in
theorem walk (u0 u1 u2 u3 : Nat) (a1 : Option Addr) (len1 cap1 : Nat) (l1 : List AB) (a2 : Int) (w : World) (b0 : u0 ≤ 255) (b1 : u1 ≤ 255) (b2 : u2 ≤ 255) (b3 : u3 ≤ 255) (wr1 : BH w w.heap.size a1 len1 l1) (wm1 : len1 ≤ maxLen) (w2 : (Lit.int .u8 a2).wf = true) :
    Calls Tryz.prog 8 #[.agg #[.int .u8 u0, .int .u8 u1, .int .u8 u2, .int .u8 u3], .slice a1 len1 cap1, .int .u8 a2] w fun e w' => e = .returned (.bool true) ∧ Below w.heap.size w w' := by
  obtain ⟨v, rfl⟩ := Int.eq_ofNat_of_zero_le (show 0 ≤ a2 by have := bounds_u8 w2; omega)
  have bv : v ≤ 255 := by have := bounds_u8 w2; omega
  clear w2
  obtain ⟨⟨CM, GJ⟩, Zt⟩ := oC u0 u1 u2
  obtain ⟨sz, hsz⟩ : ∃ sz, sz = Kr u0 := ⟨_, rfl⟩
  obtain ⟨rm, JE⟩ : ∃ rm, rm = ZN u0 u1 u2 := ⟨_, rfl⟩
  obtain ⟨W1, B2⟩ : ∃ W1, W1 = w.alloc (.cells #[.int .u8 u0, .int .u8 u1, .int .u8 u2, .int .u8 u3] 23) := ⟨_, rfl⟩
  have Aj : Below w.heap.size w W1 := by rw [B2]; exact (Below.refl _ _).alloc (Nat.le_refl _) _
  have r1 : Row W1 w.heap.size 23 [.int .u8 u0, .int .u8 u1, .int .u8 u2, .int .u8 u3] := by rw [B2]; exact heap_alloc_new _ _
  have ER := Lib.hid B2
  have Kj := Lib.hid Aj
  have hwk := TL u0 u1 u2 u3 b2 W1
  rw [← hsz, ← JE] at hwk
  have HWK := Lib.hid hwk
  rw [← hsz] at CM GJ
  rw [← JE] at Zt
  have s5 : (5 : Int) * (sz : Int) = ((5 * sz : Nat) : Int) := by simp
  obtain ⟨z5, Zs⟩ : ∃ z5, z5 = 5 * sz := ⟨_, rfl⟩
  rw [← Zs] at s5
  have HZ5 := Lib.hid Zs
  have sW : Hid (∀ W, Below W1.heap.size W1 W → W.cell? ⟨w.heap.size, 0, none⟩ = some (.int .u8 u0) ∧ W.cell? ⟨w.heap.size, 1, none⟩ = some (.int .u8 u1) ∧ W.cell? ⟨w.heap.size, 2, none⟩ = some (.int .u8 u2) ∧ W.cell? ⟨w.heap.size, 3, none⟩ = some (.int .u8 u3)) := fun W hb => yQ (r1.below hb r1.lt)
  have HE : Hid (∀ W, Below W1.heap.size W1 W → Below w.heap.size w W) := fun W hb => Aj.trans (hb.mono Aj.size)
  have HL : Hid (∀ W, Below W1.heap.size W1 W → BH W W.heap.size a1 len1 l1) := fun W hb => by
    have h1 := Aj.trans (hb.mono Aj.size)
    exact (wr1.CL h1).mono h1.size
  have HLG : Hid (∀ G : Nat → Prop, (∀ k, G k → W1.heap.size ≤ k) → 0 < len1 → ∀ b off, a1 = some ⟨b, off, none⟩ → ¬ G b) := fun G hG h0 b off hA hg => by
    obtain ⟨b', Rr, uU, hlt, _⟩ := wr1.2.2 h0
    rw [uU] at hA
    injection hA with hA; injection hA with hA _
    have := hG b hg
    have := Aj.size
    omega
  have Ew : Hid (l1.length = len1) := wr1.1
  have HAW : Hid (∀ W, Calls Tryz.prog 11 #[] W fun e w' => e = .returned (.bool true) ∧ Below W.heap.size W w') := fun W => jI W
  have hm2 : len1 ≤ 9223372036854775807 := by unfold maxLen at wm1; omega
  have HM := Lib.hid wm1
  have s5n : rm < 5 * sz → rm < z5 ∧ decide (rm < z5) = true := fun h => ⟨by omega, by simp; omega⟩
  have s5p : ¬ rm < 5 * sz → ¬ rm < z5 ∧ decide (rm < z5) = false := fun h => ⟨by omega, by simp; omega⟩
  obtain ⟨p0, p1, p2, p3⟩ := sW.out W1 (Below.refl _ _)
  clear B2 Aj r1 hwk wr1 hsz JE wm1 Zs
  go_enter Tryz.func8, Tryz.ntmps8
  go_upto_region 1 with (fail)
  rw [← ER.out]
  clear ER
  go_wp2_with fail
  refine HWK.out.mono ?_
  rintro e w2 ⟨p, G, rfl, hs, hG, hb⟩
  have HS := Lib.hid hs
  have HG := Lib.hid hG
  have Cd := Lib.hid hb
  clear hs hG hb HWK p0 p1 p2 p3
  obtain ⟨p0, p1, p2, p3⟩ := sW.out w2 Cd.out
  have H3 : Hid (Wd (YE W1 p rm sz 4000 True 0) [] 0 w2) := ru HS.out HG.out Cd.out (by omega) (by omega)
  clear HS HG p0 p1 p2 p3 sW
  go_wp2_with fail
  refine (HAW.out _).mono ?_; rintro e w4 ⟨rfl, hb⟩
  have H4 := Lib.hid (H3.out.below hb)
  have Vv := Lib.hid (yO H4.out)
  clear hb H3 Cd
  by_cases h4 : len1 ≤ 300
  case neg =>
    have g5 : decide ((len1 : Int) > 300) = true := by simp; omega
    go_wp2_with fail
    refine (HAW.out _).mono ?_; rintro e w90 ⟨rfl, hb⟩
    have HB90 := Lib.hid (HE.out _ (Vv.out.trans (hb.mono Vv.out.size)))
    clear hb
    go_wp2
    go_ret
    exact ⟨rfl, HB90.out⟩
  case pos =>
  have g5 : decide ((len1 : Int) > 300) = false := by simp; omega
  have nM : Hid (Calls Tryz.prog 12 #[.slice a1 len1 cap1, .int .i64 3] w4 fun e w' => e = .returned (.bool (l1.all (Ac 3))) ∧ Below w4.heap.size w4 w') := pY a1 len1 cap1 l1 3 w4 (HL.out _ Vv.out) (by omega) HM.out
  by_cases L3 : l1.all (Ac 3) = true
  case neg =>
    have L3 : l1.all (Ac 3) = false := by simpa using L3
    rw [L3] at nM
    go_wp2_with fail
    refine nM.out.mono ?_; rintro e w5 ⟨rfl, hb⟩
    have BW := Lib.hid (Vv.out.trans (hb.mono Vv.out.size))
    clear hb
    go_wp2_with fail
    refine (HAW.out _).mono ?_; rintro e w90 ⟨rfl, hb⟩
    have HB90 := Lib.hid (HE.out _ (BW.out.trans (hb.mono BW.out.size)))
    clear hb
    go_wp2
    go_ret
    exact ⟨rfl, HB90.out⟩
  case pos =>
  rw [L3] at nM
  have Xu : Hid (∀ u ∈ l1, Ac 3 u = true) := fun u hu => List.all_eq_true.1 L3 u hu
  clear L3
  go_wp2_with fail
  refine nM.out.mono ?_; rintro e w5 ⟨rfl, hb⟩
  have H5 := Lib.hid (H4.out.below hb)
  have BW := Lib.hid (yO H5.out)
  clear hb nM H4 Vv
  have HA : Hid (Calls Tryz.prog 13 #[.pointer (some ⟨p.w, 0, none⟩)] w5 fun e w' => e = .returned (.pointer (some ⟨p.a, 0, none⟩)) ∧ w' = w5) := Ph H5.out
  have HR : Hid (Calls Tryz.prog 14 #[.pointer (some ⟨p.a, 0, none⟩)] w5 fun e w' => e = .returned (.int .i64 (rm : Int)) ∧ w' = w5) := tU H5.out
  go_wp2_with fail
  refine HA.out.mono ?_; rintro e w41 ⟨rfl, rfl⟩
  by_cases Z5 : rm < 5 * sz
  case pos =>
    obtain ⟨s5t, s5u⟩ := s5n Z5
    clear s5n s5p Z5
    go_wp2_with fail
    refine HR.out.mono ?_; rintro e w42 ⟨rfl, rfl⟩
    go_wp2_with fail
    refine (HAW.out _).mono ?_; rintro e w90 ⟨rfl, hb⟩
    have HB90 := Lib.hid (HE.out _ (BW.out.trans (hb.mono BW.out.size)))
    clear hb
    go_wp2
    go_ret
    exact ⟨rfl, HB90.out⟩
  case neg =>
  obtain ⟨s5t, s5u⟩ := s5p Z5
  have HRR : Hid (5 * sz ≤ rm) := by unfold Hid; omega
  clear s5n s5p Z5
  go_wp2_with fail
  refine HR.out.mono ?_; rintro e w42 ⟨rfl, rfl⟩
  clear HA HR
  have HNW : Hid (Wd (YE W1 p rm sz 4000 True 0) [AI w42.heap.size 26 [.int .i64 3, .int .i64 (-1), .int .i64 2, .int .i64 0, .int .i64 0]] (0) (w42.alloc (.cells #[.int .i64 3, .int .i64 (-1), .int .i64 2, .int .i64 0, .int .i64 0] 26))) := H5.out.new ((Below.refl _ _).alloc (Nat.le_refl _) _) (heap_alloc_new _ _) (Nat.le_refl _)
  have H6 : Hid (Wd (YE W1 p rm sz 4000 True 0) [AI w42.heap.size 26 [.int .i64 3, .int .i64 (-1), .int .i64 2, .int .i64 0, .int .i64 0], Pn (YE W1 p rm sz 4000 True 0) (.slice none 0 0) []] (0) (w42.alloc (.cells #[.int .i64 3, .int .i64 (-1), .int .i64 2, .int .i64 0, .int .i64 0] 26))) := HNW.out.vH
  obtain ⟨M, hM⟩ : ∃ M, M = RK l1 v := ⟨_, rfl⟩
  have HML : Hid (M.length = len1) := by unfold Hid; rw [hM, nw]; exact Ew.out
  have HMP : Hid (l1.Perm M) := by unfold Hid; rw [hM]; exact jr _ _
  have HMA : Hid (∀ i, i < len1 → M[i]? = l1[(i + v) % len1]?) := fun i hi => by
    have := pM l1 v (i := i) (by rw [Ew.out]; exact hi)
    rw [hM]; rw [Ew.out] at this; exact this
  clear hM HNW
  go_wp2_with fail
  go_loopw [10, 11] (fun mv iv wr => ∃ i : Nat, i ≤ len1 ∧ iv = .int .i64 (i : Int) ∧ Hid (Wd (YE W1 p rm sz 4000 True 0) [AI w42.heap.size 26 [.int .i64 3, .int .i64 (-1), .int .i64 2, .int .i64 0, .int .i64 0], Pn (YE W1 p rm sz 4000 True 0) mv (M.take i)] (0) wr)) (fun _ iv _ => len1 - (intOf iv).toNat)
  case atStart => exact ⟨0, Nat.zero_le _, rfl, H6.out⟩
  case round =>
  obtain ⟨i, hi, rfl, JO⟩ := hrel
  by_cases hlt : i < len1
  case pos =>
    have g0 : decide ((i : Int) < (len1 : Int)) = true := by simpa using hlt
    obtain ⟨x, hx⟩ : ∃ x, x = i + v := ⟨_, rfl⟩
    have ex : (i : Int) + (v : Int) = (x : Int) := by omega
    have Jt : x ≤ 600 := by omega
    obtain ⟨rr, hr⟩ : ∃ rr, rr = x % len1 := ⟨_, rfl⟩
    have hrl : rr < len1 := by rw [hr]; exact Nat.mod_lt _ (by omega)
    have tr : Int.tmod (x : Int) (len1 : Int) = (rr : Int) := by rw [hr]; rfl
    have mr : (x : Int) % (len1 : Int) = (rr : Int) := by rw [hr]; rfl
    have nz1 : ¬ ((len1 : Int) = 0) := by omega
    have nz2 : ((len1 : Int) == 0) = false := by simp; omega
    have nz3 : ¬ len1 = 0 := by omega
    have hMi := HMA.out i hlt
    rw [← hx, ← hr] at hMi
    have HMI := Lib.hid hMi
    obtain ⟨bb, off, tu, oX, IB, q0, q1, q2, q3, q4, _, htu⟩ := (HL.out _ (yO JO.out)).at_ hrl
    subst oX
    have CA : (0 : Int) ≤ (rr : Int) := by omega
    have XK : (rr : Int) < (len1 : Int) := by omega
    obtain ⟨ta, tb, tc, td, te⟩ := tu
    simp only at q0 q1 q2 q3 q4
    have Q9 : Hid (Below wr.heap.size wr (wr.alloc (.cells #[.int .i64 ta, .int .i64 tb, .int .i64 tc, .int .i64 td, .int .i64 te] 63))) := (Below.refl _ _).alloc (Nat.le_refl _) _
    have gh := Lib.hid (JO.out.below Q9.out)
    have hrw : Row (wr.alloc (.cells #[.int .i64 ta, .int .i64 tb, .int .i64 tc, .int .i64 td, .int .i64 te] 63)) wr.heap.size 63 (An ⟨ta, tb, tc, td, te⟩) := heap_alloc_new _ _
    have L8 := Lib.hid hrw
    have HTU : Hid (M[i]? = some ⟨ta, tb, tc, td, te⟩) := by unfold Hid; rw [HMI.out]; exact htu.out
    clear hrw hr hx hMi
    go_wp2_with (with_reducible refine BX 77 ?_)
    unfold Hid
    have iM : (wr.alloc (.cells #[.int .i64 ta, .int .i64 tb, .int .i64 tc, .int .i64 td, .int .i64 te] 63)).ownsRow W1.heap.size 63 5 u10 i (Bj (M.take i)) := by
      have h := gh.out.at_ (i := 1) rfl
      have h2 := h.1
      rw [Qa, List.length_take, HML.out, Nat.min_eq_left hi] at h2
      have h3 : (M.take i).length = i := by rw [List.length_take, HML.out, Nat.min_eq_left hi]
      have h' := h
      unfold Pn at h'
      simp only [h3] at h'
      exact h'
    refine Lk rfl _ _ rfl iM rfl ⟨wr.heap.size, 0, none⟩ rfl ⟨ta, tb, tc, td, te⟩ (fun j u hj => ?_) (by omega) ?_ ?_
    · rw [← hj]
      rw [Xm]
      exact L8.out.cell j
    · exact gh.out.size
    intro v' W BG KK Zv
    have zR : Hid (Wd (YE W1 p rm sz 4000 True 0) [AI w42.heap.size 26 [.int .i64 3, .int .i64 (-1), .int .i64 2, .int .i64 0, .int .i64 0], Pn (YE W1 p rm sz 4000 True 0) v' (M.take (i + 1))] (0) W) := by
      have QN : M.take (i + 1) = M.take i ++ [⟨ta, tb, tc, td, te⟩] := by rw [List.take_add_one, HTU.out]; rfl
      have h1 := Wd.pO (v' := v') (l' := M.take (i + 1)) gh.out (i := 1) rfl KK (by rw [QN, List.length_append, List.length_take, HML.out, Nat.min_eq_left hi]; exact BG) (fun b hb => by
        rcases Zv with h2 | h2
        · exact .inl (h2 ▸ hb)
        · rw [h2] at hb; injection hb with hb; exact .inr (by omega))
      exact h1
    clear iM BG KK Zv
    go_wp2
    go_roundw
    case rel => exact ⟨i + 1, by omega, by go_num, zR.out⟩
    case measure => simp [intOf]; omega
  case neg =>
  have hie : len1 = i := by omega
  subst hie
  have g0 : decide ((len1 : Int) < (len1 : Int)) = false := by simp
  have Bp : Wd (YE W1 p rm sz 4000 True 0) [AI w42.heap.size 26 [.int .i64 3, .int .i64 (-1), .int .i64 2, .int .i64 0, .int .i64 0], Pn (YE W1 p rm sz 4000 True 0) u10 M] (0) wr := by
    have h := JO.out
    rw [show M.take len1 = M by rw [← HML.out]; exact List.take_length] at h
    exact h
  obtain ⟨hh, O6⟩ : ∃ hh, hh = AE sz ((3 : Nat) : Int) := ⟨_, rfl⟩
  have Ee : 2 ≤ hh := by rw [O6]; exact AC1 (by omega)
  obtain ⟨nb, Hz⟩ : ∃ nb, nb = AA hh len1 := ⟨_, rfl⟩
  have nb150 : nb ≤ 150 := by rw [Hz]; exact yE hh Ee h4
  have u7 : Hid (∀ u ∈ M, CQ u ∧ Ac 3 u = true) := fun u hu => by
    have h1 := (HMP.out.mem_iff (a := u)).2 hu
    exact ⟨(HL.out _ BW.out).2.1 u h1, Xu.out u h1⟩
  obtain ⟨A3, c3, hmv, _, _⟩ := Bp.pN (i := 1) rfl (fun u hu => (u7.out u hu).1)
  rw [HML.out] at hmv
  subst hmv
  have HAT2 := Lib.hid Bp
  have si := Lib.hid Hz
  have HHH := Lib.hid O6
  have HSEQ : Hid (OJ false eE M = (OJ false eE l1)) := (kD HMP.out fun x hx y hy he => oh (Xu.out x hx) (Xu.out y hy) he).symm
  have HSAG : Hid (OJ false eE (OJ false eE l1) = (OJ false eE l1)) := gq eE l1
  have oz : Hid ((OJ false eE l1).length = len1) := by unfold Hid; rw [dc]; exact Ew.out
  clear Bp JO Hz O6 H6 H5
  have HFl1 : Hid (∀ u ∈ l1, CQ u ∧ Ac 3 u = true) := fun u hu => ⟨(HL.out _ BW.out).2.1 u hu, Xu.out u hu⟩
  have u7 := u7
  have Hwr : Hid (Wd (YE W1 p rm sz 4000 True 0) [AI w42.heap.size 26 [.int .i64 3, .int .i64 (-1), .int .i64 2, .int .i64 0, .int .i64 0], Pn (YE W1 p rm sz 4000 True 0) (.slice A3 len1 c3) M] (0) wr) := HAT2.out
  have HLY1 : Hid (Calls Tryz.prog 15 #[.pointer (some ⟨p.w, 0, none⟩), .int .i64 3, .slice a1 len1 cap1] wr fun e w' => ∃ F1 : Nat, e = .returned (.tuple #[.agg #[.int .i64 F1, .int .i64 nb, .int .i64 3, .int .i64 len1], .int .i64 0]) ∧ Jr F1 nb 3 hh l1 sz ∧ Wd (YE W1 p rm sz 4000 True 0) [AI w42.heap.size 26 [.int .i64 3, .int .i64 (-1), .int .i64 2, .int .i64 0, .int .i64 0], Pn (YE W1 p rm sz 4000 True 0) (.slice A3 len1 c3) M, Cb F1 nb 3 hh l1 sz] (0 + nb) w') := by
    have hl3 : l1.length = len1 := Ew.out
    refine (vG (k := 3) (n := len1) (l := l1) Hwr.out trivial (by omega) (fun z m' W' hw => HL.out _ (yO hw)) (by omega) (fun u hu => (HFl1.out u hu).2) (by show sz + 0 ≤ rm; have := HRR.out; omega) (by show 0 + (0) + l1.length + 1 ≤ 1000000; omega) (dy (X := (YE W1 p rm sz 4000 True 0)) rfl (q := nb) [] (fun e he => by simp at he; try subst he; try exact Nat.le_refl _) rfl (fun a ha => by simp at ha; rcases ha with rfl | rfl <;> first | exact .inl rfl | exact .inr (by simp [Cb])) (by
      show 0 * (AA (AE sz ((3 : Nat) : Int)) l1.length + nb) + AA (AE sz ((3 : Nat) : Int)) l1.length ≤ 4000
      rw [hl3, ← HHH.out, ← si.out]; omega))).mono ?_
    rintro e w' ⟨F, nb', he, hf, hw⟩
    have hf : Jr F nb' 3 (AE sz ((3 : Nat) : Int)) l1 sz := hf
    rw [← HHH.out] at hf
    have e : nb = nb' := by have := hf.bn; rw [hl3, ← si.out] at this; exact this.symm
    have hw : Wd (YE W1 p rm sz 4000 True 0) ([AI w42.heap.size 26 [.int .i64 3, .int .i64 (-1), .int .i64 2, .int .i64 0, .int .i64 0], Pn (YE W1 p rm sz 4000 True 0) (.slice A3 len1 c3) M] ++ [Cb F nb' 3 (AE sz ((3 : Nat) : Int)) l1 sz]) (0 + nb') w' := hw
    rw [← e] at he hf hw
    refine ⟨F, he, hf, ?_⟩
    rw [← HHH.out] at hw
    exact hw
  go_wp2_with fail
  refine HLY1.out.mono ?_
  rintro e w50 ⟨F1, rfl, IZ, h50⟩
  have OH := Lib.hid IZ
  obtain ⟨w51, hw51⟩ : ∃ w51, w51 = w50.alloc (.cells #[.int .i64 F1, .int .i64 nb, .int .i64 3, .int .i64 len1] 39) := ⟨_, rfl⟩
  have Hw51 : Hid (Wd (YE W1 p rm sz 4000 True 0) [AI w42.heap.size 26 [.int .i64 3, .int .i64 (-1), .int .i64 2, .int .i64 0, .int .i64 0], Pn (YE W1 p rm sz 4000 True 0) (.slice A3 len1 c3) M, Cb F1 nb 3 hh l1 sz, AI w50.heap.size 39 [.int .i64 F1, .int .i64 nb, .int .i64 3, .int .i64 len1]] (0 + nb) w51) := by rw [hw51]; exact h50.new ((Below.refl _ _).alloc (Nat.le_refl _) _) (heap_alloc_new _ _) (Nat.le_refl _)
  have HEw51 := Lib.hid hw51
  clear hw51 h50 IZ HLY1 Hwr HAT2
  have HLY2 : Hid (Calls Tryz.prog 15 #[.pointer (some ⟨p.w, 0, none⟩), .int .i64 3, .slice A3 len1 c3] w51 fun e w' => ∃ F2 : Nat, e = .returned (.tuple #[.agg #[.int .i64 F2, .int .i64 nb, .int .i64 3, .int .i64 len1], .int .i64 0]) ∧ Jr F2 nb 3 hh M sz ∧ Wd (YE W1 p rm sz 4000 True 0) [AI w42.heap.size 26 [.int .i64 3, .int .i64 (-1), .int .i64 2, .int .i64 0, .int .i64 0], Pn (YE W1 p rm sz 4000 True 0) (.slice A3 len1 c3) M, Cb F1 nb 3 hh l1 sz, AI w50.heap.size 39 [.int .i64 F1, .int .i64 nb, .int .i64 3, .int .i64 len1], Cb F2 nb 3 hh M sz] (0 + nb + nb) w') := by
    have hl3 : M.length = len1 := HML.out
    refine (vG (k := 3) (n := len1) (l := M) Hw51.out trivial (by omega) (fun z m' W' hw => by
      obtain ⟨A', c', e1, e2, _⟩ := Wd.pN (i := 1) hw rfl (fun u hu => (u7.out u hu).1)
      rw [HML.out] at e1 e2
      injection e1 with e1 _ _
      subst e1; exact e2) (by omega) (fun u hu => (u7.out u hu).2) (by show sz + 0 ≤ rm; have := HRR.out; omega) (by show 0 + (0 + nb) + M.length + 1 ≤ 1000000; omega) (dy (X := (YE W1 p rm sz 4000 True 0)) rfl (q := nb) [(F1, nb)] (fun e he => by simp at he; try subst he; try exact Nat.le_refl _) rfl (fun a ha => by simp at ha; rcases ha with rfl | rfl | rfl | rfl <;> first | exact .inl rfl | exact .inr (by simp [Cb])) (by
      show 1 * (AA (AE sz ((3 : Nat) : Int)) M.length + nb) + AA (AE sz ((3 : Nat) : Int)) M.length ≤ 4000
      rw [hl3, ← HHH.out, ← si.out]; omega))).mono ?_
    rintro e w' ⟨F, nb', he, hf, hw⟩
    have hf : Jr F nb' 3 (AE sz ((3 : Nat) : Int)) M sz := hf
    rw [← HHH.out] at hf
    have e : nb = nb' := by have := hf.bn; rw [hl3, ← si.out] at this; exact this.symm
    have hw : Wd (YE W1 p rm sz 4000 True 0) ([AI w42.heap.size 26 [.int .i64 3, .int .i64 (-1), .int .i64 2, .int .i64 0, .int .i64 0], Pn (YE W1 p rm sz 4000 True 0) (.slice A3 len1 c3) M, Cb F1 nb 3 hh l1 sz, AI w50.heap.size 39 [.int .i64 F1, .int .i64 nb, .int .i64 3, .int .i64 len1]] ++ [Cb F nb' 3 (AE sz ((3 : Nat) : Int)) M sz]) (0 + nb + nb') w' := hw
    rw [← e] at he hf hw
    refine ⟨F, he, hf, ?_⟩
    rw [← HHH.out] at hw
    exact hw
  go_wp2_with fail
  rw [← HEw51.out]
  refine HLY2.out.mono ?_
  rintro e w52 ⟨F2, rfl, DZ, h52⟩
  have Q8 := Lib.hid DZ
  obtain ⟨w53, hw53⟩ : ∃ w53, w53 = w52.alloc (.cells #[.int .i64 F2, .int .i64 nb, .int .i64 3, .int .i64 len1] 39) := ⟨_, rfl⟩
  have Hw53 : Hid (Wd (YE W1 p rm sz 4000 True 0) [AI w42.heap.size 26 [.int .i64 3, .int .i64 (-1), .int .i64 2, .int .i64 0, .int .i64 0], Pn (YE W1 p rm sz 4000 True 0) (.slice A3 len1 c3) M, Cb F1 nb 3 hh l1 sz, AI w50.heap.size 39 [.int .i64 F1, .int .i64 nb, .int .i64 3, .int .i64 len1], Cb F2 nb 3 hh M sz, AI w52.heap.size 39 [.int .i64 F2, .int .i64 nb, .int .i64 3, .int .i64 len1]] (0 + nb + nb) w53) := by rw [hw53]; exact h52.new ((Below.refl _ _).alloc (Nat.le_refl _) _) (heap_alloc_new _ _) (Nat.le_refl _)
  have HEw53 := Lib.hid hw53
  clear h52 DZ HLY2 Hw51 HEw51
  obtain ⟨o0, o1, o2, o3, o4⟩ := yP (Hw53.out.row (i := 0) rfl)
  obtain ⟨f0, f1, f2, f3⟩ := yQ (Hw53.out.row (i := 3) rfl)
  rw [hw53] at o0 o1 o2 o3 o4 f0 f1 f2 f3
  clear hw53
  have HSO3 : Hid (Calls Tryz.prog 20 #[.pointer (some ⟨p.w, 0, none⟩), .agg #[.int .i64 F1, .int .i64 nb, .int .i64 3, .int .i64 len1], .agg #[.int .i64 3, .int .i64 (-1), .int .i64 2, .int .i64 0, .int .i64 0], .bool false] w53 fun e w' => ∃ F3 m' : Nat, e = .returned (.tuple #[.agg #[.int .i64 F3, .int .i64 nb, .int .i64 3, .int .i64 len1], .int .i64 0]) ∧ Jr F3 nb 3 hh (OJ false eE l1) sz ∧ m' ≤ 0 + nb + nb + 5000 ∧ Wd (YE W1 p rm sz 4000 True 0) [AI w42.heap.size 26 [.int .i64 3, .int .i64 (-1), .int .i64 2, .int .i64 0, .int .i64 0], Pn (YE W1 p rm sz 4000 True 0) (.slice A3 len1 c3) M, Bl, AI w50.heap.size 39 [.int .i64 F1, .int .i64 nb, .int .i64 3, .int .i64 len1], Cb F2 nb 3 hh M sz, AI w52.heap.size 39 [.int .i64 F2, .int .i64 nb, .int .i64 3, .int .i64 len1], Cb F3 nb 3 hh (OJ false eE l1) sz] (m') w') := by
    have h := kC (n := len1) (q := l1) Hw53.out (i := 2) rfl OH.out Ew.out si.out (by show 5 * sz + 0 ≤ rm; have := HRR.out; omega) (by omega) nb150 h4 (by omega) [(F1, nb), (F2, nb)] (fun e he => by simp at he; rcases he with rfl | rfl <;> exact Nat.le_refl _) (by simp) (fun a ha => by simp at ha; rcases ha with rfl | rfl | rfl | rfl | rfl | rfl <;> first | exact .inl rfl | exact .inr (by simp [Cb]))
    exact h
  go_wp2_with fail
  rw [← HEw53.out]
  refine HSO3.out.mono ?_
  clear o0 o1 o2 o3 o4 f0 f1 f2 f3
  rintro e w54 ⟨F3, m3, rfl, KL, uG, h54⟩
  have HF3 := Lib.hid KL
  obtain ⟨w55, hw55⟩ : ∃ w55, w55 = w54.alloc (.cells #[.int .i64 F3, .int .i64 nb, .int .i64 3, .int .i64 len1] 39) := ⟨_, rfl⟩
  have Hw55 : Hid (Wd (YE W1 p rm sz 4000 True 0) [AI w42.heap.size 26 [.int .i64 3, .int .i64 (-1), .int .i64 2, .int .i64 0, .int .i64 0], Pn (YE W1 p rm sz 4000 True 0) (.slice A3 len1 c3) M, Bl, AI w50.heap.size 39 [.int .i64 F1, .int .i64 nb, .int .i64 3, .int .i64 len1], Cb F2 nb 3 hh M sz, AI w52.heap.size 39 [.int .i64 F2, .int .i64 nb, .int .i64 3, .int .i64 len1], Cb F3 nb 3 hh (OJ false eE l1) sz, AI w54.heap.size 39 [.int .i64 F3, .int .i64 nb, .int .i64 3, .int .i64 len1]] (m3) w55) := by rw [hw55]; exact h54.new ((Below.refl _ _).alloc (Nat.le_refl _) _) (heap_alloc_new _ _) (Nat.le_refl _)
  have HEw55 := Lib.hid hw55
  obtain ⟨f0, f1, f2, f3⟩ := yQ (Hw55.out.row (i := 7) rfl)
  rw [hw55] at f0 f1 f2 f3
  clear hw55 h54 KL HSO3 Hw53 HEw53
  have HLI3 : Hid (Calls Tryz.prog 22 #[.pointer (some ⟨p.w, 0, none⟩), .agg #[.int .i64 F3, .int .i64 nb, .int .i64 3, .int .i64 len1]] w55 fun e w' => ∃ (A5 : Option Addr) (c5 : Nat), e = .returned (.tuple #[.slice A5 len1 c5, .int .i64 0]) ∧ Wd (YE W1 p rm sz 4000 True 0) [AI w42.heap.size 26 [.int .i64 3, .int .i64 (-1), .int .i64 2, .int .i64 0, .int .i64 0], Pn (YE W1 p rm sz 4000 True 0) (.slice A3 len1 c3) M, Bl, AI w50.heap.size 39 [.int .i64 F1, .int .i64 nb, .int .i64 3, .int .i64 len1], Cb F2 nb 3 hh M sz, AI w52.heap.size 39 [.int .i64 F2, .int .i64 nb, .int .i64 3, .int .i64 len1], Cb F3 nb 3 hh (OJ false eE l1) sz, AI w54.heap.size 39 [.int .i64 F3, .int .i64 nb, .int .i64 3, .int .i64 len1], Pn (YE W1 p rm sz 4000 True 0) (.slice A5 len1 c5) (OJ false eE l1)] (m3 + nb) w') :=
    kU (n := len1) Hw55.out (i := 6) rfl HF3.out oz.out (by show sz + 0 ≤ rm; have := HRR.out; omega) nb150 (by omega)
  go_wp2_with fail
  rw [← HEw55.out]
  refine HLI3.out.mono ?_
  clear f0 f1 f2 f3
  rintro e w56 ⟨A5, c5, rfl, h56⟩
  have Hw56 := Lib.hid h56
  clear h56 HLI3 Hw55 HEw55
  obtain ⟨o0, o1, o2, o3, o4⟩ := yP (Hw56.out.row (i := 0) rfl)
  obtain ⟨f0, f1, f2, f3⟩ := yQ (Hw56.out.row (i := 5) rfl)
  have HSO4 : Hid (Calls Tryz.prog 20 #[.pointer (some ⟨p.w, 0, none⟩), .agg #[.int .i64 F2, .int .i64 nb, .int .i64 3, .int .i64 len1], .agg #[.int .i64 3, .int .i64 (-1), .int .i64 2, .int .i64 0, .int .i64 0], .bool false] w56 fun e w' => ∃ F4 m' : Nat, e = .returned (.tuple #[.agg #[.int .i64 F4, .int .i64 nb, .int .i64 3, .int .i64 len1], .int .i64 0]) ∧ Jr F4 nb 3 hh (OJ false eE l1) sz ∧ m' ≤ m3 + nb + 5000 ∧ Wd (YE W1 p rm sz 4000 True 0) [AI w42.heap.size 26 [.int .i64 3, .int .i64 (-1), .int .i64 2, .int .i64 0, .int .i64 0], Pn (YE W1 p rm sz 4000 True 0) (.slice A3 len1 c3) M, Bl, AI w50.heap.size 39 [.int .i64 F1, .int .i64 nb, .int .i64 3, .int .i64 len1], Bl, AI w52.heap.size 39 [.int .i64 F2, .int .i64 nb, .int .i64 3, .int .i64 len1], Cb F3 nb 3 hh (OJ false eE l1) sz, AI w54.heap.size 39 [.int .i64 F3, .int .i64 nb, .int .i64 3, .int .i64 len1], Pn (YE W1 p rm sz 4000 True 0) (.slice A5 len1 c5) (OJ false eE l1), Cb F4 nb 3 hh (OJ false eE l1) sz] (m') w') := by
    have h := kC (n := len1) (q := M) Hw56.out (i := 4) rfl Q8.out HML.out si.out (by show 5 * sz + 0 ≤ rm; have := HRR.out; omega) (by omega) nb150 h4 (by omega) [(F2, nb), (F3, nb)] (fun e he => by simp at he; rcases he with rfl | rfl <;> exact Nat.le_refl _) (by simp) (fun a ha => by simp at ha; rcases ha with rfl | rfl | rfl | rfl | rfl | rfl | rfl | rfl | rfl <;> first | exact .inl rfl | exact .inr (by simp [Cb]))
    rw [HSEQ.out] at h
    exact h
  go_wp2_with fail
  refine HSO4.out.mono ?_
  clear o0 o1 o2 o3 o4 f0 f1 f2 f3
  rintro e w57 ⟨F4, m4, rfl, L0, hm4, h57⟩
  have zM := Lib.hid L0
  obtain ⟨w58, hw58⟩ : ∃ w58, w58 = w57.alloc (.cells #[.int .i64 F4, .int .i64 nb, .int .i64 3, .int .i64 len1] 39) := ⟨_, rfl⟩
  have Hw58 : Hid (Wd (YE W1 p rm sz 4000 True 0) [AI w42.heap.size 26 [.int .i64 3, .int .i64 (-1), .int .i64 2, .int .i64 0, .int .i64 0], Pn (YE W1 p rm sz 4000 True 0) (.slice A3 len1 c3) M, Bl, AI w50.heap.size 39 [.int .i64 F1, .int .i64 nb, .int .i64 3, .int .i64 len1], Bl, AI w52.heap.size 39 [.int .i64 F2, .int .i64 nb, .int .i64 3, .int .i64 len1], Cb F3 nb 3 hh (OJ false eE l1) sz, AI w54.heap.size 39 [.int .i64 F3, .int .i64 nb, .int .i64 3, .int .i64 len1], Pn (YE W1 p rm sz 4000 True 0) (.slice A5 len1 c5) (OJ false eE l1), Cb F4 nb 3 hh (OJ false eE l1) sz, AI w57.heap.size 39 [.int .i64 F4, .int .i64 nb, .int .i64 3, .int .i64 len1]] (m4) w58) := by rw [hw58]; exact h57.new ((Below.refl _ _).alloc (Nat.le_refl _) _) (heap_alloc_new _ _) (Nat.le_refl _)
  have HEw58 := Lib.hid hw58
  obtain ⟨f0, f1, f2, f3⟩ := yQ (Hw58.out.row (i := 10) rfl)
  rw [hw58] at f0 f1 f2 f3
  clear hw58 h57 L0 HSO4 Hw56
  have HLI4 : Hid (Calls Tryz.prog 22 #[.pointer (some ⟨p.w, 0, none⟩), .agg #[.int .i64 F4, .int .i64 nb, .int .i64 3, .int .i64 len1]] w58 fun e w' => ∃ (A6 : Option Addr) (c6 : Nat), e = .returned (.tuple #[.slice A6 len1 c6, .int .i64 0]) ∧ Wd (YE W1 p rm sz 4000 True 0) [AI w42.heap.size 26 [.int .i64 3, .int .i64 (-1), .int .i64 2, .int .i64 0, .int .i64 0], Pn (YE W1 p rm sz 4000 True 0) (.slice A3 len1 c3) M, Bl, AI w50.heap.size 39 [.int .i64 F1, .int .i64 nb, .int .i64 3, .int .i64 len1], Bl, AI w52.heap.size 39 [.int .i64 F2, .int .i64 nb, .int .i64 3, .int .i64 len1], Cb F3 nb 3 hh (OJ false eE l1) sz, AI w54.heap.size 39 [.int .i64 F3, .int .i64 nb, .int .i64 3, .int .i64 len1], Pn (YE W1 p rm sz 4000 True 0) (.slice A5 len1 c5) (OJ false eE l1), Cb F4 nb 3 hh (OJ false eE l1) sz, AI w57.heap.size 39 [.int .i64 F4, .int .i64 nb, .int .i64 3, .int .i64 len1], Pn (YE W1 p rm sz 4000 True 0) (.slice A6 len1 c6) (OJ false eE l1)] (m4 + nb) w') :=
    kU (n := len1) Hw58.out (i := 9) rfl zM.out oz.out (by show sz + 0 ≤ rm; have := HRR.out; omega) nb150 (by omega)
  go_wp2_with fail
  rw [← HEw58.out]
  refine HLI4.out.mono ?_
  clear f0 f1 f2 f3
  rintro e w59 ⟨A6, c6, rfl, h59⟩
  have Hw59 := Lib.hid h59
  clear h59 HLI4 Hw58 HEw58
  obtain ⟨o0, o1, o2, o3, o4⟩ := yP (Hw59.out.row (i := 0) rfl)
  obtain ⟨f0, f1, f2, f3⟩ := yQ (Hw59.out.row (i := 7) rfl)
  have HSO5 : Hid (Calls Tryz.prog 20 #[.pointer (some ⟨p.w, 0, none⟩), .agg #[.int .i64 F3, .int .i64 nb, .int .i64 3, .int .i64 len1], .agg #[.int .i64 3, .int .i64 (-1), .int .i64 2, .int .i64 0, .int .i64 0], .bool false] w59 fun e w' => ∃ F5 m' : Nat, e = .returned (.tuple #[.agg #[.int .i64 F5, .int .i64 nb, .int .i64 3, .int .i64 len1], .int .i64 0]) ∧ Jr F5 nb 3 hh (OJ false eE l1) sz ∧ m' ≤ m4 + nb + 5000 ∧ Wd (YE W1 p rm sz 4000 True 0) [AI w42.heap.size 26 [.int .i64 3, .int .i64 (-1), .int .i64 2, .int .i64 0, .int .i64 0], Pn (YE W1 p rm sz 4000 True 0) (.slice A3 len1 c3) M, Bl, AI w50.heap.size 39 [.int .i64 F1, .int .i64 nb, .int .i64 3, .int .i64 len1], Bl, AI w52.heap.size 39 [.int .i64 F2, .int .i64 nb, .int .i64 3, .int .i64 len1], Bl, AI w54.heap.size 39 [.int .i64 F3, .int .i64 nb, .int .i64 3, .int .i64 len1], Pn (YE W1 p rm sz 4000 True 0) (.slice A5 len1 c5) (OJ false eE l1), Cb F4 nb 3 hh (OJ false eE l1) sz, AI w57.heap.size 39 [.int .i64 F4, .int .i64 nb, .int .i64 3, .int .i64 len1], Pn (YE W1 p rm sz 4000 True 0) (.slice A6 len1 c6) (OJ false eE l1), Cb F5 nb 3 hh (OJ false eE l1) sz] (m') w') := by
    have h := kC (n := len1) (q := (OJ false eE l1)) Hw59.out (i := 6) rfl HF3.out oz.out si.out (by show 5 * sz + 0 ≤ rm; have := HRR.out; omega) (by omega) nb150 h4 (by omega) [(F3, nb), (F4, nb)] (fun e he => by simp at he; rcases he with rfl | rfl <;> exact Nat.le_refl _) (by simp) (fun a ha => by simp at ha; rcases ha with rfl | rfl | rfl | rfl | rfl | rfl | rfl | rfl | rfl | rfl | rfl | rfl <;> first | exact .inl rfl | exact .inr (by simp [Cb]))
    rw [HSAG.out] at h
    exact h
  go_wp2_with fail
  refine HSO5.out.mono ?_
  clear o0 o1 o2 o3 o4 f0 f1 f2 f3
  rintro e w60 ⟨F5, m5, rfl, hf5, xB, h60⟩
  have nZ := Lib.hid hf5
  obtain ⟨w61, hw61⟩ : ∃ w61, w61 = w60.alloc (.cells #[.int .i64 F5, .int .i64 nb, .int .i64 3, .int .i64 len1] 39) := ⟨_, rfl⟩
  have Hw61 : Hid (Wd (YE W1 p rm sz 4000 True 0) [AI w42.heap.size 26 [.int .i64 3, .int .i64 (-1), .int .i64 2, .int .i64 0, .int .i64 0], Pn (YE W1 p rm sz 4000 True 0) (.slice A3 len1 c3) M, Bl, AI w50.heap.size 39 [.int .i64 F1, .int .i64 nb, .int .i64 3, .int .i64 len1], Bl, AI w52.heap.size 39 [.int .i64 F2, .int .i64 nb, .int .i64 3, .int .i64 len1], Bl, AI w54.heap.size 39 [.int .i64 F3, .int .i64 nb, .int .i64 3, .int .i64 len1], Pn (YE W1 p rm sz 4000 True 0) (.slice A5 len1 c5) (OJ false eE l1), Cb F4 nb 3 hh (OJ false eE l1) sz, AI w57.heap.size 39 [.int .i64 F4, .int .i64 nb, .int .i64 3, .int .i64 len1], Pn (YE W1 p rm sz 4000 True 0) (.slice A6 len1 c6) (OJ false eE l1), Cb F5 nb 3 hh (OJ false eE l1) sz, AI w60.heap.size 39 [.int .i64 F5, .int .i64 nb, .int .i64 3, .int .i64 len1]] (m5) w61) := by rw [hw61]; exact h60.new ((Below.refl _ _).alloc (Nat.le_refl _) _) (heap_alloc_new _ _) (Nat.le_refl _)
  have HEw61 := Lib.hid hw61
  obtain ⟨f0, f1, f2, f3⟩ := yQ (Hw61.out.row (i := 13) rfl)
  rw [hw61] at f0 f1 f2 f3
  clear hw61 h60 hf5 HSO5 Hw59
  have HLI5 : Hid (Calls Tryz.prog 22 #[.pointer (some ⟨p.w, 0, none⟩), .agg #[.int .i64 F5, .int .i64 nb, .int .i64 3, .int .i64 len1]] w61 fun e w' => ∃ (A7 : Option Addr) (c7 : Nat), e = .returned (.tuple #[.slice A7 len1 c7, .int .i64 0]) ∧ Wd (YE W1 p rm sz 4000 True 0) [AI w42.heap.size 26 [.int .i64 3, .int .i64 (-1), .int .i64 2, .int .i64 0, .int .i64 0], Pn (YE W1 p rm sz 4000 True 0) (.slice A3 len1 c3) M, Bl, AI w50.heap.size 39 [.int .i64 F1, .int .i64 nb, .int .i64 3, .int .i64 len1], Bl, AI w52.heap.size 39 [.int .i64 F2, .int .i64 nb, .int .i64 3, .int .i64 len1], Bl, AI w54.heap.size 39 [.int .i64 F3, .int .i64 nb, .int .i64 3, .int .i64 len1], Pn (YE W1 p rm sz 4000 True 0) (.slice A5 len1 c5) (OJ false eE l1), Cb F4 nb 3 hh (OJ false eE l1) sz, AI w57.heap.size 39 [.int .i64 F4, .int .i64 nb, .int .i64 3, .int .i64 len1], Pn (YE W1 p rm sz 4000 True 0) (.slice A6 len1 c6) (OJ false eE l1), Cb F5 nb 3 hh (OJ false eE l1) sz, AI w60.heap.size 39 [.int .i64 F5, .int .i64 nb, .int .i64 3, .int .i64 len1], Pn (YE W1 p rm sz 4000 True 0) (.slice A7 len1 c7) (OJ false eE l1)] (m5 + nb) w') :=
    kU (n := len1) Hw61.out (i := 12) rfl nZ.out oz.out (by show sz + 0 ≤ rm; have := HRR.out; omega) nb150 (by omega)
  go_wp2_with fail
  rw [← HEw61.out]
  refine HLI5.out.mono ?_
  clear f0 f1 f2 f3
  rintro e w62 ⟨A7, c7, rfl, h62⟩
  have FY : Hid (∀ u ∈ (OJ false eE l1), CQ u) := fun u hu => (HF3.out.fit u hu).1
  obtain ⟨o0, o1, o2, o3, o4⟩ := yP (h62.row (i := 0) rfl)
  have Nu : Hid (∀ W, Below w62.heap.size w62 W → BH W W.heap.size A5 len1 (OJ false eE l1) ∧ BH W W.heap.size A6 len1 (OJ false eE l1) ∧ BH W W.heap.size A7 len1 (OJ false eE l1)) := fun W hb => by
    have h := h62.below hb
    obtain ⟨x1, y1, e1, r1, _⟩ := h.pN (i := 8) rfl FY.out
    obtain ⟨x2, y2, e2, r2, _⟩ := h.pN (i := 11) rfl FY.out
    obtain ⟨x3, y3, e3, r3, _⟩ := h.pN (i := 14) rfl FY.out
    rw [oz.out] at e1 e2 e3 r1 r2 r3
    injection e1 with e1 _ _
    injection e2 with e2 _ _
    injection e3 with e3 _ _
    subst e1; subst e2; subst e3
    exact ⟨r1, r2, r3⟩
  have HSR : Hid (Calls Tryz.prog 23 #[.slice A5 len1 c5, .agg #[.int .i64 3, .int .i64 (-1), .int .i64 2, .int .i64 0, .int .i64 0]] w62 fun e w' => e = .returned (.bool true) ∧ Below w62.heap.size w62 w') := by
    have := j4 (c := c5) eE (Nu.out _ (Below.refl _ _)).1 (by omega)
    rw [decide_eq_true (show YF eE (OJ false eE l1) from GZ _ _ _ (ME _))] at this
    exact this
  have HSA : Hid (∀ W, Below w62.heap.size w62 W → Calls Tryz.prog 24 #[.slice A5 len1 c5, .slice A6 len1 c6] W fun e w' => e = .returned (.bool true) ∧ Below w62.heap.size w62 w') := fun W hb => by
    refine (oA A5 A6 len1 len1 c5 c6 _ _ W (Nu.out _ hb).1 (Nu.out _ hb).2.1 HM.out HM.out).mono ?_
    rintro e w' ⟨he, q', rfl⟩
    exact ⟨by rw [he, decide_eq_true rfl], AG hb q'⟩
  have HSB : Hid (∀ W, Below w62.heap.size w62 W → Calls Tryz.prog 24 #[.slice A5 len1 c5, .slice A7 len1 c7] W fun e w' => e = .returned (.bool true) ∧ Below w62.heap.size w62 w') := fun W hb => by
    refine (oA A5 A7 len1 len1 c5 c7 _ _ W (Nu.out _ hb).1 (Nu.out _ hb).2.2 HM.out HM.out).mono ?_
    rintro e w' ⟨he, q', rfl⟩
    exact ⟨by rw [he, decide_eq_true rfl], AG hb q'⟩
  have HB62 := Lib.hid (yO h62)
  clear h62 HLI5 Hw61 HEw61 Nu
  go_wp2_with fail
  refine HSR.out.mono ?_; rintro e w63 ⟨rfl, hb63⟩
  go_wp2_with fail
  refine (HSA.out _ hb63).mono ?_; rintro e w64 ⟨rfl, hb64⟩
  go_wp2_with fail
  refine (HSB.out _ hb64).mono ?_; rintro e w65 ⟨rfl, hb65⟩
  have HEE := Lib.hid (HE.out _ (HB62.out.trans (hb65.mono HB62.out.size)))
  clear hb63 hb64 hb65 o0 o1 o2 o3 o4
  go_wp2
  go_ret
  exact ⟨rfl, HEE.out⟩

set_option maxRecDepth 100000 in
theorem lifted (os : Os) (started : os.Started) (H : Type) (enc : TypeId × Value → H) :
    ReturnsInHanded {} Tryz.checked os 8 .any (Rows.sortAgainSpec.pre6 enc Tryz.prog Tryz.f8 Rows.sortAgainRow.domain false) (Rows.sortAgainSpec.post enc Tryz.prog Tryz.f8 false true false false) := by
  refine returnsInHanded_of_change (C := Tryz.checked) own started (by kernel_rfl) Tryz.func8
    (ChangeSpec.witness6 (enc := enc) (C := Tryz.checked) false ⟨#[], #[.agg #[.int .u8 0, .int .u8 0, .int .u8 0, .int .u8 0], .slice none 0 0, .int .u8 0], []⟩ 8 (by kernel_rfl) (by kernel_rfl) (by kernel_rfl) (by kernel_rfl)) ?_
  intro W base args ds gs before hval0 hW hcnd _
  have hval : ∀ (j : Nat) t v, Tryz.f8.params[j]? = some t → args[j]? = some v → Value.okWide Tryz.prog W .any base t v := hval0
  have hW' := hW
  obtain ⟨p, q, hA0, hV, rfl, hfz, oM⟩ := hW
  have hA : DataW.TrodAll enc Tryz.prog W 0 (fun _ => true) true Tryz.f8.params.toList args.toList ds p := hA0
  rw [Tryz.params8] at hA hval
  obtain ⟨v0, vs0, d0, ds0, p0, q0, hargs, rfl, rfl, h0, r0⟩ := trodAll_cons hA
  obtain ⟨v1, vs1, d1, ds1, p1, q1, rfl, rfl, rfl, h1, r1⟩ := trodAll_cons r0
  obtain ⟨v2, vs2, d2, ds2, p2, q2, rfl, rfl, rfl, h2, r2⟩ := trodAll_cons r1
  obtain ⟨rfl, rfl, rfl⟩ := trodAll_nil r2
  obtain rfl : args = #[v0, v1, v2] := by cases args; simp_all
  obtain ⟨rfl, rfl⟩ := trodVars_none hV
  have k0 := h0
  have lt0 : ∀ x ∈ p0, x.block < W.heap.size := by obtain ⟨m, hm⟩ := k0; exact DataW.trod_lt m _ _ _ hm
  have k1 := h1
  have vY : ∀ x ∈ p1, x.block < W.heap.size := by obtain ⟨m, hm⟩ := k1; exact DataW.trod_lt m _ _ _ hm
  have k2 := h2
  have vX : ∀ x ∈ p2, x.block < W.heap.size := by obtain ⟨m, hm⟩ := k2; exact DataW.trod_lt m _ _ _ hm
  obtain ⟨u0, u1, u2, u3, rfl, b0, b1, b2, b3⟩ := kQ Tryz.underlying23 (by kernel_rfl) (by kernel_rfl) Tryz.underlying5 rfl rfl rfl rfl (hval 0 23 v0 rfl rfl) h0
  obtain ⟨a1, len1, cap1, rfl⟩ := okWide_slice Tryz.underlying24 (hval 1 24 v1 rfl rfl)
  obtain ⟨l1, wr1, wm1⟩ : ∃ l, BH W W.heap.size a1 len1 l ∧ len1 ≤ maxLen := by
    obtain ⟨fuel, hf⟩ := h1
    obtain ⟨a', len', OU, l', lp, hr', hm'⟩ := oD Tryz.underlying24 Tryz.underlying63 Tryz.underlying2 (by kernel_rfl) (by kernel_rfl) hf
    injection lp with e1 e2 e3
    subst e1; subst e2
    exact ⟨l', hr', hm'⟩
  obtain ⟨a2, rfl, rfl, rfl, w2⟩ := open_int Tryz.underlying5 (hval 2 5 v2 rfl rfl) h2
  clear hA0 hval0
  refine (walk u0 u1 u2 u3 a1 len1 cap1 l1 a2 W b0 b1 b2 b3 wr1 wm1 w2).mono fun e W' ⟨he, Lg⟩ => ?_
  subst he
  exact ⟨_, rfl, _, _, _, [], _, [], hW', trodAll_mk1 (shut_bool Tryz.underlying4 _), (trodAll_cons_mk (Below.trod laidOut (by kernel_rfl) (of_decide_eq_true (by kernel_rfl)) k0 Lg lt0) (trodAll_cons_mk (Below.trod laidOut (by kernel_rfl) (of_decide_eq_true (by kernel_rfl)) k1 Lg vY) (trodAll_cons_mk (Below.trod laidOut (by kernel_rfl) (of_decide_eq_true (by kernel_rfl)) k2 Lg vX) trodAll_mk0))), rfl, Lg.frame _, fun h => by cases h⟩

theorem over : Rows.sortAgainRow.holds Tryz.pinned (OpenSpec.ofChange Rows.sortAgainSpec) :=
  OpenClaim.holds_of_wide 8 Tryz.f8 rfl rfl rfl rfl rfl rfl rfl ⟨rfl, rfl, rfl, rfl, rfl⟩ rfl rfl rfl rfl rfl (by kernel_rfl) Tryz.func8 (by kernel_rfl)
    (of_decide_eq_true (by kernel_rfl)) (by unfold Func.isWrapper; first | (rw [if_pos (by decide +kernel)]; kernel_rfl) | (rw [if_neg (by decide +kernel)]; exact ⟨rfl, rfl⟩))
    (fun os started H enc _ => lifted os started H enc)

theorem proved : Rows.SortAgainSaid := over
end Go.Proofs.YteldegofbbfaeaaGreat.sortAgain
