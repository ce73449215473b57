/-
  SortFull: whatever size, tuples and blocks to spare; no condition.
-/
import Derived.Test.YteldegofbbfaeaaGreatFourF
import Derived.Test.YteldegofbbfaeaaGreatRows
import Derived.WalkKit
import Derived.ProofKit
import Derived.OpenShut
import Derived.ShutString
import Derived.ChangeOld
import Derived.Below
namespace Go.Proofs.YteldegofbbfaeaaGreat.sortFull
open Go.ChangeShapes Go.WideShapes Go.ChangeAt Go.RowKit
open Go.ChangeMaps (open_string shut_string)
set_option linter.unusedVariables false

theorem own : ownKnob Tryz.prog.godebug = none := by kernel_rfl
theorem laidOut : laidOutB Tryz.prog = true := by kernel_rfl


set_option maxHeartbeats 4000000 in
set_option maxRecDepth 100000 in
theorem walk (a0 : Int) (a1 : Option Addr) (len1 cap1 : Nat) (l1 : List AB) (a2 : Int) (w : World) (w0 : (Lit.int .u8 a0).wf = true) (wr1 : BH w w.heap.size a1 len1 l1) (wm1 : len1 ≤ maxLen) (w2 : (Lit.int .u8 a2).wf = true) :
    Calls Tryz.prog 7 #[.int .u8 a0, .slice a1 len1 cap1, .int .u8 a2] w fun e w' => e = .returned (.bool true) ∧ Below w.heap.size w w' := by
  obtain ⟨u0, rfl⟩ := Int.eq_ofNat_of_zero_le (show 0 ≤ a0 by have := bounds_u8 w0; omega)
  have b0 : u0 ≤ 255 := by have := bounds_u8 w0; omega
  obtain ⟨v, rfl⟩ := Int.eq_ofNat_of_zero_le (show 0 ≤ a2 by have := bounds_u8 w2; omega)
  have bv : v ≤ 255 := by have := bounds_u8 w2; omega
  clear w0 w2
  obtain ⟨r, hr⟩ : ∃ r, r = u0 % 30 := ⟨_, rfl⟩
  have hr30 : r < 30 := by rw [hr]; exact Nat.mod_lt _ (by omega)
  have t0 : Int.tmod (u0 : Int) 30 = (r : Int) := by rw [hr]; rfl
  have m0 : (u0 : Int) % 30 = (r : Int) := by rw [hr]; rfl
  obtain ⟨n, hn⟩ : ∃ n, n = 8 + r := ⟨_, rfl⟩
  have s0 : (8 : Int) + (r : Int) = (n : Int) := by omega
  have n8 : 8 ≤ n ∧ n ≤ 37 := by omega
  obtain ⟨rm, JE⟩ : ∃ rm, rm = 6 * n := ⟨_, rfl⟩
  have s6 : (6 : Int) * (n : Int) = (rm : Int) := by omega
  have rm3 : rm ≤ 222 := by omega
  have ym := Lib.hid JE
  clear hr hn JE
  obtain ⟨W1, B2⟩ : ∃ W1, W1 = w.alloc (.cells #[.int .i64 1, .int .i64 (-2), .int .i64 0, .int .i64 0, .int .i64 0] 26) := ⟨_, rfl⟩
  have Aj : Below w.heap.size w W1 := by rw [B2]; exact (Below.refl _ _).alloc (Nat.le_refl _) _
  have r1 : Row W1 w.heap.size 26 [.int .i64 1, .int .i64 (-2), .int .i64 0, .int .i64 0, .int .i64 0] := by rw [B2]; exact heap_alloc_new _ _
  have ER := Lib.hid B2
  have HO : Hid (∀ W, Below W1.heap.size W1 W → W.cell? ⟨w.heap.size, 0, none⟩ = some (.int .i64 1) ∧ W.cell? ⟨w.heap.size, 1, none⟩ = some (.int .i64 (-2)) ∧ W.cell? ⟨w.heap.size, 2, none⟩ = some (.int .i64 0) ∧ W.cell? ⟨w.heap.size, 3, none⟩ = some (.int .i64 0) ∧ W.cell? ⟨w.heap.size, 4, none⟩ = some (.int .i64 0)) := fun W hb => yP (r1.below hb r1.lt)
  have HE : Hid (∀ W, Below W1.heap.size W1 W → Below w.heap.size w W) := fun W hb => Aj.trans (hb.mono Aj.size)
  have HL : Hid (∀ W, Below W1.heap.size W1 W → BH W W.heap.size a1 len1 l1) := fun W hb => by
    have h1 := Aj.trans (hb.mono Aj.size)
    exact (wr1.CL h1).mono h1.size
  have Ew : Hid (l1.length = len1) := wr1.1
  have HAW : Hid (∀ W, Calls Tryz.prog 11 #[] W fun e w' => e = .returned (.bool true) ∧ Below W.heap.size W w') := fun W => jI W
  have hm2 : len1 ≤ 9223372036854775807 := by unfold maxLen at wm1; omega
  have HM := Lib.hid wm1
  clear B2 Aj r1 wr1 wm1
  go_enter Tryz.func7, Tryz.ntmps7
  go_wp2_with fail
  rw [← ER.out]
  refine (HAW.out _).mono ?_; rintro e w4 ⟨rfl, Dz⟩
  have Vv : Hid (Below W1.heap.size W1 w4) := Dz
  clear Dz ER
  by_cases h4 : len1 ≤ 300
  case neg =>
    have g5 : decide ((len1 : Int) > 300) = true := by simp; omega
    go_wp2_with fail
    refine (HAW.out _).mono ?_; rintro e w90 ⟨rfl, hb⟩
    have HB90 := Lib.hid (HE.out _ (Vv.out.trans (hb.mono Vv.out.size)))
    clear hb
    go_wp2
    go_ret
    exact ⟨rfl, HB90.out⟩
  case pos =>
  have g5 : decide ((len1 : Int) > 300) = false := by simp; omega
  have nM : Hid (Calls Tryz.prog 12 #[.slice a1 len1 cap1, .int .i64 2] w4 fun e w' => e = .returned (.bool (l1.all (Ac 2))) ∧ Below w4.heap.size w4 w') := pY a1 len1 cap1 l1 2 w4 (HL.out _ Vv.out) (by omega) HM.out
  by_cases L3 : l1.all (Ac 2) = true
  case neg =>
    have L3 : l1.all (Ac 2) = false := by simpa using L3
    rw [L3] at nM
    go_wp2_with fail
    refine nM.out.mono ?_; rintro e w5 ⟨rfl, hb⟩
    have BW := Lib.hid (Vv.out.trans (hb.mono Vv.out.size))
    clear hb
    go_wp2_with fail
    refine (HAW.out _).mono ?_; rintro e w90 ⟨rfl, hb⟩
    have HB90 := Lib.hid (HE.out _ (BW.out.trans (hb.mono BW.out.size)))
    clear hb
    go_wp2
    go_ret
    exact ⟨rfl, HB90.out⟩
  case pos =>
  rw [L3] at nM
  have Xu : Hid (∀ u ∈ l1, Ac 2 u = true) := fun u hu => List.all_eq_true.1 L3 u hu
  clear L3
  go_wp2_with fail
  refine nM.out.mono ?_; rintro e w5 ⟨rfl, hb⟩
  have BW := Lib.hid (Vv.out.trans (hb.mono Vv.out.size))
  clear hb nM Vv
  obtain ⟨hh, O6⟩ : ∃ hh, hh = AE n 2 := ⟨_, rfl⟩
  have hhp : 0 < hh := by rw [O6]; exact (QO (k := 2) (by omega) (by omega)).1
  obtain ⟨nb, Hz⟩ : ∃ nb, nb = AA hh len1 := ⟨_, rfl⟩
  have nb3 : nb ≤ 300 := by rw [Hz]; exact Nat.le_trans (BM _ _) h4
  have MA : Hid (Calls Tryz.prog 28 #[.int .i64 n, .int .i64 2, .int .i64 len1] w5 fun e w' => e = .returned (.int .i64 nb) ∧ w' = w5) := by
    have h := We n 2 len1 w5 (by omega) (by omega)
    unfold MR at h
    have hhh' : hh = AE n ((2 : Nat) : Int) := O6
    rw [show AE n 2 = hh from hhh'.symm, if_neg (by omega), ← Hz] at h
    exact h
  obtain ⟨tot, GK⟩ : ∃ tot, tot = nb + v := ⟨_, rfl⟩
  have st : (nb : Int) + (v : Int) = (tot : Int) := by omega
  have tb : tot ≤ 555 := by omega
  have HTOT := Lib.hid GK
  have si := Lib.hid Hz
  have HHH := Lib.hid O6
  have HHP := Lib.hid hhp
  clear GK Hz O6 hhp
  have HN := Lib.hid (eH n (tot : Int) w5 (by omega) ⟨by omega, by omega⟩)
  go_wp2_with fail
  refine MA.out.mono ?_; rintro e w6 ⟨rfl, rfl⟩
  go_wp2_with fail
  refine HN.out.mono ?_
  rintro e w7 ⟨d, Gd, rfl, hd, O7, xk⟩
  have zT : Hid (Calls Tryz.prog 31 #[.int .i64 rm] w7 fun e w' => e = .returned (.pointer (some ⟨w7.heap.size, 0, none⟩)) ∧ Ez w' (fun k => k = w7.heap.size) w7.heap.size (empty rm) ∧ Below w7.heap.size w7 w') := by
    have := PZ (rm : Int) w7 (by omega) (by omega)
    rw [Int.toNat_natCast] at this; exact this
  have HD := Lib.hid hd
  have HGD := Lib.hid O7
  have Vu := Lib.hid xk
  clear hd O7 xk HN MA
  go_wp2_with fail
  refine zT.out.mono ?_
  rintro e w8 ⟨rfl, ha, rN⟩
  have HSN : Hid (Calls Tryz.prog 32 #[.int .i64 0, .int .i64 tot] w8 fun e w' => ∃ p G, e = .returned (.pointer (some ⟨p, 0, none⟩)) ∧ EZ w' G p (BP 0 tot) ∧ (∀ k, G k → w8.heap.size ≤ k) ∧ Below w8.heap.size w8 w') := WQ 0 tot w8 (by omega) (by omega)
  have pI := Lib.hid ha
  have HB8 := Lib.hid rN
  clear ha rN zT
  go_wp2_with fail
  refine HSN.out.mono ?_
  rintro e w9 ⟨s, Gs, rfl, hs, iV, hb9⟩
  have cC : Hid (Calls Tryz.prog 30 #[.pointer (some ⟨d, 0, none⟩), .pointer (some ⟨w7.heap.size, 0, none⟩), .pointer (some ⟨s, 0, none⟩)] w9 fun e w' => e = .returned (.pointer (some ⟨w9.heap.size, 0, none⟩)) ∧ w' = w9.alloc (.cells #[ptr d, ptr w7.heap.size, ptr s] 70)) := SV d w7.heap.size s w9
  have hsy : Sys (w9.alloc (.cells #[ptr d, ptr w7.heap.size, ptr s] 70)) (fun k => k = w9.heap.size ∨ Gd k ∨ k = w7.heap.size ∨ Gs k) ⟨w9.heap.size, d, w7.heap.size, s⟩ (eB n rm tot) 0 :=
    ju HD.out HB8.out pI.out (fun k hk => by rw [hk]; exact Nat.le_refl _) rfl hb9 hs (fun k hk => iV k hk)
  have hb59 : Below w6.heap.size w6 w9 := Vu.out.trans ((HB8.out.trans (hb9.mono HB8.out.size)).mono Vu.out.size)
  have hst : Wd (YE W1 ⟨w9.heap.size, d, w7.heap.size, s⟩ rm n tot True 900000) [] 0 (w9.alloc (.cells #[ptr d, ptr w7.heap.size, ptr s] 70)) := by
    refine ru hsy (fun k hk => ?_) ((BW.out.trans (hb59.mono BW.out.size)).alloc (Nat.le_trans BW.out.size hb59.size) _) (by omega) (by omega)
    have z0 := BW.out.size
    have z1 := Vu.out.size
    have z2 := HB8.out.size
    have z3 := hb9.size
    rcases hk with rfl | h | rfl | h
    · omega
    · have := HGD.out k h; omega
    · omega
    · have := iV k h; omega
  have Ea := Lib.hid hst
  clear hsy hb59 hst hs iV hb9 HSN HD HGD Vu HB8 pI
  go_wp2_with fail
  refine cC.out.mono ?_
  rintro e w40 ⟨rfl, rfl⟩
  obtain ⟨Fl, hw10⟩ : ∃ Fl, Fl = w9.alloc (.cells #[ptr d, ptr w7.heap.size, ptr s] 70) := ⟨_, rfl⟩
  rw [← hw10] at Ea ⊢
  clear hw10
  have HLY : Hid (Calls Tryz.prog 15 #[.pointer (some ⟨w9.heap.size, 0, none⟩), .int .i64 2, .slice a1 len1 cap1] Fl fun e w' => ∃ first : Nat, e = .returned (.tuple #[.agg #[.int .i64 first, .int .i64 nb, .int .i64 2, .int .i64 len1], .int .i64 0]) ∧ Jr first nb 2 hh l1 n ∧ Wd (YE W1 ⟨w9.heap.size, d, w7.heap.size, s⟩ rm n tot True 900000) [Cb first nb 2 hh l1 n] nb w') := by
    have hl3 : l1.length ≤ 300 := by rw [Ew.out]; exact h4
    have O6 : hh = AE n ((2 : Nat) : Int) := HHH.out
    refine (vG (k := 2) (n := len1) (c := cap1) (A := a1) (l := l1) Ea.out trivial (by omega) (fun z m' W' hw => HL.out _ (yO hw)) (by omega) Xu.out (by show n + 0 ≤ rm; have := ym.out; omega) (by show 900000 + 0 + l1.length + 1 ≤ 1000000; omega) (dy rfl (q := 0) [] (fun e he => by cases he) rfl (fun a ha => by simp at ha) (by
      show 0 * _ + AA (AE n ((2 : Nat) : Int)) l1.length ≤ tot
      rw [← O6, Ew.out, ← si.out]
      have := HTOT.out; omega))).mono ?_
    rintro e w' ⟨first, nb', he, hf, hw⟩
    have hf : Jr first nb' 2 (AE n ((2 : Nat) : Int)) l1 n := hf
    rw [← O6] at hf
    obtain rfl : nb' = nb := by have := hf.bn; rw [Ew.out, ← si.out] at this; exact this
    refine ⟨first, he, hf, ?_⟩
    have hw : Wd (YE W1 ⟨w9.heap.size, d, w7.heap.size, s⟩ rm n tot True 900000) [Cb first nb' 2 (AE n ((2 : Nat) : Int)) l1 n] (0 + nb') w' := hw
    rw [← O6, Nat.zero_add] at hw
    exact hw
  go_wp2_with fail
  refine HLY.out.mono ?_
  rintro e w11 ⟨first, rfl, cT, OT⟩
  have gS := Lib.hid cT
  obtain ⟨Bn, hw12⟩ : ∃ Bn, Bn = w11.alloc (.cells #[.int .i64 first, .int .i64 nb, .int .i64 2, .int .i64 len1] 39) := ⟨_, rfl⟩
  have aV : Below w11.heap.size w11 Bn := by rw [hw12]; exact (Below.refl _ _).alloc (Nat.le_refl _) _
  have hr12 : Row Bn w11.heap.size 39 [.int .i64 first, .int .i64 nb, .int .i64 2, .int .i64 len1] := by rw [hw12]; exact heap_alloc_new _ _
  have E5 : Wd (YE W1 ⟨w9.heap.size, d, w7.heap.size, s⟩ rm n tot True 900000) [Cb first nb 2 hh l1 n, AI w11.heap.size 39 [.int .i64 first, .int .i64 nb, .int .i64 2, .int .i64 len1]] nb Bn := OT.new aV hr12 (Nat.le_refl _)
  have HW12 := Lib.hid hw12
  obtain ⟨o0, o1, o2, o3, o4⟩ := HO.out _ (yO E5)
  rw [hw12] at o0 o1 o2 o3 o4
  obtain ⟨f0, f1, f2, f3⟩ := yQ (E5.row (i := 1) rfl)
  rw [hw12] at f0 f1 f2 f3
  have HSO : Hid (Calls Tryz.prog 20 #[.pointer (some ⟨w9.heap.size, 0, none⟩), .agg #[.int .i64 first, .int .i64 nb, .int .i64 2, .int .i64 len1], .agg #[.int .i64 1, .int .i64 (-2), .int .i64 0, .int .i64 0, .int .i64 0], .bool false] Bn fun e w' =>
      (∃ F N C m' : Nat, e = .returned (.tuple #[.agg #[.int .i64 F, .int .i64 N, .int .i64 2, .int .i64 C], .int .i64 0]) ∧ Wd (YE W1 ⟨w9.heap.size, d, w7.heap.size, s⟩ rm n tot True 900000) [Bl, AI w11.heap.size 39 [.int .i64 first, .int .i64 nb, .int .i64 2, .int .i64 len1], Cb F N 2 hh (OJ false (⟨1, -2, 0, 0, 0⟩ : AB) l1) n] m' w') ∨
      (∃ m' : Nat, e = .returned (.tuple #[.agg #[.int .i64 0, .int .i64 0, .int .i64 0, .int .i64 0], .int .i64 5]) ∧ v ≤ 8 * nb + 16 ∧ Wd (YE W1 ⟨w9.heap.size, d, w7.heap.size, s⟩ rm n tot True 900000) [Cb first nb 2 hh l1 n, AI w11.heap.size 39 [.int .i64 first, .int .i64 nb, .int .i64 2, .int .i64 len1]] m' w')) := by
    refine (dJ (once := false) (o := (⟨1, -2, 0, 0, 0⟩ : AB)) E5 (i := 0) rfl gS.out Ew.out (by decide) (by show 5 * n ≤ rm - 0; have := ym.out; omega) (by show rm ≤ 1000000; omega) (by omega) (by show 900000 + nb + 40 * nb + 3 * len1 + 10 ≤ 1000000; omega)).mono ?_
    rintro e w' (⟨F, N, C, l', m', j, he, ⟨s, k1, k2, k3⟩, hfg, hC, hj, hmm, hw⟩ | ⟨er, he, ⟨h5, hno⟩ | ⟨_, hno⟩, m', hw⟩)
    · rw [R7 k1 k2] at k3
      subst k3
      exact .inl ⟨F, N, C, m', he, hw⟩
    · subst h5
      refine .inr ⟨m', he, ?_, hw⟩
      rcases Nat.lt_or_ge (8 * nb + 16) v with hlt | hge
      · exfalso
        obtain ⟨z, hz⟩ := dy (X := (YE W1 ⟨w9.heap.size, d, w7.heap.size, s⟩ rm n tot True 900000)) (os := [Cb first nb 2 hh l1 n, AI w11.heap.size 39 [.int .i64 first, .int .i64 nb, .int .i64 2, .int .i64 len1]]) (b := tot) rfl (n := 3 * nb) (q := nb) (c := 1) [(first, nb)] (fun e he => by simp at he; subst he; exact Nat.le_refl _) rfl (fun a ha => by
          simp at ha
          rcases ha with rfl | rfl
          · exact .inr (by simp [Cb])
          · exact .inl rfl) (by have := HTOT.out; omega)
        exact hno z hz
      · exact hge
    · exact absurd trivial hno
  clear cT OT hw12 aV hr12 E5 HLY Ea
  go_wp2_with fail
  rw [← HW12.out]
  refine HSO.out.mono ?_
  clear o0 o1 o2 o3 o4 f0 f1 f2 f3
  rintro e X5 (⟨F, N, C, m', rfl, K6⟩ | ⟨m', rfl, hv, K6⟩)
  · have OD := K6.below ((Below.refl X5.heap.size X5).alloc (Nat.le_refl _) (.cells #[.int .i64 F, .int .i64 N, .int .i64 2, .int .i64 C] 39))
    have HA : Hid (Calls Tryz.prog 13 #[.pointer (some ⟨w9.heap.size, 0, none⟩)] (X5.alloc (.cells #[.int .i64 F, .int .i64 N, .int .i64 2, .int .i64 C] 39)) fun e w' => e = .returned (.pointer (some ⟨w7.heap.size, 0, none⟩)) ∧ w' = (X5.alloc (.cells #[.int .i64 F, .int .i64 N, .int .i64 2, .int .i64 C] 39))) := by
      have q := Ph OD
      exact q
    have HU : Hid (Calls Tryz.prog 21 #[.pointer (some ⟨w7.heap.size, 0, none⟩)] (X5.alloc (.cells #[.int .i64 F, .int .i64 N, .int .i64 2, .int .i64 C] 39)) fun e w' => e = .returned (.int .i64 0) ∧ w' = (X5.alloc (.cells #[.int .i64 F, .int .i64 N, .int .i64 2, .int .i64 C] 39))) := by
      have q := uX OD (by rfl)
      exact q
    have HEE := Lib.hid (HE.out _ (yO OD))
    clear K6 OD HSO
    go_wp2_with fail
    refine HA.out.mono ?_; rintro e w15 ⟨rfl, rfl⟩
    go_wp2_with fail
    refine HU.out.mono ?_; rintro e w16 ⟨rfl, rfl⟩
    go_wp2
    go_ret
    exact ⟨rfl, HEE.out⟩
  · obtain ⟨x8, hx8⟩ : ∃ x8, x8 = 8 * nb := ⟨_, rfl⟩
    have e8 : (8 : Int) * (nb : Int) = (x8 : Int) := by omega
    obtain ⟨x, hx⟩ : ∃ x, x = x8 + 16 := ⟨_, rfl⟩
    have e16 : (x8 : Int) + 16 = (x : Int) := by omega
    have Jt : x8 ≤ 2400 ∧ x ≤ 2416 := by omega
    have g1 : ¬ x < v := by omega
    have g2 : decide (x < v) = false := by simp; omega
    have g3 : decide ((v : Int) > (x : Int)) = false := by simp; omega
    clear hx hx8 hv
    obtain ⟨w14, hw14⟩ : ∃ w14, w14 = X5.alloc (.cells #[.int .i64 0, .int .i64 0, .int .i64 0, .int .i64 0] 39) := ⟨_, rfl⟩
    have OD : Wd (YE W1 ⟨w9.heap.size, d, w7.heap.size, s⟩ rm n tot True 900000) [Cb first nb 2 hh l1 n, AI w11.heap.size 39 [.int .i64 first, .int .i64 nb, .int .i64 2, .int .i64 len1]] m' w14 := by rw [hw14]; exact K6.below ((Below.refl _ _).alloc (Nat.le_refl _) _)
    have HW14 := Lib.hid hw14
    have HA : Hid (Calls Tryz.prog 13 #[.pointer (some ⟨w9.heap.size, 0, none⟩)] w14 fun e w' => e = .returned (.pointer (some ⟨w7.heap.size, 0, none⟩)) ∧ w' = w14) := by
      have q := Ph OD
      exact q
    have HU : Hid (Calls Tryz.prog 21 #[.pointer (some ⟨w7.heap.size, 0, none⟩)] w14 fun e w' => e = .returned (.int .i64 0) ∧ w' = w14) := by
      have q := uX OD (by rfl)
      exact q
    have Qx : m' ≤ 100000 := by
      have h : 900000 + m' ≤ 1000000 := OD.bounds.2
      omega
    have h14' : Wd (YE W1 ⟨w9.heap.size, d, w7.heap.size, s⟩ rm n tot True 0) [Cb first nb 2 hh l1 n, AI w11.heap.size 39 [.int .i64 first, .int .i64 nb, .int .i64 2, .int .i64 len1]] m' w14 := OD.vJ (N := 0) (Nat.le_refl _) (Nat.zero_le _)
    obtain ⟨f0, f1, f2, f3⟩ := yQ (h14'.row (i := 1) rfl)
    have HLI : Hid (Calls Tryz.prog 22 #[.pointer (some ⟨w9.heap.size, 0, none⟩), .agg #[.int .i64 first, .int .i64 nb, .int .i64 2, .int .i64 len1]] w14 fun e w' => ∃ v, e = .returned (.tuple #[v, .int .i64 0]) ∧ Wd (YE W1 ⟨w9.heap.size, d, w7.heap.size, s⟩ rm n tot True 0) [Cb first nb 2 hh l1 n, AI w11.heap.size 39 [.int .i64 first, .int .i64 nb, .int .i64 2, .int .i64 len1], Pn (YE W1 ⟨w9.heap.size, d, w7.heap.size, s⟩ rm n tot True 0) v l1] (m' + nb) w') :=
      Us h14' (i := 0) rfl gS.out trivial (by show n ≤ rm - 0; have := ym.out; omega) (by show 0 + m' + nb + 1 ≤ 1000000; omega) Ew.out
    clear hw14 K6 OD h14' HSO
    go_wp2_with fail
    rw [← HW14.out]
    refine HA.out.mono ?_; rintro e w15 ⟨rfl, rfl⟩
    go_wp2_with fail
    refine HU.out.mono ?_; rintro e w16 ⟨rfl, rfl⟩
    go_wp2_with fail
    refine HLI.out.mono ?_
    rintro e w18 ⟨vv, rfl, h18⟩
    have hok : ∀ u ∈ l1, CQ u := fun u hu => (gS.out.fit u hu).1
    obtain ⟨A2, c2, rfl, Ap, hcm2⟩ := h18.pN (i := 2) rfl hok
    rw [Ew.out] at Ap h18 ⊢
    have H18 := Lib.hid h18
    have HSA : Hid (Calls Tryz.prog 24 #[.slice A2 len1 c2, .slice a1 len1 cap1] w18 fun e w' => e = .returned (.bool true) ∧ Below w18.heap.size w18 w') := by
      refine (oA A2 a1 len1 len1 c2 cap1 l1 l1 w18 Ap (HL.out _ (yO h18)) HM.out HM.out).mono ?_
      rintro e w' ⟨he, q', rfl⟩
      exact ⟨by rw [he, decide_eq_true rfl], AG (Below.refl _ _) q'⟩
    clear h18 Ap hok f0 f1 f2 f3 HLI HA HU HW14
    go_wp2_with fail
    refine HSA.out.mono ?_; rintro e w19 ⟨rfl, hb⟩
    have h19 := H18.out.below hb
    have HS7 : Hid (Calls Tryz.prog 16 #[.pointer (some ⟨w9.heap.size, 0, none⟩)] w19 fun e w' => e = .returned (.pointer (some ⟨s, 0, none⟩)) ∧ w' = w19) := by
      have q := YR h19
      exact q
    have HF7 : Hid (Calls Tryz.prog 17 #[.pointer (some ⟨s, 0, none⟩)] w19 fun e w' => e = .returned (.int .i64 (v : Int)) ∧ Wd (YE W1 ⟨w9.heap.size, d, w7.heap.size, s⟩ rm n tot True 0) [Cb first nb 2 hh l1 n, AI w11.heap.size 39 [.int .i64 first, .int .i64 nb, .int .i64 2, .int .i64 len1], Pn (YE W1 ⟨w9.heap.size, d, w7.heap.size, s⟩ rm n tot True 0) (.slice A2 len1 c2) l1] (m' + nb) w') := uY h19 (x := v) (by show tot - (nb + (0 + (0 + 0))) = v; have := HTOT.out; omega)
    clear hb h19 HSA H18
    go_wp2_with fail
    refine HS7.out.mono ?_; rintro e w20 ⟨rfl, rfl⟩
    go_wp2_with fail
    refine HF7.out.mono ?_; rintro e w21 ⟨rfl, h21⟩
    have HEE := Lib.hid (HE.out _ (yO h21))
    clear h21 HS7 HF7
    go_wp2
    go_ret
    exact ⟨rfl, HEE.out⟩

set_option maxRecDepth 100000 in
theorem lifted (os : Os) (started : os.Started) (H : Type) (enc : TypeId × Value → H) :
    ReturnsInHanded {} Tryz.checked os 7 .any (Rows.sortFullSpec.pre6 enc Tryz.prog Tryz.f7 Rows.sortFullRow.domain false) (Rows.sortFullSpec.post enc Tryz.prog Tryz.f7 false true false false) := by
  refine returnsInHanded_of_change (C := Tryz.checked) own started (by kernel_rfl) Tryz.func7
    (ChangeSpec.witness6 (enc := enc) (C := Tryz.checked) false ⟨#[], #[.int .u8 0, .slice none 0 0, .int .u8 0], []⟩ 8 (by kernel_rfl) (by kernel_rfl) (by kernel_rfl) (by kernel_rfl)) ?_
  intro W base args ds gs before hval0 hW hcnd _
  have hval : ∀ (j : Nat) t v, Tryz.f7.params[j]? = some t → args[j]? = some v → Value.okWide Tryz.prog W .any base t v := hval0
  have hW' := hW
  obtain ⟨p, q, hA0, hV, rfl, hfz, oM⟩ := hW
  have hA : DataW.TrodAll enc Tryz.prog W 0 (fun _ => true) true Tryz.f7.params.toList args.toList ds p := hA0
  rw [Tryz.params7] at hA hval
  obtain ⟨v0, vs0, d0, ds0, p0, q0, hargs, rfl, rfl, h0, r0⟩ := trodAll_cons hA
  obtain ⟨v1, vs1, d1, ds1, p1, q1, rfl, rfl, rfl, h1, r1⟩ := trodAll_cons r0
  obtain ⟨v2, vs2, d2, ds2, p2, q2, rfl, rfl, rfl, h2, r2⟩ := trodAll_cons r1
  obtain ⟨rfl, rfl, rfl⟩ := trodAll_nil r2
  obtain rfl : args = #[v0, v1, v2] := by cases args; simp_all
  obtain ⟨rfl, rfl⟩ := trodVars_none hV
  have k0 := h0
  have lt0 : ∀ x ∈ p0, x.block < W.heap.size := by obtain ⟨m, hm⟩ := k0; exact DataW.trod_lt m _ _ _ hm
  have k1 := h1
  have vY : ∀ x ∈ p1, x.block < W.heap.size := by obtain ⟨m, hm⟩ := k1; exact DataW.trod_lt m _ _ _ hm
  have k2 := h2
  have vX : ∀ x ∈ p2, x.block < W.heap.size := by obtain ⟨m, hm⟩ := k2; exact DataW.trod_lt m _ _ _ hm
  obtain ⟨a0, rfl, rfl, rfl, w0⟩ := open_int Tryz.underlying5 (hval 0 5 v0 rfl rfl) h0
  obtain ⟨a1, len1, cap1, rfl⟩ := okWide_slice Tryz.underlying24 (hval 1 24 v1 rfl rfl)
  obtain ⟨l1, wr1, wm1⟩ : ∃ l, BH W W.heap.size a1 len1 l ∧ len1 ≤ maxLen := by
    obtain ⟨fuel, hf⟩ := h1
    obtain ⟨a', len', OU, l', lp, hr', hm'⟩ := oD Tryz.underlying24 Tryz.underlying63 Tryz.underlying2 (by kernel_rfl) (by kernel_rfl) hf
    injection lp with e1 e2 e3
    subst e1; subst e2
    exact ⟨l', hr', hm'⟩
  obtain ⟨a2, rfl, rfl, rfl, w2⟩ := open_int Tryz.underlying5 (hval 2 5 v2 rfl rfl) h2
  clear hA0 hval0
  refine (walk a0 a1 len1 cap1 l1 a2 W w0 wr1 wm1 w2).mono fun e W' ⟨he, Lg⟩ => ?_
  subst he
  exact ⟨_, rfl, _, _, _, [], _, [], hW', trodAll_mk1 (shut_bool Tryz.underlying4 _), (trodAll_cons_mk (Below.trod laidOut (by kernel_rfl) (of_decide_eq_true (by kernel_rfl)) k0 Lg lt0) (trodAll_cons_mk (Below.trod laidOut (by kernel_rfl) (of_decide_eq_true (by kernel_rfl)) k1 Lg vY) (trodAll_cons_mk (Below.trod laidOut (by kernel_rfl) (of_decide_eq_true (by kernel_rfl)) k2 Lg vX) trodAll_mk0))), rfl, Lg.frame _, fun h => by cases h⟩

theorem over : Rows.sortFullRow.holds Tryz.pinned (OpenSpec.ofChange Rows.sortFullSpec) :=
  OpenClaim.holds_of_wide 7 Tryz.f7 rfl rfl rfl rfl rfl rfl rfl ⟨rfl, rfl, rfl, rfl, rfl⟩ rfl rfl rfl rfl rfl (by kernel_rfl) Tryz.func7 (by kernel_rfl)
    (of_decide_eq_true (by kernel_rfl)) (by unfold Func.isWrapper; first | (rw [if_pos (by decide +kernel)]; kernel_rfl) | (rw [if_neg (by decide +kernel)]; exact ⟨rfl, rfl⟩))
    (fun os started H enc _ => lifted os started H enc)

theorem proved : Rows.SortFullSaid := over
end Go.Proofs.YteldegofbbfaeaaGreat.sortFull
