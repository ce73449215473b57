/-
  SortActs: whatever place, tuples and order; no condition.
-/
import Derived.Test.YteldegofbbfaeaaGreatFourF
import Derived.Test.YteldegofbbfaeaaGreatRows
import Derived.WalkKit
import Derived.ProofKit
import Derived.OpenShut
import Derived.ShutString
import Derived.ChangeOld
import Derived.Below
namespace Go.Proofs.YteldegofbbfaeaaGreat.sortActs
open Go.ChangeShapes Go.WideShapes Go.ChangeAt Go.RowKit
open Go.ChangeMaps (open_string shut_string)
set_option linter.unusedVariables false

theorem own : ownKnob Tryz.prog.godebug = none := by kernel_rfl
theorem laidOut : laidOutB Tryz.prog = true := by kernel_rfl


set_option maxHeartbeats 4000000 in
set_option maxRecDepth 100000 in
theorem walk (u0 u1 u2 u3 : Nat) (a1 : Option Addr) (len1 cap1 : Nat) (l1 : List AB) (x2 : AB) (w : World) (b0 : u0 ≤ 255) (b1 : u1 ≤ 255) (b2 : u2 ≤ 255) (b3 : u3 ≤ 255) (wr1 : BH w w.heap.size a1 len1 l1) (wm1 : len1 ≤ maxLen) (y2 : CQ x2) :
    Calls Tryz.prog 6 #[.agg #[.int .u8 u0, .int .u8 u1, .int .u8 u2, .int .u8 u3], .slice a1 len1 cap1, .agg #[.int .i64 x2.a, .int .i64 x2.b, .int .i64 x2.c, .int .i64 x2.d, .int .i64 x2.e]] w fun e w' => e = .returned (.bool true) ∧ Below w.heap.size w w' := by
  obtain ⟨⟨CM, GJ⟩, Zt⟩ := oC u0 u1 u2
  obtain ⟨sz, hsz⟩ : ∃ sz, sz = Kr u0 := ⟨_, rfl⟩
  obtain ⟨rm, JE⟩ : ∃ rm, rm = ZN u0 u1 u2 := ⟨_, rfl⟩
  obtain ⟨r, hr⟩ : ∃ r, r = u3 % 5 := ⟨_, rfl⟩
  obtain ⟨k, hk⟩ : ∃ k, k = 1 + r := ⟨_, rfl⟩
  have GQ : r < 5 := by rw [hr]; exact Nat.mod_lt _ (by omega)
  have t1 : Int.tmod (u3 : Int) 5 = (r : Int) := by rw [hr]; rfl
  have m1 : (u3 : Int) % 5 = (r : Int) := by rw [hr]; rfl
  have s1 : (1 : Int) + (r : Int) = (k : Int) := by omega
  have k5 : 0 < k ∧ k ≤ 5 := by omega
  clear hr hk
  obtain ⟨W1, B2, Aj, EP, r1, r2⟩ := Qh w [.int .u8 u0, .int .u8 u1, .int .u8 u2, .int .u8 u3] [.int .i64 x2.a, .int .i64 x2.b, .int .i64 x2.c, .int .i64 x2.d, .int .i64 x2.e] 23 26
  have ER := Lib.hid B2
  have Kj := Lib.hid Aj
  have hwk := TL u0 u1 u2 u3 b2 W1
  rw [← hsz, ← JE] at hwk
  have HWK := Lib.hid hwk
  rw [← hsz] at CM GJ
  rw [← JE] at Zt
  have s5 : (5 : Int) * (sz : Int) = ((5 * sz : Nat) : Int) := by simp
  obtain ⟨z5, Zs⟩ : ∃ z5, z5 = 5 * sz := ⟨_, rfl⟩
  rw [← Zs] at s5
  have HZ5 := Lib.hid Zs
  have sW : Hid (∀ W, Below W1.heap.size W1 W → W.cell? ⟨w.heap.size, 0, none⟩ = some (.int .u8 u0) ∧ W.cell? ⟨w.heap.size, 1, none⟩ = some (.int .u8 u1) ∧ W.cell? ⟨w.heap.size, 2, none⟩ = some (.int .u8 u2) ∧ W.cell? ⟨w.heap.size, 3, none⟩ = some (.int .u8 u3)) := fun W hb => yQ (r1.below hb r1.lt)
  have HO : Hid (∀ W, Below W1.heap.size W1 W → W.cell? ⟨w.heap.size + 1, 0, none⟩ = some (.int .i64 x2.a) ∧ W.cell? ⟨w.heap.size + 1, 1, none⟩ = some (.int .i64 x2.b) ∧ W.cell? ⟨w.heap.size + 1, 2, none⟩ = some (.int .i64 x2.c) ∧ W.cell? ⟨w.heap.size + 1, 3, none⟩ = some (.int .i64 x2.d) ∧ W.cell? ⟨w.heap.size + 1, 4, none⟩ = some (.int .i64 x2.e)) := fun W hb => yP (r2.below hb r2.lt)
  have HE : Hid (∀ W, Below W1.heap.size W1 W → Below w.heap.size w W) := fun W hb => Aj.trans (hb.mono Aj.size)
  have HL : Hid (∀ W, Below W1.heap.size W1 W → BH W W.heap.size a1 len1 l1) := fun W hb => by
    have h1 := Aj.trans (hb.mono Aj.size)
    exact (wr1.CL h1).mono h1.size
  have HLG : Hid (∀ G : Nat → Prop, (∀ k, G k → W1.heap.size ≤ k) → 0 < len1 → ∀ b off, a1 = some ⟨b, off, none⟩ → ¬ G b) := fun G hG h0 b off hA hg => by
    obtain ⟨b', Rr, uU, hlt, _⟩ := wr1.2.2 h0
    rw [uU] at hA
    injection hA with hA; injection hA with hA _
    have := hG b hg
    have := Aj.size
    omega
  have Ew : Hid (l1.length = len1) := wr1.1
  have HAW : Hid (∀ W, Calls Tryz.prog 11 #[] W fun e w' => e = .returned (.bool true) ∧ Below W.heap.size W w') := fun W => jI W
  have hm2 : len1 ≤ 9223372036854775807 := by unfold maxLen at wm1; omega
  have HM := Lib.hid wm1
  have s5n : rm < 5 * sz → rm < z5 ∧ decide (rm < z5) = true := fun h => ⟨by omega, by simp; omega⟩
  have s5p : ¬ rm < 5 * sz → ¬ rm < z5 ∧ decide (rm < z5) = false := fun h => ⟨by omega, by simp; omega⟩
  obtain ⟨p0, p1, p2, p3⟩ := sW.out W1 (Below.refl _ _)
  clear B2 Aj EP r2 r1 hwk wr1 hsz JE wm1 Zs
  go_enter Tryz.func6, Tryz.ntmps6
  go_upto_region 1 with (fail)
  rw [← ER.out]
  clear ER
  go_wp2_with fail
  refine HWK.out.mono ?_
  rintro e w2 ⟨p, G, rfl, hs, hG, hb⟩
  have HS := Lib.hid hs
  have HG := Lib.hid hG
  have Cd := Lib.hid hb
  clear hs hG hb HWK p0 p1 p2 p3
  obtain ⟨p0, p1, p2, p3⟩ := sW.out w2 Cd.out
  go_wp2_with fail
  refine (HAW.out _).mono ?_; rintro e w3 ⟨rfl, hb⟩
  have Vp := Lib.hid (HS.out.below hb)
  have Bq := Lib.hid (Cd.out.trans (hb.mono Cd.out.size))
  clear hb HS Cd p0 p1 p2 p3
  by_cases h4 : len1 ≤ 400
  case neg =>
    have g5 : decide ((len1 : Int) > 400) = true := by simp; omega
    go_wp2_with fail
    refine (HAW.out _).mono ?_; rintro e w90 ⟨rfl, hb⟩
    have HB90 := Lib.hid (HE.out _ (Bq.out.trans (hb.mono Bq.out.size)))
    clear hb
    go_wp2
    go_ret
    exact ⟨rfl, HB90.out⟩
  case pos =>
  have g5 : decide ((len1 : Int) > 400) = false := by simp; omega
  have nM := Lib.hid (pY a1 len1 cap1 l1 k w3 (HL.out _ Bq.out) k5.2 HM.out)
  by_cases L3 : l1.all (Ac k) = true
  case neg =>
    have L3 : l1.all (Ac k) = false := by simpa using L3
    rw [L3] at nM
    go_wp2_with fail
    refine nM.out.mono ?_; rintro e w4 ⟨rfl, hb⟩
    have Vv := Lib.hid (Bq.out.trans (hb.mono Bq.out.size))
    clear hb
    go_wp2_with fail
    refine (HAW.out _).mono ?_; rintro e w90 ⟨rfl, hb⟩
    have HB90 := Lib.hid (HE.out _ (Vv.out.trans (hb.mono Vv.out.size)))
    clear hb
    go_wp2
    go_ret
    exact ⟨rfl, HB90.out⟩
  case pos =>
  rw [L3] at nM
  have Xu : Hid (∀ u ∈ l1, Ac k u = true) := fun u hu => List.all_eq_true.1 L3 u hu
  clear L3
  go_wp2_with fail
  refine nM.out.mono ?_; rintro e w4 ⟨rfl, hb⟩
  have Vv := Lib.hid (Bq.out.trans (hb.mono Bq.out.size))
  have HS4 := Lib.hid (Vp.out.below hb)
  clear hb nM Vp Bq
  obtain ⟨o0, o1, o2, o3, o4⟩ := HO.out _ Vv.out
  have u7 := Lib.hid (Jg x2 w4)
  by_cases oT : Fm x2
  case neg =>
    rw [decide_eq_false oT] at u7
    go_wp2_with fail
    refine u7.out.mono ?_; rintro e w5 ⟨rfl, hb⟩
    have BW := Lib.hid (Vv.out.trans (hb.mono Vv.out.size))
    clear hb o0 o1 o2 o3 o4
    go_wp2_with fail
    refine (HAW.out _).mono ?_; rintro e w90 ⟨rfl, hb⟩
    have HB90 := Lib.hid (HE.out _ (BW.out.trans (hb.mono BW.out.size)))
    clear hb
    go_wp2
    go_ret
    exact ⟨rfl, HB90.out⟩
  case pos =>
  rw [decide_eq_true oT] at u7
  go_wp2_with fail
  refine u7.out.mono ?_; rintro e w40 ⟨rfl, hb⟩
  have HB40 := Lib.hid (Vv.out.trans (hb.mono Vv.out.size))
  have HS40 := Lib.hid (HS4.out.below hb)
  clear hb u7 Vv HS4 o0 o1 o2 o3 o4
  have Vv := HB40
  have HS4 := HS40
  clear HB40 HS40
  have HA := Lib.hid (ny HS4.out)
  have HR := Lib.hid (pQ HS4.out)
  go_wp2_with fail
  refine HA.out.mono ?_; rintro e w41 ⟨rfl, rfl⟩
  by_cases Z5 : rm < 5 * sz
  case pos =>
    obtain ⟨s5t, s5u⟩ := s5n Z5
    clear s5n s5p Z5
    go_wp2_with fail
    refine HR.out.mono ?_; rintro e w42 ⟨rfl, rfl⟩
    go_wp2_with fail
    refine (HAW.out _).mono ?_; rintro e w90 ⟨rfl, hb⟩
    have HB90 := Lib.hid (HE.out _ (Vv.out.trans (hb.mono Vv.out.size)))
    clear hb
    go_wp2
    go_ret
    exact ⟨rfl, HB90.out⟩
  case neg =>
  obtain ⟨s5t, s5u⟩ := s5p Z5
  have HRR : Hid (5 * sz ≤ rm) := by unfold Hid; omega
  clear s5n s5p Z5
  go_wp2_with fail
  refine HR.out.mono ?_; rintro e w42 ⟨rfl, rfl⟩
  clear HA HR
  have HLY := Lib.hid (vc (w0 := W1) (c := cap1) HS4.out HG.out Vv.out (HL.out _ Vv.out) (HLG.out G HG.out) k5 (by omega) (by rw [Ew.out]; omega) ⟨Nat.le_trans (BM _ _) (by rw [Ew.out]; omega), by omega⟩ Xu.out)
  rw [Ew.out] at HLY
  go_wp2_with fail
  refine HLY.out.mono ?_
  rintro e w5 (⟨hlt, _, _⟩ | ⟨hge, first, nb, rfl, xW, cT, EU⟩)
  · have := HRR.out; omega
  have HF0 := Lib.hid xW
  clear xW
  have Hz : nb ≤ 400 := by rw [cT.bn]; exact Nat.le_trans (BM _ _) (by rw [Ew.out]; exact h4)
  obtain ⟨w6, ki⟩ : ∃ w6, w6 = w5.alloc (.cells #[.int .i64 first, .int .i64 nb, .int .i64 k, .int .i64 len1] 39) := ⟨_, rfl⟩
  have SO : Below w5.heap.size w5 w6 := by rw [ki]; exact (Below.refl _ _).alloc (Nat.le_refl _) _
  have FJ : Row w6 w5.heap.size 39 [.int .i64 first, .int .i64 nb, .int .i64 k, .int .i64 len1] := by rw [ki]; exact heap_alloc_new _ _
  have h6 := EU.new SO FJ (Nat.le_refl _)
  obtain ⟨X, hX⟩ : ∃ X : Cx, X = ⟨W1, p, BP 0 4000, rm, sz, ((4000 : Nat) : Int), True, len1 + 1, nb, len1 + 1⟩ := ⟨_, rfl⟩
  obtain ⟨hh, O6⟩ : ∃ hh, hh = AE sz k := ⟨_, rfl⟩
  have HX : Hid (X.w0 = W1 ∧ X.p = p ∧ X.S0 = BP 0 4000 ∧ X.rm = rm ∧ X.sz = sz ∧ X.cm ∧ X.N = len1 + 1 ∧ X.C = nb) := by rw [hX]; exact ⟨rfl, rfl, rfl, rfl, rfl, trivial, rfl, rfl⟩
  have HHH := Lib.hid O6
  rw [← hX, ← O6] at h6
  rw [← O6] at cT
  have gS : Hid (Jr first nb k hh l1 X.sz) := by rw [HX.out.2.2.2.2.1]; exact cT
  have H6 : Hid (Wd X [Cb first nb k hh l1 X.sz, AI w5.heap.size 39 [.int .i64 first, .int .i64 nb, .int .i64 k, .int .i64 len1]] 0 w6) := by rw [HX.out.2.2.2.2.1]; exact h6
  have HW6 := Lib.hid ki
  clear EU ki SO FJ h6 hX O6 cT HLY HG HLG Vv HS4
  have Xx : Hid (∀ os m W, Wd X os m W → Below W1.heap.size W1 W) := fun os m W h => by
    have := h.Lg
    rw [HX.out.1] at this; exact this
  have ji := Lib.hid (TO H6.out)
  obtain ⟨a, ha, X9, hac⟩ := tW H6.out
  obtain ⟨X2, hX2⟩ : ∃ X2 : Cx, X2 = { X with N := X.N + 0, C := a, n := X.n + 0 } := ⟨_, rfl⟩
  have HX2 : Hid (X2.w0 = W1 ∧ X2.p = p ∧ X2.S0 = BP 0 4000 ∧ X2.rm = rm ∧ X2.sz = sz ∧ X2.cm ∧ X2.N = len1 + 1 ∧ X2.C = a) := by
    obtain ⟨q1, q2, q3, q4, q5, q6, q7, q8⟩ := HX.out
    rw [hX2]; exact ⟨q1, q2, q3, q4, q5, q6, q7, rfl⟩
  rw [← hX2] at X9
  have bQ : Hid (X2.sz = X.sz) := by rw [hX2]; rfl
  rw [← bQ.out] at X9 gS
  have KS : a ≤ nb + 0 := by have := HX.out.2.2.2.2.2.2.2; rw [this] at ha; exact ha
  have HWA := Lib.hid X9
  have tL := Lib.hid hac
  rw [HX.out.2.1] at ji tL
  clear X9 hac hX2
  go_wp2_with fail
  rw [← HW6.out]
  refine ji.out.mono ?_; rintro e w7 ⟨rfl, rfl⟩
  go_wp2_with fail
  refine tL.out.mono ?_; rintro e w8 ⟨rfl, rfl⟩
  obtain ⟨f0, f1, f2, f3⟩ := yQ (HWA.out.row (i := 1) rfl)
  obtain ⟨o0, o1, o2, o3, o4⟩ := HO.out _ (Xx.out _ _ _ H6.out)
  have HSO : Hid (Calls Tryz.prog 20 #[.pointer (some ⟨p.w, 0, none⟩), .agg #[.int .i64 first, .int .i64 nb, .int .i64 k, .int .i64 len1], .agg #[.int .i64 x2.a, .int .i64 x2.b, .int .i64 x2.c, .int .i64 x2.d, .int .i64 x2.e], .bool false] w8 (mq X2 [Cb first nb k hh l1 X2.sz, AI w5.heap.size 39 [.int .i64 first, .int .i64 nb, .int .i64 k, .int .i64 len1]] 0 0 nb k hh l1 x2 false)) := by
    have := U0 (once := false) (o := x2) HWA.out (i := 0) rfl gS.out Ew.out oT (by rw [HX2.out.2.2.2.1, HX2.out.2.2.2.2.1]; show 5 * sz ≤ rm - 0; have := HRR.out; omega) (by rw [HX2.out.2.2.2.1]; omega) (by omega) (by rw [HX2.out.2.2.2.2.2.2.1]; omega) HX2.out.2.2.2.2.2.1 ⟨nb, ZC HX2.out.2.2.1 HF0.out (by omega) (fun q hq => by simp at hq; subst hq; exact ⟨rfl, rfl⟩)⟩
    rw [HX2.out.2.1] at this; exact this
  clear oT ji tL H6
  go_wp2_with fail
  refine HSO.out.mono ?_
  rintro e w9 ⟨F, N, C, m', j, rfl, hC, hfg, hj, hmm, hw9⟩
  have NN := mj hj hmm
  have hraB : nb = AA (AE sz k) len1 := by
    have := gS.out.bn
    rw [HHH.out, Ew.out] at this; exact this
  have HRA2 : Hid (∀ W, Calls Tryz.prog 27 #[.int .i64 sz, .int .i64 k, .int .i64 len1] W fun e w' => e = .returned (.int .i64 (((8 * nb + 8) * (O3 nb + 2) : Nat) : Int)) ∧ w' = W) := fun W => by
    have Z7 := oB sz k len1 W (by omega) k5 (by omega)
    rw [← hraB] at Z7; exact Z7
  have Qv : (8 * nb + 8) * (O3 nb + 2) ≤ 4000 * 500 := Nat.mul_le_mul (by omega) (by have := (QL nb nb (Nat.le_refl _)).2; omega)
  obtain ⟨z, hz⟩ : ∃ z, z = (8 * nb + 8) * (O3 nb + 2) := ⟨_, rfl⟩
  rw [← hz] at HRA2 NN Qv
  have ID := hw9.below ((Below.refl w9.heap.size w9).alloc (Nat.le_refl _) (.cells #[.int .i64 F, .int .i64 N, .int .i64 k, .int .i64 C] 39))
  have HD10 := Lib.hid (TO ID)
  obtain ⟨y, hy, _, hac⟩ := tW ID
  rw [HX2.out.2.2.2.2.2.2.2] at hy
  have tL := Lib.hid hac
  rw [HX2.out.2.1] at HD10 tL
  have HEE := Lib.hid (HE.out _ (by have := ID.Lg; rw [HX2.out.1] at this; exact this))
  obtain ⟨d, hd⟩ : ∃ d : Int, d = (y : Int) - (a : Int) := ⟨_, rfl⟩
  have IF : (y : Int) - (a : Int) = d := hd.symm
  have hd2 : d ≤ (z : Int) := by omega
  have hd3 : decide (d ≤ (z : Int)) = true := by simpa using hd2
  have hd4 : -1000 ≤ d ∧ d ≤ 2000000 := by omega
  clear hd hy hac ID hw9 NN Qv hz hC hfg hj hmm hraB HSO f0 f1 f2 f3 o0 o1 o2 o3 o4
  go_wp2_with fail
  refine HD10.out.mono ?_; rintro e w11 ⟨rfl, rfl⟩
  go_wp2_with fail
  refine tL.out.mono ?_; rintro e Bn ⟨rfl, rfl⟩
  go_wp2_with fail
  refine (HRA2.out _).mono ?_; rintro e X5 ⟨rfl, rfl⟩
  go_wp2
  go_ret
  exact ⟨rfl, HEE.out⟩

set_option maxRecDepth 100000 in
theorem lifted (os : Os) (started : os.Started) (H : Type) (enc : TypeId × Value → H) :
    ReturnsInHanded {} Tryz.checked os 6 .any (Rows.sortActsSpec.pre6 enc Tryz.prog Tryz.f6 Rows.sortActsRow.domain false) (Rows.sortActsSpec.post enc Tryz.prog Tryz.f6 false true false false) := by
  refine returnsInHanded_of_change (C := Tryz.checked) own started (by kernel_rfl) Tryz.func6
    (ChangeSpec.witness6 (enc := enc) (C := Tryz.checked) false ⟨#[], #[.agg #[.int .u8 0, .int .u8 0, .int .u8 0, .int .u8 0], .slice none 0 0, .agg #[.int .i64 0, .int .i64 0, .int .i64 0, .int .i64 0, .int .i64 0]], []⟩ 8 (by kernel_rfl) (by kernel_rfl) (by kernel_rfl) (by kernel_rfl)) ?_
  intro W base args ds gs before hval0 hW hcnd _
  have hval : ∀ (j : Nat) t v, Tryz.f6.params[j]? = some t → args[j]? = some v → Value.okWide Tryz.prog W .any base t v := hval0
  have hW' := hW
  obtain ⟨p, q, hA0, hV, rfl, hfz, oM⟩ := hW
  have hA : DataW.TrodAll enc Tryz.prog W 0 (fun _ => true) true Tryz.f6.params.toList args.toList ds p := hA0
  rw [Tryz.params6] at hA hval
  obtain ⟨v0, vs0, d0, ds0, p0, q0, hargs, rfl, rfl, h0, r0⟩ := trodAll_cons hA
  obtain ⟨v1, vs1, d1, ds1, p1, q1, rfl, rfl, rfl, h1, r1⟩ := trodAll_cons r0
  obtain ⟨v2, vs2, d2, ds2, p2, q2, rfl, rfl, rfl, h2, r2⟩ := trodAll_cons r1
  obtain ⟨rfl, rfl, rfl⟩ := trodAll_nil r2
  obtain rfl : args = #[v0, v1, v2] := by cases args; simp_all
  obtain ⟨rfl, rfl⟩ := trodVars_none hV
  have k0 := h0
  have lt0 : ∀ x ∈ p0, x.block < W.heap.size := by obtain ⟨m, hm⟩ := k0; exact DataW.trod_lt m _ _ _ hm
  have k1 := h1
  have vY : ∀ x ∈ p1, x.block < W.heap.size := by obtain ⟨m, hm⟩ := k1; exact DataW.trod_lt m _ _ _ hm
  have k2 := h2
  have vX : ∀ x ∈ p2, x.block < W.heap.size := by obtain ⟨m, hm⟩ := k2; exact DataW.trod_lt m _ _ _ hm
  obtain ⟨u0, u1, u2, u3, rfl, b0, b1, b2, b3⟩ := kQ Tryz.underlying23 (by kernel_rfl) (by kernel_rfl) Tryz.underlying5 rfl rfl rfl rfl (hval 0 23 v0 rfl rfl) h0
  obtain ⟨a1, len1, cap1, rfl⟩ := okWide_slice Tryz.underlying24 (hval 1 24 v1 rfl rfl)
  obtain ⟨l1, wr1, wm1⟩ : ∃ l, BH W W.heap.size a1 len1 l ∧ len1 ≤ maxLen := by
    obtain ⟨fuel, hf⟩ := h1
    obtain ⟨a', len', OU, l', lp, hr', hm'⟩ := oD Tryz.underlying24 Tryz.underlying63 Tryz.underlying2 (by kernel_rfl) (by kernel_rfl) hf
    injection lp with e1 e2 e3
    subst e1; subst e2
    exact ⟨l', hr', hm'⟩
  obtain ⟨x2, rfl, y2⟩ := pe Tryz.underlying26 Tryz.underlying3 (by kernel_rfl) (by kernel_rfl) (hval 2 26 v2 rfl rfl) h2
  clear hA0 hval0
  refine (walk u0 u1 u2 u3 a1 len1 cap1 l1 x2 W b0 b1 b2 b3 wr1 wm1 y2).mono fun e W' ⟨he, Lg⟩ => ?_
  subst he
  exact ⟨_, rfl, _, _, _, [], _, [], hW', trodAll_mk1 (shut_bool Tryz.underlying4 _), (trodAll_cons_mk (Below.trod laidOut (by kernel_rfl) (of_decide_eq_true (by kernel_rfl)) k0 Lg lt0) (trodAll_cons_mk (Below.trod laidOut (by kernel_rfl) (of_decide_eq_true (by kernel_rfl)) k1 Lg vY) (trodAll_cons_mk (Below.trod laidOut (by kernel_rfl) (of_decide_eq_true (by kernel_rfl)) k2 Lg vX) trodAll_mk0))), rfl, Lg.frame _, fun h => by cases h⟩

theorem over : Rows.sortActsRow.holds Tryz.pinned (OpenSpec.ofChange Rows.sortActsSpec) :=
  OpenClaim.holds_of_wide 6 Tryz.f6 rfl rfl rfl rfl rfl rfl rfl ⟨rfl, rfl, rfl, rfl, rfl⟩ rfl rfl rfl rfl rfl (by kernel_rfl) Tryz.func6 (by kernel_rfl)
    (of_decide_eq_true (by kernel_rfl)) (by unfold Func.isWrapper; first | (rw [if_pos (by decide +kernel)]; kernel_rfl) | (rw [if_neg (by decide +kernel)]; exact ⟨rfl, rfl⟩))
    (fun os started H enc _ => lifted os started H enc)

theorem proved : Rows.SortActsSaid := over
end Go.Proofs.YteldegofbbfaeaaGreat.sortActs
