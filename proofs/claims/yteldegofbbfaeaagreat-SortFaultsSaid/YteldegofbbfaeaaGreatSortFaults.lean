/-
  SortFaults: whatever place, tuples and fault; no condition.
-/
import Derived.Test.YteldegofbbfaeaaGreatFourF
import Derived.Test.YteldegofbbfaeaaGreatRows
import Derived.WalkKit
import Derived.ProofKit
import Derived.OpenShut
import Derived.ShutString
import Derived.ChangeOld
import Derived.Below
namespace Go.Proofs.YteldegofbbfaeaaGreat.sortFaults
open Go.ChangeShapes Go.WideShapes Go.ChangeAt Go.RowKit
open Go.ChangeMaps (open_string shut_string)
set_option linter.unusedVariables false

theorem own : ownKnob Tryz.prog.godebug = none := by kernel_rfl
theorem laidOut : laidOutB Tryz.prog = true := by kernel_rfl

theorem eq_file (w : World) (a b c d : Int) : (binOp .eql 39 (.agg #[.int .i64 a, .int .i64 b, .int .i64 c, .int .i64 d]) (.agg #[.int .i64 a, .int .i64 b, .int .i64 c, .int .i64 d])).run Tryz.prog w = .ok (.bool true) w := by
  have u3 := Tryz.underlying3
  have hS : Tryz.prog.underlying 39 = some (.struct (Tryz.prog.fieldsOf 39)) := by kernel_rfl
  have hp : Tryz.prog.stoodInHeld 39 = false := by kernel_rfl
  rw [run_eql_struct, show (10000 : Nat) = 9999 + 1 from rfl, run_equalIn_agg w 9999 39 _ _ hS hp]
  simp only [Program.fieldsOf, Tryz.underlying39]
  go_simp
theorem guard_file (w : World) (op : BinOp) (x y : Operand) (xs ys : Array Value) : (eqGuard op 39 x y (.agg xs) (.agg ys)).run Tryz.prog w = .ok () w :=
  run_eqGuard_agg w op 39 x y _ _ (by kernel_rfl)

set_option maxHeartbeats 4000000 in
set_option maxRecDepth 100000 in
theorem walk (u0 u1 u2 u3 : Nat) (a1 : Option Addr) (len1 cap1 : Nat) (l1 : List AB) (a2 : Int) (w : World) (b0 : u0 ≤ 255) (b1 : u1 ≤ 255) (b2 : u2 ≤ 255) (b3 : u3 ≤ 255) (wr1 : BH w w.heap.size a1 len1 l1) (wm1 : len1 ≤ maxLen) (w2 : (Lit.int .u16 a2).wf = true) :
    Calls Tryz.prog 5 #[.agg #[.int .u8 u0, .int .u8 u1, .int .u8 u2, .int .u8 u3], .slice a1 len1 cap1, .int .u16 a2] w fun e w' => e = .returned (.bool true) ∧ Below w.heap.size w w' := by
  obtain ⟨u, rfl⟩ := Int.eq_ofNat_of_zero_le (show 0 ≤ a2 by have := bounds_u16 w2; omega)
  have hu16 : u ≤ 65535 := by have := bounds_u16 w2; omega
  clear w2
  obtain ⟨rr, hrr0⟩ : ∃ rr, rr = u % 400 := ⟨_, rfl⟩
  have hrr4 : rr < 400 := by rw [hrr0]; exact Nat.mod_lt _ (by omega)
  have tr : Int.tmod (u : Int) 400 = (rr : Int) := by rw [hrr0]; rfl
  have mr : (u : Int) % 400 = (rr : Int) := by rw [hrr0]; rfl
  clear hrr0
  obtain ⟨⟨CM, GJ⟩, Zt⟩ := oC u0 u1 u2
  obtain ⟨sz, hsz⟩ : ∃ sz, sz = Kr u0 := ⟨_, rfl⟩
  obtain ⟨rm, JE⟩ : ∃ rm, rm = ZN u0 u1 u2 := ⟨_, rfl⟩
  obtain ⟨W1, B2⟩ : ∃ W1, W1 = w.alloc (.cells #[.int .u8 u0, .int .u8 u1, .int .u8 u2, .int .u8 u3] 23) := ⟨_, rfl⟩
  have Aj : Below w.heap.size w W1 := by rw [B2]; exact (Below.refl _ _).alloc (Nat.le_refl _) _
  have r1 : Row W1 w.heap.size 23 [.int .u8 u0, .int .u8 u1, .int .u8 u2, .int .u8 u3] := by rw [B2]; exact heap_alloc_new _ _
  have ER := Lib.hid B2
  have Kj := Lib.hid Aj
  have hwk := TL u0 u1 u2 u3 b2 W1
  rw [← hsz, ← JE] at hwk
  have HWK := Lib.hid hwk
  rw [← hsz] at CM GJ
  rw [← JE] at Zt
  have s5 : (5 : Int) * (sz : Int) = ((5 * sz : Nat) : Int) := by simp
  obtain ⟨z5, Zs⟩ : ∃ z5, z5 = 5 * sz := ⟨_, rfl⟩
  rw [← Zs] at s5
  have HZ5 := Lib.hid Zs
  have sW : Hid (∀ W, Below W1.heap.size W1 W → W.cell? ⟨w.heap.size, 0, none⟩ = some (.int .u8 u0) ∧ W.cell? ⟨w.heap.size, 1, none⟩ = some (.int .u8 u1) ∧ W.cell? ⟨w.heap.size, 2, none⟩ = some (.int .u8 u2) ∧ W.cell? ⟨w.heap.size, 3, none⟩ = some (.int .u8 u3)) := fun W hb => yQ (r1.below hb r1.lt)
  have HE : Hid (∀ W, Below W1.heap.size W1 W → Below w.heap.size w W) := fun W hb => Aj.trans (hb.mono Aj.size)
  have HL : Hid (∀ W, Below W1.heap.size W1 W → BH W W.heap.size a1 len1 l1) := fun W hb => by
    have h1 := Aj.trans (hb.mono Aj.size)
    exact (wr1.CL h1).mono h1.size
  have HLG : Hid (∀ G : Nat → Prop, (∀ k, G k → W1.heap.size ≤ k) → 0 < len1 → ∀ b off, a1 = some ⟨b, off, none⟩ → ¬ G b) := fun G hG h0 b off hA hg => by
    obtain ⟨b', Rr, uU, hlt, _⟩ := wr1.2.2 h0
    rw [uU] at hA
    injection hA with hA; injection hA with hA _
    have := hG b hg
    have := Aj.size
    omega
  have Ew : Hid (l1.length = len1) := wr1.1
  have HAW : Hid (∀ W, Calls Tryz.prog 11 #[] W fun e w' => e = .returned (.bool true) ∧ Below W.heap.size W w') := fun W => jI W
  have hm2 : len1 ≤ 9223372036854775807 := by unfold maxLen at wm1; omega
  have HM := Lib.hid wm1
  have s5n : rm < 5 * sz → rm < z5 ∧ decide (rm < z5) = true := fun h => ⟨by omega, by simp; omega⟩
  have s5p : ¬ rm < 5 * sz → ¬ rm < z5 ∧ decide (rm < z5) = false := fun h => ⟨by omega, by simp; omega⟩
  obtain ⟨p0, p1, p2, p3⟩ := sW.out W1 (Below.refl _ _)
  clear B2 Aj r1 hwk wr1 hsz JE wm1 Zs
  go_enter Tryz.func5, Tryz.ntmps5
  go_upto_region 1 with (fail)
  rw [← ER.out]
  clear ER
  go_wp2_with fail
  refine HWK.out.mono ?_
  rintro e w2 ⟨p, G, rfl, hs, hG, hb⟩
  have HS := Lib.hid hs
  have HG := Lib.hid hG
  have Cd := Lib.hid hb
  clear hs hG hb HWK p0 p1 p2 p3
  obtain ⟨p0, p1, p2, p3⟩ := sW.out w2 Cd.out
  obtain ⟨w3, cM⟩ : ∃ w3, w3 = w2.alloc (.cells #[.int .i64 2, .int .i64 (-1), .int .i64 0, .int .i64 0, .int .i64 0] 26) := ⟨_, rfl⟩
  have A9 : Below w2.heap.size w2 w3 := by rw [cM]; exact (Below.refl _ _).alloc (Nat.le_refl _) _
  have Cm : Row w3 w2.heap.size 26 [.int .i64 2, .int .i64 (-1), .int .i64 0, .int .i64 0, .int .i64 0] := by rw [cM]; exact heap_alloc_new _ _
  have H3 : Hid (Wd (YE W1 p rm sz 4000 True 900000) [AI w2.heap.size 26 [.int .i64 2, .int .i64 (-1), .int .i64 0, .int .i64 0, .int .i64 0]] 0 w3) := (ru HS.out HG.out Cd.out (by omega) (by omega)).new A9 Cm (Nat.le_refl _)
  have Q6 := Lib.hid cM
  clear cM A9 Cm HS HG Cd p0 p1 p2 p3 sW
  go_wp2_with fail
  rw [← Q6.out]
  refine (HAW.out _).mono ?_; rintro e w4 ⟨rfl, hb⟩
  have H4 := Lib.hid (H3.out.below hb)
  have Vv := Lib.hid (yO H4.out)
  clear hb H3 Q6
  by_cases h4 : len1 ≤ 200
  case neg =>
    have g5 : decide ((len1 : Int) > 200) = true := by simp; omega
    go_wp2_with fail
    refine (HAW.out _).mono ?_; rintro e w90 ⟨rfl, hb⟩
    have HB90 := Lib.hid (HE.out _ (Vv.out.trans (hb.mono Vv.out.size)))
    clear hb
    go_wp2
    go_ret
    exact ⟨rfl, HB90.out⟩
  case pos =>
  have g5 : decide ((len1 : Int) > 200) = false := by simp; omega
  have nM : Hid (Calls Tryz.prog 12 #[.slice a1 len1 cap1, .int .i64 3] w4 fun e w' => e = .returned (.bool (l1.all (Ac 3))) ∧ Below w4.heap.size w4 w') := pY a1 len1 cap1 l1 3 w4 (HL.out _ Vv.out) (by omega) HM.out
  by_cases L3 : l1.all (Ac 3) = true
  case neg =>
    have L3 : l1.all (Ac 3) = false := by simpa using L3
    rw [L3] at nM
    go_wp2_with fail
    refine nM.out.mono ?_; rintro e w5 ⟨rfl, hb⟩
    have BW := Lib.hid (Vv.out.trans (hb.mono Vv.out.size))
    clear hb
    go_wp2_with fail
    refine (HAW.out _).mono ?_; rintro e w90 ⟨rfl, hb⟩
    have HB90 := Lib.hid (HE.out _ (BW.out.trans (hb.mono BW.out.size)))
    clear hb
    go_wp2
    go_ret
    exact ⟨rfl, HB90.out⟩
  case pos =>
  rw [L3] at nM
  have Xu : Hid (∀ u ∈ l1, Ac 3 u = true) := fun u hu => List.all_eq_true.1 L3 u hu
  clear L3
  go_wp2_with fail
  refine nM.out.mono ?_; rintro e w5 ⟨rfl, hb⟩
  have H5 := Lib.hid (H4.out.below hb)
  have BW := Lib.hid (yO H5.out)
  clear hb nM H4 Vv
  have HA : Hid (Calls Tryz.prog 13 #[.pointer (some ⟨p.w, 0, none⟩)] w5 fun e w' => e = .returned (.pointer (some ⟨p.a, 0, none⟩)) ∧ w' = w5) := Ph H5.out
  have HR : Hid (Calls Tryz.prog 14 #[.pointer (some ⟨p.a, 0, none⟩)] w5 fun e w' => e = .returned (.int .i64 (rm : Int)) ∧ w' = w5) := tU H5.out
  go_wp2_with fail
  refine HA.out.mono ?_; rintro e w41 ⟨rfl, rfl⟩
  by_cases Z5 : rm < 5 * sz
  case pos =>
    obtain ⟨s5t, s5u⟩ := s5n Z5
    clear s5n s5p Z5
    go_wp2_with fail
    refine HR.out.mono ?_; rintro e w42 ⟨rfl, rfl⟩
    go_wp2_with fail
    refine (HAW.out _).mono ?_; rintro e w90 ⟨rfl, hb⟩
    have HB90 := Lib.hid (HE.out _ (BW.out.trans (hb.mono BW.out.size)))
    clear hb
    go_wp2
    go_ret
    exact ⟨rfl, HB90.out⟩
  case neg =>
  obtain ⟨s5t, s5u⟩ := s5p Z5
  have HRR : Hid (5 * sz ≤ rm) := by unfold Hid; omega
  clear s5n s5p Z5
  go_wp2_with fail
  refine HR.out.mono ?_; rintro e w42 ⟨rfl, rfl⟩
  clear HA HR
  obtain ⟨hh, O6⟩ : ∃ hh, hh = AE sz 3 := ⟨_, rfl⟩
  have HLY : Hid (Calls Tryz.prog 15 #[.pointer (some ⟨p.w, 0, none⟩), .int .i64 3, .slice a1 len1 cap1] w42 fun e w' => ∃ first nb : Nat, e = .returned (.tuple #[.agg #[.int .i64 first, .int .i64 nb, .int .i64 3, .int .i64 len1], .int .i64 0]) ∧ nb ≤ 200 ∧ Jr first nb 3 hh l1 sz ∧ Wd (YE W1 p rm sz 4000 True 900000) [AI w2.heap.size 26 [.int .i64 2, .int .i64 (-1), .int .i64 0, .int .i64 0, .int .i64 0], Cb first nb 3 hh l1 sz] nb w') := by
    have lT : l1.length ≤ 200 := by rw [Ew.out]; exact h4
    refine (vG (k := 3) (n := len1) (c := cap1) (A := a1) (l := l1) H5.out trivial (by omega) (fun z m' W' hw => HL.out _ (yO hw)) (by omega) Xu.out (by show sz + 0 ≤ rm; have := HRR.out; omega) (by show 900000 + 0 + l1.length + 1 ≤ 1000000; omega) (dy rfl (q := 0) [] (fun e he => by cases he) rfl (fun a ha => by simp at ha; subst ha; exact .inl rfl) (by have := BM (AE sz 3) l1.length; show 0 * _ + AA (AE sz 3) l1.length ≤ 4000; omega))).mono ?_
    rintro e w' ⟨first, nb, he, hf, hw⟩
    have hf : Jr first nb 3 (AE sz 3) l1 sz := hf
    rw [← O6] at hf
    refine ⟨first, nb, he, by rw [hf.bn]; exact Nat.le_trans (BM _ _) lT, hf, ?_⟩
    rw [O6]
    have hw := hw.mono (Nat.le_refl _) hw.bounds.2
    rw [Nat.zero_add] at hw
    exact hw
  clear O6
  go_wp2_with fail
  refine HLY.out.mono ?_
  rintro e w6 ⟨first, nb, rfl, Hz, cT, h6⟩
  have gS := Lib.hid cT
  obtain ⟨w7, VH⟩ : ∃ w7, w7 = w6.alloc (.cells #[.int .i64 first, .int .i64 nb, .int .i64 3, .int .i64 len1] 39) := ⟨_, rfl⟩
  have xk : Below w6.heap.size w6 w7 := by rw [VH]; exact (Below.refl _ _).alloc (Nat.le_refl _) _
  have oI : Row w7 w6.heap.size 39 [.int .i64 first, .int .i64 nb, .int .i64 3, .int .i64 len1] := by rw [VH]; exact heap_alloc_new _ _
  have H7 : Hid (Wd (YE W1 p rm sz 4000 True 900000) [AI w2.heap.size 26 [.int .i64 2, .int .i64 (-1), .int .i64 0, .int .i64 0, .int .i64 0], Cb first nb 3 hh l1 sz, AI w6.heap.size 39 [.int .i64 first, .int .i64 nb, .int .i64 3, .int .i64 len1]] nb w7) := h6.new xk oI (Nat.le_refl _)
  have HW7 := Lib.hid VH
  clear cT h6 VH xk oI HLY H5 BW
  have HS7 : Hid (Calls Tryz.prog 16 #[.pointer (some ⟨p.w, 0, none⟩)] w7 fun e w' => e = .returned (.pointer (some ⟨p.s, 0, none⟩)) ∧ w' = w7) := YR H7.out
  obtain ⟨fr, YB⟩ : ∃ fr, fr = 4000 - nb := ⟨_, rfl⟩
  have HF7 := Lib.hid (uY H7.out (x := fr) (by rw [YB]; show 4000 - (0 + (nb + (0 + 0))) = 4000 - nb; omega))
  have HFRR := Lib.hid YB
  clear YB
  go_wp2_with fail
  rw [← HW7.out]
  refine HS7.out.mono ?_; rintro e w8 ⟨rfl, rfl⟩
  go_wp2_with fail
  refine HF7.out.mono ?_; rintro e w9 ⟨rfl, h9⟩
  have HD9 : Hid (Calls Tryz.prog 18 #[.pointer (some ⟨p.w, 0, none⟩)] w9 fun e w' => e = .returned (.pointer (some ⟨p.d, 0, none⟩)) ∧ w' = w9) := TO h9
  have HFA9 : Hid (Calls Tryz.prog 19 #[.pointer (some ⟨p.d, 0, none⟩), .int .i64 rr] w9 fun e w' => e = .returned (.tuple #[]) ∧ Wd (YE W1 p rm sz 4000 False 900000) [AI w2.heap.size 26 [.int .i64 2, .int .i64 (-1), .int .i64 0, .int .i64 0, .int .i64 0], Cb first nb 3 hh l1 sz, AI w6.heap.size 39 [.int .i64 first, .int .i64 nb, .int .i64 3, .int .i64 len1]] nb w') := pK h9 rr (by omega)
  clear h9 HS7 HF7 HW7 H7
  go_wp2_with fail
  refine HD9.out.mono ?_; rintro e Fl ⟨rfl, rfl⟩
  go_wp2_with fail
  refine HFA9.out.mono ?_; rintro e w11 ⟨rfl, OT⟩
  obtain ⟨o0, o1, o2, o3, o4⟩ := yP (OT.row (i := 0) rfl)
  obtain ⟨f0, f1, f2, f3⟩ := yQ (OT.row (i := 2) rfl)
  have HSO : Hid (Calls Tryz.prog 20 #[.pointer (some ⟨p.w, 0, none⟩), .agg #[.int .i64 first, .int .i64 nb, .int .i64 3, .int .i64 len1], .agg #[.int .i64 2, .int .i64 (-1), .int .i64 0, .int .i64 0, .int .i64 0], .bool false] w11 fun e w' =>
      (∃ F N C m' : Nat, e = .returned (.tuple #[.agg #[.int .i64 F, .int .i64 N, .int .i64 3, .int .i64 C], .int .i64 0]) ∧ (OJ false (⟨2, -1, 0, 0, 0⟩ : AB) l1).length = C ∧ N ≤ 200 ∧ m' ≤ 20000 ∧ Jr F N 3 hh (OJ false (⟨2, -1, 0, 0, 0⟩ : AB) l1) sz ∧ Wd (YE W1 p rm sz 4000 False 900000) [AI w2.heap.size 26 [.int .i64 2, .int .i64 (-1), .int .i64 0, .int .i64 0, .int .i64 0], Bl, AI w6.heap.size 39 [.int .i64 first, .int .i64 nb, .int .i64 3, .int .i64 len1], Cb F N 3 hh (OJ false (⟨2, -1, 0, 0, 0⟩ : AB) l1) sz] m' w') ∨
      (∃ m' : Nat, e = .returned (.tuple #[.agg #[.int .i64 0, .int .i64 0, .int .i64 0, .int .i64 0], .int .i64 6]) ∧ Wd (YE W1 p rm sz 4000 False 900000) [AI w2.heap.size 26 [.int .i64 2, .int .i64 (-1), .int .i64 0, .int .i64 0, .int .i64 0], Cb first nb 3 hh l1 sz, AI w6.heap.size 39 [.int .i64 first, .int .i64 nb, .int .i64 3, .int .i64 len1]] m' w')) := by
    refine (dJ (once := false) (o := (⟨2, -1, 0, 0, 0⟩ : AB)) OT (i := 1) rfl gS.out Ew.out (by decide) (by show 5 * sz ≤ rm - 0; have := HRR.out; omega) (by show rm ≤ 1000000; omega) (by omega) (by show 900000 + nb + 40 * nb + 3 * len1 + 10 ≤ 1000000; omega)).mono ?_
    rintro e w' (⟨F, N, C, l', m', j, he, ⟨s, k1, k2, k3⟩, hfg, hC, hj, hmm, hw⟩ | ⟨er, he, ⟨_, hno⟩ | ⟨h6, _⟩, m', hw⟩)
    · rw [R7 k1 k2] at k3
      subst k3
      have AD2 := Ot hj (by omega)
      have h2 := n9 (once := false) (o := (⟨2, -1, 0, 0, 0⟩ : AB)) (l := l1)
      have h3 := Ew.out
      have hN : N ≤ 200 := by
        have h1 := BM hh (OJ false (⟨2, -1, 0, 0, 0⟩ : AB) l1).length
        have := hfg.bn
        omega
      refine .inl ⟨F, N, C, m', he, hC.symm, hN, ?_, hfg, hw⟩
      have : 2 * nb * (1 + j) ≤ 400 * 11 := Nat.mul_le_mul (by omega) (by omega)
      omega
    · obtain ⟨z, hz⟩ := dy (X := (YE W1 p rm sz 4000 False 900000)) (os := [AI w2.heap.size 26 [.int .i64 2, .int .i64 (-1), .int .i64 0, .int .i64 0, .int .i64 0], Cb first nb 3 hh l1 sz, AI w6.heap.size 39 [.int .i64 first, .int .i64 nb, .int .i64 3, .int .i64 len1]]) (b := 4000) rfl (n := 3 * nb) (q := nb) (c := 1) [(first, nb)] (fun e he => by simp at he; subst he; exact Nat.le_refl _) rfl (fun a ha => by
        simp at ha
        rcases ha with rfl | rfl | rfl
        · exact .inl rfl
        · exact .inr (by simp [Cb])
        · exact .inl rfl) (by omega)
      exact absurd hz (hno z)
    · subst h6
      exact .inr ⟨m', he, hw⟩
  have HB11 := Lib.hid (yO OT)
  clear OT HD9 HFA9
  go_wp2_with fail
  refine HSO.out.mono ?_
  rintro e Bn (⟨F, N, C, m', rfl, hC, hN, hm, hfg, E5⟩ | ⟨m', rfl, E5⟩)
  · have HFG := Lib.hid hfg
    have hCn : C = len1 := by rw [← hC, dc, Ew.out]
    clear hfg
    have HC := Lib.hid hC
    have HCN := Lib.hid hCn
    clear hC hCn
    obtain ⟨X5, hw13⟩ : ∃ X5, X5 = Bn.alloc (.cells #[.int .i64 F, .int .i64 N, .int .i64 3, .int .i64 C] 39) := ⟨_, rfl⟩
    have UH : Below Bn.heap.size Bn X5 := by rw [hw13]; exact (Below.refl _ _).alloc (Nat.le_refl _) _
    have hr13 : Row X5 Bn.heap.size 39 [.int .i64 F, .int .i64 N, .int .i64 3, .int .i64 C] := by rw [hw13]; exact heap_alloc_new _ _
    have K6 : Wd (YE W1 p rm sz 4000 False 900000) [AI w2.heap.size 26 [.int .i64 2, .int .i64 (-1), .int .i64 0, .int .i64 0, .int .i64 0], Bl, AI w6.heap.size 39 [.int .i64 first, .int .i64 nb, .int .i64 3, .int .i64 len1], Cb F N 3 hh (OJ false (⟨2, -1, 0, 0, 0⟩ : AB) l1) sz, AI Bn.heap.size 39 [.int .i64 F, .int .i64 N, .int .i64 3, .int .i64 C]] m' X5 := E5.new UH hr13 (Nat.le_refl _)
    have HW13 := Lib.hid hw13
    have HA : Hid (Calls Tryz.prog 13 #[.pointer (some ⟨p.w, 0, none⟩)] X5 fun e w' => e = .returned (.pointer (some ⟨p.a, 0, none⟩)) ∧ w' = X5) := Ph K6
    have HU : Hid (Calls Tryz.prog 21 #[.pointer (some ⟨p.a, 0, none⟩)] X5 fun e w' => e = .returned (.int .i64 0) ∧ w' = X5) := uX K6 rfl
    have HD : Hid (Calls Tryz.prog 18 #[.pointer (some ⟨p.w, 0, none⟩)] X5 fun e w' => e = .returned (.pointer (some ⟨p.d, 0, none⟩)) ∧ w' = X5) := TO K6
    have HH : Hid (Calls Tryz.prog 19 #[.pointer (some ⟨p.d, 0, none⟩), .int .i64 (-1)] X5 fun e w' => e = .returned (.tuple #[]) ∧ Wd (YE W1 p rm sz 4000 True 900000) [AI w2.heap.size 26 [.int .i64 2, .int .i64 (-1), .int .i64 0, .int .i64 0, .int .i64 0], Bl, AI w6.heap.size 39 [.int .i64 first, .int .i64 nb, .int .i64 3, .int .i64 len1], Cb F N 3 hh (OJ false (⟨2, -1, 0, 0, 0⟩ : AB) l1) sz, AI Bn.heap.size 39 [.int .i64 F, .int .i64 N, .int .i64 3, .int .i64 C]] m' w') := tV K6
    clear hw13 UH hr13 K6 E5 f0 f1 f2 f3 o0 o1 o2 o3 o4 HSO
    go_wp2_with fail
    rw [← HW13.out]
    refine HA.out.mono ?_; rintro e w14 ⟨rfl, rfl⟩
    go_wp2_with fail
    refine HU.out.mono ?_; rintro e w15 ⟨rfl, rfl⟩
    go_wp2_with fail
    refine HD.out.mono ?_; rintro e w16 ⟨rfl, rfl⟩
    go_wp2_with fail
    refine HH.out.mono ?_; rintro e w17 ⟨rfl, h17⟩
    obtain ⟨f0, f1, f2, f3⟩ := yQ (h17.row (i := 4) rfl)
    have HLI : Hid (Calls Tryz.prog 22 #[.pointer (some ⟨p.w, 0, none⟩), .agg #[.int .i64 F, .int .i64 N, .int .i64 3, .int .i64 C]] w17 fun e w' => ∃ v, e = .returned (.tuple #[v, .int .i64 0]) ∧ Wd (YE W1 p rm sz 4000 True 900000) [AI w2.heap.size 26 [.int .i64 2, .int .i64 (-1), .int .i64 0, .int .i64 0, .int .i64 0], Bl, AI w6.heap.size 39 [.int .i64 first, .int .i64 nb, .int .i64 3, .int .i64 len1], Cb F N 3 hh (OJ false (⟨2, -1, 0, 0, 0⟩ : AB) l1) sz, AI Bn.heap.size 39 [.int .i64 F, .int .i64 N, .int .i64 3, .int .i64 C], Pn (YE W1 p rm sz 4000 True 900000) v (OJ false (⟨2, -1, 0, 0, 0⟩ : AB) l1)] (m' + N) w') :=
      Us h17 (i := 3) rfl HFG.out trivial (by show sz ≤ rm - 0; have := HRR.out; omega) (by show 900000 + m' + N + 1 ≤ 1000000; omega) HC.out
    clear h17 HA HU HD HH HW13
    go_wp2_with fail
    refine HLI.out.mono ?_
    rintro e w18 ⟨v, rfl, h18⟩
    have hok : ∀ u ∈ OJ false (⟨2, -1, 0, 0, 0⟩ : AB) l1, CQ u := fun u hu => (HFG.out.fit u hu).1
    obtain ⟨A2, c2, rfl, Ap, hcm2⟩ := h18.pN (i := 5) rfl hok
    rw [HC.out] at Ap ⊢
    obtain ⟨o0, o1, o2, o3, o4⟩ := yP (h18.row (i := 0) rfl)
    have HSR : Hid (Calls Tryz.prog 23 #[.slice A2 C c2, .agg #[.int .i64 2, .int .i64 (-1), .int .i64 0, .int .i64 0, .int .i64 0]] w18 fun e w' => e = .returned (.bool true) ∧ Below w18.heap.size w18 w') := by
      have := j4 (c := c2) (⟨2, -1, 0, 0, 0⟩ : AB) Ap (by have := HCN.out; omega)
      rw [decide_eq_true (show YF (⟨2, -1, 0, 0, 0⟩ : AB) (OJ false (⟨2, -1, 0, 0, 0⟩ : AB) l1) from GZ _ _ _ (ME _))] at this
      exact this
    have HB18 := Lib.hid (yO h18)
    have lu : decide ((C : Int) = (len1 : Int)) = true := by rw [HCN.out]; simp
    have hce2 : (C : Int) = (len1 : Int) := by rw [HCN.out]
    clear h18 Ap hok f0 f1 f2 f3
    go_wp2_with fail
    refine HSR.out.mono ?_; rintro e w19 ⟨rfl, hb⟩
    have HEE := Lib.hid (HE.out _ (HB18.out.trans (hb.mono HB18.out.size)))
    clear hb o0 o1 o2 o3 o4
    go_wp2
    go_ret
    exact ⟨rfl, HEE.out⟩
  · have HQ : Hid (∀ W, (binOp .eql 39 (.agg #[.int .i64 0, .int .i64 0, .int .i64 0, .int .i64 0]) (.agg #[.int .i64 0, .int .i64 0, .int .i64 0, .int .i64 0])).run Tryz.prog W = .ok (.bool true) W) := fun W => eq_file W 0 0 0 0
    have HG : Hid (∀ W op x y xs ys, (eqGuard op 39 x y (.agg xs) (.agg ys)).run Tryz.prog W = .ok () W) := fun W op x y xs ys => guard_file W op x y xs ys
    obtain ⟨X5, hw13⟩ : ∃ X5, X5 = Bn.alloc (.cells #[.int .i64 0, .int .i64 0, .int .i64 0, .int .i64 0] 39) := ⟨_, rfl⟩
    have UH : Below Bn.heap.size Bn X5 := by rw [hw13]; exact (Below.refl _ _).alloc (Nat.le_refl _) _
    have hr13 : Row X5 Bn.heap.size 39 [.int .i64 0, .int .i64 0, .int .i64 0, .int .i64 0] := by rw [hw13]; exact heap_alloc_new _ _
    have K6 : Wd (YE W1 p rm sz 4000 False 900000) [AI w2.heap.size 26 [.int .i64 2, .int .i64 (-1), .int .i64 0, .int .i64 0, .int .i64 0], Cb first nb 3 hh l1 sz, AI w6.heap.size 39 [.int .i64 first, .int .i64 nb, .int .i64 3, .int .i64 len1], AI Bn.heap.size 39 [.int .i64 0, .int .i64 0, .int .i64 0, .int .i64 0]] m' X5 := E5.new UH hr13 (Nat.le_refl _)
    have HW13 := Lib.hid hw13
    have HA : Hid (Calls Tryz.prog 13 #[.pointer (some ⟨p.w, 0, none⟩)] X5 fun e w' => e = .returned (.pointer (some ⟨p.a, 0, none⟩)) ∧ w' = X5) := Ph K6
    have HU : Hid (Calls Tryz.prog 21 #[.pointer (some ⟨p.a, 0, none⟩)] X5 fun e w' => e = .returned (.int .i64 0) ∧ w' = X5) := uX K6 rfl
    have HD : Hid (Calls Tryz.prog 18 #[.pointer (some ⟨p.w, 0, none⟩)] X5 fun e w' => e = .returned (.pointer (some ⟨p.d, 0, none⟩)) ∧ w' = X5) := TO K6
    have HH : Hid (Calls Tryz.prog 19 #[.pointer (some ⟨p.d, 0, none⟩), .int .i64 (-1)] X5 fun e w' => e = .returned (.tuple #[]) ∧ Wd (YE W1 p rm sz 4000 True 900000) [AI w2.heap.size 26 [.int .i64 2, .int .i64 (-1), .int .i64 0, .int .i64 0, .int .i64 0], Cb first nb 3 hh l1 sz, AI w6.heap.size 39 [.int .i64 first, .int .i64 nb, .int .i64 3, .int .i64 len1], AI Bn.heap.size 39 [.int .i64 0, .int .i64 0, .int .i64 0, .int .i64 0]] m' w') := tV K6
    clear hw13 UH hr13 K6 E5 f0 f1 f2 f3 o0 o1 o2 o3 o4 HSO
    go_wp2_with fail
    rw [← HW13.out]
    refine HA.out.mono ?_; rintro e w14 ⟨rfl, rfl⟩
    go_wp2_with fail
    refine HU.out.mono ?_; rintro e w15 ⟨rfl, rfl⟩
    go_wp2_with fail
    refine HD.out.mono ?_; rintro e w16 ⟨rfl, rfl⟩
    go_wp2_with fail
    refine HH.out.mono ?_; rintro e w17 ⟨rfl, h17⟩
    have Qx : m' ≤ 100000 := by
      have h : 900000 + m' ≤ 1000000 := h17.bounds.2
      omega
    have h17' : Wd (YE W1 p rm sz 4000 True 0) [AI w2.heap.size 26 [.int .i64 2, .int .i64 (-1), .int .i64 0, .int .i64 0, .int .i64 0], Cb first nb 3 hh l1 sz, AI w6.heap.size 39 [.int .i64 first, .int .i64 nb, .int .i64 3, .int .i64 len1], AI Bn.heap.size 39 [.int .i64 0, .int .i64 0, .int .i64 0, .int .i64 0]] m' w17 := h17.vJ (N := 0) (Nat.le_refl _) (Nat.zero_le _)
    obtain ⟨f0, f1, f2, f3⟩ := yQ (h17'.row (i := 2) rfl)
    have HLI : Hid (Calls Tryz.prog 22 #[.pointer (some ⟨p.w, 0, none⟩), .agg #[.int .i64 first, .int .i64 nb, .int .i64 3, .int .i64 len1]] w17 fun e w' => ∃ v, e = .returned (.tuple #[v, .int .i64 0]) ∧ Wd (YE W1 p rm sz 4000 True 0) [AI w2.heap.size 26 [.int .i64 2, .int .i64 (-1), .int .i64 0, .int .i64 0, .int .i64 0], Cb first nb 3 hh l1 sz, AI w6.heap.size 39 [.int .i64 first, .int .i64 nb, .int .i64 3, .int .i64 len1], AI Bn.heap.size 39 [.int .i64 0, .int .i64 0, .int .i64 0, .int .i64 0], Pn (YE W1 p rm sz 4000 True 0) v l1] (m' + nb) w') :=
      Us h17' (i := 1) rfl gS.out trivial (by show sz ≤ rm - 0; have := HRR.out; omega) (by show 0 + m' + nb + 1 ≤ 1000000; omega) Ew.out
    clear h17 h17' HA HU HD HH HW13
    go_wp2_with fail
    refine HLI.out.mono ?_
    rintro e w18 ⟨v, rfl, h18⟩
    have hok : ∀ u ∈ l1, CQ u := fun u hu => (gS.out.fit u hu).1
    obtain ⟨A2, c2, rfl, Ap, hcm2⟩ := h18.pN (i := 4) rfl hok
    rw [Ew.out] at Ap ⊢
    have H18 := Lib.hid h18
    have HSA : Hid (Calls Tryz.prog 24 #[.slice A2 len1 c2, .slice a1 len1 cap1] w18 fun e w' => e = .returned (.bool true) ∧ Below w18.heap.size w18 w') := by
      refine (oA A2 a1 len1 len1 c2 cap1 l1 l1 w18 Ap (HL.out _ (yO h18)) HM.out HM.out).mono ?_
      rintro e w' ⟨he, q', rfl⟩
      exact ⟨by rw [he, decide_eq_true rfl], AG (Below.refl _ _) q'⟩
    clear h18 Ap hok f0 f1 f2 f3 HLI
    go_wp2_with fail
    refine HSA.out.mono ?_; rintro e w19 ⟨rfl, hb⟩
    have h19 := H18.out.below hb
    have HS7 : Hid (Calls Tryz.prog 16 #[.pointer (some ⟨p.w, 0, none⟩)] w19 fun e w' => e = .returned (.pointer (some ⟨p.s, 0, none⟩)) ∧ w' = w19) := YR h19
    have HF7 := Lib.hid (uY h19 (x := fr) (by rw [HFRR.out]; show 4000 - (0 + (nb + (0 + (0 + (0 + 0))))) = 4000 - nb; omega))
    clear hb h19 HSA H18
    go_wp2_with fail
    refine HS7.out.mono ?_; rintro e w20 ⟨rfl, rfl⟩
    go_wp2_with fail
    refine HF7.out.mono ?_; rintro e w21 ⟨rfl, h21⟩
    have HEE := Lib.hid (HE.out _ (yO h21))
    obtain ⟨f0, f1, f2, f3⟩ := yQ (h21.row (i := 3) rfl)
    have hq := HQ.out
    have hg := HG.out
    clear h21 HS7 HF7
    go_wp2
    go_ret
    exact ⟨rfl, HEE.out⟩

set_option maxRecDepth 100000 in
theorem lifted (os : Os) (started : os.Started) (H : Type) (enc : TypeId × Value → H) :
    ReturnsInHanded {} Tryz.checked os 5 .any (Rows.sortFaultsSpec.pre6 enc Tryz.prog Tryz.f5 Rows.sortFaultsRow.domain false) (Rows.sortFaultsSpec.post enc Tryz.prog Tryz.f5 false true false false) := by
  refine returnsInHanded_of_change (C := Tryz.checked) own started (by kernel_rfl) Tryz.func5
    (ChangeSpec.witness6 (enc := enc) (C := Tryz.checked) false ⟨#[], #[.agg #[.int .u8 0, .int .u8 0, .int .u8 0, .int .u8 0], .slice none 0 0, .int .u16 0], []⟩ 8 (by kernel_rfl) (by kernel_rfl) (by kernel_rfl) (by kernel_rfl)) ?_
  intro W base args ds gs before hval0 hW hcnd _
  have hval : ∀ (j : Nat) t v, Tryz.f5.params[j]? = some t → args[j]? = some v → Value.okWide Tryz.prog W .any base t v := hval0
  have hW' := hW
  obtain ⟨p, q, hA0, hV, rfl, hfz, oM⟩ := hW
  have hA : DataW.TrodAll enc Tryz.prog W 0 (fun _ => true) true Tryz.f5.params.toList args.toList ds p := hA0
  rw [Tryz.params5] at hA hval
  obtain ⟨v0, vs0, d0, ds0, p0, q0, hargs, rfl, rfl, h0, r0⟩ := trodAll_cons hA
  obtain ⟨v1, vs1, d1, ds1, p1, q1, rfl, rfl, rfl, h1, r1⟩ := trodAll_cons r0
  obtain ⟨v2, vs2, d2, ds2, p2, q2, rfl, rfl, rfl, h2, r2⟩ := trodAll_cons r1
  obtain ⟨rfl, rfl, rfl⟩ := trodAll_nil r2
  obtain rfl : args = #[v0, v1, v2] := by cases args; simp_all
  obtain ⟨rfl, rfl⟩ := trodVars_none hV
  have k0 := h0
  have lt0 : ∀ x ∈ p0, x.block < W.heap.size := by obtain ⟨m, hm⟩ := k0; exact DataW.trod_lt m _ _ _ hm
  have k1 := h1
  have vY : ∀ x ∈ p1, x.block < W.heap.size := by obtain ⟨m, hm⟩ := k1; exact DataW.trod_lt m _ _ _ hm
  have k2 := h2
  have vX : ∀ x ∈ p2, x.block < W.heap.size := by obtain ⟨m, hm⟩ := k2; exact DataW.trod_lt m _ _ _ hm
  obtain ⟨u0, u1, u2, u3, rfl, b0, b1, b2, b3⟩ := kQ Tryz.underlying23 (by kernel_rfl) (by kernel_rfl) Tryz.underlying5 rfl rfl rfl rfl (hval 0 23 v0 rfl rfl) h0
  obtain ⟨a1, len1, cap1, rfl⟩ := okWide_slice Tryz.underlying24 (hval 1 24 v1 rfl rfl)
  obtain ⟨l1, wr1, wm1⟩ : ∃ l, BH W W.heap.size a1 len1 l ∧ len1 ≤ maxLen := by
    obtain ⟨fuel, hf⟩ := h1
    obtain ⟨a', len', OU, l', lp, hr', hm'⟩ := oD Tryz.underlying24 Tryz.underlying63 Tryz.underlying2 (by kernel_rfl) (by kernel_rfl) hf
    injection lp with e1 e2 e3
    subst e1; subst e2
    exact ⟨l', hr', hm'⟩
  obtain ⟨a2, rfl, rfl, rfl, w2⟩ := open_int Tryz.underlying29 (hval 2 29 v2 rfl rfl) h2
  clear hA0 hval0
  refine (walk u0 u1 u2 u3 a1 len1 cap1 l1 a2 W b0 b1 b2 b3 wr1 wm1 w2).mono fun e W' ⟨he, Lg⟩ => ?_
  subst he
  exact ⟨_, rfl, _, _, _, [], _, [], hW', trodAll_mk1 (shut_bool Tryz.underlying4 _), (trodAll_cons_mk (Below.trod laidOut (by kernel_rfl) (of_decide_eq_true (by kernel_rfl)) k0 Lg lt0) (trodAll_cons_mk (Below.trod laidOut (by kernel_rfl) (of_decide_eq_true (by kernel_rfl)) k1 Lg vY) (trodAll_cons_mk (Below.trod laidOut (by kernel_rfl) (of_decide_eq_true (by kernel_rfl)) k2 Lg vX) trodAll_mk0))), rfl, Lg.frame _, fun h => by cases h⟩

theorem over : Rows.sortFaultsRow.holds Tryz.pinned (OpenSpec.ofChange Rows.sortFaultsSpec) :=
  OpenClaim.holds_of_wide 5 Tryz.f5 rfl rfl rfl rfl rfl rfl rfl ⟨rfl, rfl, rfl, rfl, rfl⟩ rfl rfl rfl rfl rfl (by kernel_rfl) Tryz.func5 (by kernel_rfl)
    (of_decide_eq_true (by kernel_rfl)) (by unfold Func.isWrapper; first | (rw [if_pos (by decide +kernel)]; kernel_rfl) | (rw [if_neg (by decide +kernel)]; exact ⟨rfl, rfl⟩))
    (fun os started H enc _ => lifted os started H enc)

theorem proved : Rows.SortFaultsSaid := over
end Go.Proofs.YteldegofbbfaeaaGreat.sortFaults
