/-
  JoinFaults: whatever two tables and fault; no condition.
-/
import Derived.Test.YtfpjmhnmpjdbiaaGreatFivD
import Derived.Test.YtfpjmhnmpjdbiaaGreatRows
import Derived.WalkKit
import Derived.ProofKit
import Derived.OpenShut
import Derived.ShutString
import Derived.ChangeOld
import Derived.Below
namespace Go.Proofs.YtfpjmhnmpjdbiaaGreat.joinFaults
open Go.ChangeShapes Go.WideShapes Go.ChangeAt Go.RowKit
open Go.ChangeMaps (open_string shut_string)
set_option linter.unusedVariables false

theorem own : ownKnob Tryz.prog.godebug = none := by kernel_rfl
theorem laidOut : laidOutB Tryz.prog = true := by kernel_rfl

theorem neq_file (w : World) (a b c d : Int) : (binOp .neq 31 (.agg #[.int .i64 a, .int .i64 b, .int .i64 c, .int .i64 d]) (.agg #[.int .i64 a, .int .i64 b, .int .i64 c, .int .i64 d])).run Tryz.prog w = .ok (.bool false) w := by
  have u3 := Tryz.underlying3
  have hS : Tryz.prog.underlying 31 = some (.struct (Tryz.prog.fieldsOf 31)) := by kernel_rfl
  have hp : Tryz.prog.stoodInHeld 31 = false := by kernel_rfl
  rw [run_neq_struct, show (10000 : Nat) = 9999 + 1 from rfl, run_equalIn_agg w 9999 31 _ _ hS hp]
  simp only [Program.fieldsOf, Tryz.underlying31]
  go_simp
theorem guard_file (w : World) (op : BinOp) (x y : Operand) (xs ys : Array Value) : (eqGuard op 31 x y (.agg xs) (.agg ys)).run Tryz.prog w = .ok () w :=
  run_eqGuard_agg w op 31 x y _ _ (by kernel_rfl)
theorem wd_xw {X : Cx} {os : List Asn} {m : Nat} {W : World} (h : Wd X os m W) (hS : X.S0 = newSp 0 5000) : sumN Asn.xw os ≤ 5000 := by
  obtain ⟨G, D, A, S, hF⟩ := id h
  have h1 := hF.sum
  rw [hS, newsp_sum] at h1
  omega
/-- how a call of the law's ends: a file, or an error without one -/
def UR (X : Cx) (os : List Asn) (e : Ending) (w' : World) : Prop := ∃ (xF xN xK xL er : Int) (N m' : Nat) (tl : List Asn), e = .returned (.tuple #[.agg #[.int .i64 xF, .int .i64 xN, .int .i64 xK, .int .i64 xL], .int .i64 er]) ∧
  (xN = N ∧ (er = 0 ∨ (er = 1 ∨ er = 3 ∨ er = 6) ∧ xF = 0 ∧ xN = 0 ∧ xK = 0 ∧ xL = 0)) ∧ (sumN Asn.gw tl = 0 ∧ sumN Asn.xw tl = N ∧ N ≤ 5000 ∧ m' ≤ 7000) ∧ Wd X (os ++ tl) m' w'
section
variable {X : Cx} {os : List Asn} {Out : List Tup} {m nb bd k : Nat} {e : Ending} {w' : World}
theorem UR.err {er : Nat} (h : Wd X os m w') (hm : m ≤ 7000) (he : er = 1 ∨ er = 3 ∨ er = 6) : UR X os (.returned (.tuple #[.agg #[.int .i64 0, .int .i64 0, .int .i64 0, .int .i64 0], .int .i64 er])) w' :=
  ⟨0, 0, 0, 0, er, 0, m, [], rfl, ⟨rfl, .inr ⟨by omega, rfl, rfl, rfl, rfl⟩⟩, ⟨rfl, rfl, by omega, hm⟩, by rw [List.append_nil]; exact h⟩
theorem UR.file {F N K L h : Nat} {l : List Tup} (hw : Wd X (os ++ [fiO F N K h l X.sz]) m w') (hS : X.S0 = newSp 0 5000) (hm : m ≤ 2000 + N) : UR X os (.returned (.tuple #[.agg #[.int .i64 F, .int .i64 N, .int .i64 K, .int .i64 L], .int .i64 0])) w' := by
  have h1 := wd_xw hw hS
  rw [sumN_app] at h1
  have h2 : sumN Asn.xw [fiO F N K h l X.sz] = N := by show N + 0 = N; omega
  rw [h2] at h1
  exact ⟨F, N, K, L, 0, N, m, _, rfl, ⟨rfl, .inl rfl⟩, ⟨rfl, h2, by omega, by omega⟩, hw⟩
theorem UR.op (h : OpRes X os Out m nb bd k e w') (hS : X.S0 = newSp 0 5000) (hz : ∃ z, Rm X os z (blocksN (holdsI X.sz k) bd)) (hm : m + nb + bd + 2 ≤ 2000) : UR X os e w' := by
  rcases h with ⟨F, N, rfl, hfo, hw⟩ | ⟨er, rfl, hp, ⟨h6, _⟩ | ⟨_, hno⟩, hw⟩
  · exact UR.file hw hS (by omega)
  · exact UR.err hw (by omega) (.inr (.inr h6))
  · obtain ⟨z, hz⟩ := hz
    exact absurd hz (hno z)
theorem UR.look {Good : Prop} (h : LkRes X os Out Good m nb bd k e w') (hS : X.S0 = newSp 0 5000) (hz : ∃ z, Rm X os z (blocksN (holdsI X.sz k) bd)) (hm : m + nb + bd + 2 ≤ 2000) : UR X os e w' := by
  rcases h with ⟨F, N, rfl, hfo, hg, hw⟩ | ⟨er, rfl, hp, ⟨h3, _⟩ | ⟨h6, _⟩ | ⟨_, hno⟩, hw⟩
  · exact UR.file hw hS (by omega)
  · exact UR.err hw (by omega) (.inr (.inl h3))
  · exact UR.err hw (by omega) (.inr (.inr h6))
  · obtain ⟨z, hz⟩ := hz
    exact absurd hz (hno z)
end
theorem ix_app {α : Type} {OS tl : List α} {i : Nat} {a : α} (h : OS[i]? = some a) : (OS ++ tl)[i]? = some a := by
  rw [List.getElem?_append_left (List.getElem?_eq_some_iff.1 h).1]; exact h
theorem ix_end0 {α : Type} {OS tl : List α} {a : α} : (OS ++ a :: tl)[OS.length]? = some a := by
  rw [List.getElem?_append_right (Nat.le_refl _), Nat.sub_self]; rfl
theorem ix_end1 {α : Type} {OS tl : List α} {a b : α} : (OS ++ a :: b :: tl)[OS.length + 1]? = some b := by
  rw [List.getElem?_append_right (Nat.le_add_right _ _), Nat.add_sub_cancel_left]; rfl
theorem inW1 {k : Nat} (h : 0 < k) : inW k ⟨1, 0, 0, 0, 0⟩ := fun i hi => by
  rcases (show i = 0 ∨ i = 1 ∨ i = 2 ∨ i = 3 ∨ i = 4 by omega) with rfl | rfl | rfl | rfl | rfl
  · show -(k : Int) ≤ 1 ∧ (1 : Int) ≤ k; omega
  all_goals (show -(k : Int) ≤ 0 ∧ (0 : Int) ≤ k; omega)

set_option maxHeartbeats 4000000 in
set_option maxRecDepth 100000 in
theorem walk (wd : Nat) (A : Option Addr) (len cap : Nat) (l : List Tup) (wd2 : Nat) (A2 : Option Addr) (len2 cap2 : Nat) (l2 : List Tup) (a2 : Int) (w : World) (bw : wd ≤ 255) (wr : ReadsT w w.heap.size A len l) (wm : len ≤ maxLen) (bw2 : wd2 ≤ 255) (wr2 : ReadsT w w.heap.size A2 len2 l2) (wm2 : len2 ≤ maxLen) (w2 : (Lit.int .u8 a2).wf = true) :
    Calls Tryz.prog 4 #[.agg #[.int .u8 wd, .slice A len cap], .agg #[.int .u8 wd2, .slice A2 len2 cap2], .int .u8 a2] w fun e w' => e = .returned (.bool true) ∧ Below w.heap.size w w' := by
  obtain ⟨nn, rfl⟩ := Int.eq_ofNat_of_zero_le (show 0 ≤ a2 by have := bounds_u8 w2; omega)
  have hn8 : nn ≤ 255 := by have := bounds_u8 w2; omega
  clear w2
  obtain ⟨W1, hW1⟩ : ∃ W1, W1 = (w.alloc (.cells #[.int .u8 wd, .slice A len cap] 24)).alloc (.cells #[.int .u8 wd2, .slice A2 len2 cap2] 24) := ⟨_, rfl⟩
  have hb0 : Below w.heap.size w (w.alloc (.cells #[.int .u8 wd, .slice A len cap] 24)) := (Below.refl _ _).alloc (Nat.le_refl _) _
  have hb1 : Below w.heap.size w W1 := by rw [hW1]; exact hb0.alloc hb0.size _
  have r0 : Row (w.alloc (.cells #[.int .u8 wd, .slice A len cap] 24)) w.heap.size 24 [.int .u8 wd, .slice A len cap] := heap_alloc_new _ _
  have r1 : Row W1 w.heap.size 24 [.int .u8 wd, .slice A len cap] := by rw [hW1]; exact r0.below ((Below.refl _ _).alloc (Nat.le_refl _) _) r0.lt
  have r2 : Row W1 (w.heap.size + 1) 24 [.int .u8 wd2, .slice A2 len2 cap2] := by
    have q : Row ((w.alloc (.cells #[.int .u8 wd, .slice A len cap] 24)).alloc (.cells #[.int .u8 wd2, .slice A2 len2 cap2] 24)) (w.alloc (.cells #[.int .u8 wd, .slice A len cap] 24)).heap.size 24 [.int .u8 wd2, .slice A2 len2 cap2] := heap_alloc_new _ _
    rw [← hW1, show (w.alloc (.cells #[.int .u8 wd, .slice A len cap] 24)).heap.size = w.heap.size + 1 by simp] at q
    exact q
  have HW1 := Lib.hid hW1
  have HTB : Hid (∀ u, Below W1.heap.size W1 u → (u.cell? ⟨w.heap.size, 0, none⟩ = some (.int .u8 wd) ∧ u.cell? ⟨w.heap.size, 1, none⟩ = some (.slice A len cap)) ∧ u.cell? ⟨w.heap.size + 1, 0, none⟩ = some (.int .u8 wd2) ∧ u.cell? ⟨w.heap.size + 1, 1, none⟩ = some (.slice A2 len2 cap2)) := fun W hb => by
    have q := r1.below hb r1.lt
    have q2 := r2.below hb r2.lt
    exact ⟨⟨q.cell 0, q.cell 1⟩, q2.cell 0, q2.cell 1⟩
  have HE : Hid (∀ W, Below W1.heap.size W1 W → Below w.heap.size w W) := fun W hb => hb1.trans (hb.mono hb1.size)
  have HL : Hid (∀ W, Below W1.heap.size W1 W → ReadsT W W.heap.size A len l) := fun W hb => by
    have h1 := hb1.trans (hb.mono hb1.size)
    exact (wr.keep h1).mono h1.size
  have HL2 : Hid (∀ W, Below W1.heap.size W1 W → ReadsT W W.heap.size A2 len2 l2) := fun W hb => by
    have h1 := hb1.trans (hb.mono hb1.size)
    exact (wr2.keep h1).mono h1.size
  have HLEN : Hid (l.length = len) := wr.1
  have HLEN2 : Hid (l2.length = len2) := wr2.1
  have HAW : Hid (∀ W, Calls Tryz.prog 8 #[] W fun e w' => e = .returned (.bool true) ∧ Below W.heap.size W w') := fun W => awake13_any W
  have HWK := Lib.hid (work13_any W1)
  have HM := Lib.hid wm
  have HM2 := Lib.hid wm2
  have hm1 : len ≤ 9223372036854775807 := by unfold maxLen at wm; omega
  have hm2 : len2 ≤ 9223372036854775807 := by unfold maxLen at wm2; omega
  obtain ⟨k1, hk1⟩ : ∃ k1, k1 = tW wd := ⟨_, rfl⟩
  obtain ⟨k2, hk2⟩ : ∃ k2, k2 = tW wd2 := ⟨_, rfl⟩
  have hk15 : 0 < k1 ∧ k1 ≤ 5 := by rw [hk1]; exact tW_le wd
  have hk25 : 0 < k2 ∧ k2 ≤ 5 := by rw [hk2]; exact tW_le wd2
  have HK1 := Lib.hid hk1
  have HK2 := Lib.hid hk2
  clear hW1 hb0 hb1 r0 r1 r2 wr wm wr2 wm2 hk1 hk2
  go_enter Tryz.func4, Tryz.ntmps4
  go_upto_region 1 with (fail)
  rw [← HW1.out]
  clear HW1
  go_wp2_with fail
  refine HWK.out.mono ?_
  rintro e w2 ⟨p, G, rfl, hs, hG, hb⟩
  have H2 : Hid (Wd (cxL W1 p 60 12 5000 True 0) [] 0 w2) := cx_start hs hG hb (by omega) (by omega)
  clear hs hG hb HWK
  go_wp2_with fail
  refine (HAW.out _).mono ?_; rintro e w3 ⟨rfl, hb⟩
  have H3 := Lib.hid (H2.out.below hb)
  clear hb H2
  have HLL : Hid (Calls Tryz.prog 9 #[.pointer (some ⟨p.w, 0, none⟩), .agg #[.int .u8 wd, .slice A len cap]] w3 (LlRes (cxL W1 p 60 12 5000 True 0) [] 0 wd l)) :=
    llay_any H3.out trivial (fun z m' W' q => HL.out W' q.bel) HM.out (by show 12 + 0 ≤ 60; omega) (by show 0 + 0 + 300 ≤ 1000000; omega) (fun q hq => rm_law rfl (by simp) (fun a ha => by cases ha) hq)
  obtain ⟨⟨t0, t1⟩, t2, t3⟩ := HTB.out w3 H3.out.bel
  go_wp2_with fail
  refine HLL.out.mono ?_
  rintro e w4 (⟨_, rfl, hw4⟩ | ⟨hl200, hfit, F1, N1, rfl, hfo, hw4⟩)
  · obtain ⟨w5, hw5⟩ : ∃ w5, w5 = w4.alloc (.cells #[.int .i64 0, .int .i64 0, .int .i64 0, .int .i64 0] 31) := ⟨_, rfl⟩
    have h5 : Wd (cxL W1 p 60 12 5000 True 0) [] 0 w5 := by rw [hw5]; exact hw4.below ((Below.refl _ _).alloc (Nat.le_refl _) _)
    have H5 := Lib.hid h5
    have HW5 := Lib.hid hw5
    have HL5 : Hid (Calls Tryz.prog 9 #[.pointer (some ⟨p.w, 0, none⟩), .agg #[.int .u8 wd2, .slice A2 len2 cap2]] w5 (LlRes (cxL W1 p 60 12 5000 True 0) [] 0 wd2 l2)) :=
      llay_any H5.out trivial (fun z m' W' q => HL2.out W' q.bel) HM2.out (by show 12 + 0 ≤ 60; omega) (by show 0 + 0 + 300 ≤ 1000000; omega) (fun q hq => rm_law rfl (by simp) (fun a ha => by cases ha) hq)
    clear hw4 h5 hw5 HLL t0 t1 t2 t3
    go_upto_region 5 with (fail)
    rw [← HW5.out]
    clear HW5
    obtain ⟨⟨t0, t1⟩, t2, t3⟩ := HTB.out w5 H5.out.bel
    go_wp2_with fail
    refine HL5.out.mono ?_
    rintro e w6 (⟨_, rfl, hw6⟩ | ⟨-, -, F2, N2, rfl, -, hw6⟩)
    · have HB90 := Lib.hid (HE.out _ (hw6.below ((Below.refl _ _).alloc (Nat.le_refl _) (.cells #[.int .i64 0, .int .i64 0, .int .i64 0, .int .i64 0] 31))).bel)
      clear hw6 HL5 t0 t1 t2 t3
      go_wp2
      go_ret
      exact ⟨rfl, HB90.out⟩
    · have HB90 : Hid (∀ cs, Below w.heap.size w (w6.alloc (.cells cs 31))) := fun cs => HE.out _ (hw6.below ((Below.refl _ _).alloc (Nat.le_refl _) (.cells cs 31))).bel
      clear hw6 HL5 t0 t1 t2 t3
      go_wp2
      go_ret
      exact ⟨rfl, HB90.out _⟩
  rw [← HK1.out] at hfo hw4
  have hw4 : Wd (cxL W1 p 60 12 5000 True 0) [fiO F1 N1 k1 (holdsI 12 (k1 : Nat)) l 12] (0 + N1) w4 := hw4
  have hN1 : N1 ≤ 200 := by rw [hfo.bn]; exact Nat.le_trans (blocks_le _ _) hl200
  obtain ⟨w5, hw5⟩ : ∃ w5, w5 = w4.alloc (.cells #[.int .i64 F1, .int .i64 N1, .int .i64 k1, .int .i64 len] 31) := ⟨_, rfl⟩
  have h5 : Wd (cxL W1 p 60 12 5000 True 0) [fiO F1 N1 k1 (holdsI 12 (k1 : Nat)) l 12, rowO w4.heap.size 31 [.int .i64 F1, .int .i64 N1, .int .i64 k1, .int .i64 len]] (0 + N1) w5 := by
    rw [hw5]
    exact hw4.new ((Below.refl _ _).alloc (Nat.le_refl _) _) (heap_alloc_new _ _ : Row _ _ 31 [.int .i64 F1, .int .i64 N1, .int .i64 k1, .int .i64 len]) (Nat.le_refl _)
  have H5 := Lib.hid h5
  have HFO := Lib.hid hfo
  have HW5 := Lib.hid hw5
  have H200 : Hid (len ≤ 200) := by unfold Hid; rw [← HLEN.out]; exact hl200
  have HL5 : Hid (Calls Tryz.prog 9 #[.pointer (some ⟨p.w, 0, none⟩), .agg #[.int .u8 wd2, .slice A2 len2 cap2]] w5 (LlRes (cxL W1 p 60 12 5000 True 0) [fiO F1 N1 k1 (holdsI 12 (k1 : Nat)) l 12, rowO w4.heap.size 31 [.int .i64 F1, .int .i64 N1, .int .i64 k1, .int .i64 len]] (0 + N1) wd2 l2)) :=
    llay_any H5.out trivial (fun z m' W' q => HL2.out W' q.bel) HM2.out (by show 12 + 0 ≤ 60; omega) (by show 0 + (0 + N1) + 300 ≤ 1000000; omega) (fun q hq => rm_law rfl (by simp) (fun a ha => by
      simp at ha
      rcases ha with rfl | rfl
      · exact hN1
      · exact Nat.zero_le _) hq)
  clear hw4 h5 hfo hw5 hl200 hfit HLL t0 t1 t2 t3
  rw [HLEN.out, ← HK1.out]
  go_upto_region 5 with (fail)
  rw [← HW5.out]
  clear HW5
  generalize w4.heap.size = fb at *
  obtain ⟨⟨t0, t1⟩, t2, t3⟩ := HTB.out w5 H5.out.bel
  go_wp2_with fail
  refine HL5.out.mono ?_
  rintro e w6 (⟨_, rfl, hw6⟩ | ⟨hl200, hfit, F2, N2, rfl, hfo, hw6⟩)
  · have HB90 := Lib.hid (HE.out _ (hw6.below ((Below.refl _ _).alloc (Nat.le_refl _) (.cells #[.int .i64 0, .int .i64 0, .int .i64 0, .int .i64 0] 31))).bel)
    clear hw6 HL5 t0 t1 t2 t3
    go_wp2
    go_ret
    exact ⟨rfl, HB90.out⟩
  rw [← HK2.out] at hfo hw6
  have hw6 : Wd (cxL W1 p 60 12 5000 True 0) [fiO F1 N1 k1 (holdsI 12 (k1 : Nat)) l 12, rowO fb 31 [.int .i64 F1, .int .i64 N1, .int .i64 k1, .int .i64 len], fiO F2 N2 k2 (holdsI 12 (k2 : Nat)) l2 12] (0 + N1 + N2) w6 := hw6
  have hN2 : N2 ≤ 200 := by rw [hfo.bn]; exact Nat.le_trans (blocks_le _ _) hl200
  obtain ⟨w7, hw7⟩ : ∃ w7, w7 = w6.alloc (.cells #[.int .i64 F2, .int .i64 N2, .int .i64 k2, .int .i64 len2] 31) := ⟨_, rfl⟩
  have h7 : Wd (cxL W1 p 60 12 5000 True 0) [fiO F1 N1 k1 (holdsI 12 (k1 : Nat)) l 12, rowO fb 31 [.int .i64 F1, .int .i64 N1, .int .i64 k1, .int .i64 len], fiO F2 N2 k2 (holdsI 12 (k2 : Nat)) l2 12, rowO w6.heap.size 31 [.int .i64 F2, .int .i64 N2, .int .i64 k2, .int .i64 len2]] (0 + N1 + N2) w7 := by
    rw [hw7]
    exact hw6.new ((Below.refl _ _).alloc (Nat.le_refl _) _) (heap_alloc_new _ _ : Row _ _ 31 [.int .i64 F2, .int .i64 N2, .int .i64 k2, .int .i64 len2]) (Nat.le_refl _)
  have H7 := Lib.hid h7
  have HFO2 := Lib.hid hfo
  have HW7 := Lib.hid hw7
  have H2002 : Hid (len2 ≤ 200) := by unfold Hid; rw [← HLEN2.out]; exact hl200
  clear hw6 h7 hfo hw7 hl200 hfit HL5 H5 t0 t1 t2 t3
  rw [HLEN2.out, ← HK2.out]
  go_upto_region 6 with (fail)
  rw [← HW7.out]
  clear HW7
  generalize w6.heap.size = gb at *
  have HD9 : Hid (Calls Tryz.prog 17 #[.pointer (some ⟨p.w, 0, none⟩)] w7 fun e w' => e = .returned (.pointer (some ⟨p.d, 0, none⟩)) ∧ w' = w7) := wd_dev H7.out
  have HFA9 : Hid (Calls Tryz.prog 18 #[.pointer (some ⟨p.d, 0, none⟩), .int .i64 nn] w7 fun e w' => e = .returned (.tuple #[]) ∧ Wd (cxL W1 p 60 12 5000 False 0) [fiO F1 N1 k1 (holdsI 12 (k1 : Nat)) l 12, rowO fb 31 [.int .i64 F1, .int .i64 N1, .int .i64 k1, .int .i64 len], fiO F2 N2 k2 (holdsI 12 (k2 : Nat)) l2 12, rowO gb 31 [.int .i64 F2, .int .i64 N2, .int .i64 k2, .int .i64 len2]] (0 + N1 + N2) w') := wd_fault H7.out nn (by omega)
  go_wp2_with fail
  refine HD9.out.mono ?_; rintro e w8 ⟨rfl, rfl⟩
  go_wp2_with fail
  refine HFA9.out.mono ?_; rintro e w8 ⟨rfl, hw8⟩
  obtain ⟨w9, hw9⟩ : ∃ w9, w9 = w8.alloc (.cells #[.int .i64 0, .int .i64 0, .int .i64 0, .int .i64 0] 31) := ⟨_, rfl⟩
  have h9 : Wd (cxL W1 p 60 12 5000 False 0) [fiO F1 N1 k1 (holdsI 12 (k1 : Nat)) l 12, rowO fb 31 [.int .i64 F1, .int .i64 N1, .int .i64 k1, .int .i64 len], fiO F2 N2 k2 (holdsI 12 (k2 : Nat)) l2 12, rowO gb 31 [.int .i64 F2, .int .i64 N2, .int .i64 k2, .int .i64 len2], rowO w8.heap.size 31 [.int .i64 0, .int .i64 0, .int .i64 0, .int .i64 0]] (0 + N1 + N2) w9 := by
    rw [hw9]
    exact hw8.new ((Below.refl _ _).alloc (Nat.le_refl _) _) (heap_alloc_new _ _ : Row _ _ 31 [.int .i64 0, .int .i64 0, .int .i64 0, .int .i64 0]) (Nat.le_refl _)
  have H9 := Lib.hid h9
  have HW9 := Lib.hid hw9
  clear hw8 h9 hw9 HD9 HFA9 H7
  go_upto_region 10 with (fail)
  rw [← HW9.out]
  clear HW9
  generalize w8.heap.size = xb at *
  obtain ⟨r, hr⟩ : ∃ r, r = nn % 4 := ⟨_, rfl⟩
  have hr4 : r = 0 ∨ r = 1 ∨ r = 2 ∨ r = 3 := by omega
  have t0 : Int.tmod (nn : Int) 4 = (r : Int) := by rw [hr]; rfl
  have m0 : (nn : Int) % 4 = (r : Int) := by rw [hr]; rfl
  have hR1 : Hid (∀ n, n ≤ 200 → ∃ z, Rm (cxL W1 p 60 12 5000 False 0) [fiO F1 N1 k1 (holdsI 12 (k1 : Nat)) l 12, rowO fb 31 [.int .i64 F1, .int .i64 N1, .int .i64 k1, .int .i64 len], fiO F2 N2 k2 (holdsI 12 (k2 : Nat)) l2 12, rowO gb 31 [.int .i64 F2, .int .i64 N2, .int .i64 k2, .int .i64 len2], rowO xb 31 [.int .i64 0, .int .i64 0, .int .i64 0, .int .i64 0]] z n) := fun n hn => rm_law rfl (by simp) (fun a ha => by
    simp at ha
    rcases ha with rfl | rfl | rfl | rfl | rfl
    · exact hN1
    · exact Nat.zero_le _
    · exact hN2
    · exact Nat.zero_le _
    · exact Nat.zero_le _) hn
  obtain ⟨⟨a0, a1, a2, a3⟩, b0, b1, b2, b3⟩ : (w9.cell? ⟨fb, 0, none⟩ = some (.int .i64 F1) ∧ w9.cell? ⟨fb, 1, none⟩ = some (.int .i64 N1) ∧ w9.cell? ⟨fb, 2, none⟩ = some (.int .i64 k1) ∧ w9.cell? ⟨fb, 3, none⟩ = some (.int .i64 len)) ∧ w9.cell? ⟨gb, 0, none⟩ = some (.int .i64 F2) ∧ w9.cell? ⟨gb, 1, none⟩ = some (.int .i64 N2) ∧ w9.cell? ⟨gb, 2, none⟩ = some (.int .i64 k2) ∧ w9.cell? ⟨gb, 3, none⟩ = some (.int .i64 len2) := by
    have q2 : Row w9 fb 31 [.int .i64 F1, .int .i64 N1, .int .i64 k1, .int .i64 len] := H9.out.row (i := 1) rfl
    have q3 : Row w9 gb 31 [.int .i64 F2, .int .i64 N2, .int .i64 k2, .int .i64 len2] := H9.out.row (i := 3) rfl
    exact ⟨⟨q2.cell 0, q2.cell 1, q2.cell 2, q2.cell 3⟩, q3.cell 0, q3.cell 1, q3.cell 2, q3.cell 3⟩
  have h20 := H200.out
  have h202 := H2002.out
  clear hr
  rcases hr4 with rfl | rfl | rfl | rfl
  · have HOP : Hid (Calls Tryz.prog 19 #[.pointer (some ⟨p.w, 0, none⟩), .agg #[.int .i64 F1, .int .i64 N1, .int .i64 k1, .int .i64 len], .int .i64 0, .agg #[.int .i64 F2, .int .i64 N2, .int .i64 k2, .int .i64 len2], .int .i64 0, .int .i64 1] w9 (UR (cxL W1 p 60 12 5000 False 0) [fiO F1 N1 k1 (holdsI 12 (k1 : Nat)) l 12, rowO fb 31 [.int .i64 F1, .int .i64 N1, .int .i64 k1, .int .i64 len], fiO F2 N2 k2 (holdsI 12 (k2 : Nat)) l2 12, rowO gb 31 [.int .i64 F2, .int .i64 N2, .int .i64 k2, .int .i64 len2], rowO xb 31 [.int .i64 0, .int .i64 0, .int .i64 0, .int .i64 0]])) := ((wd_look (X := cxL W1 p 60 12 5000 False 0) (key := 0) (value := 0) (to_ := 1) H9.out HFO.out List.mem_cons_self HLEN.out HFO2.out (List.mem_cons_of_mem _ (List.mem_cons_of_mem _ List.mem_cons_self)) HLEN2.out (by omega) (by omega) (by omega) rfl (by show 3 * 12 + 0 ≤ 60; omega) (by show 0 + (0 + N1 + N2) + N1 + N2 + len + 2 ≤ 1000000; omega))).mono (fun e w' h => UR.look h rfl (hR1.out _ (Nat.le_trans (blocks_le _ _) h20)) (by omega))
    clear h20 h202
    go_wp2_with fail
    refine HOP.out.mono ?_
    clear HOP
    clear a0 a1 a2 a3 b0 b1 b2 b3
    rintro e w10 ⟨xF, xN, xK, xL, er, N, m', tl, rfl, hx, htl, hw10⟩
    have hw10 : Wd (cxL W1 p 60 12 5000 False 0) ([fiO F1 N1 k1 (holdsI 12 (k1 : Nat)) l 12, rowO fb 31 [.int .i64 F1, .int .i64 N1, .int .i64 k1, .int .i64 len], fiO F2 N2 k2 (holdsI 12 (k2 : Nat)) l2 12, rowO gb 31 [.int .i64 F2, .int .i64 N2, .int .i64 k2, .int .i64 len2]] ++ [] ++ [rowO xb 31 [.int .i64 0, .int .i64 0, .int .i64 0, .int .i64 0]] ++ tl) m' w10 := hw10
    have z6 := opn_row hw10
    have z0 : w10.cell? ⟨xb, 0, none⟩ = some (.int .i64 0) := z6.cell 0
    have z1 : w10.cell? ⟨xb, 1, none⟩ = some (.int .i64 0) := z6.cell 1
    have z2 : w10.cell? ⟨xb, 2, none⟩ = some (.int .i64 0) := z6.cell 2
    have z3 : w10.cell? ⟨xb, 3, none⟩ = some (.int .i64 0) := z6.cell 3
    have f0 := z6.free 0
    have f1 := z6.free 1
    have f2 := z6.free 2
    have f3 := z6.free 3
    have H11 : Hid (Wd (cxL W1 p 60 12 5000 False 0) (fiO F1 N1 k1 (holdsI 12 (k1 : Nat)) l 12 :: rowO fb 31 [.int .i64 F1, .int .i64 N1, .int .i64 k1, .int .i64 len] :: fiO F2 N2 k2 (holdsI 12 (k2 : Nat)) l2 12 :: rowO gb 31 [.int .i64 F2, .int .i64 N2, .int .i64 k2, .int .i64 len2] :: rowO xb 31 [.int .i64 xF, .int .i64 xN, .int .i64 xK, .int .i64 xL] :: tl) m' ((((w10.setCell ⟨xb, 0, none⟩ (.int .i64 xF)).setCell ⟨xb, 1, none⟩ (.int .i64 xN)).setCell ⟨xb, 2, none⟩ (.int .i64 xK)).setCell ⟨xb, 3, none⟩ (.int .i64 xL))) := opn_store rfl hw10 (.int .i64 xF) (.int .i64 xN) (.int .i64 xK) (.int .i64 xL)
    have HX := Lib.hid hx
    have HTL := Lib.hid htl
    clear hw10 z6 hx htl H9 t0 m0
    go_upto_region 20 with (fail)
    generalize (((w10.setCell ⟨xb, 0, none⟩ (.int .i64 xF)).setCell ⟨xb, 1, none⟩ (.int .i64 xN)).setCell ⟨xb, 2, none⟩ (.int .i64 xK)).setCell ⟨xb, 3, none⟩ (.int .i64 xL) = w11 at *
    clear z0 z1 z2 z3 f0 f1 f2 f3
    have HD11 : Hid (Calls Tryz.prog 17 #[.pointer (some ⟨p.w, 0, none⟩)] w11 fun e w' => e = .returned (.pointer (some ⟨p.d, 0, none⟩)) ∧ w' = w11) := wd_dev H11.out
    have HH11 : Hid (Calls Tryz.prog 18 #[.pointer (some ⟨p.d, 0, none⟩), .int .i64 (-1)] w11 fun e w' => e = .returned (.tuple #[]) ∧ Wd (cxL W1 p 60 12 5000 True 0) (fiO F1 N1 k1 (holdsI 12 (k1 : Nat)) l 12 :: rowO fb 31 [.int .i64 F1, .int .i64 N1, .int .i64 k1, .int .i64 len] :: fiO F2 N2 k2 (holdsI 12 (k2 : Nat)) l2 12 :: rowO gb 31 [.int .i64 F2, .int .i64 N2, .int .i64 k2, .int .i64 len2] :: rowO xb 31 [.int .i64 xF, .int .i64 xN, .int .i64 xK, .int .i64 xL] :: tl) m' w') := wd_heal H11.out
    go_wp2_with fail
    refine HD11.out.mono ?_; rintro e w12 ⟨rfl, rfl⟩
    go_wp2_with fail
    refine HH11.out.mono ?_; rintro e w13 ⟨rfl, h13⟩
    obtain ⟨OS, hOS⟩ : ∃ OS : List Asn, OS = fiO F1 N1 k1 (holdsI 12 (k1 : Nat)) l 12 :: rowO fb 31 [.int .i64 F1, .int .i64 N1, .int .i64 k1, .int .i64 len] :: fiO F2 N2 k2 (holdsI 12 (k2 : Nat)) l2 12 :: rowO gb 31 [.int .i64 F2, .int .i64 N2, .int .i64 k2, .int .i64 len2] :: rowO xb 31 [.int .i64 xF, .int .i64 xN, .int .i64 xK, .int .i64 xL] :: tl := ⟨_, rfl⟩
    rw [← hOS] at h13
    have HROW : Hid (∀ (tl2 : List Asn) m2 u, Wd (cxL W1 p 60 12 5000 True 0) (OS ++ tl2) m2 u → (((u.cell? ⟨w.heap.size, 0, none⟩ = some (.int .u8 wd) ∧ u.cell? ⟨w.heap.size, 1, none⟩ = some (.slice A len cap)) ∧ u.cell? ⟨w.heap.size + 1, 0, none⟩ = some (.int .u8 wd2) ∧ u.cell? ⟨w.heap.size + 1, 1, none⟩ = some (.slice A2 len2 cap2)) ∧ (u.cell? ⟨fb, 0, none⟩ = some (.int .i64 F1) ∧ u.cell? ⟨fb, 1, none⟩ = some (.int .i64 N1) ∧ u.cell? ⟨fb, 2, none⟩ = some (.int .i64 k1) ∧ u.cell? ⟨fb, 3, none⟩ = some (.int .i64 len)) ∧ (u.cell? ⟨gb, 0, none⟩ = some (.int .i64 F2) ∧ u.cell? ⟨gb, 1, none⟩ = some (.int .i64 N2) ∧ u.cell? ⟨gb, 2, none⟩ = some (.int .i64 k2) ∧ u.cell? ⟨gb, 3, none⟩ = some (.int .i64 len2)) ∧ u.cell? ⟨xb, 0, none⟩ = some (.int .i64 xF) ∧ u.cell? ⟨xb, 1, none⟩ = some (.int .i64 xN) ∧ u.cell? ⟨xb, 2, none⟩ = some (.int .i64 xK) ∧ u.cell? ⟨xb, 3, none⟩ = some (.int .i64 xL))) := fun tl2 m2 u q => by
      rw [hOS] at q
      have q2 : Row u fb 31 [.int .i64 F1, .int .i64 N1, .int .i64 k1, .int .i64 len] := q.row (i := 1) rfl
      have q3 : Row u gb 31 [.int .i64 F2, .int .i64 N2, .int .i64 k2, .int .i64 len2] := q.row (i := 3) rfl
      have q4 : Row u xb 31 [.int .i64 xF, .int .i64 xN, .int .i64 xK, .int .i64 xL] := q.row (i := 4) rfl
      exact ⟨HTB.out u q.bel, ⟨q2.cell 0, q2.cell 1, q2.cell 2, q2.cell 3⟩, ⟨q3.cell 0, q3.cell 1, q3.cell 2, q3.cell 3⟩, q4.cell 0, q4.cell 1, q4.cell 2, q4.cell 3⟩
    have HI0 : Hid (OS[0]? = some (fiO F1 N1 k1 (holdsI 12 (k1 : Nat)) l 12)) := by unfold Hid; rw [hOS]; rfl
    have HI2 : Hid (OS[2]? = some (fiO F2 N2 k2 (holdsI 12 (k2 : Nat)) l2 12)) := by unfold Hid; rw [hOS]; rfl
    have HGW : Hid (sumN Asn.gw OS = 0) := by
      unfold Hid
      have := HTL.out.1
      rw [hOS]
      show 0 + (0 + (0 + (0 + (0 + sumN Asn.gw tl)))) = 0
      omega
    have HXW : Hid (sumN Asn.xw OS = N1 + N2 + N) := by
      unfold Hid
      have := HTL.out.2.1
      rw [hOS]
      show N1 + (0 + (N2 + (0 + (0 + sumN Asn.xw tl)))) = N1 + N2 + N
      omega
    have H13 : Hid (Wd (cxL W1 p 60 12 5000 True 0) (OS ++ []) m' w13) := by unfold Hid; rw [List.append_nil]; exact h13
    have HMB : Hid (N ≤ 5000 ∧ m' ≤ 7000) := HTL.out.2.2
    clear h13 HD11 HH11 H11 hOS HTL
    obtain ⟨⟨⟨t0, t1⟩, t2, t3⟩, ⟨a0, a1, a2, a3⟩, ⟨b0, b1, b2, b3⟩, x0, x1, x2, x3⟩ := HROW.out _ _ _ H13.out
    have HQ : Hid (∀ W, (binOp .neq 31 (.agg #[.int .i64 0, .int .i64 0, .int .i64 0, .int .i64 0]) (.agg #[.int .i64 0, .int .i64 0, .int .i64 0, .int .i64 0])).run Tryz.prog W = .ok (.bool false) W) := fun W => neq_file W 0 0 0 0
    have HG : Hid (∀ W op x y xs ys, (eqGuard op 31 x y (.agg xs) (.agg ys)).run Tryz.prog W = .ok () W) := fun W op x y xs ys => guard_file W op x y xs ys
    go_upto_region 21 with (fail)
    go_cut [105] from 83 to 105 (fun v wx => v = .bool false ∧ wx = w13)
    case first =>
      obtain ⟨-, rfl | ⟨rfl | rfl | rfl, rfl, hz, rfl, rfl⟩⟩ := HX.out
      · go_wp2_with fail
        go_meet
        exact ⟨rfl, rfl⟩
      all_goals (subst hz; have hq := HQ.out; have hg := HG.out; go_wp2_with fail; go_meet; exact ⟨rfl, rfl⟩)
    case rest =>
      obtain ⟨rfl, rfl⟩ := hcut
      have HLI : Hid (∀ u, Wd (cxL W1 p 60 12 5000 True 0) (OS ++ []) m' u → Calls Tryz.prog 14 #[.pointer (some ⟨p.w, 0, none⟩), .agg #[.int .i64 F1, .int .i64 N1, .int .i64 k1, .int .i64 len]] u fun e w' => ∃ v, e = .returned (.tuple #[v, .int .i64 0]) ∧ Wd (cxL W1 p 60 12 5000 True 0) (OS ++ [tlO (cxL W1 p 60 12 5000 True 0) v l]) (m' + N1) w') := fun u q => by
        have hm := HMB.out
        have hg := HGW.out
        rw [List.append_nil] at q
        exact wd_list (X := cxL W1 p 60 12 5000 True 0) q (i := 0) HI0.out HFO.out trivial (by show 12 ≤ 60 - sumN Asn.gw OS; omega) (by show 0 + m' + N1 + 1 ≤ 1000000; omega) HLEN.out
      have HLI2 : Hid (∀ v u, Wd (cxL W1 p 60 12 5000 True 0) (OS ++ [tlO (cxL W1 p 60 12 5000 True 0) v l]) (m' + N1) u → Calls Tryz.prog 14 #[.pointer (some ⟨p.w, 0, none⟩), .agg #[.int .i64 F2, .int .i64 N2, .int .i64 k2, .int .i64 len2]] u fun e w' => ∃ v2, e = .returned (.tuple #[v2, .int .i64 0]) ∧ Wd (cxL W1 p 60 12 5000 True 0) (OS ++ [tlO (cxL W1 p 60 12 5000 True 0) v l, tlO (cxL W1 p 60 12 5000 True 0) v2 l2]) (m' + N1 + N2) w') := fun v u q => by
        have hm := HMB.out
        have hg := HGW.out
        have hg2 : sumN Asn.gw (OS ++ [tlO (cxL W1 p 60 12 5000 True 0) v l]) = 0 := by rw [sumN_app, hg]; rfl
        refine (wd_list (X := cxL W1 p 60 12 5000 True 0) q (i := 2) (ix_app HI2.out) HFO2.out trivial (by rw [hg2]; show 12 ≤ 60 - 0; omega) (by show 0 + (m' + N1) + N2 + 1 ≤ 1000000; omega) HLEN2.out).mono ?_
        rintro e w' ⟨v2, he, hw⟩
        rw [List.append_assoc] at hw
        exact ⟨v2, he, hw⟩
      go_wp2_with fail
      refine (HLI.out _ H13.out).mono ?_
      rintro e w14 ⟨v, rfl, hw14⟩
      have H14 := Lib.hid hw14
      clear hw14 t0 t1 t2 t3 a0 a1 a2 a3 b0 b1 b2 b3 x0 x1 x2 x3 H13
      obtain ⟨-, ⟨a0, a1, a2, a3⟩, ⟨b0, b1, b2, b3⟩, x0, x1, x2, x3⟩ := HROW.out _ _ _ H14.out
      go_wp2_with fail
      refine (HLI2.out _ _ H14.out).mono ?_
      rintro e w15 ⟨v2, rfl, hw15⟩
      clear a0 a1 a2 a3 b0 b1 b2 b3 x0 x1 x2 x3 H14
      obtain ⟨A9, c9, rfl, _, hc9⟩ := hw15.tread (i := OS.length) ix_end0 (fun u hu => (HFO.out.fit u hu).1)
      obtain ⟨B9, d9, rfl, _, hd9⟩ := hw15.tread (i := OS.length + 1) ix_end1 (fun u hu => (HFO2.out.fit u hu).1)
      rw [HLEN.out, HLEN2.out] at hw15
      rw [HLEN.out, HLEN2.out]
      obtain ⟨S2, hS2⟩ : ∃ S2 : World → Prop, ∀ u, S2 u ↔ Wd (cxL W1 p 60 12 5000 True 0) (OS ++ [tlO (cxL W1 p 60 12 5000 True 0) (.slice A9 len c9) l, tlO (cxL W1 p 60 12 5000 True 0) (.slice B9 len2 d9) l2]) (m' + N1 + N2) u := ⟨_, fun _ => Iff.rfl⟩
      have HS15 : Hid (S2 w15) := (hS2 _).2 hw15
      have HSTB2 : Hid (∀ u u', S2 u → Below u.heap.size u u' → S2 u') := fun u u' q hb => (hS2 _).2 (((hS2 _).1 q).below hb)
      have HCE2 : Hid (∀ u, S2 u → (((u.cell? ⟨w.heap.size, 0, none⟩ = some (.int .u8 wd) ∧ u.cell? ⟨w.heap.size, 1, none⟩ = some (.slice A len cap)) ∧ u.cell? ⟨w.heap.size + 1, 0, none⟩ = some (.int .u8 wd2) ∧ u.cell? ⟨w.heap.size + 1, 1, none⟩ = some (.slice A2 len2 cap2)) ∧ (u.cell? ⟨fb, 0, none⟩ = some (.int .i64 F1) ∧ u.cell? ⟨fb, 1, none⟩ = some (.int .i64 N1) ∧ u.cell? ⟨fb, 2, none⟩ = some (.int .i64 k1) ∧ u.cell? ⟨fb, 3, none⟩ = some (.int .i64 len)) ∧ (u.cell? ⟨gb, 0, none⟩ = some (.int .i64 F2) ∧ u.cell? ⟨gb, 1, none⟩ = some (.int .i64 N2) ∧ u.cell? ⟨gb, 2, none⟩ = some (.int .i64 k2) ∧ u.cell? ⟨gb, 3, none⟩ = some (.int .i64 len2)) ∧ u.cell? ⟨xb, 0, none⟩ = some (.int .i64 xF) ∧ u.cell? ⟨xb, 1, none⟩ = some (.int .i64 xN) ∧ u.cell? ⟨xb, 2, none⟩ = some (.int .i64 xK) ∧ u.cell? ⟨xb, 3, none⟩ = some (.int .i64 xL))) := fun u q => HROW.out _ _ _ ((hS2 _).1 q)
      have HRS0 : Hid (∀ u, S2 u → Calls Tryz.prog 15 #[.slice A9 len c9, .slice A len cap] u fun e w' => e = .returned (.bool true) ∧ S2 w') := fun u q => by
        obtain ⟨A', c', e9, hr9, _⟩ := ((hS2 _).1 q).tread (i := OS.length) ix_end0 (fun u hu => (HFO.out.fit u hu).1)
        rw [HLEN.out] at e9 hr9
        injection e9 with e1 e2 e3
        subst e1
        have := rsame_any A9 A len len c9 cap _ _ u hr9 (HL.out u ((hS2 _).1 q).bel) HM.out HM.out
        rw [decide_eq_true rfl] at this
        refine this.mono ?_
        rintro e w' ⟨he, q9, rfl⟩
        exact ⟨he, HSTB2.out u _ q (below_drewN (Below.refl _ _) q9)⟩
      have HRS1 : Hid (∀ u, S2 u → Calls Tryz.prog 15 #[.slice B9 len2 d9, .slice A2 len2 cap2] u fun e w' => e = .returned (.bool true) ∧ S2 w') := fun u q => by
        obtain ⟨A', c', e9, hr9, _⟩ := ((hS2 _).1 q).tread (i := OS.length + 1) ix_end1 (fun u hu => (HFO2.out.fit u hu).1)
        rw [HLEN2.out] at e9 hr9
        injection e9 with e1 e2 e3
        subst e1
        have := rsame_any B9 A2 len2 len2 d9 cap2 _ _ u hr9 (HL2.out u ((hS2 _).1 q).bel) HM2.out HM2.out
        rw [decide_eq_true rfl] at this
        refine this.mono ?_
        rintro e w' ⟨he, q9, rfl⟩
        exact ⟨he, HSTB2.out u _ q (below_drewN (Below.refl _ _) q9)⟩
      have HCN : Hid (∀ u, S2 u → Calls Tryz.prog 13 #[.pointer (some ⟨p.w, 0, none⟩), .slice (some ⟨u.heap.size, 0, none⟩) 3 3] (u.alloc (.cells #[.int .i64 F1, .int .i64 N1, .int .i64 k1, .int .i64 len, .int .i64 F2, .int .i64 N2, .int .i64 k2, .int .i64 len2, .int .i64 xF, .int .i64 xN, .int .i64 xK, .int .i64 xL] 31)) fun e w' => e = .returned (.bool true) ∧ S2 w') := fun u q => by
        have hm := HMB.out
        have hn1 : N1 ≤ 200 := hN1
        have hn2 : N2 ≤ 200 := hN2
        have hr : Row (u.alloc (.cells #[.int .i64 F1, .int .i64 N1, .int .i64 k1, .int .i64 len, .int .i64 F2, .int .i64 N2, .int .i64 k2, .int .i64 len2, .int .i64 xF, .int .i64 xN, .int .i64 xK, .int .i64 xL] 31)) u.heap.size 31 [.int .i64 F1, .int .i64 N1, .int .i64 k1, .int .i64 len, .int .i64 F2, .int .i64 N2, .int .i64 k2, .int .i64 len2, .int .i64 xF, .int .i64 xN, .int .i64 xK, .int .i64 xL] := heap_alloc_new _ _
        refine (clean13_any (bs := fun i => if i = 0 then N1 else if i = 1 then N2 else N) (c := 3) (n := 3) (rb := u.heap.size) (((hS2 _).1 q).below ((Below.refl _ _).alloc (Nat.le_refl _) _)) rfl (by rw [sumN_app, HGW.out]; rfl) (by rw [sumN_app, HXW.out]; show N1 + N2 + N + (0 + (0 + 0)) = 0 + N1 + N2 + N; omega) (by omega) (fun i hi => ⟨by split; omega; split <;> omega, ?_⟩) (fun _ => hr.lt)).mono ?_
        · rcases (show i = 0 ∨ i = 1 ∨ i = 2 by omega) with rfl | rfl | rfl
          · exact hr.cell 1
          · exact hr.cell 5
          · show _ = some (Value.int .i64 (N : Int))
            rw [← HX.out.1]
            exact hr.cell 9
        · rintro e w' ⟨he, hw⟩
          exact ⟨he, (hS2 _).2 hw⟩
      have HEND : Hid (∀ u, S2 u → Below w.heap.size w u) := fun u q => HE.out _ ((hS2 _).1 q).bel
      clear hS2 hw15 hc9 hd9
      obtain ⟨⟨⟨t0, t1⟩, t2, t3⟩, -⟩ := HCE2.out _ HS15.out
      go_wp2_with fail
      refine (HRS0.out _ HS15.out).mono ?_
      rintro e w16 ⟨rfl, k16⟩
      have HS16 := Lib.hid k16
      clear k16 t0 t1 t2 t3
      obtain ⟨⟨⟨t0, t1⟩, t2, t3⟩, -⟩ := HCE2.out _ HS16.out
      go_wp2_with fail
      refine (HRS1.out _ HS16.out).mono ?_
      rintro e w17 ⟨rfl, k17⟩
      have HS17 := Lib.hid k17
      clear k17 t0 t1 t2 t3
      obtain ⟨-, ⟨a0, a1, a2, a3⟩, ⟨b0, b1, b2, b3⟩, x0, x1, x2, x3⟩ := HCE2.out _ HS17.out
      go_wp2_with fail
      refine (HCN.out _ HS17.out).mono ?_
      rintro e w18 ⟨rfl, k18⟩
      have HB90 := Lib.hid (HEND.out _ k18)
      clear k18 a0 a1 a2 a3 b0 b1 b2 b3 x0 x1 x2 x3
      go_wp2
      go_ret
      exact ⟨rfl, HB90.out⟩
  · have HOP : Hid (Calls Tryz.prog 12 #[.pointer (some ⟨p.w, 0, none⟩), .agg #[.int .i64 F1, .int .i64 N1, .int .i64 k1, .int .i64 len], .agg #[.int .i64 1, .int .i64 0, .int .i64 0, .int .i64 0, .int .i64 0]] w9 (UR (cxL W1 p 60 12 5000 False 0) [fiO F1 N1 k1 (holdsI 12 (k1 : Nat)) l 12, rowO fb 31 [.int .i64 F1, .int .i64 N1, .int .i64 k1, .int .i64 len], fiO F2 N2 k2 (holdsI 12 (k2 : Nat)) l2 12, rowO gb 31 [.int .i64 F2, .int .i64 N2, .int .i64 k2, .int .i64 len2], rowO xb 31 [.int .i64 0, .int .i64 0, .int .i64 0, .int .i64 0]])) := ((wd_cut (X := cxL W1 p 60 12 5000 False 0) (o := ⟨1, 0, 0, 0, 0⟩) H9.out HFO.out List.mem_cons_self HLEN.out (by decide) (by decide) (inW1 hk15.1) (by show 2 * 12 + 0 ≤ 60; omega) (by show 0 + (0 + N1 + N2) + N1 + len + 2 ≤ 1000000; omega) (by show 0 < holdsI 12 ((nameN ⟨1, 0, 0, 0, 0⟩ : Nat) : Int); decide))).mono (fun e w' h => UR.op h rfl (hR1.out _ (Nat.le_trans (blocks_le _ _) h20)) (by omega))
    clear h20 h202
    go_wp2_with fail
    refine HOP.out.mono ?_
    clear HOP
    clear a0 a1 a2 a3 b0 b1 b2 b3
    rintro e w10 ⟨xF, xN, xK, xL, er, N, m', tl, rfl, hx, htl, hw10⟩
    have hw10 : Wd (cxL W1 p 60 12 5000 False 0) ([fiO F1 N1 k1 (holdsI 12 (k1 : Nat)) l 12, rowO fb 31 [.int .i64 F1, .int .i64 N1, .int .i64 k1, .int .i64 len], fiO F2 N2 k2 (holdsI 12 (k2 : Nat)) l2 12, rowO gb 31 [.int .i64 F2, .int .i64 N2, .int .i64 k2, .int .i64 len2]] ++ [] ++ [rowO xb 31 [.int .i64 0, .int .i64 0, .int .i64 0, .int .i64 0]] ++ tl) m' w10 := hw10
    have z6 := opn_row hw10
    have z0 : w10.cell? ⟨xb, 0, none⟩ = some (.int .i64 0) := z6.cell 0
    have z1 : w10.cell? ⟨xb, 1, none⟩ = some (.int .i64 0) := z6.cell 1
    have z2 : w10.cell? ⟨xb, 2, none⟩ = some (.int .i64 0) := z6.cell 2
    have z3 : w10.cell? ⟨xb, 3, none⟩ = some (.int .i64 0) := z6.cell 3
    have f0 := z6.free 0
    have f1 := z6.free 1
    have f2 := z6.free 2
    have f3 := z6.free 3
    have H11 : Hid (Wd (cxL W1 p 60 12 5000 False 0) (fiO F1 N1 k1 (holdsI 12 (k1 : Nat)) l 12 :: rowO fb 31 [.int .i64 F1, .int .i64 N1, .int .i64 k1, .int .i64 len] :: fiO F2 N2 k2 (holdsI 12 (k2 : Nat)) l2 12 :: rowO gb 31 [.int .i64 F2, .int .i64 N2, .int .i64 k2, .int .i64 len2] :: rowO xb 31 [.int .i64 xF, .int .i64 xN, .int .i64 xK, .int .i64 xL] :: tl) m' ((((w10.setCell ⟨xb, 0, none⟩ (.int .i64 xF)).setCell ⟨xb, 1, none⟩ (.int .i64 xN)).setCell ⟨xb, 2, none⟩ (.int .i64 xK)).setCell ⟨xb, 3, none⟩ (.int .i64 xL))) := opn_store rfl hw10 (.int .i64 xF) (.int .i64 xN) (.int .i64 xK) (.int .i64 xL)
    have HX := Lib.hid hx
    have HTL := Lib.hid htl
    clear hw10 z6 hx htl H9 t0 m0
    go_upto_region 20 with (fail)
    generalize (((w10.setCell ⟨xb, 0, none⟩ (.int .i64 xF)).setCell ⟨xb, 1, none⟩ (.int .i64 xN)).setCell ⟨xb, 2, none⟩ (.int .i64 xK)).setCell ⟨xb, 3, none⟩ (.int .i64 xL) = w11 at *
    clear z0 z1 z2 z3 f0 f1 f2 f3
    have HD11 : Hid (Calls Tryz.prog 17 #[.pointer (some ⟨p.w, 0, none⟩)] w11 fun e w' => e = .returned (.pointer (some ⟨p.d, 0, none⟩)) ∧ w' = w11) := wd_dev H11.out
    have HH11 : Hid (Calls Tryz.prog 18 #[.pointer (some ⟨p.d, 0, none⟩), .int .i64 (-1)] w11 fun e w' => e = .returned (.tuple #[]) ∧ Wd (cxL W1 p 60 12 5000 True 0) (fiO F1 N1 k1 (holdsI 12 (k1 : Nat)) l 12 :: rowO fb 31 [.int .i64 F1, .int .i64 N1, .int .i64 k1, .int .i64 len] :: fiO F2 N2 k2 (holdsI 12 (k2 : Nat)) l2 12 :: rowO gb 31 [.int .i64 F2, .int .i64 N2, .int .i64 k2, .int .i64 len2] :: rowO xb 31 [.int .i64 xF, .int .i64 xN, .int .i64 xK, .int .i64 xL] :: tl) m' w') := wd_heal H11.out
    go_wp2_with fail
    refine HD11.out.mono ?_; rintro e w12 ⟨rfl, rfl⟩
    go_wp2_with fail
    refine HH11.out.mono ?_; rintro e w13 ⟨rfl, h13⟩
    obtain ⟨OS, hOS⟩ : ∃ OS : List Asn, OS = fiO F1 N1 k1 (holdsI 12 (k1 : Nat)) l 12 :: rowO fb 31 [.int .i64 F1, .int .i64 N1, .int .i64 k1, .int .i64 len] :: fiO F2 N2 k2 (holdsI 12 (k2 : Nat)) l2 12 :: rowO gb 31 [.int .i64 F2, .int .i64 N2, .int .i64 k2, .int .i64 len2] :: rowO xb 31 [.int .i64 xF, .int .i64 xN, .int .i64 xK, .int .i64 xL] :: tl := ⟨_, rfl⟩
    rw [← hOS] at h13
    have HROW : Hid (∀ (tl2 : List Asn) m2 u, Wd (cxL W1 p 60 12 5000 True 0) (OS ++ tl2) m2 u → (((u.cell? ⟨w.heap.size, 0, none⟩ = some (.int .u8 wd) ∧ u.cell? ⟨w.heap.size, 1, none⟩ = some (.slice A len cap)) ∧ u.cell? ⟨w.heap.size + 1, 0, none⟩ = some (.int .u8 wd2) ∧ u.cell? ⟨w.heap.size + 1, 1, none⟩ = some (.slice A2 len2 cap2)) ∧ (u.cell? ⟨fb, 0, none⟩ = some (.int .i64 F1) ∧ u.cell? ⟨fb, 1, none⟩ = some (.int .i64 N1) ∧ u.cell? ⟨fb, 2, none⟩ = some (.int .i64 k1) ∧ u.cell? ⟨fb, 3, none⟩ = some (.int .i64 len)) ∧ (u.cell? ⟨gb, 0, none⟩ = some (.int .i64 F2) ∧ u.cell? ⟨gb, 1, none⟩ = some (.int .i64 N2) ∧ u.cell? ⟨gb, 2, none⟩ = some (.int .i64 k2) ∧ u.cell? ⟨gb, 3, none⟩ = some (.int .i64 len2)) ∧ u.cell? ⟨xb, 0, none⟩ = some (.int .i64 xF) ∧ u.cell? ⟨xb, 1, none⟩ = some (.int .i64 xN) ∧ u.cell? ⟨xb, 2, none⟩ = some (.int .i64 xK) ∧ u.cell? ⟨xb, 3, none⟩ = some (.int .i64 xL))) := fun tl2 m2 u q => by
      rw [hOS] at q
      have q2 : Row u fb 31 [.int .i64 F1, .int .i64 N1, .int .i64 k1, .int .i64 len] := q.row (i := 1) rfl
      have q3 : Row u gb 31 [.int .i64 F2, .int .i64 N2, .int .i64 k2, .int .i64 len2] := q.row (i := 3) rfl
      have q4 : Row u xb 31 [.int .i64 xF, .int .i64 xN, .int .i64 xK, .int .i64 xL] := q.row (i := 4) rfl
      exact ⟨HTB.out u q.bel, ⟨q2.cell 0, q2.cell 1, q2.cell 2, q2.cell 3⟩, ⟨q3.cell 0, q3.cell 1, q3.cell 2, q3.cell 3⟩, q4.cell 0, q4.cell 1, q4.cell 2, q4.cell 3⟩
    have HI0 : Hid (OS[0]? = some (fiO F1 N1 k1 (holdsI 12 (k1 : Nat)) l 12)) := by unfold Hid; rw [hOS]; rfl
    have HI2 : Hid (OS[2]? = some (fiO F2 N2 k2 (holdsI 12 (k2 : Nat)) l2 12)) := by unfold Hid; rw [hOS]; rfl
    have HGW : Hid (sumN Asn.gw OS = 0) := by
      unfold Hid
      have := HTL.out.1
      rw [hOS]
      show 0 + (0 + (0 + (0 + (0 + sumN Asn.gw tl)))) = 0
      omega
    have HXW : Hid (sumN Asn.xw OS = N1 + N2 + N) := by
      unfold Hid
      have := HTL.out.2.1
      rw [hOS]
      show N1 + (0 + (N2 + (0 + (0 + sumN Asn.xw tl)))) = N1 + N2 + N
      omega
    have H13 : Hid (Wd (cxL W1 p 60 12 5000 True 0) (OS ++ []) m' w13) := by unfold Hid; rw [List.append_nil]; exact h13
    have HMB : Hid (N ≤ 5000 ∧ m' ≤ 7000) := HTL.out.2.2
    clear h13 HD11 HH11 H11 hOS HTL
    obtain ⟨⟨⟨t0, t1⟩, t2, t3⟩, ⟨a0, a1, a2, a3⟩, ⟨b0, b1, b2, b3⟩, x0, x1, x2, x3⟩ := HROW.out _ _ _ H13.out
    have HQ : Hid (∀ W, (binOp .neq 31 (.agg #[.int .i64 0, .int .i64 0, .int .i64 0, .int .i64 0]) (.agg #[.int .i64 0, .int .i64 0, .int .i64 0, .int .i64 0])).run Tryz.prog W = .ok (.bool false) W) := fun W => neq_file W 0 0 0 0
    have HG : Hid (∀ W op x y xs ys, (eqGuard op 31 x y (.agg xs) (.agg ys)).run Tryz.prog W = .ok () W) := fun W op x y xs ys => guard_file W op x y xs ys
    go_upto_region 21 with (fail)
    go_cut [105] from 83 to 105 (fun v wx => v = .bool false ∧ wx = w13)
    case first =>
      obtain ⟨-, rfl | ⟨rfl | rfl | rfl, rfl, hz, rfl, rfl⟩⟩ := HX.out
      · go_wp2_with fail
        go_meet
        exact ⟨rfl, rfl⟩
      all_goals (subst hz; have hq := HQ.out; have hg := HG.out; go_wp2_with fail; go_meet; exact ⟨rfl, rfl⟩)
    case rest =>
      obtain ⟨rfl, rfl⟩ := hcut
      have HLI : Hid (∀ u, Wd (cxL W1 p 60 12 5000 True 0) (OS ++ []) m' u → Calls Tryz.prog 14 #[.pointer (some ⟨p.w, 0, none⟩), .agg #[.int .i64 F1, .int .i64 N1, .int .i64 k1, .int .i64 len]] u fun e w' => ∃ v, e = .returned (.tuple #[v, .int .i64 0]) ∧ Wd (cxL W1 p 60 12 5000 True 0) (OS ++ [tlO (cxL W1 p 60 12 5000 True 0) v l]) (m' + N1) w') := fun u q => by
        have hm := HMB.out
        have hg := HGW.out
        rw [List.append_nil] at q
        exact wd_list (X := cxL W1 p 60 12 5000 True 0) q (i := 0) HI0.out HFO.out trivial (by show 12 ≤ 60 - sumN Asn.gw OS; omega) (by show 0 + m' + N1 + 1 ≤ 1000000; omega) HLEN.out
      have HLI2 : Hid (∀ v u, Wd (cxL W1 p 60 12 5000 True 0) (OS ++ [tlO (cxL W1 p 60 12 5000 True 0) v l]) (m' + N1) u → Calls Tryz.prog 14 #[.pointer (some ⟨p.w, 0, none⟩), .agg #[.int .i64 F2, .int .i64 N2, .int .i64 k2, .int .i64 len2]] u fun e w' => ∃ v2, e = .returned (.tuple #[v2, .int .i64 0]) ∧ Wd (cxL W1 p 60 12 5000 True 0) (OS ++ [tlO (cxL W1 p 60 12 5000 True 0) v l, tlO (cxL W1 p 60 12 5000 True 0) v2 l2]) (m' + N1 + N2) w') := fun v u q => by
        have hm := HMB.out
        have hg := HGW.out
        have hg2 : sumN Asn.gw (OS ++ [tlO (cxL W1 p 60 12 5000 True 0) v l]) = 0 := by rw [sumN_app, hg]; rfl
        refine (wd_list (X := cxL W1 p 60 12 5000 True 0) q (i := 2) (ix_app HI2.out) HFO2.out trivial (by rw [hg2]; show 12 ≤ 60 - 0; omega) (by show 0 + (m' + N1) + N2 + 1 ≤ 1000000; omega) HLEN2.out).mono ?_
        rintro e w' ⟨v2, he, hw⟩
        rw [List.append_assoc] at hw
        exact ⟨v2, he, hw⟩
      go_wp2_with fail
      refine (HLI.out _ H13.out).mono ?_
      rintro e w14 ⟨v, rfl, hw14⟩
      have H14 := Lib.hid hw14
      clear hw14 t0 t1 t2 t3 a0 a1 a2 a3 b0 b1 b2 b3 x0 x1 x2 x3 H13
      obtain ⟨-, ⟨a0, a1, a2, a3⟩, ⟨b0, b1, b2, b3⟩, x0, x1, x2, x3⟩ := HROW.out _ _ _ H14.out
      go_wp2_with fail
      refine (HLI2.out _ _ H14.out).mono ?_
      rintro e w15 ⟨v2, rfl, hw15⟩
      clear a0 a1 a2 a3 b0 b1 b2 b3 x0 x1 x2 x3 H14
      obtain ⟨A9, c9, rfl, _, hc9⟩ := hw15.tread (i := OS.length) ix_end0 (fun u hu => (HFO.out.fit u hu).1)
      obtain ⟨B9, d9, rfl, _, hd9⟩ := hw15.tread (i := OS.length + 1) ix_end1 (fun u hu => (HFO2.out.fit u hu).1)
      rw [HLEN.out, HLEN2.out] at hw15
      rw [HLEN.out, HLEN2.out]
      obtain ⟨S2, hS2⟩ : ∃ S2 : World → Prop, ∀ u, S2 u ↔ Wd (cxL W1 p 60 12 5000 True 0) (OS ++ [tlO (cxL W1 p 60 12 5000 True 0) (.slice A9 len c9) l, tlO (cxL W1 p 60 12 5000 True 0) (.slice B9 len2 d9) l2]) (m' + N1 + N2) u := ⟨_, fun _ => Iff.rfl⟩
      have HS15 : Hid (S2 w15) := (hS2 _).2 hw15
      have HSTB2 : Hid (∀ u u', S2 u → Below u.heap.size u u' → S2 u') := fun u u' q hb => (hS2 _).2 (((hS2 _).1 q).below hb)
      have HCE2 : Hid (∀ u, S2 u → (((u.cell? ⟨w.heap.size, 0, none⟩ = some (.int .u8 wd) ∧ u.cell? ⟨w.heap.size, 1, none⟩ = some (.slice A len cap)) ∧ u.cell? ⟨w.heap.size + 1, 0, none⟩ = some (.int .u8 wd2) ∧ u.cell? ⟨w.heap.size + 1, 1, none⟩ = some (.slice A2 len2 cap2)) ∧ (u.cell? ⟨fb, 0, none⟩ = some (.int .i64 F1) ∧ u.cell? ⟨fb, 1, none⟩ = some (.int .i64 N1) ∧ u.cell? ⟨fb, 2, none⟩ = some (.int .i64 k1) ∧ u.cell? ⟨fb, 3, none⟩ = some (.int .i64 len)) ∧ (u.cell? ⟨gb, 0, none⟩ = some (.int .i64 F2) ∧ u.cell? ⟨gb, 1, none⟩ = some (.int .i64 N2) ∧ u.cell? ⟨gb, 2, none⟩ = some (.int .i64 k2) ∧ u.cell? ⟨gb, 3, none⟩ = some (.int .i64 len2)) ∧ u.cell? ⟨xb, 0, none⟩ = some (.int .i64 xF) ∧ u.cell? ⟨xb, 1, none⟩ = some (.int .i64 xN) ∧ u.cell? ⟨xb, 2, none⟩ = some (.int .i64 xK) ∧ u.cell? ⟨xb, 3, none⟩ = some (.int .i64 xL))) := fun u q => HROW.out _ _ _ ((hS2 _).1 q)
      have HRS0 : Hid (∀ u, S2 u → Calls Tryz.prog 15 #[.slice A9 len c9, .slice A len cap] u fun e w' => e = .returned (.bool true) ∧ S2 w') := fun u q => by
        obtain ⟨A', c', e9, hr9, _⟩ := ((hS2 _).1 q).tread (i := OS.length) ix_end0 (fun u hu => (HFO.out.fit u hu).1)
        rw [HLEN.out] at e9 hr9
        injection e9 with e1 e2 e3
        subst e1
        have := rsame_any A9 A len len c9 cap _ _ u hr9 (HL.out u ((hS2 _).1 q).bel) HM.out HM.out
        rw [decide_eq_true rfl] at this
        refine this.mono ?_
        rintro e w' ⟨he, q9, rfl⟩
        exact ⟨he, HSTB2.out u _ q (below_drewN (Below.refl _ _) q9)⟩
      have HRS1 : Hid (∀ u, S2 u → Calls Tryz.prog 15 #[.slice B9 len2 d9, .slice A2 len2 cap2] u fun e w' => e = .returned (.bool true) ∧ S2 w') := fun u q => by
        obtain ⟨A', c', e9, hr9, _⟩ := ((hS2 _).1 q).tread (i := OS.length + 1) ix_end1 (fun u hu => (HFO2.out.fit u hu).1)
        rw [HLEN2.out] at e9 hr9
        injection e9 with e1 e2 e3
        subst e1
        have := rsame_any B9 A2 len2 len2 d9 cap2 _ _ u hr9 (HL2.out u ((hS2 _).1 q).bel) HM2.out HM2.out
        rw [decide_eq_true rfl] at this
        refine this.mono ?_
        rintro e w' ⟨he, q9, rfl⟩
        exact ⟨he, HSTB2.out u _ q (below_drewN (Below.refl _ _) q9)⟩
      have HCN : Hid (∀ u, S2 u → Calls Tryz.prog 13 #[.pointer (some ⟨p.w, 0, none⟩), .slice (some ⟨u.heap.size, 0, none⟩) 3 3] (u.alloc (.cells #[.int .i64 F1, .int .i64 N1, .int .i64 k1, .int .i64 len, .int .i64 F2, .int .i64 N2, .int .i64 k2, .int .i64 len2, .int .i64 xF, .int .i64 xN, .int .i64 xK, .int .i64 xL] 31)) fun e w' => e = .returned (.bool true) ∧ S2 w') := fun u q => by
        have hm := HMB.out
        have hn1 : N1 ≤ 200 := hN1
        have hn2 : N2 ≤ 200 := hN2
        have hr : Row (u.alloc (.cells #[.int .i64 F1, .int .i64 N1, .int .i64 k1, .int .i64 len, .int .i64 F2, .int .i64 N2, .int .i64 k2, .int .i64 len2, .int .i64 xF, .int .i64 xN, .int .i64 xK, .int .i64 xL] 31)) u.heap.size 31 [.int .i64 F1, .int .i64 N1, .int .i64 k1, .int .i64 len, .int .i64 F2, .int .i64 N2, .int .i64 k2, .int .i64 len2, .int .i64 xF, .int .i64 xN, .int .i64 xK, .int .i64 xL] := heap_alloc_new _ _
        refine (clean13_any (bs := fun i => if i = 0 then N1 else if i = 1 then N2 else N) (c := 3) (n := 3) (rb := u.heap.size) (((hS2 _).1 q).below ((Below.refl _ _).alloc (Nat.le_refl _) _)) rfl (by rw [sumN_app, HGW.out]; rfl) (by rw [sumN_app, HXW.out]; show N1 + N2 + N + (0 + (0 + 0)) = 0 + N1 + N2 + N; omega) (by omega) (fun i hi => ⟨by split; omega; split <;> omega, ?_⟩) (fun _ => hr.lt)).mono ?_
        · rcases (show i = 0 ∨ i = 1 ∨ i = 2 by omega) with rfl | rfl | rfl
          · exact hr.cell 1
          · exact hr.cell 5
          · show _ = some (Value.int .i64 (N : Int))
            rw [← HX.out.1]
            exact hr.cell 9
        · rintro e w' ⟨he, hw⟩
          exact ⟨he, (hS2 _).2 hw⟩
      have HEND : Hid (∀ u, S2 u → Below w.heap.size w u) := fun u q => HE.out _ ((hS2 _).1 q).bel
      clear hS2 hw15 hc9 hd9
      obtain ⟨⟨⟨t0, t1⟩, t2, t3⟩, -⟩ := HCE2.out _ HS15.out
      go_wp2_with fail
      refine (HRS0.out _ HS15.out).mono ?_
      rintro e w16 ⟨rfl, k16⟩
      have HS16 := Lib.hid k16
      clear k16 t0 t1 t2 t3
      obtain ⟨⟨⟨t0, t1⟩, t2, t3⟩, -⟩ := HCE2.out _ HS16.out
      go_wp2_with fail
      refine (HRS1.out _ HS16.out).mono ?_
      rintro e w17 ⟨rfl, k17⟩
      have HS17 := Lib.hid k17
      clear k17 t0 t1 t2 t3
      obtain ⟨-, ⟨a0, a1, a2, a3⟩, ⟨b0, b1, b2, b3⟩, x0, x1, x2, x3⟩ := HCE2.out _ HS17.out
      go_wp2_with fail
      refine (HCN.out _ HS17.out).mono ?_
      rintro e w18 ⟨rfl, k18⟩
      have HB90 := Lib.hid (HEND.out _ k18)
      clear k18 a0 a1 a2 a3 b0 b1 b2 b3 x0 x1 x2 x3
      go_wp2
      go_ret
      exact ⟨rfl, HB90.out⟩
  · have HOP : Hid (Calls Tryz.prog 20 #[.pointer (some ⟨p.w, 0, none⟩), .agg #[.int .i64 F2, .int .i64 N2, .int .i64 k2, .int .i64 len2], .int .i64 0, .int .i64 0, .int .i64 5] w9 (UR (cxL W1 p 60 12 5000 False 0) [fiO F1 N1 k1 (holdsI 12 (k1 : Nat)) l 12, rowO fb 31 [.int .i64 F1, .int .i64 N1, .int .i64 k1, .int .i64 len], fiO F2 N2 k2 (holdsI 12 (k2 : Nat)) l2 12, rowO gb 31 [.int .i64 F2, .int .i64 N2, .int .i64 k2, .int .i64 len2], rowO xb 31 [.int .i64 0, .int .i64 0, .int .i64 0, .int .i64 0]])) := ((wd_keep (X := cxL W1 p 60 12 5000 False 0) (col := 0) (lo := 0) (hi := 5) H9.out HFO2.out (List.mem_cons_of_mem _ (List.mem_cons_of_mem _ List.mem_cons_self)) HLEN2.out (by omega) (by show 2 * 12 + 0 ≤ 60; omega) (by show 0 + (0 + N1 + N2) + N2 + len2 + 2 ≤ 1000000; omega))).mono (fun e w' h => UR.op h rfl (hR1.out _ (Nat.le_trans (blocks_le _ _) h202)) (by omega))
    clear h20 h202
    go_wp2_with fail
    refine HOP.out.mono ?_
    clear HOP
    clear a0 a1 a2 a3 b0 b1 b2 b3
    rintro e w10 ⟨xF, xN, xK, xL, er, N, m', tl, rfl, hx, htl, hw10⟩
    have hw10 : Wd (cxL W1 p 60 12 5000 False 0) ([fiO F1 N1 k1 (holdsI 12 (k1 : Nat)) l 12, rowO fb 31 [.int .i64 F1, .int .i64 N1, .int .i64 k1, .int .i64 len], fiO F2 N2 k2 (holdsI 12 (k2 : Nat)) l2 12, rowO gb 31 [.int .i64 F2, .int .i64 N2, .int .i64 k2, .int .i64 len2]] ++ [] ++ [rowO xb 31 [.int .i64 0, .int .i64 0, .int .i64 0, .int .i64 0]] ++ tl) m' w10 := hw10
    have z6 := opn_row hw10
    have z0 : w10.cell? ⟨xb, 0, none⟩ = some (.int .i64 0) := z6.cell 0
    have z1 : w10.cell? ⟨xb, 1, none⟩ = some (.int .i64 0) := z6.cell 1
    have z2 : w10.cell? ⟨xb, 2, none⟩ = some (.int .i64 0) := z6.cell 2
    have z3 : w10.cell? ⟨xb, 3, none⟩ = some (.int .i64 0) := z6.cell 3
    have f0 := z6.free 0
    have f1 := z6.free 1
    have f2 := z6.free 2
    have f3 := z6.free 3
    have H11 : Hid (Wd (cxL W1 p 60 12 5000 False 0) (fiO F1 N1 k1 (holdsI 12 (k1 : Nat)) l 12 :: rowO fb 31 [.int .i64 F1, .int .i64 N1, .int .i64 k1, .int .i64 len] :: fiO F2 N2 k2 (holdsI 12 (k2 : Nat)) l2 12 :: rowO gb 31 [.int .i64 F2, .int .i64 N2, .int .i64 k2, .int .i64 len2] :: rowO xb 31 [.int .i64 xF, .int .i64 xN, .int .i64 xK, .int .i64 xL] :: tl) m' ((((w10.setCell ⟨xb, 0, none⟩ (.int .i64 xF)).setCell ⟨xb, 1, none⟩ (.int .i64 xN)).setCell ⟨xb, 2, none⟩ (.int .i64 xK)).setCell ⟨xb, 3, none⟩ (.int .i64 xL))) := opn_store rfl hw10 (.int .i64 xF) (.int .i64 xN) (.int .i64 xK) (.int .i64 xL)
    have HX := Lib.hid hx
    have HTL := Lib.hid htl
    clear hw10 z6 hx htl H9 t0 m0
    go_upto_region 20 with (fail)
    generalize (((w10.setCell ⟨xb, 0, none⟩ (.int .i64 xF)).setCell ⟨xb, 1, none⟩ (.int .i64 xN)).setCell ⟨xb, 2, none⟩ (.int .i64 xK)).setCell ⟨xb, 3, none⟩ (.int .i64 xL) = w11 at *
    clear z0 z1 z2 z3 f0 f1 f2 f3
    have HD11 : Hid (Calls Tryz.prog 17 #[.pointer (some ⟨p.w, 0, none⟩)] w11 fun e w' => e = .returned (.pointer (some ⟨p.d, 0, none⟩)) ∧ w' = w11) := wd_dev H11.out
    have HH11 : Hid (Calls Tryz.prog 18 #[.pointer (some ⟨p.d, 0, none⟩), .int .i64 (-1)] w11 fun e w' => e = .returned (.tuple #[]) ∧ Wd (cxL W1 p 60 12 5000 True 0) (fiO F1 N1 k1 (holdsI 12 (k1 : Nat)) l 12 :: rowO fb 31 [.int .i64 F1, .int .i64 N1, .int .i64 k1, .int .i64 len] :: fiO F2 N2 k2 (holdsI 12 (k2 : Nat)) l2 12 :: rowO gb 31 [.int .i64 F2, .int .i64 N2, .int .i64 k2, .int .i64 len2] :: rowO xb 31 [.int .i64 xF, .int .i64 xN, .int .i64 xK, .int .i64 xL] :: tl) m' w') := wd_heal H11.out
    go_wp2_with fail
    refine HD11.out.mono ?_; rintro e w12 ⟨rfl, rfl⟩
    go_wp2_with fail
    refine HH11.out.mono ?_; rintro e w13 ⟨rfl, h13⟩
    obtain ⟨OS, hOS⟩ : ∃ OS : List Asn, OS = fiO F1 N1 k1 (holdsI 12 (k1 : Nat)) l 12 :: rowO fb 31 [.int .i64 F1, .int .i64 N1, .int .i64 k1, .int .i64 len] :: fiO F2 N2 k2 (holdsI 12 (k2 : Nat)) l2 12 :: rowO gb 31 [.int .i64 F2, .int .i64 N2, .int .i64 k2, .int .i64 len2] :: rowO xb 31 [.int .i64 xF, .int .i64 xN, .int .i64 xK, .int .i64 xL] :: tl := ⟨_, rfl⟩
    rw [← hOS] at h13
    have HROW : Hid (∀ (tl2 : List Asn) m2 u, Wd (cxL W1 p 60 12 5000 True 0) (OS ++ tl2) m2 u → (((u.cell? ⟨w.heap.size, 0, none⟩ = some (.int .u8 wd) ∧ u.cell? ⟨w.heap.size, 1, none⟩ = some (.slice A len cap)) ∧ u.cell? ⟨w.heap.size + 1, 0, none⟩ = some (.int .u8 wd2) ∧ u.cell? ⟨w.heap.size + 1, 1, none⟩ = some (.slice A2 len2 cap2)) ∧ (u.cell? ⟨fb, 0, none⟩ = some (.int .i64 F1) ∧ u.cell? ⟨fb, 1, none⟩ = some (.int .i64 N1) ∧ u.cell? ⟨fb, 2, none⟩ = some (.int .i64 k1) ∧ u.cell? ⟨fb, 3, none⟩ = some (.int .i64 len)) ∧ (u.cell? ⟨gb, 0, none⟩ = some (.int .i64 F2) ∧ u.cell? ⟨gb, 1, none⟩ = some (.int .i64 N2) ∧ u.cell? ⟨gb, 2, none⟩ = some (.int .i64 k2) ∧ u.cell? ⟨gb, 3, none⟩ = some (.int .i64 len2)) ∧ u.cell? ⟨xb, 0, none⟩ = some (.int .i64 xF) ∧ u.cell? ⟨xb, 1, none⟩ = some (.int .i64 xN) ∧ u.cell? ⟨xb, 2, none⟩ = some (.int .i64 xK) ∧ u.cell? ⟨xb, 3, none⟩ = some (.int .i64 xL))) := fun tl2 m2 u q => by
      rw [hOS] at q
      have q2 : Row u fb 31 [.int .i64 F1, .int .i64 N1, .int .i64 k1, .int .i64 len] := q.row (i := 1) rfl
      have q3 : Row u gb 31 [.int .i64 F2, .int .i64 N2, .int .i64 k2, .int .i64 len2] := q.row (i := 3) rfl
      have q4 : Row u xb 31 [.int .i64 xF, .int .i64 xN, .int .i64 xK, .int .i64 xL] := q.row (i := 4) rfl
      exact ⟨HTB.out u q.bel, ⟨q2.cell 0, q2.cell 1, q2.cell 2, q2.cell 3⟩, ⟨q3.cell 0, q3.cell 1, q3.cell 2, q3.cell 3⟩, q4.cell 0, q4.cell 1, q4.cell 2, q4.cell 3⟩
    have HI0 : Hid (OS[0]? = some (fiO F1 N1 k1 (holdsI 12 (k1 : Nat)) l 12)) := by unfold Hid; rw [hOS]; rfl
    have HI2 : Hid (OS[2]? = some (fiO F2 N2 k2 (holdsI 12 (k2 : Nat)) l2 12)) := by unfold Hid; rw [hOS]; rfl
    have HGW : Hid (sumN Asn.gw OS = 0) := by
      unfold Hid
      have := HTL.out.1
      rw [hOS]
      show 0 + (0 + (0 + (0 + (0 + sumN Asn.gw tl)))) = 0
      omega
    have HXW : Hid (sumN Asn.xw OS = N1 + N2 + N) := by
      unfold Hid
      have := HTL.out.2.1
      rw [hOS]
      show N1 + (0 + (N2 + (0 + (0 + sumN Asn.xw tl)))) = N1 + N2 + N
      omega
    have H13 : Hid (Wd (cxL W1 p 60 12 5000 True 0) (OS ++ []) m' w13) := by unfold Hid; rw [List.append_nil]; exact h13
    have HMB : Hid (N ≤ 5000 ∧ m' ≤ 7000) := HTL.out.2.2
    clear h13 HD11 HH11 H11 hOS HTL
    obtain ⟨⟨⟨t0, t1⟩, t2, t3⟩, ⟨a0, a1, a2, a3⟩, ⟨b0, b1, b2, b3⟩, x0, x1, x2, x3⟩ := HROW.out _ _ _ H13.out
    have HQ : Hid (∀ W, (binOp .neq 31 (.agg #[.int .i64 0, .int .i64 0, .int .i64 0, .int .i64 0]) (.agg #[.int .i64 0, .int .i64 0, .int .i64 0, .int .i64 0])).run Tryz.prog W = .ok (.bool false) W) := fun W => neq_file W 0 0 0 0
    have HG : Hid (∀ W op x y xs ys, (eqGuard op 31 x y (.agg xs) (.agg ys)).run Tryz.prog W = .ok () W) := fun W op x y xs ys => guard_file W op x y xs ys
    go_upto_region 21 with (fail)
    go_cut [105] from 83 to 105 (fun v wx => v = .bool false ∧ wx = w13)
    case first =>
      obtain ⟨-, rfl | ⟨rfl | rfl | rfl, rfl, hz, rfl, rfl⟩⟩ := HX.out
      · go_wp2_with fail
        go_meet
        exact ⟨rfl, rfl⟩
      all_goals (subst hz; have hq := HQ.out; have hg := HG.out; go_wp2_with fail; go_meet; exact ⟨rfl, rfl⟩)
    case rest =>
      obtain ⟨rfl, rfl⟩ := hcut
      have HLI : Hid (∀ u, Wd (cxL W1 p 60 12 5000 True 0) (OS ++ []) m' u → Calls Tryz.prog 14 #[.pointer (some ⟨p.w, 0, none⟩), .agg #[.int .i64 F1, .int .i64 N1, .int .i64 k1, .int .i64 len]] u fun e w' => ∃ v, e = .returned (.tuple #[v, .int .i64 0]) ∧ Wd (cxL W1 p 60 12 5000 True 0) (OS ++ [tlO (cxL W1 p 60 12 5000 True 0) v l]) (m' + N1) w') := fun u q => by
        have hm := HMB.out
        have hg := HGW.out
        rw [List.append_nil] at q
        exact wd_list (X := cxL W1 p 60 12 5000 True 0) q (i := 0) HI0.out HFO.out trivial (by show 12 ≤ 60 - sumN Asn.gw OS; omega) (by show 0 + m' + N1 + 1 ≤ 1000000; omega) HLEN.out
      have HLI2 : Hid (∀ v u, Wd (cxL W1 p 60 12 5000 True 0) (OS ++ [tlO (cxL W1 p 60 12 5000 True 0) v l]) (m' + N1) u → Calls Tryz.prog 14 #[.pointer (some ⟨p.w, 0, none⟩), .agg #[.int .i64 F2, .int .i64 N2, .int .i64 k2, .int .i64 len2]] u fun e w' => ∃ v2, e = .returned (.tuple #[v2, .int .i64 0]) ∧ Wd (cxL W1 p 60 12 5000 True 0) (OS ++ [tlO (cxL W1 p 60 12 5000 True 0) v l, tlO (cxL W1 p 60 12 5000 True 0) v2 l2]) (m' + N1 + N2) w') := fun v u q => by
        have hm := HMB.out
        have hg := HGW.out
        have hg2 : sumN Asn.gw (OS ++ [tlO (cxL W1 p 60 12 5000 True 0) v l]) = 0 := by rw [sumN_app, hg]; rfl
        refine (wd_list (X := cxL W1 p 60 12 5000 True 0) q (i := 2) (ix_app HI2.out) HFO2.out trivial (by rw [hg2]; show 12 ≤ 60 - 0; omega) (by show 0 + (m' + N1) + N2 + 1 ≤ 1000000; omega) HLEN2.out).mono ?_
        rintro e w' ⟨v2, he, hw⟩
        rw [List.append_assoc] at hw
        exact ⟨v2, he, hw⟩
      go_wp2_with fail
      refine (HLI.out _ H13.out).mono ?_
      rintro e w14 ⟨v, rfl, hw14⟩
      have H14 := Lib.hid hw14
      clear hw14 t0 t1 t2 t3 a0 a1 a2 a3 b0 b1 b2 b3 x0 x1 x2 x3 H13
      obtain ⟨-, ⟨a0, a1, a2, a3⟩, ⟨b0, b1, b2, b3⟩, x0, x1, x2, x3⟩ := HROW.out _ _ _ H14.out
      go_wp2_with fail
      refine (HLI2.out _ _ H14.out).mono ?_
      rintro e w15 ⟨v2, rfl, hw15⟩
      clear a0 a1 a2 a3 b0 b1 b2 b3 x0 x1 x2 x3 H14
      obtain ⟨A9, c9, rfl, _, hc9⟩ := hw15.tread (i := OS.length) ix_end0 (fun u hu => (HFO.out.fit u hu).1)
      obtain ⟨B9, d9, rfl, _, hd9⟩ := hw15.tread (i := OS.length + 1) ix_end1 (fun u hu => (HFO2.out.fit u hu).1)
      rw [HLEN.out, HLEN2.out] at hw15
      rw [HLEN.out, HLEN2.out]
      obtain ⟨S2, hS2⟩ : ∃ S2 : World → Prop, ∀ u, S2 u ↔ Wd (cxL W1 p 60 12 5000 True 0) (OS ++ [tlO (cxL W1 p 60 12 5000 True 0) (.slice A9 len c9) l, tlO (cxL W1 p 60 12 5000 True 0) (.slice B9 len2 d9) l2]) (m' + N1 + N2) u := ⟨_, fun _ => Iff.rfl⟩
      have HS15 : Hid (S2 w15) := (hS2 _).2 hw15
      have HSTB2 : Hid (∀ u u', S2 u → Below u.heap.size u u' → S2 u') := fun u u' q hb => (hS2 _).2 (((hS2 _).1 q).below hb)
      have HCE2 : Hid (∀ u, S2 u → (((u.cell? ⟨w.heap.size, 0, none⟩ = some (.int .u8 wd) ∧ u.cell? ⟨w.heap.size, 1, none⟩ = some (.slice A len cap)) ∧ u.cell? ⟨w.heap.size + 1, 0, none⟩ = some (.int .u8 wd2) ∧ u.cell? ⟨w.heap.size + 1, 1, none⟩ = some (.slice A2 len2 cap2)) ∧ (u.cell? ⟨fb, 0, none⟩ = some (.int .i64 F1) ∧ u.cell? ⟨fb, 1, none⟩ = some (.int .i64 N1) ∧ u.cell? ⟨fb, 2, none⟩ = some (.int .i64 k1) ∧ u.cell? ⟨fb, 3, none⟩ = some (.int .i64 len)) ∧ (u.cell? ⟨gb, 0, none⟩ = some (.int .i64 F2) ∧ u.cell? ⟨gb, 1, none⟩ = some (.int .i64 N2) ∧ u.cell? ⟨gb, 2, none⟩ = some (.int .i64 k2) ∧ u.cell? ⟨gb, 3, none⟩ = some (.int .i64 len2)) ∧ u.cell? ⟨xb, 0, none⟩ = some (.int .i64 xF) ∧ u.cell? ⟨xb, 1, none⟩ = some (.int .i64 xN) ∧ u.cell? ⟨xb, 2, none⟩ = some (.int .i64 xK) ∧ u.cell? ⟨xb, 3, none⟩ = some (.int .i64 xL))) := fun u q => HROW.out _ _ _ ((hS2 _).1 q)
      have HRS0 : Hid (∀ u, S2 u → Calls Tryz.prog 15 #[.slice A9 len c9, .slice A len cap] u fun e w' => e = .returned (.bool true) ∧ S2 w') := fun u q => by
        obtain ⟨A', c', e9, hr9, _⟩ := ((hS2 _).1 q).tread (i := OS.length) ix_end0 (fun u hu => (HFO.out.fit u hu).1)
        rw [HLEN.out] at e9 hr9
        injection e9 with e1 e2 e3
        subst e1
        have := rsame_any A9 A len len c9 cap _ _ u hr9 (HL.out u ((hS2 _).1 q).bel) HM.out HM.out
        rw [decide_eq_true rfl] at this
        refine this.mono ?_
        rintro e w' ⟨he, q9, rfl⟩
        exact ⟨he, HSTB2.out u _ q (below_drewN (Below.refl _ _) q9)⟩
      have HRS1 : Hid (∀ u, S2 u → Calls Tryz.prog 15 #[.slice B9 len2 d9, .slice A2 len2 cap2] u fun e w' => e = .returned (.bool true) ∧ S2 w') := fun u q => by
        obtain ⟨A', c', e9, hr9, _⟩ := ((hS2 _).1 q).tread (i := OS.length + 1) ix_end1 (fun u hu => (HFO2.out.fit u hu).1)
        rw [HLEN2.out] at e9 hr9
        injection e9 with e1 e2 e3
        subst e1
        have := rsame_any B9 A2 len2 len2 d9 cap2 _ _ u hr9 (HL2.out u ((hS2 _).1 q).bel) HM2.out HM2.out
        rw [decide_eq_true rfl] at this
        refine this.mono ?_
        rintro e w' ⟨he, q9, rfl⟩
        exact ⟨he, HSTB2.out u _ q (below_drewN (Below.refl _ _) q9)⟩
      have HCN : Hid (∀ u, S2 u → Calls Tryz.prog 13 #[.pointer (some ⟨p.w, 0, none⟩), .slice (some ⟨u.heap.size, 0, none⟩) 3 3] (u.alloc (.cells #[.int .i64 F1, .int .i64 N1, .int .i64 k1, .int .i64 len, .int .i64 F2, .int .i64 N2, .int .i64 k2, .int .i64 len2, .int .i64 xF, .int .i64 xN, .int .i64 xK, .int .i64 xL] 31)) fun e w' => e = .returned (.bool true) ∧ S2 w') := fun u q => by
        have hm := HMB.out
        have hn1 : N1 ≤ 200 := hN1
        have hn2 : N2 ≤ 200 := hN2
        have hr : Row (u.alloc (.cells #[.int .i64 F1, .int .i64 N1, .int .i64 k1, .int .i64 len, .int .i64 F2, .int .i64 N2, .int .i64 k2, .int .i64 len2, .int .i64 xF, .int .i64 xN, .int .i64 xK, .int .i64 xL] 31)) u.heap.size 31 [.int .i64 F1, .int .i64 N1, .int .i64 k1, .int .i64 len, .int .i64 F2, .int .i64 N2, .int .i64 k2, .int .i64 len2, .int .i64 xF, .int .i64 xN, .int .i64 xK, .int .i64 xL] := heap_alloc_new _ _
        refine (clean13_any (bs := fun i => if i = 0 then N1 else if i = 1 then N2 else N) (c := 3) (n := 3) (rb := u.heap.size) (((hS2 _).1 q).below ((Below.refl _ _).alloc (Nat.le_refl _) _)) rfl (by rw [sumN_app, HGW.out]; rfl) (by rw [sumN_app, HXW.out]; show N1 + N2 + N + (0 + (0 + 0)) = 0 + N1 + N2 + N; omega) (by omega) (fun i hi => ⟨by split; omega; split <;> omega, ?_⟩) (fun _ => hr.lt)).mono ?_
        · rcases (show i = 0 ∨ i = 1 ∨ i = 2 by omega) with rfl | rfl | rfl
          · exact hr.cell 1
          · exact hr.cell 5
          · show _ = some (Value.int .i64 (N : Int))
            rw [← HX.out.1]
            exact hr.cell 9
        · rintro e w' ⟨he, hw⟩
          exact ⟨he, (hS2 _).2 hw⟩
      have HEND : Hid (∀ u, S2 u → Below w.heap.size w u) := fun u q => HE.out _ ((hS2 _).1 q).bel
      clear hS2 hw15 hc9 hd9
      obtain ⟨⟨⟨t0, t1⟩, t2, t3⟩, -⟩ := HCE2.out _ HS15.out
      go_wp2_with fail
      refine (HRS0.out _ HS15.out).mono ?_
      rintro e w16 ⟨rfl, k16⟩
      have HS16 := Lib.hid k16
      clear k16 t0 t1 t2 t3
      obtain ⟨⟨⟨t0, t1⟩, t2, t3⟩, -⟩ := HCE2.out _ HS16.out
      go_wp2_with fail
      refine (HRS1.out _ HS16.out).mono ?_
      rintro e w17 ⟨rfl, k17⟩
      have HS17 := Lib.hid k17
      clear k17 t0 t1 t2 t3
      obtain ⟨-, ⟨a0, a1, a2, a3⟩, ⟨b0, b1, b2, b3⟩, x0, x1, x2, x3⟩ := HCE2.out _ HS17.out
      go_wp2_with fail
      refine (HCN.out _ HS17.out).mono ?_
      rintro e w18 ⟨rfl, k18⟩
      have HB90 := Lib.hid (HEND.out _ k18)
      clear k18 a0 a1 a2 a3 b0 b1 b2 b3 x0 x1 x2 x3
      go_wp2
      go_ret
      exact ⟨rfl, HB90.out⟩
  · have HOP : Hid (Calls Tryz.prog 21 #[.pointer (some ⟨p.w, 0, none⟩), .agg #[.int .i64 F2, .int .i64 N2, .int .i64 k2, .int .i64 len2], .int .i64 0] w9 (UR (cxL W1 p 60 12 5000 False 0) [fiO F1 N1 k1 (holdsI 12 (k1 : Nat)) l 12, rowO fb 31 [.int .i64 F1, .int .i64 N1, .int .i64 k1, .int .i64 len], fiO F2 N2 k2 (holdsI 12 (k2 : Nat)) l2 12, rowO gb 31 [.int .i64 F2, .int .i64 N2, .int .i64 k2, .int .i64 len2], rowO xb 31 [.int .i64 0, .int .i64 0, .int .i64 0, .int .i64 0]])) := by
      by_cases hk5 : k2 = 5
      · subst hk5
        refine (number_wide (.pointer (some ⟨p.w, 0, none⟩)) F2 N2 len2 0 w9).mono ?_
        rintro e w' ⟨rfl, hb⟩
        exact UR.err (er := 1) (H9.out.below hb) (by omega) (.inl rfl)
      · exact ((wd_number (X := cxL W1 p 60 12 5000 False 0) (fr := 0) H9.out HFO2.out (List.mem_cons_of_mem _ (List.mem_cons_of_mem _ List.mem_cons_self)) HLEN2.out (by omega) (by omega) (by show 2 * 12 + 0 ≤ 60; omega) (by show 0 + (0 + N1 + N2) + N2 + len2 + 2 ≤ 1000000; omega) (hol_pos (by omega) (by show 8 ≤ 12 ∧ 12 ≤ 256; omega)).1)).mono (fun e w' h => UR.op h rfl (hR1.out _ (Nat.le_trans (blocks_le _ _) h202)) (by omega))
    clear h20 h202
    go_wp2_with fail
    refine HOP.out.mono ?_
    clear HOP
    clear a0 a1 a2 a3 b0 b1 b2 b3
    rintro e w10 ⟨xF, xN, xK, xL, er, N, m', tl, rfl, hx, htl, hw10⟩
    have hw10 : Wd (cxL W1 p 60 12 5000 False 0) ([fiO F1 N1 k1 (holdsI 12 (k1 : Nat)) l 12, rowO fb 31 [.int .i64 F1, .int .i64 N1, .int .i64 k1, .int .i64 len], fiO F2 N2 k2 (holdsI 12 (k2 : Nat)) l2 12, rowO gb 31 [.int .i64 F2, .int .i64 N2, .int .i64 k2, .int .i64 len2]] ++ [] ++ [rowO xb 31 [.int .i64 0, .int .i64 0, .int .i64 0, .int .i64 0]] ++ tl) m' w10 := hw10
    have z6 := opn_row hw10
    have z0 : w10.cell? ⟨xb, 0, none⟩ = some (.int .i64 0) := z6.cell 0
    have z1 : w10.cell? ⟨xb, 1, none⟩ = some (.int .i64 0) := z6.cell 1
    have z2 : w10.cell? ⟨xb, 2, none⟩ = some (.int .i64 0) := z6.cell 2
    have z3 : w10.cell? ⟨xb, 3, none⟩ = some (.int .i64 0) := z6.cell 3
    have f0 := z6.free 0
    have f1 := z6.free 1
    have f2 := z6.free 2
    have f3 := z6.free 3
    have H11 : Hid (Wd (cxL W1 p 60 12 5000 False 0) (fiO F1 N1 k1 (holdsI 12 (k1 : Nat)) l 12 :: rowO fb 31 [.int .i64 F1, .int .i64 N1, .int .i64 k1, .int .i64 len] :: fiO F2 N2 k2 (holdsI 12 (k2 : Nat)) l2 12 :: rowO gb 31 [.int .i64 F2, .int .i64 N2, .int .i64 k2, .int .i64 len2] :: rowO xb 31 [.int .i64 xF, .int .i64 xN, .int .i64 xK, .int .i64 xL] :: tl) m' ((((w10.setCell ⟨xb, 0, none⟩ (.int .i64 xF)).setCell ⟨xb, 1, none⟩ (.int .i64 xN)).setCell ⟨xb, 2, none⟩ (.int .i64 xK)).setCell ⟨xb, 3, none⟩ (.int .i64 xL))) := opn_store rfl hw10 (.int .i64 xF) (.int .i64 xN) (.int .i64 xK) (.int .i64 xL)
    have HX := Lib.hid hx
    have HTL := Lib.hid htl
    clear hw10 z6 hx htl H9 t0 m0
    go_upto_region 20 with (fail)
    generalize (((w10.setCell ⟨xb, 0, none⟩ (.int .i64 xF)).setCell ⟨xb, 1, none⟩ (.int .i64 xN)).setCell ⟨xb, 2, none⟩ (.int .i64 xK)).setCell ⟨xb, 3, none⟩ (.int .i64 xL) = w11 at *
    clear z0 z1 z2 z3 f0 f1 f2 f3
    have HD11 : Hid (Calls Tryz.prog 17 #[.pointer (some ⟨p.w, 0, none⟩)] w11 fun e w' => e = .returned (.pointer (some ⟨p.d, 0, none⟩)) ∧ w' = w11) := wd_dev H11.out
    have HH11 : Hid (Calls Tryz.prog 18 #[.pointer (some ⟨p.d, 0, none⟩), .int .i64 (-1)] w11 fun e w' => e = .returned (.tuple #[]) ∧ Wd (cxL W1 p 60 12 5000 True 0) (fiO F1 N1 k1 (holdsI 12 (k1 : Nat)) l 12 :: rowO fb 31 [.int .i64 F1, .int .i64 N1, .int .i64 k1, .int .i64 len] :: fiO F2 N2 k2 (holdsI 12 (k2 : Nat)) l2 12 :: rowO gb 31 [.int .i64 F2, .int .i64 N2, .int .i64 k2, .int .i64 len2] :: rowO xb 31 [.int .i64 xF, .int .i64 xN, .int .i64 xK, .int .i64 xL] :: tl) m' w') := wd_heal H11.out
    go_wp2_with fail
    refine HD11.out.mono ?_; rintro e w12 ⟨rfl, rfl⟩
    go_wp2_with fail
    refine HH11.out.mono ?_; rintro e w13 ⟨rfl, h13⟩
    obtain ⟨OS, hOS⟩ : ∃ OS : List Asn, OS = fiO F1 N1 k1 (holdsI 12 (k1 : Nat)) l 12 :: rowO fb 31 [.int .i64 F1, .int .i64 N1, .int .i64 k1, .int .i64 len] :: fiO F2 N2 k2 (holdsI 12 (k2 : Nat)) l2 12 :: rowO gb 31 [.int .i64 F2, .int .i64 N2, .int .i64 k2, .int .i64 len2] :: rowO xb 31 [.int .i64 xF, .int .i64 xN, .int .i64 xK, .int .i64 xL] :: tl := ⟨_, rfl⟩
    rw [← hOS] at h13
    have HROW : Hid (∀ (tl2 : List Asn) m2 u, Wd (cxL W1 p 60 12 5000 True 0) (OS ++ tl2) m2 u → (((u.cell? ⟨w.heap.size, 0, none⟩ = some (.int .u8 wd) ∧ u.cell? ⟨w.heap.size, 1, none⟩ = some (.slice A len cap)) ∧ u.cell? ⟨w.heap.size + 1, 0, none⟩ = some (.int .u8 wd2) ∧ u.cell? ⟨w.heap.size + 1, 1, none⟩ = some (.slice A2 len2 cap2)) ∧ (u.cell? ⟨fb, 0, none⟩ = some (.int .i64 F1) ∧ u.cell? ⟨fb, 1, none⟩ = some (.int .i64 N1) ∧ u.cell? ⟨fb, 2, none⟩ = some (.int .i64 k1) ∧ u.cell? ⟨fb, 3, none⟩ = some (.int .i64 len)) ∧ (u.cell? ⟨gb, 0, none⟩ = some (.int .i64 F2) ∧ u.cell? ⟨gb, 1, none⟩ = some (.int .i64 N2) ∧ u.cell? ⟨gb, 2, none⟩ = some (.int .i64 k2) ∧ u.cell? ⟨gb, 3, none⟩ = some (.int .i64 len2)) ∧ u.cell? ⟨xb, 0, none⟩ = some (.int .i64 xF) ∧ u.cell? ⟨xb, 1, none⟩ = some (.int .i64 xN) ∧ u.cell? ⟨xb, 2, none⟩ = some (.int .i64 xK) ∧ u.cell? ⟨xb, 3, none⟩ = some (.int .i64 xL))) := fun tl2 m2 u q => by
      rw [hOS] at q
      have q2 : Row u fb 31 [.int .i64 F1, .int .i64 N1, .int .i64 k1, .int .i64 len] := q.row (i := 1) rfl
      have q3 : Row u gb 31 [.int .i64 F2, .int .i64 N2, .int .i64 k2, .int .i64 len2] := q.row (i := 3) rfl
      have q4 : Row u xb 31 [.int .i64 xF, .int .i64 xN, .int .i64 xK, .int .i64 xL] := q.row (i := 4) rfl
      exact ⟨HTB.out u q.bel, ⟨q2.cell 0, q2.cell 1, q2.cell 2, q2.cell 3⟩, ⟨q3.cell 0, q3.cell 1, q3.cell 2, q3.cell 3⟩, q4.cell 0, q4.cell 1, q4.cell 2, q4.cell 3⟩
    have HI0 : Hid (OS[0]? = some (fiO F1 N1 k1 (holdsI 12 (k1 : Nat)) l 12)) := by unfold Hid; rw [hOS]; rfl
    have HI2 : Hid (OS[2]? = some (fiO F2 N2 k2 (holdsI 12 (k2 : Nat)) l2 12)) := by unfold Hid; rw [hOS]; rfl
    have HGW : Hid (sumN Asn.gw OS = 0) := by
      unfold Hid
      have := HTL.out.1
      rw [hOS]
      show 0 + (0 + (0 + (0 + (0 + sumN Asn.gw tl)))) = 0
      omega
    have HXW : Hid (sumN Asn.xw OS = N1 + N2 + N) := by
      unfold Hid
      have := HTL.out.2.1
      rw [hOS]
      show N1 + (0 + (N2 + (0 + (0 + sumN Asn.xw tl)))) = N1 + N2 + N
      omega
    have H13 : Hid (Wd (cxL W1 p 60 12 5000 True 0) (OS ++ []) m' w13) := by unfold Hid; rw [List.append_nil]; exact h13
    have HMB : Hid (N ≤ 5000 ∧ m' ≤ 7000) := HTL.out.2.2
    clear h13 HD11 HH11 H11 hOS HTL
    obtain ⟨⟨⟨t0, t1⟩, t2, t3⟩, ⟨a0, a1, a2, a3⟩, ⟨b0, b1, b2, b3⟩, x0, x1, x2, x3⟩ := HROW.out _ _ _ H13.out
    have HQ : Hid (∀ W, (binOp .neq 31 (.agg #[.int .i64 0, .int .i64 0, .int .i64 0, .int .i64 0]) (.agg #[.int .i64 0, .int .i64 0, .int .i64 0, .int .i64 0])).run Tryz.prog W = .ok (.bool false) W) := fun W => neq_file W 0 0 0 0
    have HG : Hid (∀ W op x y xs ys, (eqGuard op 31 x y (.agg xs) (.agg ys)).run Tryz.prog W = .ok () W) := fun W op x y xs ys => guard_file W op x y xs ys
    go_upto_region 21 with (fail)
    go_cut [105] from 83 to 105 (fun v wx => v = .bool false ∧ wx = w13)
    case first =>
      obtain ⟨-, rfl | ⟨rfl | rfl | rfl, rfl, hz, rfl, rfl⟩⟩ := HX.out
      · go_wp2_with fail
        go_meet
        exact ⟨rfl, rfl⟩
      all_goals (subst hz; have hq := HQ.out; have hg := HG.out; go_wp2_with fail; go_meet; exact ⟨rfl, rfl⟩)
    case rest =>
      obtain ⟨rfl, rfl⟩ := hcut
      have HLI : Hid (∀ u, Wd (cxL W1 p 60 12 5000 True 0) (OS ++ []) m' u → Calls Tryz.prog 14 #[.pointer (some ⟨p.w, 0, none⟩), .agg #[.int .i64 F1, .int .i64 N1, .int .i64 k1, .int .i64 len]] u fun e w' => ∃ v, e = .returned (.tuple #[v, .int .i64 0]) ∧ Wd (cxL W1 p 60 12 5000 True 0) (OS ++ [tlO (cxL W1 p 60 12 5000 True 0) v l]) (m' + N1) w') := fun u q => by
        have hm := HMB.out
        have hg := HGW.out
        rw [List.append_nil] at q
        exact wd_list (X := cxL W1 p 60 12 5000 True 0) q (i := 0) HI0.out HFO.out trivial (by show 12 ≤ 60 - sumN Asn.gw OS; omega) (by show 0 + m' + N1 + 1 ≤ 1000000; omega) HLEN.out
      have HLI2 : Hid (∀ v u, Wd (cxL W1 p 60 12 5000 True 0) (OS ++ [tlO (cxL W1 p 60 12 5000 True 0) v l]) (m' + N1) u → Calls Tryz.prog 14 #[.pointer (some ⟨p.w, 0, none⟩), .agg #[.int .i64 F2, .int .i64 N2, .int .i64 k2, .int .i64 len2]] u fun e w' => ∃ v2, e = .returned (.tuple #[v2, .int .i64 0]) ∧ Wd (cxL W1 p 60 12 5000 True 0) (OS ++ [tlO (cxL W1 p 60 12 5000 True 0) v l, tlO (cxL W1 p 60 12 5000 True 0) v2 l2]) (m' + N1 + N2) w') := fun v u q => by
        have hm := HMB.out
        have hg := HGW.out
        have hg2 : sumN Asn.gw (OS ++ [tlO (cxL W1 p 60 12 5000 True 0) v l]) = 0 := by rw [sumN_app, hg]; rfl
        refine (wd_list (X := cxL W1 p 60 12 5000 True 0) q (i := 2) (ix_app HI2.out) HFO2.out trivial (by rw [hg2]; show 12 ≤ 60 - 0; omega) (by show 0 + (m' + N1) + N2 + 1 ≤ 1000000; omega) HLEN2.out).mono ?_
        rintro e w' ⟨v2, he, hw⟩
        rw [List.append_assoc] at hw
        exact ⟨v2, he, hw⟩
      go_wp2_with fail
      refine (HLI.out _ H13.out).mono ?_
      rintro e w14 ⟨v, rfl, hw14⟩
      have H14 := Lib.hid hw14
      clear hw14 t0 t1 t2 t3 a0 a1 a2 a3 b0 b1 b2 b3 x0 x1 x2 x3 H13
      obtain ⟨-, ⟨a0, a1, a2, a3⟩, ⟨b0, b1, b2, b3⟩, x0, x1, x2, x3⟩ := HROW.out _ _ _ H14.out
      go_wp2_with fail
      refine (HLI2.out _ _ H14.out).mono ?_
      rintro e w15 ⟨v2, rfl, hw15⟩
      clear a0 a1 a2 a3 b0 b1 b2 b3 x0 x1 x2 x3 H14
      obtain ⟨A9, c9, rfl, _, hc9⟩ := hw15.tread (i := OS.length) ix_end0 (fun u hu => (HFO.out.fit u hu).1)
      obtain ⟨B9, d9, rfl, _, hd9⟩ := hw15.tread (i := OS.length + 1) ix_end1 (fun u hu => (HFO2.out.fit u hu).1)
      rw [HLEN.out, HLEN2.out] at hw15
      rw [HLEN.out, HLEN2.out]
      obtain ⟨S2, hS2⟩ : ∃ S2 : World → Prop, ∀ u, S2 u ↔ Wd (cxL W1 p 60 12 5000 True 0) (OS ++ [tlO (cxL W1 p 60 12 5000 True 0) (.slice A9 len c9) l, tlO (cxL W1 p 60 12 5000 True 0) (.slice B9 len2 d9) l2]) (m' + N1 + N2) u := ⟨_, fun _ => Iff.rfl⟩
      have HS15 : Hid (S2 w15) := (hS2 _).2 hw15
      have HSTB2 : Hid (∀ u u', S2 u → Below u.heap.size u u' → S2 u') := fun u u' q hb => (hS2 _).2 (((hS2 _).1 q).below hb)
      have HCE2 : Hid (∀ u, S2 u → (((u.cell? ⟨w.heap.size, 0, none⟩ = some (.int .u8 wd) ∧ u.cell? ⟨w.heap.size, 1, none⟩ = some (.slice A len cap)) ∧ u.cell? ⟨w.heap.size + 1, 0, none⟩ = some (.int .u8 wd2) ∧ u.cell? ⟨w.heap.size + 1, 1, none⟩ = some (.slice A2 len2 cap2)) ∧ (u.cell? ⟨fb, 0, none⟩ = some (.int .i64 F1) ∧ u.cell? ⟨fb, 1, none⟩ = some (.int .i64 N1) ∧ u.cell? ⟨fb, 2, none⟩ = some (.int .i64 k1) ∧ u.cell? ⟨fb, 3, none⟩ = some (.int .i64 len)) ∧ (u.cell? ⟨gb, 0, none⟩ = some (.int .i64 F2) ∧ u.cell? ⟨gb, 1, none⟩ = some (.int .i64 N2) ∧ u.cell? ⟨gb, 2, none⟩ = some (.int .i64 k2) ∧ u.cell? ⟨gb, 3, none⟩ = some (.int .i64 len2)) ∧ u.cell? ⟨xb, 0, none⟩ = some (.int .i64 xF) ∧ u.cell? ⟨xb, 1, none⟩ = some (.int .i64 xN) ∧ u.cell? ⟨xb, 2, none⟩ = some (.int .i64 xK) ∧ u.cell? ⟨xb, 3, none⟩ = some (.int .i64 xL))) := fun u q => HROW.out _ _ _ ((hS2 _).1 q)
      have HRS0 : Hid (∀ u, S2 u → Calls Tryz.prog 15 #[.slice A9 len c9, .slice A len cap] u fun e w' => e = .returned (.bool true) ∧ S2 w') := fun u q => by
        obtain ⟨A', c', e9, hr9, _⟩ := ((hS2 _).1 q).tread (i := OS.length) ix_end0 (fun u hu => (HFO.out.fit u hu).1)
        rw [HLEN.out] at e9 hr9
        injection e9 with e1 e2 e3
        subst e1
        have := rsame_any A9 A len len c9 cap _ _ u hr9 (HL.out u ((hS2 _).1 q).bel) HM.out HM.out
        rw [decide_eq_true rfl] at this
        refine this.mono ?_
        rintro e w' ⟨he, q9, rfl⟩
        exact ⟨he, HSTB2.out u _ q (below_drewN (Below.refl _ _) q9)⟩
      have HRS1 : Hid (∀ u, S2 u → Calls Tryz.prog 15 #[.slice B9 len2 d9, .slice A2 len2 cap2] u fun e w' => e = .returned (.bool true) ∧ S2 w') := fun u q => by
        obtain ⟨A', c', e9, hr9, _⟩ := ((hS2 _).1 q).tread (i := OS.length + 1) ix_end1 (fun u hu => (HFO2.out.fit u hu).1)
        rw [HLEN2.out] at e9 hr9
        injection e9 with e1 e2 e3
        subst e1
        have := rsame_any B9 A2 len2 len2 d9 cap2 _ _ u hr9 (HL2.out u ((hS2 _).1 q).bel) HM2.out HM2.out
        rw [decide_eq_true rfl] at this
        refine this.mono ?_
        rintro e w' ⟨he, q9, rfl⟩
        exact ⟨he, HSTB2.out u _ q (below_drewN (Below.refl _ _) q9)⟩
      have HCN : Hid (∀ u, S2 u → Calls Tryz.prog 13 #[.pointer (some ⟨p.w, 0, none⟩), .slice (some ⟨u.heap.size, 0, none⟩) 3 3] (u.alloc (.cells #[.int .i64 F1, .int .i64 N1, .int .i64 k1, .int .i64 len, .int .i64 F2, .int .i64 N2, .int .i64 k2, .int .i64 len2, .int .i64 xF, .int .i64 xN, .int .i64 xK, .int .i64 xL] 31)) fun e w' => e = .returned (.bool true) ∧ S2 w') := fun u q => by
        have hm := HMB.out
        have hn1 : N1 ≤ 200 := hN1
        have hn2 : N2 ≤ 200 := hN2
        have hr : Row (u.alloc (.cells #[.int .i64 F1, .int .i64 N1, .int .i64 k1, .int .i64 len, .int .i64 F2, .int .i64 N2, .int .i64 k2, .int .i64 len2, .int .i64 xF, .int .i64 xN, .int .i64 xK, .int .i64 xL] 31)) u.heap.size 31 [.int .i64 F1, .int .i64 N1, .int .i64 k1, .int .i64 len, .int .i64 F2, .int .i64 N2, .int .i64 k2, .int .i64 len2, .int .i64 xF, .int .i64 xN, .int .i64 xK, .int .i64 xL] := heap_alloc_new _ _
        refine (clean13_any (bs := fun i => if i = 0 then N1 else if i = 1 then N2 else N) (c := 3) (n := 3) (rb := u.heap.size) (((hS2 _).1 q).below ((Below.refl _ _).alloc (Nat.le_refl _) _)) rfl (by rw [sumN_app, HGW.out]; rfl) (by rw [sumN_app, HXW.out]; show N1 + N2 + N + (0 + (0 + 0)) = 0 + N1 + N2 + N; omega) (by omega) (fun i hi => ⟨by split; omega; split <;> omega, ?_⟩) (fun _ => hr.lt)).mono ?_
        · rcases (show i = 0 ∨ i = 1 ∨ i = 2 by omega) with rfl | rfl | rfl
          · exact hr.cell 1
          · exact hr.cell 5
          · show _ = some (Value.int .i64 (N : Int))
            rw [← HX.out.1]
            exact hr.cell 9
        · rintro e w' ⟨he, hw⟩
          exact ⟨he, (hS2 _).2 hw⟩
      have HEND : Hid (∀ u, S2 u → Below w.heap.size w u) := fun u q => HE.out _ ((hS2 _).1 q).bel
      clear hS2 hw15 hc9 hd9
      obtain ⟨⟨⟨t0, t1⟩, t2, t3⟩, -⟩ := HCE2.out _ HS15.out
      go_wp2_with fail
      refine (HRS0.out _ HS15.out).mono ?_
      rintro e w16 ⟨rfl, k16⟩
      have HS16 := Lib.hid k16
      clear k16 t0 t1 t2 t3
      obtain ⟨⟨⟨t0, t1⟩, t2, t3⟩, -⟩ := HCE2.out _ HS16.out
      go_wp2_with fail
      refine (HRS1.out _ HS16.out).mono ?_
      rintro e w17 ⟨rfl, k17⟩
      have HS17 := Lib.hid k17
      clear k17 t0 t1 t2 t3
      obtain ⟨-, ⟨a0, a1, a2, a3⟩, ⟨b0, b1, b2, b3⟩, x0, x1, x2, x3⟩ := HCE2.out _ HS17.out
      go_wp2_with fail
      refine (HCN.out _ HS17.out).mono ?_
      rintro e w18 ⟨rfl, k18⟩
      have HB90 := Lib.hid (HEND.out _ k18)
      clear k18 a0 a1 a2 a3 b0 b1 b2 b3 x0 x1 x2 x3
      go_wp2
      go_ret
      exact ⟨rfl, HB90.out⟩

set_option maxRecDepth 100000 in
theorem lifted (os : Os) (started : os.Started) (H : Type) (enc : TypeId × Value → H) :
    ReturnsInHanded {} Tryz.checked os 4 .any (Rows.joinFaultsSpec.pre6 enc Tryz.prog Tryz.f4 Rows.joinFaultsRow.domain false) (Rows.joinFaultsSpec.post enc Tryz.prog Tryz.f4 false true false false) := by
  refine returnsInHanded_of_change (C := Tryz.checked) own started (by kernel_rfl) Tryz.func4
    (ChangeSpec.witness6 (enc := enc) (C := Tryz.checked) false ⟨#[], #[.agg #[.int .u8 0, .slice none 0 0], .agg #[.int .u8 0, .slice none 0 0], .int .u8 0], []⟩ 8 (by kernel_rfl) (by kernel_rfl) (by kernel_rfl) (by kernel_rfl)) ?_
  intro W base args ds gs before hval0 hW hcnd _
  have hval : ∀ (j : Nat) t v, Tryz.f4.params[j]? = some t → args[j]? = some v → Value.okWide Tryz.prog W .any base t v := hval0
  have hW' := hW
  obtain ⟨p, q, hA0, hV, rfl, hfz, hnd⟩ := hW
  have hA : DataW.TrodAll enc Tryz.prog W 0 (fun _ => true) true Tryz.f4.params.toList args.toList ds p := hA0
  rw [Tryz.params4] at hA hval
  obtain ⟨v0, vs0, d0, ds0, p0, q0, hargs, rfl, rfl, h0, r0⟩ := trodAll_cons hA
  obtain ⟨v1, vs1, d1, ds1, p1, q1, rfl, rfl, rfl, h1, r1⟩ := trodAll_cons r0
  obtain ⟨v2, vs2, d2, ds2, p2, q2, rfl, rfl, rfl, h2, r2⟩ := trodAll_cons r1
  obtain ⟨rfl, rfl, rfl⟩ := trodAll_nil r2
  obtain rfl : args = #[v0, v1, v2] := by cases args; simp_all
  obtain ⟨rfl, rfl⟩ := trodVars_none hV
  have k0 := h0
  have lt0 : ∀ x ∈ p0, x.block < W.heap.size := by obtain ⟨m, hm⟩ := k0; exact DataW.trod_lt m _ _ _ hm
  have k1 := h1
  have lt1 : ∀ x ∈ p1, x.block < W.heap.size := by obtain ⟨m, hm⟩ := k1; exact DataW.trod_lt m _ _ _ hm
  have k2 := h2
  have lt2 : ∀ x ∈ p2, x.block < W.heap.size := by obtain ⟨m, hm⟩ := k2; exact DataW.trod_lt m _ _ _ hm
  obtain ⟨wd, A, len, cap, l, rfl, bw, wr, wm⟩ := open_table Tryz.underlying24 (by kernel_rfl) (by kernel_rfl) rfl rfl Tryz.underlying5 Tryz.underlying22 Tryz.underlying56 Tryz.underlying2 (by kernel_rfl) (by kernel_rfl) (hval 0 24 v0 rfl rfl) h0
  obtain ⟨wd2, A2, len2, cap2, l2, rfl, bw2, wr2, wm2⟩ := open_table Tryz.underlying24 (by kernel_rfl) (by kernel_rfl) rfl rfl Tryz.underlying5 Tryz.underlying22 Tryz.underlying56 Tryz.underlying2 (by kernel_rfl) (by kernel_rfl) (hval 1 24 v1 rfl rfl) h1
  obtain ⟨a2, rfl, rfl, rfl, w2⟩ := open_int Tryz.underlying5 (hval 2 5 v2 rfl rfl) h2
  clear hA0 hval0
  refine (walk wd A len cap l wd2 A2 len2 cap2 l2 a2 W bw wr wm bw2 wr2 wm2 w2).mono fun e W' ⟨he, bel⟩ => ?_
  subst he
  exact ⟨_, rfl, _, _, _, [], _, [], hW', trodAll_mk1 (shut_bool Tryz.underlying4 _), (trodAll_cons_mk (Below.trod laidOut (by kernel_rfl) (of_decide_eq_true (by kernel_rfl)) k0 bel lt0) (trodAll_cons_mk (Below.trod laidOut (by kernel_rfl) (of_decide_eq_true (by kernel_rfl)) k1 bel lt1) (trodAll_cons_mk (Below.trod laidOut (by kernel_rfl) (of_decide_eq_true (by kernel_rfl)) k2 bel lt2) trodAll_mk0))), rfl, bel.frame _, fun h => by cases h⟩

theorem over : Rows.joinFaultsRow.holds Tryz.pinned (OpenSpec.ofChange Rows.joinFaultsSpec) :=
  OpenClaim.holds_of_wide 4 Tryz.f4 rfl rfl rfl rfl rfl rfl rfl ⟨rfl, rfl, rfl, rfl, rfl⟩ rfl rfl rfl rfl rfl (by kernel_rfl) Tryz.func4 (by kernel_rfl)
    (of_decide_eq_true (by kernel_rfl)) (by unfold Func.isWrapper; first | (rw [if_pos (by decide +kernel)]; kernel_rfl) | (rw [if_neg (by decide +kernel)]; exact ⟨rfl, rfl⟩))
    (fun os started H enc _ => lifted os started H enc)

theorem proved : Rows.JoinFaultsSaid := over
end Go.Proofs.YtfpjmhnmpjdbiaaGreat.joinFaults
