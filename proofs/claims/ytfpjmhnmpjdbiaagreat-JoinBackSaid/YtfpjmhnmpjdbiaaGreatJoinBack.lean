/-
  JoinBack: whatever table; no condition.
-/
import Derived.Test.YtfpjmhnmpjdbiaaGreatSevD
import Derived.Test.YtfpjmhnmpjdbiaaGreatRows
import Derived.WalkKit
import Derived.ProofKit
import Derived.OpenShut
import Derived.ShutString
import Derived.ChangeOld
import Derived.Below
namespace Go.Proofs.YtfpjmhnmpjdbiaaGreat.joinBack
open Go.ChangeShapes Go.WideShapes Go.ChangeAt Go.RowKit
open Go.ChangeMaps (open_string shut_string)
set_option linter.unusedVariables false

theorem own : ownKnob Tryz.prog.godebug = none := by kernel_rfl
theorem laidOut : laidOutB Tryz.prog = true := by kernel_rfl

theorem op5 {X : Cx} {os : List Asn} {Out : List Tup} {m nb bd k : Nat} {e : Ending} {w' : World} (h : OpRes X os Out m nb bd k e w') (hcm : X.cm) (hS : X.S0 = newSp 0 5000) (hl : os.length ≤ 11) (hos : ∀ a ∈ os, a.ex.2 ≤ 200) (hb : bd ≤ 200) (hlen : Out.length = bd) :
    ∃ F N : Nat, e = .returned (.tuple #[.agg #[.int .i64 F, .int .i64 N, .int .i64 k, .int .i64 bd], .int .i64 0]) ∧ N ≤ 200 ∧ FOk F N k (holdsI X.sz k) Out X.sz ∧ Wd X (os ++ [fiO F N k (holdsI X.sz k) Out X.sz]) (m + N + nb) w' := by
  obtain ⟨F, N, he, hf, hw⟩ := op_good h hcm (rm_law hS hl hos (Nat.le_trans (blocks_le _ _) hb))
  rw [hlen] at he
  refine ⟨F, N, he, ?_, hf, hw⟩
  have h7 := hf.bn
  have h8 := blocks_le (holdsI X.sz k) Out.length
  rw [hlen] at h7 h8
  omega
theorem lk5 {X : Cx} {os : List Asn} {Out : List Tup} {Good : Prop} {m nb bd k : Nat} {e : Ending} {w' : World} (h : LkRes X os Out Good m nb bd k e w') (hg : Good) (hcm : X.cm) (hS : X.S0 = newSp 0 5000) (hl : os.length ≤ 11) (hos : ∀ a ∈ os, a.ex.2 ≤ 200) (hb : bd ≤ 200) (hlen : Out.length = bd) :
    ∃ F N : Nat, e = .returned (.tuple #[.agg #[.int .i64 F, .int .i64 N, .int .i64 k, .int .i64 bd], .int .i64 0]) ∧ N ≤ 200 ∧ FOk F N k (holdsI X.sz k) Out X.sz ∧ Wd X (os ++ [fiO F N k (holdsI X.sz k) Out X.sz]) (m + N + nb) w' := by
  rcases h with ⟨F, N, he, hf, _, hw⟩ | ⟨er, _, _, ⟨_, hno⟩ | ⟨_, hno⟩ | ⟨_, hno⟩, _⟩
  · rw [hlen] at he
    refine ⟨F, N, he, ?_, hf, hw⟩
    have h7 := hf.bn
    have h8 := blocks_le (holdsI X.sz k) Out.length
    rw [hlen] at h7 h8
    omega
  · exact absurd hg hno
  · exact absurd hcm hno
  · obtain ⟨z, hz⟩ := rm_law hS hl hos (Nat.le_trans (blocks_le (holdsI X.sz k) _) hb)
    exact absurd hz (hno z)

set_option maxHeartbeats 4000000 in
set_option maxRecDepth 100000 in
theorem walk (wd : Nat) (A : Option Addr) (len cap : Nat) (l : List Tup) (w : World) (bw : wd ≤ 255) (wr : ReadsT w w.heap.size A len l) (wm : len ≤ maxLen) :
    Calls Tryz.prog 6 #[.agg #[.int .u8 wd, .slice A len cap]] w fun e w' => e = .returned (.bool true) ∧ Below w.heap.size w w' := by
  obtain ⟨W1, hW1⟩ : ∃ W1, W1 = w.alloc (.cells #[.int .u8 wd, .slice A len cap] 24) := ⟨_, rfl⟩
  have hb1 : Below w.heap.size w W1 := by rw [hW1]; exact (Below.refl _ _).alloc (Nat.le_refl _) _
  have r1 : Row W1 w.heap.size 24 [.int .u8 wd, .slice A len cap] := by rw [hW1]; exact heap_alloc_new _ _
  have HW1 := Lib.hid hW1
  have HTB : Hid (∀ u, Below W1.heap.size W1 u → u.cell? ⟨w.heap.size, 0, none⟩ = some (.int .u8 wd) ∧ u.cell? ⟨w.heap.size, 1, none⟩ = some (.slice A len cap)) := fun W hb => by
    have q := r1.below hb r1.lt
    exact ⟨q.cell 0, q.cell 1⟩
  have HE : Hid (∀ W, Below W1.heap.size W1 W → Below w.heap.size w W) := fun W hb => hb1.trans (hb.mono hb1.size)
  have HL : Hid (∀ W, Below W1.heap.size W1 W → ReadsT W W.heap.size A len l) := fun W hb => by
    have h1 := hb1.trans (hb.mono hb1.size)
    exact (wr.keep h1).mono h1.size
  have HLEN : Hid (l.length = len) := wr.1
  have HAW : Hid (∀ W, Calls Tryz.prog 8 #[] W fun e w' => e = .returned (.bool true) ∧ Below W.heap.size W w') := fun W => awake13_any W
  have HWK := Lib.hid (work13_any W1)
  have HM := Lib.hid wm
  have hm2 : len ≤ 9223372036854775807 := by unfold maxLen at wm; omega
  obtain ⟨k, hk⟩ : ∃ k, k = tW wd := ⟨_, rfl⟩
  have hk5 : 0 < k ∧ k ≤ 5 := by rw [hk]; exact tW_le wd
  have HWI : Hid (∀ w, Calls Tryz.prog 11 #[.agg #[.int .u8 wd, .slice A len cap]] w fun e w' => e = .returned (.int .i64 (k : Nat)) ∧ Below w.heap.size w w') := fun w => by have := width_any wd (.slice A len cap) w; rwa [← hk] at this
  have HK := Lib.hid hk
  clear hW1 hb1 r1 wr wm hk
  go_enter Tryz.func6, Tryz.ntmps6
  go_upto_region 1 with (fail)
  rw [← HW1.out]
  clear HW1
  go_wp2_with fail
  refine HWK.out.mono ?_
  rintro e w2 ⟨p, G, rfl, hs, hG, hb⟩
  have H2 : Hid (Wd (cxL W1 p 60 12 5000 True 0) [] 0 w2) := cx_start hs hG hb (by omega) (by omega)
  clear hs hG hb HWK
  go_wp2_with fail
  refine (HAW.out _).mono ?_; rintro e w3 ⟨rfl, hb⟩
  have H3 := Lib.hid (H2.out.below hb)
  clear hb H2
  have HLL : Hid (Calls Tryz.prog 9 #[.pointer (some ⟨p.w, 0, none⟩), .agg #[.int .u8 wd, .slice A len cap]] w3 (LlRes (cxL W1 p 60 12 5000 True 0) [] 0 wd l)) :=
    llay_any H3.out trivial (fun z m' W' q => HL.out W' q.bel) HM.out (by show 12 + 0 ≤ 60; omega) (by show 0 + 0 + 300 ≤ 1000000; omega) (fun q hq => rm_law rfl (by simp) (fun a ha => by cases ha) hq)
  obtain ⟨t0, t1⟩ := HTB.out w3 H3.out.bel
  go_wp2_with fail
  refine HLL.out.mono ?_
  rintro e w4 (⟨_, rfl, hw4⟩ | ⟨hl200, hfit, F1, N1, rfl, hfo, hw4⟩)
  · have HB90 := Lib.hid (HE.out _ (hw4.below ((Below.refl _ _).alloc (Nat.le_refl _) (.cells #[.int .i64 0, .int .i64 0, .int .i64 0, .int .i64 0] 31))).bel)
    clear hw4 HLL t0 t1
    go_wp2
    go_ret
    exact ⟨rfl, HB90.out⟩
  rw [← HK.out] at hfo hw4 hfit
  have hw4 : Wd (cxL W1 p 60 12 5000 True 0) [fiO F1 N1 k (holdsI 12 (k : Nat)) l 12] (0 + N1) w4 := hw4
  have hN1 : N1 ≤ 200 := by rw [hfo.bn]; exact Nat.le_trans (blocks_le _ _) hl200
  obtain ⟨w5, hw5⟩ : ∃ w5, w5 = w4.alloc (.cells #[.int .i64 F1, .int .i64 N1, .int .i64 k, .int .i64 len] 31) := ⟨_, rfl⟩
  have h5 : Wd (cxL W1 p 60 12 5000 True 0) [fiO F1 N1 k (holdsI 12 (k : Nat)) l 12, rowO w4.heap.size 31 [.int .i64 F1, .int .i64 N1, .int .i64 k, .int .i64 len]] (0 + N1) w5 := by
    rw [hw5]
    exact hw4.new ((Below.refl _ _).alloc (Nat.le_refl _) _) (heap_alloc_new _ _ : Row _ _ 31 [.int .i64 F1, .int .i64 N1, .int .i64 k, .int .i64 len]) (Nat.le_refl _)
  have H5 := Lib.hid h5
  have HFO1 := Lib.hid hfo
  have HW5 := Lib.hid hw5
  have H200 : Hid (len ≤ 200) := by unfold Hid; rw [← HLEN.out]; exact hl200
  have HFIT := Lib.hid hfit
  clear hw4 h5 hfo hw5 hl200 hfit HLL t0 t1
  rw [HLEN.out, ← HK.out]
  go_upto_region 5 with (fail)
  rw [← HW5.out]
  clear HW5
  generalize w4.heap.size = fb at *
  obtain ⟨t0, t1⟩ := HTB.out w5 H5.out.bel
  go_wp2_with fail
  refine (HWI.out _).mono ?_
  rintro e w6 ⟨rfl, hb6⟩
  have H6 := Lib.hid (H5.out.below hb6)
  clear hb6 t0 t1 H5
  obtain ⟨t0, t1⟩ := HTB.out w6 H6.out.bel
  by_cases hk3 : k ≤ 3
  case neg =>
    have g1 : decide ((k : Int) > 3) = true := by simp; omega
    have HB90 := Lib.hid (HE.out _ H6.out.bel)
    go_wp2
    go_ret
    exact ⟨rfl, HB90.out⟩
  case pos =>
  have g1 : decide ((k : Int) > 3) = false := by simp; omega
  have hk13 : 0 < k ∧ k ≤ 3 := ⟨hk5.1, hk3⟩
  go_wp2_with fail
  refine (HWI.out _).mono ?_
  rintro e w7 ⟨rfl, hb7⟩
  have H7 := Lib.hid (H6.out.below hb7)
  clear hb7 t0 t1 H6
  have HR7 : Hid (Row w7 fb 31 [.int .i64 F1, .int .i64 N1, .int .i64 k, .int .i64 len]) := H7.out.row (i := 1) rfl
  have a0 : w7.cell? ⟨fb, 0, none⟩ = some (.int .i64 F1) := HR7.out.cell 0
  have a1 : w7.cell? ⟨fb, 1, none⟩ = some (.int .i64 N1) := HR7.out.cell 1
  have a2 : w7.cell? ⟨fb, 2, none⟩ = some (.int .i64 k) := HR7.out.cell 2
  have a3 : w7.cell? ⟨fb, 3, none⟩ = some (.int .i64 len) := HR7.out.cell 3
  obtain ⟨k2, hk2⟩ : ∃ k2, k2 = k + 1 := ⟨_, rfl⟩
  obtain ⟨k3, hk3'⟩ : ∃ k3, k3 = k + 2 := ⟨_, rfl⟩
  have HK2 := Lib.hid hk2
  have HK3 := Lib.hid hk3'
  have HNU : Hid (Calls Tryz.prog 21 #[.pointer (some ⟨p.w, 0, none⟩), .agg #[.int .i64 F1, .int .i64 N1, .int .i64 k, .int .i64 len], .int .i64 5] w7 fun e w' => ∃ F2 N2 : Nat, e = .returned (.tuple #[.agg #[.int .i64 F2, .int .i64 N2, .int .i64 k2, .int .i64 len], .int .i64 0]) ∧ N2 ≤ 200 ∧ FOk F2 N2 k2 (holdsI 12 (k2 : Nat)) (xL k 5 l len) 12 ∧ Wd (cxL W1 p 60 12 5000 True 0) [fiO F1 N1 k (holdsI 12 (k : Nat)) l 12, rowO fb 31 [.int .i64 F1, .int .i64 N1, .int .i64 k, .int .i64 len], fiO F2 N2 k2 (holdsI 12 (k2 : Nat)) (xL k 5 l len) 12] (0 + N1 + N2 + N1) w') := by
    have h20 := H200.out
    refine (wd_number (X := cxL W1 p 60 12 5000 True 0) (fr := 5) H7.out HFO1.out List.mem_cons_self HLEN.out (by omega) (by omega) (by show 2 * 12 + 0 ≤ 60; omega) (by show 0 + (0 + N1) + N1 + len + 2 ≤ 1000000; omega) (hol_pos (by omega) (by show 8 ≤ 12 ∧ 12 ≤ 256; omega)).1).mono ?_
    rintro e w' h9
    rw [← hk2] at h9
    exact op5 h9 trivial rfl (by simp) (fun a ha => by
      simp at ha
      rcases ha with rfl | rfl
      · exact hN1
      · exact Nat.zero_le _) h20 (x_at HLEN.out).1
  clear hk2 hk3'
  go_wp2_with fail
  refine HNU.out.mono ?_
  rintro e w8 ⟨F2, N2, rfl, hN2, hfo2, hw8⟩
  have HFO2 := Lib.hid hfo2
  obtain ⟨w9, hw9⟩ : ∃ w9, w9 = w8.alloc (.cells #[.int .i64 F2, .int .i64 N2, .int .i64 k2, .int .i64 len] 31) := ⟨_, rfl⟩
  obtain ⟨w10, hw10⟩ : ∃ w10, w10 = w9.alloc (.cells #[.int .i64 0, .int .i64 0, .int .i64 0, .int .i64 0, .int .i64 0] 26) := ⟨_, rfl⟩
  obtain ⟨w11, hw11⟩ : ∃ w11, w11 = w10.alloc (.cells #[.int .i64 0, .int .i64 0, .int .i64 0, .int .i64 0, .int .i64 0] 26) := ⟨_, rfl⟩
  have h9 : Wd (cxL W1 p 60 12 5000 True 0) [fiO F1 N1 k (holdsI 12 (k : Nat)) l 12, rowO fb 31 [.int .i64 F1, .int .i64 N1, .int .i64 k, .int .i64 len], fiO F2 N2 k2 (holdsI 12 (k2 : Nat)) (xL k 5 l len) 12, rowO w8.heap.size 31 [.int .i64 F2, .int .i64 N2, .int .i64 k2, .int .i64 len]] (0 + N1 + N2 + N1) w9 := by
    rw [hw9]
    exact hw8.new ((Below.refl _ _).alloc (Nat.le_refl _) _) (heap_alloc_new _ _ : Row _ _ 31 [.int .i64 F2, .int .i64 N2, .int .i64 k2, .int .i64 len]) (Nat.le_refl _)
  have h10 := h9.new ((Below.refl _ _).alloc (Nat.le_refl _) _) (heap_alloc_new w9 (.cells #[.int .i64 0, .int .i64 0, .int .i64 0, .int .i64 0, .int .i64 0] 26) : Row (w9.alloc (.cells #[.int .i64 0, .int .i64 0, .int .i64 0, .int .i64 0, .int .i64 0] 26)) _ 26 (tupC (oT 0))) (Nat.le_refl _)
  rw [← hw10] at h10
  have h11 := h10.new ((Below.refl _ _).alloc (Nat.le_refl _) _) (heap_alloc_new w10 (.cells #[.int .i64 0, .int .i64 0, .int .i64 0, .int .i64 0, .int .i64 0] 26) : Row (w10.alloc (.cells #[.int .i64 0, .int .i64 0, .int .i64 0, .int .i64 0, .int .i64 0] 26)) _ 26 (tupC (pT 0))) (Nat.le_refl _)
  rw [← hw11] at h11
  have hz10 : w10.heap.size = w9.heap.size + 1 := by rw [hw10]; simp
  rw [hz10] at h11
  have h11 : Wd (cxL W1 p 60 12 5000 True 0) [fiO F1 N1 k (holdsI 12 (k : Nat)) l 12, rowO fb 31 [.int .i64 F1, .int .i64 N1, .int .i64 k, .int .i64 len], fiO F2 N2 k2 (holdsI 12 (k2 : Nat)) (xL k 5 l len) 12, rowO w8.heap.size 31 [.int .i64 F2, .int .i64 N2, .int .i64 k2, .int .i64 len], rowO w9.heap.size 26 (tupC (oT 0)), rowO (w9.heap.size + 1) 26 (tupC (pT 0))] (0 + N1 + N2 + N1) w11 := h11
  have H11 := Lib.hid h11
  have HW9 := Lib.hid hw9
  have HW10 := Lib.hid hw10
  have HW11 := Lib.hid hw11
  have HZ10 := Lib.hid hz10
  clear hfo2 hw8 hw9 hw10 hw11 h9 h10 h11 hz10 HNU a0 a1 a2 a3 H7 HR7
  go_upto_region 9 with (fail)
  rw [← HW9.out]
  clear HW9
  generalize w8.heap.size = xb at *
  go_upto_region 10 with (fail)
  rw [← HW10.out, ← HW11.out]
  clear HW10 HW11 HZ10
  generalize w9.heap.size = ob at *
  obtain ⟨B, hB⟩ : ∃ B : List Value → List Value → World → Prop, ∀ co cp u, B co cp u ↔ Wd (cxL W1 p 60 12 5000 True 0) [fiO F1 N1 k (holdsI 12 (k : Nat)) l 12, rowO fb 31 [.int .i64 F1, .int .i64 N1, .int .i64 k, .int .i64 len], fiO F2 N2 k2 (holdsI 12 (k2 : Nat)) (xL k 5 l len) 12, rowO xb 31 [.int .i64 F2, .int .i64 N2, .int .i64 k2, .int .i64 len], rowO ob 26 co, rowO (ob + 1) 26 cp] (0 + N1 + N2 + N1) u := ⟨_, fun _ _ _ => Iff.rfl⟩
  have HB11 : Hid (B (tupC (oT 0)) (tupC (pT 0)) w11) := (hB _ _ _).2 H11.out
  have HBR : Hid (∀ co cp u, B co cp u → Row u ob 26 co ∧ Row u (ob + 1) 26 cp) := fun co cp u q => by
    have q := (hB _ _ _).1 q
    exact ⟨q.row (i := 4) rfl, q.row (i := 5) rfl⟩
  have HBS1 : Hid (∀ co cp u j x, B co cp u → B (co.set j x) cp (u.setCell ⟨ob, j, none⟩ x)) := fun co cp u j x q => (hB _ _ _).2 (((hB _ _ _).1 q).store (i := 4) rfl (by decide) j x)
  have HBS2 : Hid (∀ co cp u j x, B co cp u → B co (cp.set j x) (u.setCell ⟨ob + 1, j, none⟩ x)) := fun co cp u j x q => (hB _ _ _).2 (((hB _ _ _).1 q).store (i := 5) rfl (by decide) j x)
  have HBB := Lib.hid hB
  clear hB H11
  go_wp2_with fail
  go_loopw [11] (fun iv wr => ∃ i : Nat, i ≤ k ∧ iv = .int .i64 (i : Int) ∧ Hid (B (tupC (oT i)) (tupC (pT i)) wr)) (fun iv _ => k - (intOf iv).toNat)
  case atStart => exact ⟨0, Nat.zero_le _, rfl, HB11⟩
  case round =>
    clear HB11
    obtain ⟨i, hik, rfl, HI⟩ := hrel
    by_cases hlt : i < k
    · have g0 : decide ((i : Int) < (k : Int)) = true := by simpa using hlt
      have hi0 : (0 : Int) ≤ (i : Int) := by omega
      have hi1 : (i : Int) < 5 := by omega
      have hi2 : (i : Int) + 1 < 5 := by omega
      have hr := (HBR.out _ _ _ HI.out).1
      have q1 : wr.cell? ⟨ob, i, none⟩ = some (.int .i64 (colT (oT i) i)) := (hr.cell i).trans (tupC_at _ (by omega))
      have e1 := hr.free i
      obtain ⟨v, hv⟩ : ∃ v : Int, v = (i : Int) + 1 := ⟨_, rfl⟩
      have hv1 : (i : Int) + 1 = v := hv.symm
      have hvb : 0 ≤ v ∧ v ≤ 5 := by omega
      have h2 := HBS1.out _ _ _ i (.int .i64 v) HI.out
      rw [setT_cells (by omega), hv, o_set (by omega), ← hv] at h2
      have HI2 := Lib.hid h2
      have HV := Lib.hid hv
      clear hr h2 hv
      go_upto_region 14 with (fail)
      generalize wr.setCell ⟨ob, i, none⟩ (.int .i64 v) = w12 at *
      clear q1 e1
      have hr := (HBR.out _ _ _ HI2.out).2
      have q1 : w12.cell? ⟨ob + 1, i + 1, none⟩ = some (.int .i64 (colT (pT i) (i + 1))) := (hr.cell (i + 1)).trans (tupC_at _ (by omega))
      have e1 := hr.free (i + 1)
      have h2 := HBS2.out _ _ _ (i + 1) (.int .i64 v) HI2.out
      rw [setT_cells (by omega), HV.out, p_set (by omega), ← HV.out] at h2
      have HI3 := Lib.hid h2
      have hvt : v.toNat = i + 1 := by omega
      clear hr h2
      go_wp2
      go_roundw
      case rel => exact ⟨i + 1, by omega, by go_num, HI3⟩
      case measure => simp [intOf]; omega
    · obtain rfl : k = i := by omega
      have g0 : decide ((k : Int) < (k : Int)) = false := by simp
      clear HBS1 HBS2
      have hr := (HBR.out _ _ _ HI.out).2
      have q1 : wr.cell? ⟨ob + 1, 0, none⟩ = some (.int .i64 (colT (pT k) 0)) := (hr.cell 0).trans (tupC_at _ (by omega))
      have e1 := hr.free 0
      have hv1 : (k : Int) + 1 = (k2 : Int) := by rw [HK2.out]; rfl
      have hvb : k2 ≤ 5 := by have := HK2.out; omega
      have h2 := ((HBB.out _ _ _).1 HI.out).store (i := 5) rfl (by decide) 0 (.int .i64 (k2 : Int))
      have h2 : Wd (cxL W1 p 60 12 5000 True 0) [fiO F1 N1 k (holdsI 12 (k : Nat)) l 12, rowO fb 31 [.int .i64 F1, .int .i64 N1, .int .i64 k, .int .i64 len], fiO F2 N2 k2 (holdsI 12 (k2 : Nat)) (xL k 5 l len) 12, rowO xb 31 [.int .i64 F2, .int .i64 N2, .int .i64 k2, .int .i64 len], rowO ob 26 (tupC (oT k)), rowO (ob + 1) 26 ((tupC (pT k)).set 0 (.int .i64 (k2 : Int)))] (0 + N1 + N2 + N1) (wr.setCell ⟨ob + 1, 0, none⟩ (.int .i64 (k2 : Int))) := h2
      rw [setT_cells (by omega), ← hv1, q_set hk13] at h2
      rw [hv1] at h2
      have HS2 := Lib.hid h2
      clear hr h2 HBB HBR HI
      go_upto_region 16 with (fail)
      generalize wr.setCell ⟨ob + 1, 0, none⟩ (.int .i64 (k2 : Int)) = w12 at *
      clear q1 e1
      have R2 : Row w12 xb 31 [.int .i64 F2, .int .i64 N2, .int .i64 k2, .int .i64 len] := HS2.out.row (i := 3) rfl
      have c2_0 : w12.cell? ⟨xb, 0, none⟩ = some (.int .i64 F2) := R2.cell 0
      have c2_1 : w12.cell? ⟨xb, 1, none⟩ = some (.int .i64 N2) := R2.cell 1
      have c2_2 : w12.cell? ⟨xb, 2, none⟩ = some (.int .i64 k2) := R2.cell 2
      have c2_3 : w12.cell? ⟨xb, 3, none⟩ = some (.int .i64 len) := R2.cell 3
      clear R2
      have Ro : Row w12 (ob) 26 (tupC (oT k)) := HS2.out.row (i := 4) rfl
      have o_0 : w12.cell? ⟨ob, 0, none⟩ = some (.int .i64 (oT k).a) := Ro.cell 0
      have o_1 : w12.cell? ⟨ob, 1, none⟩ = some (.int .i64 (oT k).b) := Ro.cell 1
      have o_2 : w12.cell? ⟨ob, 2, none⟩ = some (.int .i64 (oT k).c) := Ro.cell 2
      have o_3 : w12.cell? ⟨ob, 3, none⟩ = some (.int .i64 (oT k).d) := Ro.cell 3
      have o_4 : w12.cell? ⟨ob, 4, none⟩ = some (.int .i64 (oT k).e) := Ro.cell 4
      clear Ro

      have HOP3 : Hid (Calls Tryz.prog 12 #[.pointer (some ⟨p.w, 0, none⟩), .agg #[.int .i64 F2, .int .i64 N2, .int .i64 k2, .int .i64 len], .agg #[.int .i64 (oT k).a, .int .i64 (oT k).b, .int .i64 (oT k).c, .int .i64 (oT k).d, .int .i64 (oT k).e]] w12 fun e w' => ∃ F3 N3 : Nat, e = .returned (.tuple #[.agg #[.int .i64 F3, .int .i64 N3, .int .i64 k, .int .i64 len], .int .i64 0]) ∧ N3 ≤ 200 ∧ FOk F3 N3 k (holdsI 12 (k : Nat)) l 12 ∧ Wd (cxL W1 p 60 12 5000 True 0) [fiO F1 N1 k (holdsI 12 (k : Nat)) l 12, rowO fb 31 [.int .i64 F1, .int .i64 N1, .int .i64 k, .int .i64 len], fiO F2 N2 k2 (holdsI 12 (k2 : Nat)) (xL k 5 l len) 12, rowO xb 31 [.int .i64 F2, .int .i64 N2, .int .i64 k2, .int .i64 len], rowO ob 26 (tupC (oT k)), rowO (ob + 1) 26 (tupC (qT k)), fiO F3 N3 k (holdsI 12 (k : Nat)) l 12] (0 + N1 + N2 + N1 + N3 + N2) w') := by
        have h20 := H200.out
        have hk2 := HK2.out
        have hk3 := HK3.out
        obtain ⟨hfm, hnm, hiw⟩ := o_ok hk13
        rw [← hk2] at hiw
        have hho : 0 < holdsI 12 ((nameN (oT k) : Nat) : Int) := (hol_pos (by rw [hnm]; omega) (by show 8 ≤ 12 ∧ 12 ≤ 256; omega)).1
        have q := wd_cut (X := cxL W1 p 60 12 5000 True 0) (o := oT k) HS2.out HFO2.out (List.mem_cons_of_mem _ (List.mem_cons_of_mem _ List.mem_cons_self)) (x_at HLEN.out).1 hfm (by rw [hnm]; omega) hiw (by show 2 * 12 + 0 ≤ 60; omega) (by show 0 + (0 + N1 + N2 + N1) + N2 + len + 2 ≤ 1000000; omega) hho
        rw [hnm] at q
        refine q.mono ?_
        rintro e w' h9
        rw [show outL (cutC (oT k)) (xL k 5 l len) len = l from y_eq HLEN.out hk13 HFIT.out] at h9
        exact op5 h9 trivial rfl (by simp) (fun a ha => by
            simp at ha
            rcases ha with rfl | rfl | rfl | rfl | rfl | rfl
            · exact hN1
            · exact Nat.zero_le _
            · exact hN2
            · exact Nat.zero_le _
            · exact Nat.zero_le _
            · exact Nat.zero_le _) h20 HLEN.out
      go_wp2_with fail
      refine HOP3.out.mono ?_
      rintro e w83 ⟨F3, N3, rfl, hN3, hfo3, hw8⟩
      have HFO3 := Lib.hid hfo3
      obtain ⟨w93, hw9⟩ : ∃ w9, w9 = w83.alloc (.cells #[.int .i64 F3, .int .i64 N3, .int .i64 k, .int .i64 len] 31) := ⟨_, rfl⟩
      have h9 : Wd (cxL W1 p 60 12 5000 True 0) [fiO F1 N1 k (holdsI 12 (k : Nat)) l 12, rowO fb 31 [.int .i64 F1, .int .i64 N1, .int .i64 k, .int .i64 len], fiO F2 N2 k2 (holdsI 12 (k2 : Nat)) (xL k 5 l len) 12, rowO xb 31 [.int .i64 F2, .int .i64 N2, .int .i64 k2, .int .i64 len], rowO ob 26 (tupC (oT k)), rowO (ob + 1) 26 (tupC (qT k)), fiO F3 N3 k (holdsI 12 (k : Nat)) l 12, rowO w83.heap.size 31 [.int .i64 F3, .int .i64 N3, .int .i64 k, .int .i64 len]] (0 + N1 + N2 + N1 + N3 + N2) w93 := by
        rw [hw9]
        exact hw8.new ((Below.refl _ _).alloc (Nat.le_refl _) _) (heap_alloc_new _ _ : Row _ _ 31 [.int .i64 F3, .int .i64 N3, .int .i64 k, .int .i64 len]) (Nat.le_refl _)
      have HS3 := Lib.hid h9
      have HW9 := Lib.hid hw9
      clear hw8 hw9 h9 hfo3 HOP3
      go_upto_region 17 with (fail)
      rw [← HW9.out]
      clear HW9
      generalize w83.heap.size = yb at *

      clear c2_0 c2_1 c2_2 c2_3 o_0 o_1 o_2 o_3 o_4
      have R2 : Row w93 xb 31 [.int .i64 F2, .int .i64 N2, .int .i64 k2, .int .i64 len] := HS3.out.row (i := 3) rfl
      have c2_0 : w93.cell? ⟨xb, 0, none⟩ = some (.int .i64 F2) := R2.cell 0
      have c2_1 : w93.cell? ⟨xb, 1, none⟩ = some (.int .i64 N2) := R2.cell 1
      have c2_2 : w93.cell? ⟨xb, 2, none⟩ = some (.int .i64 k2) := R2.cell 2
      have c2_3 : w93.cell? ⟨xb, 3, none⟩ = some (.int .i64 len) := R2.cell 3
      clear R2
      have Ro : Row w93 (ob + 1) 26 (tupC (qT k)) := HS3.out.row (i := 5) rfl
      have o_0 : w93.cell? ⟨ob + 1, 0, none⟩ = some (.int .i64 (qT k).a) := Ro.cell 0
      have o_1 : w93.cell? ⟨ob + 1, 1, none⟩ = some (.int .i64 (qT k).b) := Ro.cell 1
      have o_2 : w93.cell? ⟨ob + 1, 2, none⟩ = some (.int .i64 (qT k).c) := Ro.cell 2
      have o_3 : w93.cell? ⟨ob + 1, 3, none⟩ = some (.int .i64 (qT k).d) := Ro.cell 3
      have o_4 : w93.cell? ⟨ob + 1, 4, none⟩ = some (.int .i64 (qT k).e) := Ro.cell 4
      clear Ro

      have HOP4 : Hid (Calls Tryz.prog 12 #[.pointer (some ⟨p.w, 0, none⟩), .agg #[.int .i64 F2, .int .i64 N2, .int .i64 k2, .int .i64 len], .agg #[.int .i64 (qT k).a, .int .i64 (qT k).b, .int .i64 (qT k).c, .int .i64 (qT k).d, .int .i64 (qT k).e]] w93 fun e w' => ∃ F4 N4 : Nat, e = .returned (.tuple #[.agg #[.int .i64 F4, .int .i64 N4, .int .i64 k2, .int .i64 len], .int .i64 0]) ∧ N4 ≤ 200 ∧ FOk F4 N4 k2 (holdsI 12 (k2 : Nat)) (zL k 5 l len) 12 ∧ Wd (cxL W1 p 60 12 5000 True 0) [fiO F1 N1 k (holdsI 12 (k : Nat)) l 12, rowO fb 31 [.int .i64 F1, .int .i64 N1, .int .i64 k, .int .i64 len], fiO F2 N2 k2 (holdsI 12 (k2 : Nat)) (xL k 5 l len) 12, rowO xb 31 [.int .i64 F2, .int .i64 N2, .int .i64 k2, .int .i64 len], rowO ob 26 (tupC (oT k)), rowO (ob + 1) 26 (tupC (qT k)), fiO F3 N3 k (holdsI 12 (k : Nat)) l 12, rowO yb 31 [.int .i64 F3, .int .i64 N3, .int .i64 k, .int .i64 len], fiO F4 N4 k2 (holdsI 12 (k2 : Nat)) (zL k 5 l len) 12] (0 + N1 + N2 + N1 + N3 + N2 + N4 + N2) w') := by
        have h20 := H200.out
        have hk2 := HK2.out
        have hk3 := HK3.out
        obtain ⟨hfm, hnm, hiw⟩ := q_ok hk13
        rw [← hk2] at hiw
        have hho : 0 < holdsI 12 ((nameN (qT k) : Nat) : Int) := (hol_pos (by rw [hnm]; omega) (by show 8 ≤ 12 ∧ 12 ≤ 256; omega)).1
        have q := wd_cut (X := cxL W1 p 60 12 5000 True 0) (o := qT k) HS3.out HFO2.out (List.mem_cons_of_mem _ (List.mem_cons_of_mem _ List.mem_cons_self)) (x_at HLEN.out).1 hfm (by rw [hnm]; omega) hiw (by show 2 * 12 + 0 ≤ 60; omega) (by show 0 + (0 + N1 + N2 + N1 + N3 + N2) + N2 + len + 2 ≤ 1000000; omega) hho
        rw [hnm, ← hk2] at q
        refine q.mono ?_
        rintro e w' h9
        exact op5 h9 trivial rfl (by simp) (fun a ha => by
            simp at ha
            rcases ha with rfl | rfl | rfl | rfl | rfl | rfl | rfl | rfl
            · exact hN1
            · exact Nat.zero_le _
            · exact hN2
            · exact Nat.zero_le _
            · exact Nat.zero_le _
            · exact Nat.zero_le _
            · exact hN3
            · exact Nat.zero_le _) h20 (z_at HLEN.out hk13).1
      go_wp2_with fail
      refine HOP4.out.mono ?_
      rintro e w84 ⟨F4, N4, rfl, hN4, hfo4, hw8⟩
      have HFO4 := Lib.hid hfo4
      obtain ⟨w94, hw9⟩ : ∃ w9, w9 = w84.alloc (.cells #[.int .i64 F4, .int .i64 N4, .int .i64 k2, .int .i64 len] 31) := ⟨_, rfl⟩
      have h9 : Wd (cxL W1 p 60 12 5000 True 0) [fiO F1 N1 k (holdsI 12 (k : Nat)) l 12, rowO fb 31 [.int .i64 F1, .int .i64 N1, .int .i64 k, .int .i64 len], fiO F2 N2 k2 (holdsI 12 (k2 : Nat)) (xL k 5 l len) 12, rowO xb 31 [.int .i64 F2, .int .i64 N2, .int .i64 k2, .int .i64 len], rowO ob 26 (tupC (oT k)), rowO (ob + 1) 26 (tupC (qT k)), fiO F3 N3 k (holdsI 12 (k : Nat)) l 12, rowO yb 31 [.int .i64 F3, .int .i64 N3, .int .i64 k, .int .i64 len], fiO F4 N4 k2 (holdsI 12 (k2 : Nat)) (zL k 5 l len) 12, rowO w84.heap.size 31 [.int .i64 F4, .int .i64 N4, .int .i64 k2, .int .i64 len]] (0 + N1 + N2 + N1 + N3 + N2 + N4 + N2) w94 := by
        rw [hw9]
        exact hw8.new ((Below.refl _ _).alloc (Nat.le_refl _) _) (heap_alloc_new _ _ : Row _ _ 31 [.int .i64 F4, .int .i64 N4, .int .i64 k2, .int .i64 len]) (Nat.le_refl _)
      have HS4 := Lib.hid h9
      have HW9 := Lib.hid hw9
      clear hw8 hw9 h9 hfo4 HOP4
      go_upto_region 18 with (fail)
      rw [← HW9.out]
      clear HW9
      generalize w84.heap.size = zb at *

      clear c2_0 c2_1 c2_2 c2_3 o_0 o_1 o_2 o_3 o_4
      have R4 : Row w94 zb 31 [.int .i64 F4, .int .i64 N4, .int .i64 k2, .int .i64 len] := HS4.out.row (i := 9) rfl
      have c4_0 : w94.cell? ⟨zb, 0, none⟩ = some (.int .i64 F4) := R4.cell 0
      have c4_1 : w94.cell? ⟨zb, 1, none⟩ = some (.int .i64 N4) := R4.cell 1
      have c4_2 : w94.cell? ⟨zb, 2, none⟩ = some (.int .i64 k2) := R4.cell 2
      have c4_3 : w94.cell? ⟨zb, 3, none⟩ = some (.int .i64 len) := R4.cell 3
      clear R4

      have HOP5 : Hid (Calls Tryz.prog 19 #[.pointer (some ⟨p.w, 0, none⟩), .agg #[.int .i64 F4, .int .i64 N4, .int .i64 k2, .int .i64 len], .int .i64 0, .agg #[.int .i64 F4, .int .i64 N4, .int .i64 k2, .int .i64 len], .int .i64 k, .int .i64 k2] w94 fun e w' => ∃ F5 N5 : Nat, e = .returned (.tuple #[.agg #[.int .i64 F5, .int .i64 N5, .int .i64 k3, .int .i64 len], .int .i64 0]) ∧ N5 ≤ 200 ∧ FOk F5 N5 k3 (holdsI 12 (k3 : Nat)) (uL k 5 l len) 12 ∧ Wd (cxL W1 p 60 12 5000 True 0) [fiO F1 N1 k (holdsI 12 (k : Nat)) l 12, rowO fb 31 [.int .i64 F1, .int .i64 N1, .int .i64 k, .int .i64 len], fiO F2 N2 k2 (holdsI 12 (k2 : Nat)) (xL k 5 l len) 12, rowO xb 31 [.int .i64 F2, .int .i64 N2, .int .i64 k2, .int .i64 len], rowO ob 26 (tupC (oT k)), rowO (ob + 1) 26 (tupC (qT k)), fiO F3 N3 k (holdsI 12 (k : Nat)) l 12, rowO yb 31 [.int .i64 F3, .int .i64 N3, .int .i64 k, .int .i64 len], fiO F4 N4 k2 (holdsI 12 (k2 : Nat)) (zL k 5 l len) 12, rowO zb 31 [.int .i64 F4, .int .i64 N4, .int .i64 k2, .int .i64 len], fiO F5 N5 k3 (holdsI 12 (k3 : Nat)) (uL k 5 l len) 12] (0 + N1 + N2 + N1 + N3 + N2 + N4 + N2 + N5 + (N4 + N4)) w') := by
        have h20 := H200.out
        have hk2 := HK2.out
        have hk3 := HK3.out
        have hz := (z_at (fr := 5) HLEN.out hk13).1
        have q := wd_look (X := cxL W1 p 60 12 5000 True 0) (key := 0) (value := k) (to_ := k2) (k := k3) HS4.out HFO4.out (List.mem_of_getElem? (i := 8) rfl) hz HFO4.out (List.mem_of_getElem? (i := 8) rfl) hz (by omega) (by omega) (by omega) (by omega) (by show 3 * 12 + 0 ≤ 60; omega) (by show 0 + (0 + N1 + N2 + N1 + N3 + N2 + N4 + N2) + N4 + N4 + len + 2 ≤ 1000000; omega)
        rw [show lookL (zL k 5 l len) 0 (zL k 5 l len) k k2 len = uL k 5 l len from by rw [hk2]; rfl] at q
        refine q.mono ?_
        rintro e w' h9
        exact lk5 h9 (z_ok HLEN.out hk13) trivial rfl (by simp) (fun a ha => by
            simp at ha
            rcases ha with rfl | rfl | rfl | rfl | rfl | rfl | rfl | rfl | rfl | rfl
            · exact hN1
            · exact Nat.zero_le _
            · exact hN2
            · exact Nat.zero_le _
            · exact Nat.zero_le _
            · exact Nat.zero_le _
            · exact hN3
            · exact Nat.zero_le _
            · exact hN4
            · exact Nat.zero_le _) h20 (u_at HLEN.out hk13).1
      go_wp2_with fail
      refine HOP5.out.mono ?_
      rintro e w85 ⟨F5, N5, rfl, hN5, hfo5, hw8⟩
      have HFO5 := Lib.hid hfo5
      obtain ⟨w95, hw9⟩ : ∃ w9, w9 = w85.alloc (.cells #[.int .i64 F5, .int .i64 N5, .int .i64 k3, .int .i64 len] 31) := ⟨_, rfl⟩
      have h9 : Wd (cxL W1 p 60 12 5000 True 0) [fiO F1 N1 k (holdsI 12 (k : Nat)) l 12, rowO fb 31 [.int .i64 F1, .int .i64 N1, .int .i64 k, .int .i64 len], fiO F2 N2 k2 (holdsI 12 (k2 : Nat)) (xL k 5 l len) 12, rowO xb 31 [.int .i64 F2, .int .i64 N2, .int .i64 k2, .int .i64 len], rowO ob 26 (tupC (oT k)), rowO (ob + 1) 26 (tupC (qT k)), fiO F3 N3 k (holdsI 12 (k : Nat)) l 12, rowO yb 31 [.int .i64 F3, .int .i64 N3, .int .i64 k, .int .i64 len], fiO F4 N4 k2 (holdsI 12 (k2 : Nat)) (zL k 5 l len) 12, rowO zb 31 [.int .i64 F4, .int .i64 N4, .int .i64 k2, .int .i64 len], fiO F5 N5 k3 (holdsI 12 (k3 : Nat)) (uL k 5 l len) 12, rowO w85.heap.size 31 [.int .i64 F5, .int .i64 N5, .int .i64 k3, .int .i64 len]] (0 + N1 + N2 + N1 + N3 + N2 + N4 + N2 + N5 + (N4 + N4)) w95 := by
        rw [hw9]
        exact hw8.new ((Below.refl _ _).alloc (Nat.le_refl _) _) (heap_alloc_new _ _ : Row _ _ 31 [.int .i64 F5, .int .i64 N5, .int .i64 k3, .int .i64 len]) (Nat.le_refl _)
      have HS5 := Lib.hid h9
      have HW9 := Lib.hid hw9
      clear hw8 hw9 h9 hfo5 HOP5
      go_upto_region 19 with (fail)
      rw [← HW9.out]
      clear HW9
      generalize w85.heap.size = ub at *

      clear c4_0 c4_1 c4_2 c4_3

      have R3 : Row w95 yb 31 [.int .i64 F3, .int .i64 N3, .int .i64 k, .int .i64 len] := HS5.out.row (i := 7) rfl
      have c3_0 : w95.cell? ⟨yb, 0, none⟩ = some (.int .i64 F3) := R3.cell 0
      have c3_1 : w95.cell? ⟨yb, 1, none⟩ = some (.int .i64 N3) := R3.cell 1
      have c3_2 : w95.cell? ⟨yb, 2, none⟩ = some (.int .i64 k) := R3.cell 2
      have c3_3 : w95.cell? ⟨yb, 3, none⟩ = some (.int .i64 len) := R3.cell 3
      clear R3
      have HLI : Hid (Calls Tryz.prog 14 #[.pointer (some ⟨p.w, 0, none⟩), .agg #[.int .i64 F3, .int .i64 N3, .int .i64 k, .int .i64 len]] w95 fun e w' => ∃ v, e = .returned (.tuple #[v, .int .i64 0]) ∧ Wd (cxL W1 p 60 12 5000 True 0) [fiO F1 N1 k (holdsI 12 (k : Nat)) l 12, rowO fb 31 [.int .i64 F1, .int .i64 N1, .int .i64 k, .int .i64 len], fiO F2 N2 k2 (holdsI 12 (k2 : Nat)) (xL k 5 l len) 12, rowO xb 31 [.int .i64 F2, .int .i64 N2, .int .i64 k2, .int .i64 len], rowO ob 26 (tupC (oT k)), rowO (ob + 1) 26 (tupC (qT k)), fiO F3 N3 k (holdsI 12 (k : Nat)) l 12, rowO yb 31 [.int .i64 F3, .int .i64 N3, .int .i64 k, .int .i64 len], fiO F4 N4 k2 (holdsI 12 (k2 : Nat)) (zL k 5 l len) 12, rowO zb 31 [.int .i64 F4, .int .i64 N4, .int .i64 k2, .int .i64 len], fiO F5 N5 k3 (holdsI 12 (k3 : Nat)) (uL k 5 l len) 12, rowO ub 31 [.int .i64 F5, .int .i64 N5, .int .i64 k3, .int .i64 len], tlO (cxL W1 p 60 12 5000 True 0) v l] (0 + N1 + N2 + N1 + N3 + N2 + N4 + N2 + N5 + (N4 + N4) + N3) w') :=
        wd_list (X := cxL W1 p 60 12 5000 True 0) HS5.out (i := 6) rfl HFO3.out trivial (by show 12 ≤ 60 - 0; omega) (by show 0 + (0 + N1 + N2 + N1 + N3 + N2 + N4 + N2 + N5 + (N4 + N4)) + N3 + 1 ≤ 1000000; omega) HLEN.out
      go_wp2_with fail
      refine HLI.out.mono ?_
      rintro e w13 ⟨v, rfl, hw13⟩
      have H13 := Lib.hid hw13
      clear hw13 HLI c3_0 c3_1 c3_2 c3_3
      have R5 : Row w13 ub 31 [.int .i64 F5, .int .i64 N5, .int .i64 k3, .int .i64 len] := H13.out.row (i := 11) rfl
      have c5_0 : w13.cell? ⟨ub, 0, none⟩ = some (.int .i64 F5) := R5.cell 0
      have c5_1 : w13.cell? ⟨ub, 1, none⟩ = some (.int .i64 N5) := R5.cell 1
      have c5_2 : w13.cell? ⟨ub, 2, none⟩ = some (.int .i64 k3) := R5.cell 2
      have c5_3 : w13.cell? ⟨ub, 3, none⟩ = some (.int .i64 len) := R5.cell 3
      clear R5
      have HLI : Hid (Calls Tryz.prog 14 #[.pointer (some ⟨p.w, 0, none⟩), .agg #[.int .i64 F5, .int .i64 N5, .int .i64 k3, .int .i64 len]] w13 fun e w' => ∃ v2, e = .returned (.tuple #[v2, .int .i64 0]) ∧ Wd (cxL W1 p 60 12 5000 True 0) [fiO F1 N1 k (holdsI 12 (k : Nat)) l 12, rowO fb 31 [.int .i64 F1, .int .i64 N1, .int .i64 k, .int .i64 len], fiO F2 N2 k2 (holdsI 12 (k2 : Nat)) (xL k 5 l len) 12, rowO xb 31 [.int .i64 F2, .int .i64 N2, .int .i64 k2, .int .i64 len], rowO ob 26 (tupC (oT k)), rowO (ob + 1) 26 (tupC (qT k)), fiO F3 N3 k (holdsI 12 (k : Nat)) l 12, rowO yb 31 [.int .i64 F3, .int .i64 N3, .int .i64 k, .int .i64 len], fiO F4 N4 k2 (holdsI 12 (k2 : Nat)) (zL k 5 l len) 12, rowO zb 31 [.int .i64 F4, .int .i64 N4, .int .i64 k2, .int .i64 len], fiO F5 N5 k3 (holdsI 12 (k3 : Nat)) (uL k 5 l len) 12, rowO ub 31 [.int .i64 F5, .int .i64 N5, .int .i64 k3, .int .i64 len], tlO (cxL W1 p 60 12 5000 True 0) v l, tlO (cxL W1 p 60 12 5000 True 0) v2 (uL k 5 l len)] (0 + N1 + N2 + N1 + N3 + N2 + N4 + N2 + N5 + (N4 + N4) + N3 + N5) w') :=
        wd_list (X := cxL W1 p 60 12 5000 True 0) H13.out (i := 10) rfl HFO5.out trivial (by show 12 ≤ 60 - 0; omega) (by show 0 + (0 + N1 + N2 + N1 + N3 + N2 + N4 + N2 + N5 + (N4 + N4) + N3) + N5 + 1 ≤ 1000000; omega) (u_at HLEN.out hk13).1
      go_wp2_with fail
      refine HLI.out.mono ?_
      rintro e w14 ⟨v2, rfl, hw14⟩
      clear HLI c5_0 c5_1 c5_2 c5_3 H13
      have hlu : (uL k 5 l len).length = len := (u_at HLEN.out hk13).1
      obtain ⟨A9, c9, rfl, _, hc9⟩ := hw14.tread (i := 12) rfl (fun u hu => (HFO1.out.fit u hu).1)
      obtain ⟨B9, d9, rfl, _, hd9⟩ := hw14.tread (i := 13) rfl (fun u hu => (HFO5.out.fit u hu).1)
      rw [HLEN.out, hlu] at hw14
      rw [HLEN.out, hlu]
      obtain ⟨S2, hS2⟩ : ∃ S2 : World → Prop, ∀ u, S2 u ↔ Wd (cxL W1 p 60 12 5000 True 0) [fiO F1 N1 k (holdsI 12 (k : Nat)) l 12, rowO fb 31 [.int .i64 F1, .int .i64 N1, .int .i64 k, .int .i64 len], fiO F2 N2 k2 (holdsI 12 (k2 : Nat)) (xL k 5 l len) 12, rowO xb 31 [.int .i64 F2, .int .i64 N2, .int .i64 k2, .int .i64 len], rowO ob 26 (tupC (oT k)), rowO (ob + 1) 26 (tupC (qT k)), fiO F3 N3 k (holdsI 12 (k : Nat)) l 12, rowO yb 31 [.int .i64 F3, .int .i64 N3, .int .i64 k, .int .i64 len], fiO F4 N4 k2 (holdsI 12 (k2 : Nat)) (zL k 5 l len) 12, rowO zb 31 [.int .i64 F4, .int .i64 N4, .int .i64 k2, .int .i64 len], fiO F5 N5 k3 (holdsI 12 (k3 : Nat)) (uL k 5 l len) 12, rowO ub 31 [.int .i64 F5, .int .i64 N5, .int .i64 k3, .int .i64 len], tlO (cxL W1 p 60 12 5000 True 0) (.slice A9 len c9) l, tlO (cxL W1 p 60 12 5000 True 0) (.slice B9 len d9) (uL k 5 l len)] (0 + N1 + N2 + N1 + N3 + N2 + N4 + N2 + N5 + (N4 + N4) + N3 + N5) u := ⟨_, fun _ => Iff.rfl⟩
      have HS14 : Hid (S2 w14) := (hS2 _).2 hw14
      have HSTB2 : Hid (∀ u u', S2 u → Below u.heap.size u u' → S2 u') := fun u u' q hb => (hS2 _).2 (((hS2 _).1 q).below hb)
      have HSD : Hid (∀ u, S2 u → S2 u.drew) := fun u q => by
        have := HSTB2.out u (u.drewN 1) q (below_drewN (Below.refl u.heap.size u) 1)
        exact this
      have HCE2 : Hid (∀ u, S2 u → (u.cell? ⟨w.heap.size, 0, none⟩ = some (.int .u8 wd) ∧ u.cell? ⟨w.heap.size, 1, none⟩ = some (.slice A len cap)) ∧ (u.cell? ⟨fb, 0, none⟩ = some (.int .i64 F1) ∧ u.cell? ⟨fb, 1, none⟩ = some (.int .i64 N1) ∧ u.cell? ⟨fb, 2, none⟩ = some (.int .i64 k) ∧ u.cell? ⟨fb, 3, none⟩ = some (.int .i64 len)) ∧ (u.cell? ⟨xb, 0, none⟩ = some (.int .i64 F2) ∧ u.cell? ⟨xb, 1, none⟩ = some (.int .i64 N2) ∧ u.cell? ⟨xb, 2, none⟩ = some (.int .i64 k2) ∧ u.cell? ⟨xb, 3, none⟩ = some (.int .i64 len)) ∧ (u.cell? ⟨yb, 0, none⟩ = some (.int .i64 F3) ∧ u.cell? ⟨yb, 1, none⟩ = some (.int .i64 N3) ∧ u.cell? ⟨yb, 2, none⟩ = some (.int .i64 k) ∧ u.cell? ⟨yb, 3, none⟩ = some (.int .i64 len)) ∧ (u.cell? ⟨zb, 0, none⟩ = some (.int .i64 F4) ∧ u.cell? ⟨zb, 1, none⟩ = some (.int .i64 N4) ∧ u.cell? ⟨zb, 2, none⟩ = some (.int .i64 k2) ∧ u.cell? ⟨zb, 3, none⟩ = some (.int .i64 len)) ∧ (u.cell? ⟨ub, 0, none⟩ = some (.int .i64 F5) ∧ u.cell? ⟨ub, 1, none⟩ = some (.int .i64 N5) ∧ u.cell? ⟨ub, 2, none⟩ = some (.int .i64 k3) ∧ u.cell? ⟨ub, 3, none⟩ = some (.int .i64 len))) := fun u q => by
        have q := (hS2 _).1 q
        have R1 : Row u fb 31 [.int .i64 F1, .int .i64 N1, .int .i64 k, .int .i64 len] := q.row (i := 1) rfl
        have R2 : Row u xb 31 [.int .i64 F2, .int .i64 N2, .int .i64 k2, .int .i64 len] := q.row (i := 3) rfl
        have R3 : Row u yb 31 [.int .i64 F3, .int .i64 N3, .int .i64 k, .int .i64 len] := q.row (i := 7) rfl
        have R4 : Row u zb 31 [.int .i64 F4, .int .i64 N4, .int .i64 k2, .int .i64 len] := q.row (i := 9) rfl
        have R5 : Row u ub 31 [.int .i64 F5, .int .i64 N5, .int .i64 k3, .int .i64 len] := q.row (i := 11) rfl
        exact ⟨HTB.out u q.bel, ⟨R1.cell 0, R1.cell 1, R1.cell 2, R1.cell 3⟩, ⟨R2.cell 0, R2.cell 1, R2.cell 2, R2.cell 3⟩, ⟨R3.cell 0, R3.cell 1, R3.cell 2, R3.cell 3⟩, ⟨R4.cell 0, R4.cell 1, R4.cell 2, R4.cell 3⟩, ⟨R5.cell 0, R5.cell 1, R5.cell 2, R5.cell 3⟩⟩
      have HRS : Hid (∀ u, S2 u → Calls Tryz.prog 15 #[.slice A9 len c9, .slice A len cap] u fun e w' => e = .returned (.bool true) ∧ S2 w') := fun u q => by
        obtain ⟨A', c', e9, hr9, _⟩ := ((hS2 _).1 q).tread (i := 12) rfl (fun u hu => (HFO1.out.fit u hu).1)
        rw [HLEN.out] at e9 hr9
        injection e9 with e1 e2 e3
        subst e1
        have := rsame_any A9 A len len c9 cap _ _ u hr9 (HL.out u ((hS2 _).1 q).bel) HM.out HM.out
        rw [decide_eq_true rfl] at this
        refine this.mono ?_
        rintro e w' ⟨he, q9, rfl⟩
        exact ⟨he, HSTB2.out u _ q (below_drewN (Below.refl _ _) q9)⟩
      have HRB : Hid (∀ u, S2 u → ∀ i, i < len → ∃ bb off, B9 = some ⟨bb, off, none⟩ ∧ u.cell? ⟨bb, off + i * 5, none⟩ = some (.int .i64 (5 + (i : Int))) ∧ u.cell? ⟨bb, off + i * 5 + k2, none⟩ = some (.int .i64 (colT (tAt l i) (k - 1)))) := fun u q i hi => by
        obtain ⟨A', c', e9, hr9, _⟩ := ((hS2 _).1 q).tread (i := 13) rfl (fun u hu => (HFO5.out.fit u hu).1)
        rw [hlu] at e9 hr9
        injection e9 with e1 e2 e3
        subst e1
        obtain ⟨h1, h2, h3⟩ := hr9
        obtain ⟨bb, off, hA', -, hc⟩ := h3 (by omega)
        obtain ⟨g1, g2⟩ := (u_at (fr := 5) HLEN.out hk13).2 i hi
        refine ⟨bb, off, hA', ?_, ?_⟩
        · have := hc i hi 0 _ (tupC_at (tAt (uL k 5 l len) i) (by omega))
          rw [g1] at this
          exact this
        · have := hc i hi k2 _ (tupC_at (tAt (uL k 5 l len) i) (by omega))
          rw [HK2.out, g2, ← HK2.out] at this
          exact this
      have HRA : Hid (∀ u, S2 u → ∀ i, i < len → ∃ ab aoff, A = some ⟨ab, aoff, none⟩ ∧ u.cell? ⟨ab, aoff + i * 5 + (k - 1), none⟩ = some (.int .i64 (colT (tAt l i) (k - 1)))) := fun u q i hi => by
        obtain ⟨h1, h2, h3⟩ := HL.out u ((hS2 _).1 q).bel
        obtain ⟨ab, aoff, hA', -, hc⟩ := h3 (by omega)
        exact ⟨ab, aoff, hA', hc i hi (k - 1) _ (tupC_at (tAt l i) (by omega))⟩
      have HCN : Hid (∀ u, S2 u → Calls Tryz.prog 13 #[.pointer (some ⟨p.w, 0, none⟩), .slice (some ⟨u.heap.size, 0, none⟩) 5 5] (u.alloc (.cells #[.int .i64 F1, .int .i64 N1, .int .i64 k, .int .i64 len, .int .i64 F2, .int .i64 N2, .int .i64 k2, .int .i64 len, .int .i64 F3, .int .i64 N3, .int .i64 k, .int .i64 len, .int .i64 F4, .int .i64 N4, .int .i64 k2, .int .i64 len, .int .i64 F5, .int .i64 N5, .int .i64 k3, .int .i64 len] 31)) fun e w' => e = .returned (.bool true) ∧ S2 w') := fun u q => by
        have hr : Row (u.alloc (.cells #[.int .i64 F1, .int .i64 N1, .int .i64 k, .int .i64 len, .int .i64 F2, .int .i64 N2, .int .i64 k2, .int .i64 len, .int .i64 F3, .int .i64 N3, .int .i64 k, .int .i64 len, .int .i64 F4, .int .i64 N4, .int .i64 k2, .int .i64 len, .int .i64 F5, .int .i64 N5, .int .i64 k3, .int .i64 len] 31)) u.heap.size 31 [.int .i64 F1, .int .i64 N1, .int .i64 k, .int .i64 len, .int .i64 F2, .int .i64 N2, .int .i64 k2, .int .i64 len, .int .i64 F3, .int .i64 N3, .int .i64 k, .int .i64 len, .int .i64 F4, .int .i64 N4, .int .i64 k2, .int .i64 len, .int .i64 F5, .int .i64 N5, .int .i64 k3, .int .i64 len] := heap_alloc_new _ _
        refine (clean13_any (bs := fun i => if i = 0 then N1 else if i = 1 then N2 else if i = 2 then N3 else if i = 3 then N4 else N5) (c := 5) (n := 5) (rb := u.heap.size) (((hS2 _).1 q).below ((Below.refl _ _).alloc (Nat.le_refl _) _)) rfl rfl (by show N1 + (0 + (N2 + (0 + (0 + (0 + (N3 + (0 + (N4 + (0 + (N5 + (0 + (0 + (0 + 0))))))))))))) = 0 + N1 + N2 + N3 + N4 + N5; omega) (by omega) (fun i hi => ⟨by (repeat' split) <;> omega, ?_⟩) (fun _ => hr.lt)).mono ?_
        · rcases (show i = 0 ∨ i = 1 ∨ i = 2 ∨ i = 3 ∨ i = 4 by omega) with rfl | rfl | rfl | rfl | rfl
          · exact hr.cell 1
          · exact hr.cell 5
          · exact hr.cell 9
          · exact hr.cell 13
          · exact hr.cell 17
        · rintro e w' ⟨he, hw⟩
          exact ⟨he, (hS2 _).2 hw⟩
      have HEND : Hid (∀ u, S2 u → Below w.heap.size w u) := fun u q => HE.out _ ((hS2 _).1 q).bel
      clear hS2 hw14 hc9 hd9 HS2 HS3 HS4 HS5 hlu
      obtain ⟨⟨t0, t1⟩, -⟩ := HCE2.out _ HS14.out
      go_wp2_with fail
      refine (HRS.out _ HS14.out).mono ?_
      rintro e w15 ⟨rfl, k15⟩
      have HS15 := Lib.hid k15
      clear k15 t0 t1
      obtain ⟨⟨t0, t1⟩, -⟩ := HCE2.out _ HS15.out
      go_wp2_with fail
      clear t0 t1
      go_loopw [22] (fun iv wr => ∃ i : Nat, i ≤ len ∧ iv = .int .i64 (i : Int) ∧ Hid (S2 wr)) (fun iv _ => len - (intOf iv).toNat)
      case atStart => exact ⟨0, Nat.zero_le _, rfl, HS15⟩
      case round =>
        clear HS15
        obtain ⟨i, hil, rfl, HI⟩ := hrel
        by_cases hlt : i < len
        · have g0 : decide ((i : Int) < (len : Int)) = true := by simpa using hlt
          obtain ⟨bb, off, hB, q0, q1⟩ := HRB.out _ HI.out i hlt
          obtain ⟨ab, aoff, hA, q2⟩ := HRA.out _ HI.out i hlt
          subst hB
          subst hA
          obtain ⟨⟨t0, t1⟩, -⟩ := HCE2.out _ HI.out
          have hi0 : (0 : Int) ≤ (i : Int) := by omega
          have hi1 : (i : Int) < (len : Int) := by omega
          obtain ⟨k0, hk0⟩ : ∃ k0, k0 = k - 1 := ⟨_, rfl⟩
          have hk0' : (k : Int) - 1 = (k0 : Int) := by omega
          have hk00 : (0 : Int) ≤ (k0 : Int) := by omega
          have hk01 : (k0 : Int) < 5 := by omega
          have hk20 : (0 : Int) ≤ (k2 : Int) := by omega
          have hk21 : (k2 : Int) < 5 := by have := HK2.out; omega
          have hl200 : len ≤ 200 := H200.out
          obtain ⟨z, hz⟩ : ∃ z : Int, z = 5 + (i : Int) := ⟨_, rfl⟩
          have hz1 : (i : Int) + 5 = z := by omega
          have hzb : 0 ≤ z ∧ z ≤ 1000 := by omega
          rw [← hz] at q0
          rw [← hk0] at q1 q2
          obtain ⟨x, hx⟩ : ∃ x, x = colT (tAt l i) k0 := ⟨_, rfl⟩
          rw [← hx] at q1 q2
          have HI2 : Hid (∀ q, S2 (wr.drewN q)) := fun q => HSTB2.out wr (wr.drewN q) HI.out (below_drewN (Below.refl _ _) q)
          clear hz hx hk0
          go_wp2_with fail
          go_quiet (fail)
          go_wp2
          go_roundw
          case rel => exact ⟨i + 1, by omega, by go_num, Lib.hid (HI2.out _)⟩
          case measure => simp [intOf]; omega
        · obtain rfl : len = i := by omega
          have g0 : decide ((len : Int) < (len : Int)) = false := by simp
          obtain ⟨-, ⟨c1_0, c1_1, c1_2, c1_3⟩, ⟨c2_0, c2_1, c2_2, c2_3⟩, ⟨c3_0, c3_1, c3_2, c3_3⟩, ⟨c4_0, c4_1, c4_2, c4_3⟩, c5_0, c5_1, c5_2, c5_3⟩ := HCE2.out _ HI.out
          go_wp2_with fail
          refine (HCN.out _ HI.out).mono ?_
          rintro e w18 ⟨rfl, k18⟩
          have HB90 := Lib.hid (HEND.out _ k18)
          clear k18 c1_0 c1_1 c1_2 c1_3 c2_0 c2_1 c2_2 c2_3 c3_0 c3_1 c3_2 c3_3 c4_0 c4_1 c4_2 c4_3 c5_0 c5_1 c5_2 c5_3
          go_wp2
          go_ret
          exact ⟨rfl, HB90.out⟩

set_option maxRecDepth 100000 in
theorem lifted (os : Os) (started : os.Started) (H : Type) (enc : TypeId × Value → H) :
    ReturnsInHanded {} Tryz.checked os 6 .any (Rows.joinBackSpec.pre6 enc Tryz.prog Tryz.f6 Rows.joinBackRow.domain false) (Rows.joinBackSpec.post enc Tryz.prog Tryz.f6 false true false false) := by
  refine returnsInHanded_of_change (C := Tryz.checked) own started (by kernel_rfl) Tryz.func6
    (ChangeSpec.witness6 (enc := enc) (C := Tryz.checked) false ⟨#[], #[.agg #[.int .u8 0, .slice none 0 0]], []⟩ 8 (by kernel_rfl) (by kernel_rfl) (by kernel_rfl) (by kernel_rfl)) ?_
  intro W base args ds gs before hval0 hW hcnd _
  have hval : ∀ (j : Nat) t v, Tryz.f6.params[j]? = some t → args[j]? = some v → Value.okWide Tryz.prog W .any base t v := hval0
  have hW' := hW
  obtain ⟨p, q, hA0, hV, rfl, hfz, hnd⟩ := hW
  have hA : DataW.TrodAll enc Tryz.prog W 0 (fun _ => true) true Tryz.f6.params.toList args.toList ds p := hA0
  rw [Tryz.params6] at hA hval
  obtain ⟨v0, vs0, d0, ds0, p0, q0, hargs, rfl, rfl, h0, r0⟩ := trodAll_cons hA
  obtain ⟨rfl, rfl, rfl⟩ := trodAll_nil r0
  obtain rfl : args = #[v0] := by cases args; simp_all
  obtain ⟨rfl, rfl⟩ := trodVars_none hV
  have k0 := h0
  have lt0 : ∀ x ∈ p0, x.block < W.heap.size := by obtain ⟨m, hm⟩ := k0; exact DataW.trod_lt m _ _ _ hm
  obtain ⟨wd, A, len, cap, l, rfl, bw, wr, wm⟩ := open_table Tryz.underlying24 (by kernel_rfl) (by kernel_rfl) rfl rfl Tryz.underlying5 Tryz.underlying22 Tryz.underlying56 Tryz.underlying2 (by kernel_rfl) (by kernel_rfl) (hval 0 24 v0 rfl rfl) h0
  clear hA0 hval0
  refine (walk wd A len cap l W bw wr wm).mono fun e W' ⟨he, bel⟩ => ?_
  subst he
  exact ⟨_, rfl, _, _, _, [], _, [], hW', trodAll_mk1 (shut_bool Tryz.underlying4 _), (trodAll_cons_mk (Below.trod laidOut (by kernel_rfl) (of_decide_eq_true (by kernel_rfl)) k0 bel lt0) trodAll_mk0), rfl, bel.frame _, fun h => by cases h⟩

theorem over : Rows.joinBackRow.holds Tryz.pinned (OpenSpec.ofChange Rows.joinBackSpec) :=
  OpenClaim.holds_of_wide 6 Tryz.f6 rfl rfl rfl rfl rfl rfl rfl ⟨rfl, rfl, rfl, rfl, rfl⟩ rfl rfl rfl rfl rfl (by kernel_rfl) Tryz.func6 (by kernel_rfl)
    (of_decide_eq_true (by kernel_rfl)) (by unfold Func.isWrapper; first | (rw [if_pos (by decide +kernel)]; kernel_rfl) | (rw [if_neg (by decide +kernel)]; exact ⟨rfl, rfl⟩))
    (fun os started H enc _ => lifted os started H enc)

theorem proved : Rows.JoinBackSaid := over
end Go.Proofs.YtfpjmhnmpjdbiaaGreat.joinBack
