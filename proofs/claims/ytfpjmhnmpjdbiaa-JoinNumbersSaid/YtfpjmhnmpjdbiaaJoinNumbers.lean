/-
  JoinNumbers: whatever table and first number; no condition.
-/
import Derived.Test.YtfpjmhnmpjdbiaaThrD
import Derived.Test.YtfpjmhnmpjdbiaaRows
import Derived.WalkKit
import Derived.ProofKit
import Derived.OpenShut
import Derived.ShutString
import Derived.ChangeOld
import Derived.Below
namespace Go.Proofs.Ytfpjmhnmpjdbiaa.joinNumbers
open Go.ChangeShapes Go.WideShapes Go.ChangeAt Go.RowKit
open Go.ChangeMaps (open_string shut_string)
set_option linter.unusedVariables false

theorem own : ownKnob Try.prog.godebug = none := by kernel_rfl
theorem laidOut : laidOutB Try.prog = true := by kernel_rfl


set_option maxHeartbeats 4000000 in
set_option maxRecDepth 100000 in
theorem walk (wd : Nat) (A : Option Addr) (len cap : Nat) (l : List Tup) (a1 : Int) (w : World) (bw : wd ≤ 255) (wr : ReadsT w w.heap.size A len l) (wm : len ≤ maxLen) (w1 : (Lit.int .i64 a1).wf = true) :
    Calls Try.prog 3 #[.agg #[.int .u8 wd, .slice A len cap], .int .i64 a1] w fun e w' => e = .returned (.bool true) ∧ Below w.heap.size w w' := by
  have hfr0 := bounds_i64 w1
  obtain ⟨W1, hW1⟩ : ∃ W1, W1 = w.alloc (.cells #[.int .u8 wd, .slice A len cap] 24) := ⟨_, rfl⟩
  have hb1 : Below w.heap.size w W1 := by rw [hW1]; exact (Below.refl _ _).alloc (Nat.le_refl _) _
  have r1 : Row W1 w.heap.size 24 [.int .u8 wd, .slice A len cap] := by rw [hW1]; exact heap_alloc_new _ _
  have HW1 := Lib.hid hW1
  have HTB : Hid (∀ W, Below W1.heap.size W1 W → W.cell? ⟨w.heap.size, 0, none⟩ = some (.int .u8 wd) ∧ W.cell? ⟨w.heap.size, 1, none⟩ = some (.slice A len cap)) := fun W hb => by
    have q := r1.below hb r1.lt
    exact ⟨q.cell 0, q.cell 1⟩
  have HE : Hid (∀ W, Below W1.heap.size W1 W → Below w.heap.size w W) := fun W hb => hb1.trans (hb.mono hb1.size)
  have HL : Hid (∀ W, Below W1.heap.size W1 W → ReadsT W W.heap.size A len l) := fun W hb => by
    have h1 := hb1.trans (hb.mono hb1.size)
    exact (wr.keep h1).mono h1.size
  have HLEN : Hid (l.length = len) := wr.1
  have HAW : Hid (∀ W, Calls Try.prog 6 #[] W fun e w' => e = .returned (.bool true) ∧ Below W.heap.size W w') := fun W => awake13_any W
  have HWK := Lib.hid (work13_any W1)
  have HM := Lib.hid wm
  have hm2 : len ≤ 9223372036854775807 := by unfold maxLen at wm; omega
  obtain ⟨k, hk⟩ : ∃ k, k = tW wd := ⟨_, rfl⟩
  have hk5 : 0 < k ∧ k ≤ 5 := by rw [hk]; exact tW_le wd
  have HWI : Hid (∀ w, Calls Try.prog 9 #[.agg #[.int .u8 wd, .slice A len cap]] w fun e w' => e = .returned (.int .i64 (k : Nat)) ∧ Below w.heap.size w w') := fun w => by have := width_any wd (.slice A len cap) w; rwa [← hk] at this
  have HK := Lib.hid hk
  clear w1 hW1 hb1 r1 wr wm hk
  go_enter Try.func3, Try.ntmps3
  go_upto_region 1 with (fail)
  rw [← HW1.out]
  clear HW1
  go_wp2_with fail
  refine HWK.out.mono ?_
  rintro e w2 ⟨p, G, rfl, hs, hG, hb⟩
  have H2 : Hid (Wd (cxL W1 p 60 12 5000 True 0) [] 0 w2) := cx_start hs hG hb (by omega) (by omega)
  clear hs hG hb HWK
  go_wp2_with fail
  refine (HAW.out _).mono ?_; rintro e w3 ⟨rfl, hb⟩
  have H3 := Lib.hid (H2.out.below hb)
  clear hb H2
  by_cases hbig : a1 > 4611686018427387904
  case pos =>
    have g0 : decide (a1 > 4611686018427387904) = true := by simpa using hbig
    go_wp2_with fail
    refine (HAW.out _).mono ?_; rintro e w90 ⟨rfl, hb⟩
    have HB90 := Lib.hid (HE.out _ (H3.out.below hb).bel)
    clear hb
    go_wp2
    go_ret
    exact ⟨rfl, HB90.out⟩
  case neg =>
  have g0 : decide (a1 > 4611686018427387904) = false := by simpa using hbig
  have hfr1 : a1 ≤ 4611686018427387904 := by omega
  have HLL : Hid (Calls Try.prog 7 #[.pointer (some ⟨p.w, 0, none⟩), .agg #[.int .u8 wd, .slice A len cap]] w3 (LlRes (cxL W1 p 60 12 5000 True 0) [] 0 wd l)) :=
    llay_any H3.out trivial (fun z m' W' q => HL.out W' q.bel) HM.out (by show 12 + 0 ≤ 60; omega) (by show 0 + 0 + 300 ≤ 1000000; omega) (fun q hq => rm_law rfl (by simp) (fun a ha => by cases ha) hq)
  obtain ⟨t0, t1⟩ := HTB.out w3 H3.out.bel
  clear hbig
  go_wp2_with fail
  refine HLL.out.mono ?_
  rintro e w4 (⟨_, rfl, hw4⟩ | ⟨hl200, hfit, F, N, rfl, hfo, hw4⟩)
  · have HB90 := Lib.hid (HE.out _ (hw4.below ((Below.refl _ _).alloc (Nat.le_refl _) (.cells #[.int .i64 0, .int .i64 0, .int .i64 0, .int .i64 0] 29))).bel)
    clear hw4 HLL t0 t1
    go_wp2
    go_ret
    exact ⟨rfl, HB90.out⟩
  rw [← HK.out] at hfo hw4
  have hw4 : Wd (cxL W1 p 60 12 5000 True 0) [fiO F N k (holdsI 12 (k : Nat)) l 12] (0 + N) w4 := hw4
  have hN : N ≤ 200 := by rw [hfo.bn]; exact Nat.le_trans (blocks_le _ _) hl200
  obtain ⟨w5, hw5⟩ : ∃ w5, w5 = w4.alloc (.cells #[.int .i64 F, .int .i64 N, .int .i64 k, .int .i64 len] 29) := ⟨_, rfl⟩
  have h5 : Wd (cxL W1 p 60 12 5000 True 0) [fiO F N k (holdsI 12 (k : Nat)) l 12, rowO w4.heap.size 29 [.int .i64 F, .int .i64 N, .int .i64 k, .int .i64 len]] (0 + N) w5 := by
    rw [hw5]
    exact hw4.new ((Below.refl _ _).alloc (Nat.le_refl _) _) (heap_alloc_new _ _ : Row _ _ 29 [.int .i64 F, .int .i64 N, .int .i64 k, .int .i64 len]) (Nat.le_refl _)
  have H5 := Lib.hid h5
  have HFO := Lib.hid hfo
  have HW5 := Lib.hid hw5
  have H200 : Hid (len ≤ 200) := by unfold Hid; rw [← HLEN.out]; exact hl200
  have HFIT := Lib.hid hfit
  clear hw4 h5 hfo hw5 hl200 hfit HLL t0 t1
  rw [HLEN.out, ← HK.out]
  go_upto_region 5 with (fail)
  rw [← HW5.out]
  clear HW5
  generalize w4.heap.size = fb at *
  have HR5 : Hid (Row w5 fb 29 [.int .i64 F, .int .i64 N, .int .i64 k, .int .i64 len]) := H5.out.row (i := 1) rfl
  have a0 : w5.cell? ⟨fb, 0, none⟩ = some (.int .i64 F) := HR5.out.cell 0
  have a1' : w5.cell? ⟨fb, 1, none⟩ = some (.int .i64 N) := HR5.out.cell 1
  have a2 : w5.cell? ⟨fb, 2, none⟩ = some (.int .i64 k) := HR5.out.cell 2
  have a3 : w5.cell? ⟨fb, 3, none⟩ = some (.int .i64 len) := HR5.out.cell 3
  by_cases hk4 : k = 5
  case pos =>
    subst hk4
    have HNW := Lib.hid (number_wide (.pointer (some ⟨p.w, 0, none⟩)) F N len a1 w5)
    go_wp2_with fail
    refine HNW.out.mono ?_
    rintro e w6 ⟨rfl, hb6⟩
    have H6 := Lib.hid ((H5.out.below hb6).below ((Below.refl _ _).alloc (Nat.le_refl _) (.cells #[.int .i64 0, .int .i64 0, .int .i64 0, .int .i64 0] 29)))
    clear hb6 a0 a1' a2 a3 HNW
    go_upto_region 8 with (fail)
    generalize w6.alloc (.cells #[.int .i64 0, .int .i64 0, .int .i64 0, .int .i64 0] 29) = w7 at *
    generalize w6.heap.size = xb at *
    obtain ⟨t0, t1⟩ := HTB.out w7 H6.out.bel
    go_wp2_with fail
    refine (HWI.out _).mono ?_
    rintro e w8 ⟨rfl, hb8⟩
    have H8 := Lib.hid (H6.out.below hb8)
    clear hb8 t0 t1
    have HR8 : Hid (Row w8 fb 29 [.int .i64 F, .int .i64 N, .int .i64 5, .int .i64 len]) := H8.out.row (i := 1) rfl
    have a0 : w8.cell? ⟨fb, 0, none⟩ = some (.int .i64 F) := HR8.out.cell 0
    have a1' : w8.cell? ⟨fb, 1, none⟩ = some (.int .i64 N) := HR8.out.cell 1
    have a2 : w8.cell? ⟨fb, 2, none⟩ = some (.int .i64 5) := HR8.out.cell 2
    have a3 : w8.cell? ⟨fb, 3, none⟩ = some (.int .i64 len) := HR8.out.cell 3
    have HCN : Hid (Calls Try.prog 10 #[.pointer (some ⟨p.w, 0, none⟩), .slice (some ⟨w8.heap.size, 0, none⟩) 1 1] (w8.alloc (.cells #[.int .i64 F, .int .i64 N, .int .i64 5, .int .i64 len] 29)) fun e w' => e = .returned (.bool true) ∧ Below W1.heap.size W1 w') := by
      have hr : Row (w8.alloc (.cells #[.int .i64 F, .int .i64 N, .int .i64 5, .int .i64 len] 29)) w8.heap.size 29 [.int .i64 F, .int .i64 N, .int .i64 5, .int .i64 len] := heap_alloc_new _ _
      refine (clean13_any (bs := fun _ => N) (c := 1) (n := 1) (rb := w8.heap.size) (H8.out.below ((Below.refl _ _).alloc (Nat.le_refl _) _)) rfl rfl (by show N + (0 + 0) = 0 + N; omega) (by omega) (fun i hi => ⟨by omega, ?_⟩) (fun _ => hr.lt)).mono ?_
      · obtain rfl : i = 0 := by omega
        exact hr.cell 1
      · rintro e w' ⟨he, hw⟩
        exact ⟨he, hw.bel⟩
    go_wp2_with fail
    refine HCN.out.mono ?_
    rintro e w9 ⟨rfl, hb9⟩
    have HB90 := Lib.hid (HE.out _ hb9)
    clear hb9 HCN a0 a1' a2 a3
    go_wp2
    go_ret
    exact ⟨rfl, HB90.out⟩
  case neg =>
  have hk4 : k < 5 := by omega
  obtain ⟨k1, hk1⟩ : ∃ k1, k1 = k + 1 := ⟨_, rfl⟩
  have HNU : Hid (Calls Try.prog 8 #[.pointer (some ⟨p.w, 0, none⟩), .agg #[.int .i64 F, .int .i64 N, .int .i64 k, .int .i64 len], .int .i64 a1] w5 fun e w' =>
      ∃ F2 N2 : Nat, e = .returned (.tuple #[.agg #[.int .i64 F2, .int .i64 N2, .int .i64 k1, .int .i64 len], .int .i64 0]) ∧ N2 ≤ 200 ∧ FOk F2 N2 k1 (holdsI 12 (k1 : Nat)) (outL (numC k a1) l len) 12 ∧
        Wd (cxL W1 p 60 12 5000 True 0) [fiO F N k (holdsI 12 (k : Nat)) l 12, rowO fb 29 [.int .i64 F, .int .i64 N, .int .i64 k, .int .i64 len], fiO F2 N2 k1 (holdsI 12 (k1 : Nat)) (outL (numC k a1) l len) 12] (0 + N + N2 + N) w') := by
    have h20 := H200.out
    refine (wd_number (X := cxL W1 p 60 12 5000 True 0) (fr := a1) H5.out HFO.out List.mem_cons_self HLEN.out hk4 (by omega) (by show 2 * 12 + 0 ≤ 60; omega) (by show 0 + (0 + N) + N + len + 2 ≤ 1000000; omega) (hol_pos (by omega) (by show 8 ≤ 12 ∧ 12 ≤ 256; omega)).1).mono ?_
    rintro e w' h9
    obtain ⟨F2, N2, he, hf2, hw⟩ := op_good h9 trivial (rm_law rfl (by simp) (fun a ha => by
      simp at ha
      rcases ha with rfl | rfl
      · exact (show N ≤ 200 by omega)
      · exact Nat.zero_le _) (Nat.le_trans (blocks_le _ _) h20))
    rw [← hk1] at he hf2 hw
    have hln : (outL (numC k a1) l len).length = len := num_len (by rw [HLEN.out]; exact Nat.le_refl _)
    rw [hln] at he
    refine ⟨F2, N2, he, ?_, hf2, hw⟩
    have h7 := hf2.bn
    rw [hln] at h7
    have h8 := blocks_le (holdsI 12 (k1 : Nat)) len
    have h7 : N2 = blocksN (holdsI 12 (k1 : Nat)) len := h7
    omega
  have HK1 : Hid (k1 = k + 1) := hk1
  have hkn : ¬ (k : Int) = 5 := by omega
  have hks : (k : Int) + 1 = (k1 : Int) := by omega
  have hkb : k1 ≤ 5 := by omega
  clear hk1
  go_wp2_with fail
  refine HNU.out.mono ?_
  rintro e w6 ⟨F2, N2, rfl, hn2, hf2, hw6⟩
  have HN2 := Lib.hid hn2
  have HF2 := Lib.hid hf2
  obtain ⟨w7, hw7⟩ : ∃ w7, w7 = w6.alloc (.cells #[.int .i64 F2, .int .i64 N2, .int .i64 k1, .int .i64 len] 29) := ⟨_, rfl⟩
  have H7 : Hid (Wd (cxL W1 p 60 12 5000 True 0) [fiO F N k (holdsI 12 (k : Nat)) l 12, rowO fb 29 [.int .i64 F, .int .i64 N, .int .i64 k, .int .i64 len], fiO F2 N2 k1 (holdsI 12 (k1 : Nat)) (outL (numC k a1) l len) 12, rowO w6.heap.size 29 [.int .i64 F2, .int .i64 N2, .int .i64 k1, .int .i64 len]] (0 + N + N2 + N) w7) := by
    rw [hw7]
    exact hw6.new ((Below.refl _ _).alloc (Nat.le_refl _) _) (heap_alloc_new _ _ : Row _ _ 29 [.int .i64 F2, .int .i64 N2, .int .i64 k1, .int .i64 len]) (Nat.le_refl _)
  have HW7 := Lib.hid hw7
  clear hn2 hf2 hw6 hw7 HNU a0 a1' a2 a3
  go_upto_region 8 with (fail)
  rw [← HW7.out]
  clear HW7
  generalize w6.heap.size = xb at *
  obtain ⟨t0, t1⟩ := HTB.out w7 H7.out.bel
  go_wp2_with fail
  refine (HWI.out _).mono ?_
  rintro e w8 ⟨rfl, hb8⟩
  have H8 := Lib.hid (H7.out.below hb8)
  clear hb8 t0 t1
  have HR8 : Hid (Row w8 xb 29 [.int .i64 F2, .int .i64 N2, .int .i64 k1, .int .i64 len]) := H8.out.row (i := 3) rfl
  have a0 : w8.cell? ⟨xb, 0, none⟩ = some (.int .i64 F2) := HR8.out.cell 0
  have a1' : w8.cell? ⟨xb, 1, none⟩ = some (.int .i64 N2) := HR8.out.cell 1
  have a2 : w8.cell? ⟨xb, 2, none⟩ = some (.int .i64 k1) := HR8.out.cell 2
  have a3 : w8.cell? ⟨xb, 3, none⟩ = some (.int .i64 len) := HR8.out.cell 3
  have HLI : Hid (Calls Try.prog 11 #[.pointer (some ⟨p.w, 0, none⟩), .agg #[.int .i64 F2, .int .i64 N2, .int .i64 k1, .int .i64 len]] w8 fun e w' => ∃ v, e = .returned (.tuple #[v, .int .i64 0]) ∧
      Wd (cxL W1 p 60 12 5000 True 0) [fiO F N k (holdsI 12 (k : Nat)) l 12, rowO fb 29 [.int .i64 F, .int .i64 N, .int .i64 k, .int .i64 len], fiO F2 N2 k1 (holdsI 12 (k1 : Nat)) (outL (numC k a1) l len) 12, rowO xb 29 [.int .i64 F2, .int .i64 N2, .int .i64 k1, .int .i64 len], tlO (cxL W1 p 60 12 5000 True 0) v (outL (numC k a1) l len)] (0 + N + N2 + N + N2) w') := by
    have h1 := HN2.out
    exact wd_list (X := cxL W1 p 60 12 5000 True 0) H8.out (i := 2) rfl HF2.out trivial (by show 12 ≤ 60 - 0; omega) (by show 0 + (0 + N + N2 + N) + N2 + 1 ≤ 1000000; omega) (num_len (by rw [HLEN.out]; exact Nat.le_refl _))
  go_wp2_with fail
  refine HLI.out.mono ?_
  rintro e w9 ⟨v, rfl, hw9⟩
  have hln : (outL (numC k a1) l len).length = len := num_len (by rw [HLEN.out]; exact Nat.le_refl _)
  obtain ⟨A9, c9, rfl, _, hc9⟩ := hw9.tread (i := 4) rfl (fun u hu => (HF2.out.fit u hu).1)
  rw [hln] at hw9 ⊢
  obtain ⟨ST, hST⟩ : ∃ ST : World → Prop, ∀ u, ST u ↔ Wd (cxL W1 p 60 12 5000 True 0) [fiO F N k (holdsI 12 (k : Nat)) l 12, rowO fb 29 [.int .i64 F, .int .i64 N, .int .i64 k, .int .i64 len], fiO F2 N2 k1 (holdsI 12 (k1 : Nat)) (outL (numC k a1) l len) 12, rowO xb 29 [.int .i64 F2, .int .i64 N2, .int .i64 k1, .int .i64 len], tlO (cxL W1 p 60 12 5000 True 0) (.slice A9 len c9) (outL (numC k a1) l len)] (0 + N + N2 + N + N2) u := ⟨_, fun _ => Iff.rfl⟩
  have HS9 : Hid (ST w9.drew) := (hST _).2 (hw9.drewN 1)
  have HSTB : Hid (∀ u u', ST u → Below u.heap.size u u' → ST u') := fun u u' q hb => (hST _).2 (((hST _).1 q).below hb)
  have HCE : Hid (∀ u, ST u → u.cell? ⟨w.heap.size, 0, none⟩ = some (.int .u8 wd) ∧ u.cell? ⟨w.heap.size, 1, none⟩ = some (.slice A len cap) ∧ u.cell? ⟨fb, 0, none⟩ = some (.int .i64 F) ∧ u.cell? ⟨fb, 1, none⟩ = some (.int .i64 N) ∧ u.cell? ⟨fb, 2, none⟩ = some (.int .i64 k) ∧ u.cell? ⟨fb, 3, none⟩ = some (.int .i64 len) ∧ u.cell? ⟨xb, 0, none⟩ = some (.int .i64 F2) ∧ u.cell? ⟨xb, 1, none⟩ = some (.int .i64 N2) ∧ u.cell? ⟨xb, 2, none⟩ = some (.int .i64 k1) ∧ u.cell? ⟨xb, 3, none⟩ = some (.int .i64 len)) := fun u q => by
    have q := (hST _).1 q
    have q1 := HTB.out u q.bel
    have q2 : Row u fb 29 [.int .i64 F, .int .i64 N, .int .i64 k, .int .i64 len] := q.row (i := 1) rfl
    have q3 : Row u xb 29 [.int .i64 F2, .int .i64 N2, .int .i64 k1, .int .i64 len] := q.row (i := 3) rfl
    exact ⟨q1.1, q1.2, q2.cell 0, q2.cell 1, q2.cell 2, q2.cell 3, q3.cell 0, q3.cell 1, q3.cell 2, q3.cell 3⟩
  have HRN : Hid (∀ u, ST u → Calls Try.prog 13 #[.slice A len cap, .int .i64 k, .int .i64 a1] u fun e w' => ∃ A8 c8, e = .returned (.slice A8 len c8) ∧ ST w' ∧ Hid (c8 ≤ maxLen ∧ ReadsT w' w'.heap.size A8 len (outL (numC k a1) l len))) := fun u q => by
    have h20 := H200.out
    refine (rnum_any A len cap l k a1 u (HL.out u ((hST _).1 q).bel) hk4 (by omega) (by omega)).mono ?_
    rintro e w' ⟨v, he, hrl⟩
    have ho := hrl.2
    rw [hln] at ho
    obtain ⟨A8, c8, hv, hrd, _, hm8, _⟩ := ownT_reads ho (fun u hu => (HF2.out.fit u hu).1)
    exact ⟨A8, c8, by rw [he, hv], HSTB.out u w' q hrl.1, hm8, hrd⟩
  have HRS : Hid (∀ u A8 c8, ST u → Hid (c8 ≤ maxLen ∧ ReadsT u u.heap.size A8 len (outL (numC k a1) l len)) → Calls Try.prog 12 #[.slice A9 len c9, .slice A8 len c8] u fun e w' => e = .returned (.bool true) ∧ ST w') := fun u A8 c8 q hr => by
    obtain ⟨A9', c9', e9, hr9, _⟩ := ((hST _).1 q).tread (i := 4) rfl (fun u hu => (HF2.out.fit u hu).1)
    rw [hln] at e9 hr9
    injection e9 with e1 e2 e3
    subst e1
    have := rsame_any A9 A8 len len c9 c8 _ _ u hr9 hr.out.2 HM.out HM.out
    rw [decide_eq_true rfl] at this
    refine this.mono ?_
    rintro e w' ⟨he, q9, rfl⟩
    exact ⟨he, HSTB.out u _ q (below_drewN (Below.refl _ _) q9)⟩
  have HCN : Hid (∀ u, ST u → Calls Try.prog 10 #[.pointer (some ⟨p.w, 0, none⟩), .slice (some ⟨u.heap.size, 0, none⟩) 2 2] (u.alloc (.cells #[.int .i64 F, .int .i64 N, .int .i64 k, .int .i64 len, .int .i64 F2, .int .i64 N2, .int .i64 k1, .int .i64 len] 29)) fun e w' => e = .returned (.bool true) ∧ ST w') := fun u q => by
    have h20 := HN2.out
    have hr : Row (u.alloc (.cells #[.int .i64 F, .int .i64 N, .int .i64 k, .int .i64 len, .int .i64 F2, .int .i64 N2, .int .i64 k1, .int .i64 len] 29)) u.heap.size 29 [.int .i64 F, .int .i64 N, .int .i64 k, .int .i64 len, .int .i64 F2, .int .i64 N2, .int .i64 k1, .int .i64 len] := heap_alloc_new _ _
    refine (clean13_any (bs := fun i => if i = 0 then N else N2) (c := 2) (n := 2) (rb := u.heap.size) (((hST _).1 q).below ((Below.refl _ _).alloc (Nat.le_refl _) _)) rfl rfl (by show N + (0 + (N2 + (0 + (0 + 0)))) = 0 + N + N2; omega) (by omega) (fun i hi => ⟨by split <;> omega, ?_⟩) (fun _ => hr.lt)).mono ?_
    · rcases (show i = 0 ∨ i = 1 by omega) with rfl | rfl
      · exact hr.cell 1
      · exact hr.cell 5
    · rintro e w' ⟨he, hw⟩
      exact ⟨he, (hST _).2 hw⟩
  have HEND : Hid (∀ u, ST u → Below w.heap.size w u) := fun u q => HE.out _ ((hST _).1 q).bel
  have HC9 := Lib.hid hc9
  have hwr : IntKind.i64.wrap (k1 : Int) = (k1 : Int) := IntWalk.i64_in _ (by omega)
  clear hST hw9 HLI a0 a1' a2 a3 hc9
  have q0 := HCE.out _ HS9.out
  go_wp2_with fail
  go_region_held3 (fun u => u.cell? ⟨w.heap.size, 0, none⟩ = some (.int .u8 wd) ∧ u.cell? ⟨w.heap.size, 1, none⟩ = some (.slice A len cap) ∧ u.cell? ⟨fb, 0, none⟩ = some (.int .i64 F) ∧ u.cell? ⟨fb, 1, none⟩ = some (.int .i64 N) ∧ u.cell? ⟨fb, 2, none⟩ = some (.int .i64 k) ∧ u.cell? ⟨fb, 3, none⟩ = some (.int .i64 len) ∧ u.cell? ⟨xb, 0, none⟩ = some (.int .i64 F2) ∧ u.cell? ⟨xb, 1, none⟩ = some (.int .i64 N2) ∧ u.cell? ⟨xb, 2, none⟩ = some (.int .i64 k1) ∧ u.cell? ⟨xb, 3, none⟩ = some (.int .i64 len)) (first | with_reducible exact q0 | with_reducible exact q5 | with_reducible exact q6 | with_reducible exact q7 | with_reducible exact q9 | with_reducible exact q8)
    (first
      | (go_at_call 9; (with_reducible refine (HWI.out _).mono ?_); rintro e w10 ⟨rfl, hb10⟩; first
          | (have k5 := HSTB.out _ _ HS9.out hb10; have q5 := HCE.out _ k5)
          | (have k5 := HSTB.out _ _ k5 hb10; have q5 := HCE.out _ k5))
      | (go_at_call 13; (with_reducible refine (HRN.out _ k5).mono ?_); rintro e w11 ⟨A8, c8, rfl, k6, hr6⟩; have q6 := HCE.out _ k6)
      | (go_at_call 12; (with_reducible refine (HRS.out _ _ _ k6 hr6).mono ?_); rintro e w12 ⟨rfl, k7⟩; have q7 := HCE.out _ k7; have q9 := HCE.out _ (HSTB.out _ _ k7 ((Below.refl _ _).alloc (Nat.le_refl _) (.cells #[.int .i64 F, .int .i64 N, .int .i64 k, .int .i64 len, .int .i64 F2, .int .i64 N2, .int .i64 k1, .int .i64 len] 29))))
      | (go_at_call 10; (with_reducible refine (HCN.out _ k7).mono ?_); rintro e w13 ⟨rfl, k8⟩; have q8 := HCE.out _ k8))
  have HB90 := Lib.hid (HEND.out _ k8)
  go_wp2
  go_ret
  exact ⟨rfl, HB90.out⟩

set_option maxRecDepth 100000 in
theorem lifted (os : Os) (started : os.Started) (H : Type) (enc : TypeId × Value → H) :
    ReturnsInHanded {} Try.checked os 3 .any (Rows.joinNumbersSpec.pre6 enc Try.prog Try.f3 Rows.joinNumbersRow.domain false) (Rows.joinNumbersSpec.post enc Try.prog Try.f3 false true false false) := by
  refine returnsInHanded_of_change (C := Try.checked) own started (by kernel_rfl) Try.func3
    (ChangeSpec.witness6 (enc := enc) (C := Try.checked) false ⟨#[], #[.agg #[.int .u8 0, .slice none 0 0], .int .i64 0], []⟩ 8 (by kernel_rfl) (by kernel_rfl) (by kernel_rfl) (by kernel_rfl)) ?_
  intro W base args ds gs before hval0 hW hcnd _
  have hval : ∀ (j : Nat) t v, Try.f3.params[j]? = some t → args[j]? = some v → Value.okWide Try.prog W .any base t v := hval0
  have hW' := hW
  obtain ⟨p, q, hA0, hV, rfl, hfz, hnd⟩ := hW
  have hA : DataW.TrodAll enc Try.prog W 0 (fun _ => true) true Try.f3.params.toList args.toList ds p := hA0
  rw [Try.params3] at hA hval
  obtain ⟨v0, vs0, d0, ds0, p0, q0, hargs, rfl, rfl, h0, r0⟩ := trodAll_cons hA
  obtain ⟨v1, vs1, d1, ds1, p1, q1, rfl, rfl, rfl, h1, r1⟩ := trodAll_cons r0
  obtain ⟨rfl, rfl, rfl⟩ := trodAll_nil r1
  obtain rfl : args = #[v0, v1] := by cases args; simp_all
  obtain ⟨rfl, rfl⟩ := trodVars_none hV
  have k0 := h0
  have lt0 : ∀ x ∈ p0, x.block < W.heap.size := by obtain ⟨m, hm⟩ := k0; exact DataW.trod_lt m _ _ _ hm
  have k1 := h1
  have lt1 : ∀ x ∈ p1, x.block < W.heap.size := by obtain ⟨m, hm⟩ := k1; exact DataW.trod_lt m _ _ _ hm
  obtain ⟨wd, A, len, cap, l, rfl, bw, wr, wm⟩ := open_table Try.underlying24 (by kernel_rfl) (by kernel_rfl) rfl rfl Try.underlying5 Try.underlying22 Try.underlying57 Try.underlying2 (by kernel_rfl) (by kernel_rfl) (hval 0 24 v0 rfl rfl) h0
  obtain ⟨a1, rfl, rfl, rfl, w1⟩ := open_int Try.underlying2 (hval 1 2 v1 rfl rfl) h1
  clear hA0 hval0
  refine (walk wd A len cap l a1 W bw wr wm w1).mono fun e W' ⟨he, bel⟩ => ?_
  subst he
  exact ⟨_, rfl, _, _, _, [], _, [], hW', trodAll_mk1 (shut_bool Try.underlying4 _), (trodAll_cons_mk (Below.trod laidOut (by kernel_rfl) (of_decide_eq_true (by kernel_rfl)) k0 bel lt0) (trodAll_cons_mk (Below.trod laidOut (by kernel_rfl) (of_decide_eq_true (by kernel_rfl)) k1 bel lt1) trodAll_mk0)), rfl, bel.frame _, fun h => by cases h⟩

theorem over : Rows.joinNumbersRow.holds Try.pinned (OpenSpec.ofChange Rows.joinNumbersSpec) :=
  OpenClaim.holds_of_wide 3 Try.f3 rfl rfl rfl rfl rfl rfl rfl ⟨rfl, rfl, rfl, rfl, rfl⟩ rfl rfl rfl rfl rfl (by kernel_rfl) Try.func3 (by kernel_rfl)
    (of_decide_eq_true (by kernel_rfl)) (by unfold Func.isWrapper; first | (rw [if_pos (by decide +kernel)]; kernel_rfl) | (rw [if_neg (by decide +kernel)]; exact ⟨rfl, rfl⟩))
    (fun os started H enc _ => lifted os started H enc)

theorem proved : Rows.JoinNumbersSaid := over
end Go.Proofs.Ytfpjmhnmpjdbiaa.joinNumbers
