/-
  GraphApart: for whatever two graphs; no condition.
-/
import Derived.Test.YtcfpoanlenjjlaaRows
import Derived.Test.YtcfpoanlenjjlaaGraphApp
import Derived.Test.YtcfpoanlenjjlaaGraphPart
import Derived.Test.YtcfpoanlenjjlaaGraphTurn
import Derived.Test.YtcfpoanlenjjlaaGraphOrd
import Derived.Test.YtcfpoanlenjjlaaGraphAwake
import Derived.Test.YtcfpoanlenjjlaaGraphCnt
import Derived.Test.YtcfpoanlenjjlaaGraphLst
import Derived.Test.YtcfpoanlenjjlaaGraphSame
import Derived.WalkKit
import Derived.ProofKit
import Derived.OpenShut
import Derived.ShutString
import Derived.ChangeOld
import Derived.Below
namespace Go.Proofs.Ytcfpoanlenjjlaa.graphApart
open Go.ChangeShapes Go.WideShapes Go.ChangeAt Go.RowKit
open Go.ChangeMaps (open_string shut_string)
set_option linter.unusedVariables false

theorem own : ownKnob Try.prog.godebug = none := by kernel_rfl
theorem laidOut : laidOutB Try.prog = true := by kernel_rfl


set_option maxHeartbeats 1600000 in
set_option maxRecDepth 100000 in
theorem walk (N0 : Int) (a0 : Option Addr) (len0 cap0 : Nat) (l0 : List (Int × Int)) (N1 : Int) (a1 : Option Addr) (len1 cap1 : Nat) (l1 : List (Int × Int)) (w : World) (wN0 : I64 N0) (wr0 : ReadsE w w.heap.size a0 len0 l0) (wc0 : len0 ≤ cap0 ∧ cap0 ≤ maxLen) (wN1 : I64 N1) (wr1 : ReadsE w w.heap.size a1 len1 l1) (wc1 : len1 ≤ cap1 ∧ cap1 ≤ maxLen) :
    Calls Try.prog 7 #[.agg #[.int .i64 N0, .slice a0 len0 cap0], .agg #[.int .i64 N1, .slice a1 len1 cap1]] w fun e w' => e = .returned (.bool true) ∧ Below w.heap.size w w' := by
  have hm0 : len0 ≤ 9223372036854775807 := by have := wc0.2; unfold maxLen at this; omega
  have hm1 : len1 ≤ 9223372036854775807 := by have := wc1.2; unfold maxLen at this; omega
  clear wc0 wc1
  have bN := wN0.bounds
  have bM := wN1.bounds
  go_enter Try.func7, Try.ntmps7
  go_wp2_with fail
  refine (awake_any _).mono ?_; rintro e w1 ⟨rfl, hb1⟩
  have zA : (w.alloc (.cells #[.int .i64 N0, .slice a0 len0 cap0] 24)).heap.size = w.heap.size + 1 := by simp
  have RA0 : Hid (Row ((w.alloc (.cells #[.int .i64 N0, .slice a0 len0 cap0] 24)).alloc (.cells #[.int .i64 N1, .slice a1 len1 cap1] 24)) w.heap.size 24 [.int .i64 N0, .slice a0 len0 cap0]) :=
    Row.alloc (heap_alloc_new _ _) _
  have RB0 : Hid (Row ((w.alloc (.cells #[.int .i64 N0, .slice a0 len0 cap0] 24)).alloc (.cells #[.int .i64 N1, .slice a1 len1 cap1] 24)) (w.heap.size + 1) 24 [.int .i64 N1, .slice a1 len1 cap1]) := by
    unfold Hid; rw [← zA]; exact heap_alloc_new _ _
  have RA1 := Lib.hid (RA0.out.keep hb1)
  have RB1 := Lib.hid (RB0.out.keep hb1)
  have W1 := Lib.hid ((two_new w (.cells #[.int .i64 N0, .slice a0 len0 cap0] 24) (.cells #[.int .i64 N1, .slice a1 len1 cap1] 24)).trans (hb1.mono (by simp; omega)))
  have c0 := RA1.out.cell 0
  have c1 := RA1.out.cell 1
  have c2 := RB1.out.cell 0
  have c3 := RB1.out.cell 1
  clear hb1 zA RA0 RB0
  by_cases hc0 : len0 ≤ 150
  · have g0 : decide ((150 : Int) < (len0 : Int)) = false := by simp; omega
    have g0n : decide (150 < len0) = false := by simp; omega
    by_cases hc1 : len1 ≤ 150
    · have g1 : decide ((150 : Int) < (len1 : Int)) = false := by simp; omega
      have g1n : decide (150 < len1) = false := by simp; omega
      by_cases hc2 : N0 ≤ 200
      · have g2 : decide (200 < N0) = false := by simp; omega
        by_cases hc3 : N1 ≤ 200
        · have g3 : decide (200 < N1) = false := by simp; omega
          have E0 := Lib.hid (wr0.keep W1.out)
          have z1 : w.heap.size + 1 < w1.heap.size := RB1.out.lt
          go_wp2_with fail
          refine (formed_any N0 a0 len0 cap0 l0 _ wN0 E0.out (by omega) hm0).mono ?_; rintro e w2 ⟨rfl, hb2⟩
          have RA2 := Lib.hid (RA1.out.keep hb2)
          have RB2 := Lib.hid (RB1.out.keep hb2)
          have W2 := Lib.hid (W1.out.trans (hb2.mono W1.out.size))
          have E1 := Lib.hid (wr1.keep W2.out)
          have z2 : w.heap.size + 1 < w2.heap.size := RB2.out.lt
          clear hb2 c0 c1 c2 c3
          have c0 := RA2.out.cell 0
          have c1 := RA2.out.cell 1
          have c2 := RB2.out.cell 0
          have c3 := RB2.out.cell 1
          by_cases hfa : formed N0 l0 = true
          · rw [hfa]
            go_wp2_with fail
            refine (formed_any N1 a1 len1 cap1 l1 _ wN1 E1.out (by omega) hm1).mono ?_; rintro e w3 ⟨rfl, hb3⟩
            have RA3 := Lib.hid (RA2.out.keep hb3)
            have RB3 := Lib.hid (RB2.out.keep hb3)
            have W3 := Lib.hid (W2.out.trans (hb3.mono W2.out.size))
            have z3 : w.heap.size + 1 < w3.heap.size := RB3.out.lt
            clear hb3 c0 c1 c2 c3 E0 E1 RA1 RA2 RB1 RB2
            have c0 := RA3.out.cell 0
            have c1 := RA3.out.cell 1
            have c2 := RB3.out.cell 0
            have c3 := RB3.out.cell 1
            by_cases hfb : formed N1 l1 = true
            · rw [hfb]
              obtain ⟨hn0, _, _⟩ := (formed_iff.1 hfa).1
              obtain ⟨hn1, _, _⟩ := (formed_iff.1 hfb).1
              obtain ⟨N, rfl⟩ := Int.eq_ofNat_of_zero_le hn0
              obtain ⟨M, rfl⟩ := Int.eq_ofNat_of_zero_le hn1
              obtain ⟨T, hT⟩ : ∃ T : Nat, N + M = T := ⟨_, rfl⟩
              have HA := Lib.hid hfa
              have HB := Lib.hid hfb
              have HLA := Lib.hid wr0.1
              have HLB := Lib.hid wr1.1
              have hw1 : IntKind.i64.wrap ((N : Int) + (M : Int)) = (T : Int) := by rw [← hT, IntWalk.i64_in _ (by omega)]; simp
              have wT : I64 (T : Int) := I64.of (by omega) (by omega)
              clear hfa hfb hn0 hn1
              obtain ⟨i0, hi, hz0, hz1, hz2⟩ := info_parts info_edge
              go_wp2_with fail
              obtain ⟨Bt, hBt⟩ : ∃ Bt, w3.heap.size = Bt := ⟨_, rfl⟩
              rw [hBt]
              have zt : w3.heap.size = Bt := hBt
              have HRT : Hid (Row (w3.alloc (.cells #[.int .i64 (T : Int), .slice none 0 0] 24)) Bt 24 [.int .i64 (T : Int), .slice none 0 0]) := by unfold Hid; rw [← zt]; exact heap_alloc_new _ _
              have HNIL : Hid ((w3.alloc (.cells #[.int .i64 (T : Int), .slice none 0 0] 24)).ownsRow (Bt + 1) 37 2 (.slice none 0 0) 0 (flatE ((l1.take 0).map (shiftE N)))) := World.ownsRow_nil _ _ _ _
              have HZT := Lib.hid zt
              have zt2 : w.heap.size + 1 < Bt := by omega
              clear hBt zt c0 c1 c2 c3
              go_loopw [6] (fun iv wr => ∃ (i : Nat) (v : Value), i ≤ len1 ∧ iv = .int .i64 i ∧ Hid (Below Bt w3 wr) ∧ Hid (Row wr Bt 24 [.int .i64 (T : Int), v]) ∧ Hid (wr.ownsRow (Bt + 1) 37 2 v i (flatE ((l1.take i).map (shiftE N))))) (fun iv _ => len1 - (intOf iv).toNat)
              case atStart => exact ⟨0, .slice none 0 0, by omega, rfl, (Below.refl _ _).alloc (by have := HZT.out; omega) _, HRT.out, HNIL.out⟩
              case round =>
                obtain ⟨i, v, hil, rfl, HBW, HO, HW⟩ := hrel
                have RA := Lib.hid (RA3.out.below HBW.out (by omega))
                have RB := Lib.hid (RB3.out.below HBW.out (by omega))
                have c0 := RA.out.cell 0
                have c1 := RA.out.cell 1
                have c2 := RB.out.cell 0
                have c3 := RB.out.cell 1
                have o0 := HO.out.cell 0
                have o1 := HO.out.cell 1
                have hbr : Bt < wr.heap.size := HO.out.lt
                have WW := Lib.hid (W3.out.trans (HBW.out.mono (by omega)))
                by_cases hlt : i < len1
                · obtain ⟨b, off, u, x, rfl, hb, hu, hx, wu, wx, HEK⟩ := (wr1.keep WW.out).at_ hlt
                  have hux : (0 ≤ u ∧ u < (M : Int)) ∧ (0 ≤ x ∧ x < (M : Int)) := by
                    have h := (formed_iff.1 HB.out).2 _ (getD_mem (i := i) (by rw [HLB.out]; exact hlt))
                    rw [HEK.out] at h; exact h
                  obtain ⟨⟨u0, u1⟩, x0, x1⟩ := hux
                  have HTS := Lib.hid (shift_take (N := N) HLB.out hlt HEK.out)
                  obtain ⟨p, hp⟩ : ∃ p, u + (N : Int) = p := ⟨_, rfl⟩
                  obtain ⟨q, hq⟩ : ∃ q, x + (N : Int) = q := ⟨_, rfl⟩
                  have hs1 : IntKind.i64.wrap (u + (N : Int)) = p := by rw [← hp]; exact IntWalk.i64_in _ (by omega)
                  have hs2 : IntKind.i64.wrap (x + (N : Int)) = q := by rw [← hq]; exact IntWalk.i64_in _ (by omega)
                  rw [hp, hq] at HTS
                  have hj0 : (0 : Int) ≤ (i : Int) := by omega
                  have hj1 : (i : Int) < (len1 : Int) := by omega
                  have ag : ∀ k, k < Bt + 1 → v.ownBlock ≠ some k := fun k hk h => by have := (HW.out.lt k h).1; omega
                  have AG := Lib.hid ag
                  have hb1' : b < Bt := by omega
                  clear ag c1 c2 o0 hp hq u0 u1 x0 x1
                  go_wp2
                  refine wp_region_held_drew (S := (fun w' => w'.cell? ⟨w.heap.size + 1, 1, none⟩ = some (.slice (some ⟨b, off, none⟩) len1 cap1) ∧ w'.cell? ⟨b, off + i * 2, none⟩ = some (.int .i64 u) ∧ w'.cell? ⟨b, off + i * 2 + 1, none⟩ = some (.int .i64 x) ∧ w'.cell? ⟨w.heap.size, 0, none⟩ = some (.int .i64 (N : Int)))) (by kernel_rfl) ⟨c3, hu, hx, c0⟩ (fun hHeld => ?_)
                  refine wpAnyH_take (i := 0) (oi := { dst := some 68, op := Op.fieldAddr 24 (Operand.tmp 5) 1, type := 0, pos := "law.go:83", after := #[], guard := none }) (v := ?_) rfl (by kernel_rfl) (by kernel_rfl) (by kernel_rfl) (fun _ _ _ h => h) (Or.inl ⟨by rfl, ?_⟩) hHeld ?_
                  rotate_left
                  · (intro w' hSw; (try dsimp only at hSw); go_simp <;> with_reducible rfl)
                  try simp only [Act.put, List.setIfInBounds_toArray, List.set_cons_zero, List.set_cons_succ]
                  refine wpAnyH_take (i := 2) (oi := { dst := some 70, op := Op.fieldAddr 24 (Operand.tmp 3) 1, type := 0, pos := "law.go:83", after := #[], guard := none }) (v := ?_) rfl (by kernel_rfl) (by kernel_rfl) (by kernel_rfl) (fun _ _ _ h => h) (Or.inl ⟨by rfl, ?_⟩) hHeld ?_
                  rotate_left
                  · (intro w' hSw; (try dsimp only at hSw); go_simp <;> with_reducible rfl)
                  try simp only [Act.put, List.setIfInBounds_toArray, List.set_cons_zero, List.set_cons_succ]
                  refine wpAnyH_take (i := 3) (oi := { dst := some 71, op := Op.load 22 (Operand.tmp 70), type := 22, pos := "law.go:83", after := #[{ on := 2, ground := Ground.data }], guard := none }) (v := ?_) rfl (by kernel_rfl) (by kernel_rfl) (by kernel_rfl) (fun _ _ _ h => h) (Or.inl ⟨by rfl, ?_⟩) hHeld ?_
                  rotate_left
                  · (intro w' hSw; (try dsimp only at hSw); go_simp <;> with_reducible rfl)
                  try simp only [Act.put, List.setIfInBounds_toArray, List.set_cons_zero, List.set_cons_succ]
                  refine wpAnyH_take (i := 4) (oi := { dst := some 72, op := Op.move (Operand.tmp 6), type := 3, pos := "law.go:83", after := #[], guard := none }) (v := ?_) rfl (by kernel_rfl) (by kernel_rfl) (by kernel_rfl) (fun _ _ _ h => h) (Or.inl ⟨by rfl, ?_⟩) hHeld ?_
                  rotate_left
                  · (intro w' hSw; (try dsimp only at hSw); go_simp <;> with_reducible rfl)
                  try simp only [Act.put, List.setIfInBounds_toArray, List.set_cons_zero, List.set_cons_succ]
                  refine wpAnyH_take (i := 5) (oi := { dst := some 73, op := Op.indexAddr 22 (Operand.tmp 71) (Operand.tmp 72), type := 0, pos := "law.go:83", after := #[{ on := 3, ground := Ground.data }, { on := 4, ground := Ground.data }], guard := none }) (v := ?_) rfl (by kernel_rfl) (by kernel_rfl) (by kernel_rfl) (fun _ _ _ h => h) (Or.inl ⟨by rfl, ?_⟩) hHeld ?_
                  rotate_left
                  · (intro w' hSw; (try dsimp only at hSw); go_simp <;> with_reducible rfl)
                  try simp only [Act.put, List.setIfInBounds_toArray, List.set_cons_zero, List.set_cons_succ]
                  refine wpAnyH_take (i := 6) (oi := { dst := some 74, op := Op.fieldAddr 37 (Operand.tmp 73) 0, type := 0, pos := "law.go:83", after := #[{ on := 5, ground := Ground.data }], guard := none }) (v := ?_) rfl (by kernel_rfl) (by kernel_rfl) (by kernel_rfl) (fun _ _ _ h => h) (Or.inl ⟨by rfl, ?_⟩) hHeld ?_
                  rotate_left
                  · (intro w' hSw; (try dsimp only at hSw); go_simp <;> with_reducible rfl)
                  try simp only [Act.put, List.setIfInBounds_toArray, List.set_cons_zero, List.set_cons_succ]
                  refine wpAnyH_take (i := 7) (oi := { dst := some 75, op := Op.load 3 (Operand.tmp 74), type := 3, pos := "law.go:83", after := #[{ on := 6, ground := Ground.data }], guard := none }) (v := ?_) rfl (by kernel_rfl) (by kernel_rfl) (by kernel_rfl) (fun _ _ _ h => h) (Or.inl ⟨by rfl, ?_⟩) hHeld ?_
                  rotate_left
                  · (intro w' hSw; (try dsimp only at hSw); go_simp <;> with_reducible rfl)
                  try simp only [Act.put, List.setIfInBounds_toArray, List.set_cons_zero, List.set_cons_succ]
                  refine wpAnyH_take (i := 8) (oi := { dst := some 76, op := Op.fieldAddr 24 (Operand.tmp 2) 0, type := 0, pos := "law.go:83", after := #[], guard := none }) (v := ?_) rfl (by kernel_rfl) (by kernel_rfl) (by kernel_rfl) (fun _ _ _ h => h) (Or.inl ⟨by rfl, ?_⟩) hHeld ?_
                  rotate_left
                  · (intro w' hSw; (try dsimp only at hSw); go_simp <;> with_reducible rfl)
                  try simp only [Act.put, List.setIfInBounds_toArray, List.set_cons_zero, List.set_cons_succ]
                  refine wpAnyH_take (i := 9) (oi := { dst := some 77, op := Op.load 3 (Operand.tmp 76), type := 3, pos := "law.go:83", after := #[{ on := 8, ground := Ground.data }], guard := none }) (v := ?_) rfl (by kernel_rfl) (by kernel_rfl) (by kernel_rfl) (fun _ _ _ h => h) (Or.inl ⟨by rfl, ?_⟩) hHeld ?_
                  rotate_left
                  · (intro w' hSw; (try dsimp only at hSw); go_simp <;> with_reducible rfl)
                  try simp only [Act.put, List.setIfInBounds_toArray, List.set_cons_zero, List.set_cons_succ]
                  refine wpAnyH_take (i := 10) (oi := { dst := some 78, op := Op.binOp BinOp.add 3 (Operand.tmp 75) (Operand.tmp 77) 3, type := 3, pos := "law.go:83", after := #[{ on := 7, ground := Ground.data }, { on := 9, ground := Ground.data }], guard := none }) (v := ?_) rfl (by kernel_rfl) (by kernel_rfl) (by kernel_rfl) (fun _ _ _ h => h) (Or.inl ⟨by rfl, ?_⟩) hHeld ?_
                  rotate_left
                  · (intro w' hSw; (try dsimp only at hSw); go_simp <;> with_reducible rfl)
                  try simp only [Act.put, List.setIfInBounds_toArray, List.set_cons_zero, List.set_cons_succ]
                  refine wpAnyH_take (i := 11) (oi := { dst := some 79, op := Op.fieldAddr 24 (Operand.tmp 3) 1, type := 0, pos := "law.go:83", after := #[], guard := none }) (v := ?_) rfl (by kernel_rfl) (by kernel_rfl) (by kernel_rfl) (fun _ _ _ h => h) (Or.inl ⟨by rfl, ?_⟩) hHeld ?_
                  rotate_left
                  · (intro w' hSw; (try dsimp only at hSw); go_simp <;> with_reducible rfl)
                  try simp only [Act.put, List.setIfInBounds_toArray, List.set_cons_zero, List.set_cons_succ]
                  refine wpAnyH_take (i := 12) (oi := { dst := some 80, op := Op.load 22 (Operand.tmp 79), type := 22, pos := "law.go:83", after := #[{ on := 11, ground := Ground.data }], guard := none }) (v := ?_) rfl (by kernel_rfl) (by kernel_rfl) (by kernel_rfl) (fun _ _ _ h => h) (Or.inl ⟨by rfl, ?_⟩) hHeld ?_
                  rotate_left
                  · (intro w' hSw; (try dsimp only at hSw); go_simp <;> with_reducible rfl)
                  try simp only [Act.put, List.setIfInBounds_toArray, List.set_cons_zero, List.set_cons_succ]
                  refine wpAnyH_take (i := 13) (oi := { dst := some 81, op := Op.move (Operand.tmp 6), type := 3, pos := "law.go:83", after := #[], guard := none }) (v := ?_) rfl (by kernel_rfl) (by kernel_rfl) (by kernel_rfl) (fun _ _ _ h => h) (Or.inl ⟨by rfl, ?_⟩) hHeld ?_
                  rotate_left
                  · (intro w' hSw; (try dsimp only at hSw); go_simp <;> with_reducible rfl)
                  try simp only [Act.put, List.setIfInBounds_toArray, List.set_cons_zero, List.set_cons_succ]
                  refine wpAnyH_take (i := 14) (oi := { dst := some 82, op := Op.indexAddr 22 (Operand.tmp 80) (Operand.tmp 81), type := 0, pos := "law.go:83", after := #[{ on := 12, ground := Ground.data }, { on := 13, ground := Ground.data }], guard := none }) (v := ?_) rfl (by kernel_rfl) (by kernel_rfl) (by kernel_rfl) (fun _ _ _ h => h) (Or.inl ⟨by rfl, ?_⟩) hHeld ?_
                  rotate_left
                  · (intro w' hSw; (try dsimp only at hSw); go_simp <;> with_reducible rfl)
                  try simp only [Act.put, List.setIfInBounds_toArray, List.set_cons_zero, List.set_cons_succ]
                  refine wpAnyH_take (i := 15) (oi := { dst := some 83, op := Op.fieldAddr 37 (Operand.tmp 82) 1, type := 0, pos := "law.go:83", after := #[{ on := 14, ground := Ground.data }], guard := none }) (v := ?_) rfl (by kernel_rfl) (by kernel_rfl) (by kernel_rfl) (fun _ _ _ h => h) (Or.inl ⟨by rfl, ?_⟩) hHeld ?_
                  rotate_left
                  · (intro w' hSw; (try dsimp only at hSw); go_simp <;> with_reducible rfl)
                  try simp only [Act.put, List.setIfInBounds_toArray, List.set_cons_zero, List.set_cons_succ]
                  refine wpAnyH_take (i := 16) (oi := { dst := some 84, op := Op.load 3 (Operand.tmp 83), type := 3, pos := "law.go:83", after := #[{ on := 15, ground := Ground.data }], guard := none }) (v := ?_) rfl (by kernel_rfl) (by kernel_rfl) (by kernel_rfl) (fun _ _ _ h => h) (Or.inl ⟨by rfl, ?_⟩) hHeld ?_
                  rotate_left
                  · (intro w' hSw; (try dsimp only at hSw); go_simp <;> with_reducible rfl)
                  try simp only [Act.put, List.setIfInBounds_toArray, List.set_cons_zero, List.set_cons_succ]
                  refine wpAnyH_take (i := 17) (oi := { dst := some 85, op := Op.fieldAddr 24 (Operand.tmp 2) 0, type := 0, pos := "law.go:83", after := #[], guard := none }) (v := ?_) rfl (by kernel_rfl) (by kernel_rfl) (by kernel_rfl) (fun _ _ _ h => h) (Or.inl ⟨by rfl, ?_⟩) hHeld ?_
                  rotate_left
                  · (intro w' hSw; (try dsimp only at hSw); go_simp <;> with_reducible rfl)
                  try simp only [Act.put, List.setIfInBounds_toArray, List.set_cons_zero, List.set_cons_succ]
                  refine wpAnyH_take (i := 18) (oi := { dst := some 86, op := Op.load 3 (Operand.tmp 85), type := 3, pos := "law.go:83", after := #[{ on := 17, ground := Ground.data }], guard := none }) (v := ?_) rfl (by kernel_rfl) (by kernel_rfl) (by kernel_rfl) (fun _ _ _ h => h) (Or.inl ⟨by rfl, ?_⟩) hHeld ?_
                  rotate_left
                  · (intro w' hSw; (try dsimp only at hSw); go_simp <;> with_reducible rfl)
                  try simp only [Act.put, List.setIfInBounds_toArray, List.set_cons_zero, List.set_cons_succ]
                  refine wpAnyH_take (i := 19) (oi := { dst := some 87, op := Op.binOp BinOp.add 3 (Operand.tmp 84) (Operand.tmp 86) 3, type := 3, pos := "law.go:83", after := #[{ on := 16, ground := Ground.data }, { on := 18, ground := Ground.data }], guard := none }) (v := ?_) rfl (by kernel_rfl) (by kernel_rfl) (by kernel_rfl) (fun _ _ _ h => h) (Or.inl ⟨by rfl, ?_⟩) hHeld ?_
                  rotate_left
                  · (intro w' hSw; (try dsimp only at hSw); go_simp <;> with_reducible rfl)
                  try simp only [Act.put, List.setIfInBounds_toArray, List.set_cons_zero, List.set_cons_succ]
                  refine wpAnyH_take (i := 20) (oi := { dst := some 88, op := Op.build 37 #[(0, Operand.tmp 78), (1, Operand.tmp 87)], type := 37, pos := "law.go:83", after := #[{ on := 10, ground := Ground.data }, { on := 19, ground := Ground.data }], guard := none }) (v := ?_) rfl (by kernel_rfl) (by kernel_rfl) (by kernel_rfl) (fun _ _ _ h => h) (Or.inl ⟨by rfl, ?_⟩) hHeld ?_
                  rotate_left
                  · (intro w' hSw; (try dsimp only at hSw); go_simp <;> with_reducible rfl)
                  try simp only [Act.put, List.setIfInBounds_toArray, List.set_cons_zero, List.set_cons_succ]
                  refine wpAnyH_ready (rs := [1, 21]) (by kernel_rfl) (by simp) ?_
                  refine AllReadyH.cons (o := { dst := some 69, op := Op.load 22 (Operand.tmp 68), type := 22, pos := "law.go:83", after := #[{ on := 0, ground := Ground.data }], guard := none }) rfl (fun K hK => ?_) (AllReadyH.cons (o := { dst := some 89, op := Op.buildSlice 22 1 #[(0, Operand.tmp 88)], type := 22, pos := "law.go:83", after := #[{ on := 20, ground := Ground.data }], guard := none }) rfl (fun K hK => ?_) (AllReadyH.nil))
                  · go_simp
                    refine hK.out _ _ hHeld (fun hHeld => ?_)
                    clear hK K
                    try simp only [Act.put, List.setIfInBounds_toArray, List.set_cons_zero, List.set_cons_succ]
                    refine wpAnyH_ready (rs := [21]) (by kernel_rfl) (by simp) ?_
                    refine AllReadyH.cons (o := { dst := some 89, op := Op.buildSlice 22 1 #[(0, Operand.tmp 88)], type := 22, pos := "law.go:83", after := #[{ on := 20, ground := Ground.data }], guard := none }) rfl (fun K hK => ?_) (AllReadyH.nil)
                    go_simp
                    refine hK.out _ _ ⟨cell_ad c3, cell_ad hu, cell_ad hx, cell_ad c0⟩ (fun hHeld => ?_)
                    clear hK K
                    try simp only [Act.put, List.setIfInBounds_toArray, List.set_cons_zero, List.set_cons_succ]
                    refine wpAnyH_ready (rs := [22]) (by kernel_rfl) (by simp) ?_
                    refine AllReadyH.cons (o := { dst := some 90, op := Op.call { callee := Callee.builtin Builtin.append, args := #[Operand.tmp 69, Operand.tmp 89], argTypes := #[22, 22] }, type := 22, pos := "law.go:83", after := #[{ on := 1, ground := Ground.data }, { on := 21, ground := Ground.data }], guard := none }) rfl (fun K hK => ?_) (AllReadyH.nil)
                    refine step_append_lies _ (by rfl) _ _ _ (by rfl) (Bt + 1) 37 i0 _ 2 16 Try.underlying22 hi hz0 hz1 hz2 rfl (by omega) v i _ (by rfl) ((HW.out.alloc _).drew) ⟨wr.heap.size, 0, none⟩ 1 1 [.int .i64 p, .int .i64 q] (by rfl) (by rfl) (World.news_of_block (cs := #[.int .i64 p, .int .i64 q]) (t := 37) (fr := (0, 0)) (heap_alloc_new wr _)) (by simp [Value.oneCell']) (by omega) (by unfold maxLen; omega) (by omega) (by simp; omega) (wr.heap.size + 1) (by simp) ?_
                    intro gg cap w4 hown1 hgrow hat hlt4
                    have HR1 : Row w4 Bt 24 [.int .i64 (T : Int), v] := (hgrow.block Bt (HO.out.alloc (.cells #[.int .i64 p, .int .i64 q] 37)).lt (fun e => AG.out Bt (by omega) e.symm)).trans (HO.out.alloc (.cells #[.int .i64 p, .int .i64 q] 37))
                    have RA4 : Row w4 w.heap.size 24 _ := (hgrow.block w.heap.size (RA.out.alloc (.cells #[.int .i64 p, .int .i64 q] 37)).lt (fun e => AG.out w.heap.size (by omega) e.symm)).trans (RA.out.alloc (.cells #[.int .i64 p, .int .i64 q] 37))
                    have RB4 : Row w4 (w.heap.size + 1) 24 _ := (hgrow.block (w.heap.size + 1) (RB.out.alloc (.cells #[.int .i64 p, .int .i64 q] 37)).lt (fun e => AG.out (w.heap.size + 1) (by omega) e.symm)).trans (RB.out.alloc (.cells #[.int .i64 p, .int .i64 q] 37))
                    have k0 := RA4.cell 0
                    have k3 := RB4.cell 1
                    have k5 : w4.cell? ⟨b, off + i * 2, none⟩ = some (.int .i64 u) := by (rw [hgrow.cell_far _ (by simp; omega) (Ne.symm (AG.out b (by omega)))]; simp; rw [World.cell?_alloc_lt _ _ _ (by simp; omega)]; exact hu)
                    have k6 : w4.cell? ⟨b, off + i * 2 + 1, none⟩ = some (.int .i64 x) := by (rw [hgrow.cell_far _ (by simp; omega) (Ne.symm (AG.out b (by omega)))]; simp; rw [World.cell?_alloc_lt _ _ _ (by simp; omega)]; exact hx)
                    have o1' := HR1.cell 1
                    have of1 := HR1.free 1
                    refine hK.out _ _ ⟨k3, k5, k6, k0⟩ (fun hHeld => ?_)
                    clear hK K
                    try simp only [Act.put, List.setIfInBounds_toArray, List.set_cons_zero, List.set_cons_succ]
                    refine wpAnyH_take (i := 23) (oi := { dst := some 91, op := Op.fieldAddr 24 (Operand.tmp 5) 1, type := 0, pos := "law.go:83", after := #[{ on := 0, ground := Ground.phase }, { on := 1, ground := Ground.phase }, { on := 2, ground := Ground.phase }, { on := 3, ground := Ground.phase }, { on := 4, ground := Ground.phase }, { on := 5, ground := Ground.phase }, { on := 6, ground := Ground.phase }, { on := 7, ground := Ground.phase }, { on := 8, ground := Ground.phase }, { on := 9, ground := Ground.phase }, { on := 10, ground := Ground.phase }, { on := 11, ground := Ground.phase }, { on := 12, ground := Ground.phase }, { on := 13, ground := Ground.phase }, { on := 14, ground := Ground.phase }, { on := 15, ground := Ground.phase }, { on := 16, ground := Ground.phase }, { on := 17, ground := Ground.phase }, { on := 18, ground := Ground.phase }, { on := 19, ground := Ground.phase }, { on := 20, ground := Ground.phase }, { on := 21, ground := Ground.phase }, { on := 22, ground := Ground.phase }], guard := none }) (v := ?_) rfl (by kernel_rfl) (by kernel_rfl) (by kernel_rfl) (fun _ _ _ h => h) (Or.inl ⟨by rfl, ?_⟩) hHeld ?_
                    rotate_left
                    · (intro w' hSw; (try dsimp only at hSw); go_simp <;> with_reducible rfl)
                    try simp only [Act.put, List.setIfInBounds_toArray, List.set_cons_zero, List.set_cons_succ]
                    refine wpAnyH_ready (rs := [24]) (by kernel_rfl) (by simp) ?_
                    refine AllReadyH.cons (o := { dst := none, op := Op.store 22 (Operand.tmp 91) (Operand.tmp 90), type := 0, pos := "law.go:83", after := #[{ on := 23, ground := Ground.data }, { on := 22, ground := Ground.data }, { on := 22, ground := Ground.chain }, { on := 0, ground := Ground.phase }, { on := 1, ground := Ground.phase }, { on := 2, ground := Ground.phase }, { on := 3, ground := Ground.phase }, { on := 4, ground := Ground.phase }, { on := 5, ground := Ground.phase }, { on := 6, ground := Ground.phase }, { on := 7, ground := Ground.phase }, { on := 8, ground := Ground.phase }, { on := 9, ground := Ground.phase }, { on := 10, ground := Ground.phase }, { on := 11, ground := Ground.phase }, { on := 12, ground := Ground.phase }, { on := 13, ground := Ground.phase }, { on := 14, ground := Ground.phase }, { on := 15, ground := Ground.phase }, { on := 16, ground := Ground.phase }, { on := 17, ground := Ground.phase }, { on := 18, ground := Ground.phase }, { on := 19, ground := Ground.phase }, { on := 20, ground := Ground.phase }, { on := 21, ground := Ground.phase }, { on := 22, ground := Ground.phase }], guard := none }) rfl (fun K hK => ?_) (AllReadyH.nil)
                    go_simp
                    refine hK.out _ _ ⟨by rw [World.cell?_setCell_far _ _ _ _ (by simp; omega)]; exact k3, by rw [World.cell?_setCell_far _ _ _ _ (by simp; omega)]; exact k5, by rw [World.cell?_setCell_far _ _ _ _ (by simp; omega)]; exact k6, by rw [World.cell?_setCell_far _ _ _ _ (by simp; omega)]; exact k0⟩ (fun hHeld => ?_)
                    clear hK K
                    try simp only [Act.put, List.setIfInBounds_toArray, List.set_cons_zero, List.set_cons_succ]
                    refine wpAnyH_done (by kernel_rfl) ?_ _
                    have HF1 := Lib.hid (HR1.set 1 (.slice (some ⟨gg, 0, none⟩) (i + 1) cap))
                    have HBB : Hid (Below Bt w3 w4) := Below.grown ((HBW.out.alloc (by omega) (.cells #[.int .i64 p, .int .i64 q] 37)).drew) hgrow (by simp; omega) fun k hk => by have := (HW.out.lt k hk).1; omega
                    have HF2 := Lib.hid (HBB.out.setCell (p := ⟨Bt, 1, none⟩) (Nat.le_refl _) (.slice (some ⟨gg, 0, none⟩) (i + 1) cap))
                    have HF3 : Hid ((w4.setCell ⟨Bt, 1, none⟩ (.slice (some ⟨gg, 0, none⟩) (i + 1) cap)).ownsRow (Bt + 1) 37 2 (.slice (some ⟨gg, 0, none⟩) (i + 1) cap) (i + 1) (flatE ((l1.take (i + 1)).map (shiftE N)))) := by
                      unfold Hid
                      rw [HTS.out, flatE_snoc]
                      exact own_keep2 hown1 fun b hb _ => heap_setCell_other _ _ _ _ (by show b ≠ Bt; omega)
                    clear hown1 hgrow hat HR1 RA4 RB4 k0 k3 k5 k6 o1' of1
                    go_wp2
                    go_roundw
                    case rel => exact ⟨i + 1, _, by omega, by go_num, HF2.out, HF1.out, HF3.out⟩
                    case measure => simp [intOf]; omega
                  · go_simp
                    refine hK.out _ _ ⟨cell_ad c3, cell_ad hu, cell_ad hx, cell_ad c0⟩ (fun hHeld => ?_)
                    clear hK K
                    try simp only [Act.put, List.setIfInBounds_toArray, List.set_cons_zero, List.set_cons_succ]
                    refine wpAnyH_ready (rs := [1]) (by kernel_rfl) (by simp) ?_
                    refine AllReadyH.cons (o := { dst := some 69, op := Op.load 22 (Operand.tmp 68), type := 22, pos := "law.go:83", after := #[{ on := 0, ground := Ground.data }], guard := none }) rfl (fun K hK => ?_) (AllReadyH.nil)
                    go_simp
                    refine hK.out _ _ ⟨cell_ad c3, cell_ad hu, cell_ad hx, cell_ad c0⟩ (fun hHeld => ?_)
                    clear hK K
                    try simp only [Act.put, List.setIfInBounds_toArray, List.set_cons_zero, List.set_cons_succ]
                    refine wpAnyH_ready (rs := [22]) (by kernel_rfl) (by simp) ?_
                    refine AllReadyH.cons (o := { dst := some 90, op := Op.call { callee := Callee.builtin Builtin.append, args := #[Operand.tmp 69, Operand.tmp 89], argTypes := #[22, 22] }, type := 22, pos := "law.go:83", after := #[{ on := 1, ground := Ground.data }, { on := 21, ground := Ground.data }], guard := none }) rfl (fun K hK => ?_) (AllReadyH.nil)
                    refine step_append_lies _ (by rfl) _ _ _ (by rfl) (Bt + 1) 37 i0 _ 2 16 Try.underlying22 hi hz0 hz1 hz2 rfl (by omega) v i _ (by rfl) ((HW.out.alloc _).drew) ⟨wr.heap.size, 0, none⟩ 1 1 [.int .i64 p, .int .i64 q] (by rfl) (by rfl) (World.news_of_block (cs := #[.int .i64 p, .int .i64 q]) (t := 37) (fr := (0, 0)) (heap_alloc_new wr _)) (by simp [Value.oneCell']) (by omega) (by unfold maxLen; omega) (by omega) (by simp; omega) (wr.heap.size + 1) (by simp) ?_
                    intro gg cap w4 hown1 hgrow hat hlt4
                    have HR1 : Row w4 Bt 24 [.int .i64 (T : Int), v] := (hgrow.block Bt (HO.out.alloc (.cells #[.int .i64 p, .int .i64 q] 37)).lt (fun e => AG.out Bt (by omega) e.symm)).trans (HO.out.alloc (.cells #[.int .i64 p, .int .i64 q] 37))
                    have RA4 : Row w4 w.heap.size 24 _ := (hgrow.block w.heap.size (RA.out.alloc (.cells #[.int .i64 p, .int .i64 q] 37)).lt (fun e => AG.out w.heap.size (by omega) e.symm)).trans (RA.out.alloc (.cells #[.int .i64 p, .int .i64 q] 37))
                    have RB4 : Row w4 (w.heap.size + 1) 24 _ := (hgrow.block (w.heap.size + 1) (RB.out.alloc (.cells #[.int .i64 p, .int .i64 q] 37)).lt (fun e => AG.out (w.heap.size + 1) (by omega) e.symm)).trans (RB.out.alloc (.cells #[.int .i64 p, .int .i64 q] 37))
                    have k0 := RA4.cell 0
                    have k3 := RB4.cell 1
                    have k5 : w4.cell? ⟨b, off + i * 2, none⟩ = some (.int .i64 u) := by (rw [hgrow.cell_far _ (by simp; omega) (Ne.symm (AG.out b (by omega)))]; simp; rw [World.cell?_alloc_lt _ _ _ (by simp; omega)]; exact hu)
                    have k6 : w4.cell? ⟨b, off + i * 2 + 1, none⟩ = some (.int .i64 x) := by (rw [hgrow.cell_far _ (by simp; omega) (Ne.symm (AG.out b (by omega)))]; simp; rw [World.cell?_alloc_lt _ _ _ (by simp; omega)]; exact hx)
                    have o1' := HR1.cell 1
                    have of1 := HR1.free 1
                    refine hK.out _ _ ⟨k3, k5, k6, k0⟩ (fun hHeld => ?_)
                    clear hK K
                    try simp only [Act.put, List.setIfInBounds_toArray, List.set_cons_zero, List.set_cons_succ]
                    refine wpAnyH_take (i := 23) (oi := { dst := some 91, op := Op.fieldAddr 24 (Operand.tmp 5) 1, type := 0, pos := "law.go:83", after := #[{ on := 0, ground := Ground.phase }, { on := 1, ground := Ground.phase }, { on := 2, ground := Ground.phase }, { on := 3, ground := Ground.phase }, { on := 4, ground := Ground.phase }, { on := 5, ground := Ground.phase }, { on := 6, ground := Ground.phase }, { on := 7, ground := Ground.phase }, { on := 8, ground := Ground.phase }, { on := 9, ground := Ground.phase }, { on := 10, ground := Ground.phase }, { on := 11, ground := Ground.phase }, { on := 12, ground := Ground.phase }, { on := 13, ground := Ground.phase }, { on := 14, ground := Ground.phase }, { on := 15, ground := Ground.phase }, { on := 16, ground := Ground.phase }, { on := 17, ground := Ground.phase }, { on := 18, ground := Ground.phase }, { on := 19, ground := Ground.phase }, { on := 20, ground := Ground.phase }, { on := 21, ground := Ground.phase }, { on := 22, ground := Ground.phase }], guard := none }) (v := ?_) rfl (by kernel_rfl) (by kernel_rfl) (by kernel_rfl) (fun _ _ _ h => h) (Or.inl ⟨by rfl, ?_⟩) hHeld ?_
                    rotate_left
                    · (intro w' hSw; (try dsimp only at hSw); go_simp <;> with_reducible rfl)
                    try simp only [Act.put, List.setIfInBounds_toArray, List.set_cons_zero, List.set_cons_succ]
                    refine wpAnyH_ready (rs := [24]) (by kernel_rfl) (by simp) ?_
                    refine AllReadyH.cons (o := { dst := none, op := Op.store 22 (Operand.tmp 91) (Operand.tmp 90), type := 0, pos := "law.go:83", after := #[{ on := 23, ground := Ground.data }, { on := 22, ground := Ground.data }, { on := 22, ground := Ground.chain }, { on := 0, ground := Ground.phase }, { on := 1, ground := Ground.phase }, { on := 2, ground := Ground.phase }, { on := 3, ground := Ground.phase }, { on := 4, ground := Ground.phase }, { on := 5, ground := Ground.phase }, { on := 6, ground := Ground.phase }, { on := 7, ground := Ground.phase }, { on := 8, ground := Ground.phase }, { on := 9, ground := Ground.phase }, { on := 10, ground := Ground.phase }, { on := 11, ground := Ground.phase }, { on := 12, ground := Ground.phase }, { on := 13, ground := Ground.phase }, { on := 14, ground := Ground.phase }, { on := 15, ground := Ground.phase }, { on := 16, ground := Ground.phase }, { on := 17, ground := Ground.phase }, { on := 18, ground := Ground.phase }, { on := 19, ground := Ground.phase }, { on := 20, ground := Ground.phase }, { on := 21, ground := Ground.phase }, { on := 22, ground := Ground.phase }], guard := none }) rfl (fun K hK => ?_) (AllReadyH.nil)
                    go_simp
                    refine hK.out _ _ ⟨by rw [World.cell?_setCell_far _ _ _ _ (by simp; omega)]; exact k3, by rw [World.cell?_setCell_far _ _ _ _ (by simp; omega)]; exact k5, by rw [World.cell?_setCell_far _ _ _ _ (by simp; omega)]; exact k6, by rw [World.cell?_setCell_far _ _ _ _ (by simp; omega)]; exact k0⟩ (fun hHeld => ?_)
                    clear hK K
                    try simp only [Act.put, List.setIfInBounds_toArray, List.set_cons_zero, List.set_cons_succ]
                    refine wpAnyH_done (by kernel_rfl) ?_ _
                    have HF1 := Lib.hid (HR1.set 1 (.slice (some ⟨gg, 0, none⟩) (i + 1) cap))
                    have HBB : Hid (Below Bt w3 w4) := Below.grown ((HBW.out.alloc (by omega) (.cells #[.int .i64 p, .int .i64 q] 37)).drew) hgrow (by simp; omega) fun k hk => by have := (HW.out.lt k hk).1; omega
                    have HF2 := Lib.hid (HBB.out.setCell (p := ⟨Bt, 1, none⟩) (Nat.le_refl _) (.slice (some ⟨gg, 0, none⟩) (i + 1) cap))
                    have HF3 : Hid ((w4.setCell ⟨Bt, 1, none⟩ (.slice (some ⟨gg, 0, none⟩) (i + 1) cap)).ownsRow (Bt + 1) 37 2 (.slice (some ⟨gg, 0, none⟩) (i + 1) cap) (i + 1) (flatE ((l1.take (i + 1)).map (shiftE N)))) := by
                      unfold Hid
                      rw [HTS.out, flatE_snoc]
                      exact own_keep2 hown1 fun b hb _ => heap_setCell_other _ _ _ _ (by show b ≠ Bt; omega)
                    clear hown1 hgrow hat HR1 RA4 RB4 k0 k3 k5 k6 o1' of1
                    go_wp2
                    go_roundw
                    case rel => exact ⟨i + 1, _, by omega, by go_num, HF2.out, HF1.out, HF3.out⟩
                    case measure => simp [intOf]; omega
                · obtain rfl : i = len1 := by omega
                  rw [List.take_of_length_le (by rw [HLB.out]; omega)] at HW
                  have HE0 := Lib.hid (wr0.keep WW.out)
                  clear c2
                  go_wp2_with (with_reducible refine stopAt 96 ?_)
                  unfold Hid
                  refine wpList_append_list2 _ rfl _ _ 22 rfl (Bt + 1) 37 i0 (.agg #[.int .i64 0, .int .i64 0]) 16 Try.underlying22 hi hz0 hz1 hz2 rfl v i _ rfl HW.out a0 len0 cap0 (flatE l0) rfl (by rw [flatE_length, HLA.out]) HE0.out.source flatE_one (by unfold maxLen; omega) (by omega) (by omega) ?_
                  intro v5 w5 hown5 hb5
                  rw [← flatE_append, show l1.map (shiftE N) ++ l0 = beside N l0 l1 from rfl] at hown5
                  obtain ⟨L, hL⟩ : ∃ L, i + len0 = L := ⟨_, rfl⟩
                  have HLG : Hid ((beside N l0 l1).length = L) := by unfold Hid; rw [beside_length, HLA.out, HLB.out, hL]
                  have HG : Hid (formed (T : Int) (beside N l0 l1) = true) := by unfold Hid; rw [← hT]; exact beside_formed HA.out HB.out (by omega) (by rw [HLA.out, HLB.out]; omega)
                  rw [hL] at hown5
                  have hownS := own_keep2 (w' := w5.setCell ⟨Bt, 1, none⟩ v5) hown5 fun b hb _ => heap_setCell_other _ _ _ _ (by show b ≠ Bt; omega)
                  have hBS : Below Bt w5 (w5.setCell ⟨Bt, 1, none⟩ v5) := (Below.refl Bt w5).setCell (p := ⟨Bt, 1, none⟩) (Nat.le_refl _) v5
                  have hR5 : Row w5 Bt 24 [.int .i64 (T : Int), v] := HO.out.below hb5 (by omega)
                  obtain ⟨A5, k5, rfl, hrs⟩ := own_edges hownS HLG.out (fun y hy => by
                    have h := (formed_iff.1 HG.out).2 y hy
                    exact ⟨I64.of (by omega) (by omega), I64.of (by omega) (by omega)⟩)
                  have hRS := hR5.set 1 (.slice A5 L k5)
                  obtain ⟨w6, hw6⟩ : ∃ w6, w5.setCell ⟨Bt, 1, none⟩ (.slice A5 L k5) = w6 := ⟨_, rfl⟩
                  rw [hw6] at hBS hrs hRS
                  have o1 := hR5.cell 1
                  have of1 := hR5.free 1
                  have hB6 : Below Bt wr w6 := (hb5.mono (by omega)).trans hBS
                  have RG6 : Hid (Row w6 Bt 24 [.int .i64 (T : Int), .slice A5 L k5]) := hRS
                  have EG6 := Lib.hid hrs
                  have RA6 := Lib.hid (RA.out.below hB6 (by omega))
                  have RB6 := Lib.hid (RB.out.below hB6 (by omega))
                  have W6 := Lib.hid (WW.out.trans (hB6.mono (by omega)))
                  have EA6 := Lib.hid (wr0.keep W6.out)
                  have EB6 := Lib.hid (wr1.keep W6.out)
                  have z6 : w.heap.size + 1 < w6.heap.size := RB6.out.lt
                  have hL1 : L ≤ 300 := by omega
                  have wL : IntKind.i64.wrap ((len0 : Int) + (i : Int)) = (L : Int) := by rw [IntWalk.i64_in _ (by omega), ← hL]; simp; omega
                  clear hown5 hb5 hownS hBS hrs hRS hR5 hB6 HW HNIL HRT HE0 o0 c0 c1 c3
                  have c0 := RA6.out.cell 0
                  have c1 := RA6.out.cell 1
                  go_wp2_with fail
                  refine (degrees_ok N a0 len0 cap0 l0 w6 HA.out EA6.out (by omega)).mono ?_; rintro e w7 ⟨v7, rfl, ho7, hx7, hb7⟩
                  have B7 := Lib.hid hb7
                  have HO7 := Lib.hid ho7
                  have HX7 := Lib.hid hx7
                  have c2 := (RB6.out.keep B7.out).cell 0
                  have c3 := (RB6.out.keep B7.out).cell 1
                  clear hb7 ho7 hx7 c0 c1 o1 of1
                  go_wp2_with fail
                  refine (degrees_ok M a1 i cap1 l1 w7 HB.out (EB6.out.keep (B7.out.mono (by omega))) (by have := B7.out.size; omega)).mono ?_; rintro e w8 ⟨v8, rfl, ho8, hx8, hb8⟩
                  have B8 := Lib.hid (B7.out.trans (hb8.mono B7.out.size))
                  have B78 := Lib.hid hb8
                  have HO8 := Lib.hid ho8
                  have HX8 := Lib.hid hx8
                  have o0 := (RG6.out.keep B8.out).cell 0
                  have o1 := (RG6.out.keep B8.out).cell 1
                  clear hb8 ho8 hx8 c2 c3
                  go_wp2_with fail
                  refine (degrees_ok T A5 L k5 (beside N l0 l1) w8 HG.out (EG6.out.keep B8.out) (by have := B8.out.size; omega)).mono ?_; rintro e w9 ⟨v9, rfl, ho9, hx9, hb9⟩
                  have B9 := Lib.hid (B8.out.trans (hb9.mono B8.out.size))
                  have HO79 := Lib.hid (own_keep (own_keep HO7.out B78.out) hb9)
                  obtain ⟨A8, k8, rfl, hr8, _⟩ := own_reads (own_keep HO8.out hb9) HX8.out
                  have HD : Hid (degs T (beside N l0 l1) = degs N l0 ++ degs M l1) := by unfold Hid; rw [← hT]; exact degs_beside HA.out HB.out
                  have HO9 := Lib.hid ho9
                  have HX9 := Lib.hid hx9
                  have HR8 := Lib.hid hr8
                  have z78 : w7.heap.size ≤ w8.heap.size := B78.out.size
                  have z89 : w8.heap.size ≤ w9.heap.size := hb9.size
                  have z69 : w6.heap.size ≤ w9.heap.size := B9.out.size
                  obtain ⟨j0, hji, hjz0, hjz1, hjz2⟩ := info_parts info_int
                  clear hb9 ho9 hx9 hr8 HO8 o0 o1
                  go_wp2_with (with_reducible refine stopAt 115 ?_)
                  unfold Hid
                  refine wpList_append_list3 _ rfl _ _ 31 rfl w6.heap.size 3 j0 (.int .i64 0) 8 Try.underlying31 hji hjz0 hjz1 hjz2 rfl v7 N _ rfl HO79.out A8 M k8 ((degs M l1).map i64c) rfl (by rw [List.length_map, degs_length]) HR8.out.source cells_int (by unfold maxLen; omega) (by omega) (by omega) ?_
                  intro v10 w10 hown10 hb10 hoth10
                  rw [← List.map_append, ← HD.out, hT] at hown10
                  have hown9 := own_keep1 HO9.out (fun b hb hlt => hoth10 b hlt (fun e => by have := (HO7.out.lt b e.symm).2; omega))
                  obtain ⟨A10, k10, rfl, hr10, _⟩ := own_reads hown10 HX9.out
                  have hs10 : w9.heap.size ≤ w10.heap.size := by
                    rcases Nat.lt_or_ge w10.heap.size w9.heap.size with h | h
                    · have h1 := hb10.size; omega
                    · exact h
                  obtain ⟨A9, k9, rfl, hr9, _⟩ := own_reads hown9 HX9.out
                  have B10 := Lib.hid (B9.out.trans hb10)
                  have RX10 := Lib.hid hr10
                  have RZ10 := Lib.hid hr9
                  have z10 : w6.heap.size ≤ w10.heap.size := B10.out.size
                  have HDL : Hid ((degs T (beside N l0 l1)).length = T) := degs_length _ _
                  have HORD : Hid (order (beside N l0 l1) = order l0 ++ (order l1).map (shiftE N)) := order_beside HA.out HB.out
                  generalize degs T (beside N l0 l1) = D at *
                  clear hown9 hown10 hr10 hr9 hb10 hoth10 HO9 HX9 HO7 HX7 HO79 HR8 HX8 HD hji hjz0 hjz1 hjz2
                  have o0 := (RG6.out.keep B10.out).cell 0
                  have o1 := (RG6.out.keep B10.out).cell 1
                  go_wp2_with fail
                  refine (order_ok (T : Int) A5 L k5 (beside N l0 l1) w10 wT HG.out (EG6.out.keep B10.out) (by omega)).mono ?_; rintro e w11 ⟨Ao, ko, rfl, hro, hb11⟩
                  have HB12 : Hid (Below w10.heap.size w10 (w11.alloc (.cells #[.int .i64 (T : Int), .slice Ao L ko] 24))) := hb11.alloc hb11.size _
                  have RO12 : Hid (Row (w11.alloc (.cells #[.int .i64 (T : Int), .slice Ao L ko] 24)) w11.heap.size 24 [.int .i64 (T : Int), .slice Ao L ko]) := heap_alloc_new _ _
                  have EO12 := Lib.hid (hro.keep ((Below.refl w11.heap.size w11).alloc (Nat.le_refl _) (.cells #[.int .i64 (T : Int), .slice Ao L ko] 24)))
                  have z11 : w10.heap.size ≤ w11.heap.size := hb11.size
                  obtain ⟨w12, hw12⟩ : ∃ w12, w11.alloc (.cells #[.int .i64 (T : Int), .slice Ao L ko] 24) = w12 := ⟨_, rfl⟩
                  have z12 : w11.heap.size < w12.heap.size := by rw [← hw12]; simp
                  rw [hw12] at HB12 RO12 EO12
                  have B12 := Lib.hid (B10.out.trans (HB12.out.mono z10))
                  have RX12 := Lib.hid (RX10.out.keep HB12.out)
                  have RZ12 := Lib.hid (RZ10.out.keep HB12.out)
                  have c0 := (RA6.out.keep B12.out).cell 0
                  have c1 := (RA6.out.keep B12.out).cell 1
                  clear hro hb11 o0 o1 RX10 RZ10
                  go_wp2_with fail
                  refine (order_ok (N : Int) a0 len0 cap0 l0 w12 wN0 HA.out (EA6.out.keep (B12.out.mono (by omega))) (by omega)).mono ?_; rintro e w13 ⟨Ap, kp, rfl, hrp, hb13⟩
                  have HB14 : Hid (Below w12.heap.size w12 (w13.alloc (.cells #[.int .i64 (N : Int), .slice Ap len0 kp] 24))) := hb13.alloc hb13.size _
                  have RP14 : Hid (Row (w13.alloc (.cells #[.int .i64 (N : Int), .slice Ap len0 kp] 24)) w13.heap.size 24 [.int .i64 (N : Int), .slice Ap len0 kp]) := heap_alloc_new _ _
                  have EP14 := Lib.hid (hrp.keep ((Below.refl w13.heap.size w13).alloc (Nat.le_refl _) (.cells #[.int .i64 (N : Int), .slice Ap len0 kp] 24)))
                  have z13 : w12.heap.size ≤ w13.heap.size := hb13.size
                  obtain ⟨w14, hw14⟩ : ∃ w14, w13.alloc (.cells #[.int .i64 (N : Int), .slice Ap len0 kp] 24) = w14 := ⟨_, rfl⟩
                  have z14 : w13.heap.size < w14.heap.size := by rw [← hw14]; simp
                  rw [hw14] at HB14 RP14 EP14
                  have B14 := Lib.hid (B12.out.trans (HB14.out.mono (by omega)))
                  have RO14 := Lib.hid (RO12.out.keep HB14.out)
                  have EO14 := Lib.hid (EO12.out.keep (HB14.out.mono (by omega)))
                  have RX14 := Lib.hid (RX12.out.keep (HB14.out.mono (by omega)))
                  have RZ14 := Lib.hid (RZ12.out.keep (HB14.out.mono (by omega)))
                  have c2 := (RB6.out.keep B14.out).cell 0
                  have c3 := (RB6.out.keep B14.out).cell 1
                  clear hrp hb13 c0 c1 RX12 RZ12 RO12 EO12
                  go_wp2_with fail
                  refine (order_ok (M : Int) a1 i cap1 l1 w14 wN1 HB.out (EB6.out.keep (B14.out.mono (by omega))) (by omega)).mono ?_; rintro e w15 ⟨Aq, kq, rfl, hrq, hb15⟩
                  have HB16 : Hid (Below w14.heap.size w14 (w15.alloc (.cells #[.int .i64 (M : Int), .slice Aq i kq] 24))) := hb15.alloc hb15.size _
                  have RQ16 : Hid (Row (w15.alloc (.cells #[.int .i64 (M : Int), .slice Aq i kq] 24)) w15.heap.size 24 [.int .i64 (M : Int), .slice Aq i kq]) := heap_alloc_new _ _
                  have EQ16 := Lib.hid (hrq.keep ((Below.refl w15.heap.size w15).alloc (Nat.le_refl _) (.cells #[.int .i64 (M : Int), .slice Aq i kq] 24)))
                  have z15 : w14.heap.size ≤ w15.heap.size := hb15.size
                  obtain ⟨w16, hw16⟩ : ∃ w16, w15.alloc (.cells #[.int .i64 (M : Int), .slice Aq i kq] 24) = w16 := ⟨_, rfl⟩
                  have z16 : w15.heap.size < w16.heap.size := by rw [← hw16]; simp
                  rw [hw16] at HB16 RQ16 EQ16
                  have B16 := Lib.hid (B14.out.trans (HB16.out.mono (by omega)))
                  have RX16 := Lib.hid (RX14.out.keep (HB16.out.mono (by omega)))
                  have RZ16 := Lib.hid (RZ14.out.keep (HB16.out.mono (by omega)))
                  have EO16 := Lib.hid (EO14.out.keep (HB16.out.mono (by omega)))
                  have EP16 := Lib.hid (EP14.out.keep (HB16.out.mono (by omega)))
                  have W16 := Lib.hid (W6.out.trans (B16.out.mono (by omega)))
                  have co1 := (RO14.out.keep HB16.out).cell 1
                  have cp1 := (RP14.out.keep HB16.out).cell 1
                  have cq1 := RQ16.out.cell 1
                  have ca0 := (RA6.out.keep B16.out).cell 0
                  have HI : Hid (Calls Try.prog 22 #[.slice A10 T k10, .slice A9 T k9] w16 fun e w' => e = .returned (.bool true) ∧ ∃ m, w' = w16.drewN m) :=
                    (ints_any A10 A9 T k10 T k9 D D w16 RX16.out RZ16.out (by omega) (by omega)).mono fun e w' h => (by rw [show eqI D D = true by unfold eqI; simp] at h; exact h)
                  clear hrq hb15 c2 c3 RX14 RZ14 RX16 RZ16 RO14 EO14 EP14 RP14
                  go_wp2_with fail
                  refine HI.out.mono ?_; rintro e w17 ⟨rfl, m17, rfl⟩
                  go_wp2
                  go_loopw [19] (fun iv wq => ∃ k q : Nat, k ≤ L ∧ iv = .int .i64 k ∧ wq = w16.drewN q) (fun iv _ => L - (intOf iv).toNat)
                  case atStart => exact ⟨0, m17, by omega, rfl, rfl⟩
                  case round =>
                    obtain ⟨k, qq, hk, rfl, rfl⟩ := hrel
                    by_cases hkL : k < L
                    · obtain ⟨b, off, u, x, rfl, hb, hu, hx, wu, wx, HEK⟩ := EO16.out.at_ hkL
                      have hj0 : (0 : Int) ≤ (k : Int) := by omega
                      have hj1 : (k : Int) < (L : Int) := by omega
                      have hE := HEK.out
                      rw [HORD.out] at hE
                      by_cases hp : k < len0
                      · obtain ⟨b2, off2, u2, x2, rfl, hb2, hu2, hx2, wu2, wx2, HEK2⟩ := EP16.out.at_ hp
                        rw [beside_left HLA.out hp, HEK2.out] at hE
                        obtain ⟨rfl, rfl⟩ := Prod.mk.inj hE
                        have hj2 : (k : Int) < (len0 : Int) := by omega
                        have gp1 : decide ((k : Int) < (len0 : Int)) = true := by simp; omega
                        have gp2 : decide ((len0 : Int) ≤ (k : Int)) = false := by simp; omega
                        have gp3 : ¬ (len0 ≤ k) := by omega
                        have hq := fun W => neq_edge W u2 x2 u2 x2
                        have hg := fun W y z => guard_edge W y z u2 x2 u2 x2
                        clear hE
                        go_wp2
                        go_quiet (fail)
                        go_wp2
                        go_quiet (fail)
                        go_wp2
                        go_roundw
                        case rel => exact ⟨k + 1, _, by omega, by go_num, rfl⟩
                        case measure => simp [intOf]; omega
                      · obtain ⟨j, hj⟩ : ∃ j, k - len0 = j := ⟨_, rfl⟩
                        obtain ⟨b2, off2, u2, x2, rfl, hb2, hu2, hx2, wu2, wx2, HEK2⟩ := EQ16.out.at_ (show j < i by omega)
                        rw [beside_right HLA.out HLB.out (by omega) (by omega), hj, HEK2.out] at hE
                        obtain ⟨e1, e2⟩ := Prod.mk.inj hE
                        have bu := wu.bounds
                        have bx := wx.bounds
                        have hs1 : IntKind.i64.wrap (u2 + (N : Int)) = u := by rw [← e1]; exact IntWalk.i64_in _ (by simp only at e1; omega)
                        have hs2 : IntKind.i64.wrap (x2 + (N : Int)) = x := by rw [← e2]; exact IntWalk.i64_in _ (by simp only at e2; omega)
                        have hsub : IntKind.i64.wrap ((k : Int) - (len0 : Int)) = (j : Int) := by rw [IntWalk.i64_in _ (by omega)]; omega
                        have hj2 : (0 : Int) ≤ (j : Int) := by omega
                        have hj3 : (j : Int) < (i : Int) := by omega
                        have gp1 : decide ((k : Int) < (len0 : Int)) = false := by simp; omega
                        have gp2 : decide ((len0 : Int) ≤ (k : Int)) = true := by simp; omega
                        have gp3 : len0 ≤ k := by omega
                        have hq := fun W => neq_edge W u x u x
                        have hg := fun W y z => guard_edge W y z u x u x
                        clear hE e1 e2 hj bu bx
                        go_wp2
                        go_quiet (fail)
                        go_wp2
                        go_quiet (fail)
                        go_wp2
                        go_roundw
                        case rel => exact ⟨k + 1, _, by omega, by go_num, rfl⟩
                        case measure => simp [intOf]; omega
                    · obtain rfl : k = L := by omega
                      go_wp2
                      go_ret
                      exact ⟨rfl, below_drewN W16.out _⟩
            · have HF : Hid (formed N1 l1 = false) := by unfold Hid; simpa using hfb
              rw [HF.out]
              clear hfb
              go_wp2_with fail
              refine (awake_any _).mono ?_; rintro e wt ⟨rfl, hbt⟩
              have HBT := Lib.hid (W3.out.trans (hbt.mono W3.out.size))
              clear hbt
              go_wp2
              go_ret
              exact ⟨rfl, HBT.out⟩
          · have HF : Hid (formed N0 l0 = false) := by unfold Hid; simpa using hfa
            rw [HF.out]
            clear hfa
            go_wp2_with fail
            refine (awake_any _).mono ?_; rintro e wt ⟨rfl, hbt⟩
            have HBT := Lib.hid (W2.out.trans (hbt.mono W2.out.size))
            clear hbt
            go_wp2
            go_ret
            exact ⟨rfl, HBT.out⟩
        · have g3 : decide (200 < N1) = true := by simp; omega
          go_wp2_with fail
          refine (awake_any _).mono ?_; rintro e wt ⟨rfl, hbt⟩
          have HBT := Lib.hid (W1.out.trans (hbt.mono W1.out.size))
          clear hbt
          go_wp2
          go_ret
          exact ⟨rfl, HBT.out⟩
      · have g2 : decide (200 < N0) = true := by simp; omega
        go_wp2_with fail
        refine (awake_any _).mono ?_; rintro e wt ⟨rfl, hbt⟩
        have HBT := Lib.hid (W1.out.trans (hbt.mono W1.out.size))
        clear hbt
        go_wp2
        go_ret
        exact ⟨rfl, HBT.out⟩
    · have g1 : decide ((150 : Int) < (len1 : Int)) = true := by simp; omega
      have g1n : decide (150 < len1) = true := by simp; omega
      go_wp2_with fail
      refine (awake_any _).mono ?_; rintro e wt ⟨rfl, hbt⟩
      have HBT := Lib.hid (W1.out.trans (hbt.mono W1.out.size))
      clear hbt
      go_wp2
      go_ret
      exact ⟨rfl, HBT.out⟩
  · have g0 : decide ((150 : Int) < (len0 : Int)) = true := by simp; omega
    have g0n : decide (150 < len0) = true := by simp; omega
    go_wp2_with fail
    refine (awake_any _).mono ?_; rintro e wt ⟨rfl, hbt⟩
    have HBT := Lib.hid (W1.out.trans (hbt.mono W1.out.size))
    clear hbt
    go_wp2
    go_ret
    exact ⟨rfl, HBT.out⟩

set_option maxRecDepth 100000 in
theorem lifted (os : Os) (started : os.Started) (H : Type) (enc : TypeId × Value → H) :
    ReturnsInHanded {} Try.checked os 7 .any (Rows.graphApartSpec.pre6 enc Try.prog Try.f7 Rows.graphApartRow.domain false) (Rows.graphApartSpec.post enc Try.prog Try.f7 false true false false) := by
  refine returnsInHanded_of_change (C := Try.checked) own started (by kernel_rfl) Try.func7
    (ChangeSpec.witness6 (enc := enc) (C := Try.checked) false ⟨#[], #[.agg #[.int .i64 0, .slice none 0 0], .agg #[.int .i64 0, .slice none 0 0]], []⟩ 8 (by kernel_rfl) (by kernel_rfl) (by kernel_rfl) (by kernel_rfl)) ?_
  intro W base args ds gs before hval0 hW hcnd _
  have hval : ∀ (j : Nat) t v, Try.f7.params[j]? = some t → args[j]? = some v → Value.okWide Try.prog W .any base t v := hval0
  have hW' := hW
  obtain ⟨p, q, hA0, hV, rfl, hfz, hnd⟩ := hW
  have hA : DataW.TrodAll enc Try.prog W 0 (fun _ => true) true Try.f7.params.toList args.toList ds p := hA0
  rw [Try.params7] at hA hval
  obtain ⟨v0, vs0, d0, ds0, p0, q0, hargs, rfl, rfl, h0, r0⟩ := trodAll_cons hA
  obtain ⟨v1, vs1, d1, ds1, p1, q1, rfl, rfl, rfl, h1, r1⟩ := trodAll_cons r0
  obtain ⟨rfl, rfl, rfl⟩ := trodAll_nil r1
  obtain rfl : args = #[v0, v1] := by cases args; simp_all
  obtain ⟨rfl, rfl⟩ := trodVars_none hV
  have k0 := h0
  have lt0 : ∀ x ∈ p0, x.block < W.heap.size := by obtain ⟨m, hm⟩ := k0; exact DataW.trod_lt m _ _ _ hm
  have k1 := h1
  have lt1 : ∀ x ∈ p1, x.block < W.heap.size := by obtain ⟨m, hm⟩ := k1; exact DataW.trod_lt m _ _ _ hm
  obtain ⟨N0, a0, len0, cap0, l0, rfl, wN0, wr0, wc0⟩ := open_graph Try.underlying24 (by kernel_rfl) (by kernel_rfl) rfl rfl Try.underlying22 Try.underlying37 (by kernel_rfl) (by kernel_rfl) Try.underlying3 rfl rfl (hval 0 24 v0 rfl rfl) h0
  obtain ⟨N1, a1, len1, cap1, l1, rfl, wN1, wr1, wc1⟩ := open_graph Try.underlying24 (by kernel_rfl) (by kernel_rfl) rfl rfl Try.underlying22 Try.underlying37 (by kernel_rfl) (by kernel_rfl) Try.underlying3 rfl rfl (hval 1 24 v1 rfl rfl) h1
  clear hA0 hval0
  refine (walk N0 a0 len0 cap0 l0 N1 a1 len1 cap1 l1 W wN0 wr0 wc0 wN1 wr1 wc1).mono fun e W' ⟨he, bel⟩ => ?_
  subst he
  exact ⟨_, rfl, _, _, _, [], _, [], hW', trodAll_mk1 (shut_bool Try.underlying4 _), (trodAll_cons_mk (Below.trod laidOut (by kernel_rfl) (of_decide_eq_true (by kernel_rfl)) k0 bel lt0) (trodAll_cons_mk (Below.trod laidOut (by kernel_rfl) (of_decide_eq_true (by kernel_rfl)) k1 bel lt1) trodAll_mk0)), rfl, bel.frame _, fun h => by cases h⟩

theorem over : Rows.graphApartRow.holds Try.pinned (OpenSpec.ofChange Rows.graphApartSpec) :=
  OpenClaim.holds_of_wide 7 Try.f7 rfl rfl rfl rfl rfl rfl rfl ⟨rfl, rfl, rfl, rfl, rfl⟩ rfl rfl rfl rfl rfl (by kernel_rfl) Try.func7 (by kernel_rfl)
    (of_decide_eq_true (by kernel_rfl)) (by unfold Func.isWrapper; first | (rw [if_pos (by decide +kernel)]; kernel_rfl) | (rw [if_neg (by decide +kernel)]; exact ⟨rfl, rfl⟩))
    (fun os started H enc _ => lifted os started H enc)

theorem proved : Rows.GraphApartSaid := over
end Go.Proofs.Ytcfpoanlenjjlaa.graphApart
