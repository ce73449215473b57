/-
  TupleFirst: whatever two tuples and order; no condition.
-/
import Derived.Test.YtoimpiimlekakaaRows
import Derived.Test.YtoimpiimlekakaaTupLaw
import Derived.Test.YtoimpiimlekakaaTupSort
import Derived.WalkKit
import Derived.ProofKit
import Derived.OpenShut
import Derived.ShutString
import Derived.ChangeOld
import Derived.Below
namespace Go.Proofs.Ytoimpiimlekakaa.tupleFirst
open Go.ChangeShapes Go.WideShapes Go.ChangeAt Go.RowKit
open Go.ChangeMaps (open_string shut_string)
set_option linter.unusedVariables false

theorem own : ownKnob Try.prog.godebug = none := by kernel_rfl
theorem laidOut : laidOutB Try.prog = true := by kernel_rfl

theorem arr_setO (o : Tup) {m : Nat} (hm : m < 5) (x : Int) : (arrV o).set m (.int .i64 x) = arrV (setO o m x) := by
  match m, hm with
  | 0, _ => rfl
  | 1, _ => rfl
  | 2, _ => rfl
  | 3, _ => rfl
  | 4, _ => rfl

set_option maxHeartbeats 4000000 in
set_option maxRecDepth 100000 in
theorem walk (x0 : Tup) (x1 : Tup) (x2 : Tup) (w : World) (y0 : TupOk x0) (y1 : TupOk x1) (y2 : TupOk x2) :
    Calls Try.prog 7 #[.agg #[.int .i64 x0.a, .int .i64 x0.b, .int .i64 x0.c, .int .i64 x0.d, .int .i64 x0.e], .agg #[.int .i64 x1.a, .int .i64 x1.b, .int .i64 x1.c, .int .i64 x1.d, .int .i64 x1.e], .agg #[.int .i64 x2.a, .int .i64 x2.b, .int .i64 x2.c, .int .i64 x2.d, .int .i64 x2.e]] w fun e w' => e = .returned (.bool true) ∧ Below w.heap.size w w' := by
  obtain ⟨W1, hW1, hb1, s1, r1, r2, r3⟩ := boxes3 w [.int .i64 x0.a, .int .i64 x0.b, .int .i64 x0.c, .int .i64 x0.d, .int .i64 x0.e] [.int .i64 x1.a, .int .i64 x1.b, .int .i64 x1.c, .int .i64 x1.d, .int .i64 x1.e] [.int .i64 x2.a, .int .i64 x2.b, .int .i64 x2.c, .int .i64 x2.d, .int .i64 x2.e] 23 23 25
  have HW1 := Lib.hid hW1
  have HS1 := Lib.hid s1
  have HRR : Hid (∀ W, Below (w.heap.size + 3) W1 W → Below w.heap.size w W ∧ Row W w.heap.size 23 [.int .i64 x0.a, .int .i64 x0.b, .int .i64 x0.c, .int .i64 x0.d, .int .i64 x0.e] ∧ Row W (w.heap.size + 1) 23 [.int .i64 x1.a, .int .i64 x1.b, .int .i64 x1.c, .int .i64 x1.d, .int .i64 x1.e] ∧ Row W (w.heap.size + 2) 25 [.int .i64 x2.a, .int .i64 x2.b, .int .i64 x2.c, .int .i64 x2.d, .int .i64 x2.e]) := fun W hb => ⟨hb1.trans (hb.mono (by omega)), r1.below hb (by omega), r2.below hb (by omega), r3.below hb (by omega)⟩
  have HA := Lib.hid awake_any
  have HFO := Lib.hid (formed_any x2)
  clear r1 r2 r3 hb1 s1 hW1
  by_cases hf : Fm x2
  rotate_left
  · rw [decide_eq_false hf] at HFO
    clear hf y0 y1 y2
    go_enter Try.func7, Try.ntmps7
    go_upto_region 1 with (fail)
    rw [← HW1.out]
    clear HW1
    go_wp2_with fail
    refine (HA.out _).mono ?_; rintro e w2 ⟨rfl, hb⟩
    have HB2 : Hid (Below (w.heap.size + 3) W1 w2) := hb.mono (Nat.le_of_eq HS1.out.symm)
    have hd := (HRR.out _ HB2.out).2.2.2
    have d0 : w2.cell? ⟨w.heap.size + 2, 0, none⟩ = some (.int .i64 x2.a) := hd.cell 0
    have d1 : w2.cell? ⟨w.heap.size + 2, 1, none⟩ = some (.int .i64 x2.b) := hd.cell 1
    have d2 : w2.cell? ⟨w.heap.size + 2, 2, none⟩ = some (.int .i64 x2.c) := hd.cell 2
    have d3 : w2.cell? ⟨w.heap.size + 2, 3, none⟩ = some (.int .i64 x2.d) := hd.cell 3
    have d4 : w2.cell? ⟨w.heap.size + 2, 4, none⟩ = some (.int .i64 x2.e) := hd.cell 4
    clear hb hd
    go_wp2_with fail
    refine (HFO.out _).mono ?_; rintro e w3 ⟨rfl, hb⟩
    have HB3 : Hid (Below (w.heap.size + 3) W1 w3) := HB2.out.trans (hb.mono (Nat.le_trans (Nat.le_of_eq HS1.out.symm) HB2.out.size))
    clear hb d0 d1 d2 d3 d4
    go_wp2_with fail
    refine (HA.out _).mono ?_; rintro e w4 ⟨rfl, hb⟩
    have HB4 : Hid (Below (w.heap.size + 3) W1 w4) := HB3.out.trans (hb.mono (Nat.le_trans (Nat.le_of_eq HS1.out.symm) HB3.out.size))
    clear hb
    go_wp2
    go_ret
    exact ⟨rfl, (HRR.out _ HB4.out).1⟩
  rw [decide_eq_true hf] at HFO
  have HF := Lib.hid hf
  clear hf
  have HOC := Lib.hid (cmp_any x2 x0 x1)
  have HC0 : Hid (colT x2 0 = 0 → cmpT x2 x0 x1 = 0) := fun h => by
    unfold cmpT; rw [if_pos HF.out, ← List.drop_zero (l := x2.cols), drop_at (by omega), h, cmpL_stop]
  have HAFT : Hid (∀ i, (∀ j, j < i → colT x2 j ≠ 0) → (i = 5 ∨ colT x2 i = 0) → ∀ j, i < j → j < 5 → colT x2 j = 0) := fun i _ hs j h1 h2 => by
    rcases hs with h | h
    · omega
    · by_cases e : colT x2 j = 0
      · exact e
      · exact absurd h ((HF.out j h2).2 i h1 e).1
  have HCC : Hid (cmpT x2 x0 x1 = cmpT x2 x0 x1) := rfl
  revert HCC
  generalize hcc : cmpT x2 x0 x1 = C at HOC HC0 ⊢
  intro HCC
  replace HCC := Lib.hid hcc
  clear hcc y0 y1 y2
  go_enter Try.func7, Try.ntmps7
  go_upto_region 1 with (fail)
  rw [← HW1.out]
  clear HW1
  go_wp2_with fail
  refine (HA.out _).mono ?_; rintro e w2 ⟨rfl, hb⟩
  have HB2 : Hid (Below (w.heap.size + 3) W1 w2) := hb.mono (Nat.le_of_eq HS1.out.symm)
  have hd := (HRR.out _ HB2.out).2.2.2
  have d0 : w2.cell? ⟨w.heap.size + 2, 0, none⟩ = some (.int .i64 x2.a) := hd.cell 0
  have d1 : w2.cell? ⟨w.heap.size + 2, 1, none⟩ = some (.int .i64 x2.b) := hd.cell 1
  have d2 : w2.cell? ⟨w.heap.size + 2, 2, none⟩ = some (.int .i64 x2.c) := hd.cell 2
  have d3 : w2.cell? ⟨w.heap.size + 2, 3, none⟩ = some (.int .i64 x2.d) := hd.cell 3
  have d4 : w2.cell? ⟨w.heap.size + 2, 4, none⟩ = some (.int .i64 x2.e) := hd.cell 4
  clear hb hd
  go_wp2_with fail
  refine (HFO.out _).mono ?_; rintro e w3 ⟨rfl, hb⟩
  have HB3 : Hid (Below (w.heap.size + 3) W1 w3) := HB2.out.trans (hb.mono (Nat.le_trans (Nat.le_of_eq HS1.out.symm) HB2.out.size))
  clear hb d0 d1 d2 d3 d4 HB2
  go_wp2_with fail
  go_loopw [7] (fun iv wr => ∃ i : Nat, i ≤ 5 ∧ iv = .int .i64 (i : Int) ∧ Hid (Below (w.heap.size + 3) W1 wr) ∧ Hid (∀ j, j < i → colT x2 j ≠ 0)) (fun iv _ => 5 - (intOf iv).toNat)
  case atStart => exact ⟨0, by omega, rfl, HB3.out, fun j hj => by omega⟩
  case round =>
    obtain ⟨i, hi, rfl, HW, HNZ⟩ := hrel
    clear HB3
    by_cases hlt : i < 5
    · have g1 : decide ((i : Int) < 5) = true := by simp; omega
      have i0 : (0 : Int) ≤ (i : Int) := by omega
      have i1 : (i : Int) < 5 := by omega
      obtain ⟨y, hy⟩ : ∃ y, y = colT x2 i := ⟨_, rfl⟩
      have cy : wr.cell? ⟨w.heap.size + 2, i, none⟩ = some (.int .i64 y) := by rw [hy]; exact arr_cell (t := x2) (HRR.out _ HW.out).2.2.2 hlt
      by_cases hy0 : y = 0
      · have gy : (y != 0) = false := by simpa using hy0
        have HSTOP : Hid (i = 5 ∨ colT x2 i = 0) := .inr (by rw [← hy]; exact hy0)
        clear hy hy0
        have HZ : Hid (∀ j, i < j → j < 5 → colT x2 j = 0) := HAFT.out i HNZ.out HSTOP.out
        have HI5 := Lib.hid hi
        rcases Nat.eq_zero_or_pos i with hi0 | hi0
        · have gn : ((i : Int) == 0) = true := by simp; omega
          have gn' : decide ((i : Int) = 0) = true := by simp; omega
          have hC : C = 0 := HC0.out (by
            rcases HSTOP.out with h | h
            · omega
            · rw [hi0] at h; exact h)
          subst hC
          obtain ⟨hb4, r1, r2, r3⟩ := HRR.out _ HW.out
          obtain ⟨p0, p1, p2, p3, p4⟩ := five0 r1
          obtain ⟨q0, q1, q2, q3, q4⟩ := five0 r2
          obtain ⟨e0, e1, e2, e3, e4⟩ := five0 r3
          have HB4 := Lib.hid hb4
          clear hb4 r1 r2 r3 hi0 HNZ HSTOP HZ
          go_wp2_with fail
          refine (HOC.out _).mono ?_; rintro e w5 ⟨rfl, hb5⟩
          have HB5 := Lib.hid (HB4.out.trans (hb5.mono HB4.out.size))
          clear hb5
          go_wp2
          go_ret
          exact ⟨rfl, HB5.out⟩
        · obtain ⟨m, hm⟩ : ∃ m, i = m + 1 := ⟨i - 1, by omega⟩
          have gn : ((i : Int) == 0) = false := by simp; omega
          have gn' : decide ((i : Int) = 0) = false := by simp; omega
          have hm5 : m < 5 := by omega
          have hsub : (i : Int) - 1 = (m : Int) := by omega
          have hwm : IntKind.i64.wrap (m : Int) = (m : Int) := by rw [IntKind.wrap_i64]; omega
          have m0 : (0 : Int) ≤ (m : Int) := by omega
          have m1 : (m : Int) < 5 := by omega
          have hn0 : ∀ j, j ≤ m → colT x2 j ≠ 0 := fun j hj => HNZ.out j (by omega)
          have hz0 : ∀ j, m < j → j < 5 → colT x2 j = 0 := fun j h1 h2 => by
            by_cases e : j = i
            · rcases HSTOP.out with h | h
              · omega
              · rw [e]; exact h
            · exact HZ.out j (by omega) h2
          obtain ⟨f1, f2, hcmp⟩ := first_cmp HF.out hm5 hn0 hz0 x0 x1
          rw [HCC.out] at hcmp
          have HLC := Lib.hid (cmp_any (setO x2 m 0) x0 x1)
          have HKC := Lib.hid (cmp_any (setO tup0 0 (colT x2 m)) x0 x1)
          have HCMP := Lib.hid hcmp
          have HSET : Hid (∀ (W : World) (g : Nat), Row W g 25 [.int .i64 x2.a, .int .i64 x2.b, .int .i64 x2.c, .int .i64 x2.d, .int .i64 x2.e] → Row (W.setCell ⟨g, m, none⟩ (.int .i64 0)) g 25 (arrV (setO x2 m 0)) ∧ (∃ v, W.cell? ⟨g, m, none⟩ = some v) ∧ W.frozen? ⟨g, m, none⟩ = false) := fun W g hr => ⟨by have := hr.set m (.int .i64 0); rwa [show ([.int .i64 x2.a, .int .i64 x2.b, .int .i64 x2.c, .int .i64 x2.d, .int .i64 x2.e] : List Value).set m (.int .i64 0) = arrV (setO x2 m 0) from arr_setO x2 hm5 0] at this, ⟨_, arr_cell (t := x2) hr hm5⟩, hr.free m⟩
          have HCM : Hid (∀ W, Row W (w.heap.size + 2) 25 [.int .i64 x2.a, .int .i64 x2.b, .int .i64 x2.c, .int .i64 x2.d, .int .i64 x2.e] → W.cell? ⟨w.heap.size + 2, m, none⟩ = some (.int .i64 (colT x2 m))) := fun W hr => arr_cell (t := x2) hr hm5
          have HONE : Hid (∀ (W : World) (g : Nat) (z : Int), Row W g 25 [.int .i64 0, .int .i64 0, .int .i64 0, .int .i64 0, .int .i64 0] → Row (W.setCell ⟨g, 0, none⟩ (.int .i64 z)) g 25 (arrV (setO tup0 0 z)) ∧ (∃ v, W.cell? ⟨g, 0, none⟩ = some v) ∧ W.frozen? ⟨g, 0, none⟩ = false) := fun W g z hr => ⟨by have := hr.set 0 (.int .i64 z); exact this, ⟨_, hr.cell 0⟩, hr.free 0⟩
          generalize setO x2 m 0 = les at *
          generalize colT x2 m = z at *
          have HONE := Lib.hid (fun (W : World) (g : Nat) => HONE.out W g z)
          generalize setO tup0 0 z = one at *
          clear f1 f2 hcmp hn0 hz0 hi0 HNZ HSTOP HZ hm5 HAFT HC0 HF HI5 hm
          obtain ⟨hb4, r1, r2, r3⟩ := HRR.out _ HW.out
          obtain ⟨e0, e1, e2, e3, e4⟩ := five0 r3
          have hsz : w.heap.size + 3 ≤ wr.heap.size := Nat.le_trans (Nat.le_of_eq HS1.out.symm) HW.out.size
          have hra : Row (wr.alloc (.cells #[.int .i64 x2.a, .int .i64 x2.b, .int .i64 x2.c, .int .i64 x2.d, .int .i64 x2.e] 25)) wr.heap.size 25 [.int .i64 x2.a, .int .i64 x2.b, .int .i64 x2.c, .int .i64 x2.d, .int .i64 x2.e] := heap_alloc_new _ _
          have hba : Below (w.heap.size + 3) W1 (wr.alloc (.cells #[.int .i64 x2.a, .int .i64 x2.b, .int .i64 x2.c, .int .i64 x2.d, .int .i64 x2.e] 25)) := HW.out.alloc hsz _
          have hgs0 : wr.heap.size < (wr.alloc (.cells #[.int .i64 x2.a, .int .i64 x2.b, .int .i64 x2.c, .int .i64 x2.d, .int .i64 x2.e] 25)).heap.size := by simp
          have HRA := Lib.hid hra
          have HBA := Lib.hid hba
          have HGA := Lib.hid hgs0
          generalize hg : wr.heap.size = g at *
          have HG := Lib.hid hsz
          clear hra hba hb4 r1 r2 r3 HW hgs0
          go_upto_region 9 with (fail)
          generalize wr.alloc (.cells #[.int .i64 x2.a, .int .i64 x2.b, .int .i64 x2.c, .int .i64 x2.d, .int .i64 x2.e] 25) = w4 at *
          have hbs := HBA.out.setCell (p := ⟨g, m, none⟩) HG.out (.int .i64 0)
          obtain ⟨hrs, ⟨v9, cs⟩, fz⟩ := HSET.out _ _ HRA.out
          have hgsz : g < (w4.setCell ⟨g, m, none⟩ (.int .i64 0)).heap.size := by simp; exact HGA.out
          have HRS := Lib.hid hrs
          have HBS := Lib.hid hbs
          have HGS := Lib.hid hgsz
          obtain ⟨hb4, r1, r2, r3⟩ := HRR.out _ hbs
          obtain ⟨p0, p1, p2, p3, p4⟩ := five0 r1
          obtain ⟨q0, q1, q2, q3, q4⟩ := five0 r2
          obtain ⟨j0, j1, j2, j3, j4⟩ := five0 hrs
          clear hrs hbs hgsz HRA HBA HGA hb4 r1 r2 r3 e0 e1 e2 e3 e4
          go_wp2_with fail
          generalize w4.setCell ⟨g, m, none⟩ (.int .i64 0) = w5 at *
          clear hg cs fz
          refine (HLC.out _).mono ?_; rintro e w6 ⟨rfl, hb6⟩
          have HB6 : Hid (Below (w.heap.size + 3) W1 w6) := HBS.out.trans (hb6.mono (by have := HG.out; have := HGS.out; omega))
          have HR6 : Hid (Row w6 g 25 (arrV les)) := HRS.out.below hb6 HGS.out
          have HGS6 : Hid (g < w6.heap.size) := Nat.lt_of_lt_of_le HGS.out hb6.size
          clear hb6 p0 p1 p2 p3 p4 q0 q1 q2 q3 q4 j0 j1 j2 j3 j4 HBS HRS HGS
          obtain ⟨hb4, r1, r2, r3⟩ := HRR.out _ HB6.out
          by_cases hc2 : cmpT les x0 x1 = 0
          · rw [hc2] at HLC
            rw [hc2]
            rw [if_pos hc2] at HCMP
            have hsz6 : w.heap.size + 3 ≤ w6.heap.size := by have := HG.out; have := HGS6.out; omega
            have hra : Row (w6.alloc (.cells #[.int .i64 0, .int .i64 0, .int .i64 0, .int .i64 0, .int .i64 0] 25)) w6.heap.size 25 [.int .i64 0, .int .i64 0, .int .i64 0, .int .i64 0, .int .i64 0] := heap_alloc_new _ _
            have hba : Below (w.heap.size + 3) W1 (w6.alloc (.cells #[.int .i64 0, .int .i64 0, .int .i64 0, .int .i64 0, .int .i64 0] 25)) := HB6.out.alloc hsz6 _
            have HRA := Lib.hid hra
            have HBA := Lib.hid hba
            have HCMP2 : Hid (C = cmpT one x0 x1) := HCMP
            generalize cmpT one x0 x1 = C2 at *
            obtain rfl := HCMP2.out
            generalize hg2 : w6.heap.size = g2 at *
            have HG2 := Lib.hid hsz6
            clear hra hba hb4 r1 r2 r3 hc2
            go_upto_region 13 with (fail)
            generalize w6.alloc (.cells #[.int .i64 0, .int .i64 0, .int .i64 0, .int .i64 0, .int .i64 0] 25) = w7 at *
            have hbs := HBA.out.setCell (p := ⟨g2, 0, none⟩) HG2.out (.int .i64 z)
            obtain ⟨hrs, ⟨v9, cs⟩, fz⟩ := HONE.out _ _ HRA.out
            have cz : w7.cell? ⟨w.heap.size + 2, m, none⟩ = some (.int .i64 z) := HCM.out _ (HRR.out _ HBA.out).2.2.2
            have HRS := Lib.hid hrs
            have HBS := Lib.hid hbs
            clear hrs hbs HRA HBA
            go_wp2
            generalize w7.setCell ⟨g2, 0, none⟩ (.int .i64 z) = w8 at *
            clear hg2 cz cs fz
            obtain ⟨hb4, r1, r2, r3⟩ := HRR.out _ HBS.out
            obtain ⟨p0, p1, p2, p3, p4⟩ := five r1
            obtain ⟨q0, q1, q2, q3, q4⟩ := five r2
            obtain ⟨e0, e1, e2, e3, e4⟩ := five r3
            obtain ⟨f0, f1, f2, f3, f4⟩ := five HRS.out
            have HB4 := Lib.hid hb4
            have Q1 := Lib.hid (regrownC HOC.out w8)
            have Q2 := Lib.hid (regrownC HKC.out w8)
            clear hb4 r1 r2 r3
            refine wp_region_quiet_below (by kernel_rfl) (by kernel_rfl) ?_
            repeat (any_goals (first | go_big_quiet_step (with_reducible first | exact Q1.out _ _ | exact Q2.out _ _) | quiet_step (with_reducible first | exact Q1.out _ _ | exact Q2.out _ _)))
            refine wpQuiet_nil ?_
            intro w5 hw5
            obtain ⟨⟨dq, osq⟩, hw5⟩ := hw5
            have hb5 := below_regrown w8 dq osq
            subst hw5
            have HB5 := Lib.hid (HB4.out.trans (hb5.mono HB4.out.size))
            clear hb5
            go_wp2
            go_ret
            exact ⟨rfl, HB5.out⟩
          · have gc : (cmpT les x0 x1 != 0) = true := by simpa using hc2
            rw [if_neg hc2] at HCMP
            have HCMP2 : Hid (C = cmpT les x0 x1) := HCMP
            generalize cmpT les x0 x1 = C2 at *
            obtain rfl := HCMP2.out
            clear hc2
            obtain ⟨p0, p1, p2, p3, p4⟩ := five r1
            obtain ⟨q0, q1, q2, q3, q4⟩ := five r2
            obtain ⟨e0, e1, e2, e3, e4⟩ := five r3
            obtain ⟨f0, f1, f2, f3, f4⟩ := five HR6.out
            have HB4 := Lib.hid hb4
            have Q1 := Lib.hid (regrownC HOC.out w6)
            have Q2 := Lib.hid (regrownC HLC.out w6)
            clear hb4 r1 r2 r3
            go_wp2
            refine wp_region_quiet_below (by kernel_rfl) (by kernel_rfl) ?_
            repeat (any_goals (first | go_big_quiet_step (with_reducible first | exact Q1.out _ _ | exact Q2.out _ _) | quiet_step (with_reducible first | exact Q1.out _ _ | exact Q2.out _ _)))
            refine wpQuiet_nil ?_
            intro w5 hw5
            obtain ⟨⟨dq, osq⟩, hw5⟩ := hw5
            have hb5 := below_regrown w6 dq osq
            subst hw5
            have HB5 := Lib.hid (HB4.out.trans (hb5.mono HB4.out.size))
            clear hb5
            go_wp2
            go_ret
            exact ⟨rfl, HB5.out⟩
      · have gy : (y != 0) = true := by simpa using hy0
        have HNZ2 : Hid (∀ j, j < i + 1 → colT x2 j ≠ 0) := fun j hj => by
          by_cases e : j = i
          · rw [e, ← hy]; exact hy0
          · exact HNZ.out j (by omega)
        clear hy hy0
        go_wp2
        go_roundw
        case rel => exact ⟨i + 1, by omega, by go_num, HW.out, HNZ2.out⟩
        case measure => simp [intOf]; omega
    · have g1 : decide ((i : Int) < 5) = false := by simp; omega
      have HSTOP : Hid (i = 5 ∨ colT x2 i = 0) := .inl (by omega)
      have HZ : Hid (∀ j, i < j → j < 5 → colT x2 j = 0) := HAFT.out i HNZ.out HSTOP.out
      have HI5 := Lib.hid hi
      rcases Nat.eq_zero_or_pos i with hi0 | hi0
      · have gn : ((i : Int) == 0) = true := by simp; omega
        have gn' : decide ((i : Int) = 0) = true := by simp; omega
        have hC : C = 0 := HC0.out (by
          rcases HSTOP.out with h | h
          · omega
          · rw [hi0] at h; exact h)
        subst hC
        obtain ⟨hb4, r1, r2, r3⟩ := HRR.out _ HW.out
        obtain ⟨p0, p1, p2, p3, p4⟩ := five0 r1
        obtain ⟨q0, q1, q2, q3, q4⟩ := five0 r2
        obtain ⟨e0, e1, e2, e3, e4⟩ := five0 r3
        have HB4 := Lib.hid hb4
        clear hb4 r1 r2 r3 hi0 HNZ HSTOP HZ
        go_wp2_with fail
        refine (HOC.out _).mono ?_; rintro e w5 ⟨rfl, hb5⟩
        have HB5 := Lib.hid (HB4.out.trans (hb5.mono HB4.out.size))
        clear hb5
        go_wp2
        go_ret
        exact ⟨rfl, HB5.out⟩
      · obtain ⟨m, hm⟩ : ∃ m, i = m + 1 := ⟨i - 1, by omega⟩
        have gn : ((i : Int) == 0) = false := by simp; omega
        have gn' : decide ((i : Int) = 0) = false := by simp; omega
        have hm5 : m < 5 := by omega
        have hsub : (i : Int) - 1 = (m : Int) := by omega
        have hwm : IntKind.i64.wrap (m : Int) = (m : Int) := by rw [IntKind.wrap_i64]; omega
        have m0 : (0 : Int) ≤ (m : Int) := by omega
        have m1 : (m : Int) < 5 := by omega
        have hn0 : ∀ j, j ≤ m → colT x2 j ≠ 0 := fun j hj => HNZ.out j (by omega)
        have hz0 : ∀ j, m < j → j < 5 → colT x2 j = 0 := fun j h1 h2 => by
          by_cases e : j = i
          · rcases HSTOP.out with h | h
            · omega
            · rw [e]; exact h
          · exact HZ.out j (by omega) h2
        obtain ⟨f1, f2, hcmp⟩ := first_cmp HF.out hm5 hn0 hz0 x0 x1
        rw [HCC.out] at hcmp
        have HLC := Lib.hid (cmp_any (setO x2 m 0) x0 x1)
        have HKC := Lib.hid (cmp_any (setO tup0 0 (colT x2 m)) x0 x1)
        have HCMP := Lib.hid hcmp
        have HSET : Hid (∀ (W : World) (g : Nat), Row W g 25 [.int .i64 x2.a, .int .i64 x2.b, .int .i64 x2.c, .int .i64 x2.d, .int .i64 x2.e] → Row (W.setCell ⟨g, m, none⟩ (.int .i64 0)) g 25 (arrV (setO x2 m 0)) ∧ (∃ v, W.cell? ⟨g, m, none⟩ = some v) ∧ W.frozen? ⟨g, m, none⟩ = false) := fun W g hr => ⟨by have := hr.set m (.int .i64 0); rwa [show ([.int .i64 x2.a, .int .i64 x2.b, .int .i64 x2.c, .int .i64 x2.d, .int .i64 x2.e] : List Value).set m (.int .i64 0) = arrV (setO x2 m 0) from arr_setO x2 hm5 0] at this, ⟨_, arr_cell (t := x2) hr hm5⟩, hr.free m⟩
        have HCM : Hid (∀ W, Row W (w.heap.size + 2) 25 [.int .i64 x2.a, .int .i64 x2.b, .int .i64 x2.c, .int .i64 x2.d, .int .i64 x2.e] → W.cell? ⟨w.heap.size + 2, m, none⟩ = some (.int .i64 (colT x2 m))) := fun W hr => arr_cell (t := x2) hr hm5
        have HONE : Hid (∀ (W : World) (g : Nat) (z : Int), Row W g 25 [.int .i64 0, .int .i64 0, .int .i64 0, .int .i64 0, .int .i64 0] → Row (W.setCell ⟨g, 0, none⟩ (.int .i64 z)) g 25 (arrV (setO tup0 0 z)) ∧ (∃ v, W.cell? ⟨g, 0, none⟩ = some v) ∧ W.frozen? ⟨g, 0, none⟩ = false) := fun W g z hr => ⟨by have := hr.set 0 (.int .i64 z); exact this, ⟨_, hr.cell 0⟩, hr.free 0⟩
        generalize setO x2 m 0 = les at *
        generalize colT x2 m = z at *
        have HONE := Lib.hid (fun (W : World) (g : Nat) => HONE.out W g z)
        generalize setO tup0 0 z = one at *
        clear f1 f2 hcmp hn0 hz0 hi0 HNZ HSTOP HZ hm5 HAFT HC0 HF HI5 hm
        obtain ⟨hb4, r1, r2, r3⟩ := HRR.out _ HW.out
        obtain ⟨e0, e1, e2, e3, e4⟩ := five0 r3
        have hsz : w.heap.size + 3 ≤ wr.heap.size := Nat.le_trans (Nat.le_of_eq HS1.out.symm) HW.out.size
        have hra : Row (wr.alloc (.cells #[.int .i64 x2.a, .int .i64 x2.b, .int .i64 x2.c, .int .i64 x2.d, .int .i64 x2.e] 25)) wr.heap.size 25 [.int .i64 x2.a, .int .i64 x2.b, .int .i64 x2.c, .int .i64 x2.d, .int .i64 x2.e] := heap_alloc_new _ _
        have hba : Below (w.heap.size + 3) W1 (wr.alloc (.cells #[.int .i64 x2.a, .int .i64 x2.b, .int .i64 x2.c, .int .i64 x2.d, .int .i64 x2.e] 25)) := HW.out.alloc hsz _
        have hgs0 : wr.heap.size < (wr.alloc (.cells #[.int .i64 x2.a, .int .i64 x2.b, .int .i64 x2.c, .int .i64 x2.d, .int .i64 x2.e] 25)).heap.size := by simp
        have HRA := Lib.hid hra
        have HBA := Lib.hid hba
        have HGA := Lib.hid hgs0
        generalize hg : wr.heap.size = g at *
        have HG := Lib.hid hsz
        clear hra hba hb4 r1 r2 r3 HW hgs0
        go_upto_region 9 with (fail)
        generalize wr.alloc (.cells #[.int .i64 x2.a, .int .i64 x2.b, .int .i64 x2.c, .int .i64 x2.d, .int .i64 x2.e] 25) = w4 at *
        have hbs := HBA.out.setCell (p := ⟨g, m, none⟩) HG.out (.int .i64 0)
        obtain ⟨hrs, ⟨v9, cs⟩, fz⟩ := HSET.out _ _ HRA.out
        have hgsz : g < (w4.setCell ⟨g, m, none⟩ (.int .i64 0)).heap.size := by simp; exact HGA.out
        have HRS := Lib.hid hrs
        have HBS := Lib.hid hbs
        have HGS := Lib.hid hgsz
        obtain ⟨hb4, r1, r2, r3⟩ := HRR.out _ hbs
        obtain ⟨p0, p1, p2, p3, p4⟩ := five0 r1
        obtain ⟨q0, q1, q2, q3, q4⟩ := five0 r2
        obtain ⟨j0, j1, j2, j3, j4⟩ := five0 hrs
        clear hrs hbs hgsz HRA HBA HGA hb4 r1 r2 r3 e0 e1 e2 e3 e4
        go_wp2_with fail
        generalize w4.setCell ⟨g, m, none⟩ (.int .i64 0) = w5 at *
        clear hg cs fz
        refine (HLC.out _).mono ?_; rintro e w6 ⟨rfl, hb6⟩
        have HB6 : Hid (Below (w.heap.size + 3) W1 w6) := HBS.out.trans (hb6.mono (by have := HG.out; have := HGS.out; omega))
        have HR6 : Hid (Row w6 g 25 (arrV les)) := HRS.out.below hb6 HGS.out
        have HGS6 : Hid (g < w6.heap.size) := Nat.lt_of_lt_of_le HGS.out hb6.size
        clear hb6 p0 p1 p2 p3 p4 q0 q1 q2 q3 q4 j0 j1 j2 j3 j4 HBS HRS HGS
        obtain ⟨hb4, r1, r2, r3⟩ := HRR.out _ HB6.out
        by_cases hc2 : cmpT les x0 x1 = 0
        · rw [hc2] at HLC
          rw [hc2]
          rw [if_pos hc2] at HCMP
          have hsz6 : w.heap.size + 3 ≤ w6.heap.size := by have := HG.out; have := HGS6.out; omega
          have hra : Row (w6.alloc (.cells #[.int .i64 0, .int .i64 0, .int .i64 0, .int .i64 0, .int .i64 0] 25)) w6.heap.size 25 [.int .i64 0, .int .i64 0, .int .i64 0, .int .i64 0, .int .i64 0] := heap_alloc_new _ _
          have hba : Below (w.heap.size + 3) W1 (w6.alloc (.cells #[.int .i64 0, .int .i64 0, .int .i64 0, .int .i64 0, .int .i64 0] 25)) := HB6.out.alloc hsz6 _
          have HRA := Lib.hid hra
          have HBA := Lib.hid hba
          have HCMP2 : Hid (C = cmpT one x0 x1) := HCMP
          generalize cmpT one x0 x1 = C2 at *
          obtain rfl := HCMP2.out
          generalize hg2 : w6.heap.size = g2 at *
          have HG2 := Lib.hid hsz6
          clear hra hba hb4 r1 r2 r3 hc2
          go_upto_region 13 with (fail)
          generalize w6.alloc (.cells #[.int .i64 0, .int .i64 0, .int .i64 0, .int .i64 0, .int .i64 0] 25) = w7 at *
          have hbs := HBA.out.setCell (p := ⟨g2, 0, none⟩) HG2.out (.int .i64 z)
          obtain ⟨hrs, ⟨v9, cs⟩, fz⟩ := HONE.out _ _ HRA.out
          have cz : w7.cell? ⟨w.heap.size + 2, m, none⟩ = some (.int .i64 z) := HCM.out _ (HRR.out _ HBA.out).2.2.2
          have HRS := Lib.hid hrs
          have HBS := Lib.hid hbs
          clear hrs hbs HRA HBA
          go_wp2
          generalize w7.setCell ⟨g2, 0, none⟩ (.int .i64 z) = w8 at *
          clear hg2 cz cs fz
          obtain ⟨hb4, r1, r2, r3⟩ := HRR.out _ HBS.out
          obtain ⟨p0, p1, p2, p3, p4⟩ := five r1
          obtain ⟨q0, q1, q2, q3, q4⟩ := five r2
          obtain ⟨e0, e1, e2, e3, e4⟩ := five r3
          obtain ⟨f0, f1, f2, f3, f4⟩ := five HRS.out
          have HB4 := Lib.hid hb4
          have Q1 := Lib.hid (regrownC HOC.out w8)
          have Q2 := Lib.hid (regrownC HKC.out w8)
          clear hb4 r1 r2 r3
          refine wp_region_quiet_below (by kernel_rfl) (by kernel_rfl) ?_
          repeat (any_goals (first | go_big_quiet_step (with_reducible first | exact Q1.out _ _ | exact Q2.out _ _) | quiet_step (with_reducible first | exact Q1.out _ _ | exact Q2.out _ _)))
          refine wpQuiet_nil ?_
          intro w5 hw5
          obtain ⟨⟨dq, osq⟩, hw5⟩ := hw5
          have hb5 := below_regrown w8 dq osq
          subst hw5
          have HB5 := Lib.hid (HB4.out.trans (hb5.mono HB4.out.size))
          clear hb5
          go_wp2
          go_ret
          exact ⟨rfl, HB5.out⟩
        · have gc : (cmpT les x0 x1 != 0) = true := by simpa using hc2
          rw [if_neg hc2] at HCMP
          have HCMP2 : Hid (C = cmpT les x0 x1) := HCMP
          generalize cmpT les x0 x1 = C2 at *
          obtain rfl := HCMP2.out
          clear hc2
          obtain ⟨p0, p1, p2, p3, p4⟩ := five r1
          obtain ⟨q0, q1, q2, q3, q4⟩ := five r2
          obtain ⟨e0, e1, e2, e3, e4⟩ := five r3
          obtain ⟨f0, f1, f2, f3, f4⟩ := five HR6.out
          have HB4 := Lib.hid hb4
          have Q1 := Lib.hid (regrownC HOC.out w6)
          have Q2 := Lib.hid (regrownC HLC.out w6)
          clear hb4 r1 r2 r3
          go_wp2
          refine wp_region_quiet_below (by kernel_rfl) (by kernel_rfl) ?_
          repeat (any_goals (first | go_big_quiet_step (with_reducible first | exact Q1.out _ _ | exact Q2.out _ _) | quiet_step (with_reducible first | exact Q1.out _ _ | exact Q2.out _ _)))
          refine wpQuiet_nil ?_
          intro w5 hw5
          obtain ⟨⟨dq, osq⟩, hw5⟩ := hw5
          have hb5 := below_regrown w6 dq osq
          subst hw5
          have HB5 := Lib.hid (HB4.out.trans (hb5.mono HB4.out.size))
          clear hb5
          go_wp2
          go_ret
          exact ⟨rfl, HB5.out⟩

set_option maxRecDepth 100000 in
theorem lifted (os : Os) (started : os.Started) (H : Type) (enc : TypeId × Value → H) :
    ReturnsInHanded {} Try.checked os 7 .any (Rows.tupleFirstSpec.pre6 enc Try.prog Try.f7 Rows.tupleFirstRow.domain false) (Rows.tupleFirstSpec.post enc Try.prog Try.f7 false true false false) := by
  refine returnsInHanded_of_change (C := Try.checked) own started (by kernel_rfl) Try.func7
    (ChangeSpec.witness6 (enc := enc) (C := Try.checked) false ⟨#[], #[.agg #[.int .i64 0, .int .i64 0, .int .i64 0, .int .i64 0, .int .i64 0], .agg #[.int .i64 0, .int .i64 0, .int .i64 0, .int .i64 0, .int .i64 0], .agg #[.int .i64 0, .int .i64 0, .int .i64 0, .int .i64 0, .int .i64 0]], []⟩ 8 (by kernel_rfl) (by kernel_rfl) (by kernel_rfl) (by kernel_rfl)) ?_
  intro W base args ds gs before hval0 hW hcnd _
  have hval : ∀ (j : Nat) t v, Try.f7.params[j]? = some t → args[j]? = some v → Value.okWide Try.prog W .any base t v := hval0
  have hW' := hW
  obtain ⟨p, q, hA0, hV, rfl, hfz, hnd⟩ := hW
  have hA : DataW.TrodAll enc Try.prog W 0 (fun _ => true) true Try.f7.params.toList args.toList ds p := hA0
  rw [Try.params7] at hA hval
  obtain ⟨v0, vs0, d0, ds0, p0, q0, hargs, rfl, rfl, h0, r0⟩ := trodAll_cons hA
  obtain ⟨v1, vs1, d1, ds1, p1, q1, rfl, rfl, rfl, h1, r1⟩ := trodAll_cons r0
  obtain ⟨v2, vs2, d2, ds2, p2, q2, rfl, rfl, rfl, h2, r2⟩ := trodAll_cons r1
  obtain ⟨rfl, rfl, rfl⟩ := trodAll_nil r2
  obtain rfl : args = #[v0, v1, v2] := by cases args; simp_all
  obtain ⟨rfl, rfl⟩ := trodVars_none hV
  have k0 := h0
  have lt0 : ∀ x ∈ p0, x.block < W.heap.size := by obtain ⟨m, hm⟩ := k0; exact DataW.trod_lt m _ _ _ hm
  have k1 := h1
  have lt1 : ∀ x ∈ p1, x.block < W.heap.size := by obtain ⟨m, hm⟩ := k1; exact DataW.trod_lt m _ _ _ hm
  have k2 := h2
  have lt2 : ∀ x ∈ p2, x.block < W.heap.size := by obtain ⟨m, hm⟩ := k2; exact DataW.trod_lt m _ _ _ hm
  obtain ⟨x0, rfl, y0⟩ := open_tup Try.underlying23 Try.underlying2 (by kernel_rfl) (by kernel_rfl) (hval 0 23 v0 rfl rfl) h0
  obtain ⟨x1, rfl, y1⟩ := open_tup Try.underlying23 Try.underlying2 (by kernel_rfl) (by kernel_rfl) (hval 1 23 v1 rfl rfl) h1
  obtain ⟨x2, rfl, y2⟩ := open_tup Try.underlying25 Try.underlying3 (by kernel_rfl) (by kernel_rfl) (hval 2 25 v2 rfl rfl) h2
  clear hA0 hval0
  refine (walk x0 x1 x2 W y0 y1 y2).mono fun e W' ⟨he, bel⟩ => ?_
  subst he
  exact ⟨_, rfl, _, _, _, [], _, [], hW', trodAll_mk1 (shut_bool Try.underlying4 _), (trodAll_cons_mk (Below.trod laidOut (by kernel_rfl) (of_decide_eq_true (by kernel_rfl)) k0 bel lt0) (trodAll_cons_mk (Below.trod laidOut (by kernel_rfl) (of_decide_eq_true (by kernel_rfl)) k1 bel lt1) (trodAll_cons_mk (Below.trod laidOut (by kernel_rfl) (of_decide_eq_true (by kernel_rfl)) k2 bel lt2) trodAll_mk0))), rfl, bel.frame _, fun h => by cases h⟩

theorem over : Rows.tupleFirstRow.holds Try.pinned (OpenSpec.ofChange Rows.tupleFirstSpec) :=
  OpenClaim.holds_of_wide 7 Try.f7 rfl rfl rfl rfl rfl rfl rfl ⟨rfl, rfl, rfl, rfl, rfl⟩ rfl rfl rfl rfl rfl (by kernel_rfl) Try.func7 (by kernel_rfl)
    (of_decide_eq_true (by kernel_rfl)) (by unfold Func.isWrapper; first | (rw [if_pos (by decide +kernel)]; kernel_rfl) | (rw [if_neg (by decide +kernel)]; exact ⟨rfl, rfl⟩))
    (fun os started H enc _ => lifted os started H enc)

theorem proved : Rows.TupleFirstSaid := over
end Go.Proofs.Ytoimpiimlekakaa.tupleFirst
