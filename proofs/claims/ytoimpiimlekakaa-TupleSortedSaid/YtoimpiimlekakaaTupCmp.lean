/- The code's Compare. -/
import Derived.Test.YtoimpiimlekakaaTupFn
import Derived.BigQuiet
namespace Go.Proofs.Ytoimpiimlekakaa
open Go.ChangeShapes Go.WideShapes Go.ChangeAt Go.RowKit

set_option maxHeartbeats 2000000 in
set_option maxRecDepth 100000 in
theorem cmp0_any (o a b : Tup) (hf : Fm o) (w : World) : Calls Try.prog 20 #[.agg #[.int .i64 a.a, .int .i64 a.b, .int .i64 a.c, .int .i64 a.d, .int .i64 a.e], .agg #[.int .i64 b.a, .int .i64 b.b, .int .i64 b.c, .int .i64 b.d, .int .i64 b.e], .agg #[.int .i64 o.a, .int .i64 o.b, .int .i64 o.c, .int .i64 o.d, .int .i64 o.e]] w fun e w' => e = .returned (.int .i64 (cmpT o a b)) ∧ Below w.heap.size w w' := by
  obtain ⟨W1, hW1, hb1, s1, r1, r2, r3⟩ := boxes3 w [.int .i64 a.a, .int .i64 a.b, .int .i64 a.c, .int .i64 a.d, .int .i64 a.e] [.int .i64 b.a, .int .i64 b.b, .int .i64 b.c, .int .i64 b.d, .int .i64 b.e] [.int .i64 o.a, .int .i64 o.b, .int .i64 o.c, .int .i64 o.d, .int .i64 o.e] 23 23 25
  have HW1 := Lib.hid hW1
  have HB := Lib.hid hb1
  have HA : Hid (∀ q i, i < 5 → (W1.drewN q).cell? ⟨w.heap.size, i, none⟩ = some (.int .i64 (colT a i))) := fun q i hi => arr_cell r1 hi
  have HBc : Hid (∀ q i, i < 5 → (W1.drewN q).cell? ⟨w.heap.size + 1, i, none⟩ = some (.int .i64 (colT b i))) := fun q i hi => arr_cell r2 hi
  have d0 : W1.cell? ⟨w.heap.size + 2, 0, none⟩ = some (.int .i64 o.a) := r3.cell 0
  have d1 : W1.cell? ⟨w.heap.size + 2, 1, none⟩ = some (.int .i64 o.b) := r3.cell 1
  have d2 : W1.cell? ⟨w.heap.size + 2, 2, none⟩ = some (.int .i64 o.c) := r3.cell 2
  have d3 : W1.cell? ⟨w.heap.size + 2, 3, none⟩ = some (.int .i64 o.d) := r3.cell 3
  have d4 : W1.cell? ⟨w.heap.size + 2, 4, none⟩ = some (.int .i64 o.e) := r3.cell 4
  have hres : cmpT o a b = cmpL o.cols a b := by unfold cmpT; rw [if_pos hf]
  have HRNG : Hid (∀ i, i < 5 → -5 ≤ colT o i ∧ colT o i ≤ 5) := fun i hi => (hf i hi).1
  have HIX : Hid (∀ i : Nat, i < 5 → ∀ W : World, (Instr.index 25 (.agg #[.int .i64 o.a, .int .i64 o.b, .int .i64 o.c, .int .i64 o.d, .int .i64 o.e]) (.int .i64 (i : Int))).run Try.prog W = .ok (.int .i64 (colT o i)) W) := fun i hi W => index_any _ rfl o hi W
  rw [hres]
  have HST : Hid (cmpL (o.cols.drop 0) a b = cmpL o.cols a b) := rfl
  generalize cmpL o.cols a b = res at *
  clear hf hres r1 r2 r3 hb1 s1 hW1
  go_enter Try.func20, Try.ntmps20
  go_upto_region 1 with (fail)
  rw [← HW1.out]
  clear HW1
  go_wp2_with fail
  go_loopw [11] (fun iv wr => ∃ i q : Nat, i ≤ 5 ∧ iv = .int .i64 (i : Int) ∧ W1.drewN q = wr ∧ Hid (cmpL (o.cols.drop i) a b = res)) (fun iv _ => 5 - (intOf iv).toNat)
  case atStart => exact ⟨0, 0, by omega, rfl, rfl, HST.out⟩
  case round =>
    obtain ⟨i, q, hi, rfl, rfl, HC⟩ := hrel
    clear HST
    by_cases hlt : i < 5
    · have g1 : decide ((i : Int) < 5) = true := by simp; omega
      have i0 : (0 : Int) ≤ (i : Int) := by omega
      have i1 : (i : Int) < 5 := by omega
      obtain ⟨z, hz⟩ : ∃ z, z = colT o i := ⟨_, rfl⟩
      have HRZ : Hid (-5 ≤ z ∧ z ≤ 5) := by rw [hz]; exact HRNG.out i hlt
      have HC2 : Hid (cmpL (z :: o.cols.drop (i + 1)) a b = res) := by rw [hz, ← drop_at hlt]; exact HC.out
      have hix : ∀ W : World, (Instr.index 25 (.agg #[.int .i64 o.a, .int .i64 o.b, .int .i64 o.c, .int .i64 o.d, .int .i64 o.e]) (.int .i64 (i : Int))).run Try.prog W = .ok (.int .i64 z) W := fun W => by rw [hz]; exact HIX.out i hlt W
      clear HC hz
      by_cases hz0 : z = 0
      · have gz : (z == 0) = true := by simpa using hz0
        have gz' : decide (z = 0) = true := by simpa using hz0
        have hr : res = 0 := by rw [← HC2.out, hz0, cmpL_stop]
        subst hr
        clear hz0
        go_wp2
        go_ret
        exact ⟨rfl, below_dN HB.out _⟩
      · have gz : (z == 0) = false := by simpa using hz0
        have gz' : decide (z = 0) = false := by simpa using hz0
        have hk5 := kol_lt hz0 HRZ.out
        have HQ : Hid (∀ q r, Calls Try.prog 18 #[.int .i64 z] (W1.drewN (q + r)) fun e w'' => e = .returned (.int .i64 (kol z : Nat)) ∧ ∃ n, w'' = W1.drewN (q + n)) := fun q r => by
          have := col_any z HRZ.out (W1.drewN (q + r))
          rw [clm_kol hz0] at this
          exact this.mono fun _ _ ⟨he, hw⟩ => ⟨he, r, hw⟩
        obtain ⟨x, hx⟩ : ∃ x, x = colT a (kol z) := ⟨_, rfl⟩
        obtain ⟨y, hy⟩ : ∃ y, y = colT b (kol z) := ⟨_, rfl⟩
        have yx : ∀ q, (W1.drewN q).cell? ⟨w.heap.size, kol z, none⟩ = some (.int .i64 x) := fun q => by rw [hx]; exact HA.out q _ hk5
        have yy : ∀ q, (W1.drewN q).cell? ⟨w.heap.size + 1, kol z, none⟩ = some (.int .i64 y) := fun q => by rw [hy]; exact HBc.out q _ hk5
        have HEQ : Hid (x = y → cmpL (o.cols.drop (i + 1)) a b = res) := fun h => by rw [← HC2.out, cmpL_eq hz0 _ (by rw [← hx, ← hy]; exact h)]
        have HLT : Hid (x < y → (if 0 < z then (-1 : Int) else 1) = res) := fun h => by rw [← HC2.out, cmpL_lt hz0 _ (by rw [← hx, ← hy]; exact h)]
        have HGT : Hid (y < x → (if 0 < z then (1 : Int) else -1) = res) := fun h => by rw [← HC2.out, cmpL_gt hz0 _ (by rw [← hx, ← hy]; exact h)]
        have HQC : Hid (∀ v, cmpI x y = v → ∀ q r, Calls Try.prog 21 #[.int .i64 x, .int .i64 y] (W1.drewN (q + r)) fun e w'' => e = .returned (.int .i64 v) ∧ ∃ n, w'' = W1.drewN (q + n)) := fun v hv q r => by
          have := icmp_any x y (W1.drewN (q + r))
          rw [hv] at this
          exact this.mono fun _ _ ⟨he, hw⟩ => ⟨he, r, hw⟩
        have k0 : (0 : Int) ≤ ((kol z : Nat) : Int) := by omega
        have k1 : ((kol z : Nat) : Int) < 5 := by omega
        have hzn : 0 < z ∨ z < 0 := by omega
        generalize kol z = c at *
        clear hx hy hz0 HC2 HA HBc
        rcases Int.lt_trichotomy x y with h | h | h
        · have HQV := Lib.hid (HQC.out (-1) (by unfold cmpI; rw [if_pos h]))
          have hr := HLT.out h
          rcases hzn with hp | hp
          · rw [if_pos hp] at hr
            have gp : decide (z < 0) = false := by simp; omega
            subst hr
            clear h hp HLT HGT HEQ HQC
            go_wp2
            go_quiet ((with_reducible first | exact HQ.out _ _ | exact HQV.out _ _))
            go_wp2
            go_ret
            exact ⟨rfl, by first | exact below_dN HB.out _ | exact below_dN (below_dN HB.out _) _⟩
          · rw [if_neg (by omega)] at hr
            have gp : decide (z < 0) = true := by simpa using hp
            subst hr
            clear h hp HLT HGT HEQ HQC
            go_wp2
            go_quiet ((with_reducible first | exact HQ.out _ _ | exact HQV.out _ _))
            go_wp2
            go_ret
            exact ⟨rfl, by first | exact below_dN HB.out _ | exact below_dN (below_dN HB.out _) _⟩
        · have HQV := Lib.hid (HQC.out 0 (by unfold cmpI; rw [if_neg (by omega), if_pos h]))
          have HN := Lib.hid (HEQ.out h)
          clear h HLT HGT HEQ HQC hzn
          go_wp2
          go_quiet ((with_reducible first | exact HQ.out _ _ | exact HQV.out _ _))
          go_wp2
          go_roundw
          case rel => exact ⟨i + 1, _, by omega, by go_num, rfl, HN.out⟩
          case measure => simp [intOf]; omega
        · have HQV := Lib.hid (HQC.out 1 (by unfold cmpI; rw [if_neg (by omega), if_neg (by omega)]))
          have hr := HGT.out h
          rcases hzn with hp | hp
          · rw [if_pos hp] at hr
            have gp : decide (z < 0) = false := by simp; omega
            subst hr
            clear h hp HLT HGT HEQ HQC
            go_wp2
            go_quiet ((with_reducible first | exact HQ.out _ _ | exact HQV.out _ _))
            go_wp2
            go_ret
            exact ⟨rfl, by first | exact below_dN HB.out _ | exact below_dN (below_dN HB.out _) _⟩
          · rw [if_neg (by omega)] at hr
            have gp : decide (z < 0) = true := by simpa using hp
            subst hr
            clear h hp HLT HGT HEQ HQC
            go_wp2
            go_quiet ((with_reducible first | exact HQ.out _ _ | exact HQV.out _ _))
            go_wp2
            go_ret
            exact ⟨rfl, by first | exact below_dN HB.out _ | exact below_dN (below_dN HB.out _) _⟩
    · obtain rfl : i = 5 := by omega
      have hr : res = 0 := by rw [← HC.out, drop_end]; rfl
      subst hr
      clear HC
      go_wp2
      go_ret
      exact ⟨rfl, below_dN HB.out _⟩
set_option maxHeartbeats 2000000 in
set_option maxRecDepth 100000 in
theorem cmp_any (o a b : Tup) (w : World) : Calls Try.prog 11 #[.agg #[.int .i64 a.a, .int .i64 a.b, .int .i64 a.c, .int .i64 a.d, .int .i64 a.e], .agg #[.int .i64 b.a, .int .i64 b.b, .int .i64 b.c, .int .i64 b.d, .int .i64 b.e], .agg #[.int .i64 o.a, .int .i64 o.b, .int .i64 o.c, .int .i64 o.d, .int .i64 o.e]] w fun e w' => e = .returned (.int .i64 (cmpT o a b)) ∧ Below w.heap.size w w' := by
  obtain ⟨W1, hW1, hb1, s1, r1, r2, r3⟩ := boxes3 w [.int .i64 a.a, .int .i64 a.b, .int .i64 a.c, .int .i64 a.d, .int .i64 a.e] [.int .i64 b.a, .int .i64 b.b, .int .i64 b.c, .int .i64 b.d, .int .i64 b.e] [.int .i64 o.a, .int .i64 o.b, .int .i64 o.c, .int .i64 o.d, .int .i64 o.e] 23 23 25
  have HW1 := Lib.hid hW1
  have HB := Lib.hid hb1
  have HSZ := Lib.hid s1
  have HR1 := Lib.hid r1
  have HR2 := Lib.hid r2
  have HR3 := Lib.hid r3
  have d0 : W1.cell? ⟨w.heap.size + 2, 0, none⟩ = some (.int .i64 o.a) := r3.cell 0
  have d1 : W1.cell? ⟨w.heap.size + 2, 1, none⟩ = some (.int .i64 o.b) := r3.cell 1
  have d2 : W1.cell? ⟨w.heap.size + 2, 2, none⟩ = some (.int .i64 o.c) := r3.cell 2
  have d3 : W1.cell? ⟨w.heap.size + 2, 3, none⟩ = some (.int .i64 o.d) := r3.cell 3
  have d4 : W1.cell? ⟨w.heap.size + 2, 4, none⟩ = some (.int .i64 o.e) := r3.cell 4
  have HFO := Lib.hid (formed_any o)
  by_cases hf : Fm o
  · have HCM := Lib.hid (cmp0_any o a b hf)
    rw [decide_eq_true hf] at HFO
    generalize cmpT o a b = res at *
    clear hf r1 r2 r3 hb1 s1 hW1
    go_enter Try.func11, Try.ntmps11
    go_upto_region 1 with (fail)
    rw [← HW1.out]
    clear HW1
    go_wp2_with fail
    refine (HFO.out _).mono ?_; rintro e w2 ⟨rfl, hb⟩
    have hb3 : Below (w.heap.size + 3) W1 w2 := hb.mono (Nat.le_of_eq HSZ.out.symm)
    have HB2 : Hid (Below w.heap.size w w2) := HB.out.trans (hb.mono (by have := HSZ.out; omega))
    have hr1 := HR1.out.below hb3 (by omega)
    have hr2 := HR2.out.below hb3 (by omega)
    have hr3 := HR3.out.below hb3 (by omega)
    have q0 : w2.cell? ⟨w.heap.size, 0, none⟩ = some (.int .i64 a.a) := hr1.cell 0
    have q1 : w2.cell? ⟨w.heap.size, 1, none⟩ = some (.int .i64 a.b) := hr1.cell 1
    have q2 : w2.cell? ⟨w.heap.size, 2, none⟩ = some (.int .i64 a.c) := hr1.cell 2
    have q3 : w2.cell? ⟨w.heap.size, 3, none⟩ = some (.int .i64 a.d) := hr1.cell 3
    have q4 : w2.cell? ⟨w.heap.size, 4, none⟩ = some (.int .i64 a.e) := hr1.cell 4
    have p0 : w2.cell? ⟨w.heap.size + 1, 0, none⟩ = some (.int .i64 b.a) := hr2.cell 0
    have p1 : w2.cell? ⟨w.heap.size + 1, 1, none⟩ = some (.int .i64 b.b) := hr2.cell 1
    have p2 : w2.cell? ⟨w.heap.size + 1, 2, none⟩ = some (.int .i64 b.c) := hr2.cell 2
    have p3 : w2.cell? ⟨w.heap.size + 1, 3, none⟩ = some (.int .i64 b.d) := hr2.cell 3
    have p4 : w2.cell? ⟨w.heap.size + 1, 4, none⟩ = some (.int .i64 b.e) := hr2.cell 4
    have e0 : w2.cell? ⟨w.heap.size + 2, 0, none⟩ = some (.int .i64 o.a) := hr3.cell 0
    have e1 : w2.cell? ⟨w.heap.size + 2, 1, none⟩ = some (.int .i64 o.b) := hr3.cell 1
    have e2 : w2.cell? ⟨w.heap.size + 2, 2, none⟩ = some (.int .i64 o.c) := hr3.cell 2
    have e3 : w2.cell? ⟨w.heap.size + 2, 3, none⟩ = some (.int .i64 o.d) := hr3.cell 3
    have e4 : w2.cell? ⟨w.heap.size + 2, 4, none⟩ = some (.int .i64 o.e) := hr3.cell 4
    have HS2 : Hid (w.heap.size ≤ w2.heap.size) := HB2.out.size
    clear hb hb3 hr1 hr2 hr3 HR1 HR2 HR3 d0 d1 d2 d3 d4
    go_wp2_with fail
    refine (HCM.out _).mono ?_; rintro e w3 ⟨rfl, hb⟩
    have HB3 : Hid (Below w.heap.size w w3) := HB2.out.trans (hb.mono HS2.out)
    clear hb
    go_wp2
    go_ret
    exact ⟨rfl, HB3.out⟩
  · have hres : cmpT o a b = 0 := by unfold cmpT; rw [if_neg hf]
    rw [decide_eq_false hf] at HFO
    rw [hres]
    clear hf hres r1 r2 r3 hb1 s1 hW1
    go_enter Try.func11, Try.ntmps11
    go_upto_region 1 with (fail)
    rw [← HW1.out]
    clear HW1
    go_wp2_with fail
    refine (HFO.out _).mono ?_; rintro e w2 ⟨rfl, hb⟩
    have HB2 : Hid (Below w.heap.size w w2) := HB.out.trans (hb.mono (by have := HSZ.out; omega))
    clear hb
    go_wp2
    go_ret
    exact ⟨rfl, HB2.out⟩
end Go.Proofs.Ytoimpiimlekakaa
