/- The code's Cut. -/
import Derived.Test.YtoimpiimlekakaaTupFn
import Derived.Test.YtoimpiimlekakaaTupCut
namespace Go.Proofs.Ytoimpiimlekakaa
open Go.ChangeShapes Go.WideShapes Go.ChangeAt Go.RowKit

set_option maxHeartbeats 4000000 in
set_option maxRecDepth 100000 in
theorem cut_any (o t : Tup) (w : World) : Calls Try.prog 13 #[.agg #[.int .i64 t.a, .int .i64 t.b, .int .i64 t.c, .int .i64 t.d, .int .i64 t.e], .agg #[.int .i64 o.a, .int .i64 o.b, .int .i64 o.c, .int .i64 o.d, .int .i64 o.e]] w fun e w' => e = .returned (.agg #[.int .i64 (cutT o t).a, .int .i64 (cutT o t).b, .int .i64 (cutT o t).c, .int .i64 (cutT o t).d, .int .i64 (cutT o t).e]) ∧ Below w.heap.size w w' := by
  obtain ⟨W1, hW1, hb1, s1, r1, r2, r3, r4⟩ := boxes4 w [.int .i64 t.a, .int .i64 t.b, .int .i64 t.c, .int .i64 t.d, .int .i64 t.e] [.int .i64 o.a, .int .i64 o.b, .int .i64 o.c, .int .i64 o.d, .int .i64 o.e] [.int .i64 0, .int .i64 0, .int .i64 0, .int .i64 0, .int .i64 0] [.int .i64 0, .int .i64 0, .int .i64 0, .int .i64 0, .int .i64 0] 23 25 23 23
  have HW1 := Lib.hid hW1
  have HSZ := Lib.hid s1
  have HR3 := Lib.hid r3
  have HR0 : Hid (Row W1 (w.heap.size + 3) 23 (arrV (tupL []))) := r4
  have KC : Hid (∀ W, Below (w.heap.size + 3) W1 W → Below w.heap.size w W ∧ ∀ i, i < 5 → W.cell? ⟨w.heap.size, i, none⟩ = some (.int .i64 (colT t i))) := fun W hb =>
    ⟨hb1.trans (hb.mono (by omega)), fun i hi => arr_cell (r1.below hb (by omega)) hi⟩
  have d0 : W1.cell? ⟨w.heap.size + 1, 0, none⟩ = some (.int .i64 o.a) := r2.cell 0
  have d1 : W1.cell? ⟨w.heap.size + 1, 1, none⟩ = some (.int .i64 o.b) := r2.cell 1
  have d2 : W1.cell? ⟨w.heap.size + 1, 2, none⟩ = some (.int .i64 o.c) := r2.cell 2
  have d3 : W1.cell? ⟨w.heap.size + 1, 3, none⟩ = some (.int .i64 o.d) := r2.cell 3
  have d4 : W1.cell? ⟨w.heap.size + 1, 4, none⟩ = some (.int .i64 o.e) := r2.cell 4
  have HRO := Lib.hid r2
  have HFO := Lib.hid (formed_any o)
  have HIX : Hid (∀ i : Nat, i < 5 → ∀ W : World, (Instr.index 25 (.agg #[.int .i64 o.a, .int .i64 o.b, .int .i64 o.c, .int .i64 o.d, .int .i64 o.e]) (.int .i64 (i : Int))).run Try.prog W = .ok (.int .i64 (colT o i)) W) := fun i hi W => index_any _ rfl o hi W
  have HEND : Hid (∀ (W : World) (u : Tup), Below (w.heap.size + 3) W1 W → Row W (w.heap.size + 2) 23 (arrV tup0) → Row (((((W.setCell ⟨w.heap.size + 2, 0, none⟩ (.int .i64 u.a)).setCell ⟨w.heap.size + 2, 1, none⟩ (.int .i64 u.b)).setCell ⟨w.heap.size + 2, 2, none⟩ (.int .i64 u.c)).setCell ⟨w.heap.size + 2, 3, none⟩ (.int .i64 u.d)).setCell ⟨w.heap.size + 2, 4, none⟩ (.int .i64 u.e)) (w.heap.size + 2) 23 (arrV u) ∧ Below w.heap.size w (((((W.setCell ⟨w.heap.size + 2, 0, none⟩ (.int .i64 u.a)).setCell ⟨w.heap.size + 2, 1, none⟩ (.int .i64 u.b)).setCell ⟨w.heap.size + 2, 2, none⟩ (.int .i64 u.c)).setCell ⟨w.heap.size + 2, 3, none⟩ (.int .i64 u.d)).setCell ⟨w.heap.size + 2, 4, none⟩ (.int .i64 u.e))) := fun W u hb hr => by
    refine ⟨set5c hr (.int .i64 u.a) (.int .i64 u.b) (.int .i64 u.c) (.int .i64 u.d) (.int .i64 u.e), ?_⟩
    exact (((((KC.out _ hb).1.setCell (p := ⟨w.heap.size + 2, 0, none⟩) (by simp) _).setCell (p := ⟨w.heap.size + 2, 1, none⟩) (by simp) _).setCell (p := ⟨w.heap.size + 2, 2, none⟩) (by simp) _).setCell (p := ⟨w.heap.size + 2, 3, none⟩) (by simp) _).setCell (p := ⟨w.heap.size + 2, 4, none⟩) (by simp) _
  by_cases hf : Fm o
  · rw [decide_eq_true hf] at HFO
    have HRNG : Hid (∀ i, i < 5 → -5 ≤ colT o i ∧ colT o i ≤ 5) := fun i hi => (hf i hi).1
    have HF1 : Hid (∀ (i : Nat) (l : List Int), i ≤ 5 → l = (o.cols.take i).map (fun k => colT t (kol k)) → (∀ j, j < i → colT o j ≠ 0) → (i = 5 ∨ colT o i = 0) → tupL l = cutT o t) := fun i l hi hl h1 h2 => by
      unfold cutT; rw [if_pos hf, cut_stop o t i hi h1 h2, hl]
    generalize cutT o t = u at *
    clear hf r1 r2 r3 r4 hb1 s1 hW1
    go_enter Try.func13, Try.ntmps13
    go_upto_region 2 with (fail)
    rw [← HW1.out]
    clear HW1
    go_wp2_with fail
    refine (HFO.out _).mono ?_; rintro e w1 ⟨rfl, hb⟩
    have HW2 : Hid (Below (w.heap.size + 4) W1 w1) := hb.mono (Nat.le_of_eq HSZ.out.symm)
    have hro := HRO.out.below HW2.out (by omega)
    have e0 : w1.cell? ⟨w.heap.size + 1, 0, none⟩ = some (.int .i64 o.a) := hro.cell 0
    have e1 : w1.cell? ⟨w.heap.size + 1, 1, none⟩ = some (.int .i64 o.b) := hro.cell 1
    have e2 : w1.cell? ⟨w.heap.size + 1, 2, none⟩ = some (.int .i64 o.c) := hro.cell 2
    have e3 : w1.cell? ⟨w.heap.size + 1, 3, none⟩ = some (.int .i64 o.d) := hro.cell 3
    have e4 : w1.cell? ⟨w.heap.size + 1, 4, none⟩ = some (.int .i64 o.e) := hro.cell 4
    clear hro hb d0 d1 d2 d3 d4 HRO HFO
    go_wp2_with fail
    go_loopw [13] (fun iv wr => ∃ (i : Nat) (l : List Int), i ≤ 5 ∧ iv = .int .i64 (i : Int) ∧ Hid (Below (w.heap.size + 3) W1 wr) ∧ Hid (Row wr (w.heap.size + 3) 23 (arrV (tupL l))) ∧ Hid (l = (o.cols.take i).map fun k => colT t (kol k)) ∧ Hid (∀ j, j < i → colT o j ≠ 0)) (fun iv _ => 5 - (intOf iv).toNat)
    case atStart => exact ⟨0, [], by omega, rfl, HW2.out.mono (by omega), HR0.out.below HW2.out (by omega), rfl, fun j hj => by omega⟩
    case round =>
      obtain ⟨i, l, hi, rfl, HW, HR, HL, HN⟩ := hrel
      clear HR0 HW2 HSZ
      by_cases hlt : i < 5
      · have g1 : decide ((i : Int) < 5) = true := by simp; omega
        have i0 : (0 : Int) ≤ (i : Int) := by omega
        have i1 : (i : Int) < 5 := by omega
        obtain ⟨z, hz⟩ : ∃ z, z = colT o i := ⟨_, rfl⟩
        have hix : ∀ W : World, (Instr.index 25 (.agg #[.int .i64 o.a, .int .i64 o.b, .int .i64 o.c, .int .i64 o.d, .int .i64 o.e]) (.int .i64 (i : Int))).run Try.prog W = .ok (.int .i64 z) W := fun W => by rw [hz]; exact HIX.out i hlt W
        by_cases hz0 : z = 0
        · have gz : (z == 0) = true := by simpa using hz0
          have gz' : decide (z = 0) = true := by simpa using hz0
          have HRX : Hid (Row wr (w.heap.size + 3) 23 (arrV u)) := by
            have := HR.out
            rw [HF1.out i l hi HL.out HN.out (.inr (by rw [← hz]; exact hz0))] at this
            exact this
          clear HR HL HN HF1 HRNG hz hz0
          have hrx := HRX.out
          have h2x := HR3.out.below HW.out (by omega)
          have q0 : wr.cell? ⟨w.heap.size + 3, 0, none⟩ = some (.int .i64 u.a) := hrx.cell 0
          have q1 : wr.cell? ⟨w.heap.size + 3, 1, none⟩ = some (.int .i64 u.b) := hrx.cell 1
          have q2 : wr.cell? ⟨w.heap.size + 3, 2, none⟩ = some (.int .i64 u.c) := hrx.cell 2
          have q3 : wr.cell? ⟨w.heap.size + 3, 3, none⟩ = some (.int .i64 u.d) := hrx.cell 3
          have q4 : wr.cell? ⟨w.heap.size + 3, 4, none⟩ = some (.int .i64 u.e) := hrx.cell 4
          have p0 : wr.cell? ⟨w.heap.size + 2, 0, none⟩ = some (.int .i64 0) := h2x.cell 0
          have p1 : wr.cell? ⟨w.heap.size + 2, 1, none⟩ = some (.int .i64 0) := h2x.cell 1
          have p2 : wr.cell? ⟨w.heap.size + 2, 2, none⟩ = some (.int .i64 0) := h2x.cell 2
          have p3 : wr.cell? ⟨w.heap.size + 2, 3, none⟩ = some (.int .i64 0) := h2x.cell 3
          have p4 : wr.cell? ⟨w.heap.size + 2, 4, none⟩ = some (.int .i64 0) := h2x.cell 4
          have z0 := h2x.free 0
          have z1 := h2x.free 1
          have z2 := h2x.free 2
          have z3 := h2x.free 3
          have z4 := h2x.free 4
          have H5 := Lib.hid (HEND.out wr u HW.out h2x)
          clear hrx h2x HRX HW HR3
          go_wp2
          have r0 := H5.out.1.cell 0
          have r1 := H5.out.1.cell 1
          have r2 := H5.out.1.cell 2
          have r3 := H5.out.1.cell 3
          have r4 := H5.out.1.cell 4
          simp only [arrV, List.getElem?_cons_zero, List.getElem?_cons_succ] at r0 r1 r2 r3 r4
          exact bodyPost_ret (v := .agg #[.int .i64 u.a, .int .i64 u.b, .int .i64 u.c, .int .i64 u.d, .int .i64 u.e]) (by simp [results, Try.results13, go_sem, r0, r1, r2, r3, r4]) rfl ⟨rfl, H5.out.2⟩
        · have gz : (z == 0) = false := by simpa using hz0
          have gz' : decide (z = 0) = false := by simpa using hz0
          have hrz : -5 ≤ z ∧ z ≤ 5 := by rw [hz]; exact HRNG.out i hlt
          have hk5 := kol_lt hz0 hrz
          have HQ := Lib.hid (col_any z hrz wr)
          rw [clm_kol hz0] at HQ
          obtain ⟨x, hx⟩ : ∃ x, x = colT t (kol z) := ⟨_, rfl⟩
          have yx : wr.cell? ⟨w.heap.size, kol z, none⟩ = some (.int .i64 x) := by rw [hx]; exact (KC.out _ HW.out).2 _ hk5
          have hll : l.length = i := by rw [HL.out, List.length_map, List.length_take, Tup.cols_len]; omega
          have HL2 : Hid (l ++ [x] = (o.cols.take (i + 1)).map fun k => colT t (kol k)) := by
            unfold Hid
            rw [take_snoc hlt, List.map_append, ← HL.out, hx, hz]; rfl
          have HN2 : Hid (∀ j, j < i + 1 → colT o j ≠ 0) := fun j hj => by
            by_cases e : j = i
            · rw [e, ← hz]; exact hz0
            · exact HN.out j (by omega)
          have HRS : Hid (Row (wr.setCell ⟨w.heap.size + 3, i, none⟩ (.int .i64 x)) (w.heap.size + 3) 23 (arrV (tupL (l ++ [x])))) := by
            have := HR.out.set i (.int .i64 x)
            rw [arr_set hll hlt] at this
            exact this
          have HWS : Hid (Below (w.heap.size + 3) W1 (wr.setCell ⟨w.heap.size + 3, i, none⟩ (.int .i64 x))) := HW.out.setCell (p := ⟨w.heap.size + 3, i, none⟩) (by simp) _
          have cs : ∃ v, wr.cell? ⟨w.heap.size + 3, i, none⟩ = some v := ⟨_, arr_cell HR.out hlt⟩
          obtain ⟨v9, cs⟩ := cs
          have fz := HR.out.free i
          have k0 : (0 : Int) ≤ ((kol z : Nat) : Int) := by omega
          have k1 : ((kol z : Nat) : Int) < 5 := by omega
          generalize kol z = c at *
          clear hx hz hz0 hrz hll HR HW HL HN
          go_wp2_with fail
          refine HQ.out.mono ?_; rintro e w3 ⟨rfl, rfl⟩
          go_wp2
          go_roundw
          case rel => exact ⟨i + 1, _, by omega, by go_num, HWS.out, HRS.out, HL2.out, HN2.out⟩
          case measure => simp [intOf]; omega
      · obtain rfl : i = 5 := by omega
        have HRX : Hid (Row wr (w.heap.size + 3) 23 (arrV u)) := by
          have := HR.out
          rw [HF1.out 5 l hi HL.out HN.out (.inl rfl)] at this
          exact this
        clear HR HL HN HF1 HRNG
        have hrx := HRX.out
        have h2x := HR3.out.below HW.out (by omega)
        have q0 : wr.cell? ⟨w.heap.size + 3, 0, none⟩ = some (.int .i64 u.a) := hrx.cell 0
        have q1 : wr.cell? ⟨w.heap.size + 3, 1, none⟩ = some (.int .i64 u.b) := hrx.cell 1
        have q2 : wr.cell? ⟨w.heap.size + 3, 2, none⟩ = some (.int .i64 u.c) := hrx.cell 2
        have q3 : wr.cell? ⟨w.heap.size + 3, 3, none⟩ = some (.int .i64 u.d) := hrx.cell 3
        have q4 : wr.cell? ⟨w.heap.size + 3, 4, none⟩ = some (.int .i64 u.e) := hrx.cell 4
        have p0 : wr.cell? ⟨w.heap.size + 2, 0, none⟩ = some (.int .i64 0) := h2x.cell 0
        have p1 : wr.cell? ⟨w.heap.size + 2, 1, none⟩ = some (.int .i64 0) := h2x.cell 1
        have p2 : wr.cell? ⟨w.heap.size + 2, 2, none⟩ = some (.int .i64 0) := h2x.cell 2
        have p3 : wr.cell? ⟨w.heap.size + 2, 3, none⟩ = some (.int .i64 0) := h2x.cell 3
        have p4 : wr.cell? ⟨w.heap.size + 2, 4, none⟩ = some (.int .i64 0) := h2x.cell 4
        have z0 := h2x.free 0
        have z1 := h2x.free 1
        have z2 := h2x.free 2
        have z3 := h2x.free 3
        have z4 := h2x.free 4
        have H5 := Lib.hid (HEND.out wr u HW.out h2x)
        clear hrx h2x HRX HW HR3
        go_wp2
        have r0 := H5.out.1.cell 0
        have r1 := H5.out.1.cell 1
        have r2 := H5.out.1.cell 2
        have r3 := H5.out.1.cell 3
        have r4 := H5.out.1.cell 4
        simp only [arrV, List.getElem?_cons_zero, List.getElem?_cons_succ] at r0 r1 r2 r3 r4
        exact bodyPost_ret (v := .agg #[.int .i64 u.a, .int .i64 u.b, .int .i64 u.c, .int .i64 u.d, .int .i64 u.e]) (by simp [results, Try.results13, go_sem, r0, r1, r2, r3, r4]) rfl ⟨rfl, H5.out.2⟩
  · have hres : cutT o t = tup0 := by unfold cutT; rw [if_neg hf]
    rw [decide_eq_false hf] at HFO
    rw [hres]
    clear hf hres r1 r2 r3 r4 hb1 s1 hW1
    go_enter Try.func13, Try.ntmps13
    go_upto_region 2 with (fail)
    rw [← HW1.out]
    clear HW1
    go_wp2_with fail
    refine (HFO.out _).mono ?_; rintro e wr ⟨rfl, hb⟩
    have HW : Hid (Below (w.heap.size + 4) W1 wr) := hb.mono (Nat.le_of_eq HSZ.out.symm)
    have hrx := HR0.out.below HW.out (by omega)
    have h2x := HR3.out.below HW.out (by omega)
    have q0 : wr.cell? ⟨w.heap.size + 3, 0, none⟩ = some (.int .i64 0) := hrx.cell 0
    have q1 : wr.cell? ⟨w.heap.size + 3, 1, none⟩ = some (.int .i64 0) := hrx.cell 1
    have q2 : wr.cell? ⟨w.heap.size + 3, 2, none⟩ = some (.int .i64 0) := hrx.cell 2
    have q3 : wr.cell? ⟨w.heap.size + 3, 3, none⟩ = some (.int .i64 0) := hrx.cell 3
    have q4 : wr.cell? ⟨w.heap.size + 3, 4, none⟩ = some (.int .i64 0) := hrx.cell 4
    have p0 : wr.cell? ⟨w.heap.size + 2, 0, none⟩ = some (.int .i64 0) := h2x.cell 0
    have p1 : wr.cell? ⟨w.heap.size + 2, 1, none⟩ = some (.int .i64 0) := h2x.cell 1
    have p2 : wr.cell? ⟨w.heap.size + 2, 2, none⟩ = some (.int .i64 0) := h2x.cell 2
    have p3 : wr.cell? ⟨w.heap.size + 2, 3, none⟩ = some (.int .i64 0) := h2x.cell 3
    have p4 : wr.cell? ⟨w.heap.size + 2, 4, none⟩ = some (.int .i64 0) := h2x.cell 4
    have z0 := h2x.free 0
    have z1 := h2x.free 1
    have z2 := h2x.free 2
    have z3 := h2x.free 3
    have z4 := h2x.free 4
    have H5 : Hid (Row (((((wr.setCell ⟨w.heap.size + 2, 0, none⟩ (.int .i64 0)).setCell ⟨w.heap.size + 2, 1, none⟩ (.int .i64 0)).setCell ⟨w.heap.size + 2, 2, none⟩ (.int .i64 0)).setCell ⟨w.heap.size + 2, 3, none⟩ (.int .i64 0)).setCell ⟨w.heap.size + 2, 4, none⟩ (.int .i64 0)) (w.heap.size + 2) 23 [.int .i64 0, .int .i64 0, .int .i64 0, .int .i64 0, .int .i64 0] ∧ Below w.heap.size w (((((wr.setCell ⟨w.heap.size + 2, 0, none⟩ (.int .i64 0)).setCell ⟨w.heap.size + 2, 1, none⟩ (.int .i64 0)).setCell ⟨w.heap.size + 2, 2, none⟩ (.int .i64 0)).setCell ⟨w.heap.size + 2, 3, none⟩ (.int .i64 0)).setCell ⟨w.heap.size + 2, 4, none⟩ (.int .i64 0))) := HEND.out wr tup0 (HW.out.mono (by omega)) h2x
    clear hrx h2x HW HR3 hb d0 d1 d2 d3 d4
    go_wp2
    have r0 := H5.out.1.cell 0
    have r1 := H5.out.1.cell 1
    have r2 := H5.out.1.cell 2
    have r3 := H5.out.1.cell 3
    have r4 := H5.out.1.cell 4
    simp only [List.getElem?_cons_zero, List.getElem?_cons_succ] at r0 r1 r2 r3 r4
    exact bodyPost_ret (v := .agg #[.int .i64 tup0.a, .int .i64 tup0.b, .int .i64 tup0.c, .int .i64 tup0.d, .int .i64 tup0.e]) (by simp [results, Try.results13, go_sem, r0, r1, r2, r3, r4, tup0]) rfl ⟨rfl, H5.out.2⟩
end Go.Proofs.Ytoimpiimlekakaa
