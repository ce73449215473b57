/- The code's Sorted. -/
import Derived.Test.YtoimpiimlekakaaTupCmp
import Derived.Test.YtoimpiimlekakaaTupSrt
namespace Go.Proofs.Ytoimpiimlekakaa
open Go.ChangeShapes Go.WideShapes Go.ChangeAt Go.RowKit

set_option maxHeartbeats 2000000 in
set_option maxRecDepth 100000 in
theorem sorted_any {w : World} (o : Tup) {A : Option Addr} {n c : Nat} {l : List Tup} (hl : ReadsT w w.heap.size A n l) (hn : n ≤ 1000000) : Calls Try.prog 15 #[.slice A n c, .agg #[.int .i64 o.a, .int .i64 o.b, .int .i64 o.c, .int .i64 o.d, .int .i64 o.e]] w fun e w' => e = .returned (.bool (decide (Srt o l))) ∧ Below w.heap.size w w' := by
  have hr : Row (w.alloc (.cells #[.int .i64 o.a, .int .i64 o.b, .int .i64 o.c, .int .i64 o.d, .int .i64 o.e] 25)) w.heap.size 25 (arrV o) := heap_alloc_new _ _
  have hb0 : Below w.heap.size w (w.alloc (.cells #[.int .i64 o.a, .int .i64 o.b, .int .i64 o.c, .int .i64 o.d, .int .i64 o.e] 25)) := (Below.refl _ _).alloc (Nat.le_refl _) _
  have hsz : (w.alloc (.cells #[.int .i64 o.a, .int .i64 o.b, .int .i64 o.c, .int .i64 o.d, .int .i64 o.e] 25)).heap.size = w.heap.size + 1 := by simp
  have KB : Hid (∀ W, Below (w.heap.size + 1) (w.alloc (.cells #[.int .i64 o.a, .int .i64 o.b, .int .i64 o.c, .int .i64 o.d, .int .i64 o.e] 25)) W → Below w.heap.size w W) := fun W hb => hb0.trans (hb.mono (by omega))
  have KO : Hid (∀ W, Below (w.heap.size + 1) (w.alloc (.cells #[.int .i64 o.a, .int .i64 o.b, .int .i64 o.c, .int .i64 o.d, .int .i64 o.e] 25)) W → Row W w.heap.size 25 (arrV o)) := fun W hb => hr.below hb (by omega)
  have HSZ := Lib.hid (Nat.le_of_eq hsz.symm)
  have HLR := Lib.hid hl
  have hlen : l.length = n := hl.1
  have HNO : Hid (∀ i, i + 1 < n → ¬ cmpT o (l.getD i tup0) (l.getD (i + 1) tup0) ≤ 0 → decide (Srt o l) = false) := fun i hi h => decide_eq_false fun hs => h (hs i (by omega))
  have HYES : Hid ((∀ i, i + 1 < n → cmpT o (l.getD i tup0) (l.getD (i + 1) tup0) ≤ 0) → decide (Srt o l) = true) := fun h => decide_eq_true fun i hi => h i (by omega)
  have HR := Lib.hid hr
  have d0 : (w.alloc (.cells #[.int .i64 o.a, .int .i64 o.b, .int .i64 o.c, .int .i64 o.d, .int .i64 o.e] 25)).cell? ⟨w.heap.size, 0, none⟩ = some (.int .i64 o.a) := hr.cell 0
  have d1 : (w.alloc (.cells #[.int .i64 o.a, .int .i64 o.b, .int .i64 o.c, .int .i64 o.d, .int .i64 o.e] 25)).cell? ⟨w.heap.size, 1, none⟩ = some (.int .i64 o.b) := hr.cell 1
  have d2 : (w.alloc (.cells #[.int .i64 o.a, .int .i64 o.b, .int .i64 o.c, .int .i64 o.d, .int .i64 o.e] 25)).cell? ⟨w.heap.size, 2, none⟩ = some (.int .i64 o.c) := hr.cell 2
  have d3 : (w.alloc (.cells #[.int .i64 o.a, .int .i64 o.b, .int .i64 o.c, .int .i64 o.d, .int .i64 o.e] 25)).cell? ⟨w.heap.size, 3, none⟩ = some (.int .i64 o.d) := hr.cell 3
  have d4 : (w.alloc (.cells #[.int .i64 o.a, .int .i64 o.b, .int .i64 o.c, .int .i64 o.d, .int .i64 o.e] 25)).cell? ⟨w.heap.size, 4, none⟩ = some (.int .i64 o.e) := hr.cell 4
  have HFO := Lib.hid (formed_any o)
  by_cases hf : Fm o
  rotate_left
  · have hres : decide (Srt o l) = true := HYES.out fun i _ => by unfold cmpT; rw [if_neg hf]; exact Int.le_refl _
    rw [decide_eq_false hf] at HFO
    rw [hres]
    clear hf hres hr hb0 hsz hl hlen
    go_enter Try.func15, Try.ntmps15
    go_upto_region 1 with (fail)
    generalize w.alloc (.cells #[.int .i64 o.a, .int .i64 o.b, .int .i64 o.c, .int .i64 o.d, .int .i64 o.e] 25) = W1 at *
    go_wp2_with fail
    refine (HFO.out _).mono ?_; rintro e w2 ⟨rfl, hb⟩
    have HB2 : Hid (Below w.heap.size w w2) := KB.out _ (hb.mono HSZ.out)
    clear hb
    go_wp2
    go_ret
    exact ⟨rfl, HB2.out⟩
  have HFM := Lib.hid hf
  rw [decide_eq_true hf] at HFO
  generalize decide (Srt o l) = res at *
  clear hr hb0 hsz hl hlen hf
  go_enter Try.func15, Try.ntmps15
  go_upto_region 1 with (fail)
  generalize w.alloc (.cells #[.int .i64 o.a, .int .i64 o.b, .int .i64 o.c, .int .i64 o.d, .int .i64 o.e] 25) = W1 at *
  go_wp2_with fail
  refine (HFO.out _).mono ?_; rintro e w1 ⟨rfl, hb⟩
  have HW1 : Hid (Below (w.heap.size + 1) W1 w1) := hb.mono HSZ.out
  clear hb d0 d1 d2 d3 d4
  go_wp2_with fail
  go_loopw [5] (fun iv wr => ∃ i : Nat, 1 ≤ i ∧ i ≤ n + 1 ∧ iv = .int .i64 (i : Int) ∧ Hid (Below (w.heap.size + 1) W1 wr) ∧ Hid (∀ j, j + 1 < i → j + 1 < n → cmpT o (l.getD j tup0) (l.getD (j + 1) tup0) ≤ 0)) (fun iv _ => n + 1 - (intOf iv).toNat)
  case atStart => exact ⟨1, by omega, by omega, rfl, HW1.out, fun j hj => by omega⟩
  case round =>
    obtain ⟨i, hi1, hi, rfl, HW, HS⟩ := hrel
    clear HW1
    by_cases hlt : i < n
    · have g1 : decide ((i : Int) < (n : Int)) = true := by simp; omega
      have i0 : (0 : Int) ≤ (i : Int) := by omega
      have i1 : (i : Int) < (n : Int) := by omega
      obtain ⟨p, hp⟩ : ∃ p, p = i - 1 := ⟨_, rfl⟩
      have hpi : p + 1 = i := by omega
      have HPI := Lib.hid hpi
      have hsub : (i : Int) - 1 = (p : Int) := by omega
      have hwr : IntKind.i64.wrap (p : Int) = (p : Int) := by rw [IntKind.wrap_i64]; omega
      have p0 : (0 : Int) ≤ (p : Int) := by omega
      have p1 : (p : Int) < (n : Int) := by omega
      obtain ⟨bb, off, x, rfl, hbb, qx0, qx1, qx2, qx3, qx4, _, hx⟩ := HLR.out.at_ (show p < n by omega)
      obtain ⟨bb', off', y, hA, _, qy0, qy1, qy2, qy3, qy4, _, hy⟩ := HLR.out.at_ hlt
      injection hA with hA
      injection hA with hA1 hA2
      subst hA1 hA2
      have hxd : l.getD p tup0 = x := by rw [List.getD_eq_getElem?_getD, hx.out]; rfl
      have hyd : l.getD i tup0 = y := by rw [List.getD_eq_getElem?_getD, hy.out]; rfl
      have HX : Hid (l.getD p tup0 = x ∧ l.getD (p + 1) tup0 = y) := ⟨hxd, by rw [hpi]; exact hyd⟩
      obtain ⟨xa, xb, xc, xd, xe⟩ := x
      obtain ⟨ya, yb, yc, yd, ye⟩ := y
      simp only at qx0 qx1 qx2 qx3 qx4 qy0 qy1 qy2 qy3 qy4
      have KC : Hid (∀ W, Below (w.heap.size + 1) W1 W → W.cell? ⟨bb, off + p * 5, none⟩ = some (.int .i64 xa) ∧ W.cell? ⟨bb, off + p * 5 + 1, none⟩ = some (.int .i64 xb) ∧ W.cell? ⟨bb, off + p * 5 + 2, none⟩ = some (.int .i64 xc) ∧ W.cell? ⟨bb, off + p * 5 + 3, none⟩ = some (.int .i64 xd) ∧ W.cell? ⟨bb, off + p * 5 + 4, none⟩ = some (.int .i64 xe) ∧ W.cell? ⟨bb, off + i * 5, none⟩ = some (.int .i64 ya) ∧ W.cell? ⟨bb, off + i * 5 + 1, none⟩ = some (.int .i64 yb) ∧ W.cell? ⟨bb, off + i * 5 + 2, none⟩ = some (.int .i64 yc) ∧ W.cell? ⟨bb, off + i * 5 + 3, none⟩ = some (.int .i64 yd) ∧ W.cell? ⟨bb, off + i * 5 + 4, none⟩ = some (.int .i64 ye) ∧ W.cell? ⟨w.heap.size, 0, none⟩ = some (.int .i64 o.a) ∧ W.cell? ⟨w.heap.size, 1, none⟩ = some (.int .i64 o.b) ∧ W.cell? ⟨w.heap.size, 2, none⟩ = some (.int .i64 o.c) ∧ W.cell? ⟨w.heap.size, 3, none⟩ = some (.int .i64 o.d) ∧ W.cell? ⟨w.heap.size, 4, none⟩ = some (.int .i64 o.e)) := fun W hb => by
        have h := KB.out W hb
        have hr := KO.out W hb
        exact ⟨(h.cell (p := ⟨bb, _, none⟩) hbb).trans qx0, (h.cell (p := ⟨bb, _, none⟩) hbb).trans qx1, (h.cell (p := ⟨bb, _, none⟩) hbb).trans qx2, (h.cell (p := ⟨bb, _, none⟩) hbb).trans qx3, (h.cell (p := ⟨bb, _, none⟩) hbb).trans qx4, (h.cell (p := ⟨bb, _, none⟩) hbb).trans qy0, (h.cell (p := ⟨bb, _, none⟩) hbb).trans qy1, (h.cell (p := ⟨bb, _, none⟩) hbb).trans qy2, (h.cell (p := ⟨bb, _, none⟩) hbb).trans qy3, (h.cell (p := ⟨bb, _, none⟩) hbb).trans qy4, hr.cell 0, hr.cell 1, hr.cell 2, hr.cell 3, hr.cell 4⟩
      have hbd : Below (w.heap.size + 1) W1 wr.drew := ⟨HW.out.os, HW.out.tape, HW.out.output, HW.out.size, HW.out.block⟩
      have HF : Hid (Calls Try.prog 20 #[.agg #[.int .i64 xa, .int .i64 xb, .int .i64 xc, .int .i64 xd, .int .i64 xe], .agg #[.int .i64 ya, .int .i64 yb, .int .i64 yc, .int .i64 yd, .int .i64 ye], .agg #[.int .i64 o.a, .int .i64 o.b, .int .i64 o.c, .int .i64 o.d, .int .i64 o.e]] wr.drew fun e w' => e = .returned (.int .i64 (cmpT o ⟨xa, xb, xc, xd, xe⟩ ⟨ya, yb, yc, yd, ye⟩)) ∧ Below (w.heap.size + 1) W1 w') := by
        refine (cmp0_any o ⟨xa, xb, xc, xd, xe⟩ ⟨ya, yb, yc, yd, ye⟩ HFM.out wr.drew).mono ?_
        rintro e w' ⟨he, hb⟩
        exact ⟨he, hbd.trans (hb.mono (Nat.le_trans HSZ.out hbd.size))⟩
      have HCM : Hid (cmpT o (l.getD p tup0) (l.getD (p + 1) tup0) = cmpT o ⟨xa, xb, xc, xd, xe⟩ ⟨ya, yb, yc, yd, ye⟩) := by unfold Hid; rw [HX.out.1, HX.out.2]
      obtain ⟨y0, y1, y2, y3, y4, y5, y6, y7, y8, y9, y10, y11, y12, y13, y14⟩ := KC.out _ hbd
      generalize cmpT o ⟨xa, xb, xc, xd, xe⟩ ⟨ya, yb, yc, yd, ye⟩ = cm at *
      clear qx0 qx1 qx2 qx3 qx4 qy0 qy1 qy2 qy3 qy4 hx hy hxd hyd HX hbd hp hpi HW hbb
      go_wp2
      go_region_held3 (fun W => W.cell? ⟨bb, off + p * 5, none⟩ = some (.int .i64 xa) ∧ W.cell? ⟨bb, off + p * 5 + 1, none⟩ = some (.int .i64 xb) ∧ W.cell? ⟨bb, off + p * 5 + 2, none⟩ = some (.int .i64 xc) ∧ W.cell? ⟨bb, off + p * 5 + 3, none⟩ = some (.int .i64 xd) ∧ W.cell? ⟨bb, off + p * 5 + 4, none⟩ = some (.int .i64 xe) ∧ W.cell? ⟨bb, off + i * 5, none⟩ = some (.int .i64 ya) ∧ W.cell? ⟨bb, off + i * 5 + 1, none⟩ = some (.int .i64 yb) ∧ W.cell? ⟨bb, off + i * 5 + 2, none⟩ = some (.int .i64 yc) ∧ W.cell? ⟨bb, off + i * 5 + 3, none⟩ = some (.int .i64 yd) ∧ W.cell? ⟨bb, off + i * 5 + 4, none⟩ = some (.int .i64 ye) ∧ W.cell? ⟨w.heap.size, 0, none⟩ = some (.int .i64 o.a) ∧ W.cell? ⟨w.heap.size, 1, none⟩ = some (.int .i64 o.b) ∧ W.cell? ⟨w.heap.size, 2, none⟩ = some (.int .i64 o.c) ∧ W.cell? ⟨w.heap.size, 3, none⟩ = some (.int .i64 o.d) ∧ W.cell? ⟨w.heap.size, 4, none⟩ = some (.int .i64 o.e)) (first | with_reducible exact ⟨y0, y1, y2, y3, y4, y5, y6, y7, y8, y9, y10, y11, y12, y13, y14⟩ | with_reducible exact q2)
        (first
          | (go_at_call 20; (with_reducible refine HF.out.mono ?_); rintro e w2 ⟨rfl, h2⟩; have q2 := KC.out _ h2))
      have H2 := Lib.hid h2
      clear hsub hwr p0 p1 h2 q2 HF y0 y1 y2 y3 y4 y5 y6 y7 y8 y9 y10 y11 y12 y13 y14 KC
      by_cases hc : 0 < cm
      · have gc : decide (0 < cm) = true := by simpa using hc
        have hres : res = false := HNO.out p (by have := HPI.out; omega) (by rw [HCM.out]; omega)
        subst hres
        have HE := Lib.hid (KB.out _ H2.out)
        clear HCM
        go_wp2
        go_ret
        exact ⟨rfl, HE.out⟩
      · have gc : decide (0 < cm) = false := by simpa using hc
        have hc2 : cm ≤ 0 := by omega
        have HS2 : Hid (∀ j, j + 1 < i + 1 → j + 1 < n → cmpT o (l.getD j tup0) (l.getD (j + 1) tup0) ≤ 0) := fun j hj hjn => by
          by_cases e : j + 1 = i
          · have : j = p := by have := HPI.out; omega
            rw [this, HCM.out]; omega
          · exact HS.out j (by omega) hjn
        clear HCM HS
        go_wp2
        go_roundw
        case rel => exact ⟨i + 1, by omega, by omega, by go_num, H2.out, HS2.out⟩
        case measure => simp [intOf]; omega
    · have g1 : decide ((i : Int) < (n : Int)) = false := by simp; omega
      have hres : res = true := HYES.out fun j hj => HS.out j (by omega) hj
      subst hres
      have HE := Lib.hid (KB.out _ HW.out)
      clear HW
      go_wp2
      go_ret
      exact ⟨rfl, HE.out⟩
end Go.Proofs.Ytoimpiimlekakaa
