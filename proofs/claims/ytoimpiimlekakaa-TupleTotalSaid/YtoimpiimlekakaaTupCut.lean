/- The reference's Cut. -/
import Derived.Test.YtoimpiimlekakaaTupRef
namespace Go.Proofs.Ytoimpiimlekakaa
open Go.ChangeShapes Go.WideShapes Go.ChangeAt Go.RowKit

/-- what is cut, till the first 0 -/
theorem cut_stop (o t : Tup) : ∀ i, i ≤ 5 → (∀ j, j < i → colT o j ≠ 0) → (i = 5 ∨ colT o i = 0) → cutL o.cols t = (o.cols.take i).map fun k => colT t (kol k) := by
  obtain ⟨a, b, c, d, e⟩ := o
  intro i hi h1 h2
  have e0 : colT ⟨a, b, c, d, e⟩ 0 = a := rfl
  have e1 : colT ⟨a, b, c, d, e⟩ 1 = b := rfl
  have e2 : colT ⟨a, b, c, d, e⟩ 2 = c := rfl
  have e3 : colT ⟨a, b, c, d, e⟩ 3 = d := rfl
  have e4 : colT ⟨a, b, c, d, e⟩ 4 = e := rfl
  unfold cutL Tup.cols
  match i, hi with
  | 0, _ =>
    have : a = 0 := by rcases h2 with h | h; · omega
                       · rw [e0] at h; exact h
    simp [this]
  | 1, _ =>
    have f0 : a ≠ 0 := by have := h1 0 (by omega); rwa [e0] at this
    have : b = 0 := by rcases h2 with h | h; · omega
                       · rw [e1] at h; exact h
    simp [f0, this]
  | 2, _ =>
    have f0 : a ≠ 0 := by have := h1 0 (by omega); rwa [e0] at this
    have f1 : b ≠ 0 := by have := h1 1 (by omega); rwa [e1] at this
    have : c = 0 := by rcases h2 with h | h; · omega
                       · rw [e2] at h; exact h
    simp [f0, f1, this]
  | 3, _ =>
    have f0 : a ≠ 0 := by have := h1 0 (by omega); rwa [e0] at this
    have f1 : b ≠ 0 := by have := h1 1 (by omega); rwa [e1] at this
    have f2 : c ≠ 0 := by have := h1 2 (by omega); rwa [e2] at this
    have : d = 0 := by rcases h2 with h | h; · omega
                       · rw [e3] at h; exact h
    simp [f0, f1, f2, this]
  | 4, _ =>
    have f0 : a ≠ 0 := by have := h1 0 (by omega); rwa [e0] at this
    have f1 : b ≠ 0 := by have := h1 1 (by omega); rwa [e1] at this
    have f2 : c ≠ 0 := by have := h1 2 (by omega); rwa [e2] at this
    have f3 : d ≠ 0 := by have := h1 3 (by omega); rwa [e3] at this
    have : e = 0 := by rcases h2 with h | h; · omega
                       · rw [e4] at h; exact h
    simp [f0, f1, f2, f3, this]
  | 5, _ =>
    have f0 : a ≠ 0 := by have := h1 0 (by omega); rwa [e0] at this
    have f1 : b ≠ 0 := by have := h1 1 (by omega); rwa [e1] at this
    have f2 : c ≠ 0 := by have := h1 2 (by omega); rwa [e2] at this
    have f3 : d ≠ 0 := by have := h1 3 (by omega); rwa [e3] at this
    have f4 : e ≠ 0 := by have := h1 4 (by omega); rwa [e4] at this
    simp [f0, f1, f2, f3, f4]
theorem take_snoc {o : Tup} {i : Nat} (hi : i < 5) : o.cols.take (i + 1) = o.cols.take i ++ [colT o i] := by
  match i, hi with
  | 0, _ => rfl
  | 1, _ => rfl
  | 2, _ => rfl
  | 3, _ => rfl
  | 4, _ => rfl
theorem arr_set {l : List Int} {i : Nat} (hl : l.length = i) (hi : i < 5) (x : Int) : (arrV (tupL l)).set i (.int .i64 x) = arrV (tupL (l ++ [x])) := by
  subst hl
  match l, hi with
  | [], _ => rfl
  | [_], _ => rfl
  | [_, _], _ => rfl
  | [_, _, _], _ => rfl
  | [_, _, _, _], _ => rfl
theorem set5c {w : World} {g : Nat} {T : TypeId} {a b c d e : Value} (h : Row w g T [a, b, c, d, e]) (v0 v1 v2 v3 v4 : Value) : Row (((((w.setCell ⟨g, 0, none⟩ v0).setCell ⟨g, 1, none⟩ v1).setCell ⟨g, 2, none⟩ v2).setCell ⟨g, 3, none⟩ v3).setCell ⟨g, 4, none⟩ v4) g T [v0, v1, v2, v3, v4] :=
  ((((h.set 0 v0).set 1 v1).set 2 v2).set 3 v3).set 4 v4
set_option maxHeartbeats 2000000 in
set_option maxRecDepth 100000 in
theorem rcut_any (o t : Tup) (w : World) : Calls Try.prog 14 #[.agg #[.int .i64 t.a, .int .i64 t.b, .int .i64 t.c, .int .i64 t.d, .int .i64 t.e], .agg #[.int .i64 o.a, .int .i64 o.b, .int .i64 o.c, .int .i64 o.d, .int .i64 o.e]] w fun e w' => e = .returned (.agg #[.int .i64 (cutT o t).a, .int .i64 (cutT o t).b, .int .i64 (cutT o t).c, .int .i64 (cutT o t).d, .int .i64 (cutT o t).e]) ∧ Below w.heap.size w w' := by
  have b1 : Below w.heap.size w (w.alloc (.cells #[.int .i64 t.a, .int .i64 t.b, .int .i64 t.c, .int .i64 t.d, .int .i64 t.e] 23)) := (Below.refl _ _).alloc (Nat.le_refl _) _
  have r1 : Row (w.alloc (.cells #[.int .i64 t.a, .int .i64 t.b, .int .i64 t.c, .int .i64 t.d, .int .i64 t.e] 23)) w.heap.size 23 (arrV t) := heap_alloc_new _ _
  have s1 : (w.alloc (.cells #[.int .i64 t.a, .int .i64 t.b, .int .i64 t.c, .int .i64 t.d, .int .i64 t.e] 23)).heap.size = w.heap.size + 1 := by simp
  have b2 : Below (w.heap.size + 1) (w.alloc (.cells #[.int .i64 t.a, .int .i64 t.b, .int .i64 t.c, .int .i64 t.d, .int .i64 t.e] 23)) ((w.alloc (.cells #[.int .i64 t.a, .int .i64 t.b, .int .i64 t.c, .int .i64 t.d, .int .i64 t.e] 23)).alloc (.cells #[.int .i64 o.a, .int .i64 o.b, .int .i64 o.c, .int .i64 o.d, .int .i64 o.e] 26)) := (Below.refl _ _).alloc (by rw [s1]; exact Nat.le_refl _) _
  have r2 : Row ((w.alloc (.cells #[.int .i64 t.a, .int .i64 t.b, .int .i64 t.c, .int .i64 t.d, .int .i64 t.e] 23)).alloc (.cells #[.int .i64 o.a, .int .i64 o.b, .int .i64 o.c, .int .i64 o.d, .int .i64 o.e] 26)) (w.heap.size + 1) 26 (arrV o) := by rw [← s1]; exact heap_alloc_new _ _
  have s2 : ((w.alloc (.cells #[.int .i64 t.a, .int .i64 t.b, .int .i64 t.c, .int .i64 t.d, .int .i64 t.e] 23)).alloc (.cells #[.int .i64 o.a, .int .i64 o.b, .int .i64 o.c, .int .i64 o.d, .int .i64 o.e] 26)).heap.size = w.heap.size + 2 := by simp
  have b3 : Below (w.heap.size + 2) ((w.alloc (.cells #[.int .i64 t.a, .int .i64 t.b, .int .i64 t.c, .int .i64 t.d, .int .i64 t.e] 23)).alloc (.cells #[.int .i64 o.a, .int .i64 o.b, .int .i64 o.c, .int .i64 o.d, .int .i64 o.e] 26)) (((w.alloc (.cells #[.int .i64 t.a, .int .i64 t.b, .int .i64 t.c, .int .i64 t.d, .int .i64 t.e] 23)).alloc (.cells #[.int .i64 o.a, .int .i64 o.b, .int .i64 o.c, .int .i64 o.d, .int .i64 o.e] 26)).alloc (.cells #[.int .i64 0, .int .i64 0, .int .i64 0, .int .i64 0, .int .i64 0] 23)) := (Below.refl _ _).alloc (by rw [s2]; exact Nat.le_refl _) _
  have r3 : Row (((w.alloc (.cells #[.int .i64 t.a, .int .i64 t.b, .int .i64 t.c, .int .i64 t.d, .int .i64 t.e] 23)).alloc (.cells #[.int .i64 o.a, .int .i64 o.b, .int .i64 o.c, .int .i64 o.d, .int .i64 o.e] 26)).alloc (.cells #[.int .i64 0, .int .i64 0, .int .i64 0, .int .i64 0, .int .i64 0] 23)) (w.heap.size + 2) 23 (arrV tup0) := by rw [← s2]; exact heap_alloc_new _ _
  have s3 : (((w.alloc (.cells #[.int .i64 t.a, .int .i64 t.b, .int .i64 t.c, .int .i64 t.d, .int .i64 t.e] 23)).alloc (.cells #[.int .i64 o.a, .int .i64 o.b, .int .i64 o.c, .int .i64 o.d, .int .i64 o.e] 26)).alloc (.cells #[.int .i64 0, .int .i64 0, .int .i64 0, .int .i64 0, .int .i64 0] 23)).heap.size = w.heap.size + 3 := by simp
  have b4 : Below (w.heap.size + 3) (((w.alloc (.cells #[.int .i64 t.a, .int .i64 t.b, .int .i64 t.c, .int .i64 t.d, .int .i64 t.e] 23)).alloc (.cells #[.int .i64 o.a, .int .i64 o.b, .int .i64 o.c, .int .i64 o.d, .int .i64 o.e] 26)).alloc (.cells #[.int .i64 0, .int .i64 0, .int .i64 0, .int .i64 0, .int .i64 0] 23)) ((((w.alloc (.cells #[.int .i64 t.a, .int .i64 t.b, .int .i64 t.c, .int .i64 t.d, .int .i64 t.e] 23)).alloc (.cells #[.int .i64 o.a, .int .i64 o.b, .int .i64 o.c, .int .i64 o.d, .int .i64 o.e] 26)).alloc (.cells #[.int .i64 0, .int .i64 0, .int .i64 0, .int .i64 0, .int .i64 0] 23)).alloc (.cells #[.int .i64 0, .int .i64 0, .int .i64 0, .int .i64 0, .int .i64 0] 23)) := (Below.refl _ _).alloc (by rw [s3]; exact Nat.le_refl _) _
  have HR0 : Hid (Row ((((w.alloc (.cells #[.int .i64 t.a, .int .i64 t.b, .int .i64 t.c, .int .i64 t.d, .int .i64 t.e] 23)).alloc (.cells #[.int .i64 o.a, .int .i64 o.b, .int .i64 o.c, .int .i64 o.d, .int .i64 o.e] 26)).alloc (.cells #[.int .i64 0, .int .i64 0, .int .i64 0, .int .i64 0, .int .i64 0] 23)).alloc (.cells #[.int .i64 0, .int .i64 0, .int .i64 0, .int .i64 0, .int .i64 0] 23)) (w.heap.size + 3) 23 (arrV (tupL []))) := by unfold Hid; rw [← s3]; exact heap_alloc_new _ _
  have r3' : Row ((((w.alloc (.cells #[.int .i64 t.a, .int .i64 t.b, .int .i64 t.c, .int .i64 t.d, .int .i64 t.e] 23)).alloc (.cells #[.int .i64 o.a, .int .i64 o.b, .int .i64 o.c, .int .i64 o.d, .int .i64 o.e] 26)).alloc (.cells #[.int .i64 0, .int .i64 0, .int .i64 0, .int .i64 0, .int .i64 0] 23)).alloc (.cells #[.int .i64 0, .int .i64 0, .int .i64 0, .int .i64 0, .int .i64 0] 23)) (w.heap.size + 2) 23 (arrV tup0) := r3.below b4 (by omega)
  have r2' : Row ((((w.alloc (.cells #[.int .i64 t.a, .int .i64 t.b, .int .i64 t.c, .int .i64 t.d, .int .i64 t.e] 23)).alloc (.cells #[.int .i64 o.a, .int .i64 o.b, .int .i64 o.c, .int .i64 o.d, .int .i64 o.e] 26)).alloc (.cells #[.int .i64 0, .int .i64 0, .int .i64 0, .int .i64 0, .int .i64 0] 23)).alloc (.cells #[.int .i64 0, .int .i64 0, .int .i64 0, .int .i64 0, .int .i64 0] 23)) (w.heap.size + 1) 26 (arrV o) := (r2.below b3 (by omega)).below b4 (by omega)
  have r1' : Row ((((w.alloc (.cells #[.int .i64 t.a, .int .i64 t.b, .int .i64 t.c, .int .i64 t.d, .int .i64 t.e] 23)).alloc (.cells #[.int .i64 o.a, .int .i64 o.b, .int .i64 o.c, .int .i64 o.d, .int .i64 o.e] 26)).alloc (.cells #[.int .i64 0, .int .i64 0, .int .i64 0, .int .i64 0, .int .i64 0] 23)).alloc (.cells #[.int .i64 0, .int .i64 0, .int .i64 0, .int .i64 0, .int .i64 0] 23)) w.heap.size 23 (arrV t) := ((r1.below b2 (by omega)).below b3 (by omega)).below b4 (by omega)
  have HB : Hid (Below w.heap.size w ((((w.alloc (.cells #[.int .i64 t.a, .int .i64 t.b, .int .i64 t.c, .int .i64 t.d, .int .i64 t.e] 23)).alloc (.cells #[.int .i64 o.a, .int .i64 o.b, .int .i64 o.c, .int .i64 o.d, .int .i64 o.e] 26)).alloc (.cells #[.int .i64 0, .int .i64 0, .int .i64 0, .int .i64 0, .int .i64 0] 23)).alloc (.cells #[.int .i64 0, .int .i64 0, .int .i64 0, .int .i64 0, .int .i64 0] 23))) := ((b1.trans (b2.mono (by omega))).trans (b3.mono (by omega))).trans (b4.mono (by omega))
  have HR3 := Lib.hid r3'
  have KC : Hid (∀ W, Below (w.heap.size + 3) ((((w.alloc (.cells #[.int .i64 t.a, .int .i64 t.b, .int .i64 t.c, .int .i64 t.d, .int .i64 t.e] 23)).alloc (.cells #[.int .i64 o.a, .int .i64 o.b, .int .i64 o.c, .int .i64 o.d, .int .i64 o.e] 26)).alloc (.cells #[.int .i64 0, .int .i64 0, .int .i64 0, .int .i64 0, .int .i64 0] 23)).alloc (.cells #[.int .i64 0, .int .i64 0, .int .i64 0, .int .i64 0, .int .i64 0] 23)) W → Below w.heap.size w W ∧ ∀ i, i < 5 → W.cell? ⟨w.heap.size, i, none⟩ = some (.int .i64 (colT t i)) ∧ W.cell? ⟨w.heap.size + 1, i, none⟩ = some (.int .i64 (colT o i))) := fun W hb =>
    ⟨HB.out.trans (hb.mono (by omega)), fun i hi => ⟨arr_cell (r1'.below hb (by omega)) hi, arr_cell (r2'.below hb (by omega)) hi⟩⟩
  have hsz : ((((w.alloc (.cells #[.int .i64 t.a, .int .i64 t.b, .int .i64 t.c, .int .i64 t.d, .int .i64 t.e] 23)).alloc (.cells #[.int .i64 o.a, .int .i64 o.b, .int .i64 o.c, .int .i64 o.d, .int .i64 o.e] 26)).alloc (.cells #[.int .i64 0, .int .i64 0, .int .i64 0, .int .i64 0, .int .i64 0] 23)).alloc (.cells #[.int .i64 0, .int .i64 0, .int .i64 0, .int .i64 0, .int .i64 0] 23)).heap.size = w.heap.size + 4 := by simp
  have HSZ := Lib.hid hsz
  clear b1 r1 s1 b2 r2 s2 b3 r3 s3 b4 r3' r2' r1' HB hsz
  have HFO := Lib.hid (rformed_any o)
  have HRNG : Hid (Fm o → ∀ i, i < 5 → -5 ≤ colT o i ∧ colT o i ≤ 5) := fun hf i hi => (hf i hi).1
  obtain ⟨fb, hfb⟩ : ∃ fb, fb = decide (Fm o) := ⟨_, rfl⟩
  have HF0 : Hid (fb = false → tupL [] = cutT o t) := fun h => by
    rw [hfb] at h
    unfold cutT; rw [if_neg (of_decide_eq_false h)]; rfl
  have HF1 : Hid (∀ (i : Nat) (l : List Int), i ≤ 5 → l = (o.cols.take i).map (fun k => colT t (kol k)) → fb = true → (∀ j, j < i → colT o j ≠ 0) → (i = 5 ∨ colT o i = 0) → tupL l = cutT o t) := fun i l hi hl h h1 h2 => by
    rw [hfb] at h
    unfold cutT; rw [if_pos (of_decide_eq_true h), cut_stop o t i hi h1 h2, hl]
  have HRNG : Hid (fb = true → ∀ i, i < 5 → -5 ≤ colT o i ∧ colT o i ≤ 5) := fun h => by
    rw [hfb] at h
    exact HRNG.out (of_decide_eq_true h)
  generalize cutT o t = u at *
  rw [← hfb] at HFO
  clear hfb
  go_enter Try.func14, Try.ntmps14
  go_upto_region 2 with (fail)
  generalize (((w.alloc (.cells #[.int .i64 t.a, .int .i64 t.b, .int .i64 t.c, .int .i64 t.d, .int .i64 t.e] 23)).alloc (.cells #[.int .i64 o.a, .int .i64 o.b, .int .i64 o.c, .int .i64 o.d, .int .i64 o.e] 26)).alloc (.cells #[.int .i64 0, .int .i64 0, .int .i64 0, .int .i64 0, .int .i64 0] 23)).alloc (.cells #[.int .i64 0, .int .i64 0, .int .i64 0, .int .i64 0, .int .i64 0] 23) = W1 at *
  go_wp2_with fail
  go_loopw [6] (fun iv wr => ∃ (i : Nat) (l : List Int), i ≤ 5 ∧ iv = .int .i64 (i : Int) ∧ Hid (Below (w.heap.size + 3) W1 wr) ∧ Hid (w.heap.size + 4 ≤ wr.heap.size) ∧ Hid (Row wr (w.heap.size + 3) 23 (arrV (tupL l))) ∧ Hid (l = (o.cols.take i).map fun k => colT t (kol k)) ∧ Hid (∀ j, j < i → fb = true ∧ colT o j ≠ 0)) (fun iv _ => 5 - (intOf iv).toNat)
  case atStart => exact ⟨0, [], by omega, rfl, Below.refl _ _, Nat.le_of_eq HSZ.out.symm, HR0.out, rfl, fun j hj => by omega⟩
  case round =>
    obtain ⟨i, l, hi, rfl, HW, HZ, HR, HL, HN⟩ := hrel
    clear HR0
    by_cases hlt : i < 5
    · have g1 : decide ((i : Int) < 5) = true := by simp; omega
      have i0 : (0 : Int) ≤ (i : Int) := by omega
      have i1 : (i : Int) < 5 := by omega
      have d0 : wr.cell? ⟨w.heap.size + 1, 0, none⟩ = some (.int .i64 o.a) := ((KC.out _ HW.out).2 0 (by omega)).2
      have d1 : wr.cell? ⟨w.heap.size + 1, 1, none⟩ = some (.int .i64 o.b) := ((KC.out _ HW.out).2 1 (by omega)).2
      have d2 : wr.cell? ⟨w.heap.size + 1, 2, none⟩ = some (.int .i64 o.c) := ((KC.out _ HW.out).2 2 (by omega)).2
      have d3 : wr.cell? ⟨w.heap.size + 1, 3, none⟩ = some (.int .i64 o.d) := ((KC.out _ HW.out).2 3 (by omega)).2
      have d4 : wr.cell? ⟨w.heap.size + 1, 4, none⟩ = some (.int .i64 o.e) := ((KC.out _ HW.out).2 4 (by omega)).2
      go_wp2_with fail
      refine (HFO.out _).mono ?_; rintro e w2 ⟨rfl, hb⟩
      have HW2 : Hid (Below (w.heap.size + 3) W1 w2) := HW.out.trans (hb.mono (by have := HZ.out; omega))
      have HR2 : Hid (Row w2 (w.heap.size + 3) 23 (arrV (tupL l))) := HR.out.below hb (by have := HZ.out; omega)
      have HZ2 : Hid (w.heap.size + 4 ≤ w2.heap.size) := Nat.le_trans HZ.out hb.size
      clear hb HW HZ HR d0 d1 d2 d3 d4
      cases fb with
      | false =>
        have hi0 : i = 0 := by
          rcases Nat.eq_zero_or_pos i with h | h
          · exact h
          · exact absurd (HN.out 0 h).1 (by decide)
        have hl0 : l = [] := by rw [HL.out, hi0]; rfl
        have HRX : Hid (Row w2 (w.heap.size + 3) 23 (arrV u)) := by
          have := HR2.out
          rw [hl0, HF0.out rfl] at this
          exact this
        have HWX := HW2
        clear HR2 HW2 hi0 hl0 HL HN HF0 HF1 HRNG HFO
        have hrx := HRX.out
        have h2x := HR3.out.below HWX.out (by omega)
        have q0 : w2.cell? ⟨w.heap.size + 3, 0, none⟩ = some (.int .i64 u.a) := hrx.cell 0
        have q1 : w2.cell? ⟨w.heap.size + 3, 1, none⟩ = some (.int .i64 u.b) := hrx.cell 1
        have q2 : w2.cell? ⟨w.heap.size + 3, 2, none⟩ = some (.int .i64 u.c) := hrx.cell 2
        have q3 : w2.cell? ⟨w.heap.size + 3, 3, none⟩ = some (.int .i64 u.d) := hrx.cell 3
        have q4 : w2.cell? ⟨w.heap.size + 3, 4, none⟩ = some (.int .i64 u.e) := hrx.cell 4
        have p0 : w2.cell? ⟨w.heap.size + 2, 0, none⟩ = some (.int .i64 0) := h2x.cell 0
        have p1 : w2.cell? ⟨w.heap.size + 2, 1, none⟩ = some (.int .i64 0) := h2x.cell 1
        have p2 : w2.cell? ⟨w.heap.size + 2, 2, none⟩ = some (.int .i64 0) := h2x.cell 2
        have p3 : w2.cell? ⟨w.heap.size + 2, 3, none⟩ = some (.int .i64 0) := h2x.cell 3
        have p4 : w2.cell? ⟨w.heap.size + 2, 4, none⟩ = some (.int .i64 0) := h2x.cell 4
        have z0 := h2x.free 0
        have z1 := h2x.free 1
        have z2 := h2x.free 2
        have z3 := h2x.free 3
        have z4 := h2x.free 4
        have H5 := Lib.hid (set5c h2x (.int .i64 u.a) (.int .i64 u.b) (.int .i64 u.c) (.int .i64 u.d) (.int .i64 u.e))
        have HBX : Hid (Below w.heap.size w (((((w2.setCell ⟨w.heap.size + 2, 0, none⟩ (.int .i64 u.a)).setCell ⟨w.heap.size + 2, 1, none⟩ (.int .i64 u.b)).setCell ⟨w.heap.size + 2, 2, none⟩ (.int .i64 u.c)).setCell ⟨w.heap.size + 2, 3, none⟩ (.int .i64 u.d)).setCell ⟨w.heap.size + 2, 4, none⟩ (.int .i64 u.e))) := by
          have h9 := (KC.out _ HWX.out).1
          exact (((((h9.setCell (p := ⟨w.heap.size + 2, 0, none⟩) (by simp) _).setCell (p := ⟨w.heap.size + 2, 1, none⟩) (by simp) _).setCell (p := ⟨w.heap.size + 2, 2, none⟩) (by simp) _).setCell (p := ⟨w.heap.size + 2, 3, none⟩) (by simp) _).setCell (p := ⟨w.heap.size + 2, 4, none⟩) (by simp) _)
        clear hrx h2x HRX HWX HR3
        go_wp2
        have r0 := H5.out.cell 0
        have r1 := H5.out.cell 1
        have r2 := H5.out.cell 2
        have r3 := H5.out.cell 3
        have r4 := H5.out.cell 4
        simp only [List.getElem?_cons_zero, List.getElem?_cons_succ] at r0 r1 r2 r3 r4
        exact bodyPost_ret (v := .agg #[.int .i64 u.a, .int .i64 u.b, .int .i64 u.c, .int .i64 u.d, .int .i64 u.e]) (by simp [results, Try.results14, go_sem, r0, r1, r2, r3, r4]) rfl ⟨rfl, HBX.out⟩
      | true =>
        obtain ⟨z, hz⟩ : ∃ z, z = colT o i := ⟨_, rfl⟩
        have y5 : w2.cell? ⟨w.heap.size + 1, i, none⟩ = some (.int .i64 z) := by rw [hz]; exact ((KC.out _ HW2.out).2 i hlt).2
        by_cases hz0 : z = 0
        · have gz : (z != 0) = false := by simpa using hz0
          have HRX : Hid (Row w2 (w.heap.size + 3) 23 (arrV u)) := by
            have := HR2.out
            rw [HF1.out i l hi HL.out rfl (fun j hj => (HN.out j hj).2) (.inr (by rw [← hz]; exact hz0))] at this
            exact this
          have HWX := HW2
          clear HR2 HW2 HL HN HF0 HF1 HRNG HFO hz hz0
          have hrx := HRX.out
          have h2x := HR3.out.below HWX.out (by omega)
          have q0 : w2.cell? ⟨w.heap.size + 3, 0, none⟩ = some (.int .i64 u.a) := hrx.cell 0
          have q1 : w2.cell? ⟨w.heap.size + 3, 1, none⟩ = some (.int .i64 u.b) := hrx.cell 1
          have q2 : w2.cell? ⟨w.heap.size + 3, 2, none⟩ = some (.int .i64 u.c) := hrx.cell 2
          have q3 : w2.cell? ⟨w.heap.size + 3, 3, none⟩ = some (.int .i64 u.d) := hrx.cell 3
          have q4 : w2.cell? ⟨w.heap.size + 3, 4, none⟩ = some (.int .i64 u.e) := hrx.cell 4
          have p0 : w2.cell? ⟨w.heap.size + 2, 0, none⟩ = some (.int .i64 0) := h2x.cell 0
          have p1 : w2.cell? ⟨w.heap.size + 2, 1, none⟩ = some (.int .i64 0) := h2x.cell 1
          have p2 : w2.cell? ⟨w.heap.size + 2, 2, none⟩ = some (.int .i64 0) := h2x.cell 2
          have p3 : w2.cell? ⟨w.heap.size + 2, 3, none⟩ = some (.int .i64 0) := h2x.cell 3
          have p4 : w2.cell? ⟨w.heap.size + 2, 4, none⟩ = some (.int .i64 0) := h2x.cell 4
          have z0 := h2x.free 0
          have z1 := h2x.free 1
          have z2 := h2x.free 2
          have z3 := h2x.free 3
          have z4 := h2x.free 4
          have H5 := Lib.hid (set5c h2x (.int .i64 u.a) (.int .i64 u.b) (.int .i64 u.c) (.int .i64 u.d) (.int .i64 u.e))
          have HBX : Hid (Below w.heap.size w (((((w2.setCell ⟨w.heap.size + 2, 0, none⟩ (.int .i64 u.a)).setCell ⟨w.heap.size + 2, 1, none⟩ (.int .i64 u.b)).setCell ⟨w.heap.size + 2, 2, none⟩ (.int .i64 u.c)).setCell ⟨w.heap.size + 2, 3, none⟩ (.int .i64 u.d)).setCell ⟨w.heap.size + 2, 4, none⟩ (.int .i64 u.e))) := by
            have h9 := (KC.out _ HWX.out).1
            exact (((((h9.setCell (p := ⟨w.heap.size + 2, 0, none⟩) (by simp) _).setCell (p := ⟨w.heap.size + 2, 1, none⟩) (by simp) _).setCell (p := ⟨w.heap.size + 2, 2, none⟩) (by simp) _).setCell (p := ⟨w.heap.size + 2, 3, none⟩) (by simp) _).setCell (p := ⟨w.heap.size + 2, 4, none⟩) (by simp) _)
          clear hrx h2x HRX HWX HR3
          go_wp2
          have r0 := H5.out.cell 0
          have r1 := H5.out.cell 1
          have r2 := H5.out.cell 2
          have r3 := H5.out.cell 3
          have r4 := H5.out.cell 4
          simp only [List.getElem?_cons_zero, List.getElem?_cons_succ] at r0 r1 r2 r3 r4
          exact bodyPost_ret (v := .agg #[.int .i64 u.a, .int .i64 u.b, .int .i64 u.c, .int .i64 u.d, .int .i64 u.e]) (by simp [results, Try.results14, go_sem, r0, r1, r2, r3, r4]) rfl ⟨rfl, HBX.out⟩
        · have gz : (z != 0) = true := by simpa using hz0
          have hrz : -5 ≤ z ∧ z ≤ 5 := by rw [hz]; exact HRNG.out rfl i hlt
          have hk5 := kol_lt hz0 hrz
          have HQ := Lib.hid (rcol_any z hrz w2)
          rw [clm_kol hz0] at HQ
          obtain ⟨x, hx⟩ : ∃ x, x = colT t (kol z) := ⟨_, rfl⟩
          have yx : w2.cell? ⟨w.heap.size, kol z, none⟩ = some (.int .i64 x) := by rw [hx]; exact ((KC.out _ HW2.out).2 _ hk5).1
          have hll : l.length = i := by rw [HL.out, List.length_map, List.length_take, Tup.cols_len]; omega
          have HL2 : Hid (l ++ [x] = (o.cols.take (i + 1)).map fun k => colT t (kol k)) := by
            unfold Hid
            rw [take_snoc hlt, List.map_append, ← HL.out, hx, hz]; rfl
          have HN2 : Hid (∀ j, j < i + 1 → true = true ∧ colT o j ≠ 0) := fun j hj => by
            by_cases e : j = i
            · rw [e, ← hz]; exact ⟨rfl, hz0⟩
            · exact HN.out j (by omega)
          have HRS : Hid (Row (w2.setCell ⟨w.heap.size + 3, i, none⟩ (.int .i64 x)) (w.heap.size + 3) 23 (arrV (tupL (l ++ [x])))) := by
            have := HR2.out.set i (.int .i64 x)
            rw [arr_set hll hlt] at this
            exact this
          have HWS : Hid (Below (w.heap.size + 3) W1 (w2.setCell ⟨w.heap.size + 3, i, none⟩ (.int .i64 x))) := HW2.out.setCell (p := ⟨w.heap.size + 3, i, none⟩) (by simp) _
          have HZS : Hid (w.heap.size + 4 ≤ (w2.setCell ⟨w.heap.size + 3, i, none⟩ (.int .i64 x)).heap.size) := by unfold Hid; simp; exact HZ2.out
          have cs : ∃ v, w2.cell? ⟨w.heap.size + 3, i, none⟩ = some v := ⟨_, arr_cell HR2.out hlt⟩
          obtain ⟨v9, cs⟩ := cs
          have fz := HR2.out.free i
          have k0 : (0 : Int) ≤ ((kol z : Nat) : Int) := by omega
          have k1 : ((kol z : Nat) : Int) < 5 := by omega
          generalize kol z = c at *
          clear hx hz hz0 hrz hll HR2 HW2 HL HN HZ2
          go_wp2_with fail
          refine HQ.out.mono ?_; rintro e w3 ⟨rfl, rfl⟩
          go_wp2
          go_roundw
          case rel => exact ⟨i + 1, _, by omega, by go_num, HWS.out, HZS.out, HRS.out, HL2.out, HN2.out⟩
          case measure => simp [intOf]; omega
    · obtain rfl : i = 5 := by omega
      have hfb := (HN.out 0 (by omega)).1
      have HRX : Hid (Row wr (w.heap.size + 3) 23 (arrV u)) := by
        have := HR.out
        rw [HF1.out 5 l hi HL.out hfb (fun j hj => (HN.out j hj).2) (.inl rfl)] at this
        exact this
      have HWX := HW
      clear HR HW HL HN HZ HF0 HF1 HRNG HFO hfb
      have hrx := HRX.out
      have h2x := HR3.out.below HWX.out (by omega)
      have q0 : wr.cell? ⟨w.heap.size + 3, 0, none⟩ = some (.int .i64 u.a) := hrx.cell 0
      have q1 : wr.cell? ⟨w.heap.size + 3, 1, none⟩ = some (.int .i64 u.b) := hrx.cell 1
      have q2 : wr.cell? ⟨w.heap.size + 3, 2, none⟩ = some (.int .i64 u.c) := hrx.cell 2
      have q3 : wr.cell? ⟨w.heap.size + 3, 3, none⟩ = some (.int .i64 u.d) := hrx.cell 3
      have q4 : wr.cell? ⟨w.heap.size + 3, 4, none⟩ = some (.int .i64 u.e) := hrx.cell 4
      have p0 : wr.cell? ⟨w.heap.size + 2, 0, none⟩ = some (.int .i64 0) := h2x.cell 0
      have p1 : wr.cell? ⟨w.heap.size + 2, 1, none⟩ = some (.int .i64 0) := h2x.cell 1
      have p2 : wr.cell? ⟨w.heap.size + 2, 2, none⟩ = some (.int .i64 0) := h2x.cell 2
      have p3 : wr.cell? ⟨w.heap.size + 2, 3, none⟩ = some (.int .i64 0) := h2x.cell 3
      have p4 : wr.cell? ⟨w.heap.size + 2, 4, none⟩ = some (.int .i64 0) := h2x.cell 4
      have z0 := h2x.free 0
      have z1 := h2x.free 1
      have z2 := h2x.free 2
      have z3 := h2x.free 3
      have z4 := h2x.free 4
      have H5 := Lib.hid (set5c h2x (.int .i64 u.a) (.int .i64 u.b) (.int .i64 u.c) (.int .i64 u.d) (.int .i64 u.e))
      have HBX : Hid (Below w.heap.size w (((((wr.setCell ⟨w.heap.size + 2, 0, none⟩ (.int .i64 u.a)).setCell ⟨w.heap.size + 2, 1, none⟩ (.int .i64 u.b)).setCell ⟨w.heap.size + 2, 2, none⟩ (.int .i64 u.c)).setCell ⟨w.heap.size + 2, 3, none⟩ (.int .i64 u.d)).setCell ⟨w.heap.size + 2, 4, none⟩ (.int .i64 u.e))) := by
        have h9 := (KC.out _ HWX.out).1
        exact (((((h9.setCell (p := ⟨w.heap.size + 2, 0, none⟩) (by simp) _).setCell (p := ⟨w.heap.size + 2, 1, none⟩) (by simp) _).setCell (p := ⟨w.heap.size + 2, 2, none⟩) (by simp) _).setCell (p := ⟨w.heap.size + 2, 3, none⟩) (by simp) _).setCell (p := ⟨w.heap.size + 2, 4, none⟩) (by simp) _)
      clear hrx h2x HRX HWX HR3
      go_wp2
      have r0 := H5.out.cell 0
      have r1 := H5.out.cell 1
      have r2 := H5.out.cell 2
      have r3 := H5.out.cell 3
      have r4 := H5.out.cell 4
      simp only [List.getElem?_cons_zero, List.getElem?_cons_succ] at r0 r1 r2 r3 r4
      exact bodyPost_ret (v := .agg #[.int .i64 u.a, .int .i64 u.b, .int .i64 u.c, .int .i64 u.d, .int .i64 u.e]) (by simp [results, Try.results14, go_sem, r0, r1, r2, r3, r4]) rfl ⟨rfl, HBX.out⟩
end Go.Proofs.Ytoimpiimlekakaa
