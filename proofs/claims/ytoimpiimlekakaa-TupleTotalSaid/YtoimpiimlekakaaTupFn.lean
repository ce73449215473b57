/- The code's orders: column, Formed; cmp.Compare of two numbers. -/
import Derived.Test.YtoimpiimlekakaaTupRef
namespace Go.Proofs.Ytoimpiimlekakaa
open Go.ChangeShapes Go.WideShapes Go.ChangeAt Go.RowKit

theorem col_any (k : Int) (hk : -5 ≤ k ∧ k ≤ 5) (w : World) : Calls Try.prog 18 #[.int .i64 k] w fun e w' => e = .returned (.int .i64 (clm k)) ∧ w' = w := by
  by_cases h : k < 0
  · have g : decide (k < 0) = true := by simpa using h
    have e : clm k = -k - 1 := by unfold clm; rw [if_pos h]
    rw [e]
    go_enter Try.func18, Try.ntmps18
    go_wp2
    go_ret
    exact ⟨rfl, rfl⟩
  · have g : decide (k < 0) = false := by simpa using h
    have e : clm k = k - 1 := by unfold clm; rw [if_neg h]
    rw [e]
    go_enter Try.func18, Try.ntmps18
    go_wp2
    go_ret
    exact ⟨rfl, rfl⟩
def cmpI (x y : Int) : Int := if x < y then -1 else if x = y then 0 else 1
theorem nan_any (k : Int) (w : World) : Calls Try.prog 22 #[.int .i64 k] w fun e w' => e = .returned (.bool false) ∧ w' = w := by
  have g : (k != k) = false := by simp
  go_enter Try.func22, Try.ntmps22
  go_wp2
  go_ret
  exact ⟨rfl, rfl⟩
theorem icmp_any (x y : Int) (w : World) : Calls Try.prog 21 #[.int .i64 x, .int .i64 y] w fun e w' => e = .returned (.int .i64 (cmpI x y)) ∧ w' = w := by
  have HX := Lib.hid (nan_any x)
  have HY := Lib.hid (nan_any y)
  rcases Int.lt_trichotomy x y with h | h | h
  · have e : cmpI x y = -1 := by unfold cmpI; rw [if_pos h]
    have g : decide (x < y) = true := by simpa using h
    rw [e]
    clear h e
    go_enter Try.func21, Try.ntmps21
    go_wp2_with fail
    refine (HX.out _).mono ?_; rintro e w2 ⟨rfl, rfl⟩
    go_wp2_with fail
    refine (HY.out _).mono ?_; rintro e w3 ⟨rfl, rfl⟩
    go_wp2
    go_ret
    exact ⟨rfl, rfl⟩
  · have e : cmpI x y = 0 := by unfold cmpI; rw [if_neg (by omega), if_pos h]
    have g : decide (x < y) = false := by simp; omega
    have g2 : decide (x > y) = false := by simp; omega
    rw [e]
    clear h e
    go_enter Try.func21, Try.ntmps21
    go_wp2_with fail
    refine (HX.out _).mono ?_; rintro e w2 ⟨rfl, rfl⟩
    go_wp2_with fail
    refine (HY.out _).mono ?_; rintro e w3 ⟨rfl, rfl⟩
    go_wp2
    go_ret
    exact ⟨rfl, rfl⟩
  · have e : cmpI x y = 1 := by unfold cmpI; rw [if_neg (by omega), if_neg (by omega)]
    have g : decide (x < y) = false := by simp; omega
    have g2 : decide (x > y) = true := by simp; omega
    rw [e]
    clear h e
    go_enter Try.func21, Try.ntmps21
    go_wp2_with fail
    refine (HX.out _).mono ?_; rintro e w2 ⟨rfl, rfl⟩
    go_wp2_with fail
    refine (HY.out _).mono ?_; rintro e w3 ⟨rfl, rfl⟩
    go_wp2
    go_ret
    exact ⟨rfl, rfl⟩
/-- boxes laid one behind the other -/
theorem boxes2 (w : World) (a b : List Value) (A B : TypeId) : ∃ W1, W1 = (w.alloc (.cells a.toArray A)).alloc (.cells b.toArray B) ∧ Below w.heap.size w W1 ∧ W1.heap.size = w.heap.size + 2 ∧ Row W1 w.heap.size A a ∧ Row W1 (w.heap.size + 1) B b := by
  have b1 : Below w.heap.size w (w.alloc (.cells a.toArray A)) := (Below.refl _ _).alloc (Nat.le_refl _) _
  have r1 : Row (w.alloc (.cells a.toArray A)) w.heap.size A a := heap_alloc_new _ _
  have s1 : (w.alloc (.cells a.toArray A)).heap.size = w.heap.size + 1 := by simp
  refine ⟨_, rfl, b1.alloc (by omega) _, by simp, r1.alloc _, ?_⟩
  rw [← s1]; exact heap_alloc_new _ _
theorem boxes3 (w : World) (a b c : List Value) (A B C : TypeId) : ∃ W1, W1 = ((w.alloc (.cells a.toArray A)).alloc (.cells b.toArray B)).alloc (.cells c.toArray C) ∧ Below w.heap.size w W1 ∧ W1.heap.size = w.heap.size + 3 ∧ Row W1 w.heap.size A a ∧ Row W1 (w.heap.size + 1) B b ∧ Row W1 (w.heap.size + 2) C c := by
  obtain ⟨W, e, b1, s1, r1, r2⟩ := boxes2 w a b A B
  refine ⟨_, rfl, ?_⟩
  rw [← e]
  refine ⟨b1.alloc (by omega) _, by simp [s1], r1.alloc _, r2.alloc _, ?_⟩
  rw [← s1]; exact heap_alloc_new _ _
theorem boxes4 (w : World) (a b c d : List Value) (A B C D : TypeId) : ∃ W1, W1 = (((w.alloc (.cells a.toArray A)).alloc (.cells b.toArray B)).alloc (.cells c.toArray C)).alloc (.cells d.toArray D) ∧ Below w.heap.size w W1 ∧ W1.heap.size = w.heap.size + 4 ∧ Row W1 w.heap.size A a ∧ Row W1 (w.heap.size + 1) B b ∧ Row W1 (w.heap.size + 2) C c ∧ Row W1 (w.heap.size + 3) D d := by
  obtain ⟨W, e, b1, s1, r1, r2, r3⟩ := boxes3 w a b c A B C
  refine ⟨_, rfl, ?_⟩
  rw [← e]
  refine ⟨b1.alloc (by omega) _, by simp [s1], r1.alloc _, r2.alloc _, r3.alloc _, ?_⟩
  rw [← s1]; exact heap_alloc_new _ _
theorem index_any (T : TypeId) (hT : T = 25) (o : Tup) {i : Nat} (hi : i < 5) (w : World) : (Instr.index T (.agg #[.int .i64 o.a, .int .i64 o.b, .int .i64 o.c, .int .i64 o.d, .int .i64 o.e]) (.int .i64 (i : Int))).run Try.prog w = .ok (.int .i64 (colT o i)) w := by
  subst hT
  match i, hi with
  | 0, _ => exact (by kernel_rfl : (Instr.index 25 (.agg #[.int .i64 o.a, .int .i64 o.b, .int .i64 o.c, .int .i64 o.d, .int .i64 o.e]) (.int .i64 0)).run Try.prog w = .ok (.int .i64 o.a) w)
  | 1, _ => exact (by kernel_rfl : (Instr.index 25 (.agg #[.int .i64 o.a, .int .i64 o.b, .int .i64 o.c, .int .i64 o.d, .int .i64 o.e]) (.int .i64 1)).run Try.prog w = .ok (.int .i64 o.b) w)
  | 2, _ => exact (by kernel_rfl : (Instr.index 25 (.agg #[.int .i64 o.a, .int .i64 o.b, .int .i64 o.c, .int .i64 o.d, .int .i64 o.e]) (.int .i64 2)).run Try.prog w = .ok (.int .i64 o.c) w)
  | 3, _ => exact (by kernel_rfl : (Instr.index 25 (.agg #[.int .i64 o.a, .int .i64 o.b, .int .i64 o.c, .int .i64 o.d, .int .i64 o.e]) (.int .i64 3)).run Try.prog w = .ok (.int .i64 o.d) w)
  | 4, _ => exact (by kernel_rfl : (Instr.index 25 (.agg #[.int .i64 o.a, .int .i64 o.b, .int .i64 o.c, .int .i64 o.d, .int .i64 o.e]) (.int .i64 4)).run Try.prog w = .ok (.int .i64 o.e) w)
def boolV (s : List Bool) : List Value := s.map Value.bool
theorem boolV_at {s : List Bool} {c : Nat} (h : c < s.length) : (boolV s)[c]? = some (.bool (s.getD c false)) := by
  unfold boolV
  rw [List.getElem?_map, List.getElem?_eq_getElem h, List.getD_eq_getElem?_getD, List.getElem?_eq_getElem h]; rfl
theorem boolV_set (s : List Bool) (c : Nat) (b : Bool) : (boolV s).set c (.bool b) = boolV (s.set c b) := by
  unfold boolV; rw [List.map_set]
set_option maxHeartbeats 2000000 in
set_option maxRecDepth 100000 in
theorem formed_any (o : Tup) (w : World) : Calls Try.prog 9 #[.agg #[.int .i64 o.a, .int .i64 o.b, .int .i64 o.c, .int .i64 o.d, .int .i64 o.e]] w fun e w' => e = .returned (.bool (decide (Fm o))) ∧ Below w.heap.size w w' := by
  obtain ⟨W1, hW1, b1, s1, r1, r2⟩ := boxes2 w [.int .i64 o.a, .int .i64 o.b, .int .i64 o.c, .int .i64 o.d, .int .i64 o.e] [.bool false, .bool false, .bool false, .bool false, .bool false] 25 41
  have HW1 := Lib.hid hW1
  have HB := Lib.hid b1
  have HSZ := Lib.hid s1
  have HR2 : Hid (Row W1 (w.heap.size + 1) 41 (boolV [false, false, false, false, false])) := r2
  have d0 : W1.cell? ⟨w.heap.size, 0, none⟩ = some (.int .i64 o.a) := r1.cell 0
  have d1 : W1.cell? ⟨w.heap.size, 1, none⟩ = some (.int .i64 o.b) := r1.cell 1
  have d2 : W1.cell? ⟨w.heap.size, 2, none⟩ = some (.int .i64 o.c) := r1.cell 2
  have d3 : W1.cell? ⟨w.heap.size, 3, none⟩ = some (.int .i64 o.d) := r1.cell 3
  have d4 : W1.cell? ⟨w.heap.size, 4, none⟩ = some (.int .i64 o.e) := r1.cell 4
  have HNO : Hid (∀ i, i < 5 → ¬ FmAt o i → decide (Fm o) = false) := fun i hi h => decide_eq_false fun hf => h (hf i hi)
  have HYES : Hid ((∀ i, i < 5 → FmAt o i) → decide (Fm o) = true) := fun h => decide_eq_true h
  have HIX : Hid (∀ i : Nat, i < 5 → ∀ W : World, (Instr.index 25 (.agg #[.int .i64 o.a, .int .i64 o.b, .int .i64 o.c, .int .i64 o.d, .int .i64 o.e]) (.int .i64 (i : Int))).run Try.prog W = .ok (.int .i64 (colT o i)) W) := fun i hi W => index_any _ rfl o hi W
  generalize decide (Fm o) = res at *
  clear r1 r2 b1 s1 hW1
  go_enter Try.func9, Try.ntmps9
  go_upto_region 2 with (fail)
  rw [← HW1.out]
  clear HW1
  go_wp2_with fail
  go_loopw [4, 8] (fun ev iv wr => ∃ (i : Nat) (e : Bool) (s : List Bool), i ≤ 5 ∧ iv = .int .i64 (i : Int) ∧ ev = .bool e ∧ Hid (Below w.heap.size w wr) ∧ Hid (w.heap.size + 2 ≤ wr.heap.size) ∧ Hid (Row wr (w.heap.size + 1) 41 (boolV s)) ∧ Hid (s.length = 5) ∧ Hid (∀ j, j < i → FmAt o j) ∧ Hid (e = true ↔ ∃ j, j < i ∧ colT o j = 0) ∧ Hid (∀ c, c < 5 → (s.getD c false = true ↔ ∃ j, j < i ∧ colT o j ≠ 0 ∧ kol (colT o j) = c))) (fun _ iv _ => 5 - (intOf iv).toNat)
  case atStart =>
    refine ⟨0, false, [false, false, false, false, false], by omega, rfl, rfl, HB.out, Nat.le_of_eq HSZ.out.symm, HR2.out, rfl, fun j hj => by omega, ⟨fun h => (by cases h), fun ⟨j, hj, _⟩ => (by omega)⟩, fun c hc => ⟨fun h => ?_, fun ⟨j, hj, _⟩ => (by omega)⟩⟩
    match c, hc with
    | 0, _ => cases h
    | 1, _ => cases h
    | 2, _ => cases h
    | 3, _ => cases h
    | 4, _ => cases h
  case round =>
    obtain ⟨i, e, s, hi, rfl, rfl, HW, HZ, HR, HSL, HF, HE, HS⟩ := hrel
    clear HB HSZ HR2
    by_cases hlt : i < 5
    · have g1 : decide ((i : Int) < 5) = true := by simp; omega
      have i0 : (0 : Int) ≤ (i : Int) := by omega
      have i1 : (i : Int) < 5 := by omega
      obtain ⟨x, hx⟩ : ∃ x, x = colT o i := ⟨_, rfl⟩
      have Hx := Lib.hid hx
      have hix : ∀ W : World, (Instr.index 25 (.agg #[.int .i64 o.a, .int .i64 o.b, .int .i64 o.c, .int .i64 o.d, .int .i64 o.e]) (.int .i64 (i : Int))).run Try.prog W = .ok (.int .i64 x) W := fun W => by rw [hx]; exact HIX.out i hlt W
      clear hx
      by_cases hx0 : x = 0
      · have gx : (x == 0) = true := by simpa using hx0
        have gx' : decide (x = 0) = true := by simpa using hx0
        have HF2 : Hid (∀ j, j < i + 1 → FmAt o j) := fun j hj => by
          by_cases e : j = i
          · rw [e]; unfold FmAt; rw [← Hx.out, hx0]; exact ⟨by omega, fun k _ h => absurd rfl h⟩
          · exact HF.out j (by omega)
        have HE2 : Hid (true = true ↔ ∃ j, j < i + 1 ∧ colT o j = 0) := ⟨fun _ => ⟨i, by omega, by rw [← Hx.out, hx0]⟩, fun _ => rfl⟩
        have HS2 : Hid (∀ c, c < 5 → (s.getD c false = true ↔ ∃ j, j < i + 1 ∧ colT o j ≠ 0 ∧ kol (colT o j) = c)) := fun c hc => by
          rw [HS.out c hc]
          refine ⟨fun ⟨j, hj, h⟩ => ⟨j, by omega, h⟩, fun ⟨j, hj, h⟩ => ⟨j, ?_, h⟩⟩
          by_cases e : j = i
          · rw [e, ← Hx.out] at h; exact absurd hx0 h.1
          · omega
        clear hx0 HF HE HS
        go_wp2
        go_roundw
        case rel => exact ⟨i + 1, true, s, by omega, by go_num, rfl, HW.out, HZ.out, HR.out, HSL.out, HF2.out, HE2.out, HS2.out⟩
        case measure => simp [intOf]; omega
      · have gx : (x == 0) = false := by simpa using hx0
        have gx' : decide (x = 0) = false := by simpa using hx0
        cases e with
        | true =>
          have hres : res = false := HNO.out i hlt fun h => by
            obtain ⟨j, hj, h0⟩ := HE.out.1 rfl
            exact (h.2 j hj (by rw [← Hx.out]; exact hx0)).1 h0
          subst hres
          clear hx0
          go_wp2
          go_ret
          exact ⟨rfl, HW.out⟩
        | false =>
          by_cases h1 : x < -5
          · have hres : res = false := HNO.out i hlt fun h => by have := h.1; rw [← Hx.out] at this; omega
            have g2 : decide (x < -5) = true := by simpa using h1
            subst hres
            clear hx0
            go_wp2
            go_ret
            exact ⟨rfl, HW.out⟩
          · have g2 : decide (x < -5) = false := by simpa using h1
            by_cases h2 : x > 5
            · have hres : res = false := HNO.out i hlt fun h => by have := h.1; rw [← Hx.out] at this; omega
              have g3 : decide (x > 5) = true := by simpa using h2
              subst hres
              clear hx0
              go_wp2
              go_ret
              exact ⟨rfl, HW.out⟩
            · have g3 : decide (x > 5) = false := by simpa using h2
              have hrx : -5 ≤ x ∧ x ≤ 5 := ⟨by omega, by omega⟩
              have Hrx := Lib.hid hrx
              have hk5 := kol_lt hx0 hrx
              have HQ := Lib.hid (col_any x hrx)
              rw [clm_kol hx0] at HQ
              obtain ⟨b, hb⟩ : ∃ b, b = s.getD (kol x) false := ⟨_, rfl⟩
              have cb : wr.cell? ⟨w.heap.size + 1, kol x, none⟩ = some (.bool b) := by rw [HR.out.cell, boolV_at (by rw [HSL.out]; exact hk5), hb]
              have fz := HR.out.free (kol x)
              have HSX := HS.out (kol x) hk5
              rw [← hb] at HSX
              have k0 : (0 : Int) ≤ ((kol x : Nat) : Int) := by omega
              have k1 : ((kol x : Nat) : Int) < 5 := by omega
              cases b with
              | true =>
                have hres : res = false := HNO.out i hlt fun h => by
                  obtain ⟨j, hj, h0, hk⟩ := HSX.1 rfl
                  exact (h.2 j hj (by rw [← Hx.out]; exact hx0)).2 (by rw [hk, ← Hx.out])
                subst hres
                clear hx0 h1 h2 HSX hrx hb
                generalize kol x = c at *
                go_wp2_with fail
                refine (HQ.out _).mono ?_; rintro e w2 ⟨rfl, rfl⟩
                go_wp2
                go_ret
                exact ⟨rfl, HW.out⟩
              | false =>
                have hne : ∀ j, j < i → colT o j ≠ 0 := fun j hj h => by have := HE.out.2 ⟨j, hj, h⟩; cases this
                have HF2 : Hid (∀ j, j < i + 1 → FmAt o j) := fun j hj => by
                  by_cases e : j = i
                  · rw [e]; unfold FmAt; rw [← Hx.out]
                    exact ⟨hrx, fun k hk _ => ⟨hne k hk, fun h => by have := HSX.2 ⟨k, hk, hne k hk, h⟩; cases this⟩⟩
                  · exact HF.out j (by omega)
                have HE2 : Hid (false = true ↔ ∃ j, j < i + 1 ∧ colT o j = 0) := ⟨fun h => (by cases h), fun ⟨j, hj, h⟩ => by
                  by_cases e : j = i
                  · rw [e, ← Hx.out] at h; exact absurd h hx0
                  · exact absurd h (hne j (by omega))⟩
                have HS2 : Hid (∀ c, c < 5 → ((s.set (kol x) true).getD c false = true ↔ ∃ j, j < i + 1 ∧ colT o j ≠ 0 ∧ kol (colT o j) = c)) := fun c hc => by
                  rw [List.getD_eq_getElem?_getD, List.getElem?_set]
                  by_cases ec : kol x = c
                  · rw [if_pos ec, if_pos (by have := HSL.out; omega)]
                    exact ⟨fun _ => ⟨i, by omega, by rw [← Hx.out]; exact hx0, by rw [← Hx.out]; exact ec⟩, fun _ => rfl⟩
                  · rw [if_neg ec, ← List.getD_eq_getElem?_getD, HS.out c hc]
                    refine ⟨fun ⟨j, hj, h⟩ => ⟨j, by omega, h⟩, fun ⟨j, hj, h⟩ => ⟨j, ?_, h⟩⟩
                    by_cases e : j = i
                    · rw [e, ← Hx.out] at h; exact absurd h.2 ec
                    · omega
                have HL2 : Hid ((s.set (kol x) true).length = 5) := by unfold Hid; rw [List.length_set]; exact HSL.out
                have HR3 : Hid (Row (wr.setCell ⟨w.heap.size + 1, kol x, none⟩ (.bool true)) (w.heap.size + 1) 41 (boolV (s.set (kol x) true))) := by
                  have := HR.out.set (kol x) (.bool true)
                  rw [boolV_set] at this
                  exact this
                have HW3 : Hid (Below w.heap.size w (wr.setCell ⟨w.heap.size + 1, kol x, none⟩ (.bool true))) := HW.out.setCell (p := ⟨w.heap.size + 1, kol x, none⟩) (by simp) _
                have HZ3 : Hid (w.heap.size + 2 ≤ (wr.setCell ⟨w.heap.size + 1, kol x, none⟩ (.bool true)).heap.size) := by unfold Hid; simp; exact HZ.out
                clear hx0 h1 h2 HSX hrx hb hne HF HE HS HSL HR HW HZ
                generalize s.set (kol x) true = s2 at *
                generalize kol x = c at *
                go_wp2_with fail
                refine (HQ.out _).mono ?_; rintro e w2 ⟨rfl, rfl⟩
                go_wp2_with fail
                refine (HQ.out _).mono ?_; rintro e w2 ⟨rfl, rfl⟩
                go_wp2
                go_roundw
                case rel => exact ⟨i + 1, false, s2, by omega, by go_num, rfl, HW3.out, HZ3.out, HR3.out, HL2.out, HF2.out, HE2.out, HS2.out⟩
                case measure => simp [intOf]; omega
    · have g1 : decide ((i : Int) < 5) = false := by simp; omega
      have hres : res = true := HYES.out fun j hj => HF.out j (by omega)
      subst hres
      go_wp2
      go_ret
      exact ⟨rfl, HW.out⟩
end Go.Proofs.Ytoimpiimlekakaa
