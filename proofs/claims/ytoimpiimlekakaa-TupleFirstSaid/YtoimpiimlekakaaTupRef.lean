/- The reference's orders: column, Formed, Compare. -/
import Derived.Test.YtoimpiimlekakaaTupMath
import Derived.Test.YtoimpiimlekakaaPairs
import Derived.BigQuiet
namespace Go.Proofs.Ytoimpiimlekakaa
open Go.ChangeShapes Go.WideShapes Go.ChangeAt Go.RowKit

def clm (k : Int) : Int := if k < 0 then -k - 1 else k - 1
theorem clm_kol {k : Int} (h : k ≠ 0) : clm k = ((kol k : Nat) : Int) := by
  unfold clm
  split
  · rw [kol_min (by omega)]
  · rw [kol_pos (by omega)]
theorem kol_lt {k : Int} (_h0 : k ≠ 0) (h : -5 ≤ k ∧ k ≤ 5) : kol k < 5 := by unfold kol; omega
def arrV (t : Tup) : List Value := [.int .i64 t.a, .int .i64 t.b, .int .i64 t.c, .int .i64 t.d, .int .i64 t.e]
theorem arr_cell {W : World} {g : Nat} {T : TypeId} {t : Tup} (h : Row W g T (arrV t)) {i : Nat} (hi : i < 5) : W.cell? ⟨g, i, none⟩ = some (.int .i64 (colT t i)) := by
  rw [h.cell i]
  match i, hi with
  | 0, _ => rfl
  | 1, _ => rfl
  | 2, _ => rfl
  | 3, _ => rfl
  | 4, _ => rfl
theorem below_dN {B : Nat} {a w : World} (h : Below B a w) (q : Nat) : Below B a (w.drewN q) := ⟨h.os, h.tape, h.output, h.size, h.block⟩
theorem rcol_any (k : Int) (hk : -5 ≤ k ∧ k ≤ 5) (w : World) : Calls Try.prog 19 #[.int .i64 k] w fun e w' => e = .returned (.int .i64 (clm k)) ∧ w' = w := by
  by_cases h : k < 0
  · have g : decide (k < 0) = true := by simpa using h
    have e : clm k = -k - 1 := by unfold clm; rw [if_pos h]
    rw [e]
    go_enter Try.func19, Try.ntmps19
    go_wp2
    go_ret
    exact ⟨rfl, rfl⟩
  · have g : decide (k < 0) = false := by simpa using h
    have e : clm k = k - 1 := by unfold clm; rw [if_neg h]
    rw [e]
    go_enter Try.func19, Try.ntmps19
    go_wp2
    go_ret
    exact ⟨rfl, rfl⟩
def FmAt (o : Tup) (i : Nat) : Prop := (-5 ≤ colT o i ∧ colT o i ≤ 5) ∧ ∀ k, k < i → colT o i ≠ 0 → colT o k ≠ 0 ∧ kol (colT o k) ≠ kol (colT o i)
theorem ret_boolD {b c : Bool} (h : b = c) : Ending.returned (.bool b) = Ending.returned (.bool c) := by rw [h]
set_option maxHeartbeats 2000000 in
set_option maxRecDepth 100000 in
theorem rformed_any (o : Tup) (w : World) : Calls Try.prog 10 #[.agg #[.int .i64 o.a, .int .i64 o.b, .int .i64 o.c, .int .i64 o.d, .int .i64 o.e]] w fun e w' => e = .returned (.bool (decide (Fm o))) ∧ Below w.heap.size w w' := by
  have hr : Row (w.alloc (.cells #[.int .i64 o.a, .int .i64 o.b, .int .i64 o.c, .int .i64 o.d, .int .i64 o.e] 26)) w.heap.size 26 (arrV o) := heap_alloc_new _ _
  have HB : Hid (∀ q, Below w.heap.size w ((w.alloc (.cells #[.int .i64 o.a, .int .i64 o.b, .int .i64 o.c, .int .i64 o.d, .int .i64 o.e] 26)).drewN q)) := fun q => below_dN ((Below.refl w.heap.size w).alloc (Nat.le_refl _) _) q
  have HC : Hid (∀ q i, i < 5 → ((w.alloc (.cells #[.int .i64 o.a, .int .i64 o.b, .int .i64 o.c, .int .i64 o.d, .int .i64 o.e] 26)).drewN q).cell? ⟨w.heap.size, i, none⟩ = some (.int .i64 (colT o i))) := fun q i hi => arr_cell hr hi
  have HNO : Hid (∀ i, i < 5 → ¬ FmAt o i → decide (Fm o) = false) := fun i hi h => decide_eq_false fun hf => h (hf i hi)
  have HYES : Hid ((∀ i, i < 5 → FmAt o i) → decide (Fm o) = true) := fun h => decide_eq_true h
  generalize decide (Fm o) = res at *
  clear hr
  go_enter Try.func10, Try.ntmps10
  go_upto_region 1 with (fail)
  generalize w.alloc (.cells #[.int .i64 o.a, .int .i64 o.b, .int .i64 o.c, .int .i64 o.d, .int .i64 o.e] 26) = W1 at *
  go_wp2_with fail
  go_loopw [3] (fun iv wr => ∃ i q : Nat, i ≤ 5 ∧ iv = .int .i64 (i : Int) ∧ W1.drewN q = wr ∧ Hid (∀ j, j < i → FmAt o j)) (fun iv _ => 5 - (intOf iv).toNat)
  case atStart => exact ⟨0, 0, by omega, rfl, rfl, fun j hj => by omega⟩
  case round =>
    obtain ⟨i, q, hi, rfl, rfl, HF⟩ := hrel
    by_cases hlt : i < 5
    · have g1 : decide ((i : Int) < 5) = true := by simp; omega
      have i0 : (0 : Int) ≤ (i : Int) := by omega
      have i1 : (i : Int) < 5 := by omega
      obtain ⟨x, hx⟩ : ∃ x, x = colT o i := ⟨_, rfl⟩
      have Hx := Lib.hid hx
      have cx : ∀ q, (W1.drewN q).cell? ⟨w.heap.size, i, none⟩ = some (.int .i64 x) := fun q => by rw [hx]; exact HC.out q i hlt
      clear hx
      by_cases h1 : x < -5
      · have hres : res = false := HNO.out i hlt fun h => by have := h.1; rw [← Hx.out] at this; omega
        have g2 : decide (x < -5) = true := by simpa using h1
        subst hres
        go_wp2
        go_ret
        exact ⟨rfl, (by first | exact HB.out _ | exact below_dN (HB.out _) _)⟩
      · have g2 : decide (x < -5) = false := by simpa using h1
        by_cases h2 : x > 5
        · have hres : res = false := HNO.out i hlt fun h => by have := h.1; rw [← Hx.out] at this; omega
          have g3 : decide (x > 5) = true := by simpa using h2
          subst hres
          go_wp2
          go_ret
          exact ⟨rfl, (by first | exact HB.out _ | exact below_dN (HB.out _) _)⟩
        · have g3 : decide (x > 5) = false := by simpa using h2
          have Hrx : Hid (-5 ≤ x ∧ x ≤ 5) := ⟨by omega, by omega⟩
          clear h1 h2
          go_wp2_with fail
          go_loopw [4] (fun kv wr => ∃ k q2 : Nat, k ≤ i ∧ kv = .int .i64 (k : Int) ∧ W1.drewN q2 = wr ∧ Hid (∀ j, j < k → x ≠ 0 → colT o j ≠ 0 ∧ kol (colT o j) ≠ kol x)) (fun kv _ => i - (intOf kv).toNat)
          case atStart => exact ⟨0, q, by omega, rfl, rfl, fun j hj => by omega⟩
          case round =>
            obtain ⟨k, q2, hk, rfl, rfl, HK⟩ := hrel
            by_cases hkl : k < i
            · have g4 : decide ((k : Int) < (i : Int)) = true := by simp; omega
              have k0 : (0 : Int) ≤ (k : Int) := by omega
              have k1 : (k : Int) < 5 := by omega
              have k2 : k < 5 := by omega
              obtain ⟨y, hy⟩ : ∃ y, y = colT o k := ⟨_, rfl⟩
              have Hy := Lib.hid hy
              have cy : ∀ q, (W1.drewN q).cell? ⟨w.heap.size, k, none⟩ = some (.int .i64 y) := fun q => by rw [hy]; exact HC.out q k (by omega)
              have Hry : Hid (-5 ≤ y ∧ y ≤ 5) := by have := (HF.out k hkl).1; rw [← Hy.out] at this; exact this
              clear hy
              by_cases hy0 : y = 0
              · have gy : (y == 0) = true := by simpa using hy0
                by_cases hx0 : x = 0
                · have gx : (x != 0) = false := by simpa using hx0
                  have HK2 : Hid (∀ j, j < k + 1 → x ≠ 0 → colT o j ≠ 0 ∧ kol (colT o j) ≠ kol x) := fun j _ h => absurd hx0 h
                  clear hy0 hx0 HK
                  go_wp2
                  go_quiet (fail)
                  go_wp2
                  go_roundw
                  case rel => exact ⟨k + 1, _, by omega, by go_num, rfl, HK2.out⟩
                  case measure => simp [intOf]; omega
                · have gx : (x != 0) = true := by simpa using hx0
                  have hres : res = false := HNO.out i hlt fun h => by
                    have := (h.2 k hkl (by rw [← Hx.out]; exact hx0)).1
                    rw [← Hy.out] at this; exact this hy0
                  subst hres
                  clear hy0 hx0 HK
                  go_wp2
                  go_quiet (fail)
                  go_wp2
                  go_ret
                  exact ⟨rfl, (by first | exact HB.out _ | exact below_dN (HB.out _) _)⟩
              · have gy : (y == 0) = false := by simpa using hy0
                by_cases hx0 : x = 0
                · have gx : (x != 0) = false := by simpa using hx0
                  have HK2 : Hid (∀ j, j < k + 1 → x ≠ 0 → colT o j ≠ 0 ∧ kol (colT o j) ≠ kol x) := fun j _ h => absurd hx0 h
                  clear hy0 hx0 HK
                  go_wp2
                  go_quiet (fail)
                  go_wp2
                  go_roundw
                  case rel => exact ⟨k + 1, _, by omega, by go_num, rfl, HK2.out⟩
                  case measure => simp [intOf]; omega
                · have gx : (x != 0) = true := by simpa using hx0
                  have HQx : Hid (∀ q r, Calls Try.prog 19 #[.int .i64 x] (W1.drewN (q + r)) fun e w'' => e = .returned (.int .i64 (clm x)) ∧ ∃ n, w'' = W1.drewN (q + n)) := fun q r => (rcol_any x Hrx.out _).mono fun _ _ ⟨he, hw⟩ => ⟨he, r, hw⟩
                  have HQy : Hid (∀ q r, Calls Try.prog 19 #[.int .i64 y] (W1.drewN (q + r)) fun e w'' => e = .returned (.int .i64 (clm y)) ∧ ∃ n, w'' = W1.drewN (q + n)) := fun q r => (rcol_any y Hry.out _).mono fun _ _ ⟨he, hw⟩ => ⟨he, r, hw⟩
                  rw [clm_kol hx0] at HQx
                  rw [clm_kol hy0] at HQy
                  by_cases hc : kol y = kol x
                  · have hres : res = false := HNO.out i hlt fun h => by
                      have := (h.2 k hkl (by rw [← Hx.out]; exact hx0)).2
                      rw [← Hy.out, ← Hx.out] at this; exact this hc
                    have gc : ((kol y : Nat) : Int) = ((kol x : Nat) : Int) := by rw [hc]
                    rw [hc] at HQy
                    subst hres
                    clear hy0 hx0 HK hc gc
                    generalize kol x = cx' at *
                    go_wp2
                    go_quiet ((with_reducible first | exact HQx.out _ _ | exact HQy.out _ _))
                    go_wp2
                    go_ret
                    exact ⟨rfl, (by first | exact HB.out _ | exact below_dN (HB.out _) _)⟩
                  · have HK2 : Hid (∀ j, j < k + 1 → x ≠ 0 → colT o j ≠ 0 ∧ kol (colT o j) ≠ kol x) := fun j hj h => by
                      by_cases e : j = k
                      · rw [e, ← Hy.out]; exact ⟨hy0, hc⟩
                      · exact HK.out j (by omega) h
                    have gc : decide (((kol y : Nat) : Int) = ((kol x : Nat) : Int)) = false := by simp; omega
                    have gc2 : (((kol y : Nat) : Int) == ((kol x : Nat) : Int)) = false := by simp; omega
                    clear hy0 hx0 HK hc
                    generalize kol x = cx' at *
                    generalize kol y = cy' at *
                    go_wp2
                    go_quiet ((with_reducible first | exact HQx.out _ _ | exact HQy.out _ _))
                    go_wp2
                    go_roundw
                    case rel => exact ⟨k + 1, _, by omega, by go_num, rfl, HK2.out⟩
                    case measure => simp [intOf]; omega
            · have hkk : k = i := by omega
              have g4 : decide ((k : Int) < (i : Int)) = false := by simp; omega
              have HF2 : Hid (∀ j, j < i + 1 → FmAt o j) := fun j hj => by
                by_cases e : j = i
                · rw [e]
                  refine ⟨by rw [← Hx.out]; exact Hrx.out, fun k' hk' hne => ?_⟩
                  rw [← Hx.out] at hne ⊢
                  exact HK.out k' (by omega) hne
                · exact HF.out j (by omega)
              clear HK HF hkk
              go_wp2
              go_roundw
              case rel => exact ⟨i + 1, _, by omega, by go_num, rfl, HF2.out⟩
              case measure => simp [intOf]; omega
    · have g1 : decide ((i : Int) < 5) = false := by simp; omega
      have hres : res = true := HYES.out fun j hj => HF.out j (by omega)
      subst hres
      go_wp2
      go_ret
      exact ⟨rfl, (by first | exact HB.out _ | exact below_dN (HB.out _) _)⟩
theorem drop_at {o : Tup} {i : Nat} (hi : i < 5) : o.cols.drop i = colT o i :: o.cols.drop (i + 1) := by
  match i, hi with
  | 0, _ => rfl
  | 1, _ => rfl
  | 2, _ => rfl
  | 3, _ => rfl
  | 4, _ => rfl
theorem drop_end (o : Tup) : o.cols.drop 5 = [] := rfl
set_option maxHeartbeats 2000000 in
set_option maxRecDepth 100000 in
theorem rcmp_any (o a b : Tup) (w : World) : Calls Try.prog 12 #[.agg #[.int .i64 a.a, .int .i64 a.b, .int .i64 a.c, .int .i64 a.d, .int .i64 a.e], .agg #[.int .i64 b.a, .int .i64 b.b, .int .i64 b.c, .int .i64 b.d, .int .i64 b.e], .agg #[.int .i64 o.a, .int .i64 o.b, .int .i64 o.c, .int .i64 o.d, .int .i64 o.e]] w fun e w' => e = .returned (.int .i64 (cmpT o a b)) ∧ Below w.heap.size w w' := by
  have b1 : Below w.heap.size w (w.alloc (.cells #[.int .i64 a.a, .int .i64 a.b, .int .i64 a.c, .int .i64 a.d, .int .i64 a.e] 23)) := (Below.refl _ _).alloc (Nat.le_refl _) _
  have r1 : Row (w.alloc (.cells #[.int .i64 a.a, .int .i64 a.b, .int .i64 a.c, .int .i64 a.d, .int .i64 a.e] 23)) w.heap.size 23 (arrV a) := heap_alloc_new _ _
  have s1 : (w.alloc (.cells #[.int .i64 a.a, .int .i64 a.b, .int .i64 a.c, .int .i64 a.d, .int .i64 a.e] 23)).heap.size = w.heap.size + 1 := by simp
  have b2 : Below (w.heap.size + 1) (w.alloc (.cells #[.int .i64 a.a, .int .i64 a.b, .int .i64 a.c, .int .i64 a.d, .int .i64 a.e] 23)) ((w.alloc (.cells #[.int .i64 a.a, .int .i64 a.b, .int .i64 a.c, .int .i64 a.d, .int .i64 a.e] 23)).alloc (.cells #[.int .i64 b.a, .int .i64 b.b, .int .i64 b.c, .int .i64 b.d, .int .i64 b.e] 23)) := (Below.refl _ _).alloc (by rw [s1]; exact Nat.le_refl _) _
  have r2 : Row ((w.alloc (.cells #[.int .i64 a.a, .int .i64 a.b, .int .i64 a.c, .int .i64 a.d, .int .i64 a.e] 23)).alloc (.cells #[.int .i64 b.a, .int .i64 b.b, .int .i64 b.c, .int .i64 b.d, .int .i64 b.e] 23)) (w.heap.size + 1) 23 (arrV b) := by rw [← s1]; exact heap_alloc_new _ _
  have s2 : ((w.alloc (.cells #[.int .i64 a.a, .int .i64 a.b, .int .i64 a.c, .int .i64 a.d, .int .i64 a.e] 23)).alloc (.cells #[.int .i64 b.a, .int .i64 b.b, .int .i64 b.c, .int .i64 b.d, .int .i64 b.e] 23)).heap.size = w.heap.size + 2 := by simp
  have b3 : Below (w.heap.size + 2) ((w.alloc (.cells #[.int .i64 a.a, .int .i64 a.b, .int .i64 a.c, .int .i64 a.d, .int .i64 a.e] 23)).alloc (.cells #[.int .i64 b.a, .int .i64 b.b, .int .i64 b.c, .int .i64 b.d, .int .i64 b.e] 23)) (((w.alloc (.cells #[.int .i64 a.a, .int .i64 a.b, .int .i64 a.c, .int .i64 a.d, .int .i64 a.e] 23)).alloc (.cells #[.int .i64 b.a, .int .i64 b.b, .int .i64 b.c, .int .i64 b.d, .int .i64 b.e] 23)).alloc (.cells #[.int .i64 o.a, .int .i64 o.b, .int .i64 o.c, .int .i64 o.d, .int .i64 o.e] 26)) := (Below.refl _ _).alloc (by rw [s2]; exact Nat.le_refl _) _
  have r3 : Row (((w.alloc (.cells #[.int .i64 a.a, .int .i64 a.b, .int .i64 a.c, .int .i64 a.d, .int .i64 a.e] 23)).alloc (.cells #[.int .i64 b.a, .int .i64 b.b, .int .i64 b.c, .int .i64 b.d, .int .i64 b.e] 23)).alloc (.cells #[.int .i64 o.a, .int .i64 o.b, .int .i64 o.c, .int .i64 o.d, .int .i64 o.e] 26)) (w.heap.size + 2) 26 (arrV o) := by rw [← s2]; exact heap_alloc_new _ _
  have r2' : Row (((w.alloc (.cells #[.int .i64 a.a, .int .i64 a.b, .int .i64 a.c, .int .i64 a.d, .int .i64 a.e] 23)).alloc (.cells #[.int .i64 b.a, .int .i64 b.b, .int .i64 b.c, .int .i64 b.d, .int .i64 b.e] 23)).alloc (.cells #[.int .i64 o.a, .int .i64 o.b, .int .i64 o.c, .int .i64 o.d, .int .i64 o.e] 26)) (w.heap.size + 1) 23 (arrV b) := r2.below b3 (by omega)
  have r1' : Row (((w.alloc (.cells #[.int .i64 a.a, .int .i64 a.b, .int .i64 a.c, .int .i64 a.d, .int .i64 a.e] 23)).alloc (.cells #[.int .i64 b.a, .int .i64 b.b, .int .i64 b.c, .int .i64 b.d, .int .i64 b.e] 23)).alloc (.cells #[.int .i64 o.a, .int .i64 o.b, .int .i64 o.c, .int .i64 o.d, .int .i64 o.e] 26)) w.heap.size 23 (arrV a) := (r1.below b2 (by omega)).below b3 (by omega)
  have HB : Hid (Below w.heap.size w (((w.alloc (.cells #[.int .i64 a.a, .int .i64 a.b, .int .i64 a.c, .int .i64 a.d, .int .i64 a.e] 23)).alloc (.cells #[.int .i64 b.a, .int .i64 b.b, .int .i64 b.c, .int .i64 b.d, .int .i64 b.e] 23)).alloc (.cells #[.int .i64 o.a, .int .i64 o.b, .int .i64 o.c, .int .i64 o.d, .int .i64 o.e] 26))) := (b1.trans (b2.mono (by omega))).trans (b3.mono (by omega))
  have KC : Hid (∀ W, Below (w.heap.size + 3) (((w.alloc (.cells #[.int .i64 a.a, .int .i64 a.b, .int .i64 a.c, .int .i64 a.d, .int .i64 a.e] 23)).alloc (.cells #[.int .i64 b.a, .int .i64 b.b, .int .i64 b.c, .int .i64 b.d, .int .i64 b.e] 23)).alloc (.cells #[.int .i64 o.a, .int .i64 o.b, .int .i64 o.c, .int .i64 o.d, .int .i64 o.e] 26)) W → Below w.heap.size w W ∧ ∀ q i, i < 5 → (W.drewN q).cell? ⟨w.heap.size, i, none⟩ = some (.int .i64 (colT a i)) ∧ (W.drewN q).cell? ⟨w.heap.size + 1, i, none⟩ = some (.int .i64 (colT b i)) ∧ (W.drewN q).cell? ⟨w.heap.size + 2, i, none⟩ = some (.int .i64 (colT o i))) := fun W hb =>
    ⟨HB.out.trans (hb.mono (by omega)), fun q i hi => ⟨arr_cell (r1'.below hb (by omega)) hi, arr_cell (r2'.below hb (by omega)) hi, arr_cell (r3.below hb (by omega)) hi⟩⟩
  have hsz : w.heap.size + 3 ≤ (((w.alloc (.cells #[.int .i64 a.a, .int .i64 a.b, .int .i64 a.c, .int .i64 a.d, .int .i64 a.e] 23)).alloc (.cells #[.int .i64 b.a, .int .i64 b.b, .int .i64 b.c, .int .i64 b.d, .int .i64 b.e] 23)).alloc (.cells #[.int .i64 o.a, .int .i64 o.b, .int .i64 o.c, .int .i64 o.d, .int .i64 o.e] 26)).heap.size := by simp
  have HSZ := Lib.hid hsz
  clear b1 r1 s1 b2 r2 s2 b3 r3 r2' r1' HB hsz
  have HFO := Lib.hid (rformed_any o)
  by_cases hf : Fm o
  · have hres : cmpT o a b = cmpL o.cols a b := by unfold cmpT; rw [if_pos hf]
    rw [decide_eq_true hf] at HFO
    have HRNG : Hid (∀ i, i < 5 → -5 ≤ colT o i ∧ colT o i ≤ 5) := fun i hi => (hf i hi).1
    rw [hres]
    have HST : Hid (cmpL (o.cols.drop 0) a b = cmpL o.cols a b) := rfl
    generalize cmpL o.cols a b = res at *
    clear hf hres
    go_enter Try.func12, Try.ntmps12
    go_upto_region 1 with (fail)
    generalize ((w.alloc (.cells #[.int .i64 a.a, .int .i64 a.b, .int .i64 a.c, .int .i64 a.d, .int .i64 a.e] 23)).alloc (.cells #[.int .i64 b.a, .int .i64 b.b, .int .i64 b.c, .int .i64 b.d, .int .i64 b.e] 23)).alloc (.cells #[.int .i64 o.a, .int .i64 o.b, .int .i64 o.c, .int .i64 o.d, .int .i64 o.e] 26) = W1 at *
    go_wp2_with fail
    go_loopw [7] (fun iv wr => ∃ i : Nat, i ≤ 5 ∧ iv = .int .i64 (i : Int) ∧ Hid (Below (w.heap.size + 3) W1 wr) ∧ Hid (cmpL (o.cols.drop i) a b = res)) (fun iv _ => 5 - (intOf iv).toNat)
    case atStart => exact ⟨0, by omega, rfl, Below.refl _ _, HST.out⟩
    case round =>
      obtain ⟨i, hi, rfl, HW, HC⟩ := hrel
      clear HST
      by_cases hlt : i < 5
      · have g1 : decide ((i : Int) < 5) = true := by simp; omega
        have i0 : (0 : Int) ≤ (i : Int) := by omega
        have i1 : (i : Int) < 5 := by omega
        have d0 : wr.cell? ⟨w.heap.size + 2, 0, none⟩ = some (.int .i64 o.a) := ((KC.out _ HW.out).2 0 0 (by omega)).2.2
        have d1 : wr.cell? ⟨w.heap.size + 2, 1, none⟩ = some (.int .i64 o.b) := ((KC.out _ HW.out).2 0 1 (by omega)).2.2
        have d2 : wr.cell? ⟨w.heap.size + 2, 2, none⟩ = some (.int .i64 o.c) := ((KC.out _ HW.out).2 0 2 (by omega)).2.2
        have d3 : wr.cell? ⟨w.heap.size + 2, 3, none⟩ = some (.int .i64 o.d) := ((KC.out _ HW.out).2 0 3 (by omega)).2.2
        have d4 : wr.cell? ⟨w.heap.size + 2, 4, none⟩ = some (.int .i64 o.e) := ((KC.out _ HW.out).2 0 4 (by omega)).2.2
        go_wp2_with fail
        refine (HFO.out _).mono ?_; rintro e w2 ⟨rfl, hb⟩
        have HW2 : Hid (Below (w.heap.size + 3) W1 w2) := HW.out.trans (hb.mono (Nat.le_trans HSZ.out HW.out.size))
        clear hb HW d0 d1 d2 d3 d4
        obtain ⟨z, hz⟩ : ∃ z, z = colT o i := ⟨_, rfl⟩
        have HRZ : Hid (-5 ≤ z ∧ z ≤ 5) := by rw [hz]; exact HRNG.out i hlt
        have HC2 : Hid (cmpL (z :: o.cols.drop (i + 1)) a b = res) := by rw [hz, ← drop_at hlt]; exact HC.out
        have y5 : ∀ q, (w2.drewN q).cell? ⟨w.heap.size + 2, i, none⟩ = some (.int .i64 z) := fun q => by rw [hz]; exact ((KC.out _ HW2.out).2 q i hlt).2.2
        have y5' : w2.cell? ⟨w.heap.size + 2, i, none⟩ = some (.int .i64 z) := y5 0
        have HE : Hid (∀ q, Below w.heap.size w (w2.drewN q)) := fun q => below_dN (KC.out _ HW2.out).1 q
        have HE0 : Hid (Below w.heap.size w w2) := (KC.out _ HW2.out).1
        clear HC hz
        by_cases hz0 : z = 0
        · have gz : (z == 0) = true := by simpa using hz0
          have gz' : decide (z = 0) = true := by simpa using hz0
          have hr : res = 0 := by rw [← HC2.out, hz0, cmpL_stop]
          subst hr
          clear hz0
          go_wp2
          go_ret
          exact ⟨rfl, HE0.out⟩
        · have gz : (z == 0) = false := by simpa using hz0
          have gz' : decide (z = 0) = false := by simpa using hz0
          have hk5 := kol_lt hz0 HRZ.out
          have HQ : Hid (∀ r, Calls Try.prog 19 #[.int .i64 z] (w2.drewN r) fun e w'' => e = .returned (.int .i64 (kol z : Nat)) ∧ ∃ n, w'' = w2.drewN n) := fun r => by
            have := rcol_any z HRZ.out (w2.drewN r)
            rw [clm_kol hz0] at this
            exact this.mono fun _ _ ⟨he, hw⟩ => ⟨he, r, hw⟩
          obtain ⟨x, hx⟩ : ∃ x, x = colT a (kol z) := ⟨_, rfl⟩
          obtain ⟨y, hy⟩ : ∃ y, y = colT b (kol z) := ⟨_, rfl⟩
          have yx : ∀ q, (w2.drewN q).cell? ⟨w.heap.size, kol z, none⟩ = some (.int .i64 x) := fun q => by rw [hx]; exact ((KC.out _ HW2.out).2 q _ hk5).1
          have yy : ∀ q, (w2.drewN q).cell? ⟨w.heap.size + 1, kol z, none⟩ = some (.int .i64 y) := fun q => by rw [hy]; exact ((KC.out _ HW2.out).2 q _ hk5).2.1
          have HEQ : Hid (x = y → cmpL (o.cols.drop (i + 1)) a b = res) := fun h => by rw [← HC2.out, cmpL_eq hz0 _ (by rw [← hx, ← hy]; exact h)]
          have HLT : Hid (x < y → (if 0 < z then (-1 : Int) else 1) = res) := fun h => by rw [← HC2.out, cmpL_lt hz0 _ (by rw [← hx, ← hy]; exact h)]
          have HGT : Hid (y < x → (if 0 < z then (1 : Int) else -1) = res) := fun h => by rw [← HC2.out, cmpL_gt hz0 _ (by rw [← hx, ← hy]; exact h)]
          have HW3 : Hid (∀ q, Below (w.heap.size + 3) W1 (w2.drewN q)) := fun q => below_dN HW2.out q
          have k0 : (0 : Int) ≤ ((kol z : Nat) : Int) := by omega
          have k1 : ((kol z : Nat) : Int) < 5 := by omega
          generalize kol z = c at *
          clear hx hy hz0 HC2 HW2 HE0
          rcases Int.lt_trichotomy x y with h | h | h
          · have gxy : (x != y) = true := by simp; omega
            have glt : decide (x < y) = true := by simpa using h
            by_cases hp : 0 < z
            · have hr := HLT.out h
              rw [if_pos hp] at hr
              subst hr
              have gp : decide (z > 0) = true := by simpa using hp
              clear h hp HLT HGT HEQ
              go_wp2
              go_quiet ((with_reducible first | exact HQ.out _))
              go_wp2
              go_ret
              exact ⟨rfl, HE.out _⟩
            · have hr := HLT.out h
              rw [if_neg hp] at hr
              subst hr
              have gp : decide (z > 0) = false := by simpa using hp
              clear h hp HLT HGT HEQ
              go_wp2
              go_quiet ((with_reducible first | exact HQ.out _))
              go_wp2
              go_ret
              exact ⟨rfl, HE.out _⟩
          · have gxy : (x != y) = false := by simpa using h
            have HN := Lib.hid (HEQ.out h)
            clear h HLT HGT HEQ
            go_wp2
            go_quiet ((with_reducible first | exact HQ.out _))
            go_wp2
            go_roundw
            case rel => exact ⟨i + 1, by omega, by go_num, HW3.out _, HN.out⟩
            case measure => simp [intOf]; omega
          · have gxy : (x != y) = true := by simp; omega
            have glt : decide (x < y) = false := by simp; omega
            by_cases hp : 0 < z
            · have hr := HGT.out h
              rw [if_pos hp] at hr
              subst hr
              have gp : decide (z > 0) = true := by simpa using hp
              clear h hp HLT HGT HEQ
              go_wp2
              go_quiet ((with_reducible first | exact HQ.out _))
              go_wp2
              go_ret
              exact ⟨rfl, HE.out _⟩
            · have hr := HGT.out h
              rw [if_neg hp] at hr
              subst hr
              have gp : decide (z > 0) = false := by simpa using hp
              clear h hp HLT HGT HEQ
              go_wp2
              go_quiet ((with_reducible first | exact HQ.out _))
              go_wp2
              go_ret
              exact ⟨rfl, HE.out _⟩
      · obtain rfl : i = 5 := by omega
        have hr : res = 0 := by rw [← HC.out, drop_end]; rfl
        have HE := Lib.hid (KC.out _ HW.out).1
        subst hr
        clear HC
        go_wp2
        go_ret
        exact ⟨rfl, HE.out⟩
  · have hres : cmpT o a b = 0 := by unfold cmpT; rw [if_neg hf]
    rw [decide_eq_false hf] at HFO
    rw [hres]
    clear hf hres
    have d0 : (((w.alloc (.cells #[.int .i64 a.a, .int .i64 a.b, .int .i64 a.c, .int .i64 a.d, .int .i64 a.e] 23)).alloc (.cells #[.int .i64 b.a, .int .i64 b.b, .int .i64 b.c, .int .i64 b.d, .int .i64 b.e] 23)).alloc (.cells #[.int .i64 o.a, .int .i64 o.b, .int .i64 o.c, .int .i64 o.d, .int .i64 o.e] 26)).cell? ⟨w.heap.size + 2, 0, none⟩ = some (.int .i64 o.a) := ((KC.out _ (Below.refl _ _)).2 0 0 (by omega)).2.2
    have d1 : (((w.alloc (.cells #[.int .i64 a.a, .int .i64 a.b, .int .i64 a.c, .int .i64 a.d, .int .i64 a.e] 23)).alloc (.cells #[.int .i64 b.a, .int .i64 b.b, .int .i64 b.c, .int .i64 b.d, .int .i64 b.e] 23)).alloc (.cells #[.int .i64 o.a, .int .i64 o.b, .int .i64 o.c, .int .i64 o.d, .int .i64 o.e] 26)).cell? ⟨w.heap.size + 2, 1, none⟩ = some (.int .i64 o.b) := ((KC.out _ (Below.refl _ _)).2 0 1 (by omega)).2.2
    have d2 : (((w.alloc (.cells #[.int .i64 a.a, .int .i64 a.b, .int .i64 a.c, .int .i64 a.d, .int .i64 a.e] 23)).alloc (.cells #[.int .i64 b.a, .int .i64 b.b, .int .i64 b.c, .int .i64 b.d, .int .i64 b.e] 23)).alloc (.cells #[.int .i64 o.a, .int .i64 o.b, .int .i64 o.c, .int .i64 o.d, .int .i64 o.e] 26)).cell? ⟨w.heap.size + 2, 2, none⟩ = some (.int .i64 o.c) := ((KC.out _ (Below.refl _ _)).2 0 2 (by omega)).2.2
    have d3 : (((w.alloc (.cells #[.int .i64 a.a, .int .i64 a.b, .int .i64 a.c, .int .i64 a.d, .int .i64 a.e] 23)).alloc (.cells #[.int .i64 b.a, .int .i64 b.b, .int .i64 b.c, .int .i64 b.d, .int .i64 b.e] 23)).alloc (.cells #[.int .i64 o.a, .int .i64 o.b, .int .i64 o.c, .int .i64 o.d, .int .i64 o.e] 26)).cell? ⟨w.heap.size + 2, 3, none⟩ = some (.int .i64 o.d) := ((KC.out _ (Below.refl _ _)).2 0 3 (by omega)).2.2
    have d4 : (((w.alloc (.cells #[.int .i64 a.a, .int .i64 a.b, .int .i64 a.c, .int .i64 a.d, .int .i64 a.e] 23)).alloc (.cells #[.int .i64 b.a, .int .i64 b.b, .int .i64 b.c, .int .i64 b.d, .int .i64 b.e] 23)).alloc (.cells #[.int .i64 o.a, .int .i64 o.b, .int .i64 o.c, .int .i64 o.d, .int .i64 o.e] 26)).cell? ⟨w.heap.size + 2, 4, none⟩ = some (.int .i64 o.e) := ((KC.out _ (Below.refl _ _)).2 0 4 (by omega)).2.2
    go_enter Try.func12, Try.ntmps12
    go_upto_region 1 with (fail)
    generalize ((w.alloc (.cells #[.int .i64 a.a, .int .i64 a.b, .int .i64 a.c, .int .i64 a.d, .int .i64 a.e] 23)).alloc (.cells #[.int .i64 b.a, .int .i64 b.b, .int .i64 b.c, .int .i64 b.d, .int .i64 b.e] 23)).alloc (.cells #[.int .i64 o.a, .int .i64 o.b, .int .i64 o.c, .int .i64 o.d, .int .i64 o.e] 26) = W1 at *
    go_wp2_with fail
    go_loopw [7] (fun iv wr => iv = .int .i64 0 ∧ W1 = wr) (fun iv _ => 0)
    case atStart => exact ⟨rfl, rfl⟩
    case round =>
      obtain ⟨rfl, rfl⟩ := hrel
      go_wp2_with fail
      refine (HFO.out _).mono ?_; rintro e w2 ⟨rfl, hb⟩
      have HE : Hid (Below w.heap.size w w2) := (KC.out _ (hb.mono HSZ.out)).1
      clear hb
      go_wp2
      go_ret
      exact ⟨rfl, HE.out⟩
end Go.Proofs.Ytoimpiimlekakaa
