/- What graph.isVertex, isAhead, Formed and the reference's less, Formed answer. -/
import Derived.Test.YtdjmjabbjjcgiaaGraphWords
import Derived.StillTailTactics
namespace Go.Proofs.Ytdjmjabbjjcgiaa
open Go.ChangeShapes Go.WideShapes Go.ChangeAt Go.RowKit

set_option maxRecDepth 100000 in
theorem isv_any (v N : Int) (w : World) : Calls Try.prog 38 #[.int .i64 v, .int .i64 N] w fun e w' => e = .returned (.bool (vtx v N)) ∧ w = w' := by
  by_cases h : 0 ≤ v
  · by_cases h2 : v < N
    · have HV : Hid (vtx v N = true) := vtx_iff.2 ⟨h, h2⟩
      go_enter Try.func38, Try.ntmps38
      go_wp2
      go_ret
      exact ⟨ret_bool HV.out.symm, rfl⟩
    · have HV : Hid (vtx v N = false) := by unfold Hid; rw [Bool.eq_false_iff]; intro hc; exact h2 (vtx_iff.1 hc).2
      go_enter Try.func38, Try.ntmps38
      go_wp2
      go_ret
      exact ⟨ret_bool HV.out.symm, rfl⟩
  · have HV : Hid (vtx v N = false) := by unfold Hid; rw [Bool.eq_false_iff]; intro hc; exact h (vtx_iff.1 hc).1
    go_enter Try.func38, Try.ntmps38
    go_wp2
    go_ret
    exact ⟨ret_bool HV.out.symm, rfl⟩

theorem two_new (w : World) (o o' : Obj) : Below w.heap.size w ((w.alloc o).alloc o') := ((Below.refl _ _).alloc (Nat.le_refl _) _).alloc (by simp) _
/-- the numbers of the types, once -/
theorem bne_t {a c : Int} (h : (a != c) = true) : a ≠ c := by simpa using h
theorem bne_f {a c : Int} (h : (a != c) = false) : a = c := by simpa using h

set_option maxRecDepth 100000 in
theorem ahead_any (a b c d : Int) (w : World) : Calls Try.prog 31 #[.agg #[.int .i64 a, .int .i64 b], .agg #[.int .i64 c, .int .i64 d]] w fun e w' => e = .returned (.bool (ltE (a, b) (c, d))) ∧ Below w.heap.size w w' := by
  go_enter Try.func31, Try.ntmps31
  go_wp2
  · go_ret
    have h : a ≠ c := bne_t (by assumption)
    exact ⟨ret_bool (by unfold ltE; rw [Bool.eq_iff_iff]; simp only [decide_eq_true_eq]; omega), two_new _ _ _⟩
  · go_ret
    have h : a = c := bne_f (by assumption)
    exact ⟨ret_bool (by unfold ltE; rw [Bool.eq_iff_iff]; simp only [decide_eq_true_eq]; omega), two_new _ _ _⟩

set_option maxRecDepth 100000 in
theorem less_any (a b c d : Int) (w : World) : Calls Try.prog 27 #[.agg #[.int .i64 a, .int .i64 b], .agg #[.int .i64 c, .int .i64 d]] w fun e w' => e = .returned (.bool (ltE (a, b) (c, d))) ∧ Below w.heap.size w w' := by
  go_enter Try.func27, Try.ntmps27
  go_wp2
  all_goals go_ret
  all_goals exact ⟨ret_bool (by unfold ltE; rw [Bool.eq_iff_iff]; simp only [decide_eq_true_eq]; first | omega | (simp only [true_iff]; omega)), two_new _ _ _⟩

theorem box2 {w wr : World} {x y : Value} {t : TypeId} (hb : Below (w.heap.size + 1) (w.alloc (.cells #[x, y] t)) wr) :
    wr.cell? ⟨w.heap.size, 0, none⟩ = some x ∧ wr.cell? ⟨w.heap.size, 1, none⟩ = some y := by
  have h : Row (w.alloc (.cells #[x, y] t)) w.heap.size t [x, y] := heap_alloc_new _ _
  have h2 := h.below hb (Nat.lt_succ_self _)
  exact ⟨h2.cell 0, h2.cell 1⟩
theorem formed_true {N : Int} {l : List (Int × Int)} {n : Nat} (hl : l.length = n) (hs : sized N n = true) (h : ∀ i, i < n → okE N (l.getD i (0, 0)) = true) : formed N l = true := by
  unfold formed; rw [hl, hs, all_getD_true (by rw [hl]; exact h)]; rfl
theorem formed_false {N : Int} {l : List (Int × Int)} {n i : Nat} (hl : l.length = n) (hi : i < n) (h : okE N (l.getD i (0, 0)) = false) : formed N l = false := by
  unfold formed; rw [all_getD_false (i := i) (by omega) h, Bool.and_false]
theorem okE_out {N u v : Int} (h : u < 0 ∨ N ≤ u ∨ v < 0 ∨ N ≤ v) : okE N (u, v) = false := by
  rw [Bool.eq_false_iff]; intro hc
  rw [okE_iff] at hc; simp only at hc; omega
theorem up_snoc {p : Nat → Prop} {k : Nat} (h : ∀ i, i < k → p i) (hk : p k) : ∀ i, i < k + 1 → p i := fun i hi => by
  rcases Nat.lt_or_ge i k with h1 | h1
  · exact h i h1
  · obtain rfl : i = k := by omega
    exact hk

set_option maxHeartbeats 800000 in
set_option maxRecDepth 100000 in
/-- What graph.Formed answers: of a graph by value whose edges are read. -/
theorem formed_any (N : Int) (a : Option Addr) (n cap : Nat) (l : List (Int × Int)) (w : World) {B : Nat} (hN : I64 N) (hl : ReadsE w B a n l) (hB : B ≤ w.heap.size) (hcap : n ≤ 9223372036854775807) :
    Calls Try.prog 28 #[.agg #[.int .i64 N, .slice a n cap]] w fun e w' => e = .returned (.bool (formed N l)) ∧ Below w.heap.size w w' := by
  have hNb := hN.bounds
  have HLEN := Lib.hid hl.1
  by_cases hs : sized N n = true
  · obtain ⟨s0, s1, s2⟩ := sized_iff.1 hs
    have HS := Lib.hid hs
    clear hs
    have g0 : decide (N < 0) = false := by simp; omega
    have g1 : decide (1073741824 < N) = false := by simp; omega
    have g2 : decide (1073741824 < (n : Int)) = false := by simp; omega
    go_enter Try.func28, Try.ntmps28
    go_wp2
    go_loopw [22] (fun iv wr => ∃ k : Nat, k ≤ n ∧ iv = .int .i64 k ∧ Below (w.heap.size + 1) (w.alloc (.cells #[.int .i64 N, .slice a n cap] 24)) wr ∧ Hid (∀ i, i < k → okE N (l.getD i (0, 0)) = true)) (fun iv _ => n - (intOf iv).toNat)
    case atStart => exact ⟨0, by omega, rfl, Below.refl _ _, fun i hi => absurd hi (by omega)⟩
    case round =>
      obtain ⟨k, hk, rfl, hbw, HK⟩ := hrel
      obtain ⟨c0, c1⟩ := box2 hbw
      have hsz : w.heap.size < wr.heap.size := by have := hbw.size; simp at this; omega
      by_cases hlt : k < n
      · obtain ⟨b, off, u, v, rfl, hb, hu, hv, wu, wv, HE⟩ := (((hl.keep ((Below.refl _ _).alloc hB _)).mono (show B ≤ w.heap.size + 1 by omega)).keep hbw).at_ hlt
        have hb2 : b < wr.heap.size := by omega
        go_wp2_with (go_at_call 38; refine (isv_any _ _ _).mono ?_; rintro e w' ⟨rfl, rfl⟩)
        · have HF : Hid (formed N l = false) := formed_false HLEN.out hlt (by rw [HE.out]; unfold okE; simp_all)
          go_ret
          exact ⟨ret_bool HF.out.symm, ((((Below.refl _ _).alloc (Nat.le_refl _) _).trans (hbw.mono (by omega)))).alloc (by omega) _⟩
        · have HO : Hid (okE N (l.getD k (0, 0)) = true) := by unfold Hid; rw [HE.out]; unfold okE; simp_all
          have HB2 := Lib.hid (hbw.alloc (o := .cells #[.int .i64 u, .int .i64 v] 43) (by omega))
          go_roundw
          case rel => exact ⟨k + 1, by omega, by go_num, HB2.out, up_snoc HK.out HO.out⟩
          case measure => simp [intOf]; omega
        · have HF : Hid (formed N l = false) := formed_false HLEN.out hlt (by rw [HE.out]; unfold okE; simp_all)
          go_ret
          exact ⟨ret_bool HF.out.symm, ((((Below.refl _ _).alloc (Nat.le_refl _) _).trans (hbw.mono (by omega)))).alloc (by omega) _⟩
      · obtain rfl : k = n := by omega
        have HF : Hid (formed N l = true) := formed_true HLEN.out HS.out HK.out
        go_wp2
        go_ret
        exact ⟨ret_bool HF.out.symm, (((Below.refl _ _).alloc (Nat.le_refl _) _).trans (hbw.mono (by omega)))⟩
  · have h3 : N < 0 ∨ 1073741824 < N ∨ 1073741824 < n := by
      rw [sized_iff] at hs; omega
    have HF : Hid (formed N l = false) := by
      unfold Hid formed
      rw [HLEN.out]
      simp only [Bool.not_eq_true] at hs
      rw [hs]; rfl
    clear hs
    go_enter Try.func28, Try.ntmps28
    go_wp2
    all_goals go_ret
    all_goals exact ⟨ret_bool HF.out.symm, (Below.refl _ _).alloc (Nat.le_refl _) _⟩

set_option maxHeartbeats 800000 in
set_option maxRecDepth 100000 in
/-- What the reference's Formed answers. -/
theorem rformed_any (N : Int) (a : Option Addr) (n cap : Nat) (l : List (Int × Int)) (w : World) {B : Nat} (hN : I64 N) (hl : ReadsE w B a n l) (hB : B ≤ w.heap.size) (hcap : n ≤ 9223372036854775807) :
    Calls Try.prog 26 #[.agg #[.int .i64 N, .slice a n cap]] w fun e w' => e = .returned (.bool (formed N l)) ∧ Below w.heap.size w w' := by
  have hNb := hN.bounds
  have HLEN := Lib.hid hl.1
  by_cases hs : sized N n = true
  · obtain ⟨s0, s1, s2⟩ := sized_iff.1 hs
    have HS := Lib.hid hs
    clear hs
    have g0 : decide (N < 0) = false := by simp; omega
    have g1 : decide (1073741824 < N) = false := by simp; omega
    have g2 : decide (1073741824 < (n : Int)) = false := by simp; omega
    go_enter Try.func26, Try.ntmps26
    go_wp2
    go_loopw [3] (fun iv wr => ∃ k : Nat, k ≤ n ∧ iv = .int .i64 k ∧ Below (w.heap.size + 1) (w.alloc (.cells #[.int .i64 N, .slice a n cap] 24)) wr ∧ Hid (∀ i, i < k → okE N (l.getD i (0, 0)) = true)) (fun iv _ => n - (intOf iv).toNat)
    case atStart => exact ⟨0, by omega, rfl, Below.refl _ _, fun i hi => absurd hi (by omega)⟩
    case round =>
      obtain ⟨k, hk, rfl, hbw, HK⟩ := hrel
      obtain ⟨c0, c1⟩ := box2 hbw
      have hsz : w.heap.size < wr.heap.size := by have := hbw.size; simp at this; omega
      by_cases hlt : k < n
      · obtain ⟨b, off, u, v, rfl, hb, hu, hv, wu, wv, HE⟩ := (((hl.keep ((Below.refl _ _).alloc hB _)).mono (show B ≤ w.heap.size + 1 by omega)).keep hbw).at_ hlt
        have hb2 : b < wr.heap.size := by omega
        have bu := wu.bounds
        have bv := wv.bounds
        go_wp2
        · have HF : Hid (formed N l = false) := formed_false HLEN.out hlt (by rw [HE.out]; exact okE_out (by omega))
          go_ret
          exact ⟨ret_bool HF.out.symm, ((((Below.refl _ _).alloc (Nat.le_refl _) _).trans (hbw.mono (by omega)))).alloc (by omega) _⟩
        · have HO : Hid (okE N (l.getD k (0, 0)) = true) := by unfold Hid; rw [HE.out, okE_iff]; simp only; omega
          have HB2 := Lib.hid (hbw.alloc (o := .cells #[.int .i64 u, .int .i64 v] 43) (by omega))
          go_roundw
          case rel => exact ⟨k + 1, by omega, by go_num, HB2.out, up_snoc HK.out HO.out⟩
          case measure => simp [intOf]; omega
        all_goals
          have HF : Hid (formed N l = false) := formed_false HLEN.out hlt (by rw [HE.out]; exact okE_out (by omega))
          go_ret
          exact ⟨ret_bool HF.out.symm, ((((Below.refl _ _).alloc (Nat.le_refl _) _).trans (hbw.mono (by omega)))).alloc (by omega) _⟩
      · obtain rfl : k = n := by omega
        have HF : Hid (formed N l = true) := formed_true HLEN.out HS.out HK.out
        go_wp2
        go_ret
        exact ⟨ret_bool HF.out.symm, (((Below.refl _ _).alloc (Nat.le_refl _) _).trans (hbw.mono (by omega)))⟩
  · have h3 : N < 0 ∨ 1073741824 < N ∨ 1073741824 < n := by
      rw [sized_iff] at hs; omega
    have HF : Hid (formed N l = false) := by
      unfold Hid formed
      rw [HLEN.out]
      simp only [Bool.not_eq_true] at hs
      rw [hs]; rfl
    clear hs
    go_enter Try.func26, Try.ntmps26
    go_wp2
    all_goals go_ret
    all_goals exact ⟨ret_bool HF.out.symm, (Below.refl _ _).alloc (Nat.le_refl _) _⟩
end Go.Proofs.Ytdjmjabbjjcgiaa
