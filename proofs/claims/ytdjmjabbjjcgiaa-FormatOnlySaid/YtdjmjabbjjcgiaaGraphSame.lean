/- What graph.Same and the reference's Same answer. -/
import Derived.Test.YtdjmjabbjjcgiaaGraphSmall
import Derived.IntWalk
import Derived.Laws.StructEq
namespace Go.Proofs.Ytdjmjabbjjcgiaa
open Go.ChangeShapes Go.WideShapes Go.ChangeAt Go.RowKit

def eqL (a b : List (Int × Int)) : Bool := decide (a = b)
def sameG (N : Int) (l : List (Int × Int)) (M : Int) (m : List (Int × Int)) : Bool := decide (N = M) && eqL l m
theorem eqL_true {l m : List (Int × Int)} {n : Nat} (hl : l.length = n) (hm : m.length = n) (h : ∀ i, i < n → l.getD i (0, 0) = m.getD i (0, 0)) : eqL l m = true := by
  unfold eqL; rw [decide_eq_true_eq]
  refine List.ext_getElem (by omega) fun i h1 h2 => ?_
  have := h i (by omega)
  rwa [List.getD_eq_getElem?_getD, List.getD_eq_getElem?_getD, List.getElem?_eq_getElem h1, List.getElem?_eq_getElem h2] at this
theorem eqL_false {l m : List (Int × Int)} {i : Nat} (h : l.getD i (0, 0) ≠ m.getD i (0, 0)) : eqL l m = false := by
  unfold eqL; rw [decide_eq_false_iff_not]; intro hc; exact h (by rw [hc])
theorem eqL_len {l m : List (Int × Int)} (h : l.length ≠ m.length) : eqL l m = false := by
  unfold eqL; rw [decide_eq_false_iff_not]; intro hc; exact h (by rw [hc])

/-- '!=' of two edges -/
theorem neq_edge (w : World) (u v c d : Int) : (binOp .neq 43 (.agg #[.int .i64 u, .int .i64 v]) (.agg #[.int .i64 c, .int .i64 d])).run Try.prog w = .ok (.bool (!(u == c && v == d))) w := by
  have u3 := Try.underlying3
  have hS : Try.prog.underlying 43 = some (.struct (Try.prog.fieldsOf 43)) := by kernel_rfl
  have hp : Try.prog.stoodInHeld 43 = false := by kernel_rfl
  rw [run_neq_struct, show (10000 : Nat) = 9999 + 1 from rfl, run_equalIn_agg w 9999 43 _ _ hS hp]
  simp only [Program.fieldsOf, Try.underlying43]
  go_simp
  by_cases h1 : u = c <;> by_cases h2 : v = d <;> simp [h1, h2]
theorem guard_edge (w : World) (x y : Operand) (u v c d : Int) : (eqGuard .neq 43 x y (.agg #[.int .i64 u, .int .i64 v]) (.agg #[.int .i64 c, .int .i64 d])).run Try.prog w = .ok () w :=
  run_eqGuard_agg w .neq 43 x y _ _ (by kernel_rfl)


theorem sameG_ne {N M : Int} {l m : List (Int × Int)} (h : N ≠ M) : sameG N l M m = false := by unfold sameG; simp [h]
theorem sameG_eq {N : Int} {l m : List (Int × Int)} : sameG N l N m = eqL l m := by unfold sameG; simp


theorem box2b {w wr : World} {x y x' y' : Value} {t t' : TypeId} (hb : Below (w.heap.size + 2) ((w.alloc (.cells #[x, y] t)).alloc (.cells #[x', y'] t')) wr) :
    wr.cell? ⟨w.heap.size, 0, none⟩ = some x ∧ wr.cell? ⟨w.heap.size, 1, none⟩ = some y ∧ wr.cell? ⟨w.heap.size + 1, 0, none⟩ = some x' ∧ wr.cell? ⟨w.heap.size + 1, 1, none⟩ = some y' := by
  have h : Row (w.alloc (.cells #[x, y] t)) w.heap.size t [x, y] := heap_alloc_new _ _
  have h2 : Row ((w.alloc (.cells #[x, y] t)).alloc (.cells #[x', y'] t')) (w.heap.size + 1) t' [x', y'] := by
    have := heap_alloc_new (w.alloc (.cells #[x, y] t)) (.cells #[x', y'] t')
    rw [show (w.alloc (.cells #[x, y] t)).heap.size = w.heap.size + 1 by simp] at this
    exact this
  have h3 := (h.alloc (.cells #[x', y'] t')).below hb (by omega)
  have h4 := h2.below hb (by omega)
  exact ⟨h3.cell 0, h3.cell 1, h4.cell 0, h4.cell 1⟩

set_option maxHeartbeats 1600000 in
set_option maxRecDepth 100000 in
theorem rsame_any (N : Int) (a : Option Addr) (n cap : Nat) (l : List (Int × Int)) (M : Int) (a2 : Option Addr) (n2 cap2 : Nat) (l2 : List (Int × Int)) (w : World) {B B2 : Nat} (hl : ReadsE w B a n l) (hl2 : ReadsE w B2 a2 n2 l2) (hB : B ≤ w.heap.size) (hB2 : B2 ≤ w.heap.size) (hcap : n ≤ 9223372036854775807) (hcap2 : n2 ≤ 9223372036854775807) :
    Calls Try.prog 16 #[.agg #[.int .i64 N, .slice a n cap], .agg #[.int .i64 M, .slice a2 n2 cap2]] w fun e w' => e = .returned (.bool (sameG N l M l2)) ∧ Below w.heap.size w w' := by
  have HLEN := Lib.hid hl.1
  have HLEN2 := Lib.hid hl2.1
  have HA := Lib.hid (hl.keep (((Below.refl _ _).alloc hB (.cells #[.int .i64 N, .slice a n cap] 24)).alloc (by simp; omega) (.cells #[.int .i64 M, .slice a2 n2 cap2] 24)))
  have HA2 := Lib.hid (hl2.keep (((Below.refl _ _).alloc hB2 (.cells #[.int .i64 N, .slice a n cap] 24)).alloc (by simp; omega) (.cells #[.int .i64 M, .slice a2 n2 cap2] 24)))
  by_cases hNM : N = M
  · subst hNM
    have g0 : (N != N) = false := by simp
    have HX0 := Lib.hid (sameG_eq (N := N) (l := l) (m := l2))
    by_cases hne : n = n2
    · subst hne
      go_enter Try.func16, Try.ntmps16
      go_wp2
      go_loopw [5] (fun iv wr => ∃ k : Nat, k ≤ n ∧ iv = .int .i64 k ∧ Below (w.heap.size + 2) ((w.alloc (.cells #[.int .i64 N, .slice a n cap] 24)).alloc (.cells #[.int .i64 N, .slice a2 n cap2] 24)) wr ∧ Hid (∀ i, i < k → l.getD i (0, 0) = l2.getD i (0, 0))) (fun iv _ => n - (intOf iv).toNat)
      case atStart => exact ⟨0, by omega, rfl, Below.refl _ _, fun i hi => absurd hi (by omega)⟩
      case round =>
        obtain ⟨k, hk, rfl, hbw, HK⟩ := hrel
        obtain ⟨c0, c1, c2, c3⟩ := box2b hbw
        have HBW := Lib.hid hbw
        by_cases hlt : k < n
        · obtain ⟨b, off, u, v, rfl, hb, hu, hv, wu, wv, HE⟩ := (HA.out.keep (hbw.mono (by omega))).at_ hlt
          obtain ⟨b2, off2, c, d, rfl, hb2, hc, hd, wc, wd, HE2⟩ := (HA2.out.keep (HBW.out.mono (by omega))).at_ hlt
          have hj0 : (0 : Int) ≤ (k : Int) := by omega
          have hj1 : (k : Int) < (n : Int) := by omega
          have hq := fun W => neq_edge W u v c d
          have hg := fun W x y => guard_edge W x y u v c d
          clear hbw
          go_wp2
          go_quiet (fail)
          go_wp2
          · have hd : u ≠ c ∨ v ≠ d := by rename_i h; simpa using h
            have HX : Hid (eqL l l2 = false) := eqL_false (i := k) (by rw [HE.out, HE2.out]; intro h; injection h; omega)
            go_ret
            exact ⟨ret_bool (by rw [HX0.out, HX.out]), below_drewN ((two_new _ _ _).trans (HBW.out.mono (by omega))) _⟩
          · have hd : u = c ∧ v = d := by rename_i h; simpa using h
            have HD : Hid (l.getD k (0, 0) = l2.getD k (0, 0)) := by unfold Hid; rw [HE.out, HE2.out, hd.1, hd.2]
            have HB2 := Lib.hid (below_drewN HBW.out nq)
            go_roundw
            case rel => exact ⟨k + 1, by omega, by go_num, HB2.out, up_snoc HK.out HD.out⟩
            case measure => simp [intOf]; omega
        · obtain rfl : k = n := by omega
          have HX : Hid (eqL l l2 = true) := eqL_true HLEN.out HLEN2.out HK.out
          go_wp2
          go_ret
          exact ⟨ret_bool (by rw [HX0.out, HX.out]), (two_new _ _ _).trans (HBW.out.mono (by omega))⟩
    · have HX : Hid (eqL l l2 = false) := eqL_len (by rw [HLEN.out, HLEN2.out]; exact hne)
      have g : ((n : Int) != (n2 : Int)) = true := by simp; omega
      have g2 : (n != n2) = true := by simp; omega
      go_enter Try.func16, Try.ntmps16
      go_wp2
      go_ret
      exact ⟨ret_bool (by rw [HX0.out, HX.out]), two_new _ _ _⟩
  · have g : (N != M) = true := by simp; omega
    have HX := Lib.hid (sameG_ne (l := l) (m := l2) hNM)
    go_enter Try.func16, Try.ntmps16
    go_wp2
    go_ret
    exact ⟨ret_bool HX.out.symm, two_new _ _ _⟩
end Go.Proofs.Ytdjmjabbjjcgiaa
