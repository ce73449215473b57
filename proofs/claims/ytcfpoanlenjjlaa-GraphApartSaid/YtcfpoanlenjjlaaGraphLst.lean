/- What graph.Loops, the reference's Loops and Ints answer. -/
import Derived.Test.YtcfpoanlenjjlaaGraphCnt
namespace Go.Proofs.Ytcfpoanlenjjlaa
open Go.ChangeShapes Go.WideShapes Go.ChangeAt Go.RowKit

theorem loops_eq {l : List (Int × Int)} {k : Nat} {u v : Int} (h : l.getD k (0, 0) = (u, v)) (he : u = v) : loops l (k + 1) = loops l k ++ [k] := by
  rw [loops, h, if_pos he]
theorem loops_ne {l : List (Int × Int)} {k : Nat} {u v : Int} (h : l.getD k (0, 0) = (u, v)) (he : u ≠ v) : loops l (k + 1) = loops l k := by
  rw [loops, h, if_neg he, List.append_nil]
theorem loops_wf {l : List (Int × Int)} {n : Nat} (hn : n ≤ 1073741824) : ∀ x ∈ loops l n, I64 (x : Int) := fun x hx => by
  have := loops_lt l n x hx
  exact I64.of (by omega) (by omega)

set_option maxHeartbeats 1600000 in
set_option maxRecDepth 100000 in
theorem loops_ok (N : Int) (a : Option Addr) (n cap : Nat) (l : List (Int × Int)) (w : World) {B : Nat} (hNw : I64 N) (hf : formed N l = true) (hl : ReadsE w B a n l) (hB : B ≤ w.heap.size) :
    Calls Try.prog 20 #[.agg #[.int .i64 N, .slice a n cap]] w (Listed w (loops l n).length (loops l n)) := by
  obtain ⟨⟨hN0, hN1, hn1⟩, _⟩ := formed_iff.1 hf
  have hn : n ≤ 1073741824 := by rw [← hl.1]; exact hn1
  have HL0 := Lib.hid ((hl.keep ((Below.refl _ _).alloc hB (.cells #[.int .i64 N, .slice a n cap] 24))).mono (show B ≤ w.heap.size + 1 by omega))
  have HF := Lib.hid hf
  obtain ⟨i0, hi, hz0, hz1, hz2⟩ := info_parts info_int
  have HWF := Lib.hid (loops_wf (l := l) hn)
  clear hf hN0 hN1 hn1
  go_enter Try.func20, Try.ntmps20
  go_wp2_with fail
  refine (formed_any N a n cap l _ hNw HL0.out (by simp) (by omega)).mono ?_; rintro e w1 ⟨rfl, hb1⟩
  rw [HF.out]
  have hb1' : Below (w.heap.size + 1) (w.alloc (.cells #[.int .i64 N, .slice a n cap] 24)) w1 := hb1.mono (by simp)
  obtain ⟨c0, c1⟩ := box2 hb1'
  have hsz : w.heap.size < w1.heap.size := by have := hb1'.size; simp at this; omega
  have HB1 := Lib.hid hb1'
  clear hb1 hb1'
  go_wp2
  go_loopw [4, 13] (fun dv iv wr => ∃ k : Nat, k ≤ n ∧ iv = .int .i64 k ∧ Below (w.heap.size + 1) (w.alloc (.cells #[.int .i64 N, .slice a n cap] 24)) wr ∧ Hid (wr.ownsRow (w.heap.size + 1) 3 1 dv (loops l k).length ((loops l k).map i64c))) (fun _ iv _ => n - (intOf iv).toNat)
  case atStart => exact ⟨0, by omega, rfl, HB1.out, World.ownsRow_nil _ _ _ _⟩
  case round =>
    obtain ⟨k, hk, rfl, hbw, HO⟩ := hrel
    have HBW := Lib.hid hbw
    have hsz : w.heap.size < wr.heap.size := by have := hbw.size; simp at this; omega
    by_cases hlt : k < n
    · obtain ⟨b, off, u, v, rfl, hb, hu, hv, wu, wv, HE⟩ := (HL0.out.keep hbw).at_ hlt
      have hb2 : b < wr.heap.size := by omega
      have HLK : Hid ((loops l k).length ≤ k) := loops_length l k
      clear hbw
      by_cases he : u = v
      · subst he
        have HLS := Lib.hid (loops_eq HE.out rfl)
        have g : (u == u) = true := by simp
        go_wp2_with (with_reducible refine stopAt 26 ?_)
        unfold Hid
        refine wpList_append_list _ rfl _ _ 31 rfl (w.heap.size + 1) 3 i0 (.int .i64 0) 8 Try.underlying31 hi hz0 hz1 hz2 rfl _ _ _ rfl ((HO.out.alloc _).alloc _) _ 1 1 [.int .i64 k] rfl rfl (fun _ => ⟨_, rfl, news2⟩) (by simp; rfl) (by have := HLK.out; omega) (by have := HLK.out; omega) (by simp; omega) ?_
        intro v2 w2 hown2 hb2
        have HB2 := Lib.hid (((HBW.out.alloc (show w.heap.size + 1 ≤ wr.heap.size by omega) (.cells #[.int .i64 u, .int .i64 u] 37)).alloc (by simp; omega) (.cells #[.int .i64 k] 3)).trans hb2)
        have HO2 : Hid (w2.ownsRow (w.heap.size + 1) 3 1 v2 (loops l (k + 1)).length ((loops l (k + 1)).map i64c)) := by
          unfold Hid
          rw [HLS.out, List.map_append, List.length_append]; exact hown2
        clear hown2 hb2 HO
        go_wp2
        go_roundw
        case rel => exact ⟨k + 1, by omega, by go_num, HB2.out, HO2.out⟩
        case measure => simp [intOf]; omega
      · have HLS := Lib.hid (loops_ne HE.out he)
        have g : (u == v) = false := by simp; omega
        go_wp2
        have HB2 := Lib.hid (HBW.out.alloc (show w.heap.size + 1 ≤ wr.heap.size by omega) (.cells #[.int .i64 u, .int .i64 v] 37))
        have HO2 : Hid ((wr.alloc (.cells #[.int .i64 u, .int .i64 v] 37)).ownsRow (w.heap.size + 1) 3 1 u4 (loops l (k + 1)).length ((loops l (k + 1)).map i64c)) := by
          unfold Hid
          rw [HLS.out]; exact HO.out.alloc _
        go_roundw
        case rel => exact ⟨k + 1, by omega, by go_num, HB2.out, HO2.out⟩
        case measure => simp [intOf]; omega
    · obtain rfl : k = n := by omega
      have HO2 := Lib.hid (own_base HO.out (show w.heap.size ≤ w.heap.size + 1 by omega))
      go_wp2
      go_ret2
      exact ⟨_, rfl, HO2.out, HWF.out, ((Below.refl _ _).alloc (Nat.le_refl _) _).trans (HBW.out.mono (by omega))⟩

set_option maxHeartbeats 800000 in
set_option maxRecDepth 100000 in
theorem loops_bad (N : Int) (a : Option Addr) (n cap : Nat) (l : List (Int × Int)) (w : World) {B : Nat} (hN : I64 N) (hf : formed N l = false) (hl : ReadsE w B a n l) (hB : B ≤ w.heap.size) (hcap : n ≤ 9223372036854775807) :
    Calls Try.prog 20 #[.agg #[.int .i64 N, .slice a n cap]] w fun e w' => e = .returned (.tuple #[.slice none 0 0, .int .i64 1]) ∧ Below w.heap.size w w' := by
  have HL0 := Lib.hid ((hl.keep ((Below.refl _ _).alloc hB (.cells #[.int .i64 N, .slice a n cap] 24))).mono (show B ≤ w.heap.size + 1 by omega))
  have HF := Lib.hid hf
  clear hf
  go_enter Try.func20, Try.ntmps20
  go_wp2_with fail
  refine (formed_any N a n cap l _ hN HL0.out (by simp) hcap).mono ?_; rintro e w1 ⟨rfl, hb1⟩
  rw [HF.out]
  have HB := Lib.hid (((Below.refl _ _).alloc (Nat.le_refl _) _).trans (hb1.mono (show w.heap.size ≤ _ by simp)))
  clear hb1
  go_wp2
  go_ret2
  exact ⟨rfl, HB.out⟩

set_option maxHeartbeats 1600000 in
set_option maxRecDepth 100000 in
/-- The reference's Loops, of an unformed graph: it asks at the loop's head already. -/
theorem rloops_bad (N : Int) (a : Option Addr) (n cap : Nat) (l : List (Int × Int)) (w : World) {B : Nat} (hN : I64 N) (hf : formed N l = false) (hl : ReadsE w B a n l) (hB : B ≤ w.heap.size) (hcap : n ≤ 9223372036854775807) :
    Calls Try.prog 21 #[.agg #[.int .i64 N, .slice a n cap]] w fun e w' => e = .returned (.tuple #[.slice none 0 0, .int .i64 1]) ∧ Below w.heap.size w w' := by
  have HL0 := Lib.hid ((hl.keep ((Below.refl _ _).alloc hB (.cells #[.int .i64 N, .slice a n cap] 24))).mono (show B ≤ w.heap.size + 1 by omega))
  have HF := Lib.hid hf
  clear hf
  have hq : ∀ W, Below (w.heap.size + 1) (w.alloc (.cells #[.int .i64 N, .slice a n cap] 24)) W → w.heap.size < W.heap.size → Calls Try.prog 11 #[.agg #[.int .i64 N, .slice a n cap]] W fun e w' => e = .returned (.bool false) ∧ Below W.heap.size W w' := fun W hW hs =>
    (rformed_any N a n cap l W hN (HL0.out.keep hW) (by omega) hcap).mono fun e w' h => by rw [HF.out] at h; exact h
  have HQ := Lib.hid hq
  clear hq
  go_enter Try.func21, Try.ntmps21
  go_wp2
  go_loopw [5] (fun iv wr => iv = .int .i64 0 ∧ wr = w.alloc (.cells #[.int .i64 N, .slice a n cap] 24)) (fun _ _ => 0)
  case atStart => exact ⟨rfl, rfl⟩
  case round =>
    obtain ⟨rfl, rfl⟩ := hrel
    by_cases hn : 0 < n
    · have g : decide ((0 : Int) < (n : Int)) = true := by simp; omega
      go_wp2_with fail
      refine (HQ.out _ (Below.refl _ _) (by simp)).mono ?_; rintro e w1 ⟨rfl, hb1⟩
      have hb1' : Below (w.heap.size + 1) (w.alloc (.cells #[.int .i64 N, .slice a n cap] 24)) w1 := hb1.mono (by simp)
      obtain ⟨c0, c1⟩ := box2 hb1'
      have hsz : w.heap.size < w1.heap.size := by have := hb1'.size; simp at this; omega
      have HB1 := Lib.hid hb1'
      clear hb1 hb1'
      go_wp2_with fail
      refine (HQ.out _ HB1.out hsz).mono ?_; rintro e w2 ⟨rfl, hb2⟩
      have HB := Lib.hid (((Below.refl _ _).alloc (Nat.le_refl _) _).trans ((HB1.out.trans (hb2.mono (show w.heap.size + 1 ≤ _ by omega))).mono (show w.heap.size ≤ _ by omega)))
      clear hb2
      go_wp2
      go_ret2
      exact ⟨rfl, HB.out⟩
    · obtain rfl : n = 0 := by omega
      go_wp2_with fail
      refine (HQ.out _ (Below.refl _ _) (by simp)).mono ?_; rintro e w2 ⟨rfl, hb2⟩
      have HB := Lib.hid (((Below.refl _ _).alloc (Nat.le_refl _) _).trans (hb2.mono (show w.heap.size ≤ _ by simp)))
      clear hb2
      go_wp2
      go_ret2
      exact ⟨rfl, HB.out⟩

set_option maxHeartbeats 1600000 in
set_option maxRecDepth 100000 in
theorem rloops_ok (N : Int) (a : Option Addr) (n cap : Nat) (l : List (Int × Int)) (w : World) {B : Nat} (hNw : I64 N) (hf : formed N l = true) (hl : ReadsE w B a n l) (hB : B ≤ w.heap.size) :
    Calls Try.prog 21 #[.agg #[.int .i64 N, .slice a n cap]] w (Listed w (loops l n).length (loops l n)) := by
  obtain ⟨⟨hN0, hN1, hn1⟩, _⟩ := formed_iff.1 hf
  have hn : n ≤ 1073741824 := by rw [← hl.1]; exact hn1
  have HL0 := Lib.hid ((hl.keep ((Below.refl _ _).alloc hB (.cells #[.int .i64 N, .slice a n cap] 24))).mono (show B ≤ w.heap.size + 1 by omega))
  have HF := Lib.hid hf
  obtain ⟨i0, hi, hz0, hz1, hz2⟩ := info_parts info_int
  have HWF := Lib.hid (loops_wf (l := l) hn)
  clear hf hN0 hN1 hn1
  have hq : ∀ W, Below (w.heap.size + 1) (w.alloc (.cells #[.int .i64 N, .slice a n cap] 24)) W → w.heap.size < W.heap.size → Calls Try.prog 11 #[.agg #[.int .i64 N, .slice a n cap]] W fun e w' => e = .returned (.bool true) ∧ Below W.heap.size W w' := fun W hW hs =>
    (rformed_any N a n cap l W hNw (HL0.out.keep hW) (by omega) (by omega)).mono fun e w' h => by rw [HF.out] at h; exact h
  have HQ := Lib.hid hq
  clear hq
  go_enter Try.func21, Try.ntmps21
  go_wp2
  go_loopw [4, 5] (fun dv iv wr => ∃ k : Nat, k ≤ n ∧ iv = .int .i64 k ∧ Below (w.heap.size + 1) (w.alloc (.cells #[.int .i64 N, .slice a n cap] 24)) wr ∧ Hid (wr.ownsRow (w.heap.size + 1) 3 1 dv (loops l k).length ((loops l k).map i64c))) (fun _ iv _ => n - (intOf iv).toNat)
  case atStart => exact ⟨0, by omega, rfl, Below.refl _ _, World.ownsRow_nil _ _ _ _⟩
  case round =>
    obtain ⟨k, hk, rfl, hbw, HO⟩ := hrel
    obtain ⟨c0, c1⟩ := box2 hbw
    have HBW := Lib.hid hbw
    have hsz : w.heap.size < wr.heap.size := by have := hbw.size; simp at this; omega
    clear hbw
    by_cases hlt : k < n
    · have g : decide ((k : Int) < (n : Int)) = true := by simp; omega
      have HLK : Hid ((loops l k).length ≤ k) := loops_length l k
      go_wp2_with fail
      refine (HQ.out _ HBW.out hsz).mono ?_; rintro e w1 ⟨rfl, hb1⟩
      have HB1 := Lib.hid (HBW.out.trans (hb1.mono (show w.heap.size + 1 ≤ wr.heap.size by omega)))
      obtain ⟨c0, c1⟩ := box2 HB1.out
      have HO1 := Lib.hid (own_keep HO.out hb1)
      have hsz1 : w.heap.size < w1.heap.size := by have := hb1.size; omega
      clear hb1 HO
      obtain ⟨b, off, u, v, rfl, hb, hu, hv, wu, wv, HE⟩ := (HL0.out.keep HB1.out).at_ hlt
      have hb2 : b < w1.heap.size := by omega
      have bu := wu.bounds
      have bv := wv.bounds
      have hj0 : (0 : Int) ≤ (k : Int) := by omega
      have hj1 : (k : Int) < (n : Int) := by omega
      by_cases he : u = v
      · subst he
        have HLS := Lib.hid (loops_eq HE.out rfl)
        have g : (u == u) = true := by simp
        go_wp2
        go_quiet (fail)
        go_wp2_with (with_reducible refine stopAt 33 ?_)
        unfold Hid
        refine wpList_append_list _ rfl _ _ 31 rfl (w.heap.size + 1) 3 i0 (.int .i64 0) 8 Try.underlying31 hi hz0 hz1 hz2 rfl _ _ _ rfl (own_drewN HO1.out nq |>.alloc _) _ 1 1 [.int .i64 k] rfl rfl (fun _ => ⟨_, rfl, cells1⟩) (by simp; rfl) (by have := HLK.out; omega) (by have := HLK.out; omega) (by simp; omega) ?_
        intro v2 w2 hown2 hb2
        have HB2 := Lib.hid (((below_drewN HB1.out nq).alloc (show w.heap.size + 1 ≤ (w1.drewN nq).heap.size by simp; omega) (.cells #[.int .i64 k] 3)).trans hb2)
        have HO2 : Hid (w2.ownsRow (w.heap.size + 1) 3 1 v2 (loops l (k + 1)).length ((loops l (k + 1)).map i64c)) := by
          unfold Hid
          rw [HLS.out, List.map_append, List.length_append]; exact hown2
        clear hown2 hb2 HO1
        go_wp2
        go_roundw
        case rel => exact ⟨k + 1, by omega, by go_num, HB2.out, HO2.out⟩
        case measure => simp [intOf]; omega
      · have HLS := Lib.hid (loops_ne HE.out he)
        have g : (u == v) = false := by simp; omega
        go_wp2
        go_quiet (fail)
        go_wp2
        have HB2 := Lib.hid (below_drewN HB1.out nq)
        have HO2 : Hid ((w1.drewN nq).ownsRow (w.heap.size + 1) 3 1 u4 (loops l (k + 1)).length ((loops l (k + 1)).map i64c)) := by
          unfold Hid
          rw [HLS.out]; exact own_drewN HO1.out _
        go_roundw
        case rel => exact ⟨k + 1, by omega, by go_num, HB2.out, HO2.out⟩
        case measure => simp [intOf]; omega
    · obtain rfl : k = n := by omega
      have HO2 := Lib.hid (own_base HO.out (show w.heap.size ≤ w.heap.size + 1 by omega))
      go_wp2_with fail
      refine (HQ.out _ HBW.out hsz).mono ?_; rintro e w2 ⟨rfl, hb2⟩
      have HO3 := Lib.hid (own_keep HO2.out hb2)
      have HB := Lib.hid (((Below.refl _ _).alloc (Nat.le_refl _) _).trans ((HBW.out.trans (hb2.mono (show w.heap.size + 1 ≤ _ by omega))).mono (show w.heap.size ≤ _ by omega)))
      clear hb2
      go_wp2
      go_ret2
      exact ⟨_, rfl, HO3.out, HWF.out, HB.out⟩

def eqI (a b : List Nat) : Bool := decide (a = b)
theorem eqI_true {l m : List Nat} {n : Nat} (hl : l.length = n) (hm : m.length = n) (h : ∀ i, i < n → l.getD i 0 = m.getD i 0) : eqI l m = true := by
  unfold eqI; rw [decide_eq_true_eq]
  refine List.ext_getElem (by omega) fun i h1 h2 => ?_
  have := h i (by omega)
  rwa [List.getD_eq_getElem?_getD, List.getD_eq_getElem?_getD, List.getElem?_eq_getElem h1, List.getElem?_eq_getElem h2] at this
theorem eqI_false {l m : List Nat} {i : Nat} (h : l.getD i 0 ≠ m.getD i 0) : eqI l m = false := by
  unfold eqI; rw [decide_eq_false_iff_not]; intro hc; exact h (by rw [hc])
theorem eqI_len {l m : List Nat} (h : l.length ≠ m.length) : eqI l m = false := by
  unfold eqI; rw [decide_eq_false_iff_not]; intro hc; exact h (by rw [hc])

set_option maxHeartbeats 1600000 in
set_option maxRecDepth 100000 in
theorem ints_any (a a2 : Option Addr) (n cap n2 cap2 : Nat) (l l2 : List Nat) (w : World) {B B2 : Nat} (hl : Reads .i64 w B a n l) (hl2 : Reads .i64 w B2 a2 n2 l2) (hcap : n ≤ 9223372036854775807) (hcap2 : n2 ≤ 9223372036854775807) :
    Calls Try.prog 22 #[.slice a n cap, .slice a2 n2 cap2] w fun e w' => e = .returned (.bool (eqI l l2)) ∧ ∃ m, w' = w.drewN m := by
  have HLEN := Lib.hid hl.1
  have HLEN2 := Lib.hid hl2.1
  by_cases hne : n = n2
  · subst hne
    go_enter Try.func22, Try.ntmps22
    go_wp2
    go_loopw [5] (fun iv wr => ∃ k q : Nat, k ≤ n ∧ iv = .int .i64 k ∧ wr = w.drewN q ∧ Hid (∀ i, i < k → l.getD i 0 = l2.getD i 0)) (fun iv _ => n - (intOf iv).toNat)
    case atStart => exact ⟨0, 0, by omega, rfl, rfl, fun i hi => absurd hi (by omega)⟩
    case round =>
      obtain ⟨k, q, hk, rfl, rfl, HK⟩ := hrel
      by_cases hlt : k < n
      · obtain ⟨b, off, u, rfl, hb, hu, wu, HE⟩ := hl.at_ hlt
        obtain ⟨b2, off2, c, rfl, hb2, hc, wc, HE2⟩ := hl2.at_ hlt
        have hj0 : (0 : Int) ≤ (k : Int) := by omega
        have hj1 : (k : Int) < (n : Int) := by omega
        by_cases he : u = c
        · have g : ((u : Int) != (c : Int)) = false := by simp; omega
          have HD : Hid (l.getD k 0 = l2.getD k 0) := by unfold Hid; rw [← HE.out, ← HE2.out, he]
          clear he
          go_wp2
          go_quiet (fail)
          go_wp2
          go_roundw
          case rel => exact ⟨k + 1, q + nq, by omega, by go_num, by simp, up_snoc HK.out HD.out⟩
          case measure => simp [intOf]; omega
        · have g : ((u : Int) != (c : Int)) = true := by simp; omega
          have HX : Hid (eqI l l2 = false) := eqI_false (i := k) (by rw [← HE.out, ← HE2.out]; exact he)
          clear he
          go_wp2
          go_quiet (fail)
          go_wp2
          go_ret
          exact ⟨ret_bool HX.out.symm, q + nq, by simp⟩
      · obtain rfl : k = n := by omega
        have HX : Hid (eqI l l2 = true) := eqI_true HLEN.out HLEN2.out HK.out
        go_wp2
        go_ret
        exact ⟨ret_bool HX.out.symm, q, rfl⟩
  · have HX : Hid (eqI l l2 = false) := eqI_len (by rw [HLEN.out, HLEN2.out]; exact hne)
    have g : ((n : Int) != (n2 : Int)) = true := by simp; omega
    have g2 : (n != n2) = true := by simp; omega
    go_enter Try.func22, Try.ntmps22
    go_wp2
    go_ret
    exact ⟨ret_bool HX.out.symm, 0, rfl⟩
end Go.Proofs.Ytcfpoanlenjjlaa
