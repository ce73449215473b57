/- What graph.Degrees and the reference's Degrees answer. -/
import Derived.Test.YtcfpoanlenjjlaaGraphSmall
import Derived.IntWalk
namespace Go.Proofs.Ytcfpoanlenjjlaa
open Go.ChangeShapes Go.WideShapes Go.ChangeAt Go.RowKit

def i64c (c : Nat) : Value := .int .i64 c
/-- one more at place u -/
def bump (D : List Nat) (u : Nat) : List Nat := D.set u (D.getD u 0 + 1)
theorem bump_length (D : List Nat) (u : Nat) : (bump D u).length = D.length := by simp [bump]
theorem bump_getD {D : List Nat} {u v : Nat} (hv : v < D.length) : (bump D u).getD v 0 = D.getD v 0 + one (u : Int) (v : Int) := by
  unfold bump one
  simp only [List.getD_eq_getElem?_getD, List.getElem?_set]
  by_cases h : u = v
  · subst h; simp [hv]
  · rw [if_neg h, if_neg (by omega)]; rfl
theorem bump_degs {N : Nat} {l : List (Int × Int)} {u v : Nat} : bump (bump (degs N l) u) v = degs N (l ++ [((u : Int), (v : Int))]) := by
  refine List.ext_getElem (by simp [bump_length, degs_length]) fun i h1 h2 => ?_
  have hi : i < N := by simpa [degs_length] using h2
  have e1 := bump_getD (D := bump (degs N l) u) (u := v) (v := i) (by rw [bump_length, degs_length]; exact hi)
  have e3 := bump_getD (D := degs N l) (u := u) (v := i) (by rw [degs_length]; exact hi)
  rw [degs_getD l hi] at e3
  have e2 := degs_getD (l ++ [((u : Int), (v : Int))]) hi
  rw [deg_snoc] at e2
  rw [List.getD_eq_getElem?_getD, List.getElem?_eq_getElem h1] at e1
  rw [List.getD_eq_getElem?_getD, List.getElem?_eq_getElem h2] at e2
  simp only [Option.getD_some] at e1 e2
  omega
theorem degs_zero (N : Nat) : degs N [] = List.replicate N 0 := by
  refine List.ext_getElem (by simp [degs_length]) fun i h1 h2 => ?_
  simp [degs, deg_nil]
theorem row_bump {w : World} {g : Nat} {t : TypeId} {D : List Nat} (h : Row w g t (D.map i64c)) {u : Nat} : Row (w.setCell ⟨g, u, none⟩ (.int .i64 ((D.getD u 0 : Nat) + 1))) g t ((bump D u).map i64c) := by
  have := h.set u (.int .i64 ((D.getD u 0 : Nat) + 1))
  unfold bump
  rw [List.map_set]
  have e : i64c (D.getD u 0 + 1) = .int .i64 ((D.getD u 0 : Nat) + 1) := rfl
  rw [e]; exact this
theorem row_at {w : World} {g : Nat} {t : TypeId} {D : List Nat} (h : Row w g t (D.map i64c)) {u : Nat} (hu : u < D.length) : w.cell? ⟨g, u, none⟩ = some (.int .i64 (D.getD u 0 : Nat)) := by
  rw [h.cell, List.getElem?_map, List.getElem?_eq_getElem hu, List.getD_eq_getElem?_getD, List.getElem?_eq_getElem hu]; rfl
theorem deg_bound {N : Nat} {l : List (Int × Int)} {n k : Nat} (hk : k ≤ n) (u : Nat) : (degs N (l.take k)).getD u 0 ≤ 2 * n := by
  rcases Nat.lt_or_ge u N with h | h
  · rw [degs_getD _ h]
    have := deg_le (l.take k) u
    have := List.length_take_le k l
    omega
  · rw [List.getD_eq_getElem?_getD, List.getElem?_eq_none (by rw [degs_length]; exact h)]; simp

theorem bump_bound {D : List Nat} {u : Nat} (v : Nat) : (bump D u).getD v 0 ≤ D.getD v 0 + 1 := by
  rcases Nat.lt_or_ge v D.length with h | h
  · rw [bump_getD h]; unfold one; split <;> omega
  · rw [List.getD_eq_getElem?_getD, List.getElem?_eq_none (by rw [bump_length]; exact h)]; simp
/-- a list of n numbers is answered, beside OK, in memory of its own; what was there stays -/
def Listed (w : World) (n : Nat) (L : List Nat) (e : Ending) (w' : World) : Prop :=
  ∃ v, e = .returned (.tuple #[v, .int .i64 0]) ∧ w'.ownsRow w.heap.size 3 1 v n (L.map i64c) ∧ (∀ x ∈ L, I64 (x : Int)) ∧ Below w.heap.size w w'
theorem own_of_row {w : World} {g base : Nat} {t : TypeId} {cs : List Value} {n : Nat} (h : Row w g t cs) (hn : cs.length = n) (hb : base ≤ g) (hm : n ≤ maxLen) : w.ownsRow base t 1 (.slice (some ⟨g, 0, none⟩) n n) n cs :=
  ⟨by omega, .inr ⟨g, n, cs.toArray, rfl, hb, h, Nat.le_refl _, hm, by simp [hn], by rw [Nat.mul_one]; exact List.take_of_length_le (by simp [hn])⟩⟩
theorem own_base {w : World} {base base' : Nat} {e : TypeId} {v : Value} {n : Nat} {xs : List Value} (h : w.ownsRow base e 1 v n xs) (hb : base' ≤ base) : w.ownsRow base' e 1 v n xs := by
  refine ⟨h.1, ?_⟩
  rcases h.2 with h0 | ⟨g, cap, cur, h1, h2, h3⟩
  · exact .inl h0
  · exact .inr ⟨g, cap, cur, h1, by omega, h3⟩
theorem degs_wf {N : Nat} {l : List (Int × Int)} (hl : l.length ≤ 1073741824) : ∀ x ∈ degs N l, I64 (x : Int) := fun x hx => by
  obtain ⟨v, _, rfl⟩ := List.mem_map.1 hx
  have := deg_le l v
  exact I64.of (by omega) (by omega)
theorem info_int : (Try.prog.info? 3).map (fun i => (i.zero, i.size, i.bytes)) = some (some (.int .i64 0), 1, 8) := by kernel_rfl
theorem info_parts {t : TypeId} {z : Value} {s b : Nat} (h : (Try.prog.info? t).map (fun i => (i.zero, i.size, i.bytes)) = some (some z, s, b)) :
    ∃ i, Try.prog.info? t = some i ∧ i.zero = some z ∧ i.size = s ∧ i.bytes = b := by
  rcases hi : Try.prog.info? t with _ | i
  · rw [hi] at h; cases h
  · rw [hi] at h; simp at h; exact ⟨i, rfl, h.1, h.2.1, h.2.2⟩

set_option maxHeartbeats 1600000 in
set_option maxRecDepth 100000 in
theorem degrees_ok (N : Nat) (a : Option Addr) (n cap : Nat) (l : List (Int × Int)) (w : World) {B : Nat} (hf : formed N l = true) (hl : ReadsE w B a n l) (hB : B ≤ w.heap.size) :
    Calls Try.prog 18 #[.agg #[.int .i64 (N : Int), .slice a n cap]] w (Listed w N (degs N l)) := by
  obtain ⟨⟨hN0, hN1, hn1⟩, hends⟩ := formed_iff.1 hf
  have HLEN := Lib.hid hl.1
  have HENDS := Lib.hid hends
  have hn : n ≤ 1073741824 := by rw [← hl.1]; exact hn1
  have hN : N ≤ 1073741824 := by omega
  have HN : Hid (I64 (N : Int)) := I64.of (by omega) (by omega)
  have HL0 := Lib.hid ((hl.keep ((Below.refl _ _).alloc hB (.cells #[.int .i64 (N : Int), .slice a n cap] 24))).mono (show B ≤ w.heap.size + 1 by omega))
  have HF := Lib.hid hf
  obtain ⟨i0, hi, hz0, hz1, hz2⟩ := info_parts info_int
  clear hf hends hN0 hN1 hn1
  go_enter Try.func18, Try.ntmps18
  go_wp2_with fail
  refine (formed_any N a n cap l _ HN.out HL0.out (by simp) (by omega)).mono ?_; rintro e w1 ⟨rfl, hb1⟩
  rw [HF.out]
  have hb1' : Below (w.heap.size + 1) (w.alloc (.cells #[.int .i64 (N : Int), .slice a n cap] 24)) w1 := hb1.mono (by simp)
  obtain ⟨c0, c1⟩ := box2 hb1'
  have hsz : w.heap.size < w1.heap.size := by have := hb1'.size; simp at this; omega
  have HB1 := Lib.hid hb1'
  clear hb1 hb1'
  go_wp2_with (with_reducible refine stopAt 12 ?_)
  unfold Hid
  refine wpList_make_row _ rfl _ _ 31 rfl 3 i0 (.int .i64 0) Try.underlying31 hi hz0 hz1 rfl .i64 .i64 N N N rfl rfl rfl rfl (by rw [hz2]; omega) (by omega) ?_
  intro w2 hrow hb2 hs2
  have HROW : Hid (Row w2 w1.heap.size 3 ((degs N (l.take 0)).map i64c)) := by
    unfold Hid; rw [List.take_zero, degs_zero, List.map_replicate]; exact hrow
  have hb2' : Below (w.heap.size + 1) (w.alloc (.cells #[.int .i64 (N : Int), .slice a n cap] 24)) w2 := HB1.out.trans (hb2.mono (by omega))
  obtain ⟨c0, c1⟩ := box2 hb2'
  have HB2 := Lib.hid hb2'
  have hg : w.heap.size < w1.heap.size := hsz
  have hg2 : w1.heap.size < w2.heap.size := by omega
  clear hrow hb2 hb2' hs2 hsz
  generalize w1.heap.size = g at *
  clear HB1
  go_wp2
  go_loopw [16] (fun iv wr => ∃ k : Nat, k ≤ n ∧ iv = .int .i64 k ∧ Below (w.heap.size + 1) (w.alloc (.cells #[.int .i64 (N : Int), .slice a n cap] 24)) wr ∧ g < wr.heap.size ∧ Hid (Row wr g 3 ((degs N (l.take k)).map i64c))) (fun iv _ => n - (intOf iv).toNat)
  case atStart => exact ⟨0, by omega, rfl, HB2.out, hg2, HROW.out⟩
  case round =>
    obtain ⟨k, hk, rfl, hbw, hgr, HR⟩ := hrel
    obtain ⟨c0, c1⟩ := box2 hbw
    have HBW := Lib.hid hbw
    have hsz : w.heap.size < wr.heap.size := by have := hbw.size; simp at this; omega
    clear HROW HB2
    by_cases hlt : k < n
    · obtain ⟨b, off, u, v, rfl, hb, hu, hv, wu, wv, HE⟩ := (HL0.out.keep hbw).at_ hlt
      have hb2 : b < wr.heap.size := by omega
      have hend := HENDS.out _ (getD_mem (l := l) (i := k) (by have := HLEN.out; omega))
      rw [HE.out] at hend
      obtain ⟨⟨hu0, hu1⟩, hv0, hv1⟩ := hend
      obtain ⟨U, rfl⟩ := Int.eq_ofNat_of_zero_le hu0
      obtain ⟨V, rfl⟩ := Int.eq_ofNat_of_zero_le hv0
      have hU : U < N := by simp only at hu1; omega
      have hV : V < N := by simp only at hv1; omega
      have HT : Hid (l.take (k + 1) = l.take k ++ [((U : Int), (V : Int))]) := by
        unfold Hid
        have hkl : k < l.length := by have := HLEN.out; omega
        rw [List.take_succ_eq_append_getElem hkl]
        have := HE.out
        rw [List.getD_eq_getElem?_getD, List.getElem?_eq_getElem hkl] at this
        simp only [Option.getD_some] at this
        rw [this]
      have hcu := row_at HR.out (show U < (degs N (l.take k)).length by rw [degs_length]; exact hU)
      have hfu := HR.out.free U
      have hdu := deg_bound (N := N) (l := l) hk U
      have hdv := deg_bound (N := N) (l := l) hk V
      have hN2 : (U : Int) < (N : Int) := by omega
      have hN3 : (V : Int) < (N : Int) := by omega
      have HRU := Lib.hid (row_bump HR.out (u := U))
      have HSU : Hid (wr.heap.size = (wr.setCell ⟨g, U, none⟩ (.int .i64 (((degs N (l.take k)).getD U 0 : Nat) + 1))).heap.size) := by unfold Hid; simp
      have HBU := Lib.hid (HBW.out.setCell (show w.heap.size + 1 ≤ g by omega) (p := ⟨g, U, none⟩) (.int .i64 (((degs N (l.take k)).getD U 0 : Nat) + 1)))
      have HBD := Lib.hid (bump_degs (N := N) (l := l.take k) (u := U) (v := V))
      rw [← HT.out] at HBD
      have HEB := Lib.hid (bump_bound (D := degs N (l.take k)) (u := U) V)
      have HDL : Hid ((degs N (l.take k)).length = N) := degs_length _ _
      generalize degs N (l.take k) = D at *
      generalize hD : D.getD U 0 = d at *
      have HD := Lib.hid hD
      clear hu0 hu1 hv0 hv1 hbw hD
      go_upto_region 8 with (fail)
      have hsu := HSU.out
      have hru := HRU.out
      have hbu := HBU.out
      generalize wr.setCell ⟨g, U, none⟩ (.int .i64 ((d : Int) + 1)) = w3 at *
      rw [hsu]
      have hcv := row_at hru (show V < (bump D U).length by rw [bump_length, HDL.out]; exact hV)
      have hfv := hru.free V
      have hdv2 : (bump D U).getD V 0 ≤ 2 * n + 1 := by have := HEB.out; omega
      have HRV := Lib.hid (row_bump hru (u := V))
      have HSV : Hid (w3.heap.size = (w3.setCell ⟨g, V, none⟩ (.int .i64 (((bump D U).getD V 0 : Nat) + 1))).heap.size) := by unfold Hid; simp
      have HBV := Lib.hid (hbu.setCell (show w.heap.size + 1 ≤ g by omega) (p := ⟨g, V, none⟩) (.int .i64 (((bump D U).getD V 0 : Nat) + 1)))
      have hgr3 : g < w3.heap.size := by omega
      have hsz3 : w.heap.size < w3.heap.size := by omega
      rw [HBD.out] at HRV
      generalize (bump D U).getD V 0 = d2 at *
      clear hsu hru hbu HSU HRU HBU hcu hfu
      go_wp2
      have hsv := HSV.out
      have hrv := HRV.out
      have hbv := HBV.out
      generalize w3.setCell ⟨g, V, none⟩ (.int .i64 ((d2 : Int) + 1)) = w4 at *
      have HB4 := Lib.hid (hbv.alloc (show w.heap.size + 1 ≤ w4.heap.size by omega) (.cells #[.int .i64 (U : Int), .int .i64 (V : Int)] 37))
      have HR4 := Lib.hid (hrv.alloc (.cells #[.int .i64 (U : Int), .int .i64 (V : Int)] 37))
      go_roundw
      case rel => exact ⟨k + 1, by omega, by go_num, HB4.out, by simp; omega, HR4.out⟩
      case measure => simp [intOf]; omega
    · obtain rfl : k = n := by omega
      have HR2 : Hid (Row wr g 3 ((degs N l).map i64c)) := by
        have := HR.out
        rwa [List.take_of_length_le (by have := HLEN.out; omega)] at this
      have HRD := Lib.hid (own_of_row (base := w.heap.size) HR2.out (n := N) (by simp [degs_length]) (by omega) (by unfold maxLen; omega))
      have HWF := Lib.hid (degs_wf (N := N) (l := l) (by have := HLEN.out; omega))
      go_wp2
      go_ret2
      exact ⟨_, rfl, HRD.out, HWF.out, ((Below.refl _ _).alloc (Nat.le_refl _) _).trans (HBW.out.mono (by omega))⟩

set_option maxHeartbeats 800000 in
set_option maxRecDepth 100000 in
theorem degrees_bad (N : Int) (a : Option Addr) (n cap : Nat) (l : List (Int × Int)) (w : World) {B : Nat} (hN : I64 N) (hf : formed N l = false) (hl : ReadsE w B a n l) (hB : B ≤ w.heap.size) (hcap : n ≤ 9223372036854775807) :
    Calls Try.prog 18 #[.agg #[.int .i64 N, .slice a n cap]] w fun e w' => e = .returned (.tuple #[.slice none 0 0, .int .i64 1]) ∧ Below w.heap.size w w' := by
  have HL0 := Lib.hid ((hl.keep ((Below.refl _ _).alloc hB (.cells #[.int .i64 N, .slice a n cap] 24))).mono (show B ≤ w.heap.size + 1 by omega))
  have HF := Lib.hid hf
  clear hf
  go_enter Try.func18, Try.ntmps18
  go_wp2_with fail
  refine (formed_any N a n cap l _ hN HL0.out (by simp) hcap).mono ?_; rintro e w1 ⟨rfl, hb1⟩
  rw [HF.out]
  have HB := Lib.hid (((Below.refl _ _).alloc (Nat.le_refl _) _).trans (hb1.mono (show w.heap.size ≤ _ by simp)))
  clear hb1
  go_wp2
  go_ret2
  exact ⟨rfl, HB.out⟩

set_option maxHeartbeats 800000 in
set_option maxRecDepth 100000 in
theorem rdegrees_bad (N : Int) (a : Option Addr) (n cap : Nat) (l : List (Int × Int)) (w : World) {B : Nat} (hN : I64 N) (hf : formed N l = false) (hl : ReadsE w B a n l) (hB : B ≤ w.heap.size) (hcap : n ≤ 9223372036854775807) :
    Calls Try.prog 19 #[.agg #[.int .i64 N, .slice a n cap]] w fun e w' => e = .returned (.tuple #[.slice none 0 0, .int .i64 1]) ∧ Below w.heap.size w w' := by
  have HL0 := Lib.hid ((hl.keep ((Below.refl _ _).alloc hB (.cells #[.int .i64 N, .slice a n cap] 24))).mono (show B ≤ w.heap.size + 1 by omega))
  have HF := Lib.hid hf
  clear hf
  go_enter Try.func19, Try.ntmps19
  go_wp2_with fail
  refine (rformed_any N a n cap l _ hN HL0.out (by simp) hcap).mono ?_; rintro e w1 ⟨rfl, hb1⟩
  rw [HF.out]
  have HB := Lib.hid (((Below.refl _ _).alloc (Nat.le_refl _) _).trans (hb1.mono (show w.heap.size ≤ _ by simp)))
  clear hb1
  go_wp2
  go_ret2
  exact ⟨rfl, HB.out⟩

theorem degs_take (N : Nat) (l : List (Int × Int)) (k : Nat) (hk : k < N) : (degs N l).take (k + 1) = (degs N l).take k ++ [deg l k] := by
  rw [List.take_succ_eq_append_getElem (by rw [degs_length]; exact hk)]
  have := degs_getD l hk
  rw [List.getD_eq_getElem?_getD, List.getElem?_eq_getElem (by rw [degs_length]; exact hk)] at this
  simp only [Option.getD_some] at this
  rw [this]
theorem take_edge {l : List (Int × Int)} {n k : Nat} {u v : Int} (hl : l.length = n) (hk : k < n) (h : l.getD k (0, 0) = (u, v)) : l.take (k + 1) = l.take k ++ [(u, v)] := by
  rw [List.take_succ_eq_append_getElem (by omega)]
  rw [List.getD_eq_getElem?_getD, List.getElem?_eq_getElem (by omega)] at h
  simp only [Option.getD_some] at h
  rw [h]
theorem news2 {w : World} {o : Obj} {t : TypeId} {u : Value} : ∀ j v, ([u] : List Value)[j]? = some v → ((w.alloc o).alloc (.cells #[u] t)).cell? ((⟨w.heap.size + 1, 0, none⟩ : Addr).add j) = some v := by
  have := cells1 (w := w.alloc o) (n := t) (u := u)
  simpa using this
theorem own_keep {w w' : World} {base : Nat} {e : TypeId} {v : Value} {n : Nat} {xs : List Value} (h : w.ownsRow base e 1 v n xs) (hb : Below w.heap.size w w') : w'.ownsRow base e 1 v n xs := by
  refine ⟨h.1, ?_⟩
  rcases h.2 with h0 | ⟨g, cap, cur, h1, h2, h3, h4⟩
  · exact .inl h0
  · refine .inr ⟨g, cap, cur, h1, h2, ?_, h4⟩
    have hlt : g < w.heap.size := by
      rcases Nat.lt_or_ge g w.heap.size with h | h
      · exact h
      · rw [Array.getElem?_eq_none h] at h3; cases h3
    rw [hb.block g hlt]; exact h3
theorem own_drewN {w : World} {base : Nat} {e : TypeId} {v : Value} {n : Nat} {xs : List Value} (h : w.ownsRow base e 1 v n xs) (m : Nat) : (w.drewN m).ownsRow base e 1 v n xs := h
theorem news1 {w : World} {t : TypeId} {u : Value} : ∀ j v, ([u] : List Value)[j]? = some v → (w.alloc (.cells #[u] t)).cell? ((⟨w.heap.size, 0, none⟩ : Addr).add j) = some v := cells1

set_option maxHeartbeats 1600000 in
set_option maxRecDepth 100000 in
theorem rdegrees_ok (N : Nat) (a : Option Addr) (n cap : Nat) (l : List (Int × Int)) (w : World) {B : Nat} (hf : formed N l = true) (hl : ReadsE w B a n l) (hB : B ≤ w.heap.size) :
    Calls Try.prog 19 #[.agg #[.int .i64 (N : Int), .slice a n cap]] w (Listed w N (degs N l)) := by
  obtain ⟨⟨hN0, hN1, hn1⟩, hends⟩ := formed_iff.1 hf
  have HLEN := Lib.hid hl.1
  have HENDS := Lib.hid hends
  have hn : n ≤ 1073741824 := by rw [← hl.1]; exact hn1
  have hN : N ≤ 1073741824 := by omega
  have HN : Hid (I64 (N : Int)) := I64.of (by omega) (by omega)
  have HL0 := Lib.hid ((hl.keep ((Below.refl _ _).alloc hB (.cells #[.int .i64 (N : Int), .slice a n cap] 24))).mono (show B ≤ w.heap.size + 1 by omega))
  have HF := Lib.hid hf
  obtain ⟨i0, hi, hz0, hz1, hz2⟩ := info_parts info_int
  have HWF := Lib.hid (degs_wf (N := N) hn1)
  clear hf hends hN0 hN1 hn1
  go_enter Try.func19, Try.ntmps19
  go_wp2_with fail
  refine (rformed_any N a n cap l _ HN.out HL0.out (by simp) (by omega)).mono ?_; rintro e w1 ⟨rfl, hb1⟩
  rw [HF.out]
  have HB1 := Lib.hid (hb1.mono (show w.heap.size + 1 ≤ _ by simp))
  clear hb1
  go_wp2
  go_loopw [4, 5] (fun dv iv wr => ∃ k : Nat, k ≤ N ∧ iv = .int .i64 k ∧ Below (w.heap.size + 1) (w.alloc (.cells #[.int .i64 (N : Int), .slice a n cap] 24)) wr ∧ Hid (wr.ownsRow (w.heap.size + 1) 3 1 dv k (((degs N l).take k).map i64c))) (fun _ iv _ => N - (intOf iv).toNat)
  case atStart => exact ⟨0, by omega, rfl, HB1.out, World.ownsRow_nil _ _ _ _⟩
  case round =>
    obtain ⟨k, hk, rfl, hbw, HO⟩ := hrel
    obtain ⟨c0, c1⟩ := box2 hbw
    have HBW := Lib.hid hbw
    have hsz : w.heap.size < wr.heap.size := by have := hbw.size; simp at this; omega
    by_cases hlt : k < N
    · have HE0 := Lib.hid (HL0.out.keep hbw)
      clear hbw
      go_wp2
      go_loop [6, 7] (fun nv jv => ∃ j d : Nat, j ≤ n ∧ jv = .int .i64 j ∧ nv = .int .i64 d ∧ d ≤ 2 * j ∧ Hid (d = deg (l.take j) k)) (fun _ jv => n - (intOf jv).toNat)
      case atStart => exact ⟨0, 0, by omega, rfl, rfl, by omega, by unfold Hid; rw [List.take_zero, deg_nil]⟩
      case round =>
        obtain ⟨j, d, hj, rfl, rfl, hdj, HD⟩ := hrel
        by_cases hjn : j < n
        · obtain ⟨b, off, u, v, rfl, hb, hu, hv, wu, wv, HE⟩ := HE0.out.at_ hjn
          have bu := wu.bounds
          have bv := wv.bounds
          have HT := Lib.hid (take_edge HLEN.out hjn HE.out)
          have HS : Hid (deg (l.take (j + 1)) k = d + (one u k + one v k)) := by unfold Hid; rw [HT.out, deg_snoc, ← HD.out]
          by_cases h1 : u = (k : Int)
          · by_cases h2 : v = (k : Int)
            · have g1 : (u == (k : Int)) = true := by simp; omega
              have g2 : (v == (k : Int)) = true := by simp; omega
              have HV : Hid (d + 2 = deg (l.take (j + 1)) k) := by unfold Hid; rw [HS.out]; unfold one; rw [if_pos h1, if_pos h2]
              clear h1 h2
              go_wp2
              go_round
              case rel => exact ⟨j + 1, d + 2, by omega, by go_num, by go_num, by omega, HV.out⟩
              case measure => simp [intOf]; omega
            · have g1 : (u == (k : Int)) = true := by simp; omega
              have g2 : (v == (k : Int)) = false := by simp; omega
              have HV : Hid (d + 1 = deg (l.take (j + 1)) k) := by unfold Hid; rw [HS.out]; unfold one; rw [if_pos h1, if_neg h2]
              clear h1 h2
              go_wp2
              go_round
              case rel => exact ⟨j + 1, d + 1, by omega, by go_num, by go_num, by omega, HV.out⟩
              case measure => simp [intOf]; omega
          · by_cases h2 : v = (k : Int)
            · have g1 : (u == (k : Int)) = false := by simp; omega
              have g2 : (v == (k : Int)) = true := by simp; omega
              have HV : Hid (d + 1 = deg (l.take (j + 1)) k) := by unfold Hid; rw [HS.out]; unfold one; rw [if_neg h1, if_pos h2, Nat.zero_add]
              clear h1 h2
              go_wp2
              go_round
              case rel => exact ⟨j + 1, d + 1, by omega, by go_num, by go_num, by omega, HV.out⟩
              case measure => simp [intOf]; omega
            · have g1 : (u == (k : Int)) = false := by simp; omega
              have g2 : (v == (k : Int)) = false := by simp; omega
              have HV : Hid (d = deg (l.take (j + 1)) k) := by unfold Hid; rw [HS.out]; unfold one; rw [if_neg h1, if_neg h2]; rfl
              clear h1 h2
              go_wp2
              go_round
              case rel => exact ⟨j + 1, d, by omega, by go_num, rfl, by omega, HV.out⟩
              case measure => simp [intOf]; omega
        · obtain rfl : j = n := by omega
          have HD2 : Hid (deg l k = d) := by
            have := HD.out
            rw [List.take_of_length_le (by have := HLEN.out; omega)] at this
            exact this.symm
          go_wp2_with (with_reducible refine stopAt 47 ?_)
          unfold Hid
          refine wpList_append_list _ rfl _ _ 31 rfl (w.heap.size + 1) 3 i0 (.int .i64 0) 8 Try.underlying31 hi hz0 hz1 hz2 rfl _ k _ rfl (HO.out.alloc _) _ 1 1 [.int .i64 d] rfl rfl (fun _ => ⟨_, rfl, cells1⟩) (by simp; rfl) (by omega) (by omega) (by simp; omega) ?_
          intro v2 w2 hown2 hb2
          have HB2 := Lib.hid ((HBW.out.alloc (show w.heap.size + 1 ≤ wr.heap.size by omega) (.cells #[.int .i64 d] 3)).trans hb2)
          have HO2 : Hid (w2.ownsRow (w.heap.size + 1) 3 1 v2 (k + 1) (((degs N l).take (k + 1)).map i64c)) := by
            unfold Hid
            rw [degs_take N l k hlt, List.map_append, HD2.out]; exact hown2
          clear hown2 hb2 HO
          go_wp2
          go_roundw
          case rel => exact ⟨k + 1, by omega, by go_num, HB2.out, HO2.out⟩
          case measure => simp [intOf]; omega
    · obtain rfl : k = N := by omega
      have HO2 : Hid (wr.ownsRow w.heap.size 3 1 u4 k ((degs k l).map i64c)) := by
        have := HO.out
        rw [List.take_of_length_le (by rw [degs_length]; omega)] at this
        exact own_base this (by omega)
      go_wp2
      go_ret2
      exact ⟨_, rfl, HO2.out, HWF.out, ((Below.refl _ _).alloc (Nat.le_refl _) _).trans (HBW.out.mono (by omega))⟩
end Go.Proofs.Ytcfpoanlenjjlaa
