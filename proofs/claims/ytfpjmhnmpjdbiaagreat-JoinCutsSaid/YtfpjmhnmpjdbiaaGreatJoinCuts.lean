/-
  JoinCuts: whatever table and order; no condition.
-/
import Derived.Test.YtfpjmhnmpjdbiaaGreatFurD
import Derived.Test.YtfpjmhnmpjdbiaaGreatRows
import Derived.WalkKit
import Derived.ProofKit
import Derived.OpenShut
import Derived.ShutString
import Derived.ChangeOld
import Derived.Below
namespace Go.Proofs.YtfpjmhnmpjdbiaaGreat.joinCuts
open Go.ChangeShapes Go.WideShapes Go.ChangeAt Go.RowKit
open Go.ChangeMaps (open_string shut_string)
set_option linter.unusedVariables false

theorem own : ownKnob Tryz.prog.godebug = none := by kernel_rfl
theorem laidOut : laidOutB Tryz.prog = true := by kernel_rfl

/-- how many of an order's first are not 0 -/
def cntN (o : Tup) : Nat → Nat
  | 0 => 0
  | i + 1 => cntN o i + if colT o i = 0 then 0 else 1
theorem cnt_le (o : Tup) (i : Nat) : cntN o i ≤ i := by
  induction i with
  | zero => exact Nat.le_refl _
  | succ i ih => unfold cntN; split <;> omega
theorem cnt_name {o : Tup} (hf : Fm o) : ∀ i, i ≤ 5 → cntN o i = min i (nameN o) := fun i hi => by
  induction i with
  | zero => simp [cntN]
  | succ i ih =>
    have ih := ih (by omega)
    unfold cntN
    by_cases hz : colT o i = 0
    · rw [if_pos hz, ih]
      have : nameN o ≤ i := Nat.le_of_not_lt fun h => nameN_nz i h hz
      omega
    · rw [if_neg hz, ih]
      have : i < nameN o := Nat.lt_of_not_le fun h => by
        rcases nameN_stop o with h5 | h0
        · omega
        · rcases Nat.lt_or_ge (nameN o) i with h1 | h1
          · exact ((hf i (by omega)).2 _ h1 hz).1 h0
          · rw [show nameN o = i by omega] at h0; exact hz h0
      omega
/-- what the law's loop holds -/
def FA (k : Nat) (o : Tup) (i c : Nat) (b : Bool) : Prop := i ≤ 5 ∧ c ≤ i ∧ (b = true → ¬ (Fm o ∧ nameN o ≠ 0 ∧ inW k o)) ∧ (b = false → Fm o ∧ (∀ j, j < i → -(k : Int) ≤ colT o j ∧ colT o j ≤ k) ∧ c = cntN o i)
theorem FA.zero (k : Nat) (o : Tup) : FA k o 0 0 (!decide (Fm o)) := ⟨Nat.zero_le _, Nat.le_refl _, fun h q => by simp at h; exact h q.1, fun h => ⟨by simpa using h, fun j hj => absurd hj (by omega), rfl⟩⟩
theorem FA.bad {k : Nat} {o : Tup} {i c c' : Nat} (h : FA k o i c false) (hi : i < 5) (hc : c' ≤ i + 1) (hx : colT o i > k ∨ colT o i < -(k : Int)) : FA k o (i + 1) c' true :=
  ⟨hi, hc, fun _ q => by have := q.2.2 i hi; omega, fun h => Bool.noConfusion h⟩
theorem FA.good {k : Nat} {o : Tup} {i c c' : Nat} (h : FA k o i c false) (hi : i < 5) (hc : c' = c + if colT o i = 0 then 0 else 1) (h1 : ¬ colT o i > k) (h2 : ¬ colT o i < -(k : Int)) : FA k o (i + 1) c' false := by
  have hd := h.2.2.2 rfl
  have hce : c' = cntN o (i + 1) := by rw [hc, hd.2.2]; rfl
  refine ⟨hi, by rw [hce]; exact cnt_le _ _, fun h => Bool.noConfusion h, fun _ => ⟨hd.1, fun j hj => ?_, hce⟩⟩
  rcases Nat.lt_or_ge j i with hl | hl
  · exact hd.2.1 j hl
  · rw [show j = i by omega]; omega
theorem FA.last {k : Nat} {o : Tup} {c : Nat} (h : FA k o 5 c false) : Fm o ∧ inW k o ∧ c = nameN o := by
  have hd := h.2.2.2 rfl
  refine ⟨hd.1, hd.2.1, ?_⟩
  have := nameN_le o
  rw [hd.2.2, cnt_name hd.1 5 (Nat.le_refl _)]; omega

set_option maxHeartbeats 4000000 in
set_option maxRecDepth 100000 in
theorem walk (wd : Nat) (A : Option Addr) (len cap : Nat) (l : List Tup) (o : Tup) (w : World) (bw : wd ≤ 255) (wr : ReadsT w w.heap.size A len l) (wm : len ≤ maxLen) (wo : TupOk o) :
    Calls Tryz.prog 3 #[.agg #[.int .u8 wd, .slice A len cap], .agg #[.int .i64 o.a, .int .i64 o.b, .int .i64 o.c, .int .i64 o.d, .int .i64 o.e]] w fun e w' => e = .returned (.bool true) ∧ Below w.heap.size w w' := by
  obtain ⟨W1, hW1⟩ : ∃ W1, W1 = (w.alloc (.cells #[.int .u8 wd, .slice A len cap] 24)).alloc (.cells #[.int .i64 o.a, .int .i64 o.b, .int .i64 o.c, .int .i64 o.d, .int .i64 o.e] 26) := ⟨_, rfl⟩
  have hb0 : Below w.heap.size w (w.alloc (.cells #[.int .u8 wd, .slice A len cap] 24)) := (Below.refl _ _).alloc (Nat.le_refl _) _
  have hb1 : Below w.heap.size w W1 := by rw [hW1]; exact hb0.alloc hb0.size _
  have r0 : Row (w.alloc (.cells #[.int .u8 wd, .slice A len cap] 24)) w.heap.size 24 [.int .u8 wd, .slice A len cap] := heap_alloc_new _ _
  have r1 : Row W1 w.heap.size 24 [.int .u8 wd, .slice A len cap] := by rw [hW1]; exact r0.below ((Below.refl _ _).alloc (Nat.le_refl _) _) r0.lt
  have r2 : Row W1 (w.heap.size + 1) 26 (tupC o) := by
    have q : Row ((w.alloc (.cells #[.int .u8 wd, .slice A len cap] 24)).alloc (.cells #[.int .i64 o.a, .int .i64 o.b, .int .i64 o.c, .int .i64 o.d, .int .i64 o.e] 26)) (w.alloc (.cells #[.int .u8 wd, .slice A len cap] 24)).heap.size 26 (tupC o) := heap_alloc_new _ _
    rw [← hW1, show (w.alloc (.cells #[.int .u8 wd, .slice A len cap] 24)).heap.size = w.heap.size + 1 by simp] at q
    exact q
  have HW1 := Lib.hid hW1
  have HTB : Hid (∀ u, Below W1.heap.size W1 u → (u.cell? ⟨w.heap.size, 0, none⟩ = some (.int .u8 wd) ∧ u.cell? ⟨w.heap.size, 1, none⟩ = some (.slice A len cap)) ∧ u.cell? ⟨w.heap.size + 1, 0, none⟩ = some (.int .i64 o.a) ∧ u.cell? ⟨w.heap.size + 1, 1, none⟩ = some (.int .i64 o.b) ∧ u.cell? ⟨w.heap.size + 1, 2, none⟩ = some (.int .i64 o.c) ∧ u.cell? ⟨w.heap.size + 1, 3, none⟩ = some (.int .i64 o.d) ∧ u.cell? ⟨w.heap.size + 1, 4, none⟩ = some (.int .i64 o.e)) := fun W hb => by
    have q := r1.below hb r1.lt
    have q2 := r2.below hb r2.lt
    exact ⟨⟨q.cell 0, q.cell 1⟩, q2.cell 0, q2.cell 1, q2.cell 2, q2.cell 3, q2.cell 4⟩
  have HOI : Hid (∀ u, Below W1.heap.size W1 u → ∀ i, i < 5 → u.cell? ⟨w.heap.size + 1, i, none⟩ = some (.int .i64 (colT o i))) := fun W hb i hi => by
    have q2 := r2.below hb r2.lt
    exact (q2.cell i).trans (tupC_at o hi)
  have HE : Hid (∀ W, Below W1.heap.size W1 W → Below w.heap.size w W) := fun W hb => hb1.trans (hb.mono hb1.size)
  have HL : Hid (∀ W, Below W1.heap.size W1 W → ReadsT W W.heap.size A len l) := fun W hb => by
    have h1 := hb1.trans (hb.mono hb1.size)
    exact (wr.keep h1).mono h1.size
  have HLEN : Hid (l.length = len) := wr.1
  have HAW : Hid (∀ W, Calls Tryz.prog 8 #[] W fun e w' => e = .returned (.bool true) ∧ Below W.heap.size W w') := fun W => awake13_any W
  have HWK := Lib.hid (work13_any W1)
  have HM := Lib.hid wm
  have HOO := Lib.hid wo
  have hm2 : len ≤ 9223372036854775807 := by unfold maxLen at wm; omega
  obtain ⟨k, hk⟩ : ∃ k, k = tW wd := ⟨_, rfl⟩
  have hk5 : 0 < k ∧ k ≤ 5 := by rw [hk]; exact tW_le wd
  have HWI : Hid (∀ w, Calls Tryz.prog 11 #[.agg #[.int .u8 wd, .slice A len cap]] w fun e w' => e = .returned (.int .i64 (k : Nat)) ∧ Below w.heap.size w w') := fun w => by have := width_any wd (.slice A len cap) w; rwa [← hk] at this
  have HRF : Hid (∀ w, Calls Tryz.prog 10 #[.agg #[.int .i64 o.a, .int .i64 o.b, .int .i64 o.c, .int .i64 o.d, .int .i64 o.e]] w fun e w' => e = .returned (.bool (decide (Fm o))) ∧ Below w.heap.size w w') := fun w => rformed_any o w
  have HK := Lib.hid hk
  clear hW1 hb0 hb1 r0 r1 r2 wr wm hk wo
  go_enter Tryz.func3, Tryz.ntmps3
  go_upto_region 1 with (fail)
  rw [← HW1.out]
  clear HW1
  go_wp2_with fail
  refine HWK.out.mono ?_
  rintro e w2 ⟨p, G, rfl, hs, hG, hb⟩
  have H2 : Hid (Wd (cxL W1 p 60 12 5000 True 0) [] 0 w2) := cx_start hs hG hb (by omega) (by omega)
  clear hs hG hb HWK
  go_wp2_with fail
  refine (HAW.out _).mono ?_; rintro e w3 ⟨rfl, hb⟩
  have H3 := Lib.hid (H2.out.below hb)
  clear hb H2
  have HLL : Hid (Calls Tryz.prog 9 #[.pointer (some ⟨p.w, 0, none⟩), .agg #[.int .u8 wd, .slice A len cap]] w3 (LlRes (cxL W1 p 60 12 5000 True 0) [] 0 wd l)) :=
    llay_any H3.out trivial (fun z m' W' q => HL.out W' q.bel) HM.out (by show 12 + 0 ≤ 60; omega) (by show 0 + 0 + 300 ≤ 1000000; omega) (fun q hq => rm_law rfl (by simp) (fun a ha => by cases ha) hq)
  obtain ⟨⟨t0, t1⟩, o0, o1, o2, o3, o4⟩ := HTB.out w3 H3.out.bel
  go_wp2_with fail
  refine HLL.out.mono ?_
  rintro e w4 (⟨_, rfl, hw4⟩ | ⟨hl200, hfit, F, N, rfl, hfo, hw4⟩)
  · have HB90 := Lib.hid (HE.out _ (hw4.below ((Below.refl _ _).alloc (Nat.le_refl _) (.cells #[.int .i64 0, .int .i64 0, .int .i64 0, .int .i64 0] 31))).bel)
    clear hw4 HLL t0 t1 o0 o1 o2 o3 o4
    go_wp2
    go_ret
    exact ⟨rfl, HB90.out⟩
  rw [← HK.out] at hfo hw4
  have hw4 : Wd (cxL W1 p 60 12 5000 True 0) [fiO F N k (holdsI 12 (k : Nat)) l 12] (0 + N) w4 := hw4
  have hN : N ≤ 200 := by rw [hfo.bn]; exact Nat.le_trans (blocks_le _ _) hl200
  obtain ⟨w5, hw5⟩ : ∃ w5, w5 = w4.alloc (.cells #[.int .i64 F, .int .i64 N, .int .i64 k, .int .i64 len] 31) := ⟨_, rfl⟩
  have h5 : Wd (cxL W1 p 60 12 5000 True 0) [fiO F N k (holdsI 12 (k : Nat)) l 12, rowO w4.heap.size 31 [.int .i64 F, .int .i64 N, .int .i64 k, .int .i64 len]] (0 + N) w5 := by
    rw [hw5]
    exact hw4.new ((Below.refl _ _).alloc (Nat.le_refl _) _) (heap_alloc_new _ _ : Row _ _ 31 [.int .i64 F, .int .i64 N, .int .i64 k, .int .i64 len]) (Nat.le_refl _)
  have hz5 : w5.heap.size = w4.heap.size + 1 := by rw [hw5]; simp
  obtain ⟨w6, hw6⟩ : ∃ w6, w6 = w5.alloc (.cells #[.int .i64 o.a, .int .i64 o.b, .int .i64 o.c, .int .i64 o.d, .int .i64 o.e] 34) := ⟨_, rfl⟩
  have h6 : Wd (cxL W1 p 60 12 5000 True 0) [fiO F N k (holdsI 12 (k : Nat)) l 12, rowO w4.heap.size 31 [.int .i64 F, .int .i64 N, .int .i64 k, .int .i64 len], rowO (w4.heap.size + 1) 34 (tupC o)] (0 + N) w6 := by
    have h6 := h5.new ((Below.refl _ _).alloc (Nat.le_refl _) _) (heap_alloc_new _ _ : Row (w5.alloc (.cells #[.int .i64 o.a, .int .i64 o.b, .int .i64 o.c, .int .i64 o.d, .int .i64 o.e] 34)) _ 34 (tupC o)) (Nat.le_refl _)
    rw [← hw6, hz5] at h6
    exact h6
  have H5 := Lib.hid h5
  have H6 := Lib.hid h6
  have HFO := Lib.hid hfo
  have HW5 := Lib.hid hw5
  have HW6 := Lib.hid hw6
  have HZ5 := Lib.hid hz5
  have H200 : Hid (len ≤ 200) := by unfold Hid; rw [← HLEN.out]; exact hl200
  have HFIT := Lib.hid hfit
  clear hw4 h5 h6 hfo hw5 hw6 hz5 hl200 hfit HLL t0 t1 o0 o1 o2 o3 o4
  rw [HLEN.out, ← HK.out]
  go_upto_region 5 with (fail)
  rw [← HW5.out]
  clear HW5
  obtain ⟨⟨t0, t1⟩, o0, o1, o2, o3, o4⟩ := HTB.out w5 H5.out.bel
  go_upto_region 8 with (fail)
  rw [← HW6.out, HZ5.out]
  clear HW6 HZ5 t0 t1 o0 o1 o2 o3 o4 H5
  generalize w4.heap.size = fb at *
  obtain ⟨ST, hST⟩ : ∃ ST : World → Prop, ∀ u, ST u ↔ Wd (cxL W1 p 60 12 5000 True 0) [fiO F N k (holdsI 12 (k : Nat)) l 12, rowO fb 31 [.int .i64 F, .int .i64 N, .int .i64 k, .int .i64 len], rowO (fb + 1) 34 (tupC o)] (0 + N) u := ⟨_, fun _ => Iff.rfl⟩
  have HS6 : Hid (ST w6) := (hST _).2 H6.out
  have HSTB : Hid (∀ u u', ST u → Below u.heap.size u u' → ST u') := fun u u' q hb => (hST _).2 (((hST _).1 q).below hb)
  have HSD : Hid (∀ u, ST u → ST u.drew) := fun u q => by
    have := HSTB.out u (u.drewN 1) q (below_drewN (Below.refl u.heap.size u) 1)
    exact this
  have HCE : Hid (∀ u, ST u → ((u.cell? ⟨w.heap.size, 0, none⟩ = some (.int .u8 wd) ∧ u.cell? ⟨w.heap.size, 1, none⟩ = some (.slice A len cap)) ∧ u.cell? ⟨w.heap.size + 1, 0, none⟩ = some (.int .i64 o.a) ∧ u.cell? ⟨w.heap.size + 1, 1, none⟩ = some (.int .i64 o.b) ∧ u.cell? ⟨w.heap.size + 1, 2, none⟩ = some (.int .i64 o.c) ∧ u.cell? ⟨w.heap.size + 1, 3, none⟩ = some (.int .i64 o.d) ∧ u.cell? ⟨w.heap.size + 1, 4, none⟩ = some (.int .i64 o.e)) ∧ (u.cell? ⟨fb, 0, none⟩ = some (.int .i64 F) ∧ u.cell? ⟨fb, 1, none⟩ = some (.int .i64 N) ∧ u.cell? ⟨fb, 2, none⟩ = some (.int .i64 k) ∧ u.cell? ⟨fb, 3, none⟩ = some (.int .i64 len)) ∧ u.cell? ⟨fb + 1, 0, none⟩ = some (.int .i64 o.a) ∧ u.cell? ⟨fb + 1, 1, none⟩ = some (.int .i64 o.b) ∧ u.cell? ⟨fb + 1, 2, none⟩ = some (.int .i64 o.c) ∧ u.cell? ⟨fb + 1, 3, none⟩ = some (.int .i64 o.d) ∧ u.cell? ⟨fb + 1, 4, none⟩ = some (.int .i64 o.e)) := fun u q => by
    have q := (hST _).1 q
    have q2 : Row u fb 31 [.int .i64 F, .int .i64 N, .int .i64 k, .int .i64 len] := q.row (i := 1) rfl
    have q3 : Row u (fb + 1) 34 (tupC o) := q.row (i := 2) rfl
    exact ⟨HTB.out u q.bel, ⟨q2.cell 0, q2.cell 1, q2.cell 2, q2.cell 3⟩, q3.cell 0, q3.cell 1, q3.cell 2, q3.cell 3, q3.cell 4⟩
  have HST := Lib.hid hST
  have HCO : Hid (∀ u, ST u → ∀ i, i < 5 → u.cell? ⟨w.heap.size + 1, i, none⟩ = some (.int .i64 (colT o i))) := fun u q i hi => HOI.out u ((HST.out u).1 q).bel i hi
  obtain ⟨-, -, p0, p1, p2, p3, p4⟩ := HCE.out _ HS6.out
  have HFA0 := Lib.hid (FA.zero k o)
  obtain ⟨df, hdf⟩ : ∃ df, df = decide (Fm o) := ⟨_, rfl⟩
  rw [← hdf] at HRF HFA0
  clear hdf hST H6
  go_wp2_with fail
  refine (HRF.out _).mono ?_
  rintro e w7 ⟨rfl, hb7⟩
  have HS7 := Lib.hid (HSTB.out _ _ HS6.out hb7)
  clear hb7 HS6 p0 p1 p2 p3 p4 HRF
  go_wp2_with fail
  go_loopw [9, 10, 11] (fun nv bv iv wr => ∃ i c : Nat, ∃ b : Bool, iv = .int .i64 (i : Int) ∧ nv = .int .i64 (c : Int) ∧ bv = .bool b ∧ Hid (FA k o i c b) ∧ Hid (ST wr)) (fun _ _ iv _ => 5 - (intOf iv).toNat)
  case atStart => exact ⟨0, 0, !df, rfl, rfl, rfl, HFA0, HS7⟩
  case round =>
    clear HS7 HFA0
    obtain ⟨i, c, b, rfl, rfl, rfl, HFA, HS8⟩ := hrel
    have hi5 : i ≤ 5 := HFA.out.1
    have hci : c ≤ i := HFA.out.2.1
    by_cases hlt : i < 5
    · have g0 : decide ((i : Int) < 5) = true := by simp; omega
      cases b
      · have hi0 : (0 : Int) ≤ (i : Int) := by omega
        have hi1 : (i : Int) < 5 := by omega
        have hx2 := HCO.out _ HS8.out i hlt
        have HCR0 := HCO
        obtain ⟨x, hx⟩ : ∃ x, x = colT o i := ⟨_, rfl⟩
        have hxb : -9223372036854775808 ≤ x ∧ x ≤ 9223372036854775807 := by
          have := colT_ok HOO.out i
          rw [← hx] at this
          unfold I64 at this
          simpa using bounds_i64 this
        rw [← hx] at hx2
        have HCR : Hid (∀ u, ST u → (u.cell? ⟨w.heap.size, 0, none⟩ = some (.int .u8 wd) ∧ u.cell? ⟨w.heap.size, 1, none⟩ = some (.slice A len cap)) ∧ u.cell? ⟨w.heap.size + 1, i, none⟩ = some (.int .i64 x)) := fun u q => by
          rw [hx]
          exact ⟨(HCE.out u q).1.1, HCO.out u q i hlt⟩
        have HX := Lib.hid hx
        obtain ⟨nk, hnk⟩ : ∃ nk : Int, nk = -(k : Int) := ⟨_, rfl⟩
        have hneg : -(k : Int) = nk := hnk.symm
        have hnb : -1000 ≤ nk ∧ nk ≤ 0 := by omega
        have hwn : IntKind.i64.wrap nk = nk := IntWalk.i64_in _ (by omega)
        have HNK := Lib.hid hnk
        have q0 := HCR.out _ (HSD.out _ HS8.out)
        have HS8 := Lib.hid (HSD.out _ HS8.out)
        clear hx hnk HCR0
        by_cases hz : x = 0
        · have gz : (x != 0) = false := by simp [hz]
          have HZ := Lib.hid hz
          clear hz
          by_cases h1 : x > (k : Int)
          · have g1 : decide (x > (k : Int)) = true := by simpa using h1
            go_wp2_with fail
            refine wp_region_held_drew (S := (fun u => (u.cell? ⟨w.heap.size, 0, none⟩ = some (.int .u8 wd) ∧ u.cell? ⟨w.heap.size, 1, none⟩ = some (.slice A len cap)) ∧ u.cell? ⟨w.heap.size + 1, i, none⟩ = some (.int .i64 x))) (by kernel_rfl) q0 (fun hHeld => ?_)
            refine wpAnyH_take (i := 0) (oi := { dst := some 45, op := Op.move (Operand.tmp 11), type := 3, pos := "law.go:102", after := #[], guard := none }) (v := ?_) rfl (by kernel_rfl) (by kernel_rfl) (by kernel_rfl) (fun _ _ _ h => h) (Or.inl ⟨by rfl, ?_⟩) hHeld ?_
            rotate_left
            · (intro w' hSw; (try dsimp only at hSw); go_simp <;> with_reducible rfl)
            try simp only [Act.put, List.setIfInBounds_toArray, List.set_cons_zero, List.set_cons_succ]
            refine wpAnyH_take (i := 1) (oi := { dst := some 46, op := Op.indexAddr 26 (Operand.tmp 3) (Operand.tmp 45), type := 0, pos := "law.go:102", after := #[{ on := 0, ground := Ground.data }], guard := none }) (v := ?_) rfl (by kernel_rfl) (by kernel_rfl) (by kernel_rfl) (fun _ _ _ h => h) (Or.inl ⟨by rfl, ?_⟩) hHeld ?_
            rotate_left
            · (intro w' hSw; (try dsimp only at hSw); go_simp <;> with_reducible rfl)
            try simp only [Act.put, List.setIfInBounds_toArray, List.set_cons_zero, List.set_cons_succ]
            refine wpAnyH_take (i := 2) (oi := { dst := some 47, op := Op.load 3 (Operand.tmp 46), type := 3, pos := "law.go:102", after := #[{ on := 1, ground := Ground.data }], guard := none }) (v := ?_) rfl (by kernel_rfl) (by kernel_rfl) (by kernel_rfl) (fun _ _ _ h => h) (Or.inl ⟨by rfl, ?_⟩) hHeld ?_
            rotate_left
            · (intro w' hSw; (try dsimp only at hSw); go_simp <;> with_reducible rfl)
            try simp only [Act.put, List.setIfInBounds_toArray, List.set_cons_zero, List.set_cons_succ]
            refine wpAnyH_take (i := 3) (oi := { dst := some 48, op := Op.load 24 (Operand.tmp 2), type := 24, pos := "law.go:102", after := #[], guard := none }) (v := ?_) rfl (by kernel_rfl) (by kernel_rfl) (by kernel_rfl) (fun _ _ _ h => h) (Or.inl ⟨by rfl, ?_⟩) hHeld ?_
            rotate_left
            · (intro w' hSw; (try dsimp only at hSw); go_simp <;> with_reducible rfl)
            try simp only [Act.put, List.setIfInBounds_toArray, List.set_cons_zero, List.set_cons_succ]
            refine wpAnyH_ready (rs := [4]) (by kernel_rfl) (by simp) ?_
            refine AllReadyH.cons (o := { dst := some 49, op := Op.call { callee := Callee.value (Operand.func 11), args := #[Operand.tmp 48], argTypes := #[24] }, type := 3, pos := "law.go:102", after := #[{ on := 3, ground := Ground.data }], guard := none }) rfl (fun K hK => ?_) AllReadyH.nil
            go_simp
            go_at_call 11
            (with_reducible refine (HWI.out _).mono ?_); rintro e w9 ⟨rfl, hb9⟩; have k5 := HSTB.out _ _ HS8.out hb9; have q5 := HCR.out _ k5
            go_wp2_with fail
            refine hK.out _ _ q5 (fun hHeld => ?_)
            clear hK K
            try simp only [Act.put, List.setIfInBounds_toArray, List.set_cons_zero, List.set_cons_succ]
            refine wpAnyH_take (i := 5) (oi := { dst := some 50, op := Op.binOp BinOp.gtr 3 (Operand.tmp 47) (Operand.tmp 49) 3, type := 4, pos := "law.go:102", after := #[{ on := 2, ground := Ground.data }, { on := 4, ground := Ground.data }], guard := none }) (v := ?_) rfl (by kernel_rfl) (by kernel_rfl) (by kernel_rfl) (fun _ _ _ h => h) (Or.inl ⟨by rfl, ?_⟩) hHeld ?_
            rotate_left
            · (intro w' hSw; (try dsimp only at hSw); go_simp <;> with_reducible rfl)
            try simp only [Act.put, List.setIfInBounds_toArray, List.set_cons_zero, List.set_cons_succ]
            refine wpAnyH_take (i := 6) (oi := { dst := some 51, op := Op.move (Operand.tmp 50), type := 4, pos := "law.go:102", after := #[{ on := 5, ground := Ground.data }, { on := 4, ground := Ground.chain }], guard := none }) (v := ?_) rfl (by kernel_rfl) (by kernel_rfl) (by kernel_rfl) (fun _ _ _ h => h) (Or.inl ⟨by rfl, ?_⟩) hHeld ?_
            rotate_left
            · (intro w' hSw; (try dsimp only at hSw); go_simp <;> with_reducible rfl)
            try simp only [Act.put, List.setIfInBounds_toArray, List.set_cons_zero, List.set_cons_succ]
            refine wpAnyH_take (i := 7) (oi := { dst := some 52, op := Op.move (Operand.tmp 11), type := 3, pos := "law.go:102", after := #[{ on := 6, ground := Ground.guard }], guard := some (6, false) }) (v := undef) rfl (by kernel_rfl) (by kernel_rfl) (by kernel_rfl) (fun _ _ _ h => h) (Or.inr ⟨by rfl, rfl⟩) hHeld ?_
            try simp only [Act.put, List.setIfInBounds_toArray, List.set_cons_zero, List.set_cons_succ]
            refine wpAnyH_take (i := 8) (oi := { dst := some 53, op := Op.indexAddr 26 (Operand.tmp 3) (Operand.tmp 52), type := 0, pos := "law.go:102", after := #[{ on := 7, ground := Ground.data }, { on := 6, ground := Ground.guard }], guard := some (6, false) }) (v := undef) rfl (by kernel_rfl) (by kernel_rfl) (by kernel_rfl) (fun _ _ _ h => h) (Or.inr ⟨by rfl, rfl⟩) hHeld ?_
            try simp only [Act.put, List.setIfInBounds_toArray, List.set_cons_zero, List.set_cons_succ]
            refine wpAnyH_take (i := 9) (oi := { dst := some 54, op := Op.load 3 (Operand.tmp 53), type := 3, pos := "law.go:102", after := #[{ on := 8, ground := Ground.data }, { on := 6, ground := Ground.guard }], guard := some (6, false) }) (v := undef) rfl (by kernel_rfl) (by kernel_rfl) (by kernel_rfl) (fun _ _ _ h => h) (Or.inr ⟨by rfl, rfl⟩) hHeld ?_
            try simp only [Act.put, List.setIfInBounds_toArray, List.set_cons_zero, List.set_cons_succ]
            refine wpAnyH_take (i := 10) (oi := { dst := some 55, op := Op.load 24 (Operand.tmp 2), type := 24, pos := "law.go:102", after := #[{ on := 6, ground := Ground.guard }], guard := some (6, false) }) (v := undef) rfl (by kernel_rfl) (by kernel_rfl) (by kernel_rfl) (fun _ _ _ h => h) (Or.inr ⟨by rfl, rfl⟩) hHeld ?_
            try simp only [Act.put, List.setIfInBounds_toArray, List.set_cons_zero, List.set_cons_succ]
            refine wpAnyH_take (i := 11) (oi := { dst := some 56, op := Op.call { callee := Callee.value (Operand.func 11), args := #[Operand.tmp 55], argTypes := #[24] }, type := 3, pos := "law.go:102", after := #[{ on := 10, ground := Ground.data }, { on := 6, ground := Ground.chain }, { on := 6, ground := Ground.guard }], guard := some (6, false) }) (v := undef) rfl (by kernel_rfl) (by kernel_rfl) (by kernel_rfl) (fun _ _ _ h => h) (Or.inr ⟨by rfl, rfl⟩) hHeld ?_
            try simp only [Act.put, List.setIfInBounds_toArray, List.set_cons_zero, List.set_cons_succ]
            refine wpAnyH_take (i := 12) (oi := { dst := some 57, op := Op.unOp UnOp.neg 3 (Operand.tmp 56), type := 3, pos := "law.go:102", after := #[{ on := 11, ground := Ground.data }, { on := 6, ground := Ground.guard }], guard := some (6, false) }) (v := undef) rfl (by kernel_rfl) (by kernel_rfl) (by kernel_rfl) (fun _ _ _ h => h) (Or.inr ⟨by rfl, rfl⟩) hHeld ?_
            try simp only [Act.put, List.setIfInBounds_toArray, List.set_cons_zero, List.set_cons_succ]
            refine wpAnyH_take (i := 13) (oi := { dst := some 58, op := Op.binOp BinOp.lss 3 (Operand.tmp 54) (Operand.tmp 57) 3, type := 4, pos := "law.go:102", after := #[{ on := 9, ground := Ground.data }, { on := 12, ground := Ground.data }, { on := 6, ground := Ground.guard }], guard := some (6, false) }) (v := undef) rfl (by kernel_rfl) (by kernel_rfl) (by kernel_rfl) (fun _ _ _ h => h) (Or.inr ⟨by rfl, rfl⟩) hHeld ?_
            try simp only [Act.put, List.setIfInBounds_toArray, List.set_cons_zero, List.set_cons_succ]
            refine wpAnyH_take (i := 14) (oi := { dst := some 59, op := Op.pick (Operand.tmp 51) (Operand.const (Value.bool true)) (Operand.tmp 58), type := 4, pos := "law.go:102", after := #[{ on := 6, ground := Ground.data }, { on := 13, ground := Ground.data }], guard := none }) (v := ?_) rfl (by kernel_rfl) (by kernel_rfl) (by kernel_rfl) (fun _ _ _ h => h) (Or.inl ⟨by rfl, ?_⟩) hHeld ?_
            rotate_left
            · (intro w' hSw; (try dsimp only at hSw); go_simp <;> with_reducible rfl)
            try simp only [Act.put, List.setIfInBounds_toArray, List.set_cons_zero, List.set_cons_succ]
            refine wpAnyH_take (i := 15) (oi := { dst := some 10, op := Op.assign (Operand.tmp 59), type := 4, pos := "law.go:102", after := #[{ on := 14, ground := Ground.data }, { on := 11, ground := Ground.chain }, { on := 0, ground := Ground.phase }, { on := 1, ground := Ground.phase }, { on := 2, ground := Ground.phase }, { on := 3, ground := Ground.phase }, { on := 4, ground := Ground.phase }, { on := 5, ground := Ground.phase }, { on := 6, ground := Ground.phase }, { on := 7, ground := Ground.phase }, { on := 8, ground := Ground.phase }, { on := 9, ground := Ground.phase }, { on := 10, ground := Ground.phase }, { on := 11, ground := Ground.phase }, { on := 12, ground := Ground.phase }, { on := 13, ground := Ground.phase }, { on := 14, ground := Ground.phase }], guard := none }) (v := ?_) rfl (by kernel_rfl) (by kernel_rfl) (by kernel_rfl) (fun _ _ _ h => h) (Or.inl ⟨by rfl, ?_⟩) hHeld ?_
            rotate_left
            · (intro w' hSw; (try dsimp only at hSw); go_simp <;> with_reducible rfl)
            try simp only [Act.put, List.setIfInBounds_toArray, List.set_cons_zero, List.set_cons_succ]
            refine wpAnyH_done (by kernel_rfl) ?_ _
            have HS9 := Lib.hid k5
            clear k5 q0 q5
            have HFN : Hid (FA k o (i + 1) (c) true) := HFA.out.bad hlt (by omega) (by rw [← HX.out]; exact .inl h1)
            go_wp2
            go_roundw
            case rel => exact ⟨i + 1, c, true, by go_num, rfl, rfl, HFN, HS9⟩
            case measure => simp [intOf]; omega
          · have g1 : decide (x > (k : Int)) = false := by simpa using h1
            by_cases h2 : x < nk
            · have g2 : decide (x < nk) = true := by simpa using h2
              go_wp2_with fail
              go_region_held3 (fun u => (u.cell? ⟨w.heap.size, 0, none⟩ = some (.int .u8 wd) ∧ u.cell? ⟨w.heap.size, 1, none⟩ = some (.slice A len cap)) ∧ u.cell? ⟨w.heap.size + 1, i, none⟩ = some (.int .i64 x)) (first | with_reducible exact q0 | with_reducible exact q5)
                (first
                  | (go_at_call 11; (with_reducible refine (HWI.out _).mono ?_); rintro e w9 ⟨rfl, hb9⟩; first
                      | (have k5 := HSTB.out _ _ HS8.out hb9; have q5 := HCR.out _ k5)
                      | (have k5 := HSTB.out _ _ k5 hb9; have q5 := HCR.out _ k5)))
              have HS9 := Lib.hid k5
              clear k5 q0 q5
              have HFN : Hid (FA k o (i + 1) (c) true) := HFA.out.bad hlt (by omega) (by rw [← HX.out, ← HNK.out]; exact .inr h2)
              go_wp2
              go_roundw
              case rel => exact ⟨i + 1, c, true, by go_num, rfl, rfl, HFN, HS9⟩
              case measure => simp [intOf]; omega
            · have g2 : decide (x < nk) = false := by simpa using h2
              go_wp2_with fail
              go_region_held3 (fun u => (u.cell? ⟨w.heap.size, 0, none⟩ = some (.int .u8 wd) ∧ u.cell? ⟨w.heap.size, 1, none⟩ = some (.slice A len cap)) ∧ u.cell? ⟨w.heap.size + 1, i, none⟩ = some (.int .i64 x)) (first | with_reducible exact q0 | with_reducible exact q5)
                (first
                  | (go_at_call 11; (with_reducible refine (HWI.out _).mono ?_); rintro e w9 ⟨rfl, hb9⟩; first
                      | (have k5 := HSTB.out _ _ HS8.out hb9; have q5 := HCR.out _ k5)
                      | (have k5 := HSTB.out _ _ k5 hb9; have q5 := HCR.out _ k5)))
              have HS9 := Lib.hid k5
              clear k5 q0 q5
              have HFN : Hid (FA k o (i + 1) (c) false) := HFA.out.good hlt (by rw [← HX.out, if_pos HZ.out, Nat.add_zero]) (by rw [← HX.out]; omega) (by rw [← HX.out, ← HNK.out]; omega)
              go_wp2
              go_roundw
              case rel => exact ⟨i + 1, c, false, by go_num, rfl, rfl, HFN, HS9⟩
              case measure => simp [intOf]; omega
        · have gz : (x != 0) = true := by simp [hz]
          have HZ := Lib.hid hz
          clear hz
          by_cases h1 : x > (k : Int)
          · have g1 : decide (x > (k : Int)) = true := by simpa using h1
            go_wp2_with fail
            refine wp_region_held_drew (S := (fun u => (u.cell? ⟨w.heap.size, 0, none⟩ = some (.int .u8 wd) ∧ u.cell? ⟨w.heap.size, 1, none⟩ = some (.slice A len cap)) ∧ u.cell? ⟨w.heap.size + 1, i, none⟩ = some (.int .i64 x))) (by kernel_rfl) q0 (fun hHeld => ?_)
            refine wpAnyH_take (i := 0) (oi := { dst := some 45, op := Op.move (Operand.tmp 11), type := 3, pos := "law.go:102", after := #[], guard := none }) (v := ?_) rfl (by kernel_rfl) (by kernel_rfl) (by kernel_rfl) (fun _ _ _ h => h) (Or.inl ⟨by rfl, ?_⟩) hHeld ?_
            rotate_left
            · (intro w' hSw; (try dsimp only at hSw); go_simp <;> with_reducible rfl)
            try simp only [Act.put, List.setIfInBounds_toArray, List.set_cons_zero, List.set_cons_succ]
            refine wpAnyH_take (i := 1) (oi := { dst := some 46, op := Op.indexAddr 26 (Operand.tmp 3) (Operand.tmp 45), type := 0, pos := "law.go:102", after := #[{ on := 0, ground := Ground.data }], guard := none }) (v := ?_) rfl (by kernel_rfl) (by kernel_rfl) (by kernel_rfl) (fun _ _ _ h => h) (Or.inl ⟨by rfl, ?_⟩) hHeld ?_
            rotate_left
            · (intro w' hSw; (try dsimp only at hSw); go_simp <;> with_reducible rfl)
            try simp only [Act.put, List.setIfInBounds_toArray, List.set_cons_zero, List.set_cons_succ]
            refine wpAnyH_take (i := 2) (oi := { dst := some 47, op := Op.load 3 (Operand.tmp 46), type := 3, pos := "law.go:102", after := #[{ on := 1, ground := Ground.data }], guard := none }) (v := ?_) rfl (by kernel_rfl) (by kernel_rfl) (by kernel_rfl) (fun _ _ _ h => h) (Or.inl ⟨by rfl, ?_⟩) hHeld ?_
            rotate_left
            · (intro w' hSw; (try dsimp only at hSw); go_simp <;> with_reducible rfl)
            try simp only [Act.put, List.setIfInBounds_toArray, List.set_cons_zero, List.set_cons_succ]
            refine wpAnyH_take (i := 3) (oi := { dst := some 48, op := Op.load 24 (Operand.tmp 2), type := 24, pos := "law.go:102", after := #[], guard := none }) (v := ?_) rfl (by kernel_rfl) (by kernel_rfl) (by kernel_rfl) (fun _ _ _ h => h) (Or.inl ⟨by rfl, ?_⟩) hHeld ?_
            rotate_left
            · (intro w' hSw; (try dsimp only at hSw); go_simp <;> with_reducible rfl)
            try simp only [Act.put, List.setIfInBounds_toArray, List.set_cons_zero, List.set_cons_succ]
            refine wpAnyH_ready (rs := [4]) (by kernel_rfl) (by simp) ?_
            refine AllReadyH.cons (o := { dst := some 49, op := Op.call { callee := Callee.value (Operand.func 11), args := #[Operand.tmp 48], argTypes := #[24] }, type := 3, pos := "law.go:102", after := #[{ on := 3, ground := Ground.data }], guard := none }) rfl (fun K hK => ?_) AllReadyH.nil
            go_simp
            go_at_call 11
            (with_reducible refine (HWI.out _).mono ?_); rintro e w9 ⟨rfl, hb9⟩; have k5 := HSTB.out _ _ HS8.out hb9; have q5 := HCR.out _ k5
            go_wp2_with fail
            refine hK.out _ _ q5 (fun hHeld => ?_)
            clear hK K
            try simp only [Act.put, List.setIfInBounds_toArray, List.set_cons_zero, List.set_cons_succ]
            refine wpAnyH_take (i := 5) (oi := { dst := some 50, op := Op.binOp BinOp.gtr 3 (Operand.tmp 47) (Operand.tmp 49) 3, type := 4, pos := "law.go:102", after := #[{ on := 2, ground := Ground.data }, { on := 4, ground := Ground.data }], guard := none }) (v := ?_) rfl (by kernel_rfl) (by kernel_rfl) (by kernel_rfl) (fun _ _ _ h => h) (Or.inl ⟨by rfl, ?_⟩) hHeld ?_
            rotate_left
            · (intro w' hSw; (try dsimp only at hSw); go_simp <;> with_reducible rfl)
            try simp only [Act.put, List.setIfInBounds_toArray, List.set_cons_zero, List.set_cons_succ]
            refine wpAnyH_take (i := 6) (oi := { dst := some 51, op := Op.move (Operand.tmp 50), type := 4, pos := "law.go:102", after := #[{ on := 5, ground := Ground.data }, { on := 4, ground := Ground.chain }], guard := none }) (v := ?_) rfl (by kernel_rfl) (by kernel_rfl) (by kernel_rfl) (fun _ _ _ h => h) (Or.inl ⟨by rfl, ?_⟩) hHeld ?_
            rotate_left
            · (intro w' hSw; (try dsimp only at hSw); go_simp <;> with_reducible rfl)
            try simp only [Act.put, List.setIfInBounds_toArray, List.set_cons_zero, List.set_cons_succ]
            refine wpAnyH_take (i := 7) (oi := { dst := some 52, op := Op.move (Operand.tmp 11), type := 3, pos := "law.go:102", after := #[{ on := 6, ground := Ground.guard }], guard := some (6, false) }) (v := undef) rfl (by kernel_rfl) (by kernel_rfl) (by kernel_rfl) (fun _ _ _ h => h) (Or.inr ⟨by rfl, rfl⟩) hHeld ?_
            try simp only [Act.put, List.setIfInBounds_toArray, List.set_cons_zero, List.set_cons_succ]
            refine wpAnyH_take (i := 8) (oi := { dst := some 53, op := Op.indexAddr 26 (Operand.tmp 3) (Operand.tmp 52), type := 0, pos := "law.go:102", after := #[{ on := 7, ground := Ground.data }, { on := 6, ground := Ground.guard }], guard := some (6, false) }) (v := undef) rfl (by kernel_rfl) (by kernel_rfl) (by kernel_rfl) (fun _ _ _ h => h) (Or.inr ⟨by rfl, rfl⟩) hHeld ?_
            try simp only [Act.put, List.setIfInBounds_toArray, List.set_cons_zero, List.set_cons_succ]
            refine wpAnyH_take (i := 9) (oi := { dst := some 54, op := Op.load 3 (Operand.tmp 53), type := 3, pos := "law.go:102", after := #[{ on := 8, ground := Ground.data }, { on := 6, ground := Ground.guard }], guard := some (6, false) }) (v := undef) rfl (by kernel_rfl) (by kernel_rfl) (by kernel_rfl) (fun _ _ _ h => h) (Or.inr ⟨by rfl, rfl⟩) hHeld ?_
            try simp only [Act.put, List.setIfInBounds_toArray, List.set_cons_zero, List.set_cons_succ]
            refine wpAnyH_take (i := 10) (oi := { dst := some 55, op := Op.load 24 (Operand.tmp 2), type := 24, pos := "law.go:102", after := #[{ on := 6, ground := Ground.guard }], guard := some (6, false) }) (v := undef) rfl (by kernel_rfl) (by kernel_rfl) (by kernel_rfl) (fun _ _ _ h => h) (Or.inr ⟨by rfl, rfl⟩) hHeld ?_
            try simp only [Act.put, List.setIfInBounds_toArray, List.set_cons_zero, List.set_cons_succ]
            refine wpAnyH_take (i := 11) (oi := { dst := some 56, op := Op.call { callee := Callee.value (Operand.func 11), args := #[Operand.tmp 55], argTypes := #[24] }, type := 3, pos := "law.go:102", after := #[{ on := 10, ground := Ground.data }, { on := 6, ground := Ground.chain }, { on := 6, ground := Ground.guard }], guard := some (6, false) }) (v := undef) rfl (by kernel_rfl) (by kernel_rfl) (by kernel_rfl) (fun _ _ _ h => h) (Or.inr ⟨by rfl, rfl⟩) hHeld ?_
            try simp only [Act.put, List.setIfInBounds_toArray, List.set_cons_zero, List.set_cons_succ]
            refine wpAnyH_take (i := 12) (oi := { dst := some 57, op := Op.unOp UnOp.neg 3 (Operand.tmp 56), type := 3, pos := "law.go:102", after := #[{ on := 11, ground := Ground.data }, { on := 6, ground := Ground.guard }], guard := some (6, false) }) (v := undef) rfl (by kernel_rfl) (by kernel_rfl) (by kernel_rfl) (fun _ _ _ h => h) (Or.inr ⟨by rfl, rfl⟩) hHeld ?_
            try simp only [Act.put, List.setIfInBounds_toArray, List.set_cons_zero, List.set_cons_succ]
            refine wpAnyH_take (i := 13) (oi := { dst := some 58, op := Op.binOp BinOp.lss 3 (Operand.tmp 54) (Operand.tmp 57) 3, type := 4, pos := "law.go:102", after := #[{ on := 9, ground := Ground.data }, { on := 12, ground := Ground.data }, { on := 6, ground := Ground.guard }], guard := some (6, false) }) (v := undef) rfl (by kernel_rfl) (by kernel_rfl) (by kernel_rfl) (fun _ _ _ h => h) (Or.inr ⟨by rfl, rfl⟩) hHeld ?_
            try simp only [Act.put, List.setIfInBounds_toArray, List.set_cons_zero, List.set_cons_succ]
            refine wpAnyH_take (i := 14) (oi := { dst := some 59, op := Op.pick (Operand.tmp 51) (Operand.const (Value.bool true)) (Operand.tmp 58), type := 4, pos := "law.go:102", after := #[{ on := 6, ground := Ground.data }, { on := 13, ground := Ground.data }], guard := none }) (v := ?_) rfl (by kernel_rfl) (by kernel_rfl) (by kernel_rfl) (fun _ _ _ h => h) (Or.inl ⟨by rfl, ?_⟩) hHeld ?_
            rotate_left
            · (intro w' hSw; (try dsimp only at hSw); go_simp <;> with_reducible rfl)
            try simp only [Act.put, List.setIfInBounds_toArray, List.set_cons_zero, List.set_cons_succ]
            refine wpAnyH_take (i := 15) (oi := { dst := some 10, op := Op.assign (Operand.tmp 59), type := 4, pos := "law.go:102", after := #[{ on := 14, ground := Ground.data }, { on := 11, ground := Ground.chain }, { on := 0, ground := Ground.phase }, { on := 1, ground := Ground.phase }, { on := 2, ground := Ground.phase }, { on := 3, ground := Ground.phase }, { on := 4, ground := Ground.phase }, { on := 5, ground := Ground.phase }, { on := 6, ground := Ground.phase }, { on := 7, ground := Ground.phase }, { on := 8, ground := Ground.phase }, { on := 9, ground := Ground.phase }, { on := 10, ground := Ground.phase }, { on := 11, ground := Ground.phase }, { on := 12, ground := Ground.phase }, { on := 13, ground := Ground.phase }, { on := 14, ground := Ground.phase }], guard := none }) (v := ?_) rfl (by kernel_rfl) (by kernel_rfl) (by kernel_rfl) (fun _ _ _ h => h) (Or.inl ⟨by rfl, ?_⟩) hHeld ?_
            rotate_left
            · (intro w' hSw; (try dsimp only at hSw); go_simp <;> with_reducible rfl)
            try simp only [Act.put, List.setIfInBounds_toArray, List.set_cons_zero, List.set_cons_succ]
            refine wpAnyH_done (by kernel_rfl) ?_ _
            have HS9 := Lib.hid k5
            clear k5 q0 q5
            have HFN : Hid (FA k o (i + 1) (c + 1) true) := HFA.out.bad hlt (by omega) (by rw [← HX.out]; exact .inl h1)
            go_wp2
            go_roundw
            case rel => exact ⟨i + 1, c + 1, true, by go_num, by go_num, rfl, HFN, HS9⟩
            case measure => simp [intOf]; omega
          · have g1 : decide (x > (k : Int)) = false := by simpa using h1
            by_cases h2 : x < nk
            · have g2 : decide (x < nk) = true := by simpa using h2
              go_wp2_with fail
              go_region_held3 (fun u => (u.cell? ⟨w.heap.size, 0, none⟩ = some (.int .u8 wd) ∧ u.cell? ⟨w.heap.size, 1, none⟩ = some (.slice A len cap)) ∧ u.cell? ⟨w.heap.size + 1, i, none⟩ = some (.int .i64 x)) (first | with_reducible exact q0 | with_reducible exact q5)
                (first
                  | (go_at_call 11; (with_reducible refine (HWI.out _).mono ?_); rintro e w9 ⟨rfl, hb9⟩; first
                      | (have k5 := HSTB.out _ _ HS8.out hb9; have q5 := HCR.out _ k5)
                      | (have k5 := HSTB.out _ _ k5 hb9; have q5 := HCR.out _ k5)))
              have HS9 := Lib.hid k5
              clear k5 q0 q5
              have HFN : Hid (FA k o (i + 1) (c + 1) true) := HFA.out.bad hlt (by omega) (by rw [← HX.out, ← HNK.out]; exact .inr h2)
              go_wp2
              go_roundw
              case rel => exact ⟨i + 1, c + 1, true, by go_num, by go_num, rfl, HFN, HS9⟩
              case measure => simp [intOf]; omega
            · have g2 : decide (x < nk) = false := by simpa using h2
              go_wp2_with fail
              go_region_held3 (fun u => (u.cell? ⟨w.heap.size, 0, none⟩ = some (.int .u8 wd) ∧ u.cell? ⟨w.heap.size, 1, none⟩ = some (.slice A len cap)) ∧ u.cell? ⟨w.heap.size + 1, i, none⟩ = some (.int .i64 x)) (first | with_reducible exact q0 | with_reducible exact q5)
                (first
                  | (go_at_call 11; (with_reducible refine (HWI.out _).mono ?_); rintro e w9 ⟨rfl, hb9⟩; first
                      | (have k5 := HSTB.out _ _ HS8.out hb9; have q5 := HCR.out _ k5)
                      | (have k5 := HSTB.out _ _ k5 hb9; have q5 := HCR.out _ k5)))
              have HS9 := Lib.hid k5
              clear k5 q0 q5
              have HFN : Hid (FA k o (i + 1) (c + 1) false) := HFA.out.good hlt (by rw [← HX.out, if_neg HZ.out]) (by rw [← HX.out]; omega) (by rw [← HX.out, ← HNK.out]; omega)
              go_wp2
              go_roundw
              case rel => exact ⟨i + 1, c + 1, false, by go_num, by go_num, rfl, HFN, HS9⟩
              case measure => simp [intOf]; omega
      · have HBAD : Hid (¬ (Fm o ∧ nameN o ≠ 0 ∧ inW k o)) := HFA.out.2.2.1 rfl
        clear HFA
        obtain ⟨⟨⟨t0, t1⟩, o0, o1, o2, o3, o4⟩, ⟨a0, a1, a2, a3⟩, p0, p1, p2, p3, p4⟩ := HCE.out _ HS8.out
        have HCB : Hid (∀ u, Calls Tryz.prog 12 #[.pointer (some ⟨p.w, 0, none⟩), .agg #[.int .i64 F, .int .i64 N, .int .i64 k, .int .i64 len], .agg #[.int .i64 o.a, .int .i64 o.b, .int .i64 o.c, .int .i64 o.d, .int .i64 o.e]] u fun e w' => e = .returned (.tuple #[.agg #[.int .i64 0, .int .i64 0, .int .i64 0, .int .i64 0], .int .i64 1]) ∧ Below u.heap.size u w') := fun u => cut_bad _ F N len k (by omega) o u HBAD.out
        go_wp2_with fail
        refine (HCB.out _).mono ?_
        rintro e w9 ⟨rfl, hb9⟩
        have HS9 := Lib.hid (HSTB.out _ _ (HSTB.out _ _ HS8.out hb9) ((Below.refl _ _).alloc (Nat.le_refl _) (.cells #[.int .i64 0, .int .i64 0, .int .i64 0, .int .i64 0] 31)))
        clear hb9 t0 t1 o0 o1 o2 o3 o4 a0 a1 a2 a3 p0 p1 p2 p3 p4 HCB
        go_upto_region 17 with (fail)
        generalize w9.alloc (.cells #[.int .i64 0, .int .i64 0, .int .i64 0, .int .i64 0] 31) = w10 at *
        generalize w9.heap.size = xb at *
        obtain ⟨-, ⟨a0, a1, a2, a3⟩, -⟩ := HCE.out _ HS9.out
        have HCN : Hid (Calls Tryz.prog 13 #[.pointer (some ⟨p.w, 0, none⟩), .slice (some ⟨w10.heap.size, 0, none⟩) 1 1] (w10.alloc (.cells #[.int .i64 F, .int .i64 N, .int .i64 k, .int .i64 len] 31)) fun e w' => e = .returned (.bool true) ∧ Below W1.heap.size W1 w') := by
          have h8 := (HST.out _).1 HS9.out
          have hn2 : N ≤ 200 := hN
          have hr : Row (w10.alloc (.cells #[.int .i64 F, .int .i64 N, .int .i64 k, .int .i64 len] 31)) w10.heap.size 31 [.int .i64 F, .int .i64 N, .int .i64 k, .int .i64 len] := heap_alloc_new _ _
          refine (clean13_any (bs := fun _ => N) (c := 1) (n := 1) (rb := w10.heap.size) (h8.below ((Below.refl _ _).alloc (Nat.le_refl _) _)) rfl rfl (by show N + (0 + (0 + 0)) = 0 + N; omega) (by omega) (fun i hi => ⟨by omega, ?_⟩) (fun _ => hr.lt)).mono ?_
          · obtain rfl : i = 0 := by omega
            exact hr.cell 1
          · rintro e w' ⟨he, hw⟩
            exact ⟨he, hw.bel⟩
        go_wp2_with fail
        refine HCN.out.mono ?_
        rintro e w11 ⟨rfl, hb11⟩
        have HB90 := Lib.hid (HE.out _ hb11)
        clear hb11 HCN a0 a1 a2 a3
        go_wp2
        go_ret
        exact ⟨rfl, HB90.out⟩
    · obtain rfl : i = 5 := by omega
      have g0 : decide ((5 : Int) < 5) = false := rfl
      cases b
      · have HLA : Hid (Fm o ∧ inW k o ∧ c = nameN o) := HFA.out.last
        clear HFA
        by_cases hc0 : c = 0
        · subst hc0
          have HBAD : Hid (¬ (Fm o ∧ nameN o ≠ 0 ∧ inW k o)) := fun q => q.2.1 HLA.out.2.2.symm
          clear HLA
          obtain ⟨⟨⟨t0, t1⟩, o0, o1, o2, o3, o4⟩, ⟨a0, a1, a2, a3⟩, p0, p1, p2, p3, p4⟩ := HCE.out _ HS8.out
          have HCB : Hid (∀ u, Calls Tryz.prog 12 #[.pointer (some ⟨p.w, 0, none⟩), .agg #[.int .i64 F, .int .i64 N, .int .i64 k, .int .i64 len], .agg #[.int .i64 o.a, .int .i64 o.b, .int .i64 o.c, .int .i64 o.d, .int .i64 o.e]] u fun e w' => e = .returned (.tuple #[.agg #[.int .i64 0, .int .i64 0, .int .i64 0, .int .i64 0], .int .i64 1]) ∧ Below u.heap.size u w') := fun u => cut_bad _ F N len k (by omega) o u HBAD.out
          go_wp2_with fail
          refine (HCB.out _).mono ?_
          rintro e w9 ⟨rfl, hb9⟩
          have HS9 := Lib.hid (HSTB.out _ _ (HSTB.out _ _ HS8.out hb9) ((Below.refl _ _).alloc (Nat.le_refl _) (.cells #[.int .i64 0, .int .i64 0, .int .i64 0, .int .i64 0] 31)))
          clear hb9 t0 t1 o0 o1 o2 o3 o4 a0 a1 a2 a3 p0 p1 p2 p3 p4 HCB
          go_upto_region 17 with (fail)
          generalize w9.alloc (.cells #[.int .i64 0, .int .i64 0, .int .i64 0, .int .i64 0] 31) = w10 at *
          generalize w9.heap.size = xb at *
          obtain ⟨-, ⟨a0, a1, a2, a3⟩, -⟩ := HCE.out _ HS9.out
          have HCN : Hid (Calls Tryz.prog 13 #[.pointer (some ⟨p.w, 0, none⟩), .slice (some ⟨w10.heap.size, 0, none⟩) 1 1] (w10.alloc (.cells #[.int .i64 F, .int .i64 N, .int .i64 k, .int .i64 len] 31)) fun e w' => e = .returned (.bool true) ∧ Below W1.heap.size W1 w') := by
            have h8 := (HST.out _).1 HS9.out
            have hn2 : N ≤ 200 := hN
            have hr : Row (w10.alloc (.cells #[.int .i64 F, .int .i64 N, .int .i64 k, .int .i64 len] 31)) w10.heap.size 31 [.int .i64 F, .int .i64 N, .int .i64 k, .int .i64 len] := heap_alloc_new _ _
            refine (clean13_any (bs := fun _ => N) (c := 1) (n := 1) (rb := w10.heap.size) (h8.below ((Below.refl _ _).alloc (Nat.le_refl _) _)) rfl rfl (by show N + (0 + (0 + 0)) = 0 + N; omega) (by omega) (fun i hi => ⟨by omega, ?_⟩) (fun _ => hr.lt)).mono ?_
            · obtain rfl : i = 0 := by omega
              exact hr.cell 1
            · rintro e w' ⟨he, hw⟩
              exact ⟨he, hw.bel⟩
          go_wp2_with fail
          refine HCN.out.mono ?_
          rintro e w11 ⟨rfl, hb11⟩
          have HB90 := Lib.hid (HE.out _ hb11)
          clear hb11 HCN a0 a1 a2 a3
          go_wp2
          go_ret
          exact ⟨rfl, HB90.out⟩
        · have hcz : ((c : Int) == 0) = false := by simp; omega
          have hcn : ¬ (c : Int) = 0 := by omega
          obtain ⟨⟨⟨t0, t1⟩, o0, o1, o2, o3, o4⟩, ⟨a0, a1, a2, a3⟩, p0, p1, p2, p3, p4⟩ := HCE.out _ HS8.out
          have hc15 : 0 < c ∧ c ≤ 5 := by omega
          have hho : 0 < holdsI 12 (c : Nat) := by
            rcases (show c = 1 ∨ c = 2 ∨ c = 3 ∨ c = 4 ∨ c = 5 by omega) with rfl | rfl | rfl | rfl | rfl <;> decide
          obtain ⟨OUT, hout⟩ : ∃ OUT, OUT = outL (cutC o) l len := ⟨_, rfl⟩
          obtain ⟨n9, hn9⟩ : ∃ n9, n9 = OUT.length := ⟨_, rfl⟩
          have HN9 : Hid (n9 ≤ len) := by unfold Hid; rw [hn9, hout]; exact outL_len _ _ _
          have HCT : Hid (Calls Tryz.prog 12 #[.pointer (some ⟨p.w, 0, none⟩), .agg #[.int .i64 F, .int .i64 N, .int .i64 k, .int .i64 len], .agg #[.int .i64 o.a, .int .i64 o.b, .int .i64 o.c, .int .i64 o.d, .int .i64 o.e]] wr fun e w' =>
              ∃ F2 N2 : Nat, e = .returned (.tuple #[.agg #[.int .i64 F2, .int .i64 N2, .int .i64 c, .int .i64 n9], .int .i64 0]) ∧ N2 ≤ 200 ∧ FOk F2 N2 c (holdsI 12 (c : Nat)) OUT 12 ∧
                Wd (cxL W1 p 60 12 5000 True 0) [fiO F N k (holdsI 12 (k : Nat)) l 12, rowO fb 31 [.int .i64 F, .int .i64 N, .int .i64 k, .int .i64 len], rowO (fb + 1) 34 (tupC o), fiO F2 N2 c (holdsI 12 (c : Nat)) OUT 12] (0 + N + N2 + N) w') := by
            have h20 := H200.out
            obtain ⟨hfm, hin, hcn⟩ := HLA.out
            have hh := hho
            rw [hcn] at hh
            have q := wd_cut (X := cxL W1 p 60 12 5000 True 0) (o := o) ((HST.out _).1 HS8.out) HFO.out List.mem_cons_self HLEN.out hfm (by omega) hin (by show 2 * 12 + 0 ≤ 60; omega) (by show 0 + (0 + N) + N + len + 2 ≤ 1000000; omega) hh
            rw [← hcn, ← hout] at q
            refine q.mono ?_
            rintro e w' h9
            obtain ⟨F2, N2, he, hf2, hw⟩ := op_good h9 trivial (rm_law rfl (by simp) (fun a ha => by
              simp at ha
              rcases ha with rfl | rfl | rfl
              · exact (show N ≤ 200 by omega)
              · exact Nat.zero_le _
              · exact Nat.zero_le _) (Nat.le_trans (blocks_le _ _) h20))
            rw [← hn9] at he
            refine ⟨F2, N2, he, ?_, hf2, hw⟩
            have h7 := hf2.bn
            rw [← hn9] at h7
            have h8 := blocks_le (holdsI 12 (c : Nat)) n9
            have h7 : N2 = blocksN (holdsI 12 (c : Nat)) n9 := h7
            have := HN9.out
            omega
          have HNN := Lib.hid hn9
          have HOUT := Lib.hid hout
          clear hn9 hout hho HLA
          go_wp2_with fail
          refine HCT.out.mono ?_
          rintro e w6 ⟨F2, N2, rfl, hn2, hf2, hw6⟩
          have HN2 := Lib.hid hn2
          have HF2 := Lib.hid hf2
          obtain ⟨w7, hw7⟩ : ∃ w7, w7 = w6.alloc (.cells #[.int .i64 F2, .int .i64 N2, .int .i64 c, .int .i64 n9] 31) := ⟨_, rfl⟩
          have H7 : Hid (Wd (cxL W1 p 60 12 5000 True 0) [fiO F N k (holdsI 12 (k : Nat)) l 12, rowO fb 31 [.int .i64 F, .int .i64 N, .int .i64 k, .int .i64 len], rowO (fb + 1) 34 (tupC o), fiO F2 N2 c (holdsI 12 (c : Nat)) OUT 12, rowO w6.heap.size 31 [.int .i64 F2, .int .i64 N2, .int .i64 c, .int .i64 n9]] (0 + N + N2 + N) w7) := by
            rw [hw7]
            exact hw6.new ((Below.refl _ _).alloc (Nat.le_refl _) _) (heap_alloc_new _ _ : Row _ _ 31 [.int .i64 F2, .int .i64 N2, .int .i64 c, .int .i64 n9]) (Nat.le_refl _)
          have HW7 := Lib.hid hw7
          clear hn2 hf2 hw6 hw7 HCT t0 t1 o0 o1 o2 o3 o4 a0 a1 a2 a3 p0 p1 p2 p3 p4
          go_upto_region 17 with (fail)
          rw [← HW7.out]
          clear HW7
          generalize w6.heap.size = xb at *
          have HR8 : Hid (Row w7 xb 31 [.int .i64 F2, .int .i64 N2, .int .i64 c, .int .i64 n9]) := H7.out.row (i := 4) rfl
          have a0 : w7.cell? ⟨xb, 0, none⟩ = some (.int .i64 F2) := HR8.out.cell 0
          have a1 : w7.cell? ⟨xb, 1, none⟩ = some (.int .i64 N2) := HR8.out.cell 1
          have a2 : w7.cell? ⟨xb, 2, none⟩ = some (.int .i64 c) := HR8.out.cell 2
          have a3 : w7.cell? ⟨xb, 3, none⟩ = some (.int .i64 n9) := HR8.out.cell 3
          have HLI : Hid (Calls Tryz.prog 14 #[.pointer (some ⟨p.w, 0, none⟩), .agg #[.int .i64 F2, .int .i64 N2, .int .i64 c, .int .i64 n9]] w7 fun e w' => ∃ v, e = .returned (.tuple #[v, .int .i64 0]) ∧
              Wd (cxL W1 p 60 12 5000 True 0) [fiO F N k (holdsI 12 (k : Nat)) l 12, rowO fb 31 [.int .i64 F, .int .i64 N, .int .i64 k, .int .i64 len], rowO (fb + 1) 34 (tupC o), fiO F2 N2 c (holdsI 12 (c : Nat)) OUT 12, rowO xb 31 [.int .i64 F2, .int .i64 N2, .int .i64 c, .int .i64 n9], tlO (cxL W1 p 60 12 5000 True 0) v OUT] (0 + N + N2 + N + N2) w') := by
            have h1 := HN2.out
            exact wd_list (X := cxL W1 p 60 12 5000 True 0) H7.out (i := 3) rfl HF2.out trivial (by show 12 ≤ 60 - 0; omega) (by show 0 + (0 + N + N2 + N) + N2 + 1 ≤ 1000000; omega) HNN.out.symm
          go_wp2_with fail
          refine HLI.out.mono ?_
          rintro e w9 ⟨v, rfl, hw9⟩
          have hln : OUT.length = n9 := HNN.out.symm
          obtain ⟨A9, c9, rfl, _, hc9⟩ := hw9.tread (i := 5) rfl (fun u hu => (HF2.out.fit u hu).1)
          rw [hln] at hw9 ⊢
          obtain ⟨S2, hS2⟩ : ∃ S2 : World → Prop, ∀ u, S2 u ↔ Wd (cxL W1 p 60 12 5000 True 0) [fiO F N k (holdsI 12 (k : Nat)) l 12, rowO fb 31 [.int .i64 F, .int .i64 N, .int .i64 k, .int .i64 len], rowO (fb + 1) 34 (tupC o), fiO F2 N2 c (holdsI 12 (c : Nat)) OUT 12, rowO xb 31 [.int .i64 F2, .int .i64 N2, .int .i64 c, .int .i64 n9], tlO (cxL W1 p 60 12 5000 True 0) (.slice A9 n9 c9) OUT] (0 + N + N2 + N + N2) u := ⟨_, fun _ => Iff.rfl⟩
          have HS9 : Hid (S2 w9) := (hS2 _).2 hw9
          have HSTB2 : Hid (∀ u u', S2 u → Below u.heap.size u u' → S2 u') := fun u u' q hb => (hS2 _).2 (((hS2 _).1 q).below hb)
          have HCE2 : Hid (∀ u, S2 u → ((u.cell? ⟨w.heap.size, 0, none⟩ = some (.int .u8 wd) ∧ u.cell? ⟨w.heap.size, 1, none⟩ = some (.slice A len cap)) ∧ u.cell? ⟨w.heap.size + 1, 0, none⟩ = some (.int .i64 o.a) ∧ u.cell? ⟨w.heap.size + 1, 1, none⟩ = some (.int .i64 o.b) ∧ u.cell? ⟨w.heap.size + 1, 2, none⟩ = some (.int .i64 o.c) ∧ u.cell? ⟨w.heap.size + 1, 3, none⟩ = some (.int .i64 o.d) ∧ u.cell? ⟨w.heap.size + 1, 4, none⟩ = some (.int .i64 o.e)) ∧ (u.cell? ⟨fb, 0, none⟩ = some (.int .i64 F) ∧ u.cell? ⟨fb, 1, none⟩ = some (.int .i64 N) ∧ u.cell? ⟨fb, 2, none⟩ = some (.int .i64 k) ∧ u.cell? ⟨fb, 3, none⟩ = some (.int .i64 len)) ∧ (u.cell? ⟨fb + 1, 0, none⟩ = some (.int .i64 o.a) ∧ u.cell? ⟨fb + 1, 1, none⟩ = some (.int .i64 o.b) ∧ u.cell? ⟨fb + 1, 2, none⟩ = some (.int .i64 o.c) ∧ u.cell? ⟨fb + 1, 3, none⟩ = some (.int .i64 o.d) ∧ u.cell? ⟨fb + 1, 4, none⟩ = some (.int .i64 o.e)) ∧ u.cell? ⟨xb, 0, none⟩ = some (.int .i64 F2) ∧ u.cell? ⟨xb, 1, none⟩ = some (.int .i64 N2) ∧ u.cell? ⟨xb, 2, none⟩ = some (.int .i64 c) ∧ u.cell? ⟨xb, 3, none⟩ = some (.int .i64 n9)) := fun u q => by
            have q := (hS2 _).1 q
            have q2 : Row u fb 31 [.int .i64 F, .int .i64 N, .int .i64 k, .int .i64 len] := q.row (i := 1) rfl
            have q3 : Row u (fb + 1) 34 (tupC o) := q.row (i := 2) rfl
            have q4 : Row u xb 31 [.int .i64 F2, .int .i64 N2, .int .i64 c, .int .i64 n9] := q.row (i := 4) rfl
            exact ⟨HTB.out u q.bel, ⟨q2.cell 0, q2.cell 1, q2.cell 2, q2.cell 3⟩, ⟨q3.cell 0, q3.cell 1, q3.cell 2, q3.cell 3, q3.cell 4⟩, q4.cell 0, q4.cell 1, q4.cell 2, q4.cell 3⟩
          have HRN : Hid (∀ u, S2 u → Calls Tryz.prog 16 #[.slice A len cap, .agg #[.int .i64 o.a, .int .i64 o.b, .int .i64 o.c, .int .i64 o.d, .int .i64 o.e]] u fun e w' => ∃ A8 c8, e = .returned (.slice A8 n9 c8) ∧ S2 w' ∧ Hid (c8 ≤ maxLen ∧ ReadsT w' w'.heap.size A8 n9 OUT)) := fun u q => by
            have h20 := H200.out
            refine (rcutl_any A len cap l o u (HL.out u ((hS2 _).1 q).bel) (by omega)).mono ?_
            rintro e w' ⟨v, he, hrl⟩
            have ho := hrl.2
            rw [← HOUT.out, hln] at ho
            obtain ⟨A8, c8, hv, hrd, _, hm8, _⟩ := ownT_reads ho (fun u hu => (HF2.out.fit u hu).1)
            exact ⟨A8, c8, by rw [he, hv], HSTB2.out u w' q hrl.1, hm8, hrd⟩
          have HRS : Hid (∀ u A8 c8, S2 u → Hid (c8 ≤ maxLen ∧ ReadsT u u.heap.size A8 n9 OUT) → Calls Tryz.prog 15 #[.slice A9 n9 c9, .slice A8 n9 c8] u fun e w' => e = .returned (.bool true) ∧ S2 w') := fun u A8 c8 q hr => by
            obtain ⟨A9', c9', e9, hr9, _⟩ := ((hS2 _).1 q).tread (i := 5) rfl (fun u hu => (HF2.out.fit u hu).1)
            rw [hln] at e9 hr9
            injection e9 with e1 e2 e3
            subst e1
            have := rsame_any A9 A8 n9 n9 c9 c8 _ _ u hr9 hr.out.2 (Nat.le_trans HN9.out HM.out) (Nat.le_trans HN9.out HM.out)
            rw [decide_eq_true rfl] at this
            refine this.mono ?_
            rintro e w' ⟨he, q9, rfl⟩
            exact ⟨he, HSTB2.out u _ q (below_drewN (Below.refl _ _) q9)⟩
          have HCN : Hid (∀ u, S2 u → Calls Tryz.prog 13 #[.pointer (some ⟨p.w, 0, none⟩), .slice (some ⟨u.heap.size, 0, none⟩) 2 2] (u.alloc (.cells #[.int .i64 F, .int .i64 N, .int .i64 k, .int .i64 len, .int .i64 F2, .int .i64 N2, .int .i64 c, .int .i64 n9] 31)) fun e w' => e = .returned (.bool true) ∧ S2 w') := fun u q => by
            have h20 := HN2.out
            have hn200 : N ≤ 200 := hN
            have hr : Row (u.alloc (.cells #[.int .i64 F, .int .i64 N, .int .i64 k, .int .i64 len, .int .i64 F2, .int .i64 N2, .int .i64 c, .int .i64 n9] 31)) u.heap.size 31 [.int .i64 F, .int .i64 N, .int .i64 k, .int .i64 len, .int .i64 F2, .int .i64 N2, .int .i64 c, .int .i64 n9] := heap_alloc_new _ _
            refine (clean13_any (bs := fun i => if i = 0 then N else N2) (c := 2) (n := 2) (rb := u.heap.size) (((hS2 _).1 q).below ((Below.refl _ _).alloc (Nat.le_refl _) _)) rfl rfl (by show N + (0 + (0 + (N2 + (0 + (0 + 0))))) = 0 + N + N2; omega) (by omega) (fun i hi => ⟨by split <;> omega, ?_⟩) (fun _ => hr.lt)).mono ?_
            · rcases (show i = 0 ∨ i = 1 by omega) with rfl | rfl
              · exact hr.cell 1
              · exact hr.cell 5
            · rintro e w' ⟨he, hw⟩
              exact ⟨he, (hS2 _).2 hw⟩
          have HEND : Hid (∀ u, S2 u → Below w.heap.size w u) := fun u q => HE.out _ ((hS2 _).1 q).bel
          have HC9 := Lib.hid hc9
          clear hS2 hw9 HLI a0 a1 a2 a3 hc9
          obtain ⟨⟨⟨t0, t1⟩, o0, o1, o2, o3, o4⟩, ⟨a0, a1, a2, a3⟩, ⟨p0, p1, p2, p3, p4⟩, x0, x1, x2, x3⟩ := HCE2.out _ HS9.out
          go_wp2_with fail
          refine (HRN.out _ HS9.out).mono ?_
          rintro e w11 ⟨A8, c8, rfl, k6, hr6⟩
          have HS11 := Lib.hid k6
          clear k6 t0 t1 o0 o1 o2 o3 o4 a0 a1 a2 a3 p0 p1 p2 p3 p4 x0 x1 x2 x3
          go_wp2_with fail
          refine (HRS.out _ _ _ HS11.out hr6).mono ?_
          rintro e w12 ⟨rfl, k7⟩
          have HS12 := Lib.hid k7
          clear k7 hr6
          obtain ⟨-, ⟨a0, a1, a2, a3⟩, -, x0, x1, x2, x3⟩ := HCE2.out _ HS12.out
          go_wp2_with fail
          refine (HCN.out _ HS12.out).mono ?_
          rintro e w13 ⟨rfl, k8⟩
          have HB90 := Lib.hid (HEND.out _ k8)
          clear k8 a0 a1 a2 a3 x0 x1 x2 x3
          go_wp2
          go_ret
          exact ⟨rfl, HB90.out⟩
      · have HBAD : Hid (¬ (Fm o ∧ nameN o ≠ 0 ∧ inW k o)) := HFA.out.2.2.1 rfl
        clear HFA
        obtain ⟨⟨⟨t0, t1⟩, o0, o1, o2, o3, o4⟩, ⟨a0, a1, a2, a3⟩, p0, p1, p2, p3, p4⟩ := HCE.out _ HS8.out
        have HCB : Hid (∀ u, Calls Tryz.prog 12 #[.pointer (some ⟨p.w, 0, none⟩), .agg #[.int .i64 F, .int .i64 N, .int .i64 k, .int .i64 len], .agg #[.int .i64 o.a, .int .i64 o.b, .int .i64 o.c, .int .i64 o.d, .int .i64 o.e]] u fun e w' => e = .returned (.tuple #[.agg #[.int .i64 0, .int .i64 0, .int .i64 0, .int .i64 0], .int .i64 1]) ∧ Below u.heap.size u w') := fun u => cut_bad _ F N len k (by omega) o u HBAD.out
        go_wp2_with fail
        refine (HCB.out _).mono ?_
        rintro e w9 ⟨rfl, hb9⟩
        have HS9 := Lib.hid (HSTB.out _ _ (HSTB.out _ _ HS8.out hb9) ((Below.refl _ _).alloc (Nat.le_refl _) (.cells #[.int .i64 0, .int .i64 0, .int .i64 0, .int .i64 0] 31)))
        clear hb9 t0 t1 o0 o1 o2 o3 o4 a0 a1 a2 a3 p0 p1 p2 p3 p4 HCB
        go_upto_region 17 with (fail)
        generalize w9.alloc (.cells #[.int .i64 0, .int .i64 0, .int .i64 0, .int .i64 0] 31) = w10 at *
        generalize w9.heap.size = xb at *
        obtain ⟨-, ⟨a0, a1, a2, a3⟩, -⟩ := HCE.out _ HS9.out
        have HCN : Hid (Calls Tryz.prog 13 #[.pointer (some ⟨p.w, 0, none⟩), .slice (some ⟨w10.heap.size, 0, none⟩) 1 1] (w10.alloc (.cells #[.int .i64 F, .int .i64 N, .int .i64 k, .int .i64 len] 31)) fun e w' => e = .returned (.bool true) ∧ Below W1.heap.size W1 w') := by
          have h8 := (HST.out _).1 HS9.out
          have hn2 : N ≤ 200 := hN
          have hr : Row (w10.alloc (.cells #[.int .i64 F, .int .i64 N, .int .i64 k, .int .i64 len] 31)) w10.heap.size 31 [.int .i64 F, .int .i64 N, .int .i64 k, .int .i64 len] := heap_alloc_new _ _
          refine (clean13_any (bs := fun _ => N) (c := 1) (n := 1) (rb := w10.heap.size) (h8.below ((Below.refl _ _).alloc (Nat.le_refl _) _)) rfl rfl (by show N + (0 + (0 + 0)) = 0 + N; omega) (by omega) (fun i hi => ⟨by omega, ?_⟩) (fun _ => hr.lt)).mono ?_
          · obtain rfl : i = 0 := by omega
            exact hr.cell 1
          · rintro e w' ⟨he, hw⟩
            exact ⟨he, hw.bel⟩
        go_wp2_with fail
        refine HCN.out.mono ?_
        rintro e w11 ⟨rfl, hb11⟩
        have HB90 := Lib.hid (HE.out _ hb11)
        clear hb11 HCN a0 a1 a2 a3
        go_wp2
        go_ret
        exact ⟨rfl, HB90.out⟩

set_option maxRecDepth 100000 in
theorem lifted (os : Os) (started : os.Started) (H : Type) (enc : TypeId × Value → H) :
    ReturnsInHanded {} Tryz.checked os 3 .any (Rows.joinCutsSpec.pre6 enc Tryz.prog Tryz.f3 Rows.joinCutsRow.domain false) (Rows.joinCutsSpec.post enc Tryz.prog Tryz.f3 false true false false) := by
  refine returnsInHanded_of_change (C := Tryz.checked) own started (by kernel_rfl) Tryz.func3
    (ChangeSpec.witness6 (enc := enc) (C := Tryz.checked) false ⟨#[], #[.agg #[.int .u8 0, .slice none 0 0], .agg #[.int .i64 0, .int .i64 0, .int .i64 0, .int .i64 0, .int .i64 0]], []⟩ 8 (by kernel_rfl) (by kernel_rfl) (by kernel_rfl) (by kernel_rfl)) ?_
  intro W base args ds gs before hval0 hW hcnd _
  have hval : ∀ (j : Nat) t v, Tryz.f3.params[j]? = some t → args[j]? = some v → Value.okWide Tryz.prog W .any base t v := hval0
  have hW' := hW
  obtain ⟨p, q, hA0, hV, rfl, hfz, hnd⟩ := hW
  have hA : DataW.TrodAll enc Tryz.prog W 0 (fun _ => true) true Tryz.f3.params.toList args.toList ds p := hA0
  rw [Tryz.params3] at hA hval
  obtain ⟨v0, vs0, d0, ds0, p0, q0, hargs, rfl, rfl, h0, r0⟩ := trodAll_cons hA
  obtain ⟨v1, vs1, d1, ds1, p1, q1, rfl, rfl, rfl, h1, r1⟩ := trodAll_cons r0
  obtain ⟨rfl, rfl, rfl⟩ := trodAll_nil r1
  obtain rfl : args = #[v0, v1] := by cases args; simp_all
  obtain ⟨rfl, rfl⟩ := trodVars_none hV
  have k0 := h0
  have lt0 : ∀ x ∈ p0, x.block < W.heap.size := by obtain ⟨m, hm⟩ := k0; exact DataW.trod_lt m _ _ _ hm
  have k1 := h1
  have lt1 : ∀ x ∈ p1, x.block < W.heap.size := by obtain ⟨m, hm⟩ := k1; exact DataW.trod_lt m _ _ _ hm
  obtain ⟨wd, A, len, cap, l, rfl, bw, wr, wm⟩ := open_table Tryz.underlying24 (by kernel_rfl) (by kernel_rfl) rfl rfl Tryz.underlying5 Tryz.underlying22 Tryz.underlying56 Tryz.underlying2 (by kernel_rfl) (by kernel_rfl) (hval 0 24 v0 rfl rfl) h0
  obtain ⟨o, rfl, wo⟩ := open_tup Tryz.underlying26 Tryz.underlying3 (by kernel_rfl) (by kernel_rfl) (hval 1 26 v1 rfl rfl) h1
  clear hA0 hval0
  refine (walk wd A len cap l o W bw wr wm wo).mono fun e W' ⟨he, bel⟩ => ?_
  subst he
  exact ⟨_, rfl, _, _, _, [], _, [], hW', trodAll_mk1 (shut_bool Tryz.underlying4 _), (trodAll_cons_mk (Below.trod laidOut (by kernel_rfl) (of_decide_eq_true (by kernel_rfl)) k0 bel lt0) (trodAll_cons_mk (Below.trod laidOut (by kernel_rfl) (of_decide_eq_true (by kernel_rfl)) k1 bel lt1) trodAll_mk0)), rfl, bel.frame _, fun h => by cases h⟩

theorem over : Rows.joinCutsRow.holds Tryz.pinned (OpenSpec.ofChange Rows.joinCutsSpec) :=
  OpenClaim.holds_of_wide 3 Tryz.f3 rfl rfl rfl rfl rfl rfl rfl ⟨rfl, rfl, rfl, rfl, rfl⟩ rfl rfl rfl rfl rfl (by kernel_rfl) Tryz.func3 (by kernel_rfl)
    (of_decide_eq_true (by kernel_rfl)) (by unfold Func.isWrapper; first | (rw [if_pos (by decide +kernel)]; kernel_rfl) | (rw [if_neg (by decide +kernel)]; exact ⟨rfl, rfl⟩))
    (fun os started H enc _ => lifted os started H enc)

theorem proved : Rows.JoinCutsSaid := over
end Go.Proofs.YtfpjmhnmpjdbiaaGreat.joinCuts
