/-
  TupleSorted: whatever tuples and order; no condition.
-/
import Derived.Test.YtoimpiimlekakaaRows
import Derived.Test.YtoimpiimlekakaaTupLaw
import Derived.Test.YtoimpiimlekakaaTupSort
import Derived.WalkKit
import Derived.ProofKit
import Derived.OpenShut
import Derived.ShutString
import Derived.ChangeOld
import Derived.Below
namespace Go.Proofs.Ytoimpiimlekakaa.tupleSorted
open Go.ChangeShapes Go.WideShapes Go.ChangeAt Go.RowKit
open Go.ChangeMaps (open_string shut_string)
set_option linter.unusedVariables false

theorem own : ownKnob Try.prog.godebug = none := by kernel_rfl
theorem laidOut : laidOutB Try.prog = true := by kernel_rfl


set_option maxHeartbeats 4000000 in
set_option maxRecDepth 100000 in
theorem walk (a0 : Option Addr) (len0 cap0 : Nat) (l0 : List Tup) (x1 : Tup) (w : World) (wr0 : ReadsT w w.heap.size a0 len0 l0) (wm0 : len0 ≤ maxLen) (y1 : TupOk x1) :
    Calls Try.prog 4 #[.slice a0 len0 cap0, .agg #[.int .i64 x1.a, .int .i64 x1.b, .int .i64 x1.c, .int .i64 x1.d, .int .i64 x1.e]] w fun e w' => e = .returned (.bool true) ∧ Below w.heap.size w w' := by
  have hr : Row (w.alloc (.cells #[.int .i64 x1.a, .int .i64 x1.b, .int .i64 x1.c, .int .i64 x1.d, .int .i64 x1.e] 25)) w.heap.size 25 [.int .i64 x1.a, .int .i64 x1.b, .int .i64 x1.c, .int .i64 x1.d, .int .i64 x1.e] := heap_alloc_new _ _
  have hb0 : Below w.heap.size w (w.alloc (.cells #[.int .i64 x1.a, .int .i64 x1.b, .int .i64 x1.c, .int .i64 x1.d, .int .i64 x1.e] 25)) := (Below.refl _ _).alloc (Nat.le_refl _) _
  have hsz : (w.alloc (.cells #[.int .i64 x1.a, .int .i64 x1.b, .int .i64 x1.c, .int .i64 x1.d, .int .i64 x1.e] 25)).heap.size = w.heap.size + 1 := by simp
  obtain ⟨W1, hW1⟩ : ∃ W1, W1 = w.alloc (.cells #[.int .i64 x1.a, .int .i64 x1.b, .int .i64 x1.c, .int .i64 x1.d, .int .i64 x1.e] 25) := ⟨_, rfl⟩
  rw [← hW1] at hr hb0 hsz
  have HW1 := Lib.hid hW1
  have HA := Lib.hid awake_any
  have HKB : Hid (∀ W, Below (w.heap.size + 1) W1 W → Below w.heap.size w W ∧ Row W w.heap.size 25 [.int .i64 x1.a, .int .i64 x1.b, .int .i64 x1.c, .int .i64 x1.d, .int .i64 x1.e] ∧ ReadsT W W.heap.size a0 len0 l0) := fun W hb => by
    have h1 := hb0.trans (hb.mono (by omega))
    exact ⟨h1, hr.below hb (by omega), (wr0.keep h1).mono h1.size⟩
  have HSZ := Lib.hid (Nat.le_of_eq hsz.symm)
  clear hr hb0 hsz hW1 y1 wr0
  have l0n : (0 : Int) ≤ (len0 : Int) := by omega
  go_enter Try.func4, Try.ntmps4
  go_upto_region 1 with (fail)
  rw [← HW1.out]
  clear HW1
  go_wp2_with fail
  refine (HA.out _).mono ?_; rintro e w2 ⟨rfl, hb⟩
  have HB2 : Hid (Below (w.heap.size + 1) W1 w2) := hb.mono HSZ.out
  clear hb
  by_cases hbig : len0 > 300
  · have g1 : decide (len0 > 300) = true := by simpa using hbig
    have g2 : decide ((len0 : Int) > 300) = true := by simp; omega
    clear hbig
    go_wp2_with fail
    refine (HA.out _).mono ?_; rintro e w3 ⟨rfl, hb⟩
    have HB3 : Hid (Below (w.heap.size + 1) W1 w3) := HB2.out.trans (hb.mono (Nat.le_trans HSZ.out HB2.out.size))
    clear hb
    go_wp2
    go_ret
    exact ⟨rfl, (HKB.out _ HB3.out).1⟩
  · have g1 : decide (len0 > 300) = false := by simpa using hbig
    have g2 : decide ((len0 : Int) > 300) = false := by simp; omega
    have hfew : len0 ≤ 1000000 := by omega
    have hSB : Srt x1 (sortB x1 [] l0) := sortB_srt x1 l0 [] (srt_nil x1)
    obtain ⟨ST, hST⟩ : ∃ ST : World → Prop, ST = fun W => Below (w.heap.size + 1) W1 W := ⟨_, rfl⟩
    obtain ⟨ST2, hST2⟩ : ∃ ST2 : Option Addr → Nat → World → Prop, ST2 = fun A m W => Below (w.heap.size + 1) W1 W ∧ ReadsT W W.heap.size A m (sortB x1 [] l0) ∧ m ≤ 1000000 := ⟨_, rfl⟩
    have HSTo := Lib.hid hST
    have HST2o := Lib.hid hST2
    have hnext : ∀ W W', Below (w.heap.size + 1) W1 W → Below W.heap.size W W' → Below (w.heap.size + 1) W1 W' := fun W W' h hb => h.trans (hb.mono (Nat.le_trans HSZ.out h.size))
    have K0 : Hid (∀ W, ST W → W.cell? ⟨w.heap.size, 0, none⟩ = some (.int .i64 x1.a) ∧ W.cell? ⟨w.heap.size, 1, none⟩ = some (.int .i64 x1.b) ∧ W.cell? ⟨w.heap.size, 2, none⟩ = some (.int .i64 x1.c) ∧ W.cell? ⟨w.heap.size, 3, none⟩ = some (.int .i64 x1.d) ∧ W.cell? ⟨w.heap.size, 4, none⟩ = some (.int .i64 x1.e)) := fun W h => by
      rw [hST] at h
      exact five0 (HKB.out W h).2.1
    have K2 : Hid (∀ A m W, ST2 A m W → W.cell? ⟨w.heap.size, 0, none⟩ = some (.int .i64 x1.a) ∧ W.cell? ⟨w.heap.size, 1, none⟩ = some (.int .i64 x1.b) ∧ W.cell? ⟨w.heap.size, 2, none⟩ = some (.int .i64 x1.c) ∧ W.cell? ⟨w.heap.size, 3, none⟩ = some (.int .i64 x1.d) ∧ W.cell? ⟨w.heap.size, 4, none⟩ = some (.int .i64 x1.e)) := fun A m W h => by
      rw [hST2] at h
      exact five0 (HKB.out W h.1).2.1
    have C1 : Hid (∀ W, ST W → Calls Try.prog 15 #[.slice a0 len0 cap0, .agg #[.int .i64 x1.a, .int .i64 x1.b, .int .i64 x1.c, .int .i64 x1.d, .int .i64 x1.e]] W fun e w' => e = .returned (.bool (decide (Srt x1 l0))) ∧ ST w') := fun W h => by
      rw [hST] at h ⊢
      refine (sorted_any x1 (HKB.out W h).2.2 hfew).mono ?_
      rintro e w' ⟨he, hb⟩
      exact ⟨he, hnext _ _ h hb⟩
    have C2 : Hid (∀ W, ST W → Calls Try.prog 16 #[.slice a0 len0 cap0, .agg #[.int .i64 x1.a, .int .i64 x1.b, .int .i64 x1.c, .int .i64 x1.d, .int .i64 x1.e]] W fun e w' => e = .returned (.bool (decide (Srt x1 l0))) ∧ ST w') := fun W h => by
      rw [hST] at h ⊢
      refine (rsorted_any x1 (HKB.out W h).2.2 hfew).mono ?_
      rintro e w' ⟨he, hb⟩
      exact ⟨he, hnext _ _ h hb⟩
    have C3 : Hid (∀ W, ST W → Calls Try.prog 17 #[.slice a0 len0 cap0, .agg #[.int .i64 x1.a, .int .i64 x1.b, .int .i64 x1.c, .int .i64 x1.d, .int .i64 x1.e], .bool false] W fun e w' => ∃ A m c, e = .returned (.slice A m c) ∧ ST2 A m w') := fun W h => by
      rw [hST] at h
      rw [hST2]
      refine (rsort_any x1 (HKB.out W h).2.2 hfew).mono ?_
      rintro e w' ⟨v, m, he, hown, hm, hok, hb⟩
      obtain ⟨A, c, hv, hrd, _⟩ := ownT_reads hown hok
      exact ⟨A, m, c, by rw [he, hv], hnext _ _ h hb, hrd, by omega⟩
    have C4 : Hid (∀ A m c W, ST2 A m W → Calls Try.prog 15 #[.slice A m c, .agg #[.int .i64 x1.a, .int .i64 x1.b, .int .i64 x1.c, .int .i64 x1.d, .int .i64 x1.e]] W fun e w' => e = .returned (.bool true) ∧ ST w') := fun A m c W h => by
      rw [hST2] at h
      rw [hST]
      have := sorted_any (c := c) x1 h.2.1 h.2.2
      rw [decide_eq_true hSB] at this
      refine this.mono ?_
      rintro e w' ⟨he, hb⟩
      exact ⟨he, hnext _ _ h.1 hb⟩
    have KE : Hid (∀ W, ST W → Below w.heap.size w W) := fun W h => by rw [hST] at h; exact (HKB.out W h).1
    have hd : ST w2.drew := by
      rw [hST]; exact ⟨HB2.out.os, HB2.out.tape, HB2.out.output, HB2.out.size, HB2.out.block⟩
    generalize decide (Srt x1 l0) = sb at *
    clear hbig hST hST2 HSTo HST2o hnext hSB HKB HA HB2 HSZ
    go_wp2
    go_region_held3 (fun W => W.cell? ⟨w.heap.size, 0, none⟩ = some (.int .i64 x1.a) ∧ W.cell? ⟨w.heap.size, 1, none⟩ = some (.int .i64 x1.b) ∧ W.cell? ⟨w.heap.size, 2, none⟩ = some (.int .i64 x1.c) ∧ W.cell? ⟨w.heap.size, 3, none⟩ = some (.int .i64 x1.d) ∧ W.cell? ⟨w.heap.size, 4, none⟩ = some (.int .i64 x1.e)) (first | with_reducible exact K0.out _ (by assumption) | with_reducible exact K2.out _ _ _ (by assumption))
      (first
        | (go_at_call 16; first | ((with_reducible refine (C2.out _ (by assumption)).mono ?_); rintro e w6 ⟨rfl, h6⟩))
        | (go_at_call 17; first | ((with_reducible refine (C3.out _ (by assumption)).mono ?_); rintro e w7 ⟨A, m, c, rfl, h7⟩))
        | (go_at_call 15; first | ((with_reducible refine (C4.out _ _ _ _ (by assumption)).mono ?_); rintro e w8 ⟨rfl, h8⟩) | ((with_reducible refine (C1.out _ (by assumption)).mono ?_); rintro e w5 ⟨rfl, h5⟩)))
    have HE := Lib.hid (KE.out _ h8)
    clear h5 h6 h7 h8 hd
    go_wp2
    go_ret
    exact ⟨rfl, HE.out⟩

set_option maxRecDepth 100000 in
theorem lifted (os : Os) (started : os.Started) (H : Type) (enc : TypeId × Value → H) :
    ReturnsInHanded {} Try.checked os 4 .any (Rows.tupleSortedSpec.pre6 enc Try.prog Try.f4 Rows.tupleSortedRow.domain false) (Rows.tupleSortedSpec.post enc Try.prog Try.f4 false true false false) := by
  refine returnsInHanded_of_change (C := Try.checked) own started (by kernel_rfl) Try.func4
    (ChangeSpec.witness6 (enc := enc) (C := Try.checked) false ⟨#[], #[.slice none 0 0, .agg #[.int .i64 0, .int .i64 0, .int .i64 0, .int .i64 0, .int .i64 0]], []⟩ 8 (by kernel_rfl) (by kernel_rfl) (by kernel_rfl) (by kernel_rfl)) ?_
  intro W base args ds gs before hval0 hW hcnd _
  have hval : ∀ (j : Nat) t v, Try.f4.params[j]? = some t → args[j]? = some v → Value.okWide Try.prog W .any base t v := hval0
  have hW' := hW
  obtain ⟨p, q, hA0, hV, rfl, hfz, hnd⟩ := hW
  have hA : DataW.TrodAll enc Try.prog W 0 (fun _ => true) true Try.f4.params.toList args.toList ds p := hA0
  rw [Try.params4] at hA hval
  obtain ⟨v0, vs0, d0, ds0, p0, q0, hargs, rfl, rfl, h0, r0⟩ := trodAll_cons hA
  obtain ⟨v1, vs1, d1, ds1, p1, q1, rfl, rfl, rfl, h1, r1⟩ := trodAll_cons r0
  obtain ⟨rfl, rfl, rfl⟩ := trodAll_nil r1
  obtain rfl : args = #[v0, v1] := by cases args; simp_all
  obtain ⟨rfl, rfl⟩ := trodVars_none hV
  have k0 := h0
  have lt0 : ∀ x ∈ p0, x.block < W.heap.size := by obtain ⟨m, hm⟩ := k0; exact DataW.trod_lt m _ _ _ hm
  have k1 := h1
  have lt1 : ∀ x ∈ p1, x.block < W.heap.size := by obtain ⟨m, hm⟩ := k1; exact DataW.trod_lt m _ _ _ hm
  obtain ⟨a0, len0, cap0, rfl⟩ := okWide_slice Try.underlying35 (hval 0 35 v0 rfl rfl)
  obtain ⟨l0, wr0, wm0⟩ : ∃ l0, ReadsT W W.heap.size a0 len0 l0 ∧ len0 ≤ maxLen := by
    obtain ⟨fuel0, hf0⟩ := h0
    obtain ⟨a', len', cap', l', he', hr', hm'⟩ := open_tups Try.underlying35 Try.underlying23 Try.underlying2 (by kernel_rfl) (by kernel_rfl) hf0
    injection he' with e1 e2 e3
    subst e1; subst e2
    exact ⟨l', hr', hm'⟩
  obtain ⟨x1, rfl, y1⟩ := open_tup Try.underlying25 Try.underlying3 (by kernel_rfl) (by kernel_rfl) (hval 1 25 v1 rfl rfl) h1
  clear hA0 hval0
  refine (walk a0 len0 cap0 l0 x1 W wr0 wm0 y1).mono fun e W' ⟨he, bel⟩ => ?_
  subst he
  exact ⟨_, rfl, _, _, _, [], _, [], hW', trodAll_mk1 (shut_bool Try.underlying4 _), (trodAll_cons_mk (Below.trod laidOut (by kernel_rfl) (of_decide_eq_true (by kernel_rfl)) k0 bel lt0) (trodAll_cons_mk (Below.trod laidOut (by kernel_rfl) (of_decide_eq_true (by kernel_rfl)) k1 bel lt1) trodAll_mk0)), rfl, bel.frame _, fun h => by cases h⟩

theorem over : Rows.tupleSortedRow.holds Try.pinned (OpenSpec.ofChange Rows.tupleSortedSpec) :=
  OpenClaim.holds_of_wide 4 Try.f4 rfl rfl rfl rfl rfl rfl rfl ⟨rfl, rfl, rfl, rfl, rfl⟩ rfl rfl rfl rfl rfl (by kernel_rfl) Try.func4 (by kernel_rfl)
    (of_decide_eq_true (by kernel_rfl)) (by unfold Func.isWrapper; first | (rw [if_pos (by decide +kernel)]; kernel_rfl) | (rw [if_neg (by decide +kernel)]; exact ⟨rfl, rfl⟩))
    (fun os started H enc _ => lifted os started H enc)

theorem proved : Rows.TupleSortedSaid := over
end Go.Proofs.Ytoimpiimlekakaa.tupleSorted
