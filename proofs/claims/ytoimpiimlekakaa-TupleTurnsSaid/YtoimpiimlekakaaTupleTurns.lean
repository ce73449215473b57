/-
  TupleTurns: whatever two tuples and order; no condition.
-/
import Derived.Test.YtoimpiimlekakaaRows
import Derived.Test.YtoimpiimlekakaaTupLaw
import Derived.Test.YtoimpiimlekakaaTupSort
import Derived.WalkKit
import Derived.ProofKit
import Derived.OpenShut
import Derived.ShutString
import Derived.ChangeOld
import Derived.Below
namespace Go.Proofs.Ytoimpiimlekakaa.tupleTurns
open Go.ChangeShapes Go.WideShapes Go.ChangeAt Go.RowKit
open Go.ChangeMaps (open_string shut_string)
set_option linter.unusedVariables false

theorem own : ownKnob Try.prog.godebug = none := by kernel_rfl
theorem laidOut : laidOutB Try.prog = true := by kernel_rfl


set_option maxHeartbeats 4000000 in
set_option maxRecDepth 100000 in
theorem walk (x0 : Tup) (x1 : Tup) (x2 : Tup) (w : World) (y0 : TupOk x0) (y1 : TupOk x1) (y2 : TupOk x2) :
    Calls Try.prog 6 #[.agg #[.int .i64 x0.a, .int .i64 x0.b, .int .i64 x0.c, .int .i64 x0.d, .int .i64 x0.e], .agg #[.int .i64 x1.a, .int .i64 x1.b, .int .i64 x1.c, .int .i64 x1.d, .int .i64 x1.e], .agg #[.int .i64 x2.a, .int .i64 x2.b, .int .i64 x2.c, .int .i64 x2.d, .int .i64 x2.e]] w fun e w' => e = .returned (.bool true) ∧ Below w.heap.size w w' := by
  obtain ⟨W1, hW1, hb1, s1, r1, r2, r3⟩ := boxes3 w [.int .i64 x0.a, .int .i64 x0.b, .int .i64 x0.c, .int .i64 x0.d, .int .i64 x0.e] [.int .i64 x1.a, .int .i64 x1.b, .int .i64 x1.c, .int .i64 x1.d, .int .i64 x1.e] [.int .i64 x2.a, .int .i64 x2.b, .int .i64 x2.c, .int .i64 x2.d, .int .i64 x2.e] 23 23 25
  have HW1 := Lib.hid hW1
  have HS1 := Lib.hid s1
  have HRR : Hid (∀ W, Below (w.heap.size + 3) W1 W → Below w.heap.size w W ∧ Row W w.heap.size 23 [.int .i64 x0.a, .int .i64 x0.b, .int .i64 x0.c, .int .i64 x0.d, .int .i64 x0.e] ∧ Row W (w.heap.size + 1) 23 [.int .i64 x1.a, .int .i64 x1.b, .int .i64 x1.c, .int .i64 x1.d, .int .i64 x1.e] ∧ Row W (w.heap.size + 2) 25 [.int .i64 x2.a, .int .i64 x2.b, .int .i64 x2.c, .int .i64 x2.d, .int .i64 x2.e]) := fun W hb => ⟨hb1.trans (hb.mono (by omega)), r1.below hb (by omega), r2.below hb (by omega), r3.below hb (by omega)⟩
  have HA := Lib.hid awake_any
  have HFO := Lib.hid (formed_any x2)
  clear r1 r2 r3 hb1 s1 hW1
  by_cases hf : Fm x2
  rotate_left
  · rw [decide_eq_false hf] at HFO
    clear hf y0 y1 y2
    go_enter Try.func6, Try.ntmps6
    go_upto_region 1 with (fail)
    rw [← HW1.out]
    clear HW1
    go_wp2_with fail
    refine (HA.out _).mono ?_; rintro e w2 ⟨rfl, hb⟩
    have HB2 : Hid (Below (w.heap.size + 3) W1 w2) := hb.mono (Nat.le_of_eq HS1.out.symm)
    have hd := (HRR.out _ HB2.out).2.2.2
    have d0 : w2.cell? ⟨w.heap.size + 2, 0, none⟩ = some (.int .i64 x2.a) := hd.cell 0
    have d1 : w2.cell? ⟨w.heap.size + 2, 1, none⟩ = some (.int .i64 x2.b) := hd.cell 1
    have d2 : w2.cell? ⟨w.heap.size + 2, 2, none⟩ = some (.int .i64 x2.c) := hd.cell 2
    have d3 : w2.cell? ⟨w.heap.size + 2, 3, none⟩ = some (.int .i64 x2.d) := hd.cell 3
    have d4 : w2.cell? ⟨w.heap.size + 2, 4, none⟩ = some (.int .i64 x2.e) := hd.cell 4
    clear hb hd
    go_wp2_with fail
    refine (HFO.out _).mono ?_; rintro e w3 ⟨rfl, hb⟩
    have HB3 : Hid (Below (w.heap.size + 3) W1 w3) := HB2.out.trans (hb.mono (Nat.le_trans (Nat.le_of_eq HS1.out.symm) HB2.out.size))
    clear hb d0 d1 d2 d3 d4
    go_wp2_with fail
    refine (HA.out _).mono ?_; rintro e w4 ⟨rfl, hb⟩
    have HB4 : Hid (Below (w.heap.size + 3) W1 w4) := HB3.out.trans (hb.mono (Nat.le_trans (Nat.le_of_eq HS1.out.symm) HB3.out.size))
    clear hb
    go_wp2
    go_ret
    exact ⟨rfl, (HRR.out _ HB4.out).1⟩
  rw [decide_eq_true hf] at HFO
  have HF := Lib.hid hf
  clear hf
  have HNF := Lib.hid (formed_any (ngT x2))
  rw [decide_eq_true (ng_fm HF.out)] at HNF
  have HNC := Lib.hid (cmp_any (ngT x2) x0 x1)
  rw [ng_cmp HF.out] at HNC
  have HNU := Lib.hid (cut_any (ngT x2) x0)
  rw [ng_cut HF.out] at HNU
  have HOC := Lib.hid (cmp_any x2 x1 x0)
  have HOU := Lib.hid (cut_any x2 x0)
  have HNG : Hid (∀ l : List Int, l = (x2.cols.take 5).map (fun k => -k) → tupL l = ngT x2) := fun l h => by rw [h]; rfl
  have HRG : Hid (∀ i, i < 5 → -5 ≤ colT x2 i ∧ colT x2 i ≤ 5) := fun i hi => (HF.out i hi).1
  generalize cmpT x2 x1 x0 = C at *
  generalize cutT x2 x0 = u at *
  generalize ngT x2 = nn at *
  clear y0 y1 y2
  go_enter Try.func6, Try.ntmps6
  go_upto_region 1 with (fail)
  rw [← HW1.out]
  clear HW1
  go_wp2_with fail
  refine (HA.out _).mono ?_; rintro e w2 ⟨rfl, hb⟩
  have HB2 : Hid (Below (w.heap.size + 3) W1 w2) := hb.mono (Nat.le_of_eq HS1.out.symm)
  have hd := (HRR.out _ HB2.out).2.2.2
  have d0 : w2.cell? ⟨w.heap.size + 2, 0, none⟩ = some (.int .i64 x2.a) := hd.cell 0
  have d1 : w2.cell? ⟨w.heap.size + 2, 1, none⟩ = some (.int .i64 x2.b) := hd.cell 1
  have d2 : w2.cell? ⟨w.heap.size + 2, 2, none⟩ = some (.int .i64 x2.c) := hd.cell 2
  have d3 : w2.cell? ⟨w.heap.size + 2, 3, none⟩ = some (.int .i64 x2.d) := hd.cell 3
  have d4 : w2.cell? ⟨w.heap.size + 2, 4, none⟩ = some (.int .i64 x2.e) := hd.cell 4
  clear hb hd
  go_wp2_with fail
  refine (HFO.out _).mono ?_; rintro e w3 ⟨rfl, hb⟩
  have HB3 : Hid (Below (w.heap.size + 3) W1 w3) := HB2.out.trans (hb.mono (Nat.le_trans (Nat.le_of_eq HS1.out.symm) HB2.out.size))
  clear hb d0 d1 d2 d3 d4 HB2
  have HSZ3 : Hid (w.heap.size + 3 ≤ w3.heap.size) := Nat.le_trans (Nat.le_of_eq HS1.out.symm) HB3.out.size
  have HRN : Hid (Row (w3.alloc (.cells #[.int .i64 0, .int .i64 0, .int .i64 0, .int .i64 0, .int .i64 0] 25)) w3.heap.size 25 (arrV (tupL []))) := heap_alloc_new _ _
  have HBN : Hid (Below (w.heap.size + 3) W1 (w3.alloc (.cells #[.int .i64 0, .int .i64 0, .int .i64 0, .int .i64 0, .int .i64 0] 25))) := HB3.out.alloc HSZ3.out _
  generalize hg : w3.heap.size = g at *
  have HG : Hid (w.heap.size + 3 ≤ g) := HSZ3
  go_wp2_with fail
  generalize w3.alloc (.cells #[.int .i64 0, .int .i64 0, .int .i64 0, .int .i64 0, .int .i64 0] 25) = w4 at *
  clear hg HB3 HSZ3
  go_loopw [8] (fun iv wr => ∃ (i : Nat) (l : List Int), i ≤ 5 ∧ iv = .int .i64 (i : Int) ∧ Hid (Below (w.heap.size + 3) W1 wr) ∧ Hid (Row wr g 25 (arrV (tupL l))) ∧ Hid (l = (x2.cols.take i).map fun k => -k)) (fun iv _ => 5 - (intOf iv).toNat)
  case atStart => exact ⟨0, [], by omega, rfl, HBN.out, HRN.out, rfl⟩
  case round =>
    obtain ⟨i, l, hi, rfl, HW, HR, HL⟩ := hrel
    clear HBN HRN
    by_cases hlt : i < 5
    · have g1 : decide ((i : Int) < 5) = true := by simp; omega
      have i0 : (0 : Int) ≤ (i : Int) := by omega
      have i1 : (i : Int) < 5 := by omega
      obtain ⟨z, hz⟩ : ∃ z, z = colT x2 i := ⟨_, rfl⟩
      have hrz : -5 ≤ z ∧ z ≤ 5 := by rw [hz]; exact HRG.out i hlt
      have hneg : IntKind.i64.wrap (-z) = -z := by rw [IntKind.wrap_i64]; omega
      have cz : wr.cell? ⟨w.heap.size + 2, i, none⟩ = some (.int .i64 z) := by rw [hz]; exact arr_cell (HRR.out _ HW.out).2.2.2 hlt
      have hll : l.length = i := by rw [HL.out, List.length_map, List.length_take, Tup.cols_len]; omega
      have HL2 : Hid (l ++ [-z] = (x2.cols.take (i + 1)).map fun k => -k) := by
        unfold Hid
        rw [take_snoc hlt, List.map_append, ← HL.out, hz]; rfl
      have HRS : Hid (Row (wr.setCell ⟨g, i, none⟩ (.int .i64 (-z))) g 25 (arrV (tupL (l ++ [-z])))) := by
        have := HR.out.set i (.int .i64 (-z))
        rw [arr_set hll hlt] at this
        exact this
      have HWS : Hid (Below (w.heap.size + 3) W1 (wr.setCell ⟨g, i, none⟩ (.int .i64 (-z)))) := HW.out.setCell (p := ⟨g, i, none⟩) HG.out _
      have cs : ∃ v, wr.cell? ⟨g, i, none⟩ = some v := ⟨_, arr_cell HR.out hlt⟩
      obtain ⟨v9, cs⟩ := cs
      have fz := HR.out.free i
      clear hz hll HR HW HL
      go_wp2
      go_roundw
      case rel => exact ⟨i + 1, _, by omega, by go_num, HWS.out, HRS.out, HL2.out⟩
      case measure => simp [intOf]; omega
    · obtain rfl : i = 5 := by omega
      have HRX : Hid (Row wr g 25 (arrV nn)) := by
        have := HR.out
        rw [HNG.out l HL.out] at this
        exact this
      obtain ⟨hb4, r1, r2, r3⟩ := HRR.out _ HW.out
      obtain ⟨p0, p1, p2, p3, p4⟩ := five r1
      obtain ⟨q0, q1, q2, q3, q4⟩ := five r2
      obtain ⟨e0, e1, e2, e3, e4⟩ := five r3
      obtain ⟨f0, f1, f2, f3, f4⟩ := five HRX.out
      have HB4 := Lib.hid hb4
      have Q1 := Lib.hid (regrownC HNF.out wr)
      have Q2 := Lib.hid (regrownC HNC.out wr)
      have Q3 := Lib.hid (regrownC HOC.out wr)
      have Q4 := Lib.hid (regrownC HNU.out wr)
      have Q5 := Lib.hid (regrownC HOU.out wr)
      clear HW HR HL HRX hb4 r1 r2 r3 HNF HNC HOC HNU HOU HNG HRR HA HFO HF HRG
      have heq : ∀ W, (binOp .eql 23 (.agg #[.int .i64 u.a, .int .i64 u.b, .int .i64 u.c, .int .i64 u.d, .int .i64 u.e]) (.agg #[.int .i64 u.a, .int .i64 u.b, .int .i64 u.c, .int .i64 u.d, .int .i64 u.e])).run Try.prog W = .ok (.bool true) W := fun W => by rw [eqT]; simp
      have hg := fun W x y => guard_tup W .eql x y #[.int .i64 u.a, .int .i64 u.b, .int .i64 u.c, .int .i64 u.d, .int .i64 u.e] #[.int .i64 u.a, .int .i64 u.b, .int .i64 u.c, .int .i64 u.d, .int .i64 u.e]
      go_wp2
      refine wp_region_quiet_below (by kernel_rfl) (by kernel_rfl) ?_
      repeat (any_goals (first | go_big_quiet_step (with_reducible first | exact Q1.out _ _ | exact Q2.out _ _ | exact Q3.out _ _ | exact Q4.out _ _ | exact Q5.out _ _) | quiet_step (with_reducible first | exact Q1.out _ _ | exact Q2.out _ _ | exact Q3.out _ _ | exact Q4.out _ _ | exact Q5.out _ _)))
      refine wpQuiet_nil ?_
      intro w5 hw5
      obtain ⟨⟨dq, osq⟩, hw5⟩ := hw5
      have hb5 := below_regrown wr dq osq
      subst hw5
      have HB5 := Lib.hid (HB4.out.trans (hb5.mono HB4.out.size))
      clear hb5
      go_wp2
      go_ret
      exact ⟨rfl, HB5.out⟩

set_option maxRecDepth 100000 in
theorem lifted (os : Os) (started : os.Started) (H : Type) (enc : TypeId × Value → H) :
    ReturnsInHanded {} Try.checked os 6 .any (Rows.tupleTurnsSpec.pre6 enc Try.prog Try.f6 Rows.tupleTurnsRow.domain false) (Rows.tupleTurnsSpec.post enc Try.prog Try.f6 false true false false) := by
  refine returnsInHanded_of_change (C := Try.checked) own started (by kernel_rfl) Try.func6
    (ChangeSpec.witness6 (enc := enc) (C := Try.checked) false ⟨#[], #[.agg #[.int .i64 0, .int .i64 0, .int .i64 0, .int .i64 0, .int .i64 0], .agg #[.int .i64 0, .int .i64 0, .int .i64 0, .int .i64 0, .int .i64 0], .agg #[.int .i64 0, .int .i64 0, .int .i64 0, .int .i64 0, .int .i64 0]], []⟩ 8 (by kernel_rfl) (by kernel_rfl) (by kernel_rfl) (by kernel_rfl)) ?_
  intro W base args ds gs before hval0 hW hcnd _
  have hval : ∀ (j : Nat) t v, Try.f6.params[j]? = some t → args[j]? = some v → Value.okWide Try.prog W .any base t v := hval0
  have hW' := hW
  obtain ⟨p, q, hA0, hV, rfl, hfz, hnd⟩ := hW
  have hA : DataW.TrodAll enc Try.prog W 0 (fun _ => true) true Try.f6.params.toList args.toList ds p := hA0
  rw [Try.params6] at hA hval
  obtain ⟨v0, vs0, d0, ds0, p0, q0, hargs, rfl, rfl, h0, r0⟩ := trodAll_cons hA
  obtain ⟨v1, vs1, d1, ds1, p1, q1, rfl, rfl, rfl, h1, r1⟩ := trodAll_cons r0
  obtain ⟨v2, vs2, d2, ds2, p2, q2, rfl, rfl, rfl, h2, r2⟩ := trodAll_cons r1
  obtain ⟨rfl, rfl, rfl⟩ := trodAll_nil r2
  obtain rfl : args = #[v0, v1, v2] := by cases args; simp_all
  obtain ⟨rfl, rfl⟩ := trodVars_none hV
  have k0 := h0
  have lt0 : ∀ x ∈ p0, x.block < W.heap.size := by obtain ⟨m, hm⟩ := k0; exact DataW.trod_lt m _ _ _ hm
  have k1 := h1
  have lt1 : ∀ x ∈ p1, x.block < W.heap.size := by obtain ⟨m, hm⟩ := k1; exact DataW.trod_lt m _ _ _ hm
  have k2 := h2
  have lt2 : ∀ x ∈ p2, x.block < W.heap.size := by obtain ⟨m, hm⟩ := k2; exact DataW.trod_lt m _ _ _ hm
  obtain ⟨x0, rfl, y0⟩ := open_tup Try.underlying23 Try.underlying2 (by kernel_rfl) (by kernel_rfl) (hval 0 23 v0 rfl rfl) h0
  obtain ⟨x1, rfl, y1⟩ := open_tup Try.underlying23 Try.underlying2 (by kernel_rfl) (by kernel_rfl) (hval 1 23 v1 rfl rfl) h1
  obtain ⟨x2, rfl, y2⟩ := open_tup Try.underlying25 Try.underlying3 (by kernel_rfl) (by kernel_rfl) (hval 2 25 v2 rfl rfl) h2
  clear hA0 hval0
  refine (walk x0 x1 x2 W y0 y1 y2).mono fun e W' ⟨he, bel⟩ => ?_
  subst he
  exact ⟨_, rfl, _, _, _, [], _, [], hW', trodAll_mk1 (shut_bool Try.underlying4 _), (trodAll_cons_mk (Below.trod laidOut (by kernel_rfl) (of_decide_eq_true (by kernel_rfl)) k0 bel lt0) (trodAll_cons_mk (Below.trod laidOut (by kernel_rfl) (of_decide_eq_true (by kernel_rfl)) k1 bel lt1) (trodAll_cons_mk (Below.trod laidOut (by kernel_rfl) (of_decide_eq_true (by kernel_rfl)) k2 bel lt2) trodAll_mk0))), rfl, bel.frame _, fun h => by cases h⟩

theorem over : Rows.tupleTurnsRow.holds Try.pinned (OpenSpec.ofChange Rows.tupleTurnsSpec) :=
  OpenClaim.holds_of_wide 6 Try.f6 rfl rfl rfl rfl rfl rfl rfl ⟨rfl, rfl, rfl, rfl, rfl⟩ rfl rfl rfl rfl rfl (by kernel_rfl) Try.func6 (by kernel_rfl)
    (of_decide_eq_true (by kernel_rfl)) (by unfold Func.isWrapper; first | (rw [if_pos (by decide +kernel)]; kernel_rfl) | (rw [if_neg (by decide +kernel)]; exact ⟨rfl, rfl⟩))
    (fun os started H enc _ => lifted os started H enc)

theorem proved : Rows.TupleTurnsSaid := over
end Go.Proofs.Ytoimpiimlekakaa.tupleTurns
