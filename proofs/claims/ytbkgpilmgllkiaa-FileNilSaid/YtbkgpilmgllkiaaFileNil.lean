/-
  FileNil: whatever file, numbers and tuple; no condition.
-/
import Derived.Test.YtbkgpilmgllkiaaRows
import Derived.Test.YtbkgpilmgllkiaaFileWork
import Derived.Test.YtbkgpilmgllkiaaFileOpen
import Derived.WalkKit
import Derived.ProofKit
import Derived.OpenShut
import Derived.ShutString
import Derived.ChangeOld
import Derived.Below
namespace Go.Proofs.Ytbkgpilmgllkiaa.fileNil
open Go.ChangeShapes Go.WideShapes Go.ChangeAt Go.RowKit
open Go.ChangeMaps (open_string shut_string)
set_option linter.unusedVariables false

theorem own : ownKnob Try.prog.godebug = none := by kernel_rfl
theorem laidOut : laidOutB Try.prog = true := by kernel_rfl


set_option maxHeartbeats 4000000 in
set_option maxRecDepth 100000 in
theorem walk (f0 f1 f2 f3 : Int) (a1_0 a1_1 : Int) (ta tb tc td te : Int) (w : World) (w1_0 : (Lit.int .i64 a1_0).wf = true) (w1_1 : (Lit.int .i64 a1_1).wf = true) :
    Calls Try.prog 7 #[.agg #[.int .i64 f0, .int .i64 f1, .int .i64 f2, .int .i64 f3], .agg #[.int .i64 a1_0, .int .i64 a1_1], .agg #[.int .i64 ta, .int .i64 tb, .int .i64 tc, .int .i64 td, .int .i64 te]] w fun e w' => e = .returned (.bool true) ∧ Below w.heap.size w w' := by
  obtain ⟨W3, hW3⟩ : ∃ W3, W3 = (((w.alloc (.cells #[.int .i64 f0, .int .i64 f1, .int .i64 f2, .int .i64 f3] 30)).alloc (.cells #[.int .i64 a1_0, .int .i64 a1_1] 79)).alloc (.cells #[.int .i64 ta, .int .i64 tb, .int .i64 tc, .int .i64 td, .int .i64 te] 58)) := ⟨_, rfl⟩
  have hb1 : Below w.heap.size w W3 := by
    rw [hW3]
    exact (((Below.refl w.heap.size w).alloc (Nat.le_refl _) _).alloc (by simp) _).alloc (by simp; omega) _
  have r0 : Row W3 w.heap.size 30 [.int .i64 f0, .int .i64 f1, .int .i64 f2, .int .i64 f3] := by
    rw [hW3]
    exact Row.alloc (Row.alloc (heap_alloc_new _ _) _) _
  have r1 : Row W3 (w.heap.size + 1) 79 [.int .i64 a1_0, .int .i64 a1_1] := by
    rw [hW3]
    have h : Row ((w.alloc (.cells #[.int .i64 f0, .int .i64 f1, .int .i64 f2, .int .i64 f3] 30)).alloc (.cells #[.int .i64 a1_0, .int .i64 a1_1] 79)) (w.alloc (.cells #[.int .i64 f0, .int .i64 f1, .int .i64 f2, .int .i64 f3] 30)).heap.size 79 [.int .i64 a1_0, .int .i64 a1_1] := heap_alloc_new _ _
    rw [show (w.alloc (.cells #[.int .i64 f0, .int .i64 f1, .int .i64 f2, .int .i64 f3] 30)).heap.size = w.heap.size + 1 by simp] at h
    exact h.alloc _
  have r2 : Row W3 (w.heap.size + 2) 58 [.int .i64 ta, .int .i64 tb, .int .i64 tc, .int .i64 td, .int .i64 te] := by
    rw [hW3]
    have h : Row (((w.alloc (.cells #[.int .i64 f0, .int .i64 f1, .int .i64 f2, .int .i64 f3] 30)).alloc (.cells #[.int .i64 a1_0, .int .i64 a1_1] 79)).alloc (.cells #[.int .i64 ta, .int .i64 tb, .int .i64 tc, .int .i64 td, .int .i64 te] 58)) ((w.alloc (.cells #[.int .i64 f0, .int .i64 f1, .int .i64 f2, .int .i64 f3] 30)).alloc (.cells #[.int .i64 a1_0, .int .i64 a1_1] 79)).heap.size 58 [.int .i64 ta, .int .i64 tb, .int .i64 tc, .int .i64 td, .int .i64 te] := heap_alloc_new _ _
    rw [show ((w.alloc (.cells #[.int .i64 f0, .int .i64 f1, .int .i64 f2, .int .i64 f3] 30)).alloc (.cells #[.int .i64 a1_0, .int .i64 a1_1] 79)).heap.size = w.heap.size + 2 by simp] at h
    exact h
  have HF : Hid (∀ W, Below W3.heap.size W3 W → W.cell? ⟨w.heap.size, 0, none⟩ = some (.int .i64 f0) ∧ W.cell? ⟨w.heap.size, 1, none⟩ = some (.int .i64 f1) ∧ W.cell? ⟨w.heap.size, 2, none⟩ = some (.int .i64 f2) ∧ W.cell? ⟨w.heap.size, 3, none⟩ = some (.int .i64 f3)) := fun W hb => by
    have h := r0.below hb r0.lt
    exact ⟨h.cell 0, h.cell 1, h.cell 2, h.cell 3⟩
  have HT : Hid (∀ W, Below W3.heap.size W3 W → W.cell? ⟨w.heap.size + 2, 0, none⟩ = some (.int .i64 ta) ∧ W.cell? ⟨w.heap.size + 2, 1, none⟩ = some (.int .i64 tb) ∧ W.cell? ⟨w.heap.size + 2, 2, none⟩ = some (.int .i64 tc) ∧ W.cell? ⟨w.heap.size + 2, 3, none⟩ = some (.int .i64 td) ∧ W.cell? ⟨w.heap.size + 2, 4, none⟩ = some (.int .i64 te)) := fun W hb => by
    have h := r2.below hb r2.lt
    exact ⟨h.cell 0, h.cell 1, h.cell 2, h.cell 3, h.cell 4⟩
  have HB1 := Lib.hid hb1
  have x0 : (((w.alloc (.cells #[.int .i64 f0, .int .i64 f1, .int .i64 f2, .int .i64 f3] 30)).alloc (.cells #[.int .i64 a1_0, .int .i64 a1_1] 79)).alloc (.cells #[.int .i64 ta, .int .i64 tb, .int .i64 tc, .int .i64 td, .int .i64 te] 58)).cell? ⟨w.heap.size + 1, 0, none⟩ = some (.int .i64 a1_0) := by rw [← hW3]; exact r1.cell 0
  have x1 : (((w.alloc (.cells #[.int .i64 f0, .int .i64 f1, .int .i64 f2, .int .i64 f3] 30)).alloc (.cells #[.int .i64 a1_0, .int .i64 a1_1] 79)).alloc (.cells #[.int .i64 ta, .int .i64 tb, .int .i64 tc, .int .i64 td, .int .i64 te] 58)).cell? ⟨w.heap.size + 1, 1, none⟩ = some (.int .i64 a1_1) := by rw [← hW3]; exact r1.cell 1
  have HAW := Lib.hid (awake_any (W3.drew))
  have HD : Hid (W3.drew = (((w.alloc (.cells #[.int .i64 f0, .int .i64 f1, .int .i64 f2, .int .i64 f3] 30)).alloc (.cells #[.int .i64 a1_0, .int .i64 a1_1] 79)).alloc (.cells #[.int .i64 ta, .int .i64 tb, .int .i64 tc, .int .i64 td, .int .i64 te] 58)).drew) := by unfold Hid; rw [hW3]
  clear hb1 r0 r1 r2 hW3 w1_0 w1_1
  go_enter Try.func7, Try.ntmps7
  go_wp2
  go_region
  rw [← HD.out]
  clear HD
  have HB2 : Hid (Below W3.heap.size W3 W3.drew) := below_drew (Below.refl _ _)
  generalize W3.drew = w4 at *
  go_wp2_with fail
  refine HAW.out.mono ?_; rintro e w5 ⟨rfl, hb⟩
  have HB5 := Lib.hid (HB2.out.trans (hb.mono HB2.out.size))
  clear hb HAW HB2 x0 x1
  go_wp2_with fail
  refine (wdrop_nil _).mono ?_; rintro e w6 ⟨rfl, hw⟩
  have HB6 : Hid (Below W3.heap.size W3 w6) := by rw [hw]; exact HB5.out
  clear hw
  go_wp2_with fail
  refine (rclose_nil _).mono ?_; rintro e w7 ⟨rfl, hw⟩
  have HB7 : Hid (Below W3.heap.size W3 w7) := by rw [hw]; exact HB6.out
  clear hw
  go_wp2_with fail
  refine (fwrite_nil _ _ _).mono ?_; rintro e w8 ⟨rfl, hb⟩
  have HB8 := Lib.hid (HB7.out.trans (hb.mono HB7.out.size))
  clear hb
  obtain ⟨c0, c1, c2, c3⟩ := HF.out w8 HB8.out
  go_wp2_with fail
  refine (fread_nil _ _ _ _ _).mono ?_; rintro e w9 ⟨rfl, hb⟩
  have HB9 := Lib.hid (HB8.out.trans (hb.mono HB8.out.size))
  clear hb
  clear c0 c1 c2 c3
  go_wp2_with fail
  refine (wclose_nil _).mono ?_; rintro e w10 ⟨rfl, hb⟩
  have HB10 := Lib.hid (HB9.out.trans (hb.mono HB9.out.size))
  clear hb
  have HB11 : Hid (Below W3.heap.size W3 (w10.alloc (.cells #[.int .i64 0, .int .i64 0, .int .i64 0, .int .i64 0] 30))) := HB10.out.alloc HB10.out.size _
  unfold fileV
  go_wp2_with fail
  generalize w10.alloc (.cells #[.int .i64 0, .int .i64 0, .int .i64 0, .int .i64 0] 30) = w11 at *
  refine (fnext_nil _).mono ?_; rintro e w12 ⟨rfl, hb⟩
  have HB12 := Lib.hid (HB11.out.trans (hb.mono HB11.out.size))
  clear hb
  have HB13 : Hid (Below W3.heap.size W3 (w12.alloc (.cells #[.int .i64 0, .int .i64 0, .int .i64 0, .int .i64 0, .int .i64 0] 58))) := HB12.out.alloc HB12.out.size _
  go_wp2_with fail
  generalize w12.alloc (.cells #[.int .i64 0, .int .i64 0, .int .i64 0, .int .i64 0, .int .i64 0] 58) = w13 at *
  refine (flay_nil _ _).mono ?_; rintro e w14 ⟨rfl, hb⟩
  have HB14 := Lib.hid (HB13.out.trans (hb.mono HB13.out.size))
  clear hb
  have HB15 : Hid (Below W3.heap.size W3 (w14.alloc (.cells #[.int .i64 0, .int .i64 0, .int .i64 0, .int .i64 0] 30))) := HB14.out.alloc HB14.out.size _
  unfold fileV
  obtain ⟨c0, c1, c2, c3⟩ := HF.out _ HB15.out
  go_wp2_with fail
  generalize w14.alloc (.cells #[.int .i64 0, .int .i64 0, .int .i64 0, .int .i64 0] 30) = w15 at *
  refine (flist_nil _ _ _ _ _).mono ?_; rintro e w16 ⟨rfl, hb⟩
  have HB16 := Lib.hid (HB15.out.trans (hb.mono HB15.out.size))
  clear hb
  clear c0 c1 c2 c3
  obtain ⟨c0, c1, c2, c3, c4⟩ := HT.out w16 HB16.out
  go_wp2_with fail
  refine (wput_nil _ _ _ _ _ _).mono ?_; rintro e w17 ⟨rfl, hb⟩
  have HB17 := Lib.hid (HB16.out.trans (hb.mono HB16.out.size))
  clear hb
  clear c0 c1 c2 c3 c4
  obtain ⟨c0, c1, c2, c3⟩ := HF.out w17 HB17.out
  go_wp2_with fail
  refine (ffree_nil _ _ _ _ _).mono ?_; rintro e w18 ⟨rfl, hb⟩
  have HB18 := Lib.hid (HB17.out.trans (hb.mono HB17.out.size))
  clear hb
  clear c0 c1 c2 c3
  go_wp2_with fail
  refine (hol_nil _ _).mono ?_; rintro e w19 ⟨rfl, hw⟩
  have HB19 : Hid (Below W3.heap.size W3 w19) := by rw [hw]; exact HB18.out
  clear hw
  go_wp2_with fail
  refine (wdev_nil _).mono ?_; rintro e w20 ⟨rfl, hw⟩
  have HB20 : Hid (Below W3.heap.size W3 w20) := by rw [hw]; exact HB19.out
  clear hw
  go_wp2_with fail
  refine (warn_nil _).mono ?_; rintro e w21 ⟨rfl, hw⟩
  have HB21 : Hid (Below W3.heap.size W3 w21) := by rw [hw]; exact HB20.out
  clear hw
  go_wp2_with fail
  refine (wspc_nil _).mono ?_; rintro e w22 ⟨rfl, hw⟩
  have HB22 : Hid (Below W3.heap.size W3 w22) := by rw [hw]; exact HB21.out
  clear hw
  go_wp2_with fail
  refine (fnew_nil _ _ _).mono ?_; rintro e w23 ⟨rfl, hw⟩
  have HB23 : Hid (Below W3.heap.size W3 w23) := by rw [hw]; exact HB22.out
  clear hw
  have HE := Lib.hid (HB1.out.trans (HB23.out.mono HB1.out.size))
  go_wp2
  go_ret
  exact ⟨rfl, HE.out⟩

set_option maxRecDepth 100000 in
theorem lifted (os : Os) (started : os.Started) (H : Type) (enc : TypeId × Value → H) :
    ReturnsInHanded {} Try.checked os 7 .any (Rows.fileNilSpec.pre6 enc Try.prog Try.f7 Rows.fileNilRow.domain false) (Rows.fileNilSpec.post enc Try.prog Try.f7 false true false false) := by
  refine returnsInHanded_of_change (C := Try.checked) own started (by kernel_rfl) Try.func7
    (ChangeSpec.witness6 (enc := enc) (C := Try.checked) false ⟨#[], #[.agg #[.int .i64 0, .int .i64 0, .int .i64 0, .int .i64 0], .agg #[.int .i64 0, .int .i64 0], .agg #[.int .i64 0, .int .i64 0, .int .i64 0, .int .i64 0, .int .i64 0]], []⟩ 8 (by kernel_rfl) (by kernel_rfl) (by kernel_rfl) (by kernel_rfl)) ?_
  intro W base args ds gs before hval0 hW hcnd _
  have hval : ∀ (j : Nat) t v, Try.f7.params[j]? = some t → args[j]? = some v → Value.okWide Try.prog W .any base t v := hval0
  have hW' := hW
  obtain ⟨p, q, hA0, hV, rfl, hfz, hnd⟩ := hW
  have hA : DataW.TrodAll enc Try.prog W 0 (fun _ => true) true Try.f7.params.toList args.toList ds p := hA0
  rw [Try.params7] at hA hval
  obtain ⟨v0, vs0, d0, ds0, p0, q0, hargs, rfl, rfl, h0, r0⟩ := trodAll_cons hA
  obtain ⟨v1, vs1, d1, ds1, p1, q1, rfl, rfl, rfl, h1, r1⟩ := trodAll_cons r0
  obtain ⟨v2, vs2, d2, ds2, p2, q2, rfl, rfl, rfl, h2, r2⟩ := trodAll_cons r1
  obtain ⟨rfl, rfl, rfl⟩ := trodAll_nil r2
  obtain rfl : args = #[v0, v1, v2] := by cases args; simp_all
  obtain ⟨rfl, rfl⟩ := trodVars_none hV
  have k0 := h0
  have lt0 : ∀ x ∈ p0, x.block < W.heap.size := by obtain ⟨m, hm⟩ := k0; exact DataW.trod_lt m _ _ _ hm
  have k1 := h1
  have lt1 : ∀ x ∈ p1, x.block < W.heap.size := by obtain ⟨m, hm⟩ := k1; exact DataW.trod_lt m _ _ _ hm
  have k2 := h2
  have lt2 : ∀ x ∈ p2, x.block < W.heap.size := by obtain ⟨m, hm⟩ := k2; exact DataW.trod_lt m _ _ _ hm
  obtain ⟨f0, f1, f2, f3, rfl, _⟩ := open_struct4 Try.underlying30 (by kernel_rfl) (by kernel_rfl) Try.underlying3 rfl rfl rfl rfl (hval 0 30 v0 rfl rfl) h0
  obtain ⟨a1_0, a1_1, rfl, w1_0, w1_1⟩ := open_arr2 Try.underlying79 Try.underlying3 (by kernel_rfl) (by kernel_rfl) (hval 1 79 v1 rfl rfl) h1
  obtain ⟨⟨ta, tb, tc, td, te⟩, rfl, _⟩ := open_tup Try.underlying58 Try.underlying2 (by kernel_rfl) (by kernel_rfl) (hval 2 58 v2 rfl rfl) h2
  clear hA0 hval0
  refine (walk f0 f1 f2 f3 a1_0 a1_1 ta tb tc td te W w1_0 w1_1).mono fun e W' ⟨he, bel⟩ => ?_
  subst he
  exact ⟨_, rfl, _, _, _, [], _, [], hW', trodAll_mk1 (shut_bool Try.underlying4 _), (trodAll_cons_mk (Below.trod laidOut (by kernel_rfl) (of_decide_eq_true (by kernel_rfl)) k0 bel lt0) (trodAll_cons_mk (Below.trod laidOut (by kernel_rfl) (of_decide_eq_true (by kernel_rfl)) k1 bel lt1) (trodAll_cons_mk (Below.trod laidOut (by kernel_rfl) (of_decide_eq_true (by kernel_rfl)) k2 bel lt2) trodAll_mk0))), rfl, bel.frame _, fun h => by cases h⟩

theorem over : Rows.fileNilRow.holds Try.pinned (OpenSpec.ofChange Rows.fileNilSpec) :=
  OpenClaim.holds_of_wide 7 Try.f7 rfl rfl rfl rfl rfl rfl rfl ⟨rfl, rfl, rfl, rfl, rfl⟩ rfl rfl rfl rfl rfl (by kernel_rfl) Try.func7 (by kernel_rfl)
    (of_decide_eq_true (by kernel_rfl)) (by unfold Func.isWrapper; first | (rw [if_pos (by decide +kernel)]; kernel_rfl) | (rw [if_neg (by decide +kernel)]; exact ⟨rfl, rfl⟩))
    (fun os started H enc _ => lifted os started H enc)

theorem proved : Rows.FileNilSaid := over
end Go.Proofs.Ytbkgpilmgllkiaa.fileNil
