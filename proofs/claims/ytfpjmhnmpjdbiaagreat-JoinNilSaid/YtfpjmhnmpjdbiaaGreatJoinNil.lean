/-
  JoinNil: whatever file, column and number; no condition.
-/
import Derived.Test.YtfpjmhnmpjdbiaaGreatNinD
import Derived.Test.YtfpjmhnmpjdbiaaGreatRows
import Derived.WalkKit
import Derived.ProofKit
import Derived.OpenShut
import Derived.ShutString
import Derived.ChangeOld
import Derived.Below
namespace Go.Proofs.YtfpjmhnmpjdbiaaGreat.joinNil
open Go.ChangeShapes Go.WideShapes Go.ChangeAt Go.RowKit
open Go.ChangeMaps (open_string shut_string)
set_option linter.unusedVariables false

theorem own : ownKnob Tryz.prog.godebug = none := by kernel_rfl
theorem laidOut : laidOutB Tryz.prog = true := by kernel_rfl


set_option maxHeartbeats 4000000 in
set_option maxRecDepth 100000 in
theorem walk (f0 f1 f2 f3 : Int) (a1 : Int) (a2 : Int) (w : World) (y3 : I64 f3) (w1 : (Lit.int .i64 a1).wf = true) (w2 : (Lit.int .i64 a2).wf = true) :
    Calls Tryz.prog 5 #[.agg #[.int .i64 f0, .int .i64 f1, .int .i64 f2, .int .i64 f3], .int .i64 a1, .int .i64 a2] w fun e w' => e = .returned (.bool true) ∧ Below w.heap.size w w' := by
  have hi3 := y3
  obtain ⟨W1, hW1⟩ : ∃ W1, W1 = w.alloc (.cells #[.int .i64 f0, .int .i64 f1, .int .i64 f2, .int .i64 f3] 31) := ⟨_, rfl⟩
  have hb1 : Below w.heap.size w W1 := by rw [hW1]; exact (Below.refl _ _).alloc (Nat.le_refl _) _
  have hr1 : Row W1 w.heap.size 31 [.int .i64 f0, .int .i64 f1, .int .i64 f2, .int .i64 f3] := by rw [hW1]; exact heap_alloc_new _ _
  obtain ⟨s0, hs0⟩ : ∃ s0, s0 = w.heap.size := ⟨_, rfl⟩
  rw [← hs0] at hr1
  have HROW : Hid (∀ u, Below W1.heap.size W1 u → Row u s0 31 [.int .i64 f0, .int .i64 f1, .int .i64 f2, .int .i64 f3]) := fun u hb => hr1.below hb hr1.lt
  have HAW := Lib.hid (awake13_any W1)
  have HB1 := Lib.hid hb1
  have HR1 := Lib.hid hr1
  have HI3 := Lib.hid hi3
  have HW1 := Lib.hid hW1
  have HS0 := Lib.hid hs0
  clear hi3 y3 hW1 hb1 hr1 w1 w2 hs0
  go_enter Tryz.func5, Tryz.ntmps5
  go_upto_region 1 with (fail)
  rw [← HW1.out, ← HS0.out]
  clear HW1
  go_wp2_with fail
  refine HAW.out.mono ?_
  rintro e u0 ⟨rfl, hb⟩
  have HBu0 := Lib.hid hb
  have hrow := HROW.out _ hb
  have b0 : u0.cell? ⟨s0, 0, none⟩ = some (.int .i64 f0) := hrow.cell 0
  have b1 : u0.cell? ⟨s0, 1, none⟩ = some (.int .i64 f1) := hrow.cell 1
  have b2 : u0.cell? ⟨s0, 2, none⟩ = some (.int .i64 f2) := hrow.cell 2
  have b3 : u0.cell? ⟨s0, 3, none⟩ = some (.int .i64 f3) := hrow.cell 3
  clear hb hrow HAW

  go_wp2_with fail
  refine (look_nil f0 f1 f2 f3 a1 _).mono ?_
  rintro e u1 ⟨rfl, hb⟩
  have HBu1 := Lib.hid ((HBu0.out.trans (hb.mono HBu0.out.size)).alloc (HBu0.out.trans (hb.mono HBu0.out.size)).size (.cells #[.int .i64 0, .int .i64 0, .int .i64 0, .int .i64 0] 31))
  clear hb b0 b1 b2 b3
  have hrow := HROW.out _ HBu1.out
  have b0 : (u1.alloc (.cells #[.int .i64 0, .int .i64 0, .int .i64 0, .int .i64 0] 31)).cell? ⟨s0, 0, none⟩ = some (.int .i64 f0) := hrow.cell 0
  have b1 : (u1.alloc (.cells #[.int .i64 0, .int .i64 0, .int .i64 0, .int .i64 0] 31)).cell? ⟨s0, 1, none⟩ = some (.int .i64 f1) := hrow.cell 1
  have b2 : (u1.alloc (.cells #[.int .i64 0, .int .i64 0, .int .i64 0, .int .i64 0] 31)).cell? ⟨s0, 2, none⟩ = some (.int .i64 f2) := hrow.cell 2
  have b3 : (u1.alloc (.cells #[.int .i64 0, .int .i64 0, .int .i64 0, .int .i64 0] 31)).cell? ⟨s0, 3, none⟩ = some (.int .i64 f3) := hrow.cell 3
  clear hrow


  go_wp2_with fail
  refine (cut_nil f0 f1 f2 f3 _).mono ?_
  rintro e u2 ⟨rfl, hb⟩
  have HBu2 := Lib.hid ((HBu1.out.trans (hb.mono HBu1.out.size)).alloc (HBu1.out.trans (hb.mono HBu1.out.size)).size (.cells #[.int .i64 0, .int .i64 0, .int .i64 0, .int .i64 0] 31))
  clear hb b0 b1 b2 b3
  have hrow := HROW.out _ HBu2.out
  have b0 : (u2.alloc (.cells #[.int .i64 0, .int .i64 0, .int .i64 0, .int .i64 0] 31)).cell? ⟨s0, 0, none⟩ = some (.int .i64 f0) := hrow.cell 0
  have b1 : (u2.alloc (.cells #[.int .i64 0, .int .i64 0, .int .i64 0, .int .i64 0] 31)).cell? ⟨s0, 1, none⟩ = some (.int .i64 f1) := hrow.cell 1
  have b2 : (u2.alloc (.cells #[.int .i64 0, .int .i64 0, .int .i64 0, .int .i64 0] 31)).cell? ⟨s0, 2, none⟩ = some (.int .i64 f2) := hrow.cell 2
  have b3 : (u2.alloc (.cells #[.int .i64 0, .int .i64 0, .int .i64 0, .int .i64 0] 31)).cell? ⟨s0, 3, none⟩ = some (.int .i64 f3) := hrow.cell 3
  clear hrow


  go_wp2_with fail
  refine (number_nil f0 f1 f2 f3 a2 _).mono ?_
  rintro e u3 ⟨rfl, hb⟩
  have HBu3 := Lib.hid ((HBu2.out.trans (hb.mono HBu2.out.size)).alloc (HBu2.out.trans (hb.mono HBu2.out.size)).size (.cells #[.int .i64 0, .int .i64 0, .int .i64 0, .int .i64 0] 31))
  clear hb b0 b1 b2 b3
  have hrow := HROW.out _ HBu3.out
  have b0 : (u3.alloc (.cells #[.int .i64 0, .int .i64 0, .int .i64 0, .int .i64 0] 31)).cell? ⟨s0, 0, none⟩ = some (.int .i64 f0) := hrow.cell 0
  have b1 : (u3.alloc (.cells #[.int .i64 0, .int .i64 0, .int .i64 0, .int .i64 0] 31)).cell? ⟨s0, 1, none⟩ = some (.int .i64 f1) := hrow.cell 1
  have b2 : (u3.alloc (.cells #[.int .i64 0, .int .i64 0, .int .i64 0, .int .i64 0] 31)).cell? ⟨s0, 2, none⟩ = some (.int .i64 f2) := hrow.cell 2
  have b3 : (u3.alloc (.cells #[.int .i64 0, .int .i64 0, .int .i64 0, .int .i64 0] 31)).cell? ⟨s0, 3, none⟩ = some (.int .i64 f3) := hrow.cell 3
  clear hrow


  go_wp2_with fail
  refine (keep_nil f0 f1 f2 f3 a1 a2 a2 _).mono ?_
  rintro e u4 ⟨rfl, hb⟩
  have HBu4 := Lib.hid ((HBu3.out.trans (hb.mono HBu3.out.size)).alloc (HBu3.out.trans (hb.mono HBu3.out.size)).size (.cells #[.int .i64 0, .int .i64 0, .int .i64 0, .int .i64 0] 31))
  clear hb b0 b1 b2 b3
  have hrow := HROW.out _ HBu4.out
  have b0 : (u4.alloc (.cells #[.int .i64 0, .int .i64 0, .int .i64 0, .int .i64 0] 31)).cell? ⟨s0, 0, none⟩ = some (.int .i64 f0) := hrow.cell 0
  have b1 : (u4.alloc (.cells #[.int .i64 0, .int .i64 0, .int .i64 0, .int .i64 0] 31)).cell? ⟨s0, 1, none⟩ = some (.int .i64 f1) := hrow.cell 1
  have b2 : (u4.alloc (.cells #[.int .i64 0, .int .i64 0, .int .i64 0, .int .i64 0] 31)).cell? ⟨s0, 2, none⟩ = some (.int .i64 f2) := hrow.cell 2
  have b3 : (u4.alloc (.cells #[.int .i64 0, .int .i64 0, .int .i64 0, .int .i64 0] 31)).cell? ⟨s0, 3, none⟩ = some (.int .i64 f3) := hrow.cell 3
  clear hrow

  go_wp2_with fail
  refine (work13_any _).mono ?_
  rintro e w5 ⟨p, G, rfl, hs, hG, hb⟩
  have hb5 := HBu4.out.trans (hb.mono HBu4.out.size)
  have hrow := HROW.out _ hb5
  obtain ⟨w0, hw0⟩ : ∃ w0, w0 = W1.setCell ⟨s0, 1, none⟩ (.int .i64 4000000) := ⟨_, rfl⟩
  obtain ⟨w6, hw6⟩ : ∃ w6, w6 = w5.setCell ⟨s0, 1, none⟩ (.int .i64 4000000) := ⟨_, rfl⟩
  obtain ⟨hbs, hfs⟩ := base_store (j := 1) (v := .int .i64 4000000) HR1.out hb5
  have hr6 : Row w6 s0 31 [.int .i64 f0, .int .i64 4000000, .int .i64 f2, .int .i64 f3] := by rw [hw6]; exact hrow.set 1 (.int .i64 4000000)
  have hr0 : Row w0 s0 31 [.int .i64 f0, .int .i64 4000000, .int .i64 f2, .int .i64 f3] := by rw [hw0]; exact HR1.out.set 1 (.int .i64 4000000)
  rw [← hw0, ← hw6] at hbs
  rw [← hw6] at hfs
  have hz0 : w0.heap.size = W1.heap.size := by rw [hw0]; simp
  have hGk : ∀ k, G k → w0.heap.size ≤ k := fun k hk => by
    have q1 := hG k hk
    have q2 := HBu4.out.size
    omega
  have hlt := HR1.out.lt
  have hs6 : Sys w6 G p (plF 12 60 5000) 0 := hs.far hfs (fun k hk hh => by have := hGk k hk; omega) (fun q hq => by cases hq)
  have hX : Wd (cxL w0 p 60 12 5000 True 0) [] 0 w6 := cx_start hs6 hGk hbs (by omega) (by omega)
  have HROW6 : Hid (∀ u, Wd (cxL w0 p 60 12 5000 True 0) [] 0 u → Row u s0 31 [.int .i64 f0, .int .i64 4000000, .int .i64 f2, .int .i64 f3]) := fun u hu => hr0.below (cx_bel hu) hr0.lt
  have HLK : Hid (∀ u, Wd (cxL w0 p 60 12 5000 True 0) [] 0 u → Calls Tryz.prog 19 #[.pointer (some ⟨p.w, 0, none⟩), .agg #[.int .i64 f0, .int .i64 4000000, .int .i64 f2, .int .i64 f3], .int .i64 0, .agg #[.int .i64 f0, .int .i64 4000000, .int .i64 f2, .int .i64 f3], .int .i64 0, .int .i64 0] u fun e w' => ∃ er : Nat, e = .returned (.tuple #[.agg #[.int .i64 0, .int .i64 0, .int .i64 0, .int .i64 0], .int .i64 er]) ∧ (er = 1 ∨ (4000000 : Int) < f3) ∧ Wd (cxL w0 p 60 12 5000 True 0) [] 0 w') := fun u hu => nil_look hu rfl rfl rfl HI3.out
  have HKP : Hid (∀ u, Wd (cxL w0 p 60 12 5000 True 0) [] 0 u → Calls Tryz.prog 20 #[.pointer (some ⟨p.w, 0, none⟩), .agg #[.int .i64 f0, .int .i64 4000000, .int .i64 f2, .int .i64 f3], .int .i64 0, .int .i64 0, .int .i64 0] u fun e w' => ∃ er : Nat, e = .returned (.tuple #[.agg #[.int .i64 0, .int .i64 0, .int .i64 0, .int .i64 0], .int .i64 er]) ∧ (er = 1 ∨ (4000000 : Int) < f3) ∧ Wd (cxL w0 p 60 12 5000 True 0) [] 0 w') := fun u hu => nil_keep hu rfl rfl rfl HI3.out
  have HBEL : Hid (∀ u u', Wd (cxL w0 p 60 12 5000 True 0) [] 0 u → Below u.heap.size u u' → Wd (cxL w0 p 60 12 5000 True 0) [] 0 u') := fun u u' hu hb => hu.below hb
  have HFIN : Hid (∀ u, Wd (cxL w0 p 60 12 5000 True 0) [] 0 u → Below w.heap.size w u) := fun u hu => by
    have q1 := cx_bel hu
    have q2 : Below w.heap.size w w0 := by
      rw [hw0]
      exact HB1.out.setCell (p := ⟨s0, 1, none⟩) (by have := HS0.out; show w.heap.size ≤ s0; omega) _
    exact q2.trans (q1.mono q2.size)
  have HX := Lib.hid hX
  have HW6 := Lib.hid hw6
  have b0 : w5.cell? ⟨s0, 0, none⟩ = some (.int .i64 f0) := hrow.cell 0
  have b1 : w5.cell? ⟨s0, 1, none⟩ = some (.int .i64 f1) := hrow.cell 1
  have b2 : w5.cell? ⟨s0, 2, none⟩ = some (.int .i64 f2) := hrow.cell 2
  have b3 : w5.cell? ⟨s0, 3, none⟩ = some (.int .i64 f3) := hrow.cell 3
  have fr1 := hrow.free 1
  generalize Wd (cxL w0 p 60 12 5000 True 0) [] 0 = ST at *
  clear hs hG hb hb5 hrow hw0 hw6 hbs hfs hr0 hGk hlt hs6 hX hz0
  go_upto_region 9 with (fail)
  rw [← HW6.out]
  clear b0 b1 b2 b3 fr1
  have b0 : w6.cell? ⟨s0, 0, none⟩ = some (.int .i64 f0) := hr6.cell 0
  have b1 : w6.cell? ⟨s0, 1, none⟩ = some (.int .i64 4000000) := hr6.cell 1
  have b2 : w6.cell? ⟨s0, 2, none⟩ = some (.int .i64 f2) := hr6.cell 2
  have b3 : w6.cell? ⟨s0, 3, none⟩ = some (.int .i64 f3) := hr6.cell 3
  clear hr6
  go_wp2_with fail
  refine (HLK.out _ HX.out).mono ?_
  rintro e w7 ⟨er, rfl, her, hx7⟩
  have HER := Lib.hid her
  have HX7 := Lib.hid (HBEL.out _ (w7.alloc (.cells #[.int .i64 0, .int .i64 0, .int .i64 0, .int .i64 0] 31)) hx7 ((Below.refl _ _).alloc (Nat.le_refl _) _))
  clear her hx7 b0 b1 b2 b3
  have hrow := HROW6.out _ HX7.out
  have b0 : (w7.alloc (.cells #[.int .i64 0, .int .i64 0, .int .i64 0, .int .i64 0] 31)).cell? ⟨s0, 0, none⟩ = some (.int .i64 f0) := hrow.cell 0
  have b1 : (w7.alloc (.cells #[.int .i64 0, .int .i64 0, .int .i64 0, .int .i64 0] 31)).cell? ⟨s0, 1, none⟩ = some (.int .i64 4000000) := hrow.cell 1
  have b2 : (w7.alloc (.cells #[.int .i64 0, .int .i64 0, .int .i64 0, .int .i64 0] 31)).cell? ⟨s0, 2, none⟩ = some (.int .i64 f2) := hrow.cell 2
  have b3 : (w7.alloc (.cells #[.int .i64 0, .int .i64 0, .int .i64 0, .int .i64 0] 31)).cell? ⟨s0, 3, none⟩ = some (.int .i64 f3) := hrow.cell 3
  clear hrow
  go_wp2_with fail
  refine (HKP.out _ HX7.out).mono ?_
  rintro e w8 ⟨er2, rfl, her2, hx8⟩
  have HX8 := Lib.hid (HBEL.out _ (w8.alloc (.cells #[.int .i64 0, .int .i64 0, .int .i64 0, .int .i64 0] 31)) hx8 ((Below.refl _ _).alloc (Nat.le_refl _) _))
  have HER2 := Lib.hid her2
  clear her2 hx8 b0 b1 b2 b3
  have hrow := HROW6.out _ HX8.out
  have b3 : (w8.alloc (.cells #[.int .i64 0, .int .i64 0, .int .i64 0, .int .i64 0] 31)).cell? ⟨s0, 3, none⟩ = some (.int .i64 f3) := hrow.cell 3
  clear hrow
  by_cases h1 : er = 1
  · by_cases h2 : er2 = 1
    · have k1 : ((er : Int) == 1) = true := by simp [h1]
      have k2 : ((er2 : Int) == 1) = true := by simp [h2]
      have HF := Lib.hid (HFIN.out _ HX8.out)
      clear h1 h2 HER HER2
      go_wp2
      go_ret
      exact ⟨rfl, HF.out⟩
    · have k1 : ((er : Int) == 1) = true := by simp [h1]
      have k2 : ((er2 : Int) == 1) = false := by simp; omega
      have k3 : decide (f3 > 4000000) = true := by simp; have := HER.out; have := HER2.out; omega
      have HF := Lib.hid (HFIN.out _ HX8.out)
      clear h1 h2 HER HER2
      go_wp2
      go_ret
      exact ⟨rfl, HF.out⟩
  · by_cases h2 : er2 = 1
    · have k1 : ((er : Int) == 1) = false := by simp; omega
      have k2 : ((er2 : Int) == 1) = true := by simp [h2]
      have k3 : decide (f3 > 4000000) = true := by simp; have := HER.out; have := HER2.out; omega
      have HF := Lib.hid (HFIN.out _ HX8.out)
      clear h1 h2 HER HER2
      go_wp2
      go_ret
      exact ⟨rfl, HF.out⟩
    · have k1 : ((er : Int) == 1) = false := by simp; omega
      have k2 : ((er2 : Int) == 1) = false := by simp; omega
      have k3 : decide (f3 > 4000000) = true := by simp; have := HER.out; have := HER2.out; omega
      have HF := Lib.hid (HFIN.out _ HX8.out)
      clear h1 h2 HER HER2
      go_wp2
      go_ret
      exact ⟨rfl, HF.out⟩

set_option maxRecDepth 100000 in
theorem lifted (os : Os) (started : os.Started) (H : Type) (enc : TypeId × Value → H) :
    ReturnsInHanded {} Tryz.checked os 5 .any (Rows.joinNilSpec.pre6 enc Tryz.prog Tryz.f5 Rows.joinNilRow.domain false) (Rows.joinNilSpec.post enc Tryz.prog Tryz.f5 false true false false) := by
  refine returnsInHanded_of_change (C := Tryz.checked) own started (by kernel_rfl) Tryz.func5
    (ChangeSpec.witness6 (enc := enc) (C := Tryz.checked) false ⟨#[], #[.agg #[.int .i64 0, .int .i64 0, .int .i64 0, .int .i64 0], .int .i64 0, .int .i64 0], []⟩ 8 (by kernel_rfl) (by kernel_rfl) (by kernel_rfl) (by kernel_rfl)) ?_
  intro W base args ds gs before hval0 hW hcnd _
  have hval : ∀ (j : Nat) t v, Tryz.f5.params[j]? = some t → args[j]? = some v → Value.okWide Tryz.prog W .any base t v := hval0
  have hW' := hW
  obtain ⟨p, q, hA0, hV, rfl, hfz, hnd⟩ := hW
  have hA : DataW.TrodAll enc Tryz.prog W 0 (fun _ => true) true Tryz.f5.params.toList args.toList ds p := hA0
  rw [Tryz.params5] at hA hval
  obtain ⟨v0, vs0, d0, ds0, p0, q0, hargs, rfl, rfl, h0, r0⟩ := trodAll_cons hA
  obtain ⟨v1, vs1, d1, ds1, p1, q1, rfl, rfl, rfl, h1, r1⟩ := trodAll_cons r0
  obtain ⟨v2, vs2, d2, ds2, p2, q2, rfl, rfl, rfl, h2, r2⟩ := trodAll_cons r1
  obtain ⟨rfl, rfl, rfl⟩ := trodAll_nil r2
  obtain rfl : args = #[v0, v1, v2] := by cases args; simp_all
  obtain ⟨rfl, rfl⟩ := trodVars_none hV
  have k0 := h0
  have lt0 : ∀ x ∈ p0, x.block < W.heap.size := by obtain ⟨m, hm⟩ := k0; exact DataW.trod_lt m _ _ _ hm
  have k1 := h1
  have lt1 : ∀ x ∈ p1, x.block < W.heap.size := by obtain ⟨m, hm⟩ := k1; exact DataW.trod_lt m _ _ _ hm
  have k2 := h2
  have lt2 : ∀ x ∈ p2, x.block < W.heap.size := by obtain ⟨m, hm⟩ := k2; exact DataW.trod_lt m _ _ _ hm
  obtain ⟨f0, f1, f2, f3, rfl, _, _, _, y3⟩ := open_struct4 Tryz.underlying31 (by kernel_rfl) (by kernel_rfl) Tryz.underlying3 rfl rfl rfl rfl (hval 0 31 v0 rfl rfl) h0
  obtain ⟨a1, rfl, rfl, rfl, w1⟩ := open_int Tryz.underlying3 (hval 1 3 v1 rfl rfl) h1
  obtain ⟨a2, rfl, rfl, rfl, w2⟩ := open_int Tryz.underlying2 (hval 2 2 v2 rfl rfl) h2
  clear hA0 hval0
  refine (walk f0 f1 f2 f3 a1 a2 W y3 w1 w2).mono fun e W' ⟨he, bel⟩ => ?_
  subst he
  exact ⟨_, rfl, _, _, _, [], _, [], hW', trodAll_mk1 (shut_bool Tryz.underlying4 _), (trodAll_cons_mk (Below.trod laidOut (by kernel_rfl) (of_decide_eq_true (by kernel_rfl)) k0 bel lt0) (trodAll_cons_mk (Below.trod laidOut (by kernel_rfl) (of_decide_eq_true (by kernel_rfl)) k1 bel lt1) (trodAll_cons_mk (Below.trod laidOut (by kernel_rfl) (of_decide_eq_true (by kernel_rfl)) k2 bel lt2) trodAll_mk0))), rfl, bel.frame _, fun h => by cases h⟩

theorem over : Rows.joinNilRow.holds Tryz.pinned (OpenSpec.ofChange Rows.joinNilSpec) :=
  OpenClaim.holds_of_wide 5 Tryz.f5 rfl rfl rfl rfl rfl rfl rfl ⟨rfl, rfl, rfl, rfl, rfl⟩ rfl rfl rfl rfl rfl (by kernel_rfl) Tryz.func5 (by kernel_rfl)
    (of_decide_eq_true (by kernel_rfl)) (by unfold Func.isWrapper; first | (rw [if_pos (by decide +kernel)]; kernel_rfl) | (rw [if_neg (by decide +kernel)]; exact ⟨rfl, rfl⟩))
    (fun os started H enc _ => lifted os started H enc)

theorem proved : Rows.JoinNilSaid := over
end Go.Proofs.YtfpjmhnmpjdbiaaGreat.joinNil
