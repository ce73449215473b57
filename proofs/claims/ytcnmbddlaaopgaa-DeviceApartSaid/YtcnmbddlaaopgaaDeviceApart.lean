/-
  DeviceApart: for whatever two blocks' numbers and two words; no condition.
-/
import Derived.Test.YtcnmbddlaaopgaaRows
import Derived.Test.YtcnmbddlaaopgaaDevLaw
import Derived.WalkKit
import Derived.ProofKit
import Derived.OpenShut
import Derived.ShutString
import Derived.ChangeOld
import Derived.Below
namespace Go.Proofs.Ytcnmbddlaaopgaa.deviceApart
open Go.ChangeShapes Go.WideShapes Go.ChangeAt Go.RowKit
open Go.ChangeMaps (open_string shut_string)
set_option linter.unusedVariables false

theorem own : ownKnob Try.prog.godebug = none := by kernel_rfl
theorem laidOut : laidOutB Try.prog = true := by kernel_rfl

/-- a device of two writes' reading -/
theorem now_one (size : Nat) (i x : Int) (l : List Nat) (s : St) (h1 : s.fl = nothing) (h2 : s.later = [(i, l)]) (h3 : s.size = size) : s.now x = if x = i then l else List.replicate size 0 := by
  unfold St.now
  rw [h1, h2, h3]
  by_cases e : x = i
  · subst e; simp [lay, upd, blk]
  · simp [lay, upd, blk, nothing, e]
theorem size_drewN (w : World) (n : Nat) : (w.drewN n).heap.size = w.heap.size := rfl

set_option maxHeartbeats 4000000 in
set_option maxRecDepth 100000 in
theorem walk (a0 : Int) (a1 : Int) (a2_0 a2_1 : Int) (w : World) (w0 : (Lit.int .u8 a0).wf = true) (w1 : (Lit.int .u8 a1).wf = true) (w2_0 : (Lit.int .u64 a2_0).wf = true) (w2_1 : (Lit.int .u64 a2_1).wf = true) :
    Calls Try.prog 5 #[.int .u8 a0, .int .u8 a1, .agg #[.int .u64 a2_0, .int .u64 a2_1]] w fun e w' => e = .returned (.bool true) ∧ Below w.heap.size w w' := by
  have ha := u8_nonneg a0 w0
  have hb := u8_nonneg a1 w1
  obtain ⟨a, rfl⟩ := Int.eq_ofNat_of_zero_le ha
  obtain ⟨b, rfl⟩ := Int.eq_ofNat_of_zero_le hb
  obtain ⟨x, rfl⟩ := Int.eq_ofNat_of_zero_le (u64_nonneg _ w2_0)
  obtain ⟨y, rfl⟩ := Int.eq_ofNat_of_zero_le (u64_nonneg _ w2_1)
  have ha2 := u8_lt w0
  have hb2 := u8_lt w1
  clear ha hb w0 w1
  have hrow : Row (w.alloc (.cells #[.int .u64 (x : Int), .int .u64 (y : Int)] 46)) w.heap.size 46 [.int .u64 (x : Int), .int .u64 (y : Int)] := heap_alloc_new _ _
  have d0 : (w.alloc (.cells #[.int .u64 (x : Int), .int .u64 (y : Int)] 46)).cell? ⟨w.heap.size, 0, none⟩ = some (.int .u64 (x : Int)) := hrow.cell 0
  have d1 : (w.alloc (.cells #[.int .u64 (x : Int), .int .u64 (y : Int)] 46)).cell? ⟨w.heap.size, 1, none⟩ = some (.int .u64 (y : Int)) := hrow.cell 1
  clear hrow
  go_enter Try.func5, Try.ntmps5
  go_wp2
  go_quiet (fail)
  go_wp2_with fail
  refine (awake_any _).mono ?_; rintro e w1 ⟨rfl, hb1⟩
  have HB1 : Hid (Below w.heap.size w w1) := (below_drewN ((Below.refl w.heap.size w).alloc (Nat.le_refl _) (.cells #[.int .u64 (x : Int), .int .u64 (y : Int)] 46)) _).trans (hb1.mono (show w.heap.size ≤ _ by rw [size_drewN]; simp))
  clear hb1 d0 d1
  go_wp2_with fail
  refine (new_any 8 256 _ (by omega) (by omega)).mono ?_; rintro e w2 ⟨p, G, rfl, hd2, hG2, hb2⟩
  have hs1 := HB1.out.size
  have HB2 := Lib.hid (HB1.out.trans (hb2.mono hs1))
  have hs2 := HB2.out.size
  obtain ⟨lb, hlb⟩ : ∃ lb, w2.heap.size = lb := ⟨_, rfl⟩
  have hw3 : Hid (w2.alloc (.cells #[.int .u64 (x : Int), .int .u64 (x : Int), .int .u64 0, .int .u64 0, .int .u64 0, .int .u64 0, .int .u64 0, .int .u64 0] 29) = w2.alloc (.cells (([x, x, 0, 0, 0, 0, 0, 0] : List Nat).map fun c : Nat => Value.int .u64 c).toArray 29)) := rfl
  have hbl := (Below.refl w2.heap.size w2).alloc (Nat.le_refl _) (.cells (([x, x, 0, 0, 0, 0, 0, 0] : List Nat).map fun c : Nat => Value.int .u64 c).toArray 29)
  have hd3 := hd2.below hbl
  have hrd := alloc_reads (k := .u64) w2 29 _ ([x, x, 0, 0, 0, 0, 0, 0] : List Nat) rfl (by
    intro z hz
    rcases List.mem_cons.1 hz with rfl | hz
    · exact w2_0
    rcases List.mem_cons.1 hz with rfl | hz
    · exact w2_0
    · have : z = 0 := by simpa using hz
      subst this; decide)
  have hr3 : Row (w2.alloc (.cells (([x, x, 0, 0, 0, 0, 0, 0] : List Nat).map fun c : Nat => Value.int .u64 c).toArray 29)) w2.heap.size 29 (([x, x, 0, 0, 0, 0, 0, 0] : List Nat).map fun c : Nat => Value.int .u64 c) := heap_alloc_new _ _
  have hwr := write_any p (fresh 8 256) 0 G (a : Int) (some ⟨w2.heap.size, 0, none⟩) 8 8 [x, x, 0, 0, 0, 0, 0, 0] _ hd3 (by omega) (I64.of (by omega) (by omega)) hrd (by simp)
  rw [write_ok (fresh_calm 8 256) (by show (decide ((0 : Int) ≤ (a : Int)) && decide ((a : Int) < 256)) = true; simp; omega) rfl] at hwr
  have HNG : Hid (¬ G lb) := fun h => by have := hd2.lt h; omega
  have hz3 : (w2.alloc (.cells (([x, x, 0, 0, 0, 0, 0, 0] : List Nat).map fun c : Nat => Value.int .u64 c).toArray 29)).heap.size = lb + 1 := by simp [hlb]
  have HB3 := Lib.hid (HB2.out.trans (hbl.mono hs2))
  rw [hlb] at hr3 hrd
  have HR3 := Lib.hid hr3
  have HZ3 := Lib.hid hz3
  have HGB : Hid (∀ k, G k → w.heap.size ≤ k) := fun k hk => Nat.le_trans hs1 (hG2 k hk)
  clear hb2 hd2 hG2 hbl hd3 hrd hr3 hz3
  go_wp2_with fail
  rw [hlb] at hwr
  refine hwr.mono ?_
  rintro e w4 ⟨rfl, G4, hd4, hf4, hG4⟩
  have hst4 : ∀ z : Int, St.now { fresh 8 256 with acts := (fresh 8 256).acts + 1, later := (fresh 8 256).later ++ [((a : Int), [x, x, 0, 0, 0, 0, 0, 0])] } z = if z = (a : Int) then [x, x, 0, 0, 0, 0, 0, 0] else List.replicate 8 0 := fun z => now_one 8 a z _ _ rfl rfl rfl
  have hcalm : Calm { fresh 8 256 with acts := (fresh 8 256).acts + 1, later := (fresh 8 256).later ++ [((a : Int), [x, x, 0, 0, 0, 0, 0, 0])] } := ⟨rfl, rfl, rfl⟩
  have hri : ∀ z : Nat, z < 256 → right { fresh 8 256 with acts := (fresh 8 256).acts + 1, later := (fresh 8 256).later ++ [((a : Int), [x, x, 0, 0, 0, 0, 0, 0])] } (z : Int) = true := fun z hz => by
    show (decide ((0 : Int) ≤ (z : Int)) && decide ((z : Int) < 256)) = true; simp; omega
  generalize ({ fresh 8 256 with acts := (fresh 8 256).acts + 1, later := (fresh 8 256).later ++ [((a : Int), [x, x, 0, 0, 0, 0, 0, 0])] } : St) = s4 at *
  have hr4 := hf4.row HR3.out HNG.out
  have f0 := hr4.free 0
  have e0 : w4.cell? ⟨lb, 0, none⟩ = some (.int .u64 (x : Int)) := hr4.cell 0
  have HNG4 : Hid (¬ G4 lb) := fun h => by
    rcases hG4 lb h with h | h
    · exact HNG.out h
    · have := HZ3.out; omega
  have HB4 : Hid (Below w.heap.size w w4) := HB3.out.trans (hf4.below (by have := HZ3.out; omega) HGB.out)
  have HGB4 : Hid (∀ k, G4 k → w.heap.size ≤ k) := fun k hk => by
    rcases hG4 k hk with h | h
    · exact HGB.out k h
    · have := HZ3.out; omega
  have HD4 := Lib.hid hd4
  have HST := Lib.hid hst4
  have HCALM := Lib.hid hcalm
  have HRI := Lib.hid hri
  obtain ⟨yc, hyc, wyc⟩ := wrap_nat ((y : Int) + 1)
  have hs4 : lb < w4.heap.size := hr4.lt
  clear hd4 hf4 hG4 hr4 hst4 hcalm hri hwr
  go_wp2_with fail
  have hd5 : Dev (w4.setCell ⟨lb, 0, none⟩ (.int .u64 (yc : Int))) G4 p s4 (0 + 1) := HD4.out.keep (fun k hk => heap_setCell_other w4 ⟨lb, 0, none⟩ k _ fun e => HNG4.out ((show k = lb from e) ▸ hk)) (by simp)
  have HB5 := Lib.hid (HB4.out.setCell (p := ⟨lb, 0, none⟩) (by show w.heap.size ≤ lb; omega) (.int .u64 (yc : Int)))
  have hrd5 := read_any p s4 (0 + 1) G4 (a : Int) _ hd5 (by omega) (I64.of (by omega) (by omega))
  rw [read_ok HCALM.out (HRI.out a ha2), HST.out, if_pos rfl] at hrd5
  have HZ5 : Hid (∀ k, G4 k → k < (w4.setCell ⟨lb, 0, none⟩ (.int .u64 (yc : Int))).heap.size) := fun k hk => hd5.lt hk
  generalize w4.setCell ⟨lb, 0, none⟩ (.int .u64 (yc : Int)) = w5 at *
  clear hd5
  refine hrd5.mono ?_
  rintro e w6 ⟨v6, rfl, _, hw6, hd6, hf6⟩
  have HB6 : Hid (Below w.heap.size w w6) := HB5.out.trans (hf6.below HB5.out.size fun k hk => by subst hk; exact HGB4.out _ HD4.out.mine)
  have hw6 := hw6 rfl
  obtain ⟨g, c, cs, rfl, hrg, hgg, hgc, _, _, _, htk⟩ := hw6
  have hcs : ∀ i u, ([x, x, 0, 0, 0, 0, 0, 0].map fun z : Nat => Value.int .u64 z)[i]? = some u → w6.cell? ⟨g, i, none⟩ = some u := by
    intro i u hu
    have hi : i < 8 := by have := (List.getElem?_eq_some_iff.1 hu).1; simpa using this
    rw [hrg.cell i, ← hu, ← htk, List.getElem?_take, if_pos (by simpa using hi)]
  have e0 : w6.cell? ⟨g, 0, none⟩ = some (.int .u64 (x : Int)) := hcs 0 _ rfl
  have e1 : w6.cell? ⟨g, 1, none⟩ = some (.int .u64 (x : Int)) := hcs 1 _ rfl
  have f1 := hrg.free 1
  have HNG6 : Hid (¬ G4 g) := fun h => by have := HZ5.out g h; omega
  have HD6 := Lib.hid hd6
  have hg6 : w.heap.size ≤ g := Nat.le_trans HB5.out.size hgg
  have hL : [x, x, 0, 0, 0, 0, 0, 0].length = 8 := rfl
  rw [hL]
  clear hrd5 hw6 hd6 hf6 hcs htk hgg hrg hL
  go_wp2_with fail
  have hd7 := HD6.out.keep (w' := w6.setCell ⟨g, 1, none⟩ (.int .u64 (y : Int))) (fun k hk => heap_setCell_other w6 ⟨g, 1, none⟩ k _ fun e => HNG6.out ((show k = g from e) ▸ hk)) (by simp)
  have HB7 := Lib.hid (HB6.out.setCell (p := ⟨g, 1, none⟩) hg6 (.int .u64 (y : Int)))
  have hrd7 := read_any p _ (0 + 1 + 1) G4 (b : Int) _ hd7 (by omega) (I64.of (by omega) (by omega))
  rw [read_ok (s := { s4 with acts := s4.acts + 1 }) HCALM.out (HRI.out b hb2), show St.now { s4 with acts := s4.acts + 1 } (b : Int) = s4.now b from rfl, HST.out] at hrd7
  generalize w6.setCell ⟨g, 1, none⟩ (.int .u64 (y : Int)) = w7 at *
  clear hd7 e0 e1 f1
  refine hrd7.mono ?_
  rintro e w8 ⟨v8, rfl, _, hw8, hd8, hf8⟩
  have HB8 : Hid (Below w.heap.size w w8) := HB7.out.trans (hf8.below HB7.out.size fun k hk => by subst hk; exact HGB4.out _ HD4.out.mine)
  have hw8 := hw8 rfl
  clear hrd7 hd8 hf8
  by_cases hab : a = b
  · subst hab
    rw [if_pos rfl] at hw8
    obtain ⟨g8, c8, cs8, rfl, hr8, _, _, _, _, _, ht8⟩ := hw8
    have hcs : ∀ i u, ([x, x, 0, 0, 0, 0, 0, 0].map fun z : Nat => Value.int .u64 z)[i]? = some u → w8.cell? ⟨g8, i, none⟩ = some u := by
      intro i u hu
      have hi : i < 8 := by have := (List.getElem?_eq_some_iff.1 hu).1; simpa using this
      rw [hr8.cell i, ← hu, ← ht8, List.getElem?_take, if_pos (by simpa using hi)]
    have e0 : w8.cell? ⟨g8, 0, none⟩ = some (.int .u64 (x : Int)) := hcs 0 _ rfl
    have e1 : w8.cell? ⟨g8, 1, none⟩ = some (.int .u64 (x : Int)) := hcs 1 _ rfl
    have hL : [x, x, 0, 0, 0, 0, 0, 0].length = 8 := rfl
    rw [hL]
    clear hcs ht8 hr8 hL
    go_wp2
    go_ret
    exact ⟨rfl, HB8.out⟩
  · have hne : ¬ ((b : Int) = (a : Int)) := by omega
    rw [if_neg hne] at hw8
    obtain ⟨g8, c8, cs8, rfl, hr8, _, _, _, _, _, ht8⟩ := hw8
    have hcs : ∀ i u, ((List.replicate 8 0).map fun z : Nat => Value.int .u64 z)[i]? = some u → w8.cell? ⟨g8, i, none⟩ = some u := by
      intro i u hu
      have hi : i < 8 := by have := (List.getElem?_eq_some_iff.1 hu).1; simpa using this
      rw [hr8.cell i, ← hu, ← ht8, List.getElem?_take, if_pos (by simpa using hi)]
    have e1 : w8.cell? ⟨g8, 1, none⟩ = some (.int .u64 0) := hcs 1 _ rfl
    have hL : (List.replicate 8 0 : List Nat).length = 8 := rfl
    have g1 : ((a : Int) != (b : Int)) = true := by simp; omega
    have g2 : ((a : Int) == (b : Int)) = false := by simp; omega
    rw [hL]
    clear hcs ht8 hr8 hL hne
    go_wp2
    go_ret
    exact ⟨rfl, HB8.out⟩

set_option maxRecDepth 100000 in
theorem lifted (os : Os) (started : os.Started) (H : Type) (enc : TypeId × Value → H) :
    ReturnsInHanded {} Try.checked os 5 .any (Rows.deviceApartSpec.pre6 enc Try.prog Try.f5 Rows.deviceApartRow.domain false) (Rows.deviceApartSpec.post enc Try.prog Try.f5 false true false false) := by
  refine returnsInHanded_of_change (C := Try.checked) own started (by kernel_rfl) Try.func5
    (ChangeSpec.witness6 (enc := enc) (C := Try.checked) false ⟨#[], #[.int .u8 0, .int .u8 0, .agg #[.int .u64 0, .int .u64 0]], []⟩ 8 (by kernel_rfl) (by kernel_rfl) (by kernel_rfl) (by kernel_rfl)) ?_
  intro W base args ds gs before hval0 hW hcnd _
  have hval : ∀ (j : Nat) t v, Try.f5.params[j]? = some t → args[j]? = some v → Value.okWide Try.prog W .any base t v := hval0
  have hW' := hW
  obtain ⟨p, q, hA0, hV, rfl, hfz, hnd⟩ := hW
  have hA : DataW.TrodAll enc Try.prog W 0 (fun _ => true) true Try.f5.params.toList args.toList ds p := hA0
  rw [Try.params5] at hA hval
  obtain ⟨v0, vs0, d0, ds0, p0, q0, hargs, rfl, rfl, h0, r0⟩ := trodAll_cons hA
  obtain ⟨v1, vs1, d1, ds1, p1, q1, rfl, rfl, rfl, h1, r1⟩ := trodAll_cons r0
  obtain ⟨v2, vs2, d2, ds2, p2, q2, rfl, rfl, rfl, h2, r2⟩ := trodAll_cons r1
  obtain ⟨rfl, rfl, rfl⟩ := trodAll_nil r2
  obtain rfl : args = #[v0, v1, v2] := by cases args; simp_all
  obtain ⟨rfl, rfl⟩ := trodVars_none hV
  have k0 := h0
  have lt0 : ∀ x ∈ p0, x.block < W.heap.size := by obtain ⟨m, hm⟩ := k0; exact DataW.trod_lt m _ _ _ hm
  have k1 := h1
  have lt1 : ∀ x ∈ p1, x.block < W.heap.size := by obtain ⟨m, hm⟩ := k1; exact DataW.trod_lt m _ _ _ hm
  have k2 := h2
  have lt2 : ∀ x ∈ p2, x.block < W.heap.size := by obtain ⟨m, hm⟩ := k2; exact DataW.trod_lt m _ _ _ hm
  obtain ⟨a0, rfl, rfl, rfl, w0⟩ := open_int Try.underlying5 (hval 0 5 v0 rfl rfl) h0
  obtain ⟨a1, rfl, rfl, rfl, w1⟩ := open_int Try.underlying5 (hval 1 5 v1 rfl rfl) h1
  obtain ⟨a2_0, a2_1, rfl, w2_0, w2_1⟩ := open_arr2 Try.underlying46 Try.underlying29 (by kernel_rfl) (by kernel_rfl) (hval 2 46 v2 rfl rfl) h2
  clear hA0 hval0
  refine (walk a0 a1 a2_0 a2_1 W w0 w1 w2_0 w2_1).mono fun e W' ⟨he, bel⟩ => ?_
  subst he
  exact ⟨_, rfl, _, _, _, [], _, [], hW', trodAll_mk1 (shut_bool Try.underlying4 _), (trodAll_cons_mk (Below.trod laidOut (by kernel_rfl) (of_decide_eq_true (by kernel_rfl)) k0 bel lt0) (trodAll_cons_mk (Below.trod laidOut (by kernel_rfl) (of_decide_eq_true (by kernel_rfl)) k1 bel lt1) (trodAll_cons_mk (Below.trod laidOut (by kernel_rfl) (of_decide_eq_true (by kernel_rfl)) k2 bel lt2) trodAll_mk0))), rfl, bel.frame _, fun h => by cases h⟩

theorem over : Rows.deviceApartRow.holds Try.pinned (OpenSpec.ofChange Rows.deviceApartSpec) :=
  OpenClaim.holds_of_wide 5 Try.f5 rfl rfl rfl rfl rfl rfl rfl ⟨rfl, rfl, rfl, rfl, rfl⟩ rfl rfl rfl rfl rfl (by kernel_rfl) Try.func5 (by kernel_rfl)
    (of_decide_eq_true (by kernel_rfl)) (by unfold Func.isWrapper; first | (rw [if_pos (by decide +kernel)]; kernel_rfl) | (rw [if_neg (by decide +kernel)]; exact ⟨rfl, rfl⟩))
    (fun os started H enc _ => lifted os started H enc)

theorem proved : Rows.DeviceApartSaid := over
end Go.Proofs.Ytcnmbddlaaopgaa.deviceApart
