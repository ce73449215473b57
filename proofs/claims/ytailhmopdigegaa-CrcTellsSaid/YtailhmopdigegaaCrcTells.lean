/-
  CrcTells: for whatever words, one half of one of them laid over by another number, the sum is another one just if that number isn't 0; no condition.
-/
import Derived.Test.YtailhmopdigegaaRows
import Derived.Test.YtailhmopdigegaaCrcRef
import Derived.WalkKit
import Derived.ProofKit
import Derived.OpenShut
import Derived.ShutString
import Derived.ChangeOld
import Derived.Below
namespace Go.Proofs.Ytailhmopdigegaa.crcTells
open Go.ChangeShapes Go.WideShapes Go.ChangeAt Go.RowKit
open Go.ChangeMaps (open_string shut_string)
set_option linter.unusedVariables false

theorem own : ownKnob Try.prog.godebug = none := by kernel_rfl
theorem laidOut : laidOutB Try.prog = true := by kernel_rfl

theorem info8 : (Try.prog.info? 27).map (fun i => (i.zero, i.size, i.bytes)) = some (some (.int .u64 0), 1, 8) := by kernel_rfl
theorem take_cell {cs : List Value} {l : List Nat} {n i : Nat} (h : cs.take n = l.map fun c : Nat => Value.int .u64 c) (hl : l.length = n) (hi : i < n) : cs[i]? = some (.int .u64 (l.getD i 0 : Nat)) := by
  have h1 : (cs.take n)[i]? = cs[i]? := by rw [List.getElem?_take, if_pos hi]
  rw [← h1, h, List.getElem?_map, List.getElem?_eq_getElem (by omega), List.getD_eq_getElem?_getD, List.getElem?_eq_getElem (by omega)]; rfl
theorem set_cell {cs : List Value} {l : List Nat} {n k c : Nat} (h : cs.take n = l.map fun c : Nat => Value.int .u64 c) (hl : l.length = n) (hcs : n ≤ cs.length) (hk : k < n) (i : Nat) (hi : i < n) :
    (cs.set k (.int .u64 (c : Int)))[i]? = some (.int .u64 ((l.set k c).getD i 0 : Nat)) := by
  rw [List.getElem?_set]
  by_cases e : k = i
  · subst e; rw [if_pos rfl, if_pos (by omega), List.getD_eq_getElem?_getD, List.getElem?_set, if_pos rfl, if_pos (by omega)]; rfl
  · rw [if_neg e, take_cell h hl hi, List.getD_eq_getElem?_getD, List.getD_eq_getElem?_getD, List.getElem?_set, if_neg e]
theorem getD_mem {l : List Nat} {i : Nat} (hi : i < l.length) : l.getD i 0 ∈ l := by
  rw [List.getD_eq_getElem?_getD, List.getElem?_eq_getElem hi]; exact List.getElem_mem hi

set_option maxHeartbeats 1600000 in
set_option maxRecDepth 100000 in
theorem walk (a0 : Option Addr) (len0 cap0 : Nat) (z0 : List Int) (a1 : Int) (a2_0 a2_1 : Int) (w : World) (w0 : IsRow .u64 w a0 len0 cap0 z0) (w1 : (Lit.int .u16 a1).wf = true) (w2_0 : (Lit.int .u32 a2_0).wf = true) (w2_1 : (Lit.int .u32 a2_1).wf = true) :
    Calls Try.prog 5 #[.slice a0 len0 cap0, .int .u16 a1, .agg #[.int .u32 a2_0, .int .u32 a2_1]] w fun e w' => e = .returned (.bool true) ∧ Below w.heap.size w w' := by
  obtain ⟨l, hl⟩ := w0.reads u64_nonneg
  clear w0
  obtain ⟨b, rfl⟩ := Int.eq_ofNat_of_zero_le (show 0 ≤ a2_0 by have := bounds_u32 w2_0; omega)
  obtain ⟨h, rfl⟩ := Int.eq_ofNat_of_zero_le (show 0 ≤ a2_1 by have := bounds_u32 w2_1; omega)
  obtain ⟨at1, rfl⟩ := Int.eq_ofNat_of_zero_le (show 0 ≤ a1 by have := bounds_u16 w1; omega)
  have hb32 := u32_lt w2_0
  have hh32 := u32_lt w2_1
  have h16 := bounds_u16 w1
  clear w1 w2_0 w2_1
  have hbw : Below w.heap.size w (w.alloc (.cells #[.int .u32 (b : Int), .int .u32 (h : Int)] 31)) := (Below.refl _ _).alloc (Nat.le_refl _) _
  by_cases hz0 : len0 = 0
  · have g0 : ((len0 : Int) == 0) = true := by simp; omega
    go_enter Try.func5, Try.ntmps5
    go_wp2
    go_quiet (fail)
    go_wp2_with fail
    refine (awake_any _).mono ?_; rintro e w2 ⟨rfl, hb2⟩
    go_wp2_with fail
    refine (awake_any _).mono ?_; rintro e w3 ⟨rfl, hb3⟩
    go_wp2
    go_ret
    exact ⟨rfl, ((below_drewN hbw _).trans (hb2.mono hbw.size)).trans (hb3.mono ((below_drewN hbw _).trans (hb2.mono hbw.size)).size)⟩
  have g0 : ((len0 : Int) == 0) = false := by simp; omega
  by_cases hbig : 1000 < len0
  · have g1 : decide (1000 < len0) = true := by simp; omega
    go_enter Try.func5, Try.ntmps5
    go_wp2
    go_quiet (fail)
    go_wp2_with fail
    refine (awake_any _).mono ?_; rintro e w2 ⟨rfl, hb2⟩
    go_wp2_with fail
    refine (awake_any _).mono ?_; rintro e w3 ⟨rfl, hb3⟩
    go_wp2
    go_ret
    exact ⟨rfl, ((below_drewN hbw _).trans (hb2.mono hbw.size)).trans (hb3.mono ((below_drewN hbw _).trans (hb2.mono hbw.size)).size)⟩
  have g1 : decide (1000 < len0) = false := by simp; omega
  obtain ⟨i0, hi, hz0', hz1, hz2⟩ := info_parts info8
  have HL := Lib.hid hl.1
  have hkl : at1 % len0 < len0 := Nat.mod_lt _ (by omega)
  have HK : Hid (((at1 : Int) % (len0 : Int)) = ((at1 % len0 : Nat) : Int)) := by unfold Hid; exact (Int.natCast_emod _ _).symm
  by_cases hodd : h % 2 = 1
  · have go : ((h : Int) % 2 == 1) = true := by simp; omega
    have HT := Lib.hid (sm_tells l (fun x hx => u64_lt (hl.2.1 x hx)) (at1 % len0) (by have := HL.out; omega) b hb32 true)
    have hx64 : half b true < 18446744073709551616 := half_lt hb32 _
    have HH : Hid ((b : Int) * 4294967296 = ((half b true : Nat) : Int)) := by unfold Hid half; simp
    generalize half b true = X at *
    go_enter Try.func5, Try.ntmps5
    go_wp2
    go_quiet (fail)
    go_wp2_with fail
    refine (awake_any _).mono ?_; rintro e w2 ⟨rfl, hb2⟩
    have hb2' := (below_drewN hbw _).trans (hb2.mono hbw.size)
    have HB2 := Lib.hid hb2'
    clear hb2 hb2'
    go_wp2_with (with_reducible refine stopAt 33 ?_)
    unfold Hid
    have HR2 := Lib.hid (hl.keep HB2.out)
    refine wpList_append_list _ rfl _ _ 22 rfl w.heap.size 27 i0 (.int .u64 0) 8 Try.underlying22 hi hz0' hz1 hz2 rfl _ 0 [] rfl (World.ownsRow_nil _ _ _ _) a0 len0 cap0 _ rfl (by have := HL.out; simpa using this) HR2.out.source cells_int (by omega) (by omega) HB2.out.size ?_
    intro v3 w3 hown3 hb3
    rw [Nat.zero_add, List.nil_append] at hown3
    obtain ⟨g, cap, cs, rfl, hg, hrow, hcap, hmax, hcl, htk⟩ := own_row hown3 (by omega)
    have HROW := Lib.hid hrow
    have HB3 := Lib.hid (HB2.out.trans hb3)
    have HTK := Lib.hid htk
    have HCL := Lib.hid hcl
    clear hown3 hb3 hrow htk hcl
    unfold maxLen at hmax
    go_upto_region 10 with (fail)
    rw [HK.out, HH.out]
    clear HK HH go
    generalize at1 % len0 = k at *
    have hcsl := HCL.out
    have hcell : w3.cell? ⟨g, k, none⟩ = some (.int .u64 (l.getD k 0 : Nat)) := by
      rw [HROW.out.cell]; exact take_cell HTK.out HL.out hkl
    have hfree := HROW.out.free k
    have hc64 : l.getD k 0 < 18446744073709551616 := u64_lt (hl.2.1 _ (getD_mem (by have := HL.out; omega)))
    have HX := Lib.hid (u64_xor_nat (l.getD k 0) X hc64 hx64)
    have hk0 : (0 : Int) ≤ (k : Int) := by omega
    have hk1 : (k : Int) < (len0 : Int) := by omega
    clear hcsl
    have hrd : ∀ u, u = Value.int .u64 ((l.getD k 0 ^^^ X : Nat) : Int) → Reads .u64 (w3.setCell ⟨g, k, none⟩ u) (w3.setCell ⟨g, k, none⟩ u).heap.size (some ⟨g, 0, none⟩) len0 (l.set k (l.getD k 0 ^^^ X)) := by
      rintro u rfl
      refine (HROW.out.set k _).reads (by rw [List.length_set]; exact HL.out) (fun x hx => ?_) (fun i hi => ?_) (by simp; exact HROW.out.lt)
      · rcases List.mem_or_eq_of_mem_set hx with hx | rfl
        · exact hl.2.1 x hx
        · exact u64_wf (Nat.xor_lt_two_pow (n := 64) hc64 hx64)
      · exact set_cell HTK.out HL.out (by have := HCL.out; omega) hkl i hi
    have HRD := Lib.hid hrd
    have HB4 : Hid (∀ u, Below w.heap.size w (w3.setCell ⟨g, k, none⟩ u)) := fun u => HB3.out.setCell hg u
    clear hrd
    generalize l.getD k 0 = c at *
    go_wp2_with fail
    have hr4 := HRD.out _ (congrArg (Value.int .u64) HX.out)
    have hb4 := HB4.out (.int .u64 (bits .xor .u64 (c : Int) (X : Int)))
    generalize w3.setCell ⟨g, k, none⟩ (.int .u64 (bits .xor .u64 (c : Int) (X : Int))) = w4 at *
    have HR0 := Lib.hid (hl.keep hb4)
    have HB := Lib.hid hb4
    refine (sum_any _ len0 cap (l.set k (c ^^^ X)) w4 hr4 (by omega)).mono ?_; rintro e w5 ⟨rfl, rfl⟩
    clear hb4 hr4 HB4 HRD HROW hcell hfree
    by_cases hb0 : b = 0
    · have HE := Lib.hid (HT.out.2 hb0)
      have g3 : ((b : Int) == 0) = true := by simp; omega
      rw [HE.out]
      go_wp2_with fail
      refine (sum_any a0 len0 cap0 l w4 HR0.out (by omega)).mono ?_; rintro e w5 ⟨rfl, rfl⟩
      go_wp2
      go_ret
      exact ⟨rfl, HB.out⟩
    · have hne : sm (l.set k (c ^^^ X)) ≠ sm l := fun h => hb0 (HT.out.1 h)
      have g3 : ((b : Int) == 0) = false := by simp; omega
      have g4 : ((sm (l.set k (c ^^^ X)) : Int) == (sm l : Int)) = false := by simp; omega
      clear HT
      generalize sm (l.set k (c ^^^ X)) = s1 at *
      go_wp2_with fail
      refine (sum_any a0 len0 cap0 l w4 HR0.out (by omega)).mono ?_; rintro e w5 ⟨rfl, rfl⟩
      generalize sm l = s2 at *
      go_wp2
      go_ret
      exact ⟨rfl, HB.out⟩
  · have go : ((h : Int) % 2 == 1) = false := by simp; omega
    have HT := Lib.hid (sm_tells l (fun x hx => u64_lt (hl.2.1 x hx)) (at1 % len0) (by have := HL.out; omega) b hb32 false)
    have hx64 : half b false < 18446744073709551616 := half_lt hb32 _
    have HH : half b false = b := by unfold half; simp
    rw [HH] at HT hx64
    go_enter Try.func5, Try.ntmps5
    go_wp2
    go_quiet (fail)
    go_wp2_with fail
    refine (awake_any _).mono ?_; rintro e w2 ⟨rfl, hb2⟩
    have hb2' := (below_drewN hbw _).trans (hb2.mono hbw.size)
    have HB2 := Lib.hid hb2'
    clear hb2 hb2'
    go_wp2_with (with_reducible refine stopAt 33 ?_)
    unfold Hid
    have HR2 := Lib.hid (hl.keep HB2.out)
    refine wpList_append_list _ rfl _ _ 22 rfl w.heap.size 27 i0 (.int .u64 0) 8 Try.underlying22 hi hz0' hz1 hz2 rfl _ 0 [] rfl (World.ownsRow_nil _ _ _ _) a0 len0 cap0 _ rfl (by have := HL.out; simpa using this) HR2.out.source cells_int (by omega) (by omega) HB2.out.size ?_
    intro v3 w3 hown3 hb3
    rw [Nat.zero_add, List.nil_append] at hown3
    obtain ⟨g, cap, cs, rfl, hg, hrow, hcap, hmax, hcl, htk⟩ := own_row hown3 (by omega)
    have HROW := Lib.hid hrow
    have HB3 := Lib.hid (HB2.out.trans hb3)
    have HTK := Lib.hid htk
    have HCL := Lib.hid hcl
    clear hown3 hb3 hrow htk hcl
    unfold maxLen at hmax
    go_upto_region 10 with (fail)
    rw [HK.out]
    clear HK HH go
    generalize at1 % len0 = k at *
    have hcsl := HCL.out
    have hcell : w3.cell? ⟨g, k, none⟩ = some (.int .u64 (l.getD k 0 : Nat)) := by
      rw [HROW.out.cell]; exact take_cell HTK.out HL.out hkl
    have hfree := HROW.out.free k
    have hc64 : l.getD k 0 < 18446744073709551616 := u64_lt (hl.2.1 _ (getD_mem (by have := HL.out; omega)))
    have HX := Lib.hid (u64_xor_nat (l.getD k 0) b hc64 hx64)
    have hk0 : (0 : Int) ≤ (k : Int) := by omega
    have hk1 : (k : Int) < (len0 : Int) := by omega
    clear hcsl
    have hrd : ∀ u, u = Value.int .u64 ((l.getD k 0 ^^^ b : Nat) : Int) → Reads .u64 (w3.setCell ⟨g, k, none⟩ u) (w3.setCell ⟨g, k, none⟩ u).heap.size (some ⟨g, 0, none⟩) len0 (l.set k (l.getD k 0 ^^^ b)) := by
      rintro u rfl
      refine (HROW.out.set k _).reads (by rw [List.length_set]; exact HL.out) (fun x hx => ?_) (fun i hi => ?_) (by simp; exact HROW.out.lt)
      · rcases List.mem_or_eq_of_mem_set hx with hx | rfl
        · exact hl.2.1 x hx
        · exact u64_wf (Nat.xor_lt_two_pow (n := 64) hc64 hx64)
      · exact set_cell HTK.out HL.out (by have := HCL.out; omega) hkl i hi
    have HRD := Lib.hid hrd
    have HB4 : Hid (∀ u, Below w.heap.size w (w3.setCell ⟨g, k, none⟩ u)) := fun u => HB3.out.setCell hg u
    clear hrd
    generalize l.getD k 0 = c at *
    go_wp2_with fail
    have hr4 := HRD.out _ (congrArg (Value.int .u64) HX.out)
    have hb4 := HB4.out (.int .u64 (bits .xor .u64 (c : Int) (b : Int)))
    generalize w3.setCell ⟨g, k, none⟩ (.int .u64 (bits .xor .u64 (c : Int) (b : Int))) = w4 at *
    have HR0 := Lib.hid (hl.keep hb4)
    have HB := Lib.hid hb4
    refine (sum_any _ len0 cap (l.set k (c ^^^ b)) w4 hr4 (by omega)).mono ?_; rintro e w5 ⟨rfl, rfl⟩
    clear hb4 hr4 HB4 HRD HROW hcell hfree
    by_cases hb0 : b = 0
    · have HE := Lib.hid (HT.out.2 hb0)
      have g3 : ((b : Int) == 0) = true := by simp; omega
      rw [HE.out]
      go_wp2_with fail
      refine (sum_any a0 len0 cap0 l w4 HR0.out (by omega)).mono ?_; rintro e w5 ⟨rfl, rfl⟩
      go_wp2
      go_ret
      exact ⟨rfl, HB.out⟩
    · have hne : sm (l.set k (c ^^^ b)) ≠ sm l := fun h => hb0 (HT.out.1 h)
      have g3 : ((b : Int) == 0) = false := by simp; omega
      have g4 : ((sm (l.set k (c ^^^ b)) : Int) == (sm l : Int)) = false := by simp; omega
      clear HT
      generalize sm (l.set k (c ^^^ b)) = s1 at *
      go_wp2_with fail
      refine (sum_any a0 len0 cap0 l w4 HR0.out (by omega)).mono ?_; rintro e w5 ⟨rfl, rfl⟩
      generalize sm l = s2 at *
      go_wp2
      go_ret
      exact ⟨rfl, HB.out⟩

set_option maxRecDepth 100000 in
theorem lifted (os : Os) (started : os.Started) (H : Type) (enc : TypeId × Value → H) :
    ReturnsInHanded {} Try.checked os 5 .any (Rows.crcTellsSpec.pre6 enc Try.prog Try.f5 Rows.crcTellsRow.domain false) (Rows.crcTellsSpec.post enc Try.prog Try.f5 false true false false) := by
  refine returnsInHanded_of_change (C := Try.checked) own started (by kernel_rfl) Try.func5
    (ChangeSpec.witness6 (enc := enc) (C := Try.checked) false ⟨#[], #[.slice none 0 0, .int .u16 0, .agg #[.int .u32 0, .int .u32 0]], []⟩ 8 (by kernel_rfl) (by kernel_rfl) (by kernel_rfl) (by kernel_rfl)) ?_
  intro W base args ds gs before hval0 hW hcnd _
  have hval : ∀ (j : Nat) t v, Try.f5.params[j]? = some t → args[j]? = some v → Value.okWide Try.prog W .any base t v := hval0
  have hW' := hW
  obtain ⟨p, q, hA0, hV, rfl, hfz, hnd⟩ := hW
  have hA : DataW.TrodAll enc Try.prog W 0 (fun _ => true) true Try.f5.params.toList args.toList ds p := hA0
  rw [Try.params5] at hA hval
  obtain ⟨v0, vs0, d0, ds0, p0, q0, hargs, rfl, rfl, h0, r0⟩ := trodAll_cons hA
  obtain ⟨v1, vs1, d1, ds1, p1, q1, rfl, rfl, rfl, h1, r1⟩ := trodAll_cons r0
  obtain ⟨v2, vs2, d2, ds2, p2, q2, rfl, rfl, rfl, h2, r2⟩ := trodAll_cons r1
  obtain ⟨rfl, rfl, rfl⟩ := trodAll_nil r2
  obtain rfl : args = #[v0, v1, v2] := by cases args; simp_all
  obtain ⟨rfl, rfl⟩ := trodVars_none hV
  have k0 := h0
  have lt0 : ∀ x ∈ p0, x.block < W.heap.size := by obtain ⟨m, hm⟩ := k0; exact DataW.trod_lt m _ _ _ hm
  have k1 := h1
  have lt1 : ∀ x ∈ p1, x.block < W.heap.size := by obtain ⟨m, hm⟩ := k1; exact DataW.trod_lt m _ _ _ hm
  have k2 := h2
  have lt2 : ∀ x ∈ p2, x.block < W.heap.size := by obtain ⟨m, hm⟩ := k2; exact DataW.trod_lt m _ _ _ hm
  obtain ⟨a0, len0, cap0, rfl⟩ := okWide_slice Try.underlying22 (hval 0 22 v0 rfl rfl)
  obtain ⟨z0, w0⟩ : ∃ zs, IsRow .u64 W a0 len0 cap0 zs := by
    obtain ⟨fuel, hf⟩ := h0
    rcases open_ints Try.underlying22 Try.underlying27 (by kernel_rfl) hf with ⟨hcs, _⟩ | ⟨x, l, c, zs, hcs, _, hl, hm, hz, _, hcell, hwz⟩
    · simp [Value.cells] at hcs
      obtain ⟨rfl, rfl, rfl⟩ := hcs
      exact ⟨[], .inl ⟨rfl, rfl, rfl, rfl⟩⟩
    · simp [Value.cells] at hcs
      obtain ⟨rfl, rfl, rfl⟩ := hcs
      exact ⟨zs, .inr ⟨_, rfl, hl, hm, by simpa using hz, hcell, hwz⟩⟩
  obtain ⟨a1, rfl, rfl, rfl, w1⟩ := open_int Try.underlying30 (hval 1 30 v1 rfl rfl) h1
  obtain ⟨a2_0, a2_1, rfl, w2_0, w2_1⟩ := open_arr2 Try.underlying31 Try.underlying24 (by kernel_rfl) (by kernel_rfl) (hval 2 31 v2 rfl rfl) h2
  clear hA0 hval0
  refine (walk a0 len0 cap0 z0 a1 a2_0 a2_1 W w0 w1 w2_0 w2_1).mono fun e W' ⟨he, bel⟩ => ?_
  subst he
  exact ⟨_, rfl, _, _, _, [], _, [], hW', trodAll_mk1 (shut_bool Try.underlying4 _), (trodAll_cons_mk (Below.trod laidOut (by kernel_rfl) (of_decide_eq_true (by kernel_rfl)) k0 bel lt0) (trodAll_cons_mk (Below.trod laidOut (by kernel_rfl) (of_decide_eq_true (by kernel_rfl)) k1 bel lt1) (trodAll_cons_mk (Below.trod laidOut (by kernel_rfl) (of_decide_eq_true (by kernel_rfl)) k2 bel lt2) trodAll_mk0))), rfl, bel.frame _, fun h => by cases h⟩

theorem over : Rows.crcTellsRow.holds Try.pinned (OpenSpec.ofChange Rows.crcTellsSpec) :=
  OpenClaim.holds_of_wide 5 Try.f5 rfl rfl rfl rfl rfl rfl rfl ⟨rfl, rfl, rfl, rfl, rfl⟩ rfl rfl rfl rfl rfl (by kernel_rfl) Try.func5 (by kernel_rfl)
    (of_decide_eq_true (by kernel_rfl)) (by unfold Func.isWrapper; first | (rw [if_pos (by decide +kernel)]; kernel_rfl) | (rw [if_neg (by decide +kernel)]; exact ⟨rfl, rfl⟩))
    (fun os started H enc _ => lifted os started H enc)

theorem proved : Rows.CrcTellsSaid := over
end Go.Proofs.Ytailhmopdigegaa.crcTells
