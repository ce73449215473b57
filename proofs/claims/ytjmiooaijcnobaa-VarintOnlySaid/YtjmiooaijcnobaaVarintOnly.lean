/-
  VarintOnly: for whatever bytes and place, what varint.Take takes, put again, is just the bytes from there to the place behind; no condition.
-/
import Derived.Test.YtjmiooaijcnobaaRows
import Derived.Test.YtjmiooaijcnobaaScan
import Derived.Test.YtjmiooaijcnobaaRput
import Derived.WalkKit
import Derived.ProofKit
import Derived.OpenShut
import Derived.ShutString
import Derived.ChangeOld
import Derived.Below
namespace Go.Proofs.Ytjmiooaijcnobaa.varintOnly
open Go.ChangeShapes Go.WideShapes Go.ChangeAt Go.RowKit
open Go.ChangeMaps (open_string shut_string)
set_option linter.unusedVariables false

theorem own : ownKnob Try.prog.godebug = none := by kernel_rfl
theorem laidOut : laidOutB Try.prog = true := by kernel_rfl

set_option maxHeartbeats 1600000 in
set_option maxRecDepth 100000 in
theorem walk (a0 : Option Addr) (len0 cap0 : Nat) (z0 : List Int) (a1 : Int) (w : World) (w0 : IsRow .u8 w a0 len0 cap0 z0) (w1 : (Lit.int .i64 a1).wf = true) :
    Calls Try.prog 6 #[.slice a0 len0 cap0, .int .i64 a1] w fun e w' => e = .returned (.bool true) ∧ Below w.heap.size w w' := by
  obtain ⟨l, hl⟩ := w0.reads u8_nonneg
  have hcap : len0 ≤ cap0 ∧ cap0 ≤ 9223372036854775807 := by
    rcases w0 with ⟨_, h1, h2, _⟩ | ⟨_, _, h1, h2, _⟩
    · omega
    · unfold maxLen at h2; omega
  clear w0
  by_cases hbig : 1000 < len0
  · have g1 : decide (1000 < len0) = true := by simp; omega
    go_enter Try.func6, Try.ntmps6
    go_wp2_with fail
    refine (awake_any _).mono ?_; rintro e w2 ⟨rfl, hb⟩
    go_wp2_with fail
    refine (awake_any _).mono ?_; rintro e w3 ⟨rfl, hb3⟩
    go_wp2
    go_ret
    exact ⟨rfl, hb.trans (hb3.mono hb.size)⟩
  · have hd : decide (1000 < len0) = false := by simp; omega
    by_cases hin : a1 < 0 ∨ (len0 : Int) < a1
    · have HT : Hid (takeR l len0 a1 = (0, 0, 1)) := by unfold Hid takeR; rw [if_pos hin]
      clear hin
      go_enter Try.func6, Try.ntmps6
      go_wp2_with fail
      refine (awake_any _).mono ?_; rintro e w2 ⟨rfl, hb⟩
      go_wp2_with fail
      refine (take_all a0 len0 cap0 l a1 w2 ((hl.keep hb).mono hb.size) (by omega)).mono ?_; rintro e w3 ⟨rfl, m, rfl⟩
      rw [HT.out]
      simp only [tup]
      go_wp2
      go_ret
      exact ⟨rfl, below_drewN hb _⟩
    · obtain ⟨t, rfl⟩ := Int.eq_ofNat_of_zero_le (show 0 ≤ a1 by omega)
      have ht : t ≤ len0 := by omega
      clear hin w1
      have hsl := scan_le (l.drop t) 0 0
      have hll := hl.1
      rw [List.length_drop, hll] at hsl
      rcases scan_err (l.drop t) 0 0 with he | ⟨he, hx0⟩
      · have hsc : scan (l.drop t) 0 0 = ((scan (l.drop t) 0 0).1, (scan (l.drop t) 0 0).2.1, 0) := Prod.ext rfl (Prod.ext rfl he)
        obtain ⟨z, hz1, hu0, hu1, hz4, _, hzU⟩ := scan_ok (l.drop t) 0 0 _ _ (fun c hc => u8_lt (hl.2.1 c (List.mem_of_mem_drop hc))) (by omega) (by decide) hsc
        have HT : Hid (takeR l len0 t = ((scan (l.drop t) 0 0).1, t + (scan (l.drop t) 0 0).2.1, 0)) := by
          unfold Hid takeR; rw [if_neg (by omega), Int.toNat_natCast, he]
        generalize (scan (l.drop t) 0 0).2.1 = u at *
        generalize (scan (l.drop t) 0 0).1 = x at *
        have hxz : x = z := by simpa using hz1
        subst hxz
        clear he hsc hz1
        rw [List.length_drop, hll] at hu1
        have hvu : vs x = u := by unfold vs; rw [hz4]; simp; omega
        obtain ⟨b, off, rfl, hbb, hcc⟩ := hl.2.2 (by omega)
        have HLL := Lib.hid hll
        have HVU := Lib.hid hvu
        have HVL : Hid ((uv x).length = u) := hvu
        have HZ := Lib.hid hz4
        have HCC := Lib.hid hcc
        clear hll hvu hz4 hcc
        go_enter Try.func6, Try.ntmps6
        go_wp2_with fail
        refine (awake_any _).mono ?_; rintro e w2 ⟨rfl, hb⟩
        go_wp2_with fail
        refine (take_all _ len0 cap0 l t w2 ((hl.keep hb).mono hb.size) (by omega)).mono ?_; rintro e w3 ⟨rfl, m, rfl⟩
        rw [HT.out]
        simp only [tup]
        go_wp2_with fail
        refine (put_any none 0 0 [] x _ ⟨rfl, by simp, fun h => absurd h (by omega)⟩ (by omega) hzU).mono ?_
        rintro e w4 ⟨g, rfl, _, hr4, hb4⟩
        rw [HVU.out, Nat.zero_add, List.nil_append] at *
        have gw : IntKind.i64.wrap ((t : Int) + u - t) = u := by rw [IntWalk.i64_in _ (by omega)]; omega
        have gt : (0 : Int) ≤ t := by omega
        obtain ⟨i0, hi, hz0, hz1, hz2⟩ := info_parts info5
        have hcut : ∀ q, (Instr.slice 22 (.slice (some ⟨b, off, none⟩) len0 cap0) (some (.int .i64 (t : Int))) (some (.int .i64 ((t : Int) + u))) none).run Try.prog (w4.drewN q) = .ok (.slice (some ⟨b, off + t, none⟩) u (cap0 - t)) (w4.drewN q) := fun q => by
          have := run_cut (P := Try.prog) (w4.drewN q) 22 5 i0 Try.underlying22 hi hz1 b off len0 cap0 t (t + u) (by omega) (by omega) (by omega) .i64 .i64 t ((t : Int) + u) rfl (by omega)
          rwa [show t + u - t = u by omega] at this
        have hcell4 : ∀ q i, i < u → (w4.drewN q).cell? ⟨b, off + t + i, none⟩ = some (.int .u8 ((uv x).getD i 0 : Nat)) := fun q i hi => by
          have h1 := HCC.out (t + i) (by omega)
          rw [← Nat.add_assoc] at h1
          have h2 : w4.cell? ⟨b, off + t + i, none⟩ = w.cell? ⟨b, off + t + i, none⟩ := (((below_drewN hb m).trans (hb4.mono hb.size)).cell (p := ⟨b, off + t + i, none⟩) hbb)
          have h3 : (uv x).getD i 0 = l.getD (t + i) 0 := by
            rw [HZ.out]; simp only [List.getD_eq_getElem?_getD]
            rw [List.getElem?_take, if_pos (by omega), List.getElem?_drop]
          rw [h3, ← h1]; exact h2
        have hcv1 : ∀ q, (convert 22 9 (.slice (some ⟨b, off + t, none⟩) u (cap0 - t))).run Try.prog (w4.drewN q) = .ok (.string (strOf (uv x))) (w4.drewN q) := fun q =>
          run_string _ 22 9 5 Try.underlying22 Try.underlying5 Try.underlying9 b (off + t) u _ (uv x) HVL.out (hcell4 q)
        have hcv2 : ∀ q, (convert 22 9 (.slice (some ⟨g, 0, none⟩) u u)).run Try.prog (w4.drewN q) = .ok (.string (strOf (uv x))) (w4.drewN q) := fun q => by
          obtain ⟨b2, o2, hb2, _, hc2⟩ := hr4.2.2 (by omega)
          injection hb2 with hb2
          injection hb2 with hb2 ho2 _
          subst hb2 ho2
          exact run_string _ 22 9 5 Try.underlying22 Try.underlying5 Try.underlying9 _ 0 u _ (uv x) HVL.out hc2
        clear hcell4
        generalize strOf (uv x) = S at *
        go_wp2
        go_quiet (fail)
        go_wp2
        go_ret
        exact ⟨rfl, below_drewN ((below_drewN hb m).trans (hb4.mono hb.size)) _⟩
      · have HT : Hid (takeR l len0 t = (0, t + (scan (l.drop t) 0 0).2.1, 3)) := by
          unfold Hid takeR; rw [if_neg (by omega), Int.toNat_natCast, he, hx0]
        generalize (scan (l.drop t) 0 0).2.1 = u at *
        clear he hx0
        have HLL := Lib.hid hll
        clear hll
        go_enter Try.func6, Try.ntmps6
        go_wp2_with fail
        refine (awake_any _).mono ?_; rintro e w2 ⟨rfl, hb⟩
        go_wp2_with fail
        refine (take_all a0 len0 cap0 l t w2 ((hl.keep hb).mono hb.size) (by omega)).mono ?_; rintro e w3 ⟨rfl, m, rfl⟩
        rw [HT.out]
        simp only [tup]
        go_wp2
        go_ret
        exact ⟨by simp; omega, below_drewN hb _⟩

/-! ### THE ROW's STEP: WRITTEN OUT: LEAVE IT -/
set_option maxRecDepth 100000 in
theorem lifted (os : Os) (started : os.Started) (H : Type) (enc : TypeId × Value → H) :
    ReturnsInHanded {} Try.checked os 6 .any (Rows.varintOnlySpec.pre6 enc Try.prog Try.f6 Rows.varintOnlyRow.domain false) (Rows.varintOnlySpec.post enc Try.prog Try.f6 false true false false) := by
  refine returnsInHanded_of_change (C := Try.checked) own started (by kernel_rfl) Try.func6
    (ChangeSpec.witness6 (enc := enc) (C := Try.checked) false ⟨#[], #[.slice none 0 0, .int .i64 0], []⟩ 8 (by kernel_rfl) (by kernel_rfl) (by kernel_rfl) (by kernel_rfl)) ?_
  intro W base args ds gs before hval0 hW hcnd _
  have hval : ∀ (j : Nat) t v, Try.f6.params[j]? = some t → args[j]? = some v → Value.okWide Try.prog W .any base t v := hval0
  have hW' := hW
  obtain ⟨p, q, hA0, hV, rfl, hfz, hnd⟩ := hW
  have hA : DataW.TrodAll enc Try.prog W 0 (fun _ => true) true Try.f6.params.toList args.toList ds p := hA0
  rw [Try.params6] at hA hval
  obtain ⟨v0, vs0, d0, ds0, p0, q0, hargs, rfl, rfl, h0, r0⟩ := trodAll_cons hA
  obtain ⟨v1, vs1, d1, ds1, p1, q1, rfl, rfl, rfl, h1, r1⟩ := trodAll_cons r0
  obtain ⟨rfl, rfl, rfl⟩ := trodAll_nil r1
  obtain rfl : args = #[v0, v1] := by cases args; simp_all
  obtain ⟨rfl, rfl⟩ := trodVars_none hV
  obtain ⟨a0, len0, cap0, rfl⟩ := okWide_slice Try.underlying22 (hval 0 22 v0 rfl rfl)
  have k0 := h0
  have lt0 : ∀ x ∈ p0, x.block < W.heap.size := by obtain ⟨m, hm⟩ := k0; exact DataW.trod_lt m _ _ _ hm
  obtain ⟨z0, w0⟩ : ∃ zs, IsRow .u8 W a0 len0 cap0 zs := by
    obtain ⟨fuel, hf⟩ := h0
    rcases open_ints Try.underlying22 Try.underlying5 (by kernel_rfl) hf with ⟨hcs, _⟩ | ⟨x, l, c, zs, hcs, _, hl, hm, hz, _, hcell, hwz⟩
    · simp [Value.cells] at hcs
      obtain ⟨rfl, rfl, rfl⟩ := hcs
      exact ⟨[], .inl ⟨rfl, rfl, rfl, rfl⟩⟩
    · simp [Value.cells] at hcs
      obtain ⟨rfl, rfl, rfl⟩ := hcs
      exact ⟨zs, .inr ⟨_, rfl, hl, hm, by simpa using hz, hcell, hwz⟩⟩
  obtain ⟨a1, rfl, rfl, rfl, w1⟩ := open_int Try.underlying3 (hval 1 3 v1 rfl rfl) h1
  clear hA0 hval0
  refine (walk a0 len0 cap0 z0 a1 W w0 w1).mono fun e W' ⟨he, bel⟩ => ?_
  subst he
  exact ⟨_, rfl, _, _, _, [], _, [], hW', trodAll_mk1 (shut_bool Try.underlying4 _), (trodAll_cons_mk (Below.trod laidOut (by kernel_rfl) (of_decide_eq_true (by kernel_rfl)) k0 bel lt0) (trodAll_cons_mk (shut_int Try.underlying3 w1) trodAll_mk0)), rfl, bel.frame _, fun h => by cases h⟩

theorem over : Rows.varintOnlyRow.holds Try.pinned (OpenSpec.ofChange Rows.varintOnlySpec) :=
  OpenClaim.holds_of_wide 6 Try.f6 rfl rfl rfl rfl rfl rfl rfl ⟨rfl, rfl, rfl, rfl, rfl⟩ rfl rfl rfl rfl rfl (by kernel_rfl) Try.func6 (by kernel_rfl)
    (of_decide_eq_true (by kernel_rfl)) (by unfold Func.isWrapper; first | (rw [if_pos (by decide +kernel)]; kernel_rfl) | (rw [if_neg (by decide +kernel)]; exact ⟨rfl, rfl⟩))
    (fun os started H enc _ => lifted os started H enc)

/-- ████ THE STATEMENT ████ -/
theorem proved : Rows.VarintOnlySaid := over
end Go.Proofs.Ytjmiooaijcnobaa.varintOnly
