/-
  ArenaFits: for whatever room, whatever sizes; no condition.
-/
import Derived.Test.YtohhneeliaankaaRows
import Derived.Test.YtohhneeliaankaaArLaw
import Derived.WalkKit
import Derived.ProofKit
import Derived.OpenShut
import Derived.ShutString
import Derived.ChangeOld
import Derived.Below
namespace Go.Proofs.Ytohhneeliaankaa.arenaFits
open Go.ChangeShapes Go.WideShapes Go.ChangeAt Go.RowKit
open Go.ChangeMaps (open_string shut_string)
set_option linter.unusedVariables false

theorem own : ownKnob Try.prog.godebug = none := by kernel_rfl
theorem laidOut : laidOutB Try.prog = true := by kernel_rfl


set_option maxHeartbeats 4000000 in
set_option maxRecDepth 100000 in
theorem walk (a0 : Int) (a1 : Option Addr) (len1 cap1 : Nat) (z1 : List Int) (w : World) (w0 : (Lit.int .i64 a0).wf = true) (w1 : IsRow .i64 w a1 len1 cap1 z1) :
    Calls Try.prog 6 #[.int .i64 a0, .slice a1 len1 cap1] w fun e w' => e = .returned (.bool true) ∧ Below w.heap.size w w' := by
  have hb0 := i64_bounds w0
  have HZ0 := Lib.hid w1.readsZ
  have hcap := w1.cap
  generalize z1.take len1 = l at *
  clear w1
  go_enter Try.func6, Try.ntmps6
  go_wp2_with fail
  refine (awake_any _).mono ?_; rintro e w1 ⟨rfl, hb1⟩
  have HB1 := Lib.hid hb1
  have hs1 := hb1.size
  clear hb1
  by_cases hbig : len1 > 60 ∨ a0 > 100000
  · have HEND : ∀ w2, Below w1.heap.size w1 w2 → Below w.heap.size w w2 := fun w2 h => HB1.out.trans (h.mono hs1)
    by_cases h60 : len1 > 60
    · have g1 : decide (60 < len1) = true := by simpa using h60
      go_wp2_with fail
      refine (awake_any _).mono ?_; rintro e w2 ⟨rfl, hb2⟩
      have HB2 := Lib.hid (HEND _ hb2)
      clear hb2 HEND
      go_wp2
      go_ret
      exact ⟨rfl, HB2.out⟩
    · have g1 : decide (60 < len1) = false := by simpa using h60
      have g2 : decide (a0 > 100000) = true := by simp; omega
      go_wp2_with fail
      refine (awake_any _).mono ?_; rintro e w2 ⟨rfl, hb2⟩
      have HB2 := Lib.hid (HEND _ hb2)
      clear hb2 HEND
      go_wp2
      go_ret
      exact ⟨rfl, HB2.out⟩
  have h60 : len1 ≤ 60 := by omega
  have ha0 : a0 ≤ 100000 := by omega
  have g1 : decide (60 < len1) = false := by simp; omega
  have g2 : decide (a0 > 100000) = false := by simp; omega
  go_wp2_with fail
  refine (arnew_any a0 _ hb0.1 hb0.2).mono ?_; rintro e w2 ⟨rfl, ha2, hb2⟩
  have hroom : (empty a0.toNat).room ≤ 100000 := by show a0.toNat ≤ 100000; omega
  have HA2 := Lib.hid ha2
  have HB2 := Lib.hid (HB1.out.trans (hb2.mono hs1))
  have HR2 := Lib.hid hroom
  generalize empty a0.toNat = s0 at *
  obtain ⟨p, hp⟩ : ∃ p, w1.heap.size = p := ⟨_, rfl⟩
  have hp1 : w.heap.size ≤ p := by omega
  rw [hp] at HA2
  unfold ptr
  rw [hp]
  clear ha2 hb2 hroom hp hbig g1 g2
  go_wp2
  go_loopw [6] (fun iv wr => ∃ (i : Nat) (G : Nat → Prop) (s : Ar), i ≤ len1 ∧ iv = .int .i64 (i : Int) ∧ Hid (Arn wr G p s) ∧ Hid (s.room ≤ 100000) ∧ Hid (∀ k, G k → w.heap.size ≤ k) ∧ Hid (Below w.heap.size w wr)) (fun iv _ => len1 - (intOf iv).toNat)
  case atStart => exact ⟨0, _, s0, by omega, rfl, HA2.out, HR2.out, fun k hk => by omega, HB2.out⟩
  case round =>
    obtain ⟨i, G, s, hi, rfl, HA, HR, HG, HB⟩ := hrel
    by_cases hlt : i < len1
    · have g0 : decide (i < len1) = true := by simpa using hlt
      obtain ⟨b, off, z, rfl, hbb, d0, hz, _⟩ := (HZ0.out.keep HB.out).at_ hlt
      have hj0 : (0 : Int) ≤ (i : Int) := by omega
      have hj1 : (i : Int) < (len1 : Int) := by omega
      obtain ⟨h0, ⟨m, hr, _⟩, _⟩ := id HA.out
      have hl := arleft_any p s m wr hr h0
      have hpk := arpeak_any p s m wr hr
      by_cases hfit : 0 ≤ z ∧ z ≤ ((s.room - s.used : Nat) : Int)
      · obtain ⟨n, rfl⟩ := Int.eq_ofNat_of_zero_le hfit.1
        have hn : n ≤ s.room - s.used := by omega
        have hgr := grant_any p s G n wr HA.out hn (by have := HR.out; omega)
        obtain ⟨left, hleft⟩ : ∃ l : Nat, s.room - s.used = l := ⟨_, rfl⟩
        obtain ⟨left2, hleft2⟩ : ∃ l : Nat, s.room - (s.used + n) = l := ⟨_, rfl⟩
        have hsub : (left : Int) - (n : Int) = (left2 : Int) := by omega
        have g3 : decide ((n : Int) ≥ 0) = true := by simp
        have g4 : decide (n ≤ left) = true := by simp; omega
        have hl2 : (-9223372036854775808 : Int) ≤ (left2 : Int) := by omega
        have hl3 : (left2 : Int) ≤ 9223372036854775807 := by have := h0.room; omega
        rw [hleft] at hl
        have HL2 := Lib.hid hleft2
        clear hleft hfit hn hr h0 hleft2
        go_wp2_with fail
        refine hl.mono ?_; rintro e w3 ⟨rfl, rfl⟩
        go_wp2_with fail
        refine hpk.mono ?_; rintro e w3 ⟨rfl, rfl⟩
        go_wp2_with fail
        refine hgr.mono ?_; rintro e w4 ⟨gb, gg, G', rfl, ha4, hr4, _, _, _, _, _, _, hf4, hG4⟩
        obtain ⟨h0, ⟨m4, hra4, _⟩, _⟩ := id ha4
        have q1 := arleft_q hra4 h0
        rw [show (grant s gb n).room - (grant s gb n).used = left2 from HL2.out] at q1
        have HQ1 := Lib.hid q1
        have HA4 := Lib.hid ha4
        have hsz := HB.out.size
        have HG4 : Hid (∀ k, G' k → w.heap.size ≤ k) := fun k hk => (hG4 k hk).elim (HG.out k) fun h => by omega
        have HB4 : Hid (Below w.heap.size w w4) := HB.out.trans (hf4.below hsz HG.out)
        have d4 : w4.cell? ⟨b, off + i, none⟩ = some (.int .i64 (n : Int)) := (HB4.out.cell (p := ⟨b, off + i, none⟩) hbb).trans ((HB.out.cell (p := ⟨b, off + i, none⟩) hbb).symm.trans d0)
        clear ha4 hr4 hf4 hG4 h0 hra4 q1 hgr hl hpk d0
        unfold ptr
        go_wp2_with fail
        go_quiet (with_reducible first | exact HQ1.out _)
        go_wp2
        go_roundw
        case rel => exact ⟨i + 1, G', grant s gb n, by omega, by go_num, HA4.out.below (below_drewN (Below.refl _ _) _), HR.out, HG4.out, below_drewN HB4.out _⟩
        case measure => simp [intOf]; omega
      · have hgr := grant_no p s G z wr HA.out (by omega)
        obtain ⟨left, hleft⟩ : ∃ l : Nat, s.room - s.used = l := ⟨_, rfl⟩
        obtain ⟨pk, hpk'⟩ : ∃ l : Nat, s.peak = l := ⟨_, rfl⟩
        have q1 := arleft_q hr h0
        have q2 := arpeak_q hr
        rw [hleft] at hl q1 hfit
        rw [hpk'] at hpk q2
        have HQ1 := Lib.hid q1
        have HQ2 := Lib.hid q2
        obtain ⟨er, her⟩ : ∃ er : Int, (if z < 0 then (1 : Int) else 7) = er := ⟨_, rfl⟩
        have her0 : er ≠ 0 := by rw [← her]; split <;> decide
        have gk : (er == 0) = false := by simpa using her0
        have HF := Lib.hid hfit
        rw [her] at hgr
        clear hleft hpk' q1 q2 her her0 hr h0 hfit
        by_cases hz0 : 0 ≤ z
        · have g3 : decide (z ≥ 0) = true := by simpa using hz0
          have g4 : decide (z ≤ (left : Int)) = false := by have := HF.out; simp; omega
          clear hz0
          go_wp2_with fail
          refine hl.mono ?_; rintro e w3 ⟨rfl, rfl⟩
          go_wp2_with fail
          refine hpk.mono ?_; rintro e w3 ⟨rfl, rfl⟩
          go_wp2_with fail
          refine hgr.mono ?_; rintro e w3 ⟨rfl, rfl⟩
          go_wp2_with fail
          go_quiet (with_reducible first | exact HQ1.out _ | exact HQ2.out _)
          go_wp2
          go_roundw
          case rel => exact ⟨i + 1, G, s, by omega, by go_num, HA.out.below (below_drewN (Below.refl _ _) _), HR.out, HG.out, below_drewN HB.out _⟩
          case measure => simp [intOf]; omega
        · have g3 : decide (z ≥ 0) = false := by simpa using hz0
          clear hz0
          go_wp2_with fail
          refine hl.mono ?_; rintro e w3 ⟨rfl, rfl⟩
          go_wp2_with fail
          refine hpk.mono ?_; rintro e w3 ⟨rfl, rfl⟩
          go_wp2_with fail
          refine hgr.mono ?_; rintro e w3 ⟨rfl, rfl⟩
          go_wp2_with fail
          go_quiet (with_reducible first | exact HQ1.out _ | exact HQ2.out _)
          go_wp2
          go_roundw
          case rel => exact ⟨i + 1, G, s, by omega, by go_num, HA.out.below (below_drewN (Below.refl _ _) _), HR.out, HG.out, below_drewN HB.out _⟩
          case measure => simp [intOf]; omega
    · have g0 : decide (i < len1) = false := by simpa using hlt
      go_wp2
      go_ret
      exact ⟨rfl, HB.out⟩

set_option maxRecDepth 100000 in
theorem lifted (os : Os) (started : os.Started) (H : Type) (enc : TypeId × Value → H) :
    ReturnsInHanded {} Try.checked os 6 .any (Rows.arenaFitsSpec.pre6 enc Try.prog Try.f6 Rows.arenaFitsRow.domain false) (Rows.arenaFitsSpec.post enc Try.prog Try.f6 false true false false) := by
  refine returnsInHanded_of_change (C := Try.checked) own started (by kernel_rfl) Try.func6
    (ChangeSpec.witness6 (enc := enc) (C := Try.checked) false ⟨#[], #[.int .i64 0, .slice none 0 0], []⟩ 8 (by kernel_rfl) (by kernel_rfl) (by kernel_rfl) (by kernel_rfl)) ?_
  intro W base args ds gs before hval0 hW hcnd _
  have hval : ∀ (j : Nat) t v, Try.f6.params[j]? = some t → args[j]? = some v → Value.okWide Try.prog W .any base t v := hval0
  have hW' := hW
  obtain ⟨p, q, hA0, hV, rfl, hfz, hnd⟩ := hW
  have hA : DataW.TrodAll enc Try.prog W 0 (fun _ => true) true Try.f6.params.toList args.toList ds p := hA0
  rw [Try.params6] at hA hval
  obtain ⟨v0, vs0, d0, ds0, p0, q0, hargs, rfl, rfl, h0, r0⟩ := trodAll_cons hA
  obtain ⟨v1, vs1, d1, ds1, p1, q1, rfl, rfl, rfl, h1, r1⟩ := trodAll_cons r0
  obtain ⟨rfl, rfl, rfl⟩ := trodAll_nil r1
  obtain rfl : args = #[v0, v1] := by cases args; simp_all
  obtain ⟨rfl, rfl⟩ := trodVars_none hV
  have k0 := h0
  have lt0 : ∀ x ∈ p0, x.block < W.heap.size := by obtain ⟨m, hm⟩ := k0; exact DataW.trod_lt m _ _ _ hm
  have k1 := h1
  have lt1 : ∀ x ∈ p1, x.block < W.heap.size := by obtain ⟨m, hm⟩ := k1; exact DataW.trod_lt m _ _ _ hm
  obtain ⟨a0, rfl, rfl, rfl, w0⟩ := open_int Try.underlying3 (hval 0 3 v0 rfl rfl) h0
  obtain ⟨a1, len1, cap1, rfl⟩ := okWide_slice Try.underlying44 (hval 1 44 v1 rfl rfl)
  obtain ⟨z1, w1⟩ : ∃ zs, IsRow .i64 W a1 len1 cap1 zs := by
    obtain ⟨fuel, hf⟩ := h1
    rcases open_ints Try.underlying44 Try.underlying3 (by kernel_rfl) hf with ⟨hcs, _⟩ | ⟨x, l, c, zs, hcs, _, hl, hm, hz, _, hcell, hwz⟩
    · simp [Value.cells] at hcs
      obtain ⟨rfl, rfl, rfl⟩ := hcs
      exact ⟨[], .inl ⟨rfl, rfl, rfl, rfl⟩⟩
    · simp [Value.cells] at hcs
      obtain ⟨rfl, rfl, rfl⟩ := hcs
      exact ⟨zs, .inr ⟨_, rfl, hl, hm, by simpa using hz, hcell, hwz⟩⟩
  clear hA0 hval0
  refine (walk a0 a1 len1 cap1 z1 W w0 w1).mono fun e W' ⟨he, bel⟩ => ?_
  subst he
  exact ⟨_, rfl, _, _, _, [], _, [], hW', trodAll_mk1 (shut_bool Try.underlying4 _), (trodAll_cons_mk (Below.trod laidOut (by kernel_rfl) (of_decide_eq_true (by kernel_rfl)) k0 bel lt0) (trodAll_cons_mk (Below.trod laidOut (by kernel_rfl) (of_decide_eq_true (by kernel_rfl)) k1 bel lt1) trodAll_mk0)), rfl, bel.frame _, fun h => by cases h⟩

theorem over : Rows.arenaFitsRow.holds Try.pinned (OpenSpec.ofChange Rows.arenaFitsSpec) :=
  OpenClaim.holds_of_wide 6 Try.f6 rfl rfl rfl rfl rfl rfl rfl ⟨rfl, rfl, rfl, rfl, rfl⟩ rfl rfl rfl rfl rfl (by kernel_rfl) Try.func6 (by kernel_rfl)
    (of_decide_eq_true (by kernel_rfl)) (by unfold Func.isWrapper; first | (rw [if_pos (by decide +kernel)]; kernel_rfl) | (rw [if_neg (by decide +kernel)]; exact ⟨rfl, rfl⟩))
    (fun os started H enc _ => lifted os started H enc)

theorem proved : Rows.ArenaFitsSaid := over
end Go.Proofs.Ytohhneeliaankaa.arenaFits
