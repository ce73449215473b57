/-
  VarintBack: for whatever list of numbers of 64 bits, those that varint.Put puts one behind the other are taken by varint.Take as they were, to the end; no condition.
-/
import Derived.Test.YtjmiooaijcnobaaRows
import Derived.Test.YtjmiooaijcnobaaScan
import Derived.Test.YtjmiooaijcnobaaRput
import Derived.WalkKit
import Derived.ProofKit
import Derived.OpenShut
import Derived.ShutString
import Derived.ChangeOld
import Derived.Below
namespace Go.Proofs.Ytjmiooaijcnobaa.varintBack
open Go.ChangeShapes Go.WideShapes Go.ChangeAt Go.RowKit
open Go.ChangeMaps (open_string shut_string)
set_option linter.unusedVariables false

theorem own : ownKnob Try.prog.godebug = none := by kernel_rfl
theorem laidOut : laidOutB Try.prog = true := by kernel_rfl

def ub (L : List Nat) : List Nat := L.flatMap uv
theorem take_snoc' {L : List Nat} {k : Nat} (h : k < L.length) : L.take (k + 1) = L.take k ++ [L.getD k 0] := by
  rw [List.take_succ_eq_append_getElem h, List.getD_eq_getElem?_getD, List.getElem?_eq_getElem h]; rfl
theorem ub_snoc {L : List Nat} {k : Nat} (h : k < L.length) : ub (L.take (k + 1)) = ub (L.take k) ++ uv (L.getD k 0) := by
  rw [take_snoc' h]; simp [ub]
theorem ub_split {L : List Nat} {k : Nat} (h : k < L.length) : (ub L).drop (ub (L.take k)).length = uv (L.getD k 0) ++ ub (L.drop (k + 1)) := by
  have e : L = L.take k ++ (L.getD k 0 :: L.drop (k + 1)) := by rw [← drop_cons h, List.take_append_drop]
  have e2 : ub L = ub (L.take k) ++ (uv (L.getD k 0) ++ ub (L.drop (k + 1))) := by
    conv => lhs; rw [e]
    simp [ub]
  rw [e2, List.drop_left]
theorem ub_le : ∀ (L : List Nat), (∀ x ∈ L, U64 x) → (ub L).length ≤ 10 * L.length
  | [], _ => by simp [ub]
  | x :: r, h => by
    have h1 := vs_le (h x (by simp))
    have h2 := ub_le r (fun y hy => h y (by simp [hy]))
    unfold vs at h1
    simp only [ub, List.flatMap_cons, List.length_append, List.length_cons] at *
    omega
theorem ub_take_le (L : List Nat) (k : Nat) : (ub (L.take k)).length ≤ (ub L).length := by
  have e : ub L = ub (L.take k) ++ ub (L.drop k) := by
    unfold ub; rw [← List.flatMap_append, List.take_append_drop]
  rw [e, List.length_append]; omega

/-- what the first loop has put -/
def Put8 (w : World) (v : Value) (l : List Nat) : Prop := ∃ A c, v = .slice A l.length c ∧ Reads .u8 w w.heap.size A l.length l

set_option maxHeartbeats 1600000 in
set_option maxRecDepth 100000 in
theorem walk (a0 : Option Addr) (len0 cap0 : Nat) (z0 : List Int) (w : World) (w0 : IsRow .u64 w a0 len0 cap0 z0) :
    Calls Try.prog 5 #[.slice a0 len0 cap0] w fun e w' => e = .returned (.bool true) ∧ Below w.heap.size w w' := by
  obtain ⟨l, hl⟩ := w0.reads u64_nonneg
  clear w0
  by_cases hbig : 100 < len0
  · have g1 : decide (100 < len0) = true := by simp; omega
    go_enter Try.func5, Try.ntmps5
    go_wp2_with fail
    refine (awake_any _).mono ?_; rintro e w2 ⟨rfl, hb⟩
    go_wp2_with fail
    refine (awake_any _).mono ?_; rintro e w3 ⟨rfl, hb3⟩
    go_wp2
    go_ret
    exact ⟨rfl, hb.trans (hb3.mono hb.size)⟩
  · have hd : decide (100 < len0) = false := by simp; omega
    have hU : ∀ x ∈ l, U64 x := fun x hx => u64_lt (hl.2.1 x hx)
    have HL : Hid (l.length = len0) := hl.1
    have HN : Hid ((ub l).length ≤ 1000) := by have := ub_le l hU; have h2 := hl.1; unfold Hid; omega
    have HT := fun k => ub_take_le l k
    have HTL := Lib.hid HT
    have HU := Lib.hid hU
    clear HT hU
    go_enter Try.func5, Try.ntmps5
    go_wp2_with fail
    refine (awake_any _).mono ?_; rintro e w2 ⟨rfl, hb⟩
    go_wp2
    go_loopw [3, 4] (fun v iv wr => ∃ k : Nat, k ≤ len0 ∧ iv = .int .i64 k ∧ Hid (Put8 wr v (ub (l.take k))) ∧ Below w.heap.size w wr) (fun _ iv _ => len0 - (intOf iv).toNat)
    case atStart => exact ⟨0, by omega, rfl, ⟨none, 0, rfl, rfl, by simp [ub], fun h => absurd h (by simp [ub])⟩, hb⟩
    case round =>
      obtain ⟨k, hk, rfl, HP, hbw⟩ := hrel
      by_cases hlt : k < len0
      · obtain ⟨b1, o1, x, rfl, hb1, hc1, hw1, HX⟩ := hl.at_ hlt
        obtain ⟨A, c, rfl, hr⟩ := HP.out
        have hc1' := (hbw.cell (p := ⟨b1, o1 + k, none⟩) hb1).trans hc1
        have hux : U64 x := u64_lt hw1
        have hn : (ub (l.take k)).length ≤ 1000 := Nat.le_trans (HTL.out k) HN.out
        have HS : Hid (ub (l.take (k + 1)) = ub (l.take k) ++ uv x) := by have := HX.out; have h2 := HL.out; unfold Hid; rw [this]; exact ub_snoc (by omega)
        clear HP
        generalize ub (l.take k) = L at *
        go_wp2_with fail
        refine (put_any A L.length c L x wr hr (by omega) hux).mono ?_; rintro e w3 ⟨g, rfl, _, hr3, hb3⟩
        have hbw3 : Below w.heap.size w w3 := hbw.trans (hb3.mono hbw.size)
        have HP3 : Hid (Put8 w3 (.slice (some ⟨g, 0, none⟩) (L.length + vs x) (L.length + vs x)) (ub (l.take (k + 1)))) := by
          unfold Hid; rw [HS.out]
          have h1 : (L ++ uv x).length = L.length + vs x := by simp [vs]
          exact ⟨_, _, by rw [h1], by rw [h1]; exact hr3⟩
        clear hr3 hr
        go_wp2
        go_roundw
        case rel => exact ⟨k + 1, by omega, by go_num, HP3, hbw3⟩
        case measure => simp [intOf]; omega
      · obtain rfl : k = len0 := by omega
        have HB : Hid (ub (l.take k) = ub l) := by have := HL.out; unfold Hid; rw [List.take_of_length_le (by omega)]
        obtain ⟨A, c, rfl, hr⟩ := HP.out
        rw [HB.out] at *
        clear HP HB
        go_wp2
        go_loopw [5, 6] (fun tv iv w4 => ∃ j t : Nat, j ≤ k ∧ t ≤ 1000 ∧ iv = .int .i64 j ∧ tv = .int .i64 t ∧ Hid (t = (ub (l.take j)).length) ∧ ∃ m, w4 = wr.drewN m) (fun _ iv _ => k - (intOf iv).toNat)
        case atStart => exact ⟨0, 0, by omega, by omega, rfl, rfl, by unfold Hid; simp [ub], 0, rfl⟩
        case round =>
          obtain ⟨j, t, hj, ht, rfl, rfl, HTT, m, rfl⟩ := hrel
          by_cases hlt : j < k
          · obtain ⟨b1, o1, x, rfl, hb1, hc1, hw1, HX⟩ := hl.at_ hlt
            have hc1' : ∀ q, (wr.drewN q).cell? ⟨b1, o1 + j, none⟩ = some (.int .u64 (x : Nat)) := fun q => (hbw.cell (p := ⟨b1, o1 + j, none⟩) hb1).trans hc1
            have hux : U64 x := u64_lt hw1
            have hjl : j < l.length := by have := HL.out; omega
            have HS : Hid ((ub (l.take (j + 1))).length = t + vs x) := by
              unfold Hid; rw [ub_snoc hjl, List.length_append, ← HX.out, ← HTT.out]; rfl
            have htu : t + vs x ≤ (ub l).length := by rw [← HS.out]; exact HTL.out _
            have HN2 := HN.out
            have HTK : Hid (takeR (ub l) (ub l).length (t : Int) = (x, t + vs x, 0)) := by
              unfold Hid takeR
              rw [if_neg (by omega), Int.toNat_natCast]
              have h1 : (ub l).drop t = uv x ++ ub (l.drop (j + 1)) := by
                have h3 := ub_split hjl
                rw [← HTT.out, ← HX.out] at h3; exact h3
              rw [h1, scan_put x _ hux]
            have hpx := vs_pos x
            have hvx := vs_le hux
            go_wp2_with fail
            refine (take_all A (ub l).length c (ub l) t _ (hr.drewN m) (by omega)).mono ?_; rintro e w3 ⟨rfl, m3, rfl⟩
            rw [HTK.out]
            simp only [tup]
            go_wp2_with (go_at_call 13; refine (size_any x hux _).mono ?_; rintro e w5 ⟨rfl, rfl⟩)
            go_roundw
            case rel =>
              exact ⟨j + 1, t + vs x, by omega, by omega, by go_num, by go_num, HS.out.symm, _, rfl⟩
            case measure => simp [intOf]; omega
          · obtain rfl : j = k := by omega
            have HB2 : Hid (t = (ub l).length) := by have := HL.out; unfold Hid; rw [HTT.out, List.take_of_length_le (by omega)]
            go_wp2
            go_ret
            exact ⟨by have := HB2.out; simp; omega, below_drewN hbw _⟩

/-! ### THE ROW's STEP: WRITTEN OUT: LEAVE IT -/
set_option maxRecDepth 100000 in
theorem lifted (os : Os) (started : os.Started) (H : Type) (enc : TypeId × Value → H) :
    ReturnsInHanded {} Try.checked os 5 .any (Rows.varintBackSpec.pre6 enc Try.prog Try.f5 Rows.varintBackRow.domain false) (Rows.varintBackSpec.post enc Try.prog Try.f5 false true false false) := by
  refine returnsInHanded_of_change (C := Try.checked) own started (by kernel_rfl) Try.func5
    (ChangeSpec.witness6 (enc := enc) (C := Try.checked) false ⟨#[], #[.slice none 0 0], []⟩ 8 (by kernel_rfl) (by kernel_rfl) (by kernel_rfl) (by kernel_rfl)) ?_
  intro W base args ds gs before hval0 hW hcnd _
  have hval : ∀ (j : Nat) t v, Try.f5.params[j]? = some t → args[j]? = some v → Value.okWide Try.prog W .any base t v := hval0
  have hW' := hW
  obtain ⟨p, q, hA0, hV, rfl, hfz, hnd⟩ := hW
  have hA : DataW.TrodAll enc Try.prog W 0 (fun _ => true) true Try.f5.params.toList args.toList ds p := hA0
  rw [Try.params5] at hA hval
  obtain ⟨v0, vs0, d0, ds0, p0, q0, hargs, rfl, rfl, h0, r0⟩ := trodAll_cons hA
  obtain ⟨rfl, rfl, rfl⟩ := trodAll_nil r0
  obtain rfl : args = #[v0] := by cases args; simp_all
  obtain ⟨rfl, rfl⟩ := trodVars_none hV
  obtain ⟨a0, len0, cap0, rfl⟩ := okWide_slice Try.underlying33 (hval 0 33 v0 rfl rfl)
  have k0 := h0
  have lt0 : ∀ x ∈ p0, x.block < W.heap.size := by obtain ⟨m, hm⟩ := k0; exact DataW.trod_lt m _ _ _ hm
  obtain ⟨z0, w0⟩ : ∃ zs, IsRow .u64 W a0 len0 cap0 zs := by
    obtain ⟨fuel, hf⟩ := h0
    rcases open_ints Try.underlying33 Try.underlying23 (by kernel_rfl) hf with ⟨hcs, _⟩ | ⟨x, l, c, zs, hcs, _, hl, hm, hz, _, hcell, hwz⟩
    · simp [Value.cells] at hcs
      obtain ⟨rfl, rfl, rfl⟩ := hcs
      exact ⟨[], .inl ⟨rfl, rfl, rfl, rfl⟩⟩
    · simp [Value.cells] at hcs
      obtain ⟨rfl, rfl, rfl⟩ := hcs
      exact ⟨zs, .inr ⟨_, rfl, hl, hm, by simpa using hz, hcell, hwz⟩⟩
  clear hA0 hval0
  refine (walk a0 len0 cap0 z0 W w0).mono fun e W' ⟨he, bel⟩ => ?_
  subst he
  exact ⟨_, rfl, _, _, _, [], _, [], hW', trodAll_mk1 (shut_bool Try.underlying4 _), (trodAll_cons_mk (Below.trod laidOut (by kernel_rfl) (of_decide_eq_true (by kernel_rfl)) k0 bel lt0) trodAll_mk0), rfl, bel.frame _, fun h => by cases h⟩

theorem over : Rows.varintBackRow.holds Try.pinned (OpenSpec.ofChange Rows.varintBackSpec) :=
  OpenClaim.holds_of_wide 5 Try.f5 rfl rfl rfl rfl rfl rfl rfl ⟨rfl, rfl, rfl, rfl, rfl⟩ rfl rfl rfl rfl rfl (by kernel_rfl) Try.func5 (by kernel_rfl)
    (of_decide_eq_true (by kernel_rfl)) (by unfold Func.isWrapper; first | (rw [if_pos (by decide +kernel)]; kernel_rfl) | (rw [if_neg (by decide +kernel)]; exact ⟨rfl, rfl⟩))
    (fun os started H enc _ => lifted os started H enc)

/-- ████ THE STATEMENT ████ -/
theorem proved : Rows.VarintBackSaid := over
end Go.Proofs.Ytjmiooaijcnobaa.varintBack
