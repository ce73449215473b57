/-
  CrcTurns: for whatever three lists of words and the fourth that they make, the four sums are laid over to nothing; no condition.
-/
import Derived.Test.YtailhmopdigegaaRows
import Derived.Test.YtailhmopdigegaaCrcRef
import Derived.WalkKit
import Derived.ProofKit
import Derived.OpenShut
import Derived.ShutString
import Derived.ChangeOld
import Derived.Below
namespace Go.Proofs.Ytailhmopdigegaa.crcTurns
open Go.ChangeShapes Go.WideShapes Go.ChangeAt Go.RowKit
open Go.ChangeMaps (open_string shut_string)
set_option linter.unusedVariables false

theorem own : ownKnob Try.prog.godebug = none := by kernel_rfl
theorem laidOut : laidOutB Try.prog = true := by kernel_rfl

theorem info8 : (Try.prog.info? 27).map (fun i => (i.zero, i.size, i.bytes)) = some (some (.int .u64 0), 1, 8) := by kernel_rfl
/-- what the loop has made -/
def Xs (la lb lc : List Nat) (k : Nat) : List Nat := List.zipWith (· ^^^ ·) (List.zipWith (· ^^^ ·) (la.take k) (lb.take k)) (lc.take k)
theorem Xs_snoc {la lb lc : List Nat} {k : Nat} (ha : k < la.length) (hb : k < lb.length) (hc : k < lc.length) : Xs la lb lc (k + 1) = Xs la lb lc k ++ [la.getD k 0 ^^^ lb.getD k 0 ^^^ lc.getD k 0] := by
  unfold Xs
  rw [List.take_succ_eq_append_getElem ha, List.take_succ_eq_append_getElem hb, List.take_succ_eq_append_getElem hc, List.zipWith_append (by simp; omega), List.zipWith_append (by simp; omega)]
  simp [List.getD_eq_getElem?_getD, ha, hb, hc]

set_option maxHeartbeats 1600000 in
set_option maxRecDepth 100000 in
theorem walk (a0 : Option Addr) (len0 cap0 : Nat) (z0 : List Int) (a1 : Option Addr) (len1 cap1 : Nat) (z1 : List Int) (a2 : Option Addr) (len2 cap2 : Nat) (z2 : List Int) (w : World) (w0 : IsRow .u64 w a0 len0 cap0 z0) (w1 : IsRow .u64 w a1 len1 cap1 z1) (w2 : IsRow .u64 w a2 len2 cap2 z2) :
    Calls Try.prog 6 #[.slice a0 len0 cap0, .slice a1 len1 cap1, .slice a2 len2 cap2] w fun e w' => e = .returned (.bool true) ∧ Below w.heap.size w w' := by
  obtain ⟨la, hla⟩ := w0.reads u64_nonneg
  obtain ⟨lb, hlb⟩ := w1.reads u64_nonneg
  obtain ⟨lc, hlc⟩ := w2.reads u64_nonneg
  have hcap1 := w1.cap
  have hcap2 := w2.cap
  clear w0 w1 w2
  by_cases hbig : 1000 < len0
  · have g1 : decide (1000 < len0) = true := by simp; omega
    go_enter Try.func6, Try.ntmps6
    go_wp2_with fail
    refine (awake_any _).mono ?_; rintro e w2 ⟨rfl, hb⟩
    go_wp2_with fail
    refine (awake_any _).mono ?_; rintro e w3 ⟨rfl, hb3⟩
    go_wp2
    go_ret
    exact ⟨rfl, hb.trans (hb3.mono hb.size)⟩
  have hd : decide (1000 < len0) = false := by simp; omega
  by_cases hbig1 : len1 < len0
  · have g1 : decide (len1 < len0) = true := by simp; omega
    go_enter Try.func6, Try.ntmps6
    go_wp2_with fail
    refine (awake_any _).mono ?_; rintro e w2 ⟨rfl, hb⟩
    go_wp2_with fail
    refine (awake_any _).mono ?_; rintro e w3 ⟨rfl, hb3⟩
    go_wp2
    go_ret
    exact ⟨rfl, hb.trans (hb3.mono hb.size)⟩
  have hd1 : decide (len1 < len0) = false := by simp; omega
  by_cases hbig2 : len2 < len0
  · have g1 : decide (len2 < len0) = true := by simp; omega
    go_enter Try.func6, Try.ntmps6
    go_wp2_with fail
    refine (awake_any _).mono ?_; rintro e w2 ⟨rfl, hb⟩
    go_wp2_with fail
    refine (awake_any _).mono ?_; rintro e w3 ⟨rfl, hb3⟩
    go_wp2
    go_ret
    exact ⟨rfl, hb.trans (hb3.mono hb.size)⟩
  have hd2 : decide (len2 < len0) = false := by simp; omega
  obtain ⟨i0, hi, hz0, hz1, hz2⟩ := info_parts info8
  have HLA := Lib.hid hla.1
  have HLB := Lib.hid hlb.1
  have HLC := Lib.hid hlc.1
  go_enter Try.func6, Try.ntmps6
  go_wp2_with fail
  refine (awake_any _).mono ?_; rintro e w2 ⟨rfl, hb⟩
  go_wp2
  go_loopw [7, 8] (fun dv iv wr => ∃ i : Nat, i ≤ len0 ∧ iv = .int .i64 i ∧ Hid (wr.ownsRow w.heap.size 27 1 dv i ((Xs la lb lc i).map fun c : Nat => Value.int .u64 c)) ∧ Below w.heap.size w wr) (fun _ iv _ => len0 - (intOf iv).toNat)
  case atStart => exact ⟨0, by omega, rfl, World.ownsRow_nil _ _ _ _, hb⟩
  case round =>
    obtain ⟨i, hi', rfl, HO, hbw⟩ := hrel
    by_cases hlt : i < len0
    · obtain ⟨b1, o1, c1, rfl, hb1, hc1, hw1, HC1⟩ := (hla.keep hbw).at_ hlt
      obtain ⟨b2, o2, c2, rfl, hb2, hc2, hw2, HC2⟩ := (hlb.keep hbw).at_ (show i < len1 by omega)
      obtain ⟨b3, o3, c3, rfl, hb3, hc3, hw3, HC3⟩ := (hlc.keep hbw).at_ (show i < len2 by omega)
      have ag1 : u7.ownBlock ≠ some b1 := fun h => by have := (HO.out.lt b1 h).1; omega
      have ag2 : u7.ownBlock ≠ some b2 := fun h => by have := (HO.out.lt b2 h).1; omega
      have ag3 : u7.ownBlock ≠ some b3 := fun h => by have := (HO.out.lt b3 h).1; omega
      have hsz := hbw.size
      have hI0 : (0 : Int) ≤ (i : Int) := by omega
      have hI1 : (i : Int) < (len0 : Int) := by omega
      have hI2 : (i : Int) < (len1 : Int) := by omega
      have hI3 : (i : Int) < (len2 : Int) := by omega
      have HX : Hid (bits .xor .u64 (bits .xor .u64 (c1 : Int) c2) c3 = ((c1 ^^^ c2 ^^^ c3 : Nat) : Int)) := by
        have h1 := u64_lt hw1; have h2 := u64_lt hw2; have h3 := u64_lt hw3
        unfold Hid
        rw [u64_xor_nat c1 c2 h1 h2, u64_xor_nat _ c3 (Nat.xor_lt_two_pow (n := 64) h1 h2) h3]
      go_wp2
      go_region_held3 (fun w' => w'.cell? ⟨b1, o1 + i, none⟩ = some (.int .u64 c1) ∧ w'.cell? ⟨b2, o2 + i, none⟩ = some (.int .u64 c2) ∧ w'.cell? ⟨b3, o3 + i, none⟩ = some (.int .u64 c3))
        (first
          | go_keep
          | (go_split_ands
             refine ⟨?_, ?_, ?_⟩
             · (rw [hgrow.cell_far _ (by simp; omega) (Ne.symm ag1)]; assumption)
             · (rw [hgrow.cell_far _ (by simp; omega) (Ne.symm ag2)]; assumption)
             · (rw [hgrow.cell_far _ (by simp; omega) (Ne.symm ag3)]; assumption)))
        ((refine step_append_lies _ (by rfl) _ _ _ (by rfl) w.heap.size 27 i0 _ 1 8 Try.underlying22 hi hz0 hz1 hz2 rfl (by omega) _ i _ (by rfl) ((HO.out.alloc _).drew)
            ⟨wr.heap.size, 0, none⟩ 1 1 [.int .u64 (bits .xor .u64 (bits .xor .u64 (c1 : Int) c2) c3)] (by rfl) (by rfl) (World.news_of_block (cs := #[.int .u64 (bits .xor .u64 (bits .xor .u64 (c1 : Int) c2) c3)]) (t := 27) (fr := (0, 0)) (heap_alloc_new wr _)) (by simp [Value.oneCell'])
            (by omega) (by unfold maxLen; omega) (by omega) (by simp; omega) (wr.heap.size + 1) (by simp) ?_; intro gg cap w1 hown1 hgrow hat hlt))
      have hb4 : Below w.heap.size w w1 := ((below_drewN (hbw.alloc hbw.size _) 1).grown hgrow (by simp; omega) fun k hk => (HO.out.lt k hk).1)
      have HO4 : Hid (w1.ownsRow w.heap.size 27 1 (.slice (some ⟨gg, 0, none⟩) (i + 1) cap) (i + 1) ((Xs la lb lc (i + 1)).map fun c : Nat => Value.int .u64 c)) := by
        unfold Hid
        rw [Xs_snoc (by have := HLA.out; omega) (by have := HLB.out; omega) (by have := HLC.out; omega), List.map_append, ← HC1.out, ← HC2.out, ← HC3.out]
        rw [HX.out] at hown1
        exact hown1
      clear hown1 hgrow hat HO
      go_wp2
      go_roundw
      case rel => exact ⟨i + 1, by omega, by go_num, HO4, hb4⟩
      case measure => simp [intOf]; omega
    · obtain rfl : i = len0 := by omega
      have hra := hla.keep hbw
      have hrb := (hlb.keep hbw).take (show i ≤ len1 by omega)
      have hrc := (hlc.keep hbw).take (show i ≤ len2 by omega)
      have hua : U64s la := fun x hx => u64_lt (hra.2.1 x hx)
      have hub : U64s (lb.take i) := fun x hx => u64_lt (hrb.2.1 x hx)
      have huc : U64s (lc.take i) := fun x hx => u64_lt (hrc.2.1 x hx)
      have hz := sm_turns la (lb.take i) (lc.take i) (by have := HLA.out; have := hrb.1; omega) (by have := HLA.out; have := hrc.1; omega) hua hub huc
      have eX : Xs la lb lc i = List.zipWith (· ^^^ ·) (List.zipWith (· ^^^ ·) la (lb.take i)) (lc.take i) := by
        unfold Xs; rw [List.take_of_length_le (by have := HLA.out; omega)]
      rw [← eX] at hz
      obtain ⟨A, c, rfl, hr4, _⟩ := own_reads HO.out (by
        intro y hy
        rw [eX] at hy
        obtain ⟨j, hj, rfl⟩ := List.getElem_of_mem hy
        simp at hj
        rw [List.getElem_zipWith, List.getElem_zipWith]
        exact u64_wf (Nat.xor_lt_two_pow (n := 64) (Nat.xor_lt_two_pow (n := 64) (hua _ (List.getElem_mem (by omega))) (hub _ (List.getElem_mem (by simp; omega)))) (huc _ (List.getElem_mem (by simp; omega)))))
      have q1 : ∀ q, Calls Try.prog 8 #[.slice a0 i cap0] (wr.drewN q) fun e w'' => e = .returned (.int .u32 (sm la)) ∧ ∃ m, w'' = wr.drewN m := fun q =>
        Calls.quiet_of_same ((sum_any a0 i cap0 la _ (hra.drewN q) (by omega)).mono fun _ _ h => ⟨h.1, h.2.symm⟩)
      have q2 : ∀ q, Calls Try.prog 8 #[.slice a1 i cap1] (wr.drewN q) fun e w'' => e = .returned (.int .u32 (sm (lb.take i))) ∧ ∃ m, w'' = wr.drewN m := fun q =>
        Calls.quiet_of_same ((sum_any a1 i cap1 _ _ (hrb.drewN q) (by omega)).mono fun _ _ h => ⟨h.1, h.2.symm⟩)
      have q3 : ∀ q, Calls Try.prog 8 #[.slice a2 i cap2] (wr.drewN q) fun e w'' => e = .returned (.int .u32 (sm (lc.take i))) ∧ ∃ m, w'' = wr.drewN m := fun q =>
        Calls.quiet_of_same ((sum_any a2 i cap2 _ _ (hrc.drewN q) (by omega)).mono fun _ _ h => ⟨h.1, h.2.symm⟩)
      have q4 : ∀ q, Calls Try.prog 8 #[.slice A i c] (wr.drewN q) fun e w'' => e = .returned (.int .u32 (sm (Xs la lb lc i))) ∧ ∃ m, w'' = wr.drewN m := fun q =>
        Calls.quiet_of_same ((sum_any A i c _ _ (hr4.drewN q) (by omega)).mono fun _ _ h => ⟨h.1, h.2.symm⟩)
      have h2 : ∀ q, (Instr.slice 22 (.slice a1 len1 cap1) none (some (.int .i64 (i : Int))) none).run Try.prog (wr.drewN q) = .ok (.slice a1 i cap1) (wr.drewN q) := fun q =>
        run_head _ 22 27 i0 Try.underlying22 hi a1 len1 cap1 i (by omega) .i64 _ rfl
      have h3 : ∀ q, (Instr.slice 22 (.slice a2 len2 cap2) none (some (.int .i64 (i : Int))) none).run Try.prog (wr.drewN q) = .ok (.slice a2 i cap2) (wr.drewN q) := fun q =>
        run_head _ 22 27 i0 Try.underlying22 hi a2 len2 cap2 i (by omega) .i64 _ rfl
      have b1 := sm_lt la
      have b2 := sm_lt (lb.take i)
      have b3 := sm_lt (lc.take i)
      have b4 := sm_lt (Xs la lb lc i)
      have HB := Lib.hid hbw
      have HQ1 := Lib.hid q1
      have HQ2 := Lib.hid q2
      have HQ3 := Lib.hid q3
      have HQ4 := Lib.hid q4
      clear eX hr4 hra hrb hrc hua hub huc HO q1 q2 q3 q4
      generalize sm la = s1 at *
      generalize sm (lb.take i) = s2 at *
      generalize sm (lc.take i) = s3 at *
      generalize sm (Xs la lb lc i) = s4 at *
      have HZ : Hid ((bits .xor .u32 (bits .xor .u32 (bits .xor .u32 (s1 : Int) s2) s3) s4 == 0) = true) := by
        unfold Hid
        rw [u32_xor_nat s1 s2 b1 b2, u32_xor_nat _ s3 (Nat.xor_lt_two_pow (n := 32) b1 b2) b3, u32_xor_nat _ s4 (Nat.xor_lt_two_pow (n := 32) (Nat.xor_lt_two_pow (n := 32) b1 b2) b3) b4, hz]; rfl
      clear hz
      go_wp2
      go_quiet (with_reducible first | exact HQ1.out _ | exact HQ2.out _ | exact HQ3.out _ | exact HQ4.out _)
      rw [HZ.out]
      go_wp2
      go_ret
      exact ⟨rfl, below_drewN HB.out _⟩

set_option maxRecDepth 100000 in
theorem lifted (os : Os) (started : os.Started) (H : Type) (enc : TypeId × Value → H) :
    ReturnsInHanded {} Try.checked os 6 .any (Rows.crcTurnsSpec.pre6 enc Try.prog Try.f6 Rows.crcTurnsRow.domain false) (Rows.crcTurnsSpec.post enc Try.prog Try.f6 false true false false) := by
  refine returnsInHanded_of_change (C := Try.checked) own started (by kernel_rfl) Try.func6
    (ChangeSpec.witness6 (enc := enc) (C := Try.checked) false ⟨#[], #[.slice none 0 0, .slice none 0 0, .slice none 0 0], []⟩ 8 (by kernel_rfl) (by kernel_rfl) (by kernel_rfl) (by kernel_rfl)) ?_
  intro W base args ds gs before hval0 hW hcnd _
  have hval : ∀ (j : Nat) t v, Try.f6.params[j]? = some t → args[j]? = some v → Value.okWide Try.prog W .any base t v := hval0
  have hW' := hW
  obtain ⟨p, q, hA0, hV, rfl, hfz, hnd⟩ := hW
  have hA : DataW.TrodAll enc Try.prog W 0 (fun _ => true) true Try.f6.params.toList args.toList ds p := hA0
  rw [Try.params6] at hA hval
  obtain ⟨v0, vs0, d0, ds0, p0, q0, hargs, rfl, rfl, h0, r0⟩ := trodAll_cons hA
  obtain ⟨v1, vs1, d1, ds1, p1, q1, rfl, rfl, rfl, h1, r1⟩ := trodAll_cons r0
  obtain ⟨v2, vs2, d2, ds2, p2, q2, rfl, rfl, rfl, h2, r2⟩ := trodAll_cons r1
  obtain ⟨rfl, rfl, rfl⟩ := trodAll_nil r2
  obtain rfl : args = #[v0, v1, v2] := by cases args; simp_all
  obtain ⟨rfl, rfl⟩ := trodVars_none hV
  have k0 := h0
  have lt0 : ∀ x ∈ p0, x.block < W.heap.size := by obtain ⟨m, hm⟩ := k0; exact DataW.trod_lt m _ _ _ hm
  have k1 := h1
  have lt1 : ∀ x ∈ p1, x.block < W.heap.size := by obtain ⟨m, hm⟩ := k1; exact DataW.trod_lt m _ _ _ hm
  have k2 := h2
  have lt2 : ∀ x ∈ p2, x.block < W.heap.size := by obtain ⟨m, hm⟩ := k2; exact DataW.trod_lt m _ _ _ hm
  obtain ⟨a0, len0, cap0, rfl⟩ := okWide_slice Try.underlying22 (hval 0 22 v0 rfl rfl)
  obtain ⟨z0, w0⟩ : ∃ zs, IsRow .u64 W a0 len0 cap0 zs := by
    obtain ⟨fuel, hf⟩ := h0
    rcases open_ints Try.underlying22 Try.underlying27 (by kernel_rfl) hf with ⟨hcs, _⟩ | ⟨x, l, c, zs, hcs, _, hl, hm, hz, _, hcell, hwz⟩
    · simp [Value.cells] at hcs
      obtain ⟨rfl, rfl, rfl⟩ := hcs
      exact ⟨[], .inl ⟨rfl, rfl, rfl, rfl⟩⟩
    · simp [Value.cells] at hcs
      obtain ⟨rfl, rfl, rfl⟩ := hcs
      exact ⟨zs, .inr ⟨_, rfl, hl, hm, by simpa using hz, hcell, hwz⟩⟩
  obtain ⟨a1, len1, cap1, rfl⟩ := okWide_slice Try.underlying22 (hval 1 22 v1 rfl rfl)
  obtain ⟨z1, w1⟩ : ∃ zs, IsRow .u64 W a1 len1 cap1 zs := by
    obtain ⟨fuel, hf⟩ := h1
    rcases open_ints Try.underlying22 Try.underlying27 (by kernel_rfl) hf with ⟨hcs, _⟩ | ⟨x, l, c, zs, hcs, _, hl, hm, hz, _, hcell, hwz⟩
    · simp [Value.cells] at hcs
      obtain ⟨rfl, rfl, rfl⟩ := hcs
      exact ⟨[], .inl ⟨rfl, rfl, rfl, rfl⟩⟩
    · simp [Value.cells] at hcs
      obtain ⟨rfl, rfl, rfl⟩ := hcs
      exact ⟨zs, .inr ⟨_, rfl, hl, hm, by simpa using hz, hcell, hwz⟩⟩
  obtain ⟨a2, len2, cap2, rfl⟩ := okWide_slice Try.underlying22 (hval 2 22 v2 rfl rfl)
  obtain ⟨z2, w2⟩ : ∃ zs, IsRow .u64 W a2 len2 cap2 zs := by
    obtain ⟨fuel, hf⟩ := h2
    rcases open_ints Try.underlying22 Try.underlying27 (by kernel_rfl) hf with ⟨hcs, _⟩ | ⟨x, l, c, zs, hcs, _, hl, hm, hz, _, hcell, hwz⟩
    · simp [Value.cells] at hcs
      obtain ⟨rfl, rfl, rfl⟩ := hcs
      exact ⟨[], .inl ⟨rfl, rfl, rfl, rfl⟩⟩
    · simp [Value.cells] at hcs
      obtain ⟨rfl, rfl, rfl⟩ := hcs
      exact ⟨zs, .inr ⟨_, rfl, hl, hm, by simpa using hz, hcell, hwz⟩⟩
  clear hA0 hval0
  refine (walk a0 len0 cap0 z0 a1 len1 cap1 z1 a2 len2 cap2 z2 W w0 w1 w2).mono fun e W' ⟨he, bel⟩ => ?_
  subst he
  exact ⟨_, rfl, _, _, _, [], _, [], hW', trodAll_mk1 (shut_bool Try.underlying4 _), (trodAll_cons_mk (Below.trod laidOut (by kernel_rfl) (of_decide_eq_true (by kernel_rfl)) k0 bel lt0) (trodAll_cons_mk (Below.trod laidOut (by kernel_rfl) (of_decide_eq_true (by kernel_rfl)) k1 bel lt1) (trodAll_cons_mk (Below.trod laidOut (by kernel_rfl) (of_decide_eq_true (by kernel_rfl)) k2 bel lt2) trodAll_mk0))), rfl, bel.frame _, fun h => by cases h⟩

theorem over : Rows.crcTurnsRow.holds Try.pinned (OpenSpec.ofChange Rows.crcTurnsSpec) :=
  OpenClaim.holds_of_wide 6 Try.f6 rfl rfl rfl rfl rfl rfl rfl ⟨rfl, rfl, rfl, rfl, rfl⟩ rfl rfl rfl rfl rfl (by kernel_rfl) Try.func6 (by kernel_rfl)
    (of_decide_eq_true (by kernel_rfl)) (by unfold Func.isWrapper; first | (rw [if_pos (by decide +kernel)]; kernel_rfl) | (rw [if_neg (by decide +kernel)]; exact ⟨rfl, rfl⟩))
    (fun os started H enc _ => lifted os started H enc)

theorem proved : Rows.CrcTurnsSaid := over
end Go.Proofs.Ytailhmopdigegaa.crcTurns
