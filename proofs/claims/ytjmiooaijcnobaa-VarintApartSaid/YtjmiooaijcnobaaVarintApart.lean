/-
  VarintApart: for whatever two lists of bytes and place, what varint.Take answers behind both is what it answers in the second one, so many places on; no condition.
-/
import Derived.Test.YtjmiooaijcnobaaRows
import Derived.Test.YtjmiooaijcnobaaTakeAll
import Derived.Test.YtjmiooaijcnobaaRput
import Derived.WalkKit
import Derived.ProofKit
import Derived.OpenShut
import Derived.ShutString
import Derived.ChangeOld
import Derived.Below
namespace Go.Proofs.Ytjmiooaijcnobaa.varintApart
open Go.ChangeShapes Go.WideShapes Go.ChangeAt Go.RowKit
open Go.ChangeMaps (open_string shut_string)
set_option linter.unusedVariables false

theorem own : ownKnob Try.prog.godebug = none := by kernel_rfl
theorem laidOut : laidOutB Try.prog = true := by kernel_rfl

theorem info5' : (Try.prog.info? 5).map (fun i => (i.zero, i.size, i.bytes)) = some (some (.int .u8 0), 1, 1) := info5
theorem takeR_shift (l r : List Nat) (n m k : Nat) (hl : l.length = n) (hk : k ≤ m) :
    takeR (l ++ r) (n + m) ((n : Int) + (k : Int)) = ((takeR r m k).1, n + (takeR r m k).2.1, (takeR r m k).2.2) := by
  have e : ((n : Int) + (k : Int)).toNat = n + k := by omega
  unfold takeR
  rw [if_neg (by omega), if_neg (by omega), e, Int.toNat_natCast]
  have h : (l ++ r).drop (n + k) = r.drop k := by
    rw [List.drop_append]
    rw [List.drop_eq_nil_of_le (by omega), List.nil_append]
    congr 1; omega
  rw [h]
  simp [Nat.add_assoc]
theorem news_of {w : World} {a : Option Addr} {n : Nat} {l : List Nat} {B : Nat} (h : Reads .u8 w B a n l) :
    0 < n → ∃ ad, a = some ad ∧ ∀ j u, (l.map f8)[j]? = some u → w.cell? (ad.add j) = some u := by
  intro hpos
  obtain ⟨hlen, _, hcells⟩ := h
  obtain ⟨b, off, rfl, hb, hc⟩ := hcells (by omega)
  refine ⟨_, rfl, fun j v hj => ?_⟩
  have hjl : j < l.length := by
    rcases Nat.lt_or_ge j l.length with hlt | hge
    · exact hlt
    · rw [List.getElem?_eq_none (by simpa using hge)] at hj; cases hj
  have h1 := hc j (by omega)
  rw [List.getElem?_map, List.getElem?_eq_getElem hjl] at hj
  have e : (⟨b, off, none⟩ : Addr).add j = ⟨b, off + j, none⟩ := by unfold Addr.add; split <;> simp_all
  rw [e, h1, ← hj]
  simp [f8, hjl]
theorem one8 (l : List Nat) : ∀ u ∈ l.map f8, u.oneCell' = true := by
  intro v hv; obtain ⟨c, _, rfl⟩ := List.mem_map.1 hv; rfl

set_option maxHeartbeats 1600000 in
set_option maxRecDepth 100000 in
theorem walk (a0 : Option Addr) (len0 cap0 : Nat) (z0 : List Int) (a1 : Option Addr) (len1 cap1 : Nat) (z1 : List Int) (a2 : Int) (w : World) (w0 : IsRow .u8 w a0 len0 cap0 z0) (w1 : IsRow .u8 w a1 len1 cap1 z1) (w2 : (Lit.int .u8 a2).wf = true) :
    Calls Try.prog 8 #[.slice a0 len0 cap0, .slice a1 len1 cap1, .int .u8 a2] w fun e w' => e = .returned (.bool true) ∧ Below w.heap.size w w' := by
  obtain ⟨l, hl⟩ := w0.reads u8_nonneg
  obtain ⟨r, hr⟩ := w1.reads u8_nonneg
  clear w0 w1
  obtain ⟨i0, hi, hz0, hz1, hz2⟩ := info_parts info5
  by_cases hbig : 1000 < len0
  · have g1 : decide (1000 < len0) = true := by simp; omega
    go_enter Try.func8, Try.ntmps8
    go_wp2_with fail
    refine (awake_any _).mono ?_; rintro e w2 ⟨rfl, hb⟩
    go_wp2_with fail
    refine (awake_any _).mono ?_; rintro e w3 ⟨rfl, hb3⟩
    go_wp2
    go_ret
    exact ⟨rfl, hb.trans (hb3.mono hb.size)⟩
  · have hd : decide (1000 < len0) = false := by simp; omega
    by_cases hbig1 : 1000 < len1
    · have g1 : decide (1000 < len1) = true := by simp; omega
      go_enter Try.func8, Try.ntmps8
      go_wp2_with fail
      refine (awake_any _).mono ?_; rintro e w2 ⟨rfl, hb⟩
      go_wp2_with fail
      refine (awake_any _).mono ?_; rintro e w3 ⟨rfl, hb3⟩
      go_wp2
      go_ret
      exact ⟨rfl, hb.trans (hb3.mono hb.size)⟩
    · have hd1 : decide (1000 < len1) = false := by simp; omega
      obtain ⟨t, rfl⟩ := Int.eq_ofNat_of_zero_le (u8_nonneg a2 w2)
      have ht := u8_lt w2
      go_enter Try.func8, Try.ntmps8
      go_wp2_with fail
      refine (awake_any _).mono ?_; rintro e w3 ⟨rfl, hb⟩
      have hl3 := (hl.keep hb).mono hb.size
      have hr3 := (hr.keep hb).mono hb.size
      go_wp2_with (with_reducible refine stopAt 30 ?_)
      unfold Hid
      refine wpList_append_list _ rfl _ _ 22 rfl w3.heap.size 5 i0 (.int .u8 0) 1 Try.underlying22 hi hz0 hz1 hz2 rfl _ 0 [] rfl (World.ownsRow_nil _ _ _ _) a0 len0 cap0 (l.map f8) rfl (by simpa using hl3.1) (news_of hl3) (one8 l) (by omega) (by omega) (Nat.le_refl _) ?_
      intro v4 w4 hown4 hb4
      have hr4 := (hr3.keep hb4).mono hb4.size
      go_wp2_with (with_reducible refine stopAt 33 ?_)
      unfold Hid
      refine wpList_append_list _ rfl _ _ 22 rfl w3.heap.size 5 i0 (.int .u8 0) 1 Try.underlying22 hi hz0 hz1 hz2 rfl _ _ _ rfl hown4 a1 len1 cap1 (r.map f8) rfl (by simpa using hr4.1) (news_of hr4) (one8 r) (by omega) (by omega) hb4.size ?_
      intro v5 w5 hown5 hb5
      have hb35 : Below w3.heap.size w3 w5 := hb4.trans hb5
      have hr5 := (hr3.keep hb35).mono hb35.size
      have hbw : Below w.heap.size w w5 := hb.trans (hb35.mono hb.size)
      rw [List.nil_append, ← List.map_append, Nat.zero_add] at hown5
      obtain ⟨A, c, rfl, hboth, _⟩ := own_reads hown5 (by
        intro x hx
        rcases List.mem_append.1 hx with hx | hx
        · exact hl.2.1 x hx
        · exact hr.2.1 x hx)
      have hlen := Lib.hid hl.1
      clear hown4 hown5 hb4 hb5 hb35 hr4 hr3 hl3
      have hfin : ∀ (k : Nat), k ≤ len1 → takeR (l ++ r) (len0 + len1) ((len0 : Int) + (k : Int)) = ((takeR r len1 k).1, len0 + (takeR r len1 k).2.1, (takeR r len1 k).2.2) := fun k hk => takeR_shift l r len0 len1 k hlen.out hk
      have HFIN := Lib.hid hfin
      clear hfin
      by_cases hn1 : 0 < len1
      · have HK : Hid (t % len1 ≤ len1) := by have := Nat.mod_lt t hn1; unfold Hid; omega
        go_wp2_with fail
        refine (take_all a1 len1 cap1 r _ w5 hr5 (by omega)).mono ?_; rintro e w6 ⟨rfl, m, rfl⟩
        simp only [tup]
        have hk2 : 0 ≤ (t : Int) % (len1 : Int) ∧ (t : Int) % (len1 : Int) ≤ 256 := by
          have h1 := Nat.mod_le t len1
          have h2 : (t : Int) % (len1 : Int) = ((t % len1 : Nat) : Int) := by simp
          omega
        have HR : Hid (takeR (l ++ r) (len0 + len1) ((len0 : Int) + (t : Int) % (len1 : Int)) = ((takeR r len1 ((t : Int) % (len1 : Int))).1, len0 + (takeR r len1 ((t : Int) % (len1 : Int))).2.1, (takeR r len1 ((t : Int) % (len1 : Int))).2.2)) := HFIN.out _ HK.out
        have HB := Lib.hid (take_all A (len0 + len1) c (l ++ r) ((len0 : Int) + (t : Int) % (len1 : Int)) (w5.drewN m) (hboth.drewN m) (by omega))
        have hs1 : (takeR r len1 ((t : Int) % (len1 : Int))).2.1 ≤ len1 := takeR_le hr.1
        generalize takeR r len1 ((t : Int) % (len1 : Int)) = R at *
        generalize takeR (l ++ r) (len0 + len1) ((len0 : Int) + (t : Int) % (len1 : Int)) = R2 at *
        go_wp2_with fail
        refine HB.out.mono ?_; rintro e w4 ⟨rfl, m2, rfl⟩
        simp only [tup]
        rw [HR.out]
        go_wp2
        go_ret
        exact ⟨by simp; omega, below_drewN hbw _⟩
      · go_wp2_with fail
        refine (take_all a1 len1 cap1 r _ w5 hr5 (by omega)).mono ?_; rintro e w6 ⟨rfl, m, rfl⟩
        simp only [tup]
        have HR : Hid (takeR (l ++ r) (len0 + len1) (len0 : Int) = ((takeR r len1 0).1, len0 + (takeR r len1 0).2.1, (takeR r len1 0).2.2)) := by
          have := HFIN.out 0 (by omega)
          unfold Hid; simpa using this
        have HB := Lib.hid (take_all A (len0 + len1) c (l ++ r) (len0 : Int) (w5.drewN m) (hboth.drewN m) (by omega))
        have hs1 : (takeR r len1 0).2.1 ≤ len1 := takeR_le hr.1
        generalize takeR r len1 0 = R at *
        generalize takeR (l ++ r) (len0 + len1) (len0 : Int) = R2 at *
        go_wp2_with fail
        refine HB.out.mono ?_; rintro e w4 ⟨rfl, m2, rfl⟩
        simp only [tup]
        rw [HR.out]
        go_wp2
        go_ret
        exact ⟨by simp; omega, below_drewN hbw _⟩

/-! ### THE ROW's STEP: WRITTEN OUT: LEAVE IT -/
set_option maxRecDepth 100000 in
theorem lifted (os : Os) (started : os.Started) (H : Type) (enc : TypeId × Value → H) :
    ReturnsInHanded {} Try.checked os 8 .any (Rows.varintApartSpec.pre6 enc Try.prog Try.f8 Rows.varintApartRow.domain false) (Rows.varintApartSpec.post enc Try.prog Try.f8 false true false false) := by
  refine returnsInHanded_of_change (C := Try.checked) own started (by kernel_rfl) Try.func8
    (ChangeSpec.witness6 (enc := enc) (C := Try.checked) false ⟨#[], #[.slice none 0 0, .slice none 0 0, .int .u8 0], []⟩ 8 (by kernel_rfl) (by kernel_rfl) (by kernel_rfl) (by kernel_rfl)) ?_
  intro W base args ds gs before hval0 hW hcnd _
  have hval : ∀ (j : Nat) t v, Try.f8.params[j]? = some t → args[j]? = some v → Value.okWide Try.prog W .any base t v := hval0
  have hW' := hW
  obtain ⟨p, q, hA0, hV, rfl, hfz, hnd⟩ := hW
  have hA : DataW.TrodAll enc Try.prog W 0 (fun _ => true) true Try.f8.params.toList args.toList ds p := hA0
  rw [Try.params8] at hA hval
  obtain ⟨v0, vs0, d0, ds0, p0, q0, hargs, rfl, rfl, h0, r0⟩ := trodAll_cons hA
  obtain ⟨v1, vs1, d1, ds1, p1, q1, rfl, rfl, rfl, h1, r1⟩ := trodAll_cons r0
  obtain ⟨v2, vs2, d2, ds2, p2, q2, rfl, rfl, rfl, h2, r2⟩ := trodAll_cons r1
  obtain ⟨rfl, rfl, rfl⟩ := trodAll_nil r2
  obtain rfl : args = #[v0, v1, v2] := by cases args; simp_all
  obtain ⟨rfl, rfl⟩ := trodVars_none hV
  obtain ⟨a0, len0, cap0, rfl⟩ := okWide_slice Try.underlying22 (hval 0 22 v0 rfl rfl)
  have k0 := h0
  have lt0 : ∀ x ∈ p0, x.block < W.heap.size := by obtain ⟨m, hm⟩ := k0; exact DataW.trod_lt m _ _ _ hm
  obtain ⟨z0, w0⟩ : ∃ zs, IsRow .u8 W a0 len0 cap0 zs := by
    obtain ⟨fuel, hf⟩ := h0
    rcases open_ints Try.underlying22 Try.underlying5 (by kernel_rfl) hf with ⟨hcs, _⟩ | ⟨x, l, c, zs, hcs, _, hl, hm, hz, _, hcell, hwz⟩
    · simp [Value.cells] at hcs
      obtain ⟨rfl, rfl, rfl⟩ := hcs
      exact ⟨[], .inl ⟨rfl, rfl, rfl, rfl⟩⟩
    · simp [Value.cells] at hcs
      obtain ⟨rfl, rfl, rfl⟩ := hcs
      exact ⟨zs, .inr ⟨_, rfl, hl, hm, by simpa using hz, hcell, hwz⟩⟩
  obtain ⟨a1, len1, cap1, rfl⟩ := okWide_slice Try.underlying22 (hval 1 22 v1 rfl rfl)
  have k1 := h1
  have lt1 : ∀ x ∈ p1, x.block < W.heap.size := by obtain ⟨m, hm⟩ := k1; exact DataW.trod_lt m _ _ _ hm
  obtain ⟨z1, w1⟩ : ∃ zs, IsRow .u8 W a1 len1 cap1 zs := by
    obtain ⟨fuel, hf⟩ := h1
    rcases open_ints Try.underlying22 Try.underlying5 (by kernel_rfl) hf with ⟨hcs, _⟩ | ⟨x, l, c, zs, hcs, _, hl, hm, hz, _, hcell, hwz⟩
    · simp [Value.cells] at hcs
      obtain ⟨rfl, rfl, rfl⟩ := hcs
      exact ⟨[], .inl ⟨rfl, rfl, rfl, rfl⟩⟩
    · simp [Value.cells] at hcs
      obtain ⟨rfl, rfl, rfl⟩ := hcs
      exact ⟨zs, .inr ⟨_, rfl, hl, hm, by simpa using hz, hcell, hwz⟩⟩
  obtain ⟨a2, rfl, rfl, rfl, w2⟩ := open_int Try.underlying5 (hval 2 5 v2 rfl rfl) h2
  clear hA0 hval0
  refine (walk a0 len0 cap0 z0 a1 len1 cap1 z1 a2 W w0 w1 w2).mono fun e W' ⟨he, bel⟩ => ?_
  subst he
  exact ⟨_, rfl, _, _, _, [], _, [], hW', trodAll_mk1 (shut_bool Try.underlying4 _), (trodAll_cons_mk (Below.trod laidOut (by kernel_rfl) (of_decide_eq_true (by kernel_rfl)) k0 bel lt0) (trodAll_cons_mk (Below.trod laidOut (by kernel_rfl) (of_decide_eq_true (by kernel_rfl)) k1 bel lt1) (trodAll_cons_mk (shut_int Try.underlying5 w2) trodAll_mk0))), rfl, bel.frame _, fun h => by cases h⟩

theorem over : Rows.varintApartRow.holds Try.pinned (OpenSpec.ofChange Rows.varintApartSpec) :=
  OpenClaim.holds_of_wide 8 Try.f8 rfl rfl rfl rfl rfl rfl rfl ⟨rfl, rfl, rfl, rfl, rfl⟩ rfl rfl rfl rfl rfl (by kernel_rfl) Try.func8 (by kernel_rfl)
    (of_decide_eq_true (by kernel_rfl)) (by unfold Func.isWrapper; first | (rw [if_pos (by decide +kernel)]; kernel_rfl) | (rw [if_neg (by decide +kernel)]; exact ⟨rfl, rfl⟩))
    (fun os started H enc _ => lifted os started H enc)

/-- ████ THE STATEMENT ████ -/
theorem proved : Rows.VarintApartSaid := over
end Go.Proofs.Ytjmiooaijcnobaa.varintApart
