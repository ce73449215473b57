/- The space and the reference's, side by side. -/
import Derived.Test.YtjpomohfoknjiaaSpRefE
namespace Go.Proofs.Ytjpomohfoknjiaa
open Go.ChangeShapes Go.WideShapes Go.ChangeAt Go.RowKit

/-- what is taken there is just what isn't free here -/
structure Rel (s : Sp) (lo : Nat) (T : List Bool) : Prop where
  first : s.first = lo
  blocks : s.blocks = T.length
  bits : ∀ k, k < T.length → (T.getD k false = true ↔ ¬ hasB s.fr (lo + k))
section
variable {s s' : Sp} {lo : Nat} {T : List Bool}
theorem Rel.free (h : Rel s lo T) {k : Nat} (hk : k < T.length) : T.getD k false = false ↔ hasB s.fr (lo + k) := by
  have h1 := h.bits k hk
  cases hq : T.getD k false with
  | true => rw [hq] at h1; simp [h1.1 rfl]
  | false =>
    rw [hq] at h1
    exact ⟨fun _ => Classical.byContradiction (fun hn => nomatch (h1.2 hn)), fun _ => rfl⟩
theorem Rel.has (h : Rel s lo T) (hok : s.ok) {b : Nat} (hb : hasB s.fr b) : lo ≤ b ∧ b < lo + T.length := by
  have := hok.2.2.has hb; rw [h.first, h.blocks] at this; exact this
theorem Rel.room (h : Rel s lo T) (hok : s.ok) {k n : Nat} (hn : 1 ≤ n) : roomB s (lo + k) n ↔ AllP T k n false := by
  constructor
  · intro hr
    have h1 := h.has hok (hr (lo + k + n - 1) (by omega) (by omega))
    exact ⟨by omega, by omega, by omega, fun i h2 h3 => (h.free (by omega)).2 (hr (lo + i) (by omega) (by omega))⟩
  · rintro ⟨h1, h2, h3, h4⟩ b hb1 hb2
    have h5 := (h.free (show b - lo < T.length by omega)).1 (h4 (b - lo) (by omega) (by omega))
    rwa [show lo + (b - lo) = b by omega] at h5
theorem Rel.took (h : Rel s lo T) {k n : Nat} (ht : Took s s' (lo + k) n) (hk : k + n ≤ T.length) : Rel s' lo (fillV T true k n) := by
  refine ⟨ht.first.trans h.first, by rw [ht.blocks, fillV_length]; exact h.blocks, fun i hi => ?_⟩
  rw [fillV_length] at hi
  rw [fillV_get T true k n hk, ht.has]
  by_cases hin : k ≤ i ∧ i < k + n
  · rw [if_pos hin]; simp; intro _; omega
  · rw [if_neg hin, h.bits i hi]
    constructor
    · intro h1 h2; exact h1 h2.1
    · intro h1 h2; exact h1 ⟨h2, by omega⟩
theorem Rel.gave (h : Rel s lo T) {k n : Nat} (ht : Gave s s' (lo + k) n) (hk : k + n ≤ T.length) : Rel s' lo (fillV T false k n) := by
  refine ⟨ht.first.trans h.first, by rw [ht.blocks, fillV_length]; exact h.blocks, fun i hi => ?_⟩
  rw [fillV_length] at hi
  rw [fillV_get T false k n hk, ht.has]
  by_cases hin : k ≤ i ∧ i < k + n
  · rw [if_pos hin]; simp; intro _; omega
  · rw [if_neg hin, h.bits i hi]
    constructor
    · rintro h1 (h2 | h2)
      · exact h1 h2
      · omega
    · intro h1 h2; exact h1 (.inl h2)
theorem Rel.runs (h : Rel s lo T) (hok : s.ok) {O : List Ex} (ho : Runs lo T.length T O) : O = s.fr := by
  have hc := hok.2.2
  rw [h.first, h.blocks] at hc
  refine Canon.only ho.canon hc fun b => ?_
  rw [ho.has b]
  constructor
  · rintro ⟨h1, h2, h3⟩
    have h4 := (h.free (show b - lo < T.length by omega)).1 h3
    rwa [show lo + (b - lo) = b by omega] at h4
  · intro hb
    have h1 := h.has hok hb
    exact ⟨h1.1, h1.2, (h.free (show b - lo < T.length by omega)).2 (by rwa [show lo + (b - lo) = b by omega])⟩
theorem runs_all (lo : Nat) (T : List Bool) : ∀ k, ∃ O, Runs lo k T O ∧ sumB O = cntF T k
  | 0 => ⟨[], ⟨trivial, fun b => ⟨fun h => absurd h (hasB_nil b), fun h => by omega⟩⟩, rfl⟩
  | k + 1 => by
    obtain ⟨O, h1, h2⟩ := runs_all lo T k
    cases ht : T.getD k false with
    | true => exact ⟨O, h1.skip ht, by rw [cntF, ht, h2]; rfl⟩
    | false =>
      by_cases hx : 0 < O.length ∧ (xAt O (O.length - 1)).1 + (xAt O (O.length - 1)).2 = lo + k
      · refine ⟨_, h1.grow ht hx.1 hx.2, ?_⟩
        have h3 := last_split hx.1
        have h4 : O.set (O.length - 1) ((xAt O (O.length - 1)).1, (xAt O (O.length - 1)).2 + 1) = O.take (O.length - 1) ++ [((xAt O (O.length - 1)).1, (xAt O (O.length - 1)).2 + 1)] := by
          rw [List.set_eq_take_append_cons_drop, if_pos (by omega), List.drop_eq_nil_of_le (by omega)]
        have h5 := congrArg sumB h3
        rw [sumB_append, sumB_cons, sumB_nil] at h5
        rw [h4, sumB_append, sumB_cons, sumB_nil, cntF, ht]
        simp only [if_true]; omega
      · refine ⟨_, h1.push ht fun hl he => hx ⟨hl, he⟩, ?_⟩
        rw [sumB_append, sumB_cons, sumB_nil, cntF, ht]
        simp only [if_true]; omega
theorem Rel.sum (h : Rel s lo T) (hok : s.ok) : sumB s.fr = cntF T T.length := by
  obtain ⟨O, h1, h2⟩ := runs_all lo T T.length
  rw [← h2, h.runs hok h1]
end
section
variable {w : World} {q g lo : Nat} {T : List Bool} {s : Sp}
theorem rtake_rel (h : RSp w q g lo T) (hr : Rel s lo T) (hok : s.ok) {n : Int} (hn : I64 n) : Calls Try.prog 11 #[.pointer (some ⟨q, 0, none⟩), .int .i64 n] w fun e w' => ∃ T', e = .returned (.tuple #[.int .i64 ((takeS s n).2.1 : Nat), .int .i64 ((takeS s n).2.2 : Nat)]) ∧ RSp w' q g lo T' ∧ Far (fun b => b = g) w w' ∧ Rel (takeS s n).1 lo T' := by
  refine (rtake_any w q g lo T n h hn).mono fun e w' hx => ?_
  rcases hx with ⟨k, m, rfl, hkm, hp, hlow, rfl, h1, h2⟩ | ⟨hno, rfl, rfl⟩
  · have hm : 1 ≤ m := by have := hp.1; omega
    rcases takeS_spec hok hm with ⟨s', a, e, ht, hl⟩ | ⟨e, hn2⟩
    · have hak : a ≤ lo + k := hl _ ((hr.room hok hm).2 hp)
      have hal := hr.has hok (ht.room a (Nat.le_refl _) (by omega))
      have hka : lo + k ≤ a := by
        rcases Nat.lt_or_ge a (lo + k) with h3 | h3
        · have h4 := (hr.room hok (k := a - lo) hm).1 (by rw [show lo + (a - lo) = a by omega]; exact ht.room)
          exact absurd h4 (hlow (a - lo) (by omega))
        · exact h3
      obtain rfl : a = lo + k := by omega
      rw [e]
      exact ⟨_, rfl, h1, h2, hr.took ht hkm⟩
    · exact absurd ((hr.room hok hm).2 hp) (hn2 _)
  · by_cases h1 : n < 1
    · rw [if_pos h1, takeS_bad s h1]
      exact ⟨T, rfl, h, Far.refl _ _, hr⟩
    · rw [if_neg h1]
      obtain ⟨m, rfl⟩ : ∃ m : Nat, n = (m : Int) := ⟨n.toNat, by omega⟩
      rcases takeS_spec hok (n := m) (by omega) with ⟨s', a, e, ht, hl⟩ | ⟨e, hn2⟩
      · have hal := hr.has hok (ht.room a (Nat.le_refl _) (by omega))
        exact absurd ((hr.room hok (k := a - lo) (by omega)).1 (by rw [show lo + (a - lo) = a by omega]; exact ht.room)) (hno _)
      · rw [e]
        exact ⟨T, rfl, h, Far.refl _ _, hr⟩
theorem rhold_rel (h : RSp w q g lo T) (hr : Rel s lo T) (hok : s.ok) {f n : Int} (hf : I64 f) (hn : I64 n) : Calls Try.prog 15 #[.pointer (some ⟨q, 0, none⟩), .int .i64 f, .int .i64 n] w fun e w' => ∃ T', e = .returned (.int .i64 ((holdS s f n).2 : Nat)) ∧ RSp w' q g lo T' ∧ Far (fun b => b = g) w w' ∧ Rel (holdS s f n).1 lo T' := by
  refine (rhold_any w q g lo T f n h hf hn).mono fun e w' hx => ?_
  have hl := h.len
  rcases hx with ⟨k, m, hz, rfl, hp, rfl, h1, h2⟩ | ⟨hno, rfl, rfl⟩
  · have hm : 1 ≤ m := by have := hp.1; omega
    have hkm : k + m ≤ T.length := by have := hp.2.2.1; omega
    have hfk : f = ((lo + k : Nat) : Int) := by unfold placeZ at hz; split at hz <;> omega
    rcases holdS_spec hok f (m : Int) with ⟨s', a, m', ha, hm', _, e, ht⟩ | ⟨e, hn2⟩
    · obtain rfl : a = lo + k := by omega
      obtain rfl : m = m' := by omega
      rw [e]
      exact ⟨_, rfl, h1, h2, hr.took ht hkm⟩
    · exact absurd ((hr.room hok hm).2 hp) (hn2 _ _ hfk rfl hm)
  · rcases holdS_spec hok f n with ⟨s', a, m, rfl, rfl, hm, e, ht⟩ | ⟨e, _⟩
    · have hal := hr.has hok (ht.room a (Nat.le_refl _) (by omega))
      have hlo := h.lo
      have hz : placeZ lo (a : Int) = ((a - lo : Nat) : Int) := by unfold placeZ; rw [if_neg (by omega)]; omega
      rw [hz] at hno
      exact absurd ((hr.room hok (k := a - lo) hm).1 (by rw [show lo + (a - lo) = a by omega]; exact ht.room)) hno
    · rw [e]
      exact ⟨T, rfl, h, Far.refl _ _, hr⟩
theorem rgive_rel (h : RSp w q g lo T) (hr : Rel s lo T) (hok : s.ok) {f n : Int} (hf : I64 f) (hn : I64 n) : Calls Try.prog 13 #[.pointer (some ⟨q, 0, none⟩), .int .i64 f, .int .i64 n] w fun e w' => ∃ T', e = .returned (.int .i64 ((giveS s f n).2 : Nat)) ∧ RSp w' q g lo T' ∧ Far (fun b => b = g) w w' ∧ Rel (giveS s f n).1 lo T' := by
  refine (rgive_any w q g lo T f n h hf hn).mono fun e w' hx => ?_
  have hl := h.len
  have hlo := h.lo
  rcases hx with ⟨k, m, hz, rfl, hp, rfl, h1, h2⟩ | ⟨hno, rfl, rfl⟩
  · have hm : 1 ≤ m := by have := hp.1; omega
    have hkm : k + m ≤ T.length := by have := hp.2.2.1; omega
    have hfk : f = ((lo + k : Nat) : Int) := by unfold placeZ at hz; split at hz <;> omega
    rcases giveS_spec hok f (m : Int) with ⟨s', a, m', ha, hm', _, e, ht⟩ | ⟨e, hn2⟩
    · obtain rfl : a = lo + k := by omega
      obtain rfl : m = m' := by omega
      rw [e]
      exact ⟨_, rfl, h1, h2, hr.gave ht hkm⟩
    · refine absurd ⟨by rw [hr.first]; omega, by rw [hr.first, hr.blocks]; omega, fun b hb1 hb2 => ?_⟩ (hn2 _ _ hfk rfl hm)
      have h3 := hp.2.2.2 (b - lo) (by omega) (by omega)
      have h4 := (hr.bits (b - lo) (by omega)).1 h3
      rwa [show lo + (b - lo) = b by omega] at h4
  · rcases giveS_spec hok f n with ⟨s', a, m, rfl, rfl, hm, e, ht⟩ | ⟨e, _⟩
    · have h3 := ht.lo
      have h4 := ht.hi
      rw [hr.first] at h3
      rw [hr.first, hr.blocks] at h4
      have hz : placeZ lo (a : Int) = ((a - lo : Nat) : Int) := by unfold placeZ; rw [if_neg (by omega)]; omega
      rw [hz] at hno
      exact absurd ⟨by omega, by omega, by omega, fun i h5 h6 => (hr.bits i (by omega)).2 (ht.none (lo + i) (by omega) (by omega))⟩ hno
    · rw [e]
      exact ⟨T, rfl, h, Far.refl _ _, hr⟩
end

theorem neq_rext (w : World) (u v c d : Int) : (binOp .neq 64 (.agg #[.int .i64 u, .int .i64 v]) (.agg #[.int .i64 c, .int .i64 d])).run Try.prog w = .ok (.bool (!(u == c && v == d))) w := by
  have u3 := Try.underlying3
  have hS : Try.prog.underlying 64 = some (.struct (Try.prog.fieldsOf 64)) := by kernel_rfl
  have hp : Try.prog.stoodInHeld 64 = false := by kernel_rfl
  rw [run_neq_struct, show (10000 : Nat) = 9999 + 1 from rfl, run_equalIn_agg w 9999 64 _ _ hS hp]
  simp only [Program.fieldsOf, Try.underlying64]
  go_simp
  by_cases h : u = c <;> by_cases h2 : v = d <;> simp [h, h2]
theorem guard_rext (w : World) (x y : Operand) (u v c d : Int) : (eqGuard .neq 64 x y (.agg #[.int .i64 u, .int .i64 v]) (.agg #[.int .i64 c, .int .i64 d])).run Try.prog w = .ok () w :=
  run_eqGuard_agg w .neq 64 x y _ _ (by kernel_rfl)

set_option maxHeartbeats 2000000 in
set_option maxRecDepth 100000 in
/-- two lists of the same extents -/
theorem same_any (w : World) {A B : Option Addr} {c d n bb : Nat} {L : List Ex} (hl : L.length = n) (ha : w.ownsRow 0 36 2 (.slice A n c) n (flatX L)) (hb : w.ownsRow bb 64 2 (.slice B n d) n (flatX L)) (hn : n ≤ 2000000) :
    Calls Try.prog 18 #[.slice A n c, .slice B n d] w fun e w' => e = .returned (.bool true) ∧ Below w.heap.size w w' := by
  have HA := Lib.hid ha
  have HB := Lib.hid hb
  have HL := Lib.hid hl
  clear ha hb hl
  go_enter Try.func18, Try.ntmps18
  go_wp2
  go_loopw [5] (fun iv wl => ∃ j : Nat, j ≤ n ∧ iv = .int .i64 (j : Int) ∧ Hid (Below w.heap.size w wl)) (fun iv _ => n - (intOf iv).toNat)
  case atStart => exact ⟨0, Nat.zero_le _, rfl, Below.refl _ _⟩
  case round =>
    obtain ⟨j, hj, rfl, HBW⟩ := hrel
    by_cases hlt : j < n
    · have gj : decide (j < n) = true := by simp; omega
      obtain ⟨g, rfl, hg, e0, e1⟩ := own2_at (own2_below HA.out HBW.out) hlt
      obtain ⟨g', rfl, _, hg', f0, f1, _⟩ := rown_at (HB.out.kept (row := none) ⟨HBW.out.os, HBW.out.tape, HBW.out.output, HBW.out.size, fun k hk _ => HBW.out.block k hk⟩ (by cases B <;> simp [Value.ownBlock])) HL.out hlt
      generalize (xAt L j).1 = a at *
      generalize (xAt L j).2 = b at *
      have hq := fun W => neq_rext W a b a b
      have hgd := fun W x y => guard_rext W x y a b a b
      have j0 : (0 : Int) ≤ (j : Int) := by omega
      have j1 : (j : Int) < (n : Int) := by omega
      go_wp2
      go_quiet (fail)
      have HB2 := Lib.hid (below_drewN HBW.out nq)
      go_wp2
      go_roundw
      case rel => exact ⟨j + 1, by omega, by go_num, HB2.out⟩
      case measure => simp [intOf]; omega
    · obtain rfl : j = n := by omega
      have gj : decide (j < j) = false := by simp
      go_wp2
      go_ret
      exact ⟨rfl, HBW.out⟩
end Go.Proofs.Ytjpomohfoknjiaa
