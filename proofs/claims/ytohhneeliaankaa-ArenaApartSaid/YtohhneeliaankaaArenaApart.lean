/-
  ArenaApart: for whatever sizes, whatever is released; no condition.
-/
import Derived.Test.YtohhneeliaankaaRows
import Derived.Test.YtohhneeliaankaaArRef
import Derived.WalkKit
import Derived.ProofKit
import Derived.OpenShut
import Derived.ShutString
import Derived.ChangeOld
import Derived.Below
namespace Go.Proofs.Ytohhneeliaankaa.arenaApart
open Go.ChangeShapes Go.WideShapes Go.ChangeAt Go.RowKit
open Go.ChangeMaps (open_string shut_string)
set_option linter.unusedVariables false

theorem own : ownKnob Try.prog.godebug = none := by kernel_rfl
theorem laidOut : laidOutB Try.prog = true := by kernel_rfl

theorem apart_ne {l : List (Nat × Nat × Bool)} (ha : Apart l) {i j : Nat} {p q : Nat × Nat × Bool} (hp : l[i]? = some p) (hq : l[j]? = some q) (hne : i ≠ j) : p.1 ≠ q.1 := by
  obtain ⟨hi, rfl⟩ := List.getElem?_eq_some_iff.1 hp
  obtain ⟨hj, rfl⟩ := List.getElem?_eq_some_iff.1 hq
  have h := List.pairwise_iff_getElem.1 ha
  rcases Nat.lt_or_gt_of_ne hne with h1 | h1
  · exact h i j hi hj h1
  · exact fun e => h j i hj hi h1 e.symm
/-- each grant that stands is filled with its number -/
def Filled (w : World) (gs : List (Nat × Nat × Bool)) : Prop :=
  ∀ (k b n : Nat), gs[k]? = some (b, n, true) → ∃ g, Row w b 42 [.slice (some ⟨g, 0, none⟩) n n] ∧ Row w g 50 (List.replicate n (.int .u64 ((k + 1 : Nat) : Int)))
theorem Filled.keep {w w' : World} {gs : List (Nat × Nat × Bool)} (h : Filled w gs) (hf : ∀ k t cs, t = 42 ∨ t = 50 → Row w k t cs → Row w' k t cs) : Filled w' gs := fun k b n hk => by
  obtain ⟨g, h1, h2⟩ := h k b n hk
  exact ⟨g, hf _ _ _ (.inl rfl) h1, hf _ _ _ (.inr rfl) h2⟩
theorem Filled.snoc {w : World} {gs : List (Nat × Nat × Bool)} (h : Filled w gs) {b n g : Nat} (h1 : Row w b 42 [.slice (some ⟨g, 0, none⟩) n n]) (h2 : Row w g 50 (List.replicate n (.int .u64 ((gs.length + 1 : Nat) : Int)))) : Filled w (gs ++ [(b, n, true)]) := fun k b' n' hk => by
  rcases Nat.lt_or_ge k gs.length with hlt | hge
  · rw [List.getElem?_append_left hlt] at hk; exact h k b' n' hk
  · rw [List.getElem?_append_right hge] at hk
    obtain ⟨hlt, e⟩ := List.getElem?_eq_some_iff.1 hk
    have h0 : k - gs.length = 0 := by simpa using hlt
    have hkl : k = gs.length := by omega
    subst hkl
    simp at e
    obtain ⟨rfl, rfl⟩ := e
    exact ⟨g, h1, h2⟩
theorem Filled.released {w w' : World} {gs : List (Nat × Nat × Bool)} (h : Filled w gs) (ha : Apart gs) {j b n : Nat} {t : Bool} (hj : gs[j]? = some (b, n, t)) (hf : ∀ k u cs, u = 42 ∨ u = 50 → k ≠ b ∨ u = 50 → Row w k u cs → Row w' k u cs) : Filled w' (gs.set j (b, n, false)) := fun k b' n' hk => by
  rw [List.getElem?_set] at hk
  by_cases e : j = k
  · subst e
    have := (List.getElem?_eq_some_iff.1 hj).1
    rw [if_pos rfl, if_pos this] at hk
    injection hk with hk; injection hk with _ hk; injection hk with _ hk; cases hk
  · rw [if_neg e] at hk
    obtain ⟨g, h1, h2⟩ := h k b' n' hk
    exact ⟨g, hf _ _ _ (.inl rfl) (.inl fun e' => apart_ne ha hk hj (fun e2 => e e2.symm) e') h1, hf _ _ _ (.inr rfl) (.inr rfl) h2⟩
/-- a row of words, as it is filled -/
theorem fill_step (x : Int) {n i : Nat} (h : i < n) : (List.replicate i (Value.int .u64 x) ++ List.replicate (n - i) (Value.int .u64 0)).set i (.int .u64 x) = List.replicate (i + 1) (Value.int .u64 x) ++ List.replicate (n - (i + 1)) (Value.int .u64 0) := by
  apply List.ext_getElem?
  intro j
  simp only [List.getElem?_set, List.getElem?_append, List.getElem?_replicate, List.length_append, List.length_replicate]
  by_cases h1 : i = j
  · subst h1; simp; omega
  · rw [if_neg h1]
    by_cases h2 : j < i
    · simp [h2, show j < i + 1 by omega]
    · simp only [h2, if_false, show ¬ (j < i + 1) by omega]
      by_cases h3 : j - i < n - i
      · rw [if_pos h3, if_pos (by omega)]
      · rw [if_neg h3, if_neg (by omega)]
theorem far_kept {w w' : World} {g : Nat} {t : TypeId} {cs : List Value} (hf : Far (fun k => k = g) w w') (hr : Row w g t cs) : Kept (rowsOf fun u => u = t) w w' :=
  ⟨hf.os, hf.tape, hf.output, hf.size, fun k o hk ho => (hf.block k (lt_of_some hk) fun e => by
    subst e; unfold Row at hr; rw [hr] at hk; injection hk with hk; subst hk; exact ho ⟨_, _, rfl, rfl⟩).trans hk⟩

set_option maxHeartbeats 4000000 in
set_option maxRecDepth 100000 in
theorem walk (a0 : Option Addr) (len0 cap0 : Nat) (z0 : List Int) (a1 : Option Addr) (len1 cap1 : Nat) (z1 : List Int) (w : World) (w0 : IsRow .u8 w a0 len0 cap0 z0) (w1 : IsRow .u8 w a1 len1 cap1 z1) :
    Calls Try.prog 4 #[.slice a0 len0 cap0, .slice a1 len1 cap1] w fun e w' => e = .returned (.bool true) ∧ Below w.heap.size w w' := by
  have hc0 := w0.cap
  have hc1 := w1.cap
  obtain ⟨l0, hl0⟩ := w0.reads u8_nonneg
  obtain ⟨l1, hl1⟩ := w1.reads u8_nonneg
  have HL0 := Lib.hid hl0
  have HL1 := Lib.hid hl1
  clear w0 w1 hl0 hl1
  go_enter Try.func4, Try.ntmps4
  go_wp2_with fail
  refine (awake_any _).mono ?_; rintro e w1 ⟨rfl, hb1⟩
  have HB1 := Lib.hid hb1
  have hs1 := hb1.size
  clear hb1
  by_cases hbig : len0 > 20 ∨ len1 > 20
  · have HEND : ∀ w2, Below w1.heap.size w1 w2 → Below w.heap.size w w2 := fun w2 h => HB1.out.trans (h.mono hs1)
    by_cases h60 : len0 > 20
    · have g1 : decide (20 < len0) = true := by simpa using h60
      go_wp2_with fail
      refine (awake_any _).mono ?_; rintro e w2 ⟨rfl, hb2⟩
      have HB2 := Lib.hid (HEND _ hb2)
      clear hb2 HEND
      go_wp2
      go_ret
      exact ⟨rfl, HB2.out⟩
    · have g1 : decide (20 < len0) = false := by simpa using h60
      have g2 : decide (20 < len1) = true := by simp; omega
      go_wp2_with fail
      refine (awake_any _).mono ?_; rintro e w2 ⟨rfl, hb2⟩
      have HB2 := Lib.hid (HEND _ hb2)
      clear hb2 HEND
      go_wp2
      go_ret
      exact ⟨rfl, HB2.out⟩
  have h20 : len0 ≤ 20 := by omega
  have h21 : len1 ≤ 20 := by omega
  have g1 : decide (20 < len0) = false := by simp; omega
  have g2 : decide (20 < len1) = false := by simp; omega
  go_wp2_with fail
  refine (arnew_any 10000 _ (by omega) (by omega)).mono ?_; rintro e w2 ⟨rfl, ha2, hb2⟩
  have HRUN : Hid (Run w.heap.size w w2 (fun k => k = w1.heap.size) w1.heap.size (empty 10000) (.slice none 0 0) [] []) := Run.start ha2 rfl (fun k hk => by omega) (HB1.out.trans (hb2.mono hs1))
  obtain ⟨p, hp⟩ : ∃ p, w1.heap.size = p := ⟨_, rfl⟩
  rw [hp] at HRUN
  unfold ptr
  rw [hp]
  clear ha2 hb2 hp hbig g1 g2
  go_wp2
  go_loopw [6, 7] (fun av iv wr => ∃ (i : Nat) (G : Nat → Prop) (s : Ar) (gs : List (Nat × Nat × Bool)), i ≤ len0 ∧ iv = .int .i64 (i : Int) ∧ Hid (Run w.heap.size w wr G p s av gs gs) ∧ Hid (Filled wr gs) ∧ gs.length = i ∧ Hid (s.room = 10000) ∧ Hid (s.used ≤ 99 * i) ∧ Hid (∀ q ∈ gs, q.2.1 ≤ 99)) (fun _ iv _ => len0 - (intOf iv).toNat)
  case atStart => exact ⟨0, _, empty 10000, [], by omega, rfl, HRUN.out, fun k b n hk => by simp at hk, rfl, rfl, Nat.zero_le _, fun q hq => by cases hq⟩
  case round =>
    obtain ⟨i, G, s, gs, hi, rfl, RUN, FIL, hgl, HRO, HUS, HLN⟩ := hrel
    obtain ⟨A, c, rfl, hgc⟩ := RUN.out.own.form
    have hsz := RUN.out.bel.size
    rw [hgl]
    have HGL := Lib.hid hgl
    by_cases hlt : i < len0
    · have g0 : decide (i < len0) = true := by simpa using hlt
      obtain ⟨b, off, x, rfl, hbb, d0, hx, _⟩ := (HL0.out.keep RUN.out.bel).at_ hlt
      have hx256 := u8_lt hx
      obtain ⟨n, hn⟩ : ∃ n, x % 100 = n := ⟨_, rfl⟩
      have hn99 : n ≤ 99 := by omega
      have hm1 : (x : Int) % 100 = (n : Int) := by omega
      have hm2 : (x : Int).tmod 100 = (n : Int) := by rw [Int.tmod_eq_emod_of_nonneg (by omega)]; exact hm1
      have hj0 : (0 : Int) ≤ (i : Int) := by omega
      have hj1 : (i : Int) < (len0 : Int) := by omega
      have hgr := run_grant RUN.out hsz n (by have := HRO.out; have := HUS.out; omega) (by omega)
      clear hn hgl hgc
      go_wp2_with fail
      refine hgr.mono ?_; rintro e w4 ⟨b4, g4, G4, rfl, R4, hr4, hg4, hbg4, hgg4, hs4, hk4⟩
      have FIL4 := Lib.hid (FIL.out.keep (w' := w4) fun k t cs ht hr => hk4 k t cs (by rcases ht with rfl | rfl <;> decide) hr)
      have OLD : Hid (∀ k t cs, Row wr k t cs → k ≠ g4) := fun k t cs hr e => by have := hr.lt; omega
      have FIL0 := FIL
      have d4 : w4.cell? ⟨b, off + i, none⟩ = some (.int .u8 (x : Int)) := (R4.bel.cell (p := ⟨b, off + i, none⟩) hbb).trans ((RUN.out.bel.cell (p := ⟨b, off + i, none⟩) hbb).symm.trans d0)
      have hcl := clear_any b4 g4 n w4 hr4 hg4 (by omega)
      have HR4 := Lib.hid R4
      have HB4 := Lib.hid hr4
      have HG4 := Lib.hid hg4
      have hgB : w.heap.size ≤ g4 := by omega
      have HK4 := Lib.hid hk4
      have hne4 : b4 ≠ g4 := fun e => by subst e; exact absurd (hr4.typed hg4) (by decide)
      clear hgr R4 hr4 hg4 d0 hk4 FIL4
      go_wp2_with fail
      refine hcl.mono ?_; rintro e w4' ⟨rfl, rfl⟩
      obtain ⟨i1, hi1⟩ : ∃ y, i + 1 = y := ⟨_, rfl⟩
      have HI1 := Lib.hid hi1
      have hv : (i : Int) + 1 = (i1 : Int) := by omega
      have hv0 : (0 : Int) ≤ (i1 : Int) := by omega
      have hv1 : (i1 : Int) ≤ 18446744073709551615 := by omega
      clear hcl hm1 hm2 hi1 d4
      generalize wr = wo at *
      go_wp2
      go_loopw [10] (fun kv ww => ∃ k : Nat, k ≤ n ∧ kv = .int .i64 (k : Int) ∧ Hid (Row ww g4 50 (List.replicate k (.int .u64 (i1 : Int)) ++ List.replicate (n - k) (.int .u64 0))) ∧ Hid (Far (fun x => x = g4) w4' ww)) (fun kv _ => n - (intOf kv).toNat)
      case atStart => exact ⟨0, by omega, rfl, by unfold Hid; simpa using HG4.out, Far.refl _ _⟩
      case round =>
        obtain ⟨k, hk, rfl, HR, HF⟩ := hrel
        have dW : wr.cell? ⟨b4, 0, none⟩ = some (.slice (some ⟨g4, 0, none⟩) n n) := (HF.out.row HB4.out hne4).cell 0
        by_cases hkn : k < n
        · have gk : decide (k < n) = true := by simpa using hkn
          have dk : wr.cell? ⟨g4, k, none⟩ = some (.int .u64 0) := by
            rw [HR.out.cell k, List.getElem?_append_right (by simp), List.getElem?_replicate]
            simp; omega
          have fk := HR.out.free k
          have hk0 : (0 : Int) ≤ (k : Int) := by omega
          have hk1 : (k : Int) < (n : Int) := by omega
          have hr5 := HR.out.set k (.int .u64 (i1 : Int))
          rw [fill_step (i1 : Int) hkn] at hr5
          have HR5 := Lib.hid hr5
          have HF5 := Lib.hid (HF.out.set (p := ⟨g4, k, none⟩) (.inl rfl) (.int .u64 (i1 : Int)))
          clear hr5
          go_wp2
          go_roundw
          case rel => exact ⟨k + 1, by omega, by go_num, HR5.out, HF5.out⟩
          case measure => simp [intOf]; omega
        · have gk : decide (k < n) = false := by simpa using hkn
          have hkk : k = n := by omega
          have hr5 := HR.out
          rw [hkk, Nat.sub_self, List.replicate_zero, List.append_nil] at hr5
          have hb5 := HF.out.row HB4.out hne4
          have hR5 := HR4.out.kept (far_kept HF.out HG4.out) (by decide) (by decide) (by decide) (HF.out.below (by omega) fun k hk => by subst hk; exact hgB)
          have hF5 : Filled wr (gs ++ [(b4, n, true)]) := by
            refine (FIL0.out.keep (w' := wr) fun k t cs ht hr => HF.out.row (HK4.out k t cs (by rcases ht with rfl | rfl <;> decide) hr) (OLD.out k t cs hr)).snoc hb5 ?_
            rw [HGL.out, HI1.out]; exact hr5
          have hs5 := HF.out.size
          have hb6 := (Below.refl wr.heap.size wr).alloc (Nat.le_refl _) (.cells #[.pointer (some ⟨b4, 0, none⟩)] 31)
          have R6 := Lib.hid (hR5.below hb6 (by omega))
          have FIL6 := Lib.hid (hF5.keep (w' := wr.alloc (.cells #[.pointer (some ⟨b4, 0, none⟩)] 31)) fun k t cs _ hr => hr.below hb6 hr.lt)
          have hr6 : Row (wr.alloc (.cells #[.pointer (some ⟨b4, 0, none⟩)] 31)) wr.heap.size 31 [ptr b4] := heap_alloc_new _ _
          have HC6 := Lib.hid (hr6.cell 0)
          have hz6 : (wr.alloc (.cells #[.pointer (some ⟨b4, 0, none⟩)] 31)).heap.size = wr.heap.size + 1 := by simp
          have HZ6 := Lib.hid hz6
          clear hr5 hb5 hR5 hF5 hb6 hr6 hz6 hkk hv hv0 hv1 HR HF HR4 HB4 HG4 HK4 OLD FIL0
          go_wp2_with (with_reducible refine stopAt 78 ?_)
          unfold Hid
          refine wpList_push rfl _ _ rfl R6.out (by rw [HZ6.out]; omega) (by rw [HGL.out]; rfl) wr.heap.size b4 n 1 true rfl HC6.out (by rw [HGL.out]; omega) ?_
          intro v7 w7 R7 hs7 hk7
          have FIL7 := Lib.hid (FIL6.out.keep (w' := w7) fun k t cs ht hr => hk7 k t cs (by rcases ht with rfl | rfl <;> decide) hr)
          obtain ⟨A7, c7, rfl, hgc7⟩ := R7.own.form
          have hlen : (gs ++ [(b4, n, true)]).length = i1 := by rw [List.length_append, HGL.out]; exact HI1.out
          rw [hlen] at R7 hgc7
          rw [hlen]
          have RR := Lib.hid R7
          have HRO7 : Hid ((grant s b4 n).room = 10000) := HRO.out
          have HUS7 : Hid ((grant s b4 n).used ≤ 99 * i1) := by have := HUS.out; have := HI1.out; show s.used + n ≤ 99 * i1; omega
          have HLN7 : Hid (∀ q ∈ gs ++ [(b4, n, true)], q.2.1 ≤ 99) := fun q hq => by
            rcases List.mem_append.1 hq with hq | hq
            · exact HLN.out q hq
            · have : q = (b4, n, true) := by simpa using hq
              subst this; exact hn99
          have HLEN := Lib.hid hlen
          have hszB : w.heap.size ≤ w7.heap.size := RR.out.bel.size
          generalize gs ++ [(b4, n, true)] = gs7 at *
          generalize grant s b4 n = s7 at *
          clear R7 R6 FIL6 HC6 HZ6 hk7 hlen FIL RUN HRO HUS HLN hsz hs5 HGL gs s
          by_cases hir : i < len1
          · have gr : decide (i < len1) = true := by simpa using hir
            obtain ⟨b', off', y, rfl, hbb', d0', hy, _⟩ := (HL1.out.keep RR.out.bel).at_ hir
            have hr0 : (0 : Int) ≤ (i : Int) := by omega
            have hr1 : (i : Int) < (len1 : Int) := by omega
            have hy256 := u8_lt hy
            by_cases hy3 : y % 3 = 0
            · have e1 : (y : Int) % 3 = 0 := by omega
              have e2 : (y : Int).tmod 3 = 0 := by rw [Int.tmod_eq_emod_of_nonneg (by omega)]; exact e1
              obtain ⟨k, hkk⟩ : ∃ k, y % i1 = k := ⟨_, rfl⟩
              have hi10 : 0 < i1 := by have := HI1.out; omega
              have hkl : k < i1 := by rw [← hkk]; exact Nat.mod_lt _ hi10
              obtain ⟨⟨bb, bn, bt⟩, hq⟩ : ∃ q, gs7[k]? = some q := ⟨_, List.getElem?_eq_getElem (by rw [HLEN.out]; exact hkl)⟩
              obtain ⟨ga, ca, hav, hcell⟩ := RR.out.own.at_ hq
              injection hav with hav1 hav2 hav3
              subst hav1
              subst hav3
              have hrl := run_release RR.out hszB hq
              have hm : (y : Int) % (i1 : Int) = (k : Int) := by omega
              have hm2 : (y : Int).tmod (i1 : Int) = (k : Int) := by rw [Int.tmod_eq_emod_of_nonneg (by omega)]; exact hm
              have hL0 : ¬ ((i1 : Int) = 0) := by omega
              have hk0 : (0 : Int) ≤ (k : Int) := by omega
              have hk1 : (k : Int) < (i1 : Int) := by omega
              have HQ := Lib.hid hq
              have AP := Lib.hid RR.out.play.2.2.1
              unfold ptr at hcell
              clear hkk hq hav2
              go_wp2_with fail
              refine hrl.mono ?_; rintro e w8 ⟨rfl, R8, _, hs8, hk8⟩
              have FIL8 := Lib.hid (FIL7.out.released (w' := w8) AP.out HQ.out fun k u cs hu hk hr => hk8 k u cs (by rcases hu with rfl | rfl <;> decide) (hk.elim id fun e => by
                intro e'; subst e'; subst e
                obtain ⟨v, hb⟩ := RR.out.play.buf HQ.out
                exact absurd (hr.typed hb) (by decide)) hr)
              have R9 := Lib.hid R8
              clear R8 hk8 hrl hcell
              go_wp2
              go_roundw
              case rel =>
                refine ⟨i + 1, G4, rel s7 bb bn bt, gs7.set k (bb, bn, false), by omega, by go_num, R9.out, FIL8.out, by rw [List.length_set, HLEN.out, HI1.out], by unfold Hid; rw [rel_room]; exact HRO7.out, ?_, fun q hq => ?_⟩
                · have := HUS7.out; have h1 := HI1.out
                  cases bt
                  · show s7.used ≤ _; omega
                  · show s7.used - bn ≤ _; omega
                · rcases List.mem_or_eq_of_mem_set hq with hq | rfl
                  · exact HLN7.out q hq
                  · exact (show bn ≤ 99 from HLN7.out (bb, bn, bt) (List.mem_of_getElem? HQ.out))
              case measure => simp [intOf]; omega
            · obtain ⟨m3, hm3⟩ : ∃ m, y % 3 = m := ⟨_, rfl⟩
              have e1 : (y : Int) % 3 = (m3 : Int) := by omega
              have e2 : (y : Int).tmod 3 = (m3 : Int) := by rw [Int.tmod_eq_emod_of_nonneg (by omega)]; exact e1
              have e3 : ((m3 : Int) == 0) = false := by simp; omega
              have e4 : (m3 == 0) = false := by simp; omega
              clear hy3 hm3
              go_wp2
              go_roundw
              case rel => exact ⟨i + 1, G4, s7, gs7, by omega, by go_num, RR.out, FIL7.out, by rw [HLEN.out, HI1.out], HRO7.out, by rw [HI1.out]; exact HUS7.out, HLN7.out⟩
              case measure => simp [intOf]; omega
          · have gr : decide (i < len1) = false := by simpa using hir
            go_wp2
            go_roundw
            case rel => exact ⟨i + 1, G4, s7, gs7, by omega, by go_num, RR.out, FIL7.out, by rw [HLEN.out, HI1.out], HRO7.out, by rw [HI1.out]; exact HUS7.out, HLN7.out⟩
            case measure => simp [intOf]; omega
    · have g0 : decide (i < len0) = false := by simpa using hlt
      have HB := Lib.hid RUN.out.bel
      generalize wr = wo at *
      clear hgl hgc
      go_wp2
      go_loopw [11] (fun jv ww => ∃ j : Nat, j ≤ i ∧ jv = .int .i64 (j : Int) ∧ ww = wo) (fun jv _ => i - (intOf jv).toNat)
      case atStart => exact ⟨0, by omega, rfl, by trivial⟩
      case round =>
        obtain ⟨j, hj, rfl, rfl⟩ := hrel
        by_cases hji : j < i
        · have gj : decide (j < i) = true := by simpa using hji
          obtain ⟨⟨bb, bn, bt⟩, hq⟩ : ∃ q, gs[j]? = some q := ⟨_, List.getElem?_eq_getElem (by rw [HGL.out]; exact hji)⟩
          obtain ⟨ga, ca, hav, hcell⟩ := RUN.out.own.at_ hq
          injection hav with hav1 hav2 hav3
          subst hav1
          have hk0 : (0 : Int) ≤ (j : Int) := by omega
          have hk1 : (j : Int) < (i : Int) := by omega
          unfold ptr at hcell
          cases bt
          · obtain ⟨v, hvr, hv⟩ := RUN.out.play.2.2.2 _ (List.mem_of_getElem? hq)
            have hv := hv rfl
            subst hv
            have dW : wr.cell? ⟨bb, 0, none⟩ = some (.slice none 0 0) := hvr.cell 0
            clear hvr hq hav2 hav3
            generalize wr = wo at *
            go_wp2
            go_loopw [12] (fun kv wx => kv = .int .i64 0 ∧ wx = wo) (fun _ _ => 0)
            case atStart => exact ⟨rfl, by trivial⟩
            case round =>
              obtain ⟨rfl, rfl⟩ := hrel
              go_wp2
              go_roundw
              case rel => exact ⟨j + 1, by omega, by go_num, by trivial⟩
              case measure => simp [intOf]; omega
          · obtain ⟨g, hr1, hr2⟩ := FIL.out j bb bn hq
            have hn99 : bn ≤ 99 := HLN.out _ (List.mem_of_getElem? hq)
            have dW : wr.cell? ⟨bb, 0, none⟩ = some (.slice (some ⟨g, 0, none⟩) bn bn) := hr1.cell 0
            have HR2 := Lib.hid hr2
            obtain ⟨j1, hj1⟩ : ∃ x, j + 1 = x := ⟨_, rfl⟩
            rw [hj1] at HR2
            have hv : (j : Int) + 1 = (j1 : Int) := by omega
            have hv0 : (0 : Int) ≤ (j1 : Int) := by omega
            have hv1 : (j1 : Int) ≤ 18446744073709551615 := by omega
            have HJ1 := Lib.hid hj1
            clear hr1 hr2 hq hav2 hav3 hj1
            generalize wr = wo at *
            go_wp2
            go_loopw [12] (fun kv wx => ∃ k : Nat, k ≤ bn ∧ kv = .int .i64 (k : Int) ∧ wx = wo) (fun kv _ => bn - (intOf kv).toNat)
            case atStart => exact ⟨0, by omega, rfl, by trivial⟩
            case round =>
              obtain ⟨k, hk, rfl, rfl⟩ := hrel
              by_cases hkn : k < bn
              · have gk : decide (k < bn) = true := by simpa using hkn
                have dk : wr.cell? ⟨g, k, none⟩ = some (.int .u64 (j1 : Int)) := by
                  rw [HR2.out.cell k, List.getElem?_replicate, if_pos hkn]
                have hx0 : (0 : Int) ≤ (k : Int) := by omega
                have hx1 : (k : Int) < (bn : Int) := by omega
                go_wp2
                go_roundw
                case rel => exact ⟨k + 1, by omega, by go_num, by trivial⟩
                case measure => simp [intOf]; omega
              · have gk : decide (k < bn) = false := by simpa using hkn
                clear hv
                go_wp2
                go_roundw
                case rel => exact ⟨j + 1, by omega, by go_num, by trivial⟩
                case measure => simp [intOf]; omega
        · have gj : decide (j < i) = false := by simpa using hji
          go_wp2
          go_ret
          exact ⟨rfl, HB.out⟩

set_option maxRecDepth 100000 in
theorem lifted (os : Os) (started : os.Started) (H : Type) (enc : TypeId × Value → H) :
    ReturnsInHanded {} Try.checked os 4 .any (Rows.arenaApartSpec.pre6 enc Try.prog Try.f4 Rows.arenaApartRow.domain false) (Rows.arenaApartSpec.post enc Try.prog Try.f4 false true false false) := by
  refine returnsInHanded_of_change (C := Try.checked) own started (by kernel_rfl) Try.func4
    (ChangeSpec.witness6 (enc := enc) (C := Try.checked) false ⟨#[], #[.slice none 0 0, .slice none 0 0], []⟩ 8 (by kernel_rfl) (by kernel_rfl) (by kernel_rfl) (by kernel_rfl)) ?_
  intro W base args ds gs before hval0 hW hcnd _
  have hval : ∀ (j : Nat) t v, Try.f4.params[j]? = some t → args[j]? = some v → Value.okWide Try.prog W .any base t v := hval0
  have hW' := hW
  obtain ⟨p, q, hA0, hV, rfl, hfz, hnd⟩ := hW
  have hA : DataW.TrodAll enc Try.prog W 0 (fun _ => true) true Try.f4.params.toList args.toList ds p := hA0
  rw [Try.params4] at hA hval
  obtain ⟨v0, vs0, d0, ds0, p0, q0, hargs, rfl, rfl, h0, r0⟩ := trodAll_cons hA
  obtain ⟨v1, vs1, d1, ds1, p1, q1, rfl, rfl, rfl, h1, r1⟩ := trodAll_cons r0
  obtain ⟨rfl, rfl, rfl⟩ := trodAll_nil r1
  obtain rfl : args = #[v0, v1] := by cases args; simp_all
  obtain ⟨rfl, rfl⟩ := trodVars_none hV
  have k0 := h0
  have lt0 : ∀ x ∈ p0, x.block < W.heap.size := by obtain ⟨m, hm⟩ := k0; exact DataW.trod_lt m _ _ _ hm
  have k1 := h1
  have lt1 : ∀ x ∈ p1, x.block < W.heap.size := by obtain ⟨m, hm⟩ := k1; exact DataW.trod_lt m _ _ _ hm
  obtain ⟨a0, len0, cap0, rfl⟩ := okWide_slice Try.underlying49 (hval 0 49 v0 rfl rfl)
  obtain ⟨z0, w0⟩ : ∃ zs, IsRow .u8 W a0 len0 cap0 zs := by
    obtain ⟨fuel, hf⟩ := h0
    rcases open_ints Try.underlying49 Try.underlying5 (by kernel_rfl) hf with ⟨hcs, _⟩ | ⟨x, l, c, zs, hcs, _, hl, hm, hz, _, hcell, hwz⟩
    · simp [Value.cells] at hcs
      obtain ⟨rfl, rfl, rfl⟩ := hcs
      exact ⟨[], .inl ⟨rfl, rfl, rfl, rfl⟩⟩
    · simp [Value.cells] at hcs
      obtain ⟨rfl, rfl, rfl⟩ := hcs
      exact ⟨zs, .inr ⟨_, rfl, hl, hm, by simpa using hz, hcell, hwz⟩⟩
  obtain ⟨a1, len1, cap1, rfl⟩ := okWide_slice Try.underlying49 (hval 1 49 v1 rfl rfl)
  obtain ⟨z1, w1⟩ : ∃ zs, IsRow .u8 W a1 len1 cap1 zs := by
    obtain ⟨fuel, hf⟩ := h1
    rcases open_ints Try.underlying49 Try.underlying5 (by kernel_rfl) hf with ⟨hcs, _⟩ | ⟨x, l, c, zs, hcs, _, hl, hm, hz, _, hcell, hwz⟩
    · simp [Value.cells] at hcs
      obtain ⟨rfl, rfl, rfl⟩ := hcs
      exact ⟨[], .inl ⟨rfl, rfl, rfl, rfl⟩⟩
    · simp [Value.cells] at hcs
      obtain ⟨rfl, rfl, rfl⟩ := hcs
      exact ⟨zs, .inr ⟨_, rfl, hl, hm, by simpa using hz, hcell, hwz⟩⟩
  clear hA0 hval0
  refine (walk a0 len0 cap0 z0 a1 len1 cap1 z1 W w0 w1).mono fun e W' ⟨he, bel⟩ => ?_
  subst he
  exact ⟨_, rfl, _, _, _, [], _, [], hW', trodAll_mk1 (shut_bool Try.underlying4 _), (trodAll_cons_mk (Below.trod laidOut (by kernel_rfl) (of_decide_eq_true (by kernel_rfl)) k0 bel lt0) (trodAll_cons_mk (Below.trod laidOut (by kernel_rfl) (of_decide_eq_true (by kernel_rfl)) k1 bel lt1) trodAll_mk0)), rfl, bel.frame _, fun h => by cases h⟩

theorem over : Rows.arenaApartRow.holds Try.pinned (OpenSpec.ofChange Rows.arenaApartSpec) :=
  OpenClaim.holds_of_wide 4 Try.f4 rfl rfl rfl rfl rfl rfl rfl ⟨rfl, rfl, rfl, rfl, rfl⟩ rfl rfl rfl rfl rfl (by kernel_rfl) Try.func4 (by kernel_rfl)
    (of_decide_eq_true (by kernel_rfl)) (by unfold Func.isWrapper; first | (rw [if_pos (by decide +kernel)]; kernel_rfl) | (rw [if_neg (by decide +kernel)]; exact ⟨rfl, rfl⟩))
    (fun os started H enc _ => lifted os started H enc)

theorem proved : Rows.ArenaApartSaid := over
end Go.Proofs.Ytohhneeliaankaa.arenaApart
