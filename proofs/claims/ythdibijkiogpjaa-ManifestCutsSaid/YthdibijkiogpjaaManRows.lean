/- Entries in memory; what isFormed and Formed answer. -/
import Derived.Test.YthdibijkiogpjaaManSmall
import Derived.Test.YthdibijkiogpjaaFar
import Derived.Lib.QuietBelow
import Derived.Laws.Cover1
namespace Go.Proofs.Ythdibijkiogpjaa
open Go.ChangeShapes Go.WideShapes Go.ChangeAt Go.RowKit

def EntOk (e : Ent) : Prop := (I64 e.fi ∧ I64 e.bl ∧ I64 e.wi ∧ I64 e.co) ∧ e.nm.size ≤ maxLen
def entC (e : Ent) : List Value := [.string e.nm, .int .i64 e.fi, .int .i64 e.bl, .int .i64 e.wi, .int .i64 e.co]
def entV (e : Ent) : Value := .agg #[.string e.nm, .int .i64 e.fi, .int .i64 e.bl, .int .i64 e.wi, .int .i64 e.co]
theorem entP_ok {e : Ent} (h : EntP e) : EntOk e := by
  obtain ⟨⟨h1, h2, h3, h4⟩, h5⟩ := h
  have hs : ∀ x, SmP x → I64 x := fun x hx => by unfold SmP at hx; unfold I64; simp [Lit.wf, IntKind.min, IntKind.max, IntKind.signed, IntKind.bits]; omega
  refine ⟨⟨hs _ h1, hs _ h2, hs _ h3, hs _ h4⟩, ?_⟩
  have := h5.1.2
  unfold maxLen; omega
/-- A slice value that reads as the entries l; the cells lie below block B. -/
def ReadsN (w : World) (B : Nat) (a : Option Addr) (n : Nat) (l : List Ent) : Prop :=
  l.length = n ∧ (∀ e ∈ l, EntOk e) ∧ (0 < n → ∃ b off, a = some ⟨b, off, none⟩ ∧ b < B ∧ ∀ (i : Nat), i < n → ∀ (j : Nat) (u : Value), (entC (l.getD i ent0))[j]? = some u → w.cell? ⟨b, off + i * 5 + j, none⟩ = some u)
section
variable {w w' : World} {B : Nat} {a : Option Addr} {n : Nat} {l : List Ent}
theorem ReadsN.keep (h : ReadsN w B a n l) (hb : Below B w w') : ReadsN w' B a n l := by
  obtain ⟨hl, hw, hc⟩ := h
  refine ⟨hl, hw, fun hn => ?_⟩
  obtain ⟨b, off, rfl, hbB, hc⟩ := hc hn
  exact ⟨b, off, rfl, hbB, fun i hi j u hj => (hb.cell (p := ⟨b, off + i * 5 + j, none⟩) hbB).trans (hc i hi j u hj)⟩
theorem ReadsN.mono {B' : Nat} (h : ReadsN w B a n l) (hb : B ≤ B') : ReadsN w B' a n l := by
  obtain ⟨hl, hw, hc⟩ := h
  refine ⟨hl, hw, fun hn => ?_⟩
  obtain ⟨b, off, rfl, hbB, hc⟩ := hc hn
  exact ⟨b, off, rfl, by omega, hc⟩
theorem ReadsN.drewN (h : ReadsN w B a n l) (m : Nat) : ReadsN (w.drewN m) B a n l := h
theorem ReadsN.nil (w : World) (B : Nat) (a : Option Addr) : ReadsN w B a 0 [] := ⟨rfl, by simp, fun h => absurd h (by omega)⟩
/-- it is kept while the blocks that it may lie in are -/
theorem ReadsN.far {F : Nat → Prop} (h : ReadsN w B a n l) (hB : B ≤ w.heap.size) (hf : Far F w w') (hF : 0 < n → ∀ b off, a = some ⟨b, off, none⟩ → ¬ F b) : ReadsN w' B a n l := by
  obtain ⟨hl, hw, hc⟩ := h
  refine ⟨hl, hw, fun hn => ?_⟩
  obtain ⟨b, off, hA, hbB, hc⟩ := hc hn
  exact ⟨b, off, hA, hbB, fun i hi j u hj => (World.cell?_of_block (w := w) (w' := w') (a := ⟨b, off + i * 5 + j, none⟩) (hf.block b (by omega) (hF hn b off hA))).trans (hc i hi j u hj)⟩
theorem ReadsN.at_ (h : ReadsN w B a n l) {i : Nat} (hi : i < n) :
    ∃ b off e, a = some ⟨b, off, none⟩ ∧ b < B ∧ w.cell? ⟨b, off + i * 5, none⟩ = some (.string e.nm) ∧ w.cell? ⟨b, off + i * 5 + 1, none⟩ = some (.int .i64 e.fi) ∧ w.cell? ⟨b, off + i * 5 + 2, none⟩ = some (.int .i64 e.bl) ∧ w.cell? ⟨b, off + i * 5 + 3, none⟩ = some (.int .i64 e.wi) ∧ w.cell? ⟨b, off + i * 5 + 4, none⟩ = some (.int .i64 e.co) ∧ EntOk e ∧ Hid (l.getD i ent0 = e) := by
  obtain ⟨hl, hw, hc⟩ := h
  obtain ⟨b, off, rfl, hb, hc⟩ := hc (by omega)
  have hm : l.getD i ent0 ∈ l := by rw [List.getD_eq_getElem?_getD, List.getElem?_eq_getElem (by omega)]; exact List.getElem_mem _
  exact ⟨b, off, _, rfl, hb, hc i hi 0 _ rfl, hc i hi 1 _ rfl, hc i hi 2 _ rfl, hc i hi 3 _ rfl, hc i hi 4 _ rfl, hw _ hm, rfl⟩
end

set_option maxRecDepth 100000 in
theorem isformed_any (nm : ByteArray) (fi bl wi co : Int) (w : World) (hs : nm.size ≤ 9223372036854775807) :
    Calls Try.prog 23 #[.agg #[.string nm, .int .i64 fi, .int .i64 bl, .int .i64 wi, .int .i64 co]] w fun e w' => e = .returned (.bool (decide (EntP ⟨nm, fi, bl, wi, co⟩))) ∧ Below w.heap.size w w' := by
  have HW : Hid (∀ x, x ∈ [fi, bl, wi, co] → SmP x → (0 ≤ x ∧ x ≤ 1099511627776)) := fun x _ h => h
  go_enter Try.func23, Try.ntmps23
  go_wp2
  have hb2 : Below w.heap.size w ((w.alloc (.cells #[.string nm, .int .i64 fi, .int .i64 bl, .int .i64 wi, .int .i64 co] 54)).alloc (.cells #[.int .i64 fi, .int .i64 bl, .int .i64 wi, .int .i64 co] 3)) := (((Below.refl _ w).alloc (Nat.le_refl _) _).alloc (by simp) _)
  have c0 : ((w.alloc (.cells #[.string nm, .int .i64 fi, .int .i64 bl, .int .i64 wi, .int .i64 co] 54)).alloc (.cells #[.int .i64 fi, .int .i64 bl, .int .i64 wi, .int .i64 co] 3)).cell? ⟨w.heap.size, 0, none⟩ = some (.string nm) := by
    have h1 : Row (w.alloc (.cells #[.string nm, .int .i64 fi, .int .i64 bl, .int .i64 wi, .int .i64 co] 54)) w.heap.size 54 [.string nm, .int .i64 fi, .int .i64 bl, .int .i64 wi, .int .i64 co] := heap_alloc_new _ _
    exact (h1.alloc _).cell 0
  have hr : Row ((w.alloc (.cells #[.string nm, .int .i64 fi, .int .i64 bl, .int .i64 wi, .int .i64 co] 54)).alloc (.cells #[.int .i64 fi, .int .i64 bl, .int .i64 wi, .int .i64 co] 3)) (w.heap.size + 1) 3 [.int .i64 fi, .int .i64 bl, .int .i64 wi, .int .i64 co] := by
    have h1 := heap_alloc_new (w.alloc (.cells #[.string nm, .int .i64 fi, .int .i64 bl, .int .i64 wi, .int .i64 co] 54)) (.cells #[.int .i64 fi, .int .i64 bl, .int .i64 wi, .int .i64 co] 3)
    have e : (w.alloc (.cells #[.string nm, .int .i64 fi, .int .i64 bl, .int .i64 wi, .int .i64 co] 54)).heap.size = w.heap.size + 1 := by simp
    rw [e] at h1; exact h1
  have HB2 := Lib.hid hb2
  have HR := Lib.hid hr
  clear hb2 hr
  generalize ((w.alloc (.cells #[.string nm, .int .i64 fi, .int .i64 bl, .int .i64 wi, .int .i64 co] 54)).alloc (.cells #[.int .i64 fi, .int .i64 bl, .int .i64 wi, .int .i64 co] 3)) = w2 at *
  go_loopw [15] (fun iv wr => ∃ i : Nat, i ≤ 4 ∧ iv = .int .i64 (i : Int) ∧ w2 = wr ∧ Hid (∀ k, k < i → SmP ([fi, bl, wi, co].getD k 0))) (fun iv _ => 4 - (intOf iv).toNat)
  case atStart => exact ⟨0, by omega, rfl, by trivial, fun k hk => absurd hk (by omega)⟩
  case round =>
    obtain ⟨i, hi, rfl, rfl, HC⟩ := hrel
    by_cases hlt : i < 4
    · have hj0 : (0 : Int) ≤ (i : Int) := by omega
      have hj1 : (i : Int) < 4 := by omega
      obtain ⟨x, hx⟩ : ∃ x, x = [fi, bl, wi, co].getD i 0 := ⟨_, rfl⟩
      have cx : w2.cell? ⟨w.heap.size + 1, i, none⟩ = some (.int .i64 x) := by
        rw [HR.out.cell i, hx]
        match i, hlt with
        | 0, _ => rfl
        | 1, _ => rfl
        | 2, _ => rfl
        | 3, _ => rfl
      have HX := Lib.hid hx
      clear hx
      by_cases hok : SmP x
      · have hok2 := hok
        unfold SmP at hok2
        have HC2 : Hid (∀ k, k < i + 1 → SmP ([fi, bl, wi, co].getD k 0)) := by
          intro k hk
          by_cases e : k = i
          · subst e; rw [← HX.out]; exact hok
          · exact HC.out k (by omega)
        have g1 : decide (x < 0) = false := by simp; omega
        have g2 : decide (x > 1099511627776) = false := by simp; omega
        go_wp2
        go_roundw
        case rel => exact ⟨i + 1, by omega, by go_num, by trivial, HC2.out⟩
        case measure => simp [intOf]; omega
      · have HNO : Hid (decide (EntP ⟨nm, fi, bl, wi, co⟩) = false) := by
          unfold Hid
          rw [decide_eq_false_iff_not]
          rintro ⟨⟨h1, h2, h3, h4⟩, _⟩
          apply hok
          rw [HX.out]
          match i, hlt with
          | 0, _ => exact h1
          | 1, _ => exact h2
          | 2, _ => exact h3
          | 3, _ => exact h4
        unfold SmP at hok
        go_wp2
        all_goals first
          | (exfalso; omega)
          | (go_ret; exact ⟨ret_bool HNO.out.symm, HB2.out⟩)
    · obtain rfl : i = 4 := by omega
      have HF : Hid (decide (NameP nm) = decide (EntP ⟨nm, fi, bl, wi, co⟩)) := by
        unfold Hid
        rw [decide_eq_decide]
        exact ⟨fun h => ⟨⟨HC.out 0 (by omega), HC.out 1 (by omega), HC.out 2 (by omega), HC.out 3 (by omega)⟩, h⟩, fun h => h.2⟩
      go_wp2_with fail
      refine (isname_any nm w2 hs).mono ?_; rintro e w3 ⟨rfl, rfl⟩
      rw [HF.out]
      go_wp2
      go_ret
      exact ⟨rfl, HB2.out⟩

set_option maxHeartbeats 1600000 in
set_option maxRecDepth 100000 in
theorem formed_any (a : Option Addr) (n c : Nat) (l : List Ent) (w : World) {B : Nat} (hl : ReadsN w B a n l) (hB : B ≤ w.heap.size) (hn : n ≤ maxLen) :
    Calls Try.prog 9 #[.slice a n c] w fun e w' => e = .returned (.bool (decide (FormedP l))) ∧ Below w.heap.size w w' := by
  have hlen := hl.1
  have HLEN := Lib.hid hlen
  have hn2 : n ≤ 9223372036854775807 := by unfold maxLen at hn; omega
  by_cases h12 : n ≤ 12
  · have g12 : decide ((n : Int) > 12) = false := by simp; omega
    have HB := Lib.hid hB
    have HL := Lib.hid hl
    clear hlen hl hB hn
    go_enter Try.func9, Try.ntmps9
    go_wp2
    go_loopw [10] (fun iv wr => ∃ i : Nat, i ≤ n ∧ iv = .int .i64 (i : Int) ∧ Hid (Below w.heap.size w wr) ∧ Hid (∀ k, k < i → EntP (l.getD k ent0) ∧ (0 < k → lessN (l.getD (k - 1) ent0).nm (l.getD k ent0).nm = true))) (fun iv _ => n - (intOf iv).toNat)
    case atStart => exact ⟨0, by omega, rfl, Below.refl _ _, fun k hk => absurd hk (by omega)⟩
    case round =>
      obtain ⟨i, hi, rfl, HBW, HC⟩ := hrel
      by_cases hlt : i < n
      · have hj0 : (0 : Int) ≤ (i : Int) := by omega
        have hj1 : (i : Int) < (n : Int) := by omega
        have hlw := HL.out.keep (HBW.out.mono HB.out)
        have hszw := HBW.out.size
        obtain ⟨b, off, e, rfl, hb, d0, d1, d2, d3, d4, hok, HE⟩ := hlw.at_ hlt
        obtain ⟨nm, fi, bl, wi, co⟩ := e
        simp only at d0 d1 d2 d3 d4
        have hnm : nm.size ≤ 9223372036854775807 := by have := hok.2; unfold maxLen at this; simpa using this
        have hbw : b < wr.heap.size := by have := HB.out; omega
        have hr : Row (wr.alloc (.cells #[.string nm, .int .i64 fi, .int .i64 bl, .int .i64 wi, .int .i64 co] 54)) wr.heap.size 54 [.string nm, .int .i64 fi, .int .i64 bl, .int .i64 wi, .int .i64 co] := heap_alloc_new _ _
        have hb2 : Below wr.heap.size wr (wr.alloc (.cells #[.string nm, .int .i64 fi, .int .i64 bl, .int .i64 wi, .int .i64 co] 54)) := (Below.refl _ wr).alloc (Nat.le_refl _) _
        have c0 := hr.cell 0
        have c1 := hr.cell 1
        have c2 := hr.cell 2
        have c3 := hr.cell 3
        have c4 := hr.cell 4
        simp only [List.getElem?_cons_zero, List.getElem?_cons_succ] at c0 c1 c2 c3 c4
        have HB3 := Lib.hid (HBW.out.trans (hb2.mono hszw))
        clear hr hb2
        have q1 : ∀ d os, Calls Try.prog 23 #[.agg #[.string nm, .int .i64 fi, .int .i64 bl, .int .i64 wi, .int .i64 co]] (Sort.grow (redrawn (wr.alloc (.cells #[.string nm, .int .i64 fi, .int .i64 bl, .int .i64 wi, .int .i64 co] 54)) d) os) fun e w'' => e = .returned (.bool (decide (EntP ⟨nm, fi, bl, wi, co⟩))) ∧ ∃ p : Regrown, w'' = Sort.grow (redrawn (wr.alloc (.cells #[.string nm, .int .i64 fi, .int .i64 bl, .int .i64 wi, .int .i64 co] 54)) p.d) p.os := fun d os => Calls.regrown_of (isformed_any nm fi bl wi co _ hnm)
        have Q1 := Lib.hid q1
        clear q1
        have HEND : Hid (∀ p : Regrown, Below w.heap.size w (Sort.grow (redrawn (wr.alloc (.cells #[.string nm, .int .i64 fi, .int .i64 bl, .int .i64 wi, .int .i64 co] 54)) p.d) p.os)) := fun p => HB3.out.trans ((below_regrown _ p.d p.os).mono HB3.out.size)
        obtain ⟨f, hf⟩ : ∃ f, f = decide (EntP ⟨nm, fi, bl, wi, co⟩) := ⟨_, rfl⟩
        rw [← hf] at Q1
        have HFF := Lib.hid hf
        clear hf
        have k0 : ∀ d os, (Sort.grow (redrawn (wr.alloc (.cells #[.string nm, .int .i64 fi, .int .i64 bl, .int .i64 wi, .int .i64 co] 54)) d) os).cell? ⟨wr.heap.size, 0, none⟩ = some (.string nm) := cell_regrown c0
        have k1 : ∀ d os, (Sort.grow (redrawn (wr.alloc (.cells #[.string nm, .int .i64 fi, .int .i64 bl, .int .i64 wi, .int .i64 co] 54)) d) os).cell? ⟨wr.heap.size, 1, none⟩ = some (.int .i64 fi) := cell_regrown c1
        have k2 : ∀ d os, (Sort.grow (redrawn (wr.alloc (.cells #[.string nm, .int .i64 fi, .int .i64 bl, .int .i64 wi, .int .i64 co] 54)) d) os).cell? ⟨wr.heap.size, 2, none⟩ = some (.int .i64 bl) := cell_regrown c2
        have k3 : ∀ d os, (Sort.grow (redrawn (wr.alloc (.cells #[.string nm, .int .i64 fi, .int .i64 bl, .int .i64 wi, .int .i64 co] 54)) d) os).cell? ⟨wr.heap.size, 3, none⟩ = some (.int .i64 wi) := cell_regrown c3
        have k4 : ∀ d os, (Sort.grow (redrawn (wr.alloc (.cells #[.string nm, .int .i64 fi, .int .i64 bl, .int .i64 wi, .int .i64 co] 54)) d) os).cell? ⟨wr.heap.size, 4, none⟩ = some (.int .i64 co) := cell_regrown c4
        cases f
        · have HNO : Hid (decide (FormedP l) = false) := by
            unfold Hid
            rw [decide_eq_false_iff_not]
            intro h
            have h1 := (h.2 i (by rw [HLEN.out]; exact hlt)).1
            rw [HE.out] at h1
            have := HFF.out
            rw [decide_eq_true h1] at this; cases this
          clear hlw HL c0 c1 c2 c3 c4
          go_wp2
          refine wp_region_quiet_below (by kernel_rfl) (by kernel_rfl) ?_
          repeat (any_goals (first | go_big_quiet_step (with_reducible exact Q1.out _ _) | quiet_step (with_reducible exact Q1.out _ _)))
          refine wpQuiet_nil ?_
          intro w5 hw5
          obtain ⟨⟨dq, osq⟩, hw5⟩ := hw5
          have HB5 : Hid (Below w.heap.size w w5) := by unfold Hid; rw [hw5]; exact HEND.out ⟨dq, osq⟩
          clear hw5
          go_wp2
          go_ret
          exact ⟨ret_bool HNO.out.symm, HB5.out⟩
        · have HEP : Hid (EntP (l.getD i ent0)) := by
            unfold Hid; rw [HE.out]; exact of_decide_eq_true HFF.out.symm
          by_cases h0 : 0 < i
          · obtain ⟨j, hj⟩ : ∃ j, j = i - 1 := ⟨_, rfl⟩
            have hsub : (i : Int) - 1 = (j : Int) := by omega
            have hb1 : j + 1 ≤ i ∧ i ≤ j + 1 := by omega
            have hi0 : (0 : Int) ≤ (j : Int) := by omega
            have hi1 : (j : Int) < (n : Int) := by omega
            have HJ := Lib.hid hj
            clear hj
            obtain ⟨b', off', e', hA', _, p0, _, _, _, _, _, HP⟩ := hlw.at_ (show j < n by omega)
            injection hA' with hA'
            injection hA' with x1 x2
            subst x1; subst x2
            obtain ⟨pn, _, _, _, _⟩ := e'
            simp only at p0
            have p0' : (wr.alloc (.cells #[.string nm, .int .i64 fi, .int .i64 bl, .int .i64 wi, .int .i64 co] 54)).cell? ⟨b, off + j * 5, none⟩ = some (.string pn) := (((Below.refl _ wr).alloc (Nat.le_refl _) _).cell (p := ⟨b, off + j * 5, none⟩) hbw).trans p0
            have g0 : decide ((i : Int) > 0) = true := by simp; omega
            have kp : ∀ d os, (Sort.grow (redrawn (wr.alloc (.cells #[.string nm, .int .i64 fi, .int .i64 bl, .int .i64 wi, .int .i64 co] 54)) d) os).cell? ⟨b, off + j * 5, none⟩ = some (.string pn) := cell_regrown p0'
            have HLT : Hid (lessN (l.getD (i - 1) ent0).nm (l.getD i ent0).nm = Op.bytesLess pn.toList nm.toList) := by
              unfold Hid lessN; rw [← HJ.out, HP.out, HE.out]
            clear hlw HL p0 p0' c0 c1 c2 c3 c4
            cases hlt2 : Op.bytesLess pn.toList nm.toList
            · have HNO : Hid (decide (FormedP l) = false) := by
                unfold Hid
                rw [decide_eq_false_iff_not]
                intro h
                have h1 := (h.2 i (by rw [HLEN.out]; exact hlt)).2 h0
                rw [HLT.out, hlt2] at h1; cases h1
              go_wp2
              refine wp_region_quiet_below (by kernel_rfl) (by kernel_rfl) ?_
              repeat (any_goals (first | go_big_quiet_step (with_reducible exact Q1.out _ _) | quiet_step (with_reducible exact Q1.out _ _)))
              refine wpQuiet_nil ?_
              intro w5 hw5
              obtain ⟨⟨dq, osq⟩, hw5⟩ := hw5
              have HB5 : Hid (Below w.heap.size w w5) := by unfold Hid; rw [hw5]; exact HEND.out ⟨dq, osq⟩
              clear hw5
              go_wp2
              go_ret
              exact ⟨ret_bool HNO.out.symm, HB5.out⟩
            · have HC2 : Hid (∀ k, k < i + 1 → EntP (l.getD k ent0) ∧ (0 < k → lessN (l.getD (k - 1) ent0).nm (l.getD k ent0).nm = true)) := by
                intro k hk
                by_cases e : k = i
                · subst e; exact ⟨HEP.out, fun _ => by rw [HLT.out, hlt2]⟩
                · exact HC.out k (by omega)
              go_wp2
              refine wp_region_quiet_below (by kernel_rfl) (by kernel_rfl) ?_
              repeat (any_goals (first | go_big_quiet_step (with_reducible exact Q1.out _ _) | quiet_step (with_reducible exact Q1.out _ _)))
              refine wpQuiet_nil ?_
              intro w5 hw5
              obtain ⟨⟨dq, osq⟩, hw5⟩ := hw5
              have HB5 : Hid (Below w.heap.size w w5) := by unfold Hid; rw [hw5]; exact HEND.out ⟨dq, osq⟩
              clear hw5
              go_wp2
              go_roundw
              case rel => exact ⟨i + 1, by omega, by go_num, HB5.out, HC2.out⟩
              case measure => simp [intOf]; omega
          · have g0 : decide ((i : Int) > 0) = false := by simp; omega
            have HC2 : Hid (∀ k, k < i + 1 → EntP (l.getD k ent0) ∧ (0 < k → lessN (l.getD (k - 1) ent0).nm (l.getD k ent0).nm = true)) := by
              intro k hk
              by_cases e : k = i
              · subst e; exact ⟨HEP.out, fun h => absurd h h0⟩
              · exact HC.out k (by omega)
            clear hlw HL c0 c1 c2 c3 c4
            go_wp2
            refine wp_region_quiet_below (by kernel_rfl) (by kernel_rfl) ?_
            repeat (any_goals (first | go_big_quiet_step (with_reducible exact Q1.out _ _) | quiet_step (with_reducible exact Q1.out _ _)))
            refine wpQuiet_nil ?_
            intro w5 hw5
            obtain ⟨⟨dq, osq⟩, hw5⟩ := hw5
            have HB5 : Hid (Below w.heap.size w w5) := by unfold Hid; rw [hw5]; exact HEND.out ⟨dq, osq⟩
            clear hw5
            go_wp2
            go_roundw
            case rel => exact ⟨i + 1, by omega, by go_num, HB5.out, HC2.out⟩
            case measure => simp [intOf]; omega
      · obtain rfl : i = n := by omega
        have HF : Hid (decide (FormedP l) = true) := by
          unfold Hid
          rw [decide_eq_true_eq]
          exact ⟨by rw [HLEN.out]; exact h12, fun k hk => HC.out k (by rw [HLEN.out] at hk; exact hk)⟩
        go_wp2
        go_ret
        exact ⟨ret_bool HF.out.symm, HBW.out⟩
  · have g12 : decide ((n : Int) > 12) = true := by simp; omega
    have HF : Hid (decide (FormedP l) = false) := by
      unfold Hid
      rw [decide_eq_false_iff_not]
      rintro ⟨h, _⟩
      rw [hlen] at h; exact h12 h
    clear hlen hl hB hn
    go_enter Try.func9, Try.ntmps9
    go_wp2
    go_ret
    exact ⟨ret_bool HF.out.symm, Below.refl _ _⟩
end Go.Proofs.Ythdibijkiogpjaa
