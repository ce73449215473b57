/- What the device's small calls answer: Down, Size, Blocks, Acts, has, begin, SetFuse, SetFault; and of no device. -/
import Derived.Test.YtbkgpilmgllkiaaDevMem
namespace Go.Proofs.Ytbkgpilmgllkiaa
open Go.ChangeShapes Go.WideShapes Go.ChangeAt Go.RowKit

section
variable (p : Nat) (s : St) (bl bf : Nat) (v : Value) (w : World)
theorem down_any (hr : Row w p 113 (cellsOf s bl bf v)) : Calls Try.prog 67 #[.pointer (some ⟨p, 0, none⟩)] w fun e w' => e = .returned (.bool s.down) ∧ w' = w := by
  have c9 : w.cell? ⟨p, 9, none⟩ = some (.bool s.down) := hr.cell 9
  go_enter Try.func67, Try.ntmps67
  go_wp2
  go_ret
  exact ⟨rfl, rfl⟩
theorem down_nil : Calls Try.prog 67 #[.pointer none] w fun e w' => e = .returned (.bool true) ∧ w' = w := by
  go_enter Try.func67, Try.ntmps67
  go_wp2
  go_ret
  exact ⟨rfl, rfl⟩
theorem size_any (hr : Row w p 113 (cellsOf s bl bf v)) : Calls Try.prog 50 #[.pointer (some ⟨p, 0, none⟩)] w fun e w' => e = .returned (.int .i64 (s.size : Int)) ∧ w' = w := by
  have c0 : w.cell? ⟨p, 0, none⟩ = some (.int .i64 (s.size : Int)) := hr.cell 0
  go_enter Try.func50, Try.ntmps50
  go_wp2
  go_ret
  exact ⟨rfl, rfl⟩
theorem size_nil : Calls Try.prog 50 #[.pointer none] w fun e w' => e = .returned (.int .i64 0) ∧ w' = w := by
  go_enter Try.func50, Try.ntmps50
  go_wp2
  go_ret
  exact ⟨rfl, rfl⟩
theorem blocks_any (hr : Row w p 113 (cellsOf s bl bf v)) : Calls Try.prog 70 #[.pointer (some ⟨p, 0, none⟩)] w fun e w' => e = .returned (.int .i64 s.blocks) ∧ w' = w := by
  have c1 : w.cell? ⟨p, 1, none⟩ = some (.int .i64 s.blocks) := hr.cell 1
  go_enter Try.func70, Try.ntmps70
  go_wp2
  go_ret
  exact ⟨rfl, rfl⟩
theorem blocks_nil : Calls Try.prog 70 #[.pointer none] w fun e w' => e = .returned (.int .i64 0) ∧ w' = w := by
  go_enter Try.func70, Try.ntmps70
  go_wp2
  go_ret
  exact ⟨rfl, rfl⟩
theorem acts_any (hr : Row w p 113 (cellsOf s bl bf v)) : Calls Try.prog 27 #[.pointer (some ⟨p, 0, none⟩)] w fun e w' => e = .returned (.int .i64 s.acts) ∧ w' = w := by
  have c1 : w.cell? ⟨p, 10, none⟩ = some (.int .i64 s.acts) := hr.cell 10
  go_enter Try.func27, Try.ntmps27
  go_wp2
  go_ret
  exact ⟨rfl, rfl⟩
theorem acts_nil : Calls Try.prog 27 #[.pointer none] w fun e w' => e = .returned (.int .i64 0) ∧ w' = w := by
  go_enter Try.func27, Try.ntmps27
  go_wp2
  go_ret
  exact ⟨rfl, rfl⟩
theorem has_any (i : Int) (hr : Row w p 113 (cellsOf s bl bf v)) : Calls Try.prog 45 #[.pointer (some ⟨p, 0, none⟩), .int .i64 i] w fun e w' => e = .returned (.bool (right s i)) ∧ w' = w := by
  have hb := blocks_any p s bl bf v w hr
  have HX : Hid (right s i = (decide (0 ≤ i) && decide (i < s.blocks))) := rfl
  by_cases h0 : 0 ≤ i
  · have h0' : decide (i ≥ 0) = true := by simpa using h0
    have h0'' : decide (0 ≤ i) = true := by simpa using h0
    go_enter Try.func45, Try.ntmps45
    go_wp2_with fail
    refine hb.mono ?_
    rintro e w1 ⟨rfl, rfl⟩
    go_wp2
    go_ret
    exact ⟨ret_bool (by rw [HX.out, h0'']; simp), rfl⟩
  · have h0' : decide (i ≥ 0) = false := by simpa using h0
    have h0'' : decide (0 ≤ i) = false := by simpa using h0
    go_enter Try.func45, Try.ntmps45
    go_wp2
    go_ret
    exact ⟨ret_bool (by rw [HX.out, h0'']; simp), rfl⟩
theorem has_nil (i : Int) : Calls Try.prog 45 #[.pointer none, .int .i64 i] w fun e w' => e = .returned (.bool false) ∧ w' = w := by
  by_cases h0 : 0 ≤ i
  · have h0' : decide (i ≥ 0) = true := by simpa using h0
    have h1 : decide (i < 0) = false := by simpa using h0
    go_enter Try.func45, Try.ntmps45
    go_wp2_with fail
    refine (blocks_nil w).mono ?_
    rintro e w1 ⟨rfl, rfl⟩
    go_wp2
    go_ret
    exact ⟨rfl, rfl⟩
  · have h0' : decide (i ≥ 0) = false := by simpa using h0
    go_enter Try.func45, Try.ntmps45
    go_wp2
    go_ret
    exact ⟨rfl, rfl⟩
/-- a limit at the address a -/
theorem isOut_any (b o : Nat) (isSet : Bool) (left : Int) (c0 : w.cell? ⟨b, o, none⟩ = some (.bool isSet)) (c1 : w.cell? ⟨b, o + 1, none⟩ = some (.int .i64 left)) :
    Calls Try.prog 68 #[.pointer (some ⟨b, o, none⟩)] w fun e w' => e = .returned (.bool (isSet && left == 0)) ∧ w' = w := by
  cases isSet
  · go_enter Try.func68, Try.ntmps68
    go_wp2
    go_ret
    exact ⟨rfl, rfl⟩
  · go_enter Try.func68, Try.ntmps68
    go_wp2
    go_ret
    exact ⟨rfl, rfl⟩
theorem letOne_any (b o : Nat) (isSet : Bool) (left : Int) (c0 : w.cell? ⟨b, o, none⟩ = some (.bool isSet)) (c1 : w.cell? ⟨b, o + 1, none⟩ = some (.int .i64 left)) (f1 : w.frozen? ⟨b, o + 1, none⟩ = false) (hl : 0 ≤ left ∧ left ≤ 1000000) :
    Calls Try.prog 69 #[.pointer (some ⟨b, o, none⟩)] w fun e w' => e = .returned (.tuple #[]) ∧ w' = if isSet then w.setCell ⟨b, o + 1, none⟩ (.int .i64 (left - 1)) else w := by
  cases isSet
  · go_enter Try.func69, Try.ntmps69
    go_wp2
    go_end0
    exact ⟨rfl, rfl⟩
  · go_enter Try.func69, Try.ntmps69
    go_wp2
    go_end0
    exact ⟨rfl, rfl⟩
end
/-- one of a device's numbers is turned -/
theorem Row.cellsSet {w : World} {p : Nat} {s s' : St} {bl bf : Nat} {v : Value} (hr : Row w p 113 (cellsOf s bl bf v)) (i : Nat) (u : Value) (he : (cellsOf s bl bf v).set i u = cellsOf s' bl bf v) : Row (w.setCell ⟨p, i, none⟩ u) p 113 (cellsOf s' bl bf v) := by
  have := hr.set i u
  rw [he] at this; exact this
theorem far_p {w w1 : World} {p : Nat} (h : Far (fun k => k = p) w w1) (i : Nat) (u : Value) : Far (fun k => k = p) w (w1.setCell ⟨p, i, none⟩ u) := h.set (.inl rfl) u
theorem St.fn_same (s : St) (h : s.fb = false) : ({ s with fn := if s.fb then s.fn - 1 else s.fn } : St) = s := by cases s; simp_all
theorem St.tn_same (s : St) (h : s.tb = false) : ({ s with tn := if s.tb then s.tn - 1 else s.tn } : St) = s := by cases s; simp_all
theorem St.fn_less (s : St) (h : s.fb = true) : ({ s with fn := if s.fb then s.fn - 1 else s.fn } : St) = { s with fn := s.fn - 1 } := by cases s; simp_all
theorem St.tn_less (s : St) (h : s.tb = true) : ({ s with tn := if s.tb then s.tn - 1 else s.tn } : St) = { s with tn := s.tn - 1 } := by cases s; simp_all
set_option maxHeartbeats 800000 in
theorem begin_any (p : Nat) (s : St) (n : Nat) (bl bf : Nat) (v : Value) (b : Bool) (w : World) (hf : Fits s n) (hr : Row w p 113 (cellsOf s bl bf v)) :
    Calls Try.prog 44 #[.pointer (some ⟨p, 0, none⟩), .bool b] w fun e w' => e = .returned (.int .i64 (begin s b).1) ∧ Row w' p 113 (cellsOf (begin s b).2 bl bf v) ∧ Far (fun k => k = p) w w' := by
  have hd := down_any p s bl bf v w hr
  by_cases hdown : s.down = true
  · have HX := Lib.hid (begin_down s b hdown)
    rw [hdown] at hd
    go_enter Try.func44, Try.ntmps44
    go_wp2_with fail
    refine hd.mono ?_
    rintro e w1 ⟨rfl, rfl⟩
    go_wp2
    go_ret
    rw [HX.out]
    exact ⟨rfl, hr, Far.refl _ _⟩
  have hdown' : s.down = false := by simpa using hdown
  rw [hdown'] at hd
  cases b
  · have HX : Hid (begin s false = (1, s)) := by unfold Hid begin; simp [hdown']
    go_enter Try.func44, Try.ntmps44
    go_wp2_with fail
    refine hd.mono ?_
    rintro e w1 ⟨rfl, rfl⟩
    go_wp2
    go_ret
    rw [HX.out]
    exact ⟨rfl, hr, Far.refl _ _⟩
  have hi := isOut_any w p 5 s.fb s.fn (hr.cell 5) (hr.cell 6)
  by_cases hA : s.fb = true ∧ s.fn = 0
  · have HX : Hid (begin s true = (8, { s with down := true })) := by unfold Hid begin; simp [hdown', hA]
    rw [show (s.fb && s.fn == 0) = true by simp [hA]] at hi
    have f9 := hr.free 9
    have c9 : w.cell? ⟨p, 9, none⟩ = some (.bool s.down) := hr.cell 9
    go_enter Try.func44, Try.ntmps44
    go_wp2_with fail
    refine hd.mono ?_
    rintro e w1 ⟨rfl, rfl⟩
    go_wp2_with fail
    refine hi.mono ?_
    rintro e w1 ⟨rfl, rfl⟩
    go_wp2
    go_ret
    rw [HX.out]
    exact ⟨rfl, hr.cellsSet 9 _ rfl, far_p (Far.refl _ _) _ _⟩
  rw [show (s.fb && s.fn == 0) = false by rw [Bool.eq_false_iff]; simpa using hA] at hi
  have hl := letOne_any w p 5 s.fb s.fn (hr.cell 5) (hr.cell 6) (hr.free 6) hf.fn
  -- behind the fuse
  obtain ⟨s1, hs1⟩ : ∃ s1 : St, s1 = { s with fn := if s.fb then s.fn - 1 else s.fn } := ⟨_, rfl⟩
  have hr1 : ∀ w', w' = (if s.fb = true then w.setCell ⟨p, 5 + 1, none⟩ (.int .i64 (s.fn - 1)) else w) → Row w' p 113 (cellsOf s1 bl bf v) ∧ Far (fun k => k = p) w w' := by
    intro w' hw'
    subst hs1
    by_cases hfb : s.fb = false
    · rw [St.fn_same s hfb]
      rw [hfb] at hw'
      simp at hw'; subst hw'
      exact ⟨hr, Far.refl _ _⟩
    · have hfb : s.fb = true := by simpa using hfb
      rw [St.fn_less s hfb]
      rw [hfb] at hw'
      simp at hw'; subst hw'
      exact ⟨hr.cellsSet 6 _ rfl, far_p (Far.refl _ _) _ _⟩
  have hr1' := Lib.hid hr1
  have htb : s1.tb = s.tb := by rw [hs1]
  have htn : s1.tn = s.tn := by rw [hs1]
  by_cases hC : s.tb = true ∧ s.tn = 0
  · have HX : Hid (begin s true = (6, { s1 with tb := false, tn := 0 })) := by
      subst hs1; unfold Hid begin; rw [if_neg hdown, if_neg (by decide), if_neg hA]; dsimp only; rw [if_pos hC]
    clear hr1 hs1
    go_enter Try.func44, Try.ntmps44
    go_wp2_with fail
    refine hd.mono ?_
    rintro e w1 ⟨rfl, rfl⟩
    go_wp2_with fail
    refine hi.mono ?_
    rintro e w1 ⟨rfl, rfl⟩
    go_wp2_with fail
    refine hl.mono ?_
    rintro e w2 ⟨rfl, hw2⟩
    obtain ⟨hr2, hf2⟩ := hr1'.out w2 hw2
    have HR2 := Lib.hid hr2
    have HF2 := Lib.hid hf2
    clear hw2 hf2 hl hi hd
    have hi2 := isOut_any w2 p 7 s1.tb s1.tn (hr2.cell 7) (hr2.cell 8)
    rw [show (s1.tb && s1.tn == 0) = true by simp [htb, htn, hC]] at hi2
    have f7 := hr2.free 7
    have f8 := hr2.free 8
    have c7 : w2.cell? ⟨p, 7, none⟩ = some (.bool s1.tb) := hr2.cell 7
    have c8 : w2.cell? ⟨p, 8, none⟩ = some (.int .i64 s1.tn) := hr2.cell 8
    clear hr2 hC htb htn
    go_wp2_with fail
    refine hi2.mono ?_
    rintro e w3 ⟨rfl, rfl⟩
    go_wp2
    go_ret
    rw [HX.out]
    exact ⟨rfl, (HR2.out.cellsSet (s' := { s1 with tb := false }) 7 _ rfl).cellsSet 8 _ rfl, far_p (far_p HF2.out _ _) _ _⟩
  · have HX : Hid (begin s true = (0, { s1 with tn := if s1.tb then s1.tn - 1 else s1.tn, acts := s1.acts + 1 })) := by
      subst hs1; unfold Hid begin; rw [if_neg hdown, if_neg (by decide), if_neg hA]; dsimp only; rw [if_neg hC]
    have hts : 0 ≤ s1.tn ∧ s1.tn ≤ 1000000 := by rw [htn]; exact hf.tn
    have has : 0 ≤ s1.acts ∧ s1.acts ≤ n := by rw [hs1]; exact hf.acts
    have h6 := hf.small
    clear hr1 hs1
    go_enter Try.func44, Try.ntmps44
    go_wp2_with fail
    refine hd.mono ?_
    rintro e w1 ⟨rfl, rfl⟩
    go_wp2_with fail
    refine hi.mono ?_
    rintro e w1 ⟨rfl, rfl⟩
    go_wp2_with fail
    refine hl.mono ?_
    rintro e w2 ⟨rfl, hw2⟩
    obtain ⟨hr2, hf2⟩ := hr1'.out w2 hw2
    have HR2 := Lib.hid hr2
    have HF2 := Lib.hid hf2
    clear hw2 hf2 hl hi hd
    have hi2 := isOut_any w2 p 7 s1.tb s1.tn (hr2.cell 7) (hr2.cell 8)
    rw [show (s1.tb && s1.tn == 0) = false by rw [Bool.eq_false_iff, htb, htn]; simpa using hC] at hi2
    have hl2 := letOne_any w2 p 7 s1.tb s1.tn (hr2.cell 7) (hr2.cell 8) (hr2.free 8) hts
    have hr3 : ∀ w', w' = (if s1.tb = true then w2.setCell ⟨p, 7 + 1, none⟩ (.int .i64 (s1.tn - 1)) else w2) → Row w' p 113 (cellsOf { s1 with tn := if s1.tb then s1.tn - 1 else s1.tn } bl bf v) ∧ Far (fun k => k = p) w1 w' := by
      intro w' hw'
      by_cases hfb : s1.tb = false
      · rw [St.tn_same s1 hfb]
        rw [hfb] at hw'
        simp at hw'; subst hw'
        exact ⟨hr2, HF2.out⟩
      · have hfb : s1.tb = true := by simpa using hfb
        rw [St.tn_less s1 hfb]
        rw [hfb] at hw'
        simp at hw'; subst hw'
        exact ⟨hr2.cellsSet 8 _ rfl, far_p HF2.out _ _⟩
    have HR3 := Lib.hid hr3
    clear hr2 hr3 hC htb htn hts
    go_wp2_with fail
    refine hi2.mono ?_
    rintro e w3 ⟨rfl, rfl⟩
    go_wp2_with fail
    refine hl2.mono ?_
    rintro e w4 ⟨rfl, hw4⟩
    obtain ⟨hr4, hf4⟩ := HR3.out w4 hw4
    have HR4 := Lib.hid hr4
    have HF4 := Lib.hid hf4
    have f10 := hr4.free 10
    have c10 : w4.cell? ⟨p, 10, none⟩ = some (.int .i64 s1.acts) := hr4.cell 10
    clear hw4 hr4 hf4 hi2 hl2
    go_wp2
    go_ret
    rw [HX.out]
    exact ⟨rfl, HR4.out.cellsSet 10 _ rfl, far_p HF4.out _ _⟩
theorem act_any (p : Nat) (s : St) (n : Nat) (G : Nat → Prop) (b : Bool) (w : World) (h : Dev w G p s n) (hn : n < 1000000) :
    Calls Try.prog 44 #[.pointer (some ⟨p, 0, none⟩), .bool b] w fun e w' => e = .returned (.int .i64 (begin s b).1) ∧ DevM w' G p (begin s b).2 (n + 1) n ∧ Far (fun k => k = p) w w' := by
  obtain ⟨bl, bf, v, nl, hr, _⟩ := id h.2
  refine (begin_any p s n bl bf v b w h.1 hr).mono ?_
  rintro e w' ⟨he, h2, h3⟩
  exact ⟨he, h.begin hr h2 h3 (begin_fits h.1 hn b), h3⟩
theorem begin_nil (b : Bool) (w : World) : Calls Try.prog 44 #[.pointer none, .bool b] w fun e w' => e = .returned (.int .i64 8) ∧ w' = w := by
  go_enter Try.func44, Try.ntmps44
  go_wp2_with fail
  refine (down_nil w).mono ?_
  rintro e w1 ⟨rfl, rfl⟩
  go_wp2
  go_ret
  exact ⟨rfl, rfl⟩
/-- the numbers alone turn -/
theorem Dev.turn {w w' : World} {G : Nat → Prop} {p : Nat} {s s' : St} {n n' : Nat} {bl bf : Nat} {v : Value} (h : Dev w G p s n) (h1 : Row w p 113 (cellsOf s bl bf v)) (h2 : Row w' p 113 (cellsOf s' bl bf v)) (hf : Far (fun k => k = p) w w') (hft : Fits s' n') (hn : n ≤ n') (e3 : s'.fl = s.fl) (e4 : s'.later = s.later) : Dev w' G p s' n' := by
  obtain ⟨h0, bl', bf', v', nl, k1, k2, k3, k4, k5, k6, k7, k8, k9, k10⟩ := h
  have e0 : cellsOf s bl bf v = cellsOf s bl' bf' v' := by
    unfold Row at h1 k1; rw [h1] at k1; injection k1 with k1; injection k1 with k1; simpa using k1
  obtain ⟨rfl, rfl, rfl⟩ : bl = bl' ∧ bf = bf' ∧ v = v' := by simpa [cellsOf] using e0
  have hne : ∀ k cs, Row w k 69 cs → k ≠ p := by
    intro k cs hk e; subst e
    unfold Row at h1 hk; rw [h1] at hk; injection hk with hk; injection hk with _ hk; exact absurd hk (by decide)
  have hb1 : bl ≠ p := fun e => k2.not_row h1 e.symm
  have hb2 : bf ≠ p := fun e => k3.not_row h1 e.symm
  have hkeep : ∀ k cs, Row w k 69 cs → G k → w'.heap[k]? = w.heap[k]? := fun k cs hk _ => hf.block k hk.lt (hne k cs hk)
  refine ⟨hft, bl, bf, v, nl, h2, ?_, ?_, ?_, k5, k6, k7, k8, fun k hk => Nat.lt_of_lt_of_le (k9 k hk) hf.size, by rw [e4]; omega⟩
  · rw [e3]; exact k2.keep (hf.block bl k2.lt hb1) hkeep (fun k _ _ hk => hk)
  · rw [e4]; exact k3.keep (hf.block bf k3.lt hb2) hkeep (fun k _ _ hk => hk)
  · rw [e4]; exact k4.keep (fun k hk hg => ⟨hf.block k (k9 k hg) fun e => k4.not_row h1 (by decide) (by rw [← e]; exact hk), hg⟩) hkeep (fun k _ _ hk => hk)
theorem limitOf_any (n : Int) (w : World) (h0 : 0 ≤ n) : Calls Try.prog 43 #[.int .i64 n] w fun e w' => e = .returned (.agg #[.bool true, .int .i64 n]) ∧ Below w.heap.size w w' := by
  have g : decide (n < 0) = false := by simpa using h0
  go_enter Try.func43, Try.ntmps43
  go_wp2
  refine bodyPost_ret (v := .agg #[.bool true, .int .i64 n]) (by simp [results, Try.results43, go_sem]) rfl ?_
  exact ⟨rfl, (Below.refl _ w).alloc (Nat.le_refl _) _⟩
theorem setFault_any (p : Nat) (s : St) (n : Nat) (G : Nat → Prop) (m : Int) (w : World) (h : Dev w G p s n) (h0 : 0 ≤ m) (h1 : m ≤ 1000000) :
    Calls Try.prog 26 #[.pointer (some ⟨p, 0, none⟩), .int .i64 m] w fun e w' => e = .returned (.tuple #[]) ∧ Dev w' G p { s with tb := true, tn := m } n ∧ Far (fun k => k = p) w w' := by
  obtain ⟨bl, bf, v, nl, hr, _⟩ := id h.2
  have hfit : Fits { s with tb := true, tn := m } n := ⟨h.1.size, h.1.blocks, h.1.fn, ⟨h0, h1⟩, h.1.acts, h.1.small, h.1.later, h.1.fl⟩
  have hd := Lib.hid h
  clear h
  have hb := limitOf_any m w h0
  go_enter Try.func26, Try.ntmps26
  go_wp2_with fail
  refine hb.mono ?_
  rintro e w1 ⟨rfl, hb1⟩
  have hr1 := hr.below hb1 hr.lt
  have hd1 := Lib.hid (hd.out.below hb1)
  have c5 : w1.cell? ⟨p, 7, none⟩ = some (.bool s.tb) := hr1.cell 7
  have c6 : w1.cell? ⟨p, 8, none⟩ = some (.int .i64 s.tn) := hr1.cell 8
  have f5 := hr1.free 7
  have f6 := hr1.free 8
  have HF1 := Lib.hid (Far.of_below hb1 (fun k => k = p))
  have HR1 := Lib.hid hr1
  clear hb1 hr1 hb
  go_wp2
  go_end0
  exact ⟨rfl, hd1.out.turn HR1.out ((HR1.out.cellsSet (s' := { s with tb := true }) 7 _ rfl).cellsSet (s' := { s with tb := true, tn := m }) 8 _ rfl) (far_p (far_p (Far.refl _ _) _ _) _ _) hfit (Nat.le_refl _) rfl rfl, far_p (far_p HF1.out _ _) _ _⟩
theorem setFault_nil (m : Int) (w : World) : Calls Try.prog 26 #[.pointer none, .int .i64 m] w fun e w' => e = .returned (.tuple #[]) ∧ w' = w := by
  go_enter Try.func26, Try.ntmps26
  go_wp2
  go_end0
  exact ⟨rfl, rfl⟩
end Go.Proofs.Ytbkgpilmgllkiaa
