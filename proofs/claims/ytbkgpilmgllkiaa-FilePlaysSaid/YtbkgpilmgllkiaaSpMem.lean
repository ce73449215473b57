/- A space in memory; New, Free, Extents, and the small calls. -/
import Derived.Test.YtbkgpilmgllkiaaSpRep
import Derived.Lib.QuietBelow
import Derived.Lib.SliceRun
namespace Go.Proofs.Ytbkgpilmgllkiaa
open Go.ChangeShapes Go.WideShapes Go.ChangeAt Go.RowKit

def spCells (s : Sp) (v : Value) : List Value := [.int .i64 s.first, .int .i64 s.blocks, v]
/-- block p is a space that is as s says; its memory, this block and its extents' row, is G -/
def Spc (w : World) (G : Nat → Prop) (p : Nat) (s : Sp) : Prop :=
  s.ok ∧ ∃ v, Row w p 101 (spCells s v) ∧ w.ownsRow 0 98 2 v s.fr.length (flatX s.fr) ∧ ∀ k, G k ↔ k = p ∨ v.ownBlock = some k
theorem own2_row {w : World} {v : Value} {n : Nat} {l : List Ex} (h : w.ownsRow 0 98 2 v n (flatX l)) {k : Nat} (hk : v.ownBlock = some k) : ∃ cs, Row w k 98 cs := by
  rcases own2_of h with ⟨rfl, _⟩ | ⟨g, cap, cur, rfl, h1⟩
  · cases hk
  · injection hk with hk; subst hk; exact ⟨_, h1.row⟩
theorem own2_far {w w' : World} {F : Nat → Prop} {v : Value} {n : Nat} {l : List Ex} (h : w.ownsRow 0 98 2 v n (flatX l)) (hf : Far F w w') (hn : ∀ k, v.ownBlock = some k → ¬ F k) : w'.ownsRow 0 98 2 v n (flatX l) := by
  obtain ⟨h1, h2⟩ := h
  refine ⟨h1, ?_⟩
  rcases h2 with h2 | ⟨g, cap, cur, rfl, hg, hh, r⟩
  · exact .inl h2
  · exact .inr ⟨g, cap, cur, rfl, hg, hf.row (g := g) (cs := cur.toList) (by unfold Row; simpa using hh) (hn g rfl), r⟩
theorem own2_below {w w' : World} {v : Value} {n : Nat} {l : List Ex} (h : w.ownsRow 0 98 2 v n (flatX l)) (hb : Below w.heap.size w w') : w'.ownsRow 0 98 2 v n (flatX l) :=
  own2_far h (Far.of_below hb fun _ => False) fun _ _ hf => hf
/-- a slice of extents that is read: at place i -/
theorem own2_at {w : World} {A : Option Addr} {n c : Nat} {l : List Ex} (h : w.ownsRow 0 98 2 (.slice A n c) n (flatX l)) {i : Nat} (hi : i < n) :
    ∃ g, A = some ⟨g, 0, none⟩ ∧ g < w.heap.size ∧ w.cell? ⟨g, i * 2, none⟩ = some (.int .i64 (xAt l i).1) ∧ w.cell? ⟨g, i * 2 + 1, none⟩ = some (.int .i64 (xAt l i).2) := by
  rcases own2_of h with ⟨_, h0, _⟩ | ⟨g, cap, cur, e, h1⟩
  · omega
  · injection e with e1 e2 e3
    exact ⟨g, e1, h1.row.lt, (h1.at_ hi).1, (h1.at_ hi).2⟩
section
variable {w w' : World} {G : Nat → Prop} {p : Nat} {s : Sp}
theorem Spc.lt (h : Spc w G p s) {k : Nat} (hk : G k) : k < w.heap.size := by
  obtain ⟨_, v, hr, ho, hG⟩ := h
  rcases (hG k).1 hk with rfl | hk
  · exact hr.lt
  · exact (ho.lt k hk).2
theorem Spc.mine (h : Spc w G p s) : G p := by obtain ⟨_, v, hr, ho, hG⟩ := h; exact (hG p).2 (.inl rfl)
theorem Spc.far {F : Nat → Prop} (h : Spc w G p s) (hf : Far F w w') (hn : ∀ k, G k → ¬ F k) : Spc w' G p s := by
  obtain ⟨h0, v, hr, ho, hG⟩ := h
  exact ⟨h0, v, hf.row hr (hn p ((hG p).2 (.inl rfl))), own2_far ho hf fun k hk => hn k ((hG k).2 (.inr hk)), hG⟩
theorem Spc.below (h : Spc w G p s) (hb : Below w.heap.size w w') : Spc w' G p s := h.far (Far.of_below hb fun _ => False) fun _ _ hf => hf
/-- no row of another type is of a space's memory -/
theorem Spc.types (h : Spc w G p s) {k : Nat} {t : TypeId} {cs : List Value} (hr : Row w k t cs) (h1 : t ≠ 101) (h2 : t ≠ 98) : ¬ G k := by
  obtain ⟨_, v, hrp, ho, hG⟩ := h
  have typed : ∀ {g : Nat} {a b : TypeId} {xs ys : List Value}, Row w g a xs → Row w g b ys → a = b := fun {g a b xs ys} h k => by
    unfold Row at h k; rw [h] at k; injection k with k; injection k
  intro hk
  rcases (hG k).1 hk with rfl | hk
  · exact h1 (typed hr hrp)
  · obtain ⟨ds, hd⟩ := own2_row ho hk
    exact h2 (typed hr hd)
end

set_option maxRecDepth 100000 in
theorem end_any (f n : Nat) (w : World) (h : f + n ≤ 4000000) : Calls Try.prog 65 #[.agg #[.int .i64 f, .int .i64 n]] w fun e w' => e = .returned (.int .i64 ((f + n : Nat) : Int)) ∧ Below w.heap.size w w' := by
  obtain ⟨u, hu⟩ : ∃ u, f + n = u := ⟨_, rfl⟩
  rw [hu]
  have hadd : (f : Int) + (n : Int) = (u : Int) := by omega
  have hw : IntKind.i64.wrap (u : Int) = (u : Int) := IntWalk.i64_in _ (by omega)
  have HB := Lib.hid ((Below.refl w.heap.size w).alloc (Nat.le_refl _) (.cells #[.int .i64 f, .int .i64 n] 98))
  go_enter Try.func65, Try.ntmps65
  go_wp2
  go_ret
  exact ⟨rfl, HB.out⟩
theorem end_q (f n : Nat) (w : World) (h : f + n ≤ 4000000) (d : Nat) (os : Array Obj) : Calls Try.prog 65 #[.agg #[.int .i64 f, .int .i64 n]] (Sort.grow (redrawn w d) os) fun e w'' => e = .returned (.int .i64 ((f + n : Nat) : Int)) ∧ ∃ p : Regrown, w'' = Sort.grow (redrawn w p.d) p.os :=
  Calls.regrown_of (end_any f n _ h)

set_option maxRecDepth 100000 in
/-- does (a, b) hold the n blocks from f on -/
theorem holds_any (a b : Nat) (f n : Int) (w : World) (h : a + b ≤ 4000000) (hf : I64 f) : Calls Try.prog 63 #[.agg #[.int .i64 a, .int .i64 b], .int .i64 f, .int .i64 n] w fun e w' => e = .returned (.bool (decide ((a : Int) ≤ f) && decide (n ≤ ((a + b : Nat) : Int) - f))) ∧ Below w.heap.size w w' := by
  have bf := hf.bounds
  have HB := Lib.hid ((Below.refl w.heap.size w).alloc (Nat.le_refl _) (.cells #[.int .i64 a, .int .i64 b] 98))
  by_cases h1 : (a : Int) ≤ f
  · have g1 : decide ((a : Int) ≤ f) = true := by simpa using h1
    have g2 : decide (f ≥ (a : Int)) = true := by simpa using h1
    have he := end_any a b (w.alloc (.cells #[.int .i64 a, .int .i64 b] 98)) h
    obtain ⟨u, hu⟩ : ∃ u, a + b = u := ⟨_, rfl⟩
    rw [hu] at he ⊢
    have hw : IntKind.i64.wrap ((u : Int) - f) = (u : Int) - f := IntWalk.i64_in _ (by omega)
    have HE := Lib.hid he
    rw [g1]
    clear he h1
    go_enter Try.func63, Try.ntmps63
    go_wp2_with fail
    refine HE.out.mono ?_
    rintro e w2 ⟨rfl, hb⟩
    have HB2 := Lib.hid (HB.out.trans (hb.mono (by simp)))
    clear hb
    go_wp2
    go_ret
    exact ⟨by simp, HB2.out⟩
  · have g1 : decide ((a : Int) ≤ f) = false := by simpa using h1
    have g2 : decide (f ≥ (a : Int)) = false := by simpa using h1
    rw [g1]
    clear h1
    go_enter Try.func63, Try.ntmps63
    go_wp2
    go_ret
    exact ⟨by simp, HB.out⟩

/-- a new space's answer -/
def newSp (f n : Nat) : Sp := ⟨f, n, if n = 0 then [] else [(f, n)]⟩
theorem newSp_ok {f n : Nat} (hf : f ≤ 1000000) (hn : n ≤ 1000000) : (newSp f n).ok := by
  refine ⟨hf, hn, ?_⟩
  unfold newSp
  by_cases h : n = 0
  · simp [h, Canon]
  · simp [h, Canon]; omega
theorem newSp_has {f n b : Nat} : hasB (newSp f n).fr b ↔ f ≤ b ∧ b < f + n := by
  unfold newSp
  by_cases h : n = 0
  · simp [h, hasB]
  · simp [h, hasB]
set_option maxHeartbeats 1000000 in
set_option maxRecDepth 100000 in
theorem new_none (f n : Int) (w : World) (h : ¬ (0 ≤ f ∧ f ≤ 1000000 ∧ 0 ≤ n ∧ n ≤ 1000000)) : Calls Try.prog 40 #[.int .i64 f, .int .i64 n] w fun e w' => e = .returned (.pointer none) ∧ w' = w := by
  by_cases h1 : f < 0
  · have g1 : decide (f < 0) = true := by simpa using h1
    clear h
    go_enter Try.func40, Try.ntmps40
    go_wp2
    go_ret
    exact ⟨rfl, rfl⟩
  have g1 : decide (f < 0) = false := by simpa using h1
  by_cases h2 : f > 1000000
  · have g2 : decide (f > 1000000) = true := by simpa using h2
    clear h h1
    go_enter Try.func40, Try.ntmps40
    go_wp2
    go_ret
    exact ⟨rfl, rfl⟩
  have g2 : decide (f > 1000000) = false := by simpa using h2
  by_cases h3 : n < 0
  · have g3 : decide (n < 0) = true := by simpa using h3
    clear h h1 h2
    go_enter Try.func40, Try.ntmps40
    go_wp2
    go_ret
    exact ⟨rfl, rfl⟩
  have g3 : decide (n < 0) = false := by simpa using h3
  have g4 : decide (n > 1000000) = true := by simp; omega
  clear h h1 h2 h3
  go_enter Try.func40, Try.ntmps40
  go_wp2
  go_ret
  exact ⟨rfl, rfl⟩
set_option maxHeartbeats 1000000 in
set_option maxRecDepth 100000 in
theorem spnew_any (f n : Nat) (w : World) (hf : f ≤ 1000000) (hn : n ≤ 1000000) : Calls Try.prog 40 #[.int .i64 f, .int .i64 n] w fun e w' => ∃ p G, e = .returned (.pointer (some ⟨p, 0, none⟩)) ∧ Spc w' G p (newSp f n) ∧ (∀ k, G k → w.heap.size ≤ k) ∧ Below w.heap.size w w' := by
  have g1 : decide ((f : Int) < 0) = false := by simp
  have g2 : decide ((f : Int) > 1000000) = false := by simp; omega
  have g3 : decide ((n : Int) < 0) = false := by simp
  have g4 : decide ((n : Int) > 1000000) = false := by simp; omega
  have HOK := Lib.hid (newSp_ok hf hn)
  by_cases h : n = 0
  · subst h
    have hb := (Below.refl w.heap.size w).alloc (Nat.le_refl _) (.cells #[.int .i64 f, .int .i64 0, .slice none 0 0] 101)
    have hr : Row (w.alloc (.cells #[.int .i64 f, .int .i64 0, .slice none 0 0] 101)) w.heap.size 101 (spCells (newSp f 0) (.slice none 0 0)) := heap_alloc_new _ _
    have HX : Hid (∃ p G, Ending.returned (.pointer (some ⟨w.heap.size, 0, none⟩)) = Ending.returned (.pointer (some ⟨p, 0, none⟩)) ∧ Spc (w.alloc (.cells #[.int .i64 f, .int .i64 0, .slice none 0 0] 101)) G p (newSp f 0) ∧ (∀ k, G k → w.heap.size ≤ k) ∧ Below w.heap.size w (w.alloc (.cells #[.int .i64 f, .int .i64 0, .slice none 0 0] 101))) :=
      ⟨_, fun k => k = w.heap.size, rfl, ⟨HOK.out, _, hr, World.ownsRow_nil _ _ _ _, fun k => ⟨.inl, fun h => h.elim id fun e => by cases e⟩⟩, fun k hk => by omega, hb⟩
    clear hb hr
    go_enter Try.func40, Try.ntmps40
    go_wp2
    go_ret
    exact HX.out
  · have g5 : decide ((n : Int) > 0) = true := by simp; omega
    have g6 : decide (0 < n) = true := by simp; omega
    have hx : ∀ W, W = (w.alloc (.cells #[.int .i64 f, .int .i64 n, .slice (some ⟨w.heap.size + 1, 0, none⟩) 1 1] 101)).alloc (.cells #[.int .i64 f, .int .i64 n] 98) →
        (∃ p G, Ending.returned (.pointer (some ⟨w.heap.size, 0, none⟩)) = Ending.returned (.pointer (some ⟨p, 0, none⟩)) ∧ Spc W G p (newSp f n) ∧ (∀ k, G k → w.heap.size ≤ k) ∧ Below w.heap.size w W) := by
      rintro W rfl
      have hb := ((Below.refl w.heap.size w).alloc (Nat.le_refl _) (.cells #[.int .i64 f, .int .i64 n, .slice (some ⟨w.heap.size + 1, 0, none⟩) 1 1] 101)).alloc (by simp) (.cells #[.int .i64 f, .int .i64 n] 98)
      have hr0 : Row (w.alloc (.cells #[.int .i64 f, .int .i64 n, .slice (some ⟨w.heap.size + 1, 0, none⟩) 1 1] 101)) w.heap.size 101 [.int .i64 f, .int .i64 n, .slice (some ⟨w.heap.size + 1, 0, none⟩) 1 1] := heap_alloc_new _ _
      have hr := hr0.alloc (.cells #[.int .i64 f, .int .i64 n] 98)
      have he : Row ((w.alloc (.cells #[.int .i64 f, .int .i64 n, .slice (some ⟨w.heap.size + 1, 0, none⟩) 1 1] 101)).alloc (.cells #[.int .i64 f, .int .i64 n] 98)) (w.heap.size + 1) 98 [.int .i64 f, .int .i64 n] := by
        have := heap_alloc_new (w.alloc (.cells #[.int .i64 f, .int .i64 n, .slice (some ⟨w.heap.size + 1, 0, none⟩) 1 1] 101)) (.cells #[.int .i64 f, .int .i64 n] 98)
        rw [World.size_alloc] at this
        exact this
      have hfr : (newSp f n).fr = [(f, n)] := by unfold newSp; simp [h]
      refine ⟨_, fun k => k = w.heap.size ∨ k = w.heap.size + 1, rfl, ⟨HOK.out, .slice (some ⟨w.heap.size + 1, 0, none⟩) 1 1, hr, ?_, fun k => ?_⟩, fun k hk => by omega, hb⟩
      · rw [hfr]
        exact (Own2.own (cap := 1) ⟨he, rfl, Nat.le_refl _, by omega, rfl, rfl⟩)
      · simp only [Value.ownBlock]
        constructor
        · rintro (h | h)
          · exact .inl h
          · exact .inr (by rw [h])
        · rintro (h | h)
          · exact .inl h
          · injection h with h; exact .inr h.symm
    have HX := Lib.hid hx
    clear hx h hf hn
    go_enter Try.func40, Try.ntmps40
    go_wp2
    go_ret
    exact HX.out _ rfl

set_option maxRecDepth 100000 in
theorem free_nil (w : World) : Calls Try.prog 15 #[.pointer none] w fun e w' => e = .returned (.int .i64 0) ∧ w' = w := by
  go_enter Try.func15, Try.ntmps15
  go_wp2
  go_ret
  exact ⟨rfl, rfl⟩
theorem sumB_take {l : List Ex} {k : Nat} (hk : k < l.length) : sumB (l.take (k + 1)) = sumB (l.take k) + (xAt l k).2 := by
  rw [List.take_add_one, List.getElem?_eq_getElem hk, xAt_eq hk, sumB_append]
  simp [sumB]
theorem sumB_le {l : List Ex} (k : Nat) : sumB (l.take k) ≤ sumB l := by
  conv => rhs; rw [← List.take_append_drop k l, sumB_append]
  omega
set_option maxHeartbeats 1600000 in
set_option maxRecDepth 100000 in
theorem free_any (p : Nat) (s : Sp) (G : Nat → Prop) (w : World) (h : Spc w G p s) : Calls Try.prog 15 #[.pointer (some ⟨p, 0, none⟩)] w fun e w' => e = .returned (.int .i64 (sumB s.fr : Nat)) ∧ Below w.heap.size w w' := by
  obtain ⟨h0, v, hr, ho, hG⟩ := h
  obtain ⟨A, c, rfl, hnc, hcm, _⟩ := own2_form ho
  have c2 : w.cell? ⟨p, 2, none⟩ = some (.slice A s.fr.length c) := hr.cell 2
  have hpl := hr.lt
  obtain ⟨n, hn⟩ : ∃ n, s.fr.length = n := ⟨_, rfl⟩
  have hlen := h0.len
  have hsum : sumB s.fr ≤ 4000000 := by have := h0.2.2.sum; have := h0.2.1; omega
  generalize hl : s.fr = l at *
  have HN := Lib.hid hn
  rw [hn] at c2 hlen
  have HO : Hid (w.ownsRow 0 98 2 (.slice A n c) n (flatX l)) := by rw [← hn]; exact ho
  have HS := Lib.hid hsum
  have HSUM : Hid (sumB (l.take n) = sumB l) := by unfold Hid; rw [List.take_of_length_le (by omega)]
  clear h0 hr ho hG hn hsum
  go_enter Try.func15, Try.ntmps15
  go_wp2
  go_loopw [3, 13] (fun sv iv wr => ∃ k : Nat, k ≤ n ∧ iv = .int .i64 k ∧ sv = .int .i64 (sumB (l.take k) : Nat) ∧ Below w.heap.size w wr) (fun _ iv _ => n - (intOf iv).toNat)
  case atStart => exact ⟨0, by omega, rfl, rfl, Below.refl _ _⟩
  case round =>
    obtain ⟨k, hk, rfl, rfl, hbw⟩ := hrel
    have HBW := Lib.hid hbw
    by_cases hlt : k < n
    · obtain ⟨g, rfl, hg, hc0, hc1⟩ := own2_at (own2_below HO.out hbw) hlt
      obtain ⟨a, ha⟩ : ∃ a, (xAt l k).1 = a := ⟨_, rfl⟩
      obtain ⟨b, hb⟩ : ∃ b, (xAt l k).2 = b := ⟨_, rfl⟩
      have hst := sumB_take (l := l) (k := k) (by have := HN.out; omega)
      have hle := sumB_le (l := l) (k + 1)
      rw [ha] at hc0
      rw [hb] at hc1 hst
      obtain ⟨t, ht⟩ : ∃ t, sumB (l.take k) = t := ⟨_, rfl⟩
      obtain ⟨u, hu⟩ : ∃ u, sumB (l.take (k + 1)) = u := ⟨_, rfl⟩
      rw [ht]
      rw [ht, hu] at hst
      rw [hu] at hle
      have hadd : (t : Int) + (b : Int) = (u : Int) := by omega
      have hw1 : IntKind.i64.wrap (u : Int) = (u : Int) := IntWalk.i64_in _ (by have := HS.out; omega)
      have HU := Lib.hid hu
      clear hst hle ha hb ht hu hbw
      go_wp2
      have HB2 := Lib.hid (HBW.out.alloc (by have := HBW.out.size; omega) (.cells #[.int .i64 a, .int .i64 b] 98))
      go_roundw
      case rel => exact ⟨k + 1, by omega, by go_num, by rw [HU.out], HB2.out⟩
      case measure => simp [intOf]; omega
    · obtain rfl : k = n := by omega
      rw [HSUM.out]
      clear hbw
      go_wp2
      go_ret
      exact ⟨rfl, HBW.out⟩

end Go.Proofs.Ytbkgpilmgllkiaa
