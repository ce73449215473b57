/- What Take, Hold and Give mean, block by block: mathematics alone. -/
import Derived.Test.YtbkgpilmgllkiaaSpGive
namespace Go.Proofs.Ytbkgpilmgllkiaa

/-- the n blocks from k on are free -/
def roomB (s : Sp) (k n : Nat) : Prop := ∀ b, k ≤ b → b < k + n → hasB s.fr b
/-- what a call that takes n blocks from a on leaves -/
structure Took (s s' : Sp) (a n : Nat) : Prop where
  room : roomB s a n
  first : s'.first = s.first
  blocks : s'.blocks = s.blocks
  has : ∀ b, hasB s'.fr b ↔ hasB s.fr b ∧ ¬ (a ≤ b ∧ b < a + n)
  sum : sumB s'.fr + n = sumB s.fr
  ok : s'.ok
theorem took_cut {s : Sp} {i a n : Nat} (h : s.ok) (hi : i < s.fr.length) (h1 : (xAt s.fr i).1 ≤ a) (h2 : a + n ≤ (xAt s.fr i).1 + (xAt s.fr i).2) (hn : 1 ≤ n) : Took s { s with fr := cutL s.fr i a n } a n := by
  obtain ⟨c1, c2, c3⟩ := cut_spec h.2.2 hi h1 h2 hn
  exact ⟨fun b hb hb2 => ⟨_, getD_lt hi, by omega, by omega⟩, rfl, rfl, c2, c3, h.1, h.2.1, c1⟩
theorem takeS_spec {s : Sp} (h : s.ok) {n : Nat} (hn : 1 ≤ n) : (∃ s' a, takeS s n = (s', a, 0) ∧ Took s s' a n ∧ ∀ k, roomB s k n → a ≤ k) ∨ (takeS s n = (s, 0, 5) ∧ ∀ k, ¬ roomB s k n) := by
  unfold takeS
  rw [if_neg (by omega), Int.toNat_natCast]
  by_cases hl : fitI s.fr n < s.fr.length
  · rw [if_pos hl]
    obtain ⟨h1, h2⟩ := fit_least h.2.2 hn hl
    exact .inl ⟨_, _, rfl, took_cut h hl (Nat.le_refl _) (by omega) hn, h2⟩
  · rw [if_neg hl]
    exact .inr ⟨rfl, fun k => fit_none h.2.2 hn (by omega) k⟩
theorem takeS_bad (s : Sp) {n : Int} (hn : n < 1) : takeS s n = (s, 0, 1) := by unfold takeS; rw [if_pos hn]
theorem takeS_ok {s : Sp} (h : s.ok) (n : Int) : (takeS s n).1.ok := by
  by_cases hn : n < 1
  · rw [takeS_bad s hn]; exact h
  · obtain ⟨m, rfl⟩ : ∃ m : Nat, n = (m : Int) := ⟨n.toNat, by omega⟩
    rcases takeS_spec h (n := m) (by omega) with ⟨s', a, e, ht, _⟩ | ⟨e, _⟩
    · rw [e]; exact ht.ok
    · rw [e]; exact h
theorem holdS_spec {s : Sp} (h : s.ok) (f n : Int) : (∃ s' a m, f = (a : Nat) ∧ n = (m : Nat) ∧ 1 ≤ m ∧ holdS s f n = (s', 0) ∧ Took s s' a m) ∨ (holdS s f n = (s, 1) ∧ ∀ a m : Nat, f = a → n = m → 1 ≤ m → ¬ roomB s a m) := by
  unfold holdS
  by_cases hn : n < 1
  · rw [if_pos hn]
    exact .inr ⟨rfl, fun a m _ e hm => by omega⟩
  · rw [if_neg hn]
    by_cases hx : nextZ s.fr f < s.fr.length ∧ ((xAt s.fr (nextZ s.fr f)).1 : Int) ≤ f ∧ n ≤ (((xAt s.fr (nextZ s.fr f)).1 + (xAt s.fr (nextZ s.fr f)).2 : Nat) : Int) - f
    · rw [if_pos hx]
      obtain ⟨a, rfl⟩ : ∃ a : Nat, f = (a : Int) := ⟨f.toNat, by omega⟩
      obtain ⟨m, rfl⟩ : ∃ m : Nat, n = (m : Int) := ⟨n.toNat, by omega⟩
      simp only [Int.toNat_natCast]
      exact .inl ⟨_, a, m, rfl, rfl, by omega, rfl, took_cut h hx.1 (by omega) (by omega) (by omega)⟩
    · rw [if_neg hx]
      refine .inr ⟨rfl, fun a m ha hm h1 hr => hx ?_⟩
      subst ha; subst hm
      rw [nextZ_nat]
      obtain ⟨h2, h3, h4⟩ := next_holds h.2.2 h1 hr
      exact ⟨h2, by omega, by omega⟩
theorem holdS_ok {s : Sp} (h : s.ok) (f n : Int) : (holdS s f n).1.ok := by
  rcases holdS_spec h f n with ⟨s', a, m, _, _, _, e, ht⟩ | ⟨e, _⟩
  · rw [e]; exact ht.ok
  · rw [e]; exact h
/-- what a call that gives n blocks from a on leaves -/
structure Gave (s s' : Sp) (a n : Nat) : Prop where
  lo : s.first ≤ a
  hi : a + n ≤ s.first + s.blocks
  none : ∀ b, a ≤ b → b < a + n → ¬ hasB s.fr b
  first : s'.first = s.first
  blocks : s'.blocks = s.blocks
  has : ∀ b, hasB s'.fr b ↔ hasB s.fr b ∨ (a ≤ b ∧ b < a + n)
  sum : sumB s'.fr = sumB s.fr + n
  ok : s'.ok
theorem giveS_spec {s : Sp} (h : s.ok) (f n : Int) : (∃ s' a m, f = (a : Nat) ∧ n = (m : Nat) ∧ 1 ≤ m ∧ giveS s f n = (s', 0) ∧ Gave s s' a m) ∨
    (giveS s f n = (s, 1) ∧ ∀ a m : Nat, f = a → n = m → 1 ≤ m → ¬ (s.first ≤ a ∧ a + m ≤ s.first + s.blocks ∧ ∀ b, a ≤ b → b < a + m → ¬ hasB s.fr b)) := by
  unfold giveS
  by_cases hx : n < 1 ∨ ¬ ((s.first : Int) ≤ f ∧ n ≤ ((s.first + s.blocks : Nat) : Int) - f) ∨ (nextI s.fr f.toNat < s.fr.length ∧ (xAt s.fr (nextI s.fr f.toNat)).1 < f.toNat + n.toNat)
  · rw [if_pos hx]
    refine .inr ⟨rfl, fun a m ha hm h1 hh => ?_⟩
    subst ha; subst hm
    simp only [Int.toNat_natCast] at hx
    rcases hx with hx | hx | hx
    · omega
    · exact hx ⟨by omega, by omega⟩
    · have := (next_none h.2.2 h1).1 hh.2.2 hx.1; omega
  · rw [if_neg hx]
    have h1 : ¬ n < 1 := fun h => hx (.inl h)
    have h2 : (s.first : Int) ≤ f ∧ n ≤ ((s.first + s.blocks : Nat) : Int) - f := Classical.not_not.1 fun h => hx (.inr (.inl h))
    obtain ⟨a, rfl⟩ : ∃ a : Nat, f = (a : Int) := ⟨f.toNat, by omega⟩
    obtain ⟨m, rfl⟩ : ∃ m : Nat, n = (m : Int) := ⟨n.toNat, by omega⟩
    simp only [Int.toNat_natCast] at hx ⊢
    have hno : ∀ b, a ≤ b → b < a + m → ¬ hasB s.fr b := (next_none h.2.2 (by omega)).2 fun hlt => by
      rcases Nat.lt_or_ge (xAt s.fr (nextI s.fr a)).1 (a + m) with h3 | h3
      · exact absurd (.inr (.inr ⟨hlt, h3⟩)) hx
      · exact h3
    obtain ⟨c1, c2, c3⟩ := join_spec h.2.2 (show 1 ≤ m by omega) (show s.first ≤ a by omega) (by omega) hno
    exact .inl ⟨_, a, m, rfl, rfl, by omega, rfl, ⟨by omega, by omega, hno, rfl, rfl, c2, c3, h.1, h.2.1, c1⟩⟩
theorem giveS_ok {s : Sp} (h : s.ok) (f n : Int) : (giveS s f n).1.ok := by
  rcases giveS_spec h f n with ⟨s', a, m, _, _, _, e, ht⟩ | ⟨e, _⟩
  · rw [e]; exact ht.ok
  · rw [e]; exact h
end Go.Proofs.Ytbkgpilmgllkiaa
