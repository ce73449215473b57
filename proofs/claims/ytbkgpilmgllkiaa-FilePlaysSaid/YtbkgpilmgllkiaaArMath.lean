/- An arena, as mathematics: its room, what is used, its peak, and the grants that stand, each a block and its words. -/
import Derived.Test.YtbkgpilmgllkiaaFar
namespace Go.Proofs.Ytbkgpilmgllkiaa

/-- where block x stands in l, and with how many words -/
def findAt : List (Nat × Nat) → Nat → Nat → Option (Nat × Nat)
  | [], _, _ => none
  | q :: l, x, i => if q.1 = x then some (i, q.2) else findAt l x (i + 1)
/-- how many words x has in l -/
def wordsAt : List (Nat × Nat) → Nat → Option Nat
  | [], _ => none
  | q :: l, x => if q.1 = x then some q.2 else wordsAt l x
/-- l without x -/
def without : List (Nat × Nat) → Nat → List (Nat × Nat)
  | [], _ => []
  | q :: l, x => if q.1 = x then l else q :: without l x
/-- the sum of all words -/
def total : List (Nat × Nat) → Nat
  | [] => 0
  | q :: l => q.2 + total l

theorem findAt_none : ∀ (l : List (Nat × Nat)) (x i : Nat), wordsAt l x = none → findAt l x i = none
  | [], _, _, _ => rfl
  | q :: l, x, i, h => by
    unfold wordsAt at h; unfold findAt
    by_cases e : q.1 = x
    · rw [if_pos e] at h; cases h
    · rw [if_neg e] at h ⊢; exact findAt_none l x _ h
theorem findAt_some : ∀ (l : List (Nat × Nat)) (x i n : Nat), wordsAt l x = some n → ∃ j, findAt l x i = some (i + j, n) ∧ j < l.length ∧ l.eraseIdx j = without l x
  | [], _, _, _, h => by cases h
  | q :: l, x, i, n, h => by
    unfold wordsAt at h; unfold findAt without
    by_cases e : q.1 = x
    · rw [if_pos e] at h ⊢
      injection h with h; subst h
      exact ⟨0, rfl, by simp, by simp [e]⟩
    · rw [if_neg e] at h ⊢
      obtain ⟨j, h1, h2, h3⟩ := findAt_some l x (i + 1) n h
      refine ⟨j + 1, by rw [h1]; congr 2; omega, by simp; omega, ?_⟩
      rw [if_neg e, List.eraseIdx_cons_succ, h3]
theorem wordsAt_le : ∀ (l : List (Nat × Nat)) (x n : Nat), wordsAt l x = some n → total (without l x) + n = total l
  | [], _, _, h => by cases h
  | q :: l, x, n, h => by
    unfold wordsAt at h; unfold without
    by_cases e : q.1 = x
    · rw [if_pos e] at h ⊢
      injection h with h; subst h
      show total l + q.2 = q.2 + total l; omega
    · rw [if_neg e] at h ⊢
      have := wordsAt_le l x n h
      show q.2 + total (without l x) + n = q.2 + total l; omega
theorem total_snoc : ∀ (l : List (Nat × Nat)) (x n : Nat), total (l ++ [(x, n)]) = total l + n
  | [], _, n => by show n + 0 = 0 + n; omega
  | q :: l, x, n => by show q.2 + total (l ++ [(x, n)]) = q.2 + total l + n; rw [total_snoc l x n]; omega
theorem wordsAt_mem : ∀ (l : List (Nat × Nat)) (x n : Nat), wordsAt l x = some n → (x, n) ∈ l
  | [], _, _, h => by cases h
  | q :: l, x, n, h => by
    unfold wordsAt at h
    by_cases e : q.1 = x
    · rw [if_pos e] at h; injection h with h; subst h; subst e; exact List.mem_cons_self
    · rw [if_neg e] at h; exact List.mem_cons_of_mem _ (wordsAt_mem l x n h)
theorem wordsAt_fresh : ∀ (l : List (Nat × Nat)) (x : Nat), (∀ q ∈ l, q.1 ≠ x) → wordsAt l x = none
  | [], _, _ => rfl
  | q :: l, x, h => by
    unfold wordsAt
    rw [if_neg (h q List.mem_cons_self)]
    exact wordsAt_fresh l x fun r hr => h r (List.mem_cons_of_mem _ hr)
theorem without_mem : ∀ (l : List (Nat × Nat)) (x : Nat) (q : Nat × Nat), q ∈ without l x → q ∈ l
  | [], _, _, h => h
  | r :: l, x, q, h => by
    unfold without at h
    by_cases e : r.1 = x
    · rw [if_pos e] at h; exact List.mem_cons_of_mem _ h
    · rw [if_neg e] at h
      rcases List.mem_cons.1 h with h | h
      · rw [h]; exact List.mem_cons_self
      · exact List.mem_cons_of_mem _ (without_mem l x q h)
theorem without_length : ∀ (l : List (Nat × Nat)) (x : Nat), (without l x).length ≤ l.length
  | [], _ => Nat.le_refl _
  | r :: l, x => by
    unfold without
    by_cases e : r.1 = x
    · rw [if_pos e]; simp
    · rw [if_neg e]; have := without_length l x; simp; omega

/-- an arena -/
structure Ar where
  room : Nat
  used : Nat
  peak : Nat
  st : List (Nat × Nat)
def empty (room : Nat) : Ar := ⟨room, 0, 0, []⟩
/-- a grant of n words, block b -/
def grant (s : Ar) (b n : Nat) : Ar := { s with used := s.used + n, peak := if s.peak < s.used + n then s.used + n else s.peak, st := s.st ++ [(b, n)] }
/-- block b, of n words, stands no more -/
def release (s : Ar) (b n : Nat) : Ar := { s with used := s.used - n, st := without s.st b }
/-- what is known of an arena's numbers -/
structure Sound (s : Ar) : Prop where
  used : s.used = total s.st
  peak : s.used ≤ s.peak ∧ s.peak ≤ s.room
  room : s.room ≤ 9223372036854775807
theorem empty_sound {room : Nat} (h : room ≤ 9223372036854775807) : Sound (empty room) := ⟨rfl, ⟨Nat.le_refl _, Nat.zero_le _⟩, h⟩
theorem grant_sound {s : Ar} (h : Sound s) (b : Nat) {n : Nat} (hn : n ≤ s.room - s.used) : Sound (grant s b n) := by
  have h1 := h.peak
  refine ⟨?_, ⟨?_, ?_⟩, h.room⟩
  · show s.used + n = total (s.st ++ [(b, n)]); rw [total_snoc, h.used]
  · show s.used + n ≤ if s.peak < s.used + n then s.used + n else s.peak
    split <;> omega
  · show (if s.peak < s.used + n then s.used + n else s.peak) ≤ s.room
    split <;> omega
theorem release_sound {s : Ar} (h : Sound s) {b n : Nat} (hb : wordsAt s.st b = some n) : Sound (release s b n) := by
  have h1 := h.peak
  have h2 := wordsAt_le s.st b n hb
  have h3 := h.used
  refine ⟨?_, ⟨?_, h1.2⟩, h.room⟩
  · show s.used - n = total (without s.st b); omega
  · show s.used - n ≤ s.peak; omega
theorem release_le {s : Ar} (h : Sound s) {b n : Nat} (hb : wordsAt s.st b = some n) : n ≤ s.used := by
  have h2 := wordsAt_le s.st b n hb
  have h3 := h.used
  omega
end Go.Proofs.Ytbkgpilmgllkiaa
