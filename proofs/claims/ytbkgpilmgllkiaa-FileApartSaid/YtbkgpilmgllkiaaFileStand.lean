/- What a writer has laid on the device, as mathematics; acts that went well. -/
import Derived.Test.YtbkgpilmgllkiaaFileNext
import Derived.Test.YtbkgpilmgllkiaaFileTup
namespace Go.Proofs.Ytbkgpilmgllkiaa

/-- acts that went well, so many -/
structure Wrote (D D' : St) (m : Nat) : Prop where
  size : D'.size = D.size
  blocks : D'.blocks = D.blocks
  acts : D'.acts = D.acts + m
  calm : Calm D → Calm D'
  alive : D.down = false ∧ D.fb = false → D'.down = false ∧ D'.fb = false
theorem Wrote.refl (D : St) : Wrote D D 0 := ⟨rfl, rfl, by simp, id, id⟩
theorem Wrote.trans {D D1 D2 : St} {m n : Nat} (h : Wrote D D1 m) (k : Wrote D1 D2 n) : Wrote D D2 (m + n) :=
  ⟨k.size.trans h.size, k.blocks.trans h.blocks, by rw [k.acts, h.acts]; omega, fun hc => k.calm (h.calm hc), fun ha => k.alive (h.alive ha)⟩
theorem wrote_begin {s : St} {r : Bool} (h : (begin s r).1 = 0) : Wrote s (begin s r).2 1 := by
  unfold begin at h ⊢
  split at h
  · exact absurd h (by omega)
  · rename_i h1
    split at h
    · exact absurd h (by omega)
    · rename_i h2
      split at h
      · exact absurd h (by omega)
      · rename_i h3
        dsimp only at h
        split at h
        · exact absurd h (by omega)
        · rename_i h4
          rw [if_neg h1, if_neg h2, if_neg h3]
          dsimp only
          rw [if_neg h4]
          exact ⟨rfl, rfl, rfl, fun hc => ⟨hc.1, hc.2.1, hc.2.2⟩, fun ha => ha⟩
theorem wrote_write {s : St} {i : Int} {l : List Nat} (h : (write s i l).1 = 0) : Wrote s (write s i l).2 1 := by
  unfold write at h ⊢
  dsimp only at h ⊢
  by_cases hb : (begin s (right s i && decide (l.length = s.size))).1 = 0
  · rw [if_pos hb]
    have k := wrote_begin hb
    exact ⟨k.size, k.blocks, k.acts, fun hc => k.calm hc, fun ha => k.alive ha⟩
  · rw [if_neg hb] at h; exact absurd h hb
theorem wrote_read {s : St} {i : Int} (h : (read s i).1 = 0) : Wrote s (read s i).2 1 := wrote_begin h
/-- a device that has not gone down tells its fault alone -/
theorem begin_code {s : St} {r : Bool} (ha : s.down = false ∧ s.fb = false) (hr : r = true) (h : (begin s r).1 ≠ 0) : (begin s r).1 = 6 ∧ (begin s r).2.acts = s.acts := by
  unfold begin at h ⊢
  rw [if_neg (by simp [ha.1]), if_neg (by simp [hr]), if_neg (by simp [ha.2])] at h ⊢
  dsimp only at h ⊢
  split at h
  · rename_i h1; rw [if_pos h1]; exact ⟨rfl, rfl⟩
  · exact absurd rfl h
theorem write_code {s : St} {i : Int} {l : List Nat} (ha : s.down = false ∧ s.fb = false) (hi : right s i = true) (hl : l.length = s.size) (h : (write s i l).1 ≠ 0) : (write s i l).1 = 6 := by
  have hr : (right s i && decide (l.length = s.size)) = true := by simp [hi, hl]
  unfold write at h ⊢
  dsimp only at h ⊢
  by_cases hb : (begin s (right s i && decide (l.length = s.size))).1 = 0
  · rw [if_pos hb] at h; exact absurd rfl h
  · rw [if_neg hb] at h ⊢; exact (begin_code ha hr h).1
theorem read_code {s : St} {i : Int} (ha : s.down = false ∧ s.fb = false) (hi : right s i = true) (h : (read s i).1 ≠ 0) : (read s i).1 = 6 := (begin_code ha hi h).1
theorem calm_alive {s : St} (h : Calm s) : s.down = false ∧ s.fb = false := ⟨h.1, h.2.1⟩

/-- a writer's full blocks lie on the device -/
def WStand (D : St) (t : Wt) : Prop := StandsTo D t.first t.k t.h t.l (t.l.length / t.h)
section
variable {D : St} {t : Wt} {tu : Tup}
theorem wstand_nil (h : t.l = []) : WStand D t := by
  intro j hj
  rw [h] at hj; simp at hj
theorem snoc_len (t : Wt) (tu : Tup) : (t.snoc tu).l.length = t.l.length + 1 := by show (t.l ++ [tu]).length = _; simp
theorem div_succ_ne {c h : Nat} (hh : 0 < h) (h0 : (c + 1) % h ≠ 0) : (c + 1) / h = c / h := by
  have h1 := Nat.div_add_mod (c + 1) h
  have h2 := Nat.div_add_mod c h
  have h3 := Nat.mod_lt (c + 1) hh
  have h4 := Nat.mod_lt c hh
  have a1 : ¬ (c + 1) / h < c / h := fun hlt => by
    have := Nat.mul_le_mul_left h (show (c + 1) / h + 1 ≤ c / h from hlt)
    rw [Nat.mul_add, Nat.mul_one] at this; omega
  have a2 : ¬ c / h < (c + 1) / h := fun hlt => by
    have := Nat.mul_le_mul_left h (show c / h + 1 ≤ (c + 1) / h from hlt)
    rw [Nat.mul_add, Nat.mul_one] at this; omega
  omega
theorem div_succ_eq {c h : Nat} (_hh : 0 < h) (h0 : (c + 1) % h = 0) : (c + 1) / h = c / h + 1 := by
  have := Nat.succ_div_of_mod_eq_zero (a := c) (b := h) h0
  exact this
theorem stands_more {D : St} {first k h m : Nat} {l l' : List Tup} (hs : StandsTo D first k h l m) (hm : m * h ≤ l.length) : StandsTo D first k h (l ++ l') m := by
  intro j hj
  rw [hs j hj, pay_more (Nat.le_trans (Nat.mul_le_mul_right h (show j + 1 ≤ m from hj)) hm)]
theorem wstand_buf (hok : 0 < t.h) (h : WStand D t) (h0 : (t.l.length + 1) % t.h ≠ 0) : WStand D (t.snoc tu) := by
  unfold WStand
  rw [snoc_len]
  show StandsTo D t.first t.k t.h (t.l ++ [tu]) ((t.l.length + 1) / t.h)
  rw [div_succ_ne hok h0]
  exact stands_more h (Nat.div_mul_le_self _ _)
theorem now_write_at {i : Int} {l : List Nat} (h0 : (write D i l).1 = 0) : (write D i l).2.now i = l := (now_write h0).1
/-- blocks elsewhere stay -/
theorem stands_write {first k h m : Nat} {l : List Tup} {i : Int} {ws : List Nat} (hs : StandsTo D first k h l m) (hi : ∀ j, j < m → ((first + j : Nat) : Int) ≠ i) : StandsTo (write D i ws).2 first k h l m := by
  intro j hj
  by_cases h0 : (write D i ws).1 = 0
  · obtain ⟨_, h2, h3, _⟩ := now_write h0
    rw [h2 _ (hi j hj), h3]; exact hs j hj
  · obtain ⟨h2, h3, _⟩ := now_fail h0
    rw [h2, h3]; exact hs j hj
theorem stands_same {D' : St} {first k h m : Nat} {l : List Tup} (hs : StandsTo D first k h l m) (hn : ∀ i, D'.now i = D.now i) (hz : D'.size = D.size) : StandsTo D' first k h l m := fun j hj => by rw [hn, hz]; exact hs j hj
/-- the last block is written as well -/
theorem stands_last (hk : 0 < t.h) (hl : 0 < t.l.length) (h0 : (write D (lastAd t : Nat) (lastW8 D.size t)).1 = 0) (hs : StandsTo D t.first t.k t.h t.l (blocksN t.h t.l.length - 1)) : StandsTo (write D (lastAd t : Nat) (lastW8 D.size t)).2 t.first t.k t.h t.l (blocksN t.h t.l.length) := by
  obtain ⟨h1, h2, h3, _⟩ := now_write h0
  have hbp := blocks_pos hk hl
  intro j hj
  by_cases hj2 : j = blocksN t.h t.l.length - 1
  · subst hj2
    show (write D (lastAd t : Nat) (lastW8 D.size t)).2.now ((lastAd t : Nat) : Int) = _
    rw [h1, h3]
    unfold lastW8
    rw [pay_last hk hl]; rfl
  · rw [h2 _ (by unfold lastAd; omega), h3]; exact hs j (by omega)
theorem wstand_put (hk : 0 < t.h) (h : WStand D t) (h0 : (t.l.length + 1) % t.h = 0) (hw : (write D (lastAd (t.snoc tu) : Nat) (lastW8 D.size (t.snoc tu))).1 = 0) : WStand (write D (lastAd (t.snoc tu) : Nat) (lastW8 D.size (t.snoc tu))).2 (t.snoc tu) := by
  have hb : blocksN t.h (t.snoc tu).l.length = (t.snoc tu).l.length / t.h := by
    rw [snoc_len]; exact blocks_full h0
  unfold WStand
  have := stands_last (t := t.snoc tu) (D := D) hk (by rw [snoc_len]; omega) hw (by
    show StandsTo D t.first t.k t.h (t.l ++ [tu]) (blocksN t.h (t.snoc tu).l.length - 1)
    rw [hb, snoc_len, div_succ_eq hk h0, Nat.add_sub_cancel]
    exact stands_more h (Nat.div_mul_le_self _ _))
  show StandsTo _ t.first t.k t.h (t.snoc tu).l ((t.snoc tu).l.length / t.h)
  rw [← hb]; exact this
theorem wstand_full (h : WStand D t) (h0 : t.l.length % t.h = 0) : StandsTo D t.first t.k t.h t.l (blocksN t.h t.l.length) := by rw [blocks_full h0]; exact h
theorem wstand_close (hk : 0 < t.h) (h : WStand D t) (h0 : t.l.length % t.h ≠ 0) (hw : (write D (lastAd t : Nat) (lastW8 D.size t)).1 = 0) : StandsTo (write D (lastAd t : Nat) (lastW8 D.size t)).2 t.first t.k t.h t.l (blocksN t.h t.l.length) := by
  have hl : 0 < t.l.length := by
    rcases Nat.eq_zero_or_pos t.l.length with h1 | h1
    · rw [h1] at h0; simp at h0
    · exact h1
  refine stands_last hk hl hw ?_
  have : blocksN t.h t.l.length - 1 = t.l.length / t.h := by unfold blocksN; rw [if_pos (by omega), Nat.add_sub_cancel]
  rw [this]; exact h
/-- the last block is one of the writer's -/
theorem last_in (hok : WtOk t D.size) (hl : 0 < t.l.length) : t.first ≤ lastAd t ∧ lastAd t < t.first + t.blocks := by
  have h1 := blocks_pos hok.h.1 hl
  have h2 := blocks_mono (h := t.h) hok.h.1 hok.bound.2
  have h3 := hok.blocks.1
  unfold lastAd; omega
theorem last_right (hok : WtOk t D.size) (hl : 0 < t.l.length) (hin : ((t.first + t.blocks : Nat) : Int) ≤ D.blocks) : right D (lastAd t : Nat) = true := by
  have := last_in hok hl
  unfold right; simp; omega
theorem last_len (hok : WtOk t D.size) (hl : 0 < t.l.length) : (lastW8 D.size t).length = D.size := by
  have hsz := hok.sz
  have h1 := (lastT_len (l := t.l) hok.h.1 hl).1
  unfold lastW8
  refine seal_len ?_ (by omega)
  rw [flatT_len hok.k.2]
  exact Nat.le_trans (Nat.mul_le_mul_right _ h1) hok.h.2.1
end
end Go.Proofs.Ytbkgpilmgllkiaa
