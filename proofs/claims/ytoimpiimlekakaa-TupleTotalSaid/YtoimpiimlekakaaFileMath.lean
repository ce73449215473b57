/- Files of tuples, as mathematics: the words of tuples, blocks of them, what stands on a device. No program is named here. -/
import Derived.Test.YtoimpiimlekakaaSealMath
import Derived.Test.YtoimpiimlekakaaDevMath
import Derived.Test.YtoimpiimlekakaaRows2
namespace Go.Proofs.Ytoimpiimlekakaa

/-- a tuple: five columns -/
structure Tup where
  a : Int
  b : Int
  c : Int
  d : Int
  e : Int
def Tup.cols (t : Tup) : List Int := [t.a, t.b, t.c, t.d, t.e]
def TupOk (t : Tup) : Prop := ∀ x ∈ t.cols, I64 x
def tup0 : Tup := ⟨0, 0, 0, 0, 0⟩
theorem Tup.cols_len (t : Tup) : t.cols.length = 5 := rfl
theorem Tup.ext_cols {t u : Tup} (h : t.cols = u.cols) : t = u := by
  obtain ⟨a, b, c, d, e⟩ := t; obtain ⟨a', b', c', d', e'⟩ := u
  simp [Tup.cols] at h
  obtain ⟨rfl, rfl, rfl, rfl, rfl⟩ := h; rfl
theorem tup0_ok : TupOk tup0 := by intro x hx; simp [Tup.cols, tup0] at hx; subst hx; exact I64.of (by omega) (by omega)
/-- a column as a word -/
def uw (z : Int) : Nat := (z % 18446744073709551616).toNat
theorem uw_wrap (z : Int) : IntKind.u64.wrap z = ((uw z : Nat) : Int) := by unfold uw; rw [IntKind.wrap_u64]; omega
theorem uw_lt (z : Int) : uw z < 18446744073709551616 := by unfold uw; omega
theorem uw_back {z : Int} (h : I64 z) : IntKind.i64.wrap ((uw z : Nat) : Int) = z := by
  have := h.bounds; unfold uw; rw [IntKind.wrap_i64]; omega
/-- the words of a tuple of k columns -/
def wordsT (k : Nat) (t : Tup) : List Nat := (t.cols.take k).map uw
theorem wordsT_len {k : Nat} (hk : k ≤ 5) (t : Tup) : (wordsT k t).length = k := by unfold wordsT; simp [Tup.cols_len]; omega
def flatT (k : Nat) (l : List Tup) : List Nat := l.flatMap (wordsT k)
theorem flatT_nil (k : Nat) : flatT k [] = [] := rfl
theorem flatT_append (k : Nat) (l m : List Tup) : flatT k (l ++ m) = flatT k l ++ flatT k m := by simp [flatT]
theorem flatT_one (k : Nat) (t : Tup) : flatT k [t] = wordsT k t := by simp [flatT]
theorem flatT_len {k : Nat} (hk : k ≤ 5) : ∀ l : List Tup, (flatT k l).length = l.length * k
  | [] => by simp [flatT]
  | t :: l => by
    have h := flatT_len hk l
    show (wordsT k t ++ flatT k l).length = _
    rw [List.length_append, wordsT_len hk, h, List.length_cons, Nat.add_mul]; omega
theorem flatT_u64 (k : Nat) (l : List Tup) : ∀ x ∈ flatT k l, x < 18446744073709551616 := by
  intro x hx
  obtain ⟨t, _, hx⟩ := List.mem_flatMap.1 hx
  obtain ⟨z, _, rfl⟩ := List.mem_map.1 hx
  exact uw_lt z
theorem flatT_drop {k : Nat} (hk : k ≤ 5) : ∀ (l : List Tup) (i : Nat), (flatT k l).drop (i * k) = flatT k (l.drop i)
  | [], i => by simp [flatT]
  | t :: l, 0 => by simp
  | t :: l, i + 1 => by
    show (wordsT k t ++ flatT k l).drop ((i + 1) * k) = flatT k (l.drop i)
    rw [← flatT_drop hk l i, Nat.add_mul, Nat.one_mul, Nat.add_comm, ← List.drop_drop, List.drop_left' (wordsT_len hk t)]
/-- the words of the tuple i -/
theorem flatT_at {k : Nat} (hk : k ≤ 5) {l : List Tup} {i : Nat} {t : Tup} (h : l[i]? = some t) : ((flatT k l).drop (i * k)).take k = wordsT k t := by
  rw [flatT_drop hk]
  have hi : i < l.length := (List.getElem?_eq_some_iff.1 h).1
  rw [List.drop_eq_getElem_cons hi]
  have e : l[i] = t := (List.getElem?_eq_some_iff.1 h).2
  rw [e]
  show (wordsT k t ++ flatT k (l.drop (i + 1))).take k = wordsT k t
  exact List.take_left' (wordsT_len hk t)
/-- are a tuple's columns from k on 0? -/
def fitsT (k : Nat) (t : Tup) : Bool := (t.cols.drop k).all (· == 0)
/-- the tuple that the words of its first k columns make -/
def tupOf (k : Nat) (ws : List Nat) : Tup :=
  let g := fun i => if i < k then IntKind.i64.wrap ((ws.getD i 0 : Nat) : Int) else 0
  ⟨g 0, g 1, g 2, g 3, g 4⟩
theorem tupOf_back {k : Nat} (hk : k ≤ 5) {t : Tup} (hok : TupOk t) (hf : fitsT k t = true) : tupOf k (wordsT k t) = t := by
  obtain ⟨a, b, c, d, e⟩ := t
  have ha := uw_back (hok a (by simp [Tup.cols]))
  have hb := uw_back (hok b (by simp [Tup.cols]))
  have hc := uw_back (hok c (by simp [Tup.cols]))
  have hd := uw_back (hok d (by simp [Tup.cols]))
  have he := uw_back (hok e (by simp [Tup.cols]))
  match k, hk with
  | 0, _ => simp [fitsT, Tup.cols] at hf; simp [tupOf, hf]
  | 1, _ => simp [fitsT, Tup.cols] at hf; simp [tupOf, wordsT, Tup.cols, hf, ha]
  | 2, _ => simp [fitsT, Tup.cols] at hf; simp [tupOf, wordsT, Tup.cols, hf, ha, hb]
  | 3, _ => simp [fitsT, Tup.cols] at hf; simp [tupOf, wordsT, Tup.cols, hf, ha, hb, hc]
  | 4, _ => simp [fitsT, Tup.cols] at hf; simp [tupOf, wordsT, Tup.cols, hf, ha, hb, hc, hd]
  | 5, _ => simp [tupOf, wordsT, Tup.cols, ha, hb, hc, hd, he]

/-- how many tuples of that width a block of size words holds -/
def holdsI (size : Nat) (width : Int) : Nat := if width < 1 ∨ 5 < width then 0 else (size - 2) / width.toNat
/-- how many blocks c tuples need, h in each -/
def blocksN (h c : Nat) : Nat := if 0 < c % h then c / h + 1 else c / h
section
variable {h c : Nat}
theorem blocks_zero (h : Nat) : blocksN h 0 = 0 := by simp [blocksN]
theorem blocks_pos (_hh : 0 < h) (hc : 0 < c) : 0 < blocksN h c := by
  have h1 := Nat.div_add_mod c h
  unfold blocksN; split
  · exact Nat.succ_pos _
  · rcases Nat.eq_zero_or_pos (c / h) with h0 | h0
    · rw [h0] at h1; omega
    · exact h0
theorem blocks_le (h c : Nat) : blocksN h c ≤ c := by
  unfold blocksN
  have h1 := Nat.div_add_mod c h
  have h2 := Nat.div_le_self c h
  split
  · rename_i h3
    rcases Nat.eq_zero_or_pos h with h0 | h0
    · subst h0; simp at h3 ⊢; omega
    · rcases Nat.eq_zero_or_pos (c / h) with h4 | h4
      · rw [h4] at h1 ⊢; omega
      · have : c / h * 1 ≤ c / h * h := Nat.mul_le_mul_left _ h0
        rw [Nat.mul_comm (c / h) h] at this; omega
  · exact h2
/-- the place behind which the last block begins -/
theorem blocks_last (hh : 0 < h) (hc : 0 < c) : (blocksN h c - 1) * h < c ∧ c ≤ (blocksN h c - 1) * h + h ∧ c - (blocksN h c - 1) * h = if 0 < c % h then c % h else h := by
  have h1 := Nat.div_add_mod c h
  have h2 := Nat.mod_lt c hh
  have hp := blocks_pos hh hc
  unfold blocksN at hp ⊢
  rw [Nat.mul_comm] at h1
  by_cases h3 : 0 < c % h
  · rw [if_pos h3, if_pos h3, Nat.add_sub_cancel]; omega
  · rw [if_neg h3] at hp
    rw [if_neg h3, if_neg h3]
    have h4 : (c / h - 1) * h + h = c / h * h := by
      conv => rhs; rw [show c / h = (c / h - 1) + 1 by omega, Nat.add_mul, Nat.one_mul]
    omega
theorem blocks_mul (hh : 0 < h) : c ≤ blocksN h c * h := by
  rcases Nat.eq_zero_or_pos c with h0 | h0
  · omega
  · have h1 := blocks_last hh h0
    have h2 := blocks_pos hh h0
    have h4 : (blocksN h c - 1) * h + h = blocksN h c * h := by
      conv => rhs; rw [show blocksN h c = (blocksN h c - 1) + 1 by omega, Nat.add_mul, Nat.one_mul]
    omega
/-- the least number of blocks that are enough -/
theorem blocks_least (hh : 0 < h) {k : Nat} (hk : c ≤ k * h) : blocksN h c ≤ k := by
  rcases Nat.eq_zero_or_pos c with h0 | h0
  · subst h0; rw [blocks_zero]; exact Nat.zero_le _
  · have h1 := (blocks_last hh h0).1
    have h2 : (blocksN h c - 1) * h < k * h := by omega
    have h3 : blocksN h c - 1 < k := Nat.lt_of_mul_lt_mul_right h2
    omega
theorem blocks_mono (hh : 0 < h) {c' : Nat} (hc : c ≤ c') : blocksN h c ≤ blocksN h c' := blocks_least hh (Nat.le_trans hc (blocks_mul hh))
/-- one tuple more: where its block begins -/
theorem blocks_succ (hh : 0 < h) : (blocksN h (c + 1) - 1) * h + c % h = c ∧ c + 1 - (blocksN h (c + 1) - 1) * h = c % h + 1 ∧ blocksN h (c + 1) - 1 = c / h := by
  have h1 := Nat.div_add_mod c h
  have h2 := Nat.mod_lt c hh
  have key : blocksN h (c + 1) = c / h + 1 := by
    have h5 : c + 1 ≤ (c / h + 1) * h := by rw [Nat.add_mul, Nat.one_mul, Nat.mul_comm]; omega
    have h6 := blocks_least hh h5
    have h7 := blocks_mul (c := c + 1) hh
    have h8 : c / h < blocksN h (c + 1) := by
      apply Nat.lt_of_not_le
      intro h9
      have := Nat.mul_le_mul_right h h9
      rw [Nat.mul_comm (c / h)] at this
      omega
    omega
  rw [key, Nat.add_sub_cancel, Nat.mul_comm]
  refine ⟨h1, ?_, rfl⟩
  omega
theorem blocks_full (h3 : c % h = 0) : blocksN h c = c / h := by unfold blocksN; rw [if_neg (by omega)]
end

/-- the tuples of the last block -/
def lastT (h : Nat) (l : List Tup) : List Tup := l.drop ((blocksN h l.length - 1) * h)
/-- the words of the block j -/
def payT (h k : Nat) (l : List Tup) (j : Nat) : List Nat := flatT k ((l.drop (j * h)).take h)
theorem lastT_len {h : Nat} {l : List Tup} (hh : 0 < h) (hl : 0 < l.length) : (lastT h l).length ≤ h ∧ 0 < (lastT h l).length ∧ (lastT h l).length = l.length - (blocksN h l.length - 1) * h := by
  obtain ⟨h1, h2, h3⟩ := blocks_last hh hl
  unfold lastT; rw [List.length_drop]; omega
theorem pay_last {h k : Nat} {l : List Tup} (hh : 0 < h) (hl : 0 < l.length) : payT h k l (blocksN h l.length - 1) = flatT k (lastT h l) := by
  unfold payT
  rw [show l.drop ((blocksN h l.length - 1) * h) = lastT h l from rfl, List.take_of_length_le (lastT_len hh hl).1]
theorem pay_len {h k : Nat} (hk : k ≤ 5) (l : List Tup) (j : Nat) : (payT h k l j).length ≤ h * k := by
  unfold payT; rw [flatT_len hk]; exact Nat.mul_le_mul_right _ (by rw [List.length_take]; omega)
theorem pay_u64 (h k : Nat) (l : List Tup) (j : Nat) : ∀ x ∈ payT h k l j, x < 18446744073709551616 := flatT_u64 _ _
theorem pay_more {h k : Nat} {l m : List Tup} {j : Nat} (hj : (j + 1) * h ≤ l.length) : payT h k (l ++ m) j = payT h k l j := by
  unfold payT
  rw [Nat.add_mul, Nat.one_mul] at hj
  rw [List.drop_append_of_le_length (by omega), List.take_append_of_le_length (by rw [List.length_drop]; omega)]
/-- how many words the block j has -/
theorem pay_words {h k : Nat} (hk : k ≤ 5) (l : List Tup) (j : Nat) : (payT h k l j).length = min h (l.length - j * h) * k := by
  unfold payT; rw [flatT_len hk, List.length_take, List.length_drop]
/-- behind one more -/
theorem lastT_snoc {h : Nat} (hh : 0 < h) (l : List Tup) (t : Tup) : lastT h (l ++ [t]) = l.drop (l.length - l.length % h) ++ [t] ∧ (lastT h (l ++ [t])).length = l.length % h + 1 := by
  obtain ⟨h1, h2, h3⟩ := blocks_succ (c := l.length) hh
  have e : lastT h (l ++ [t]) = l.drop (l.length - l.length % h) ++ [t] := by
    unfold lastT
    rw [List.length_append, List.length_singleton, show (blocksN h (l.length + 1) - 1) * h = l.length - l.length % h by omega, List.drop_append_of_le_length (by omega)]
  refine ⟨e, ?_⟩
  rw [e, List.length_append, List.length_drop, List.length_singleton]
  have := Nat.mod_le l.length h
  omega
/-- what is known of a writer's buffer -/
def Held (k h : Nat) (l : List Tup) (ws : List Nat) : Prop := ws.take (l.length % h * k) = flatT k (l.drop (l.length - l.length % h))
theorem held_nil (k h : Nat) (ws : List Nat) : Held k h [] ws := by simp [Held, flatT]
theorem held_full {k h : Nat} {l : List Tup} (ws : List Nat) (h0 : l.length % h = 0) : Held k h l ws := by
  unfold Held; rw [h0, Nat.zero_mul, Nat.sub_zero, List.drop_length]; simp [flatT]
/-- a tuple more is laid into the buffer -/
theorem held_put {k h : Nat} (hk : k ≤ 5) (hh : 0 < h) {l : List Tup} {ws : List Nat} (hw : Held k h l ws) (hl : h * k ≤ ws.length) (t : Tup) :
    (splice ws (l.length % h * k) (wordsT k t)).take ((lastT h (l ++ [t])).length * k) = flatT k (lastT h (l ++ [t])) := by
  obtain ⟨e1, e2⟩ := lastT_snoc hh l t
  rw [e2, e1, flatT_append, flatT_one, ← hw]
  have hm := Nat.mod_lt l.length hh
  have hb : l.length % h * k + k ≤ h * k := by
    have := Nat.mul_le_mul_right k (show l.length % h + 1 ≤ h by omega)
    rw [Nat.add_mul, Nat.one_mul] at this; exact this
  have hwl := wordsT_len hk t
  unfold splice
  rw [← List.append_assoc, List.take_append_of_le_length (by simp [hwl, Nat.add_mul]; omega)]
  exact List.take_of_length_le (by simp [hwl, Nat.add_mul]; omega)
theorem held_last {k h : Nat} (hh : 0 < h) {l : List Tup} {ws : List Nat} (h0 : l.length % h ≠ 0) : Held k h l ws ↔ ws.take ((lastT h l).length * k) = flatT k (lastT h l) := by
  have hl : 0 < l.length := by
    rcases Nat.eq_zero_or_pos l.length with h1 | h1
    · rw [h1] at h0; simp at h0
    · exact h1
  obtain ⟨h1, h2, h3⟩ := blocks_last hh hl
  rw [if_pos (by omega)] at h3
  have e1 := (lastT_len hh hl).2.2
  unfold Held
  rw [e1, h3]
  unfold lastT
  rw [show l.length - l.length % h = (blocksN h l.length - 1) * h by omega]
/-- blocks 0 .. m - 1 of a file lie on the device -/
def StandsTo (D : St) (first k h : Nat) (l : List Tup) (m : Nat) : Prop := ∀ j, j < m → D.now ((first + j : Nat) : Int) = sealW D.size (first + j) k (payT h k l j)
theorem now_write {s : St} {i : Int} {l : List Nat} (h0 : (write s i l).1 = 0) : (write s i l).2.now i = l ∧ (∀ x, x ≠ i → (write s i l).2.now x = s.now x) ∧ (write s i l).2.size = s.size ∧ (write s i l).2.blocks = s.blocks := by
  obtain ⟨e1, e2, e3, e4⟩ := begin_same s (right s i && decide (l.length = s.size))
  unfold write at h0 ⊢
  dsimp only at h0 ⊢
  by_cases hb : (begin s (right s i && decide (l.length = s.size))).1 = 0
  · rw [if_pos hb]
    refine ⟨?_, fun x hx => ?_, e1, e2⟩
    · unfold St.now
      dsimp only
      rw [e3, lay_snoc, upd_same]; rfl
    · unfold St.now
      dsimp only
      rw [e1, e3, lay_snoc, upd_other _ _ hx]
  · rw [if_neg hb] at h0; exact absurd h0 hb
theorem now_fail {s : St} {i : Int} {l : List Nat} (h0 : (write s i l).1 ≠ 0) : (∀ x, (write s i l).2.now x = s.now x) ∧ (write s i l).2.size = s.size ∧ (write s i l).2.blocks = s.blocks := by
  obtain ⟨e1, e2, e3, e4⟩ := begin_same s (right s i && decide (l.length = s.size))
  unfold write at h0 ⊢
  dsimp only at h0 ⊢
  by_cases hb : (begin s (right s i && decide (l.length = s.size))).1 = 0
  · rw [if_pos hb] at h0; exact absurd rfl h0
  · rw [if_neg hb]
    refine ⟨fun x => ?_, e1, e2⟩
    unfold St.now; rw [e1, e3, e4]
theorem now_read (s : St) (i x : Int) : (read s i).2.now x = s.now x ∧ (read s i).2.size = s.size ∧ (read s i).2.blocks = s.blocks := by
  obtain ⟨e1, e2, e3, e4⟩ := begin_same s (right s i)
  unfold read St.now; rw [e1, e3, e4]; exact ⟨rfl, rfl, e2⟩
end Go.Proofs.Ytoimpiimlekakaa
