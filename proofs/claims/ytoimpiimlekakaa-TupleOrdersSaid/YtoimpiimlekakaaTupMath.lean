/- Orders of tuples: mathematics alone. -/
import Derived.Test.YtoimpiimlekakaaFileMath
namespace Go.Proofs.Ytoimpiimlekakaa
open Go.ChangeShapes Go.WideShapes Go.ChangeAt Go.RowKit

/-- a tuple's column, or an order's entry -/
def colT (t : Tup) (i : Nat) : Int := t.cols.getD i 0
/-- the column that an entry names -/
def kol (k : Int) : Nat := k.natAbs - 1
theorem kol_neg (k : Int) : kol (-k) = kol k := by unfold kol; rw [Int.natAbs_neg]
theorem kol_pos {k : Int} (h : 0 < k) : ((kol k : Nat) : Int) = k - 1 := by unfold kol; omega
theorem kol_min {k : Int} (h : k < 0) : ((kol k : Nat) : Int) = -k - 1 := by unfold kol; omega
/-- an order is formed -/
def Fm (o : Tup) : Prop := ∀ i, i < 5 → (-5 ≤ colT o i ∧ colT o i ≤ 5) ∧ ∀ k, k < i → colT o i ≠ 0 → colT o k ≠ 0 ∧ kol (colT o k) ≠ kol (colT o i)
instance fmDec (o : Tup) : Decidable (Fm o) := by unfold Fm; exact inferInstance
/-- tuples compared column by column -/
def cmpL : List Int → Tup → Tup → Int
  | [], _, _ => 0
  | k :: ks, a, b => if k = 0 then 0 else if colT a (kol k) = colT b (kol k) then cmpL ks a b else if decide (colT a (kol k) < colT b (kol k)) = decide (0 < k) then -1 else 1
def cmpT (o a b : Tup) : Int := if Fm o then cmpL o.cols a b else 0
theorem cmpL_stop (ks : List Int) (a b : Tup) : cmpL (0 :: ks) a b = 0 := by unfold cmpL; rw [if_pos rfl]
theorem cmpL_eq {k : Int} (h0 : k ≠ 0) (ks : List Int) {a b : Tup} (h1 : colT a (kol k) = colT b (kol k)) : cmpL (k :: ks) a b = cmpL ks a b := by rw [cmpL, if_neg h0, if_pos h1]
theorem cmpL_lt {k : Int} (h0 : k ≠ 0) (ks : List Int) {a b : Tup} (h1 : colT a (kol k) < colT b (kol k)) : cmpL (k :: ks) a b = if 0 < k then -1 else 1 := by
  rw [cmpL, if_neg h0, if_neg (by omega)]
  by_cases h4 : 0 < k <;> simp [h1, h4]
theorem cmpL_gt {k : Int} (h0 : k ≠ 0) (ks : List Int) {a b : Tup} (h1 : colT b (kol k) < colT a (kol k)) : cmpL (k :: ks) a b = if 0 < k then 1 else -1 := by
  rw [cmpL, if_neg h0, if_neg (by omega)]
  have h2 : ¬ colT a (kol k) < colT b (kol k) := by omega
  by_cases h4 : 0 < k <;> simp [h2, h4]
theorem cmpL_range : ∀ (ks : List Int) (a b : Tup), cmpL ks a b = -1 ∨ cmpL ks a b = 0 ∨ cmpL ks a b = 1
  | [], _, _ => .inr (.inl rfl)
  | k :: ks, a, b => by
    by_cases h0 : k = 0
    · rw [h0, cmpL_stop]; exact .inr (.inl rfl)
    · rcases Int.lt_trichotomy (colT a (kol k)) (colT b (kol k)) with h | h | h
      · rw [cmpL_lt h0 ks h]; split <;> simp
      · rw [cmpL_eq h0 ks h]; exact cmpL_range ks a b
      · rw [cmpL_gt h0 ks h]; split <;> simp
theorem cmpL_anti : ∀ (ks : List Int) (a b : Tup), cmpL ks a b = - cmpL ks b a
  | [], _, _ => rfl
  | k :: ks, a, b => by
    by_cases h0 : k = 0
    · rw [h0, cmpL_stop, cmpL_stop]; rfl
    · rcases Int.lt_trichotomy (colT a (kol k)) (colT b (kol k)) with h | h | h
      · rw [cmpL_lt h0 ks h, cmpL_gt h0 ks h]; split <;> rfl
      · rw [cmpL_eq h0 ks h, cmpL_eq h0 ks h.symm]; exact cmpL_anti ks a b
      · rw [cmpL_gt h0 ks h, cmpL_lt h0 ks h]; split <;> rfl
theorem cmpL_zero : ∀ (ks : List Int) (a b : Tup), cmpL ks a b = 0 ↔ (ks.takeWhile fun k => k ≠ 0).map (fun k => colT a (kol k)) = (ks.takeWhile fun k => k ≠ 0).map (fun k => colT b (kol k))
  | [], _, _ => by simp [cmpL]
  | k :: ks, a, b => by
    by_cases h0 : k = 0
    · rw [h0, cmpL_stop]; simp
    · rw [List.takeWhile_cons_of_pos (by simpa using h0), List.map_cons, List.map_cons]
      rcases Int.lt_trichotomy (colT a (kol k)) (colT b (kol k)) with h | h | h
      · rw [cmpL_lt h0 ks h]
        refine ⟨fun e => ?_, fun e => ?_⟩
        · split at e <;> omega
        · injection e with e _; omega
      · rw [cmpL_eq h0 ks h, cmpL_zero ks a b, h]
        exact ⟨fun e => by rw [e], fun e => by injection e⟩
      · rw [cmpL_gt h0 ks h]
        refine ⟨fun e => ?_, fun e => ?_⟩
        · split at e <;> omega
        · injection e with e _; omega
theorem cmpL_trans : ∀ (ks : List Int) (a b c : Tup), cmpL ks a b ≤ 0 → cmpL ks b c ≤ 0 → cmpL ks a c ≤ 0
  | [], _, _, _ => fun _ _ => Int.le_refl _
  | k :: ks, a, b, c => by
    by_cases h0 : k = 0
    · rw [h0, cmpL_stop, cmpL_stop, cmpL_stop]; omega
    · rcases Int.lt_trichotomy (colT a (kol k)) (colT b (kol k)) with h | h | h
      · rw [cmpL_lt h0 ks h]
        intro g1
        have hk : 0 < k := by
          by_cases hk : 0 < k
          · exact hk
          · rw [if_neg hk] at g1; omega
        rcases Int.lt_trichotomy (colT b (kol k)) (colT c (kol k)) with g | g | g
        · rw [cmpL_lt h0 ks (a := a) (b := c) (by omega), if_pos hk]; omega
        · rw [cmpL_lt h0 ks (a := a) (b := c) (by omega), if_pos hk]; omega
        · rw [cmpL_gt h0 ks g, if_pos hk]; omega
      · rcases Int.lt_trichotomy (colT b (kol k)) (colT c (kol k)) with g | g | g
        · rw [cmpL_lt h0 ks g, cmpL_lt h0 ks (a := a) (b := c) (by omega)]; exact fun _ h => h
        · rw [cmpL_eq h0 ks h, cmpL_eq h0 ks g, cmpL_eq h0 ks (h.trans g)]; exact cmpL_trans ks a b c
        · rw [cmpL_gt h0 ks g, cmpL_gt h0 ks (a := a) (b := c) (by omega)]; exact fun _ h => h
      · rw [cmpL_gt h0 ks h]
        intro g1
        have hk : ¬ 0 < k := by
          intro hk
          rw [if_pos hk] at g1; omega
        rcases Int.lt_trichotomy (colT b (kol k)) (colT c (kol k)) with g | g | g
        · rw [cmpL_lt h0 ks g, if_neg hk]; omega
        · rw [cmpL_gt h0 ks (a := a) (b := c) (by omega), if_neg hk]; omega
        · rw [cmpL_gt h0 ks (a := a) (b := c) (by omega), if_neg hk]; omega
theorem cmpT_range (o a b : Tup) : cmpT o a b = -1 ∨ cmpT o a b = 0 ∨ cmpT o a b = 1 := by
  unfold cmpT; split
  · exact cmpL_range _ _ _
  · exact .inr (.inl rfl)
theorem cmpT_anti (o a b : Tup) : cmpT o a b = - cmpT o b a := by
  unfold cmpT; split
  · exact cmpL_anti _ _ _
  · rfl
theorem cmpT_trans {o a b c : Tup} (h1 : cmpT o a b ≤ 0) (h2 : cmpT o b c ≤ 0) : cmpT o a c ≤ 0 := by
  unfold cmpT at *
  by_cases h : Fm o
  · rw [if_pos h] at *; exact cmpL_trans _ _ _ _ h1 h2
  · rw [if_neg h] at *; exact Int.le_refl _
theorem cmpT_self (o a : Tup) : cmpT o a a = 0 := by have := cmpT_anti o a a; omega
/-- what an order cuts -/
def cutL (ks : List Int) (t : Tup) : List Int := (ks.takeWhile fun k => k ≠ 0).map fun k => colT t (kol k)
def tupL (l : List Int) : Tup := ⟨l.getD 0 0, l.getD 1 0, l.getD 2 0, l.getD 3 0, l.getD 4 0⟩
def cutT (o t : Tup) : Tup := if Fm o then tupL (cutL o.cols t) else tup0
theorem tupL_inj {l m : List Int} (hl : l.length = m.length) (h5 : l.length ≤ 5) (h : tupL l = tupL m) : l = m := by
  refine List.ext_getElem hl fun i h1 h2 => ?_
  have h3 : i < 5 := by omega
  simp only [tupL, Tup.mk.injEq] at h
  have g : ∀ (x : List Int) (hx : i < x.length), x[i] = x.getD i 0 := fun x hx => by rw [List.getD_eq_getElem?_getD, List.getElem?_eq_getElem hx]; rfl
  rw [g l h1, g m h2]
  match i, h3 with
  | 0, _ => exact h.1
  | 1, _ => exact h.2.1
  | 2, _ => exact h.2.2.1
  | 3, _ => exact h.2.2.2.1
  | 4, _ => exact h.2.2.2.2
theorem cutL_len (ks : List Int) (t : Tup) : (cutL ks t).length = (ks.takeWhile fun k => k ≠ 0).length := by unfold cutL; rw [List.length_map]
theorem cut_iff {o : Tup} (h : Fm o) (a b : Tup) : cmpT o a b = 0 ↔ cutT o a = cutT o b := by
  unfold cmpT cutT
  rw [if_pos h, if_pos h, if_pos h, cmpL_zero]
  refine ⟨fun e => congrArg tupL e, fun e => tupL_inj ((cutL_len o.cols a).trans (cutL_len o.cols b).symm) ?_ e⟩
  refine Nat.le_trans (Nat.le_of_eq (cutL_len o.cols a)) ?_
  exact Nat.le_trans (List.takeWhile_sublist _).length_le (Nat.le_of_eq (Tup.cols_len o))
/-- all signs turned -/
def ngT (o : Tup) : Tup := ⟨-o.a, -o.b, -o.c, -o.d, -o.e⟩
theorem ng_col (o : Tup) (i : Nat) : colT (ngT o) i = - colT o i := by
  match i with
  | 0 => rfl
  | 1 => rfl
  | 2 => rfl
  | 3 => rfl
  | 4 => rfl
  | n + 5 => rfl
theorem ng_fm {o : Tup} (h : Fm o) : Fm (ngT o) := by
  intro i hi
  obtain ⟨h1, h2⟩ := h i hi
  refine ⟨by rw [ng_col]; omega, fun k hk hne => ?_⟩
  rw [ng_col] at hne ⊢
  rw [ng_col]
  obtain ⟨h3, h4⟩ := h2 k hk (by omega)
  exact ⟨by omega, by rw [kol_neg, kol_neg]; exact h4⟩
theorem ng_cmpL : ∀ (ks : List Int) (a b : Tup), cmpL (ks.map fun k => -k) a b = cmpL ks b a
  | [], _, _ => rfl
  | k :: ks, a, b => by
    rw [List.map_cons]
    by_cases h0 : k = 0
    · rw [h0, Int.neg_zero, cmpL_stop, cmpL_stop]
    · have h1 : -k ≠ 0 := by omega
      rcases Int.lt_trichotomy (colT a (kol k)) (colT b (kol k)) with h | h | h
      · rw [cmpL_lt h1 _ (by rw [kol_neg]; exact h), cmpL_gt h0 ks h]
        by_cases hk : 0 < k
        · rw [if_pos hk, if_neg (by omega)]
        · rw [if_neg hk, if_pos (by omega)]
      · rw [cmpL_eq h1 _ (by rw [kol_neg]; exact h), cmpL_eq h0 ks h.symm]; exact ng_cmpL ks a b
      · rw [cmpL_gt h1 _ (by rw [kol_neg]; exact h), cmpL_lt h0 ks h]
        by_cases hk : 0 < k
        · rw [if_pos hk, if_neg (by omega)]
        · rw [if_neg hk, if_pos (by omega)]
theorem ng_cols (o : Tup) : (ngT o).cols = o.cols.map fun k => -k := rfl
theorem ng_cmp {o : Tup} (h : Fm o) (a b : Tup) : cmpT (ngT o) a b = cmpT o b a := by
  unfold cmpT
  rw [if_pos h, if_pos (ng_fm h), ng_cols, ng_cmpL]
theorem ng_cutL : ∀ (ks : List Int) (t : Tup), cutL (ks.map fun k => -k) t = cutL ks t
  | [], _ => rfl
  | k :: ks, t => by
    have ih := ng_cutL ks t
    unfold cutL at *
    rw [List.map_cons]
    by_cases h0 : k = 0
    · simp [h0]
    · have h1 : ¬ -k = 0 := by omega
      rw [List.takeWhile_cons_of_pos (by simpa using h1), List.takeWhile_cons_of_pos (by simpa using h0), List.map_cons, List.map_cons, kol_neg, ih]
theorem ng_cut {o : Tup} (h : Fm o) (t : Tup) : cutT (ngT o) t = cutT o t := by
  unfold cutT
  rw [if_pos h, if_pos (ng_fm h), ng_cols, ng_cutL]
/-- one column more -/
theorem cmpL_append : ∀ (ps : List Int) (_ : ∀ k ∈ ps, k ≠ 0) (ks : List Int) (a b : Tup), cmpL (ps ++ ks) a b = if cmpL ps a b = 0 then cmpL ks a b else cmpL ps a b
  | [], _, ks, a, b => by simp [cmpL]
  | k :: ps, h, ks, a, b => by
    have h0 : k ≠ 0 := h k (List.mem_cons_self ..)
    have ih := cmpL_append ps (fun x hx => h x (List.mem_cons_of_mem _ hx)) ks a b
    rw [List.cons_append]
    rcases Int.lt_trichotomy (colT a (kol k)) (colT b (kol k)) with h | h | h
    · have e : (if 0 < k then (-1 : Int) else 1) ≠ 0 := by by_cases hk : 0 < k <;> simp [hk]
      rw [cmpL_lt h0 _ h, cmpL_lt h0 _ h, if_neg e]
    · rw [cmpL_eq h0 _ h, cmpL_eq h0 _ h]; exact ih
    · have e : (if 0 < k then (1 : Int) else -1) ≠ 0 := by by_cases hk : 0 < k <;> simp [hk]
      rw [cmpL_gt h0 _ h, cmpL_gt h0 _ h, if_neg e]
theorem cmpL_less {ps : List Int} (hp : ∀ k ∈ ps, k ≠ 0) (ks : List Int) (a b : Tup) : cmpL (ps ++ 0 :: ks) a b = cmpL ps a b := by
  rw [cmpL_append ps hp, cmpL_stop]
  split
  · rename_i h; exact h.symm
  · rfl
/-- an entry is another one -/
def setO (o : Tup) (i : Nat) (x : Int) : Tup := tupL (o.cols.set i x)
theorem tupL_cols {l : List Int} (h : l.length = 5) : (tupL l).cols = l := by
  match l, h with
  | [a, b, c, d, e], _ => rfl
theorem setO_cols (o : Tup) (i : Nat) (x : Int) : (setO o i x).cols = o.cols.set i x := tupL_cols (by rw [List.length_set]; exact Tup.cols_len o)
theorem setO_col (o : Tup) (i : Nat) (x : Int) (j : Nat) (hi : i < 5) : colT (setO o i x) j = if i = j then x else colT o j := by
  unfold colT
  rw [setO_cols, List.getD_eq_getElem?_getD, List.getElem?_set, List.getD_eq_getElem?_getD]
  split
  · rw [if_pos (by rw [Tup.cols_len]; omega)]; rfl
  · rfl
theorem cmpL_one {k : Int} (h0 : k ≠ 0) {zs : List Int} (hz : ∀ z ∈ zs, z = 0) (a b : Tup) : cmpL (k :: zs) a b = cmpL [k] a b := by
  have e : cmpL zs a b = 0 := by
    match zs, hz with
    | [], _ => rfl
    | z :: zs, hz => rw [hz z (List.mem_cons_self ..), cmpL_stop]
  rcases Int.lt_trichotomy (colT a (kol k)) (colT b (kol k)) with h | h | h
  · rw [cmpL_lt h0 _ h, cmpL_lt h0 _ h]
  · rw [cmpL_eq h0 _ h, cmpL_eq h0 _ h, e]; rfl
  · rw [cmpL_gt h0 _ h, cmpL_gt h0 _ h]
/-- an order without its last entry, and that entry alone -/
theorem first_cmp {o : Tup} (h : Fm o) {n : Nat} (hn : n < 5) (hp : ∀ i, i ≤ n → colT o i ≠ 0) (hz : ∀ i, n < i → i < 5 → colT o i = 0) (a b : Tup) :
    Fm (setO o n 0) ∧ Fm (setO tup0 0 (colT o n)) ∧ cmpT o a b = if cmpT (setO o n 0) a b = 0 then cmpT (setO tup0 0 (colT o n)) a b else cmpT (setO o n 0) a b := by
  have hc := Tup.cols_len o
  have hcol : ∀ i (hi : i < o.cols.length), o.cols[i] = colT o i := fun i hi => by unfold colT; rw [List.getD_eq_getElem?_getD, List.getElem?_eq_getElem hi]; rfl
  have f1 : Fm (setO o n 0) := by
    intro i hi
    obtain ⟨h1, h2⟩ := h i hi
    rw [setO_col _ _ _ _ hn]
    by_cases e : n = i
    · rw [if_pos e]; exact ⟨by omega, fun k _ hne => absurd rfl hne⟩
    · rw [if_neg e]
      refine ⟨h1, fun k hk hne => ?_⟩
      by_cases hni : n < i
      · exact absurd (hz i hni hi) hne
      · rw [setO_col _ _ _ _ hn, if_neg (by omega)]
        exact h2 k hk hne
  have f2 : Fm (setO tup0 0 (colT o n)) := by
    intro i hi
    rw [setO_col _ _ _ _ (by omega)]
    have hq : ∀ j, colT tup0 j = 0 := fun j => by
      match j with
      | 0 => rfl
      | 1 => rfl
      | 2 => rfl
      | 3 => rfl
      | 4 => rfl
      | j + 5 => rfl
    by_cases e : 0 = i
    · rw [if_pos e]; exact ⟨(h n hn).1, fun k hk => by omega⟩
    · rw [if_neg e, hq]; exact ⟨by omega, fun k _ hne => absurd rfl hne⟩
  refine ⟨f1, f2, ?_⟩
  have hps : ∀ k ∈ o.cols.take n, k ≠ 0 := by
    intro k hk
    obtain ⟨i, hi, rfl⟩ := List.getElem_of_mem hk
    rw [List.length_take] at hi
    rw [List.getElem_take, hcol]
    exact hp i (by omega)
  have hzs : ∀ z ∈ o.cols.drop (n + 1), z = 0 := by
    intro z hz'
    obtain ⟨i, hi, rfl⟩ := List.getElem_of_mem hz'
    rw [List.length_drop] at hi
    rw [List.getElem_drop, hcol]
    exact hz _ (by omega) (by omega)
  have hdec : o.cols = o.cols.take n ++ colT o n :: o.cols.drop (n + 1) := by
    rw [← hcol n (by omega), ← List.drop_eq_getElem_cons (by omega), List.take_append_drop]
  have hset : (setO o n 0).cols = o.cols.take n ++ 0 :: o.cols.drop (n + 1) := by
    rw [setO_cols, List.set_eq_take_append_cons_drop, if_pos (by omega)]
  have hone : (setO tup0 0 (colT o n)).cols = [colT o n, 0, 0, 0, 0] := by rw [setO_cols]; rfl
  unfold cmpT
  rw [if_pos h, if_pos f1, if_pos f2, hset, hone, cmpL_less hps]
  rw [show cmpL o.cols a b = cmpL (o.cols.take n ++ colT o n :: o.cols.drop (n + 1)) a b from by rw [← hdec], cmpL_append _ hps, cmpL_one (hp n (Nat.le_refl _)) hzs, cmpL_one (hp n (Nat.le_refl _)) (zs := [0, 0, 0, 0]) (by simp)]
/-- how many entries stand ahead of the first 0 -/
def lenO (o : Tup) : Nat := (o.cols.takeWhile fun k => k ≠ 0).length
theorem lenO_le (o : Tup) : lenO o ≤ 5 := Nat.le_trans (List.takeWhile_sublist _).length_le (Nat.le_of_eq (Tup.cols_len o))
/-- tuples put in order, one by one -/
def posB (f : Tup → Bool) (l : List Tup) : Nat → Nat
  | 0 => 0
  | k + 1 => if f (l.getD k tup0) = true then posB f l k else k + 1
theorem posB_le (f : Tup → Bool) (l : List Tup) : ∀ k, posB f l k ≤ k
  | 0 => Nat.le_refl _
  | k + 1 => by
    unfold posB
    split
    · exact Nat.le_succ_of_le (posB_le f l k)
    · exact Nat.le_refl _
theorem posB_ahead (f : Tup → Bool) (l : List Tup) : ∀ k, 0 < posB f l k → f (l.getD (posB f l k - 1) tup0) = false
  | 0, h => absurd h (by simp [posB])
  | k + 1, h => by
    unfold posB at h ⊢
    by_cases e : f (l.getD k tup0) = true
    · rw [if_pos e] at h ⊢; exact posB_ahead f l k h
    · rw [if_neg e]; simpa using e
theorem posB_behind (f : Tup → Bool) (l : List Tup) : ∀ k i, posB f l k ≤ i → i < k → f (l.getD i tup0) = true
  | 0, i, _, h => absurd h (by omega)
  | k + 1, i, h1, h2 => by
    unfold posB at h1
    by_cases e : f (l.getD k tup0) = true
    · rw [if_pos e] at h1
      by_cases hik : i = k
      · rw [hik]; exact e
      · exact posB_behind f l k i h1 (by omega)
    · rw [if_neg e] at h1; omega
def insB (o : Tup) (l : List Tup) (t : Tup) : List Tup := l.take (posB (fun y => decide (cmpT o t y < 0)) l l.length) ++ t :: l.drop (posB (fun y => decide (cmpT o t y < 0)) l l.length)
/-- none is behind its follower -/
def Srt (o : Tup) (l : List Tup) : Prop := ∀ i, i + 1 < l.length → cmpT o (l.getD i tup0) (l.getD (i + 1) tup0) ≤ 0
theorem srt_nil (o : Tup) : Srt o [] := fun i h => by simp at h
theorem insB_len (o : Tup) (l : List Tup) (t : Tup) : (insB o l t).length = l.length + 1 := by
  unfold insB
  have := posB_le (fun y => decide (cmpT o t y < 0)) l l.length
  rw [List.length_append, List.length_cons, List.length_take, List.length_drop]; omega
theorem insB_at (o : Tup) (l : List Tup) (t : Tup) (i : Nat) : (insB o l t).getD i tup0 = if i < posB (fun y => decide (cmpT o t y < 0)) l l.length then l.getD i tup0 else if i = posB (fun y => decide (cmpT o t y < 0)) l l.length then t else l.getD (i - 1) tup0 := by
  unfold insB
  have hk := posB_le (fun y => decide (cmpT o t y < 0)) l l.length
  generalize posB (fun y => decide (cmpT o t y < 0)) l l.length = k at *
  have hlt : (l.take k).length = k := by rw [List.length_take]; omega
  rw [List.getD_eq_getElem?_getD, List.getD_eq_getElem?_getD, List.getD_eq_getElem?_getD]
  by_cases h1 : i < k
  · rw [if_pos h1, List.getElem?_append_left (by omega), List.getElem?_take, if_pos h1]
  · rw [if_neg h1, List.getElem?_append_right (by omega), hlt]
    by_cases h2 : i = k
    · rw [if_pos h2, h2, Nat.sub_self]; rfl
    · rw [if_neg h2, show i - k = (i - k - 1) + 1 by omega, List.getElem?_cons_succ, List.getElem?_drop, show k + (i - k - 1) = i - 1 by omega]
theorem insB_srt {o : Tup} {l : List Tup} (h : Srt o l) (t : Tup) : Srt o (insB o l t) := by
  intro i hi
  rw [insB_len] at hi
  rw [insB_at, insB_at]
  have hk := posB_le (fun y => decide (cmpT o t y < 0)) l l.length
  have ha := posB_ahead (fun y => decide (cmpT o t y < 0)) l l.length
  have hb := posB_behind (fun y => decide (cmpT o t y < 0)) l l.length
  generalize posB (fun y => decide (cmpT o t y < 0)) l l.length = k at *
  by_cases h1 : i + 1 < k
  · rw [if_pos (by omega), if_pos h1]; exact h i (by omega)
  · rw [if_neg h1]
    by_cases h2 : i + 1 = k
    · rw [if_pos (by omega), if_pos h2]
      have := ha (by omega)
      rw [show k - 1 = i by omega] at this
      have h3 : ¬ cmpT o t (l.getD i tup0) < 0 := by simpa using this
      rw [cmpT_anti]; omega
    · rw [if_neg h2, if_neg (by omega)]
      by_cases h3 : i = k
      · rw [if_pos h3, show i + 1 - 1 = i by omega]
        have h4 : cmpT o t (l.getD i tup0) < 0 := by simpa using hb i (by omega) (by omega)
        omega
      · rw [if_neg h3]
        have := h (i - 1) (by omega)
        rw [show i - 1 + 1 = i by omega] at this
        rw [show i + 1 - 1 = i by omega]
        exact this
def sortB (o : Tup) : List Tup → List Tup → List Tup
  | out, [] => out
  | out, t :: l => sortB o (insB o out t) l
theorem sortB_srt (o : Tup) : ∀ (l out : List Tup), Srt o out → Srt o (sortB o out l)
  | [], _, h => h
  | t :: l, out, h => sortB_srt o l (insB o out t) (insB_srt h t)
end Go.Proofs.Ytoimpiimlekakaa
