/- The free blocks of a space, as extents: mathematics alone. -/
import Derived.Test.YtbkgpilmgllkiaaRows2
namespace Go.Proofs.Ytbkgpilmgllkiaa

abbrev Ex := Nat × Nat
/-- extents that rise, none of which touches the next one, between lo and hi -/
def Canon (hi : Nat) : Nat → List Ex → Prop
  | _, [] => True
  | lo, x :: l => lo ≤ x.1 ∧ 1 ≤ x.2 ∧ x.1 + x.2 ≤ hi ∧ Canon hi (x.1 + x.2 + 1) l
/-- block b is of one of them -/
def hasB (l : List Ex) (b : Nat) : Prop := ∃ x ∈ l, x.1 ≤ b ∧ b < x.1 + x.2
def sumB (l : List Ex) : Nat := (l.map (·.2)).sum

section
variable {hi lo : Nat} {l A B : List Ex} {x : Ex}
theorem Canon.mono {lo' : Nat} (h : Canon hi lo l) (hl : lo' ≤ lo) : Canon hi lo' l := by
  cases l with
  | nil => trivial
  | cons x l => exact ⟨by have := h.1; omega, h.2⟩
theorem canon_mid : ∀ {A : List Ex} {lo : Nat}, Canon hi lo (A ++ x :: B) ↔ Canon hi lo A ∧ (∀ y ∈ A, y.1 + y.2 + 1 ≤ x.1) ∧ lo ≤ x.1 ∧ 1 ≤ x.2 ∧ x.1 + x.2 ≤ hi ∧ Canon hi (x.1 + x.2 + 1) B
  | [], lo => by simp [Canon]
  | y :: A, lo => by
    show lo ≤ y.1 ∧ 1 ≤ y.2 ∧ y.1 + y.2 ≤ hi ∧ Canon hi (y.1 + y.2 + 1) (A ++ x :: B) ↔ (lo ≤ y.1 ∧ 1 ≤ y.2 ∧ y.1 + y.2 ≤ hi ∧ Canon hi (y.1 + y.2 + 1) A) ∧ _
    rw [canon_mid (A := A)]
    constructor
    · rintro ⟨h1, h2, h3, h4, h5, h6, h7, h8, h9⟩
      refine ⟨⟨h1, h2, h3, h4⟩, fun z hz => ?_, by omega, h7, h8, h9⟩
      rcases List.mem_cons.1 hz with rfl | hz
      · exact h6
      · exact h5 z hz
    · rintro ⟨⟨h1, h2, h3, h4⟩, h5, h6, h7, h8, h9⟩
      exact ⟨h1, h2, h3, h4, fun z hz => h5 z (List.mem_cons_of_mem _ hz), h5 y List.mem_cons_self, h7, h8, h9⟩
theorem Canon.left : ∀ {A : List Ex} {lo : Nat}, Canon hi lo (A ++ B) → Canon hi lo A
  | [], _, _ => trivial
  | _ :: _, _, h => ⟨h.1, h.2.1, h.2.2.1, Canon.left h.2.2.2⟩
theorem Canon.of_mem : ∀ {l : List Ex} {lo : Nat} {x : Ex}, Canon hi lo l → x ∈ l → lo ≤ x.1 ∧ 1 ≤ x.2 ∧ x.1 + x.2 ≤ hi
  | [], _, _, _, h => by cases h
  | y :: l, lo, x, h, hx => by
    rcases List.mem_cons.1 hx with rfl | hx1
    · exact ⟨h.1, h.2.1, h.2.2.1⟩
    · have h1 := Canon.of_mem (x := x) h.2.2.2 hx1; have h2 := h.1; omega
theorem Canon.apart : ∀ {l : List Ex} {lo : Nat} {x y : Ex}, Canon hi lo l → x ∈ l → y ∈ l → x = y ∨ x.1 + x.2 + 1 ≤ y.1 ∨ y.1 + y.2 + 1 ≤ x.1
  | [], _, _, _, _, h, _ => by cases h
  | z :: l, lo, x, y, h, hx, hy => by
    rcases List.mem_cons.1 hx with rfl | hx1 <;> rcases List.mem_cons.1 hy with rfl | hy1
    · exact .inl rfl
    · exact .inr (.inl (Canon.of_mem h.2.2.2 hy1).1)
    · exact .inr (.inr (Canon.of_mem h.2.2.2 hx1).1)
    · exact Canon.apart h.2.2.2 hx1 hy1
theorem Canon.has (h : Canon hi lo l) {b : Nat} (hb : hasB l b) : lo ≤ b ∧ b < hi := by
  obtain ⟨x, hx, h1, h2⟩ := hb
  have := h.of_mem hx; omega
theorem Canon.length (h : Canon hi lo l) : l.length ≤ hi - lo := by
  induction l generalizing lo with
  | nil => simp
  | cons x l ih =>
    have := ih h.2.2.2
    have := h.1; have := h.2.1; have := h.2.2.1
    simp only [List.length_cons]; omega
theorem hasB_nil (b : Nat) : ¬ hasB [] b := by rintro ⟨x, h, _⟩; cases h
theorem hasB_cons {b : Nat} : hasB (x :: l) b ↔ (x.1 ≤ b ∧ b < x.1 + x.2) ∨ hasB l b := by simp [hasB]
theorem hasB_append {b : Nat} : hasB (A ++ B) b ↔ hasB A b ∨ hasB B b := by simp [hasB, or_and_right, exists_or]
theorem sumB_append : sumB (A ++ B) = sumB A + sumB B := by simp [sumB]
theorem sumB_cons : sumB (x :: l) = x.2 + sumB l := by simp [sumB]
theorem sumB_nil : sumB [] = 0 := rfl
theorem Canon.sum (h : Canon hi lo l) : sumB l ≤ hi - lo := by
  induction l generalizing lo with
  | nil => simp [sumB]
  | cons x l ih =>
    have := ih h.2.2.2
    have := h.1; have := h.2.1; have := h.2.2.1
    rw [sumB_cons]; omega
/-- the blocks tell the extents -/
theorem Canon.only : ∀ {l l' : List Ex} {lo : Nat}, Canon hi lo l → Canon hi lo l' → (∀ b, hasB l b ↔ hasB l' b) → l = l'
  | [], [], _, _, _, _ => rfl
  | [], y :: l', _, _, h', e => absurd ((e y.1).2 ⟨y, List.mem_cons_self, Nat.le_refl _, by have := h'.2.1; omega⟩) (hasB_nil _)
  | x :: l, [], _, h, _, e => absurd ((e x.1).1 ⟨x, List.mem_cons_self, Nat.le_refl _, by have := h.2.1; omega⟩) (hasB_nil _)
  | x :: l, y :: l', lo, h, h', e => by
    have low : ∀ {z : Ex} {m : List Ex} {b : Nat}, Canon hi lo (z :: m) → hasB (z :: m) b → z.1 ≤ b := fun {z m b} hc hb => by
      rcases hasB_cons.1 hb with hb | hb
      · exact hb.1
      · have := (Canon.has hc.2.2.2 hb).1; omega
    have gap : ∀ {z : Ex} {m : List Ex}, Canon hi lo (z :: m) → ¬ hasB (z :: m) (z.1 + z.2) := fun {z m} hc hb => by
      rcases hasB_cons.1 hb with hb | hb
      · omega
      · have := (Canon.has hc.2.2.2 hb).1; omega
    have h1 : x.1 ≤ y.1 := low h ((e y.1).2 ⟨y, List.mem_cons_self, Nat.le_refl _, by have := h'.2.1; omega⟩)
    have h2 : y.1 ≤ x.1 := low h' ((e x.1).1 ⟨x, List.mem_cons_self, Nat.le_refl _, by have := h.2.1; omega⟩)
    have h3 : y.1 + y.2 ≤ x.1 + x.2 := by
      rcases Nat.lt_or_ge (x.1 + x.2) (y.1 + y.2) with hlt | hge
      · exact absurd ((e (x.1 + x.2)).2 ⟨y, List.mem_cons_self, by omega, hlt⟩) (gap h)
      · exact hge
    have h4 : x.1 + x.2 ≤ y.1 + y.2 := by
      rcases Nat.lt_or_ge (y.1 + y.2) (x.1 + x.2) with hlt | hge
      · exact absurd ((e (y.1 + y.2)).1 ⟨x, List.mem_cons_self, by omega, hlt⟩) (gap h')
      · exact hge
    have hxy : x = y := Prod.ext (by omega) (by omega)
    subst hxy
    rw [Canon.only h.2.2.2 h'.2.2.2 fun b => ?_]
    constructor
    · intro hb
      have h5 := Canon.has h.2.2.2 hb
      rcases hasB_cons.1 ((e b).1 (hasB_cons.2 (.inr hb))) with h6 | h6
      · omega
      · exact h6
    · intro hb
      have h5 := Canon.has h'.2.2.2 hb
      rcases hasB_cons.1 ((e b).2 (hasB_cons.2 (.inr hb))) with h6 | h6
      · omega
      · exact h6
/-- free blocks one behind the other are of one extent -/
theorem Canon.one (h : Canon hi lo l) {k : Nat} : ∀ {n : Nat}, 1 ≤ n → (∀ b, k ≤ b → b < k + n → hasB l b) → ∃ x ∈ l, x.1 ≤ k ∧ k + n ≤ x.1 + x.2
  | 0, h1, _ => by omega
  | 1, _, hb => by
    obtain ⟨x, hx, h1, h2⟩ := hb k (by omega) (by omega)
    exact ⟨x, hx, h1, by omega⟩
  | n + 2, _, hb => by
    obtain ⟨x, hx, h1, h2⟩ := Canon.one h (n := n + 1) (by omega) (fun b h1 h2 => hb b h1 (by omega))
    obtain ⟨y, hy, h3, h4⟩ := hb (k + (n + 1)) (by omega) (by omega)
    rcases h.apart hx hy with rfl | h5 | h5
    · exact ⟨x, hx, h1, by omega⟩
    · omega
    · omega
end

/-- the i-th of them -/
def xAt (l : List Ex) (i : Nat) : Ex := l.getD i (0, 0)
theorem xAt_eq {l : List Ex} {i : Nat} (hi : i < l.length) : xAt l i = l[i] := by
  unfold xAt; rw [List.getD_eq_getElem?_getD, List.getElem?_eq_getElem hi]; rfl

/-! ### what is left of an extent -/
def leftX (x : Ex) (f n : Nat) : List Ex := (if x.1 < f then [(x.1, f - x.1)] else []) ++ (if f + n < x.1 + x.2 then [(f + n, x.1 + x.2 - (f + n))] else [])
def cutL (l : List Ex) (i f n : Nat) : List Ex := l.take i ++ leftX (xAt l i) f n ++ l.drop (i + 1)
theorem split_at {l : List Ex} {i : Nat} (hi : i < l.length) : l = l.take i ++ xAt l i :: l.drop (i + 1) := by
  conv => lhs; rw [← List.take_append_drop i l, List.drop_eq_getElem_cons hi]
  rw [xAt_eq hi]
theorem hasB_left {x : Ex} {f n b : Nat} (h1 : x.1 ≤ f) (h2 : f + n ≤ x.1 + x.2) : hasB (leftX x f n) b ↔ (x.1 ≤ b ∧ b < x.1 + x.2) ∧ ¬ (f ≤ b ∧ b < f + n) := by
  unfold leftX
  rw [hasB_append]
  by_cases h3 : x.1 < f <;> by_cases h4 : f + n < x.1 + x.2 <;> simp [hasB, h3, h4] <;> omega
theorem canon_left {hi : Nat} {x : Ex} {f n : Nat} {A B : List Ex} {lo : Nat} (h : Canon hi lo (A ++ x :: B)) (h1 : x.1 ≤ f) (h2 : f + n ≤ x.1 + x.2) (hn : 1 ≤ n) : Canon hi lo (A ++ leftX x f n ++ B) := by
  obtain ⟨c1, c2, c3, c4, c5, c6⟩ := canon_mid.1 h
  have tail : ∀ (C : List Ex) (c : Nat), Canon hi lo C → (∀ y ∈ C, y.1 + y.2 ≤ c) → c ≤ x.1 + x.2 → Canon hi lo (C ++ B) := by
    intro C c hC hy hc
    cases B with
    | nil => simpa using hC
    | cons z B =>
      have hz := c6
      refine canon_mid.2 ⟨hC, fun y h => ?_, ?_, hz.2.1, hz.2.2.1, hz.2.2.2⟩
      · have := hy y h; have := hz.1; omega
      · have := hz.1; omega
  unfold leftX
  have hA : ∀ y ∈ A, y.1 + y.2 ≤ x.1 + x.2 := fun y hy => by have := c2 y hy; omega
  by_cases h3 : x.1 < f <;> by_cases h4 : f + n < x.1 + x.2
  · rw [if_pos h3, if_pos h4]
    refine tail _ (x.1 + x.2) ?_ ?_ (Nat.le_refl _)
    · rw [show A ++ ([(x.1, f - x.1)] ++ [(f + n, x.1 + x.2 - (f + n))]) = A ++ (x.1, f - x.1) :: [(f + n, x.1 + x.2 - (f + n))] from rfl]
      refine canon_mid.2 ⟨c1, c2, c3, ?_, ?_, ?_, ?_, ?_, trivial⟩ <;> simp <;> omega
    · intro y hy
      simp at hy
      rcases hy with hy | rfl | rfl
      · exact hA y hy
      · simp; omega
      · simp; omega
  · rw [if_pos h3, if_neg h4, List.append_nil]
    refine tail _ (x.1 + x.2) ?_ ?_ (Nat.le_refl _)
    · refine canon_mid.2 ⟨c1, c2, c3, ?_, ?_, trivial⟩ <;> simp <;> omega
    · intro y hy
      simp at hy
      rcases hy with hy | rfl
      · exact hA y hy
      · simp; omega
  · rw [if_neg h3, if_pos h4, List.nil_append]
    refine tail _ (x.1 + x.2) ?_ ?_ (Nat.le_refl _)
    · refine canon_mid.2 ⟨c1, ?_, ?_, ?_, ?_, trivial⟩ <;> simp
      · intro a b hy; have := c2 (a, b) hy; simp at this; omega
      · omega
      · omega
      · omega
    · intro y hy
      simp at hy
      rcases hy with hy | rfl
      · exact hA y hy
      · simp; omega
  · rw [if_neg h3, if_neg h4, List.append_nil, List.append_nil]
    exact tail A (x.1 + x.2) c1 hA (Nat.le_refl _)
theorem sum_left {x : Ex} {f n : Nat} (h1 : x.1 ≤ f) (h2 : f + n ≤ x.1 + x.2) : sumB (leftX x f n) + n = x.2 := by
  unfold leftX
  rw [sumB_append]
  by_cases h3 : x.1 < f <;> by_cases h4 : f + n < x.1 + x.2 <;> simp [sumB, h3, h4] <;> omega
/-- what a cut leaves -/
theorem cut_spec {hi lo : Nat} {l : List Ex} {i f n : Nat} (h : Canon hi lo l) (hil : i < l.length) (h1 : (xAt l i).1 ≤ f) (h2 : f + n ≤ (xAt l i).1 + (xAt l i).2) (hn : 1 ≤ n) :
    Canon hi lo (cutL l i f n) ∧ (∀ b, hasB (cutL l i f n) b ↔ hasB l b ∧ ¬ (f ≤ b ∧ b < f + n)) ∧ sumB (cutL l i f n) + n = sumB l := by
  have hs := split_at hil
  unfold cutL
  generalize xAt l i = x at *
  generalize l.take i = A at *
  generalize l.drop (i + 1) = B at *
  subst hs
  refine ⟨canon_left h h1 h2 hn, fun b => ?_, ?_⟩
  · obtain ⟨c1, c2, c3, c4, c5, c6⟩ := canon_mid.1 h
    rw [hasB_append, hasB_append, hasB_left h1 h2, hasB_append, hasB_cons]
    have hA : hasB A b → ¬ (f ≤ b ∧ b < f + n) := by
      rintro ⟨y, hy, h3, h4⟩ h5
      have := c2 y hy; omega
    have hB : hasB B b → ¬ (f ≤ b ∧ b < f + n) := fun hb => by have := c6.has hb; omega
    constructor
    · rintro ((h3 | h3) | h3)
      · exact ⟨.inl h3, hA h3⟩
      · exact ⟨.inr (.inl h3.1), h3.2⟩
      · exact ⟨.inr (.inr h3), hB h3⟩
    · rintro ⟨h3 | h3 | h3, h4⟩
      · exact .inl (.inl h3)
      · exact .inl (.inr ⟨h3, h4⟩)
      · exact .inr h3
  · rw [sumB_append, sumB_append, sumB_append, sumB_cons]
    have := sum_left (x := x) (f := f) (n := n) h1 h2
    omega

/-! ### the first extent that has a block, or lies behind it -/
def nextI (l : List Ex) (a : Nat) : Nat := l.findIdx fun x => decide (a < x.1 + x.2)
def fitI (l : List Ex) (n : Nat) : Nat := l.findIdx fun x => decide (n ≤ x.2)
theorem getD_lt {l : List Ex} {i : Nat} (hi : i < l.length) : xAt l i ∈ l := by
  rw [xAt_eq hi]; exact List.getElem_mem hi
theorem findIdx_unique {p : Ex → Bool} {l : List Ex} {i : Nat} (hi : i ≤ l.length) (h1 : ∀ k, k < i → p (xAt l k) = false) (h2 : i < l.length → p (xAt l i) = true) : l.findIdx p = i := by
  rcases Nat.lt_trichotomy (l.findIdx p) i with h | h | h
  · have h3 := List.findIdx_getElem (p := p) (xs := l) (w := by omega)
    have h4 := h1 _ h
    rw [xAt_eq (by omega), h3] at h4; cases h4
  · exact h
  · have h3 := List.not_of_lt_findIdx h
    have hil : i < l.length := Nat.lt_of_lt_of_le h List.findIdx_le_length
    have h4 := h2 hil
    rw [xAt_eq hil] at h4
    rw [h4] at h3; cases h3
theorem findIdx_at {p : Ex → Bool} {l : List Ex} (h : l.findIdx p < l.length) : p (xAt l (l.findIdx p)) = true := by
  rw [xAt_eq h]; exact List.findIdx_getElem
theorem findIdx_below {p : Ex → Bool} {l : List Ex} {k : Nat} (h : k < l.findIdx p) : p (xAt l k) = false := by
  have hk : k < l.length := Nat.lt_of_lt_of_le h List.findIdx_le_length
  rw [xAt_eq hk]
  simpa using List.not_of_lt_findIdx h
/-- the ends rise -/
theorem Canon.ends {hi lo : Nat} {l : List Ex} (h : Canon hi lo l) {i j : Nat} (hij : i < j) (hj : j < l.length) : (xAt l i).1 + (xAt l i).2 + 1 ≤ (xAt l j).1 := by
  have hs := split_at hj
  rw [hs] at h
  have h2 := (canon_mid.1 h).2.1 (xAt l i) (by
    rw [xAt_eq (by omega)]
    have h3 : (l.take j)[i]? = some l[i] := by rw [List.getElem?_take, if_pos hij, List.getElem?_eq_getElem (by omega)]
    exact List.mem_of_getElem? h3)
  exact h2
theorem Canon.getD {hi lo : Nat} {l : List Ex} (h : Canon hi lo l) {i : Nat} (hil : i < l.length) : lo ≤ (xAt l i).1 ∧ 1 ≤ (xAt l i).2 ∧ (xAt l i).1 + (xAt l i).2 ≤ hi := h.of_mem (getD_lt hil)
/-- n free blocks from f on are of the extent that is next -/
theorem next_holds {hi lo : Nat} {l : List Ex} {f n : Nat} (h : Canon hi lo l) (hn : 1 ≤ n) (hb : ∀ b, f ≤ b → b < f + n → hasB l b) :
    nextI l f < l.length ∧ (xAt l (nextI l f)).1 ≤ f ∧ f + n ≤ (xAt l (nextI l f)).1 + (xAt l (nextI l f)).2 := by
  obtain ⟨x, hx, h1, h2⟩ := h.one hn hb
  obtain ⟨j, hj, rfl⟩ := List.getElem_of_mem hx
  have hg : xAt l j = l[j] := xAt_eq hj
  have he : nextI l f = j := findIdx_unique (Nat.le_of_lt hj) (fun k hk => by
      have := h.ends hk hj
      rw [hg] at this
      simp; omega) (fun _ => by rw [hg]; simp; omega)
  rw [he, hg]
  exact ⟨hj, h1, h2⟩
theorem next_has {l : List Ex} {f n : Nat} (h1 : (xAt l (nextI l f)).1 ≤ f) (h2 : f + n ≤ (xAt l (nextI l f)).1 + (xAt l (nextI l f)).2) (hl : nextI l f < l.length) : ∀ b, f ≤ b → b < f + n → hasB l b :=
  fun b hb hb2 => ⟨_, getD_lt hl, by omega, by omega⟩
/-- none of n blocks from f on is free just if the extent that is next begins behind them -/
theorem next_none {hi lo : Nat} {l : List Ex} {f n : Nat} (h : Canon hi lo l) (hn : 1 ≤ n) : (∀ b, f ≤ b → b < f + n → ¬ hasB l b) ↔ (nextI l f < l.length → f + n ≤ (xAt l (nextI l f)).1) := by
  constructor
  · intro hb hlt
    rcases Nat.lt_or_ge (xAt l (nextI l f)).1 (f + n) with h1 | h1
    · have h2 := findIdx_at (p := fun x : Ex => decide (f < x.1 + x.2)) hlt
      simp only [decide_eq_true_eq] at h2
      have hg := h.getD hlt
      refine absurd ⟨_, getD_lt hlt, ?_, ?_⟩ (hb (max f (xAt l (nextI l f)).1) (by omega) (by omega))
      · omega
      · unfold nextI at hg h1 ⊢; omega
    · exact h1
  · rintro h1 b hb1 hb2 ⟨x, hx, h3, h4⟩
    obtain ⟨j, hj, rfl⟩ := List.getElem_of_mem hx
    have hg : xAt l j = l[j] := xAt_eq hj
    rcases Nat.lt_trichotomy j (nextI l f) with h5 | h5 | h5
    · have h6 := findIdx_below (p := fun x : Ex => decide (f < x.1 + x.2)) h5
      rw [hg] at h6; simp at h6; omega
    · subst h5
      have := h1 hj; rw [hg] at this; omega
    · have h6 := h.ends h5 hj
      have h7 := h1 (by omega)
      rw [hg] at h6; omega
/-- where there is room for n -/
theorem fit_least {hi lo : Nat} {l : List Ex} {n : Nat} (h : Canon hi lo l) (hn : 1 ≤ n) (hl : fitI l n < l.length) :
    n ≤ (xAt l (fitI l n)).2 ∧ ∀ k, (∀ b, k ≤ b → b < k + n → hasB l b) → (xAt l (fitI l n)).1 ≤ k := by
  have h1 := findIdx_at (p := fun x : Ex => decide (n ≤ x.2)) hl
  refine ⟨by unfold fitI; simpa using h1, fun k hk => ?_⟩
  obtain ⟨x, hx, h2, h3⟩ := h.one hn hk
  obtain ⟨j, hj, rfl⟩ := List.getElem_of_mem hx
  have hg : xAt l j = l[j] := xAt_eq hj
  rcases Nat.lt_trichotomy j (fitI l n) with h5 | h5 | h5
  · have h6 := findIdx_below (p := fun x : Ex => decide (n ≤ x.2)) h5
    rw [hg] at h6; simp at h6; omega
  · subst h5; rw [hg]; exact h2
  · have h6 := h.ends h5 hj
    rw [hg] at h6; unfold fitI at h6 ⊢; omega
theorem fit_none {hi lo : Nat} {l : List Ex} {n : Nat} (h : Canon hi lo l) (hn : 1 ≤ n) (hl : l.length ≤ fitI l n) (k : Nat) : ¬ ∀ b, k ≤ b → b < k + n → hasB l b := by
  intro hk
  obtain ⟨x, hx, h2, h3⟩ := h.one hn hk
  obtain ⟨j, hj, rfl⟩ := List.getElem_of_mem hx
  have hg : xAt l j = l[j] := xAt_eq hj
  have h6 := findIdx_below (p := fun x : Ex => decide (n ≤ x.2)) (show j < fitI l n by omega)
  rw [hg] at h6; simp at h6; omega

/-! ### blocks that are given -/
def touchL (l : List Ex) (i f : Nat) : Bool := decide (0 < i) && decide ((xAt l (i - 1)).1 + (xAt l (i - 1)).2 = f)
def touchR (l : List Ex) (i e : Nat) : Bool := decide (i < l.length) && decide ((xAt l i).1 = e)
def joinL (l : List Ex) (i f n : Nat) : List Ex :=
  match touchL l i f, touchR l i (f + n) with
  | false, false => l.take i ++ [(f, n)] ++ l.drop i
  | true, false => l.take (i - 1) ++ [((xAt l (i - 1)).1, (xAt l (i - 1)).2 + n)] ++ l.drop i
  | false, true => l.take i ++ [(f, n + (xAt l i).2)] ++ l.drop (i + 1)
  | true, true => l.take (i - 1) ++ [((xAt l (i - 1)).1, (xAt l (i - 1)).2 + n + (xAt l i).2)] ++ l.drop (i + 1)
theorem canon_put {hi lo : Nat} {A B : List Ex} {f n : Nat} (hA : Canon hi lo A) (hB : Canon hi lo B) (h1 : ∀ y ∈ A, y.1 + y.2 + 1 ≤ f) (h2 : B ≠ [] → f + n + 1 ≤ (B.headD (0, 0)).1) (h3 : lo ≤ f) (h4 : f + n ≤ hi) (hn : 1 ≤ n) : Canon hi lo (A ++ [(f, n)] ++ B) := by
  rw [List.append_assoc]
  refine canon_mid.2 ⟨hA, h1, h3, hn, h4, ?_⟩
  cases B with
  | nil => trivial
  | cons z B => exact ⟨h2 (by simp), hB.2⟩
theorem Canon.tail {hi lo : Nat} {A B : List Ex} (h : Canon hi lo (A ++ B)) : Canon hi lo B := by
  cases B with
  | nil => trivial
  | cons z B => obtain ⟨_, _, c3, c4, c5, c6⟩ := canon_mid.1 h; exact ⟨c3, c4, c5, c6⟩
theorem drop_head {l : List Ex} {i : Nat} (h : l.drop i ≠ []) : i < l.length ∧ (l.drop i).headD (0, 0) = xAt l i := by
  have hi : i < l.length := by
    rcases Nat.lt_or_ge i l.length with h1 | h1
    · exact h1
    · exact absurd (List.drop_eq_nil_of_le h1) h
  refine ⟨hi, ?_⟩
  rw [List.drop_eq_getElem_cons hi, xAt_eq hi]; rfl
theorem mem_take {l : List Ex} {i : Nat} {y : Ex} (h : y ∈ l.take i) : ∃ k, k < i ∧ k < l.length ∧ y = xAt l k := by
  obtain ⟨k, hk, rfl⟩ := List.getElem_of_mem h
  have hk' : k < i ∧ k < l.length := by rw [List.length_take] at hk; omega
  refine ⟨k, hk'.1, hk'.2, ?_⟩
  rw [xAt_eq hk'.2]; simp
/-- what a join leaves -/
theorem join_spec {hi lo : Nat} {l : List Ex} {f n : Nat} (h : Canon hi lo l) (hn : 1 ≤ n) (hlo : lo ≤ f) (hhi : f + n ≤ hi) (hb : ∀ b, f ≤ b → b < f + n → ¬ hasB l b) :
    Canon hi lo (joinL l (nextI l f) f n) ∧ (∀ b, hasB (joinL l (nextI l f) f n) b ↔ hasB l b ∨ (f ≤ b ∧ b < f + n)) ∧ sumB (joinL l (nextI l f) f n) = sumB l + n := by
  have hnx := (next_none h hn).1 hb
  have hbe : ∀ k, k < nextI l f → (xAt l k).1 + (xAt l k).2 ≤ f := fun k hk => by
    have := findIdx_below (p := fun x : Ex => decide (f < x.1 + x.2)) hk
    simpa using this
  have hle : nextI l f ≤ l.length := List.findIdx_le_length
  generalize nextI l f = i at *
  have cTake : ∀ k, Canon hi lo (l.take k) := fun k => Canon.left (B := l.drop k) (by rw [List.take_append_drop]; exact h)
  have cDrop : ∀ k, Canon hi lo (l.drop k) := fun k => Canon.tail (A := l.take k) (by rw [List.take_append_drop]; exact h)
  have eT : ∀ k, l.take k ++ l.drop k = l := fun k => List.take_append_drop k l
  have hasI : ∀ b, hasB l b ↔ hasB (l.take i) b ∨ hasB (l.drop i) b := fun b => by rw [← hasB_append, eT]
  have sumI : sumB l = sumB (l.take i) + sumB (l.drop i) := by rw [← sumB_append, eT]
  have Lc : ∀ (hL : touchL l i f = true), 0 < i ∧ (xAt l (i - 1)).1 + (xAt l (i - 1)).2 = f ∧ l.take i = l.take (i - 1) ++ [xAt l (i - 1)] := fun hL => by
    simp [touchL] at hL
    refine ⟨hL.1, hL.2, ?_⟩
    obtain ⟨j, rfl⟩ : ∃ j, i = j + 1 := ⟨i - 1, by omega⟩
    rw [Nat.add_sub_cancel, List.take_add_one, List.getElem?_eq_getElem (by omega), xAt_eq (by omega)]; rfl
  have Ln : ∀ (hL : touchL l i f = false), ∀ y ∈ l.take i, y.1 + y.2 + 1 ≤ f := fun hL y hy => by
    obtain ⟨k, hk, hkl, rfl⟩ := mem_take hy
    have h1 := hbe k hk
    rcases Nat.lt_or_ge k (i - 1) with h2 | h2
    · have := h.ends h2 (by omega); have := hbe (i - 1) (by omega); have := (h.getD (show i - 1 < l.length by omega)).2.1; omega
    · obtain rfl : k = i - 1 := by omega
      simp [touchL] at hL
      have := hL (by omega); omega
  have Rc : ∀ (hR : touchR l i (f + n) = true), i < l.length ∧ (xAt l i).1 = f + n ∧ l.drop i = xAt l i :: l.drop (i + 1) := fun hR => by
    simp [touchR] at hR
    refine ⟨hR.1, hR.2, ?_⟩
    rw [List.drop_eq_getElem_cons hR.1, ← xAt_eq hR.1]
  have Rn : ∀ (hR : touchR l i (f + n) = false), l.drop i ≠ [] → f + n + 1 ≤ ((l.drop i).headD (0, 0)).1 := fun hR hd => by
    obtain ⟨h1, h2⟩ := drop_head hd
    rw [h2]
    have h3 := hnx h1
    simp [touchR, h1] at hR
    omega
  have hd : ∀ (hi' : i < l.length), l.drop (i + 1) ≠ [] → (xAt l i).1 + (xAt l i).2 + 1 ≤ ((l.drop (i + 1)).headD (0, 0)).1 := fun hi' hne => by
    obtain ⟨h1, h2⟩ := drop_head hne
    rw [h2]; exact h.ends (Nat.lt_succ_self i) h1
  have hpre : ∀ (h0 : 0 < i), ∀ y ∈ l.take (i - 1), y.1 + y.2 + 1 ≤ (xAt l (i - 1)).1 := fun h0 y hy => by
    obtain ⟨k, hk, hkl, rfl⟩ := mem_take hy
    exact h.ends hk (by omega)
  unfold joinL
  cases hL : touchL l i f <;> cases hR : touchR l i (f + n) <;> dsimp only
  · refine ⟨canon_put (cTake i) (cDrop i) (Ln hL) (Rn hR) hlo hhi hn, fun b => ?_, ?_⟩
    · rw [hasB_append, hasB_append, hasB_cons, hasI b]; have := hasB_nil b; grind
    · rw [sumB_append, sumB_append, sumB_cons, sumB_nil, sumI]; simp only; omega
  · obtain ⟨r1, r2, r3⟩ := Rc hR
    have g := h.getD r1
    have hx : (xAt l i).1 + (xAt l i).2 = f + (n + (xAt l i).2) := by omega
    refine ⟨canon_put (cTake i) (cDrop (i + 1)) (Ln hL) (fun hne => by have := hd r1 hne; omega) hlo (by omega) (by omega), fun b => ?_, ?_⟩
    · rw [hasB_append, hasB_append, hasB_cons, hasI b, r3, hasB_cons]
      have := hasB_nil b
      have : (f ≤ b ∧ b < f + (n + (xAt l i).2)) ↔ ((xAt l i).1 ≤ b ∧ b < (xAt l i).1 + (xAt l i).2) ∨ (f ≤ b ∧ b < f + n) := by omega
      grind
    · rw [sumB_append, sumB_append, sumB_cons, sumB_nil, sumI, r3, sumB_cons]; simp only; omega
  · obtain ⟨l1, l2, l3⟩ := Lc hL
    have g := h.getD (show i - 1 < l.length by omega)
    refine ⟨canon_put (cTake (i - 1)) (cDrop i) (hpre l1) (fun hne => by have := Rn hR hne; omega) g.1 (by omega) (by omega), fun b => ?_, ?_⟩
    · rw [hasB_append, hasB_append, hasB_cons, hasI b, l3, hasB_append, hasB_cons]
      have := hasB_nil b
      have : ((xAt l (i - 1)).1 ≤ b ∧ b < (xAt l (i - 1)).1 + ((xAt l (i - 1)).2 + n)) ↔ ((xAt l (i - 1)).1 ≤ b ∧ b < (xAt l (i - 1)).1 + (xAt l (i - 1)).2) ∨ (f ≤ b ∧ b < f + n) := by omega
      grind
    · rw [sumB_append, sumB_append, sumB_cons, sumB_nil, sumI, l3, sumB_append, sumB_cons, sumB_nil]; simp only; omega
  · obtain ⟨l1, l2, l3⟩ := Lc hL
    obtain ⟨r1, r2, r3⟩ := Rc hR
    have g := h.getD (show i - 1 < l.length by omega)
    have g2 := h.getD r1
    refine ⟨canon_put (cTake (i - 1)) (cDrop (i + 1)) (hpre l1) (fun hne => by have := hd r1 hne; omega) g.1 (by omega) (by omega), fun b => ?_, ?_⟩
    · rw [hasB_append, hasB_append, hasB_cons, hasI b, l3, r3, hasB_append, hasB_cons, hasB_cons]
      have := hasB_nil b
      have : ((xAt l (i - 1)).1 ≤ b ∧ b < (xAt l (i - 1)).1 + ((xAt l (i - 1)).2 + n + (xAt l i).2)) ↔ (((xAt l (i - 1)).1 ≤ b ∧ b < (xAt l (i - 1)).1 + (xAt l (i - 1)).2) ∨ ((xAt l i).1 ≤ b ∧ b < (xAt l i).1 + (xAt l i).2)) ∨ (f ≤ b ∧ b < f + n) := by omega
      grind
    · rw [sumB_append, sumB_append, sumB_cons, sumB_nil, sumI, l3, r3, sumB_append, sumB_cons, sumB_cons, sumB_nil]; simp only; omega

/-- a space: its blocks, and the free ones -/
structure Sp where
  first : Nat
  blocks : Nat
  fr : List Ex
def Sp.ok (s : Sp) : Prop := s.first ≤ 1000000 ∧ s.blocks ≤ 1000000 ∧ Canon (s.first + s.blocks) s.first s.fr
theorem Sp.ok.len {s : Sp} (h : s.ok) : s.fr.length ≤ 1000000 := by have := h.2.2.length; have := h.2.1; omega
/-- its extents' cells -/
def encX (x : Ex) : List Value := [.int .i64 x.1, .int .i64 x.2]
def flatX (l : List Ex) : List Value := l.flatMap encX
theorem flatX_append (A B : List Ex) : flatX (A ++ B) = flatX A ++ flatX B := by simp [flatX]
theorem flatX_length (l : List Ex) : (flatX l).length = l.length * 2 := by
  induction l with
  | nil => rfl
  | cons x l ih => simp only [flatX, List.flatMap_cons, List.length_append] at *; rw [ih]; simp [encX]; omega
theorem flatX_one {l : List Ex} : ∀ u ∈ flatX l, u.oneCell' = true := by
  intro u hu
  obtain ⟨e, _, he⟩ := List.mem_flatMap.1 hu
  simp [encX] at he
  rcases he with rfl | rfl <;> rfl
theorem flatX_get (l : List Ex) : ∀ (i : Nat), i < l.length → (flatX l)[i * 2]? = some (.int .i64 (xAt l i).1) ∧ (flatX l)[i * 2 + 1]? = some (.int .i64 (xAt l i).2) := by
  induction l with
  | nil => intro i hi; simp at hi
  | cons x l ih =>
    intro i hi
    cases i with
    | zero => exact ⟨rfl, rfl⟩
    | succ i =>
      have h := ih i (by simpa using hi)
      have e1 : (i + 1) * 2 = i * 2 + 2 := by omega
      rw [e1]
      exact ⟨h.1, h.2⟩
theorem flatX_take (l : List Ex) : ∀ i : Nat, flatX (l.take i) = (flatX l).take (i * 2) := by
  induction l with
  | nil => intro i; simp [flatX]
  | cons x l ih =>
    intro i
    cases i with
    | zero => rfl
    | succ i =>
      have e1 : (i + 1) * 2 = i * 2 + 2 := by omega
      rw [e1]
      show encX x ++ flatX (l.take i) = (encX x ++ flatX l).take (i * 2 + 2)
      rw [ih i]; rfl
theorem flatX_drop (l : List Ex) : ∀ i : Nat, flatX (l.drop i) = (flatX l).drop (i * 2) := by
  induction l with
  | nil => intro i; simp [flatX]
  | cons x l ih =>
    intro i
    cases i with
    | zero => rfl
    | succ i =>
      have e1 : (i + 1) * 2 = i * 2 + 2 := by omega
      rw [e1]
      show flatX (l.drop i) = (encX x ++ flatX l).drop (i * 2 + 2)
      rw [ih i]; rfl
end Go.Proofs.Ytbkgpilmgllkiaa
