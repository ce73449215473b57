/- A GRAPH'S BYTES, AS MATHEMATICS: what is laid (enc), what is read (dec), and how the one undoes the other. No program is named here. -/
import Derived.Test.YtdjmjabbjjcgiaaScan
import Derived.Test.YtdjmjabbjjcgiaaGraphMath
namespace Go.Proofs.Ytdjmjabbjjcgiaa

/-- The number at place t of l, from least to most, and the place behind it; else the wrong place. -/
def num (l : List Nat) (t least most : Nat) : Nat × Nat × Bool :=
  if (scan (l.drop t) 0 0).2.2 = 0 then
    (if (scan (l.drop t) 0 0).1 < least ∨ most < (scan (l.drop t) 0 0).1 then (0, t + (scan (l.drop t) 0 0).2.1 - 1, false)
     else ((scan (l.drop t) 0 0).1, t + (scan (l.drop t) 0 0).2.1, true))
  else (0, t + (scan (l.drop t) 0 0).2.1, false)

/-- c edges of u, the next one's end not below v, of a graph of N vertices -/
def tE (l : List Nat) (N u : Nat) : Nat → Nat → Nat → List (Int × Int) → List (Int × Int) × Nat × Bool
  | 0, t, _, acc => (acc, t, true)
  | c + 1, t, v, acc =>
    if (num l t 0 (N - 1 - v)).2.2 = true then
      tE l N u c (num l t 0 (N - 1 - v)).2.1 (v + (num l t 0 (N - 1 - v)).1) (acc ++ [((u : Int), ((v + (num l t 0 (N - 1 - v)).1 : Nat) : Int))])
    else (acc, (num l t 0 (N - 1 - v)).2.1, false)
/-- how many edges the vertex must have at the least, if k come behind it and rest edges are left -/
def leastOf (k rest : Nat) : Nat := if k = 0 then rest else 0
/-- the vertex u's edges, k vertices behind it -/
def tU (l : List Nat) (N m k u t : Nat) (acc : List (Int × Int)) : List (Int × Int) × Nat × Bool :=
  if (num l t (leastOf k (m - acc.length)) (m - acc.length)).2.2 = true then
    tE l N u (num l t (leastOf k (m - acc.length)) (m - acc.length)).1 (num l t (leastOf k (m - acc.length)) (m - acc.length)).2.1 u acc
  else (acc, (num l t (leastOf k (m - acc.length)) (m - acc.length)).2.1, false)
/-- k vertices' edges, from vertex u on -/
def tV (l : List Nat) (N m : Nat) : Nat → Nat → Nat → List (Int × Int) → List (Int × Int) × Nat × Bool
  | 0, _, t, acc => (acc, t, true)
  | k + 1, u, t, acc =>
    if (tU l N m k u t acc).2.2 = true then tV l N m k (u + 1) (tU l N m k u t acc).2.1 (tU l N m k u t acc).1
    else ((tU l N m k u t acc).1, (tU l N m k u t acc).2.1, false)
def mostE (n : Nat) : Nat := if n = 0 then 0 else 1073741824
/-- the whole text: whether it is a graph's, the graph, and the wrong place -/
def dec (l : List Nat) : Bool × Nat × List (Int × Int) × Nat :=
  if l.getD 0 0 = 71 then
    (if (num l 1 0 1073741824).2.2 = true then
      (if (num l (num l 1 0 1073741824).2.1 0 (mostE (num l 1 0 1073741824).1)).2.2 = true then
        (let q := tV l (num l 1 0 1073741824).1 (num l (num l 1 0 1073741824).2.1 0 (mostE (num l 1 0 1073741824).1)).1 (num l 1 0 1073741824).1 0 (num l (num l 1 0 1073741824).2.1 0 (mostE (num l 1 0 1073741824).1)).2.1 []
         if q.2.2 = true ∧ q.2.1 = l.length then (true, (num l 1 0 1073741824).1, q.1, 0) else (false, 0, [], q.2.1))
      else (false, 0, [], (num l (num l 1 0 1073741824).2.1 0 (mostE (num l 1 0 1073741824).1)).2.1))
    else (false, 0, [], (num l 1 0 1073741824).2.1))
  else (false, 0, [], 0)

/-- by how much the ends rise -/
def diffs : Int → List (Int × Int) → List Nat
  | _, [] => []
  | p, e :: r => uv (e.2 - p).toNat ++ diffs e.2 r
/-- how many edges at the beginning have u first -/
def lead (E : List (Int × Int)) (u : Int) : Nat := (E.takeWhile fun e => decide (e.1 = u)).length
def encV : Nat → Nat → List (Int × Int) → List Nat
  | 0, _, _ => []
  | k + 1, u, E => uv (lead E u) ++ (diffs u (E.take (lead E u)) ++ encV k (u + 1) (E.drop (lead E u)))
def enc (N : Nat) (E : List (Int × Int)) : List Nat := [71] ++ (uv N ++ (uv E.length ++ encV N 0 E))

/-! ### one number -/
theorem scan_ge : ∀ (l : List Nat) (p y : Nat), p ≤ (scan l p y).2.1 ∧ ((scan l p y).2.2 = 0 → p < (scan l p y).2.1)
  | [], p, y => by simp [scan]
  | c :: r, p, y => by
    unfold scan
    split
    · split
      · simp
      · have := scan_ge r (p + 1) (y + c % 128 * 128 ^ p)
        omega
    · simp
theorem scan_cut : ∀ (l : List Nat) (p y j : Nat), p + j < (scan l p y).2.1 + (if (scan l p y).2.2 = 0 then 0 else 1) → scan (l.take j) p y = (0, p + j, 3)
  | [], p, y, j, h => by
    simp [scan] at h ⊢; omega
  | c :: r, p, y, 0, h => by simp [scan]
  | c :: r, p, y, j + 1, h => by
    unfold scan at h ⊢
    simp only [List.take_succ_cons]
    by_cases hok : okB c p = true
    · rw [if_pos hok] at h ⊢
      by_cases hc : c < 128
      · rw [if_pos hc] at h; simp at h
      · rw [if_neg hc] at h ⊢
        have := scan_cut r (p + 1) (y + c % 128 * 128 ^ p) j (by omega)
        rw [this]; congr 2; omega
    · rw [if_neg hok] at h; simp at h
theorem scan_long : ∀ (l : List Nat) (p y j : Nat), (scan l p y).2.1 + (if (scan l p y).2.2 = 0 then 0 else 1) ≤ p + j → scan (l.take j) p y = scan l p y
  | [], p, y, j, h => by simp
  | c :: r, p, y, 0, h => by
    exfalso
    have h1 := scan_ge (c :: r) p y
    split at h
    · rename_i h0; have := h1.2 h0; omega
    · omega
  | c :: r, p, y, j + 1, h => by
    unfold scan at h ⊢
    simp only [List.take_succ_cons]
    by_cases hok : okB c p = true
    · rw [if_pos hok] at h ⊢
      rw [if_pos hok]
      by_cases hc : c < 128
      · rw [if_pos hc, if_pos hc]
      · rw [if_neg hc] at h
        rw [if_neg hc, if_neg hc]
        exact scan_long r (p + 1) _ j (by omega)
    · rw [if_neg hok, if_neg hok]

/-- r' is r as it comes out of the first n bytes: the same, if it was settled there; else told at their end -/
def Cut {α : Type} (n : Nat) (r r' : α × Nat × Bool) : Prop := if r.2.1 + (if r.2.2 = true then 0 else 1) ≤ n then r' = r else r'.2.1 = n ∧ r'.2.2 = false

theorem num_ge (l : List Nat) (t lo hi : Nat) : t ≤ (num l t lo hi).2.1 ∧ ((num l t lo hi).2.2 = true → t < (num l t lo hi).2.1) := by
  have h := scan_ge (l.drop t) 0 0
  unfold num
  split
  · rename_i h0
    have := h.2 h0
    split <;> simp <;> omega
  · simp
theorem num_le (l : List Nat) (t lo hi : Nat) (ht : t ≤ l.length) : (num l t lo hi).2.1 ≤ l.length := by
  have h := scan_le (l.drop t) 0 0
  simp only [List.length_drop] at h
  unfold num
  split
  · split <;> simp <;> omega
  · simp; omega
theorem num_cut (l : List Nat) (t lo hi n : Nat) (ht : t ≤ n) : Cut n (num l t lo hi) (num (l.take n) t lo hi) := by
  have hd : (l.take n).drop t = (l.drop t).take (n - t) := by rw [List.drop_take]
  have h := scan_ge (l.drop t) 0 0
  have h1 := scan_cut (l.drop t) 0 0 (n - t)
  have h2 := scan_long (l.drop t) 0 0 (n - t)
  unfold Cut num
  rw [hd]
  generalize scan (l.drop t) 0 0 = s at *
  by_cases h0 : s.2.2 = 0
  · have h3 := h.2 h0
    simp only [h0, if_true, Nat.add_zero] at h1 h2 ⊢
    by_cases hr : s.1 < lo ∨ hi < s.1
    · simp only [if_pos hr]
      by_cases hc : s.2.1 ≤ n - t
      · rw [h2 (by omega)]
        simp only [h0, if_true, if_pos hr]
        rw [if_pos (by simp; omega)]; trivial
      · rw [h1 (by omega), if_neg (by simp; omega)]
        simp; omega
    · simp only [if_neg hr]
      by_cases hc : s.2.1 ≤ n - t
      · rw [h2 (by omega)]
        simp only [h0, if_true, if_neg hr]
        rw [if_pos (by omega)]; trivial
      · rw [h1 (by omega), if_neg (by omega)]
        simp; omega
  · simp only [if_neg h0] at h1 h2 ⊢
    by_cases hc : s.2.1 + 1 ≤ n - t
    · rw [h2 (by omega)]
      simp only [if_neg h0]
      rw [if_pos (by simp; omega)]; trivial
    · rw [h1 (by omega), if_neg (by simp; omega)]
      simp; omega
/-- a number that stands there is read, whatever stands behind it -/
theorem num_uv {l r : List Nat} {t x lo hi : Nat} (h : l.drop t = uv x ++ r) (h1 : lo ≤ x) (h2 : x ≤ hi) (h3 : U64 x) : num l t lo hi = (x, t + vs x, true) ∧ l.drop (t + vs x) = r := by
  constructor
  · unfold num
    rw [h, scan_put x r h3]
    simp only [if_true]
    rw [if_neg (by omega)]
  · rw [← List.drop_drop, h, vs, List.drop_append_of_le_length (Nat.le_refl _), List.drop_length]; rfl
/-- what is read stands there -/
theorem num_back {l : List Nat} {t lo hi : Nat} (hb : ∀ c ∈ l, c < 256) (h : (num l t lo hi).2.2 = true) :
    l.drop t = uv (num l t lo hi).1 ++ l.drop (num l t lo hi).2.1 ∧ lo ≤ (num l t lo hi).1 ∧ (num l t lo hi).1 ≤ hi ∧ U64 (num l t lo hi).1 ∧ (num l t lo hi).2.1 ≤ l.length := by
  have hle := scan_le (l.drop t) 0 0
  have hge := scan_ge (l.drop t) 0 0
  have hs := scan_ok (l.drop t) 0 0 (scan (l.drop t) 0 0).1 (scan (l.drop t) 0 0).2.1 (fun c hc => hb c (List.mem_of_mem_drop hc)) (by omega) (by decide)
  rw [List.length_drop] at hle
  unfold num at h ⊢
  generalize scan (l.drop t) 0 0 = s at *
  by_cases h0 : s.2.2 = 0
  · rw [if_pos h0] at h ⊢
    by_cases hr : s.1 < lo ∨ hi < s.1
    · rw [if_pos hr] at h; cases h
    · rw [if_neg hr]
      obtain ⟨z, hz1, hz2, hz3, hz4, _, hz6⟩ := hs (by rw [← h0])
      have hz : s.1 = z := by rw [hz1]; simp
      have hlt := hge.2 h0
      refine ⟨?_, by simp only; omega, by simp only; omega, hz6, by simp only; omega⟩
      simp only
      rw [hz, hz4, Nat.sub_zero, ← List.drop_drop, List.take_append_drop]
  · rw [if_neg h0] at h; cases h

/-! ### the edges of a vertex -/
theorem tE_ge (l : List Nat) (N u : Nat) : ∀ (c t v : Nat) (acc : List (Int × Int)), t ≤ (tE l N u c t v acc).2.1
  | 0, t, v, acc => by simp [tE]
  | c + 1, t, v, acc => by
    have h := num_ge l t 0 (N - 1 - v)
    unfold tE
    split
    · exact Nat.le_trans h.1 (tE_ge l N u c _ _ _)
    · exact h.1
theorem tE_cut (l : List Nat) (N u n : Nat) : ∀ (c t v : Nat) (acc : List (Int × Int)), t ≤ n → Cut n (tE l N u c t v acc) (tE (l.take n) N u c t v acc)
  | 0, t, v, acc, ht => by unfold Cut; simp only [tE, if_true, Nat.add_zero]; rw [if_pos ht]; trivial
  | c + 1, t, v, acc, ht => by
    have h := num_cut l t 0 (N - 1 - v) n ht
    have hg := tE_ge l N u c (num l t 0 (N - 1 - v)).2.1 (v + (num l t 0 (N - 1 - v)).1) (acc ++ [((u : Int), ((v + (num l t 0 (N - 1 - v)).1 : Nat) : Int))])
    have ih := tE_cut l N u n c (num l t 0 (N - 1 - v)).2.1 (v + (num l t 0 (N - 1 - v)).1) (acc ++ [((u : Int), ((v + (num l t 0 (N - 1 - v)).1 : Nat) : Int))])
    unfold tE
    generalize num l t 0 (N - 1 - v) = d at *
    generalize num (l.take n) t 0 (N - 1 - v) = d' at *
    by_cases hok : d.2.2 = true
    · by_cases hn : d.2.1 ≤ n
      · obtain rfl : d' = d := by
          unfold Cut at h; rw [if_pos (by simp [hok]; exact hn)] at h; exact h
        simp only [hok, if_true]
        exact ih hn
      · unfold Cut at h ⊢
        rw [if_neg (by simp [hok]; omega)] at h
        simp only [hok, if_true]
        rw [if_neg (by omega)]
        rw [if_neg (by simp [h.2])]
        exact ⟨h.1, rfl⟩
    · unfold Cut at h ⊢
      simp only [hok] at h ⊢
      by_cases hn : d.2.1 + 1 ≤ n
      · rw [if_pos (by simpa using hn)] at h ⊢
        subst h
        simp only [hok]
        simp
      · rw [if_neg (by simpa using hn)] at h ⊢
        rw [if_neg (by simp [h.2])]
        exact ⟨h.1, rfl⟩

/-- edges of u, rising from p on, below N -/
def Ris (N : Nat) (u : Int) : Int → List (Int × Int) → Prop
  | _, [] => True
  | p, e :: r => e.1 = u ∧ p ≤ e.2 ∧ e.2 < N ∧ Ris N u e.2 r
theorem tE_lay {l : List Nat} {N u : Nat} (hN : N ≤ 1073741824) : ∀ (es : List (Int × Int)) (t v : Nat) (acc : List (Int × Int)) (r : List Nat), l.drop t = diffs v es ++ r → v < N → Ris N u v es →
    tE l N u es.length t v acc = (acc ++ es, t + (diffs v es).length, true) ∧ l.drop (t + (diffs v es).length) = r
  | [], t, v, acc, r, h, _, _ => by simp [tE, diffs] at h ⊢; exact h
  | e :: es, t, v, acc, r, h, hv, hr => by
    obtain ⟨h1, h2, h3, h4⟩ := hr
    obtain ⟨d, hd⟩ := Int.eq_ofNat_of_zero_le (show 0 ≤ e.2 - v by omega)
    have he : e.2 = ((v + d : Nat) : Int) := by omega
    simp only [diffs] at h ⊢
    rw [hd] at h ⊢
    simp only [Int.toNat_natCast, List.append_assoc] at h ⊢
    obtain ⟨hn, hdr⟩ := num_uv (lo := 0) (hi := N - 1 - v) h (by omega) (by omega) (by unfold U64; omega)
    rw [he] at hdr h4 ⊢
    obtain ⟨i1, i2⟩ := tE_lay hN es (t + vs d) (v + d) (acc ++ [((u : Int), ((v + d : Nat) : Int))]) r hdr (by omega) h4
    have hee : e = ((u : Int), ((v + d : Nat) : Int)) := by rw [← h1, ← he]
    constructor
    · rw [List.length_cons]
      unfold tE
      rw [hn]
      simp only [if_true]
      rw [i1, ← hee]
      simp [vs, Nat.add_assoc]
    · rw [List.length_append, ← Nat.add_assoc]; exact i2
theorem tE_back {l : List Nat} {N u : Nat} (hb : ∀ c ∈ l, c < 256) : ∀ (c t v : Nat) (acc : List (Int × Int)), (tE l N u c t v acc).2.2 = true → v < N → t ≤ l.length →
    ∃ es, (tE l N u c t v acc).1 = acc ++ es ∧ es.length = c ∧ l.drop t = diffs v es ++ l.drop (tE l N u c t v acc).2.1 ∧ Ris N u v es ∧ t + c ≤ (tE l N u c t v acc).2.1 ∧ (tE l N u c t v acc).2.1 ≤ l.length
  | 0, t, v, acc, _, _, ht => ⟨[], by simp [tE, diffs, Ris]; exact ht⟩
  | c + 1, t, v, acc, h, hv, ht => by
    unfold tE at h ⊢
    by_cases hok : (num l t 0 (N - 1 - v)).2.2 = true
    · rw [if_pos hok] at h ⊢
      obtain ⟨b1, _, b3, _, b5⟩ := num_back hb hok
      have hg := (num_ge l t 0 (N - 1 - v)).2 hok
      generalize num l t 0 (N - 1 - v) = d at *
      obtain ⟨es, e1, e2, e3, e4, e5, e6⟩ := tE_back hb c _ _ _ h (by omega) b5
      refine ⟨((u : Int), ((v + d.1 : Nat) : Int)) :: es, by rw [e1]; simp, by simp [e2], ?_, ⟨rfl, by simp only; omega, by simp only; omega, e4⟩, by omega, e6⟩
      rw [b1, e3]
      simp only [diffs]
      rw [show (((v + d.1 : Nat) : Int) - (v : Int)).toNat = d.1 by omega, List.append_assoc]
    · rw [if_neg hok] at h; cases h
theorem Ris.mem {N : Nat} {u : Int} : ∀ {p : Int} {es : List (Int × Int)}, Ris N u p es → ∀ e ∈ es, e.1 = u ∧ p ≤ e.2 ∧ e.2 < N
  | _, [], _, e, he => by simp at he
  | p, x :: r, h, e, he => by
    obtain ⟨h1, h2, h3, h4⟩ := h
    rcases List.mem_cons.1 he with rfl | he
    · exact ⟨h1, h2, h3⟩
    · have := Ris.mem h4 e he
      exact ⟨this.1, by omega, this.2.2⟩
theorem Ris.sorted {N : Nat} {u : Int} : ∀ {p : Int} {es : List (Int × Int)}, Ris N u p es → es.Pairwise fun a b => leE a b = true
  | _, [], _ => List.Pairwise.nil
  | p, x :: r, h => by
    obtain ⟨h1, h2, h3, h4⟩ := h
    refine List.Pairwise.cons (fun y hy => ?_) (Ris.sorted h4)
    have := Ris.mem h4 y hy
    rw [leE_iff]; omega
theorem Ris.of {N : Nat} {u : Int} : ∀ {p : Int} {es : List (Int × Int)}, (es.Pairwise fun a b => leE a b = true) → (∀ e ∈ es, e.1 = u ∧ p ≤ e.2 ∧ e.2 < N) → Ris N u p es
  | _, [], _, _ => trivial
  | p, x :: r, hs, h => by
    have hx := h x (by simp)
    refine ⟨hx.1, hx.2.1, hx.2.2, Ris.of (List.Pairwise.of_cons hs) fun e he => ?_⟩
    have h1 := h e (by simp [he])
    have h2 := List.rel_of_pairwise_cons hs he
    rw [leE_iff] at h2
    exact ⟨h1.1, by omega, h1.2.2⟩

/-! ### a vertex, and all of them -/
theorem tU_ge (l : List Nat) (N m k u t : Nat) (acc : List (Int × Int)) : t ≤ (tU l N m k u t acc).2.1 := by
  have h := num_ge l t (leastOf k (m - acc.length)) (m - acc.length)
  unfold tU
  split
  · exact Nat.le_trans h.1 (tE_ge _ _ _ _ _ _ _)
  · exact h.1
theorem tU_cut (l : List Nat) (N m k u t n : Nat) (acc : List (Int × Int)) (ht : t ≤ n) : Cut n (tU l N m k u t acc) (tU (l.take n) N m k u t acc) := by
  have h := num_cut l t (leastOf k (m - acc.length)) (m - acc.length) n ht
  unfold tU
  generalize num l t (leastOf k (m - acc.length)) (m - acc.length) = d at *
  generalize num (l.take n) t (leastOf k (m - acc.length)) (m - acc.length) = d' at *
  have hg := tE_ge l N u d.1 d.2.1 u acc
  have ih := tE_cut l N u n d.1 d.2.1 u acc
  by_cases hok : d.2.2 = true
  · by_cases hn : d.2.1 ≤ n
    · obtain rfl : d' = d := by
        unfold Cut at h; rw [if_pos (by simp [hok]; exact hn)] at h; exact h
      simp only [hok, if_true]
      exact ih hn
    · unfold Cut at h ⊢
      rw [if_neg (by simp [hok]; omega)] at h
      simp only [hok, if_true]
      rw [if_neg (by omega)]
      rw [if_neg (by simp [h.2])]
      exact ⟨h.1, rfl⟩
  · unfold Cut at h ⊢
    simp only [hok] at h ⊢
    by_cases hn : d.2.1 + 1 ≤ n
    · rw [if_pos (by simpa using hn)] at h ⊢
      subst h
      simp only [hok]
      simp
    · rw [if_neg (by simpa using hn)] at h ⊢
      rw [if_neg (by simp [h.2])]
      exact ⟨h.1, rfl⟩
theorem tV_ge (l : List Nat) (N m : Nat) : ∀ (k u t : Nat) (acc : List (Int × Int)), t ≤ (tV l N m k u t acc).2.1
  | 0, u, t, acc => by simp [tV]
  | k + 1, u, t, acc => by
    have h := tU_ge l N m k u t acc
    unfold tV
    split
    · exact Nat.le_trans h (tV_ge l N m k _ _ _)
    · exact h
theorem tV_cut (l : List Nat) (N m n : Nat) : ∀ (k u t : Nat) (acc : List (Int × Int)), t ≤ n → Cut n (tV l N m k u t acc) (tV (l.take n) N m k u t acc)
  | 0, u, t, acc, ht => by unfold Cut; simp only [tV, if_true, Nat.add_zero]; rw [if_pos ht]; trivial
  | k + 1, u, t, acc, ht => by
    have h := tU_cut l N m k u t n acc ht
    unfold tV
    generalize tU l N m k u t acc = d at *
    generalize tU (l.take n) N m k u t acc = d' at *
    have hg := tV_ge l N m k (u + 1) d.2.1 d.1
    have ih := tV_cut l N m n k (u + 1) d.2.1 d.1
    by_cases hok : d.2.2 = true
    · by_cases hn : d.2.1 ≤ n
      · obtain rfl : d' = d := by
          unfold Cut at h; rw [if_pos (by simp [hok]; exact hn)] at h; exact h
        simp only [hok, if_true]
        exact ih hn
      · unfold Cut at h ⊢
        rw [if_neg (by simp [hok]; omega)] at h
        simp only [hok, if_true]
        rw [if_neg (by omega)]
        rw [if_neg (by simp [h.2])]
        exact ⟨h.1, rfl⟩
    · unfold Cut at h ⊢
      simp only [hok] at h ⊢
      by_cases hn : d.2.1 + 1 ≤ n
      · rw [if_pos (by simpa using hn)] at h ⊢
        subst h
        simp only [hok]
        simp
      · rw [if_neg (by simpa using hn)] at h ⊢
        rw [if_neg (by simp [h.2])]
        exact ⟨h.1, rfl⟩

theorem tE_le (l : List Nat) (N u : Nat) : ∀ (c t v : Nat) (acc : List (Int × Int)), t ≤ l.length → (tE l N u c t v acc).2.1 ≤ l.length
  | 0, t, v, acc, h => by simpa [tE] using h
  | c + 1, t, v, acc, h => by
    have h1 := num_le l t 0 (N - 1 - v) h
    unfold tE
    split
    · exact tE_le l N u c _ _ _ h1
    · exact h1
theorem tU_le (l : List Nat) (N m k u t : Nat) (acc : List (Int × Int)) (h : t ≤ l.length) : (tU l N m k u t acc).2.1 ≤ l.length := by
  have h1 := num_le l t (leastOf k (m - acc.length)) (m - acc.length) h
  unfold tU
  split
  · exact tE_le _ _ _ _ _ _ _ h1
  · exact h1
theorem tV_le (l : List Nat) (N m : Nat) : ∀ (k u t : Nat) (acc : List (Int × Int)), t ≤ l.length → (tV l N m k u t acc).2.1 ≤ l.length
  | 0, u, t, acc, h => by simpa [tV] using h
  | k + 1, u, t, acc, h => by
    have h1 := tU_le l N m k u t acc h
    unfold tV
    split
    · exact tV_le l N m k _ _ _ h1
    · exact h1

/-- edges in order, of vertices from u on, below N -/
def Good (N : Nat) (u : Int) (E : List (Int × Int)) : Prop := (E.Pairwise fun a b => leE a b = true) ∧ ∀ e ∈ E, u ≤ e.1 ∧ e.1 ≤ e.2 ∧ e.2 < N
theorem lead_le (E : List (Int × Int)) (u : Int) : lead E u ≤ E.length := by
  unfold lead; exact (List.takeWhile_prefix _).length_le
theorem take_lead (E : List (Int × Int)) (u : Int) : E.take (lead E u) = E.takeWhile fun e => decide (e.1 = u) := by
  unfold lead
  exact (List.prefix_iff_eq_take.1 (List.takeWhile_prefix _)).symm
theorem drop_lead (E : List (Int × Int)) (u : Int) : E.drop (lead E u) = E.dropWhile fun e => decide (e.1 = u) := by
  have h := List.takeWhile_append_dropWhile (p := fun e : Int × Int => decide (e.1 = u)) (l := E)
  have h2 := List.take_append_drop (lead E u) E
  rw [take_lead] at h2
  exact List.append_cancel_left (h2.trans h.symm)
theorem Good.first {N : Nat} {u : Int} {E : List (Int × Int)} (h : Good N u E) : Ris N u u (E.take (lead E u)) := by
  refine Ris.of (h.1.sublist (List.take_sublist _ _)) fun e he => ?_
  have h1 := h.2 e (List.mem_of_mem_take he)
  rw [take_lead] at he
  have h2 : e.1 = u := by simpa using List.all_eq_true.1 (List.all_takeWhile (l := E) (p := fun e : Int × Int => decide (e.1 = u))) e he
  exact ⟨h2, by omega, h1.2.2⟩
theorem Good.rest {N : Nat} {u : Int} {E : List (Int × Int)} (h : Good N u E) : Good N (u + 1) (E.drop (lead E u)) := by
  have hs := h.1.sublist (List.drop_sublist (lead E u) E)
  refine ⟨hs, fun e he => ?_⟩
  have h1 := h.2 e (List.mem_of_mem_drop he)
  refine ⟨?_, h1.2⟩
  rw [drop_lead] at he hs
  rcases hd : E.dropWhile fun e => decide (e.1 = u) with _ | ⟨x, r⟩
  · rw [hd] at he; simp at he
  · have hx : x.1 ≠ u := by
      have := List.head_dropWhile_not (fun e : Int × Int => decide (e.1 = u)) (l := E) (by rw [hd]; simp)
      simp only [hd, List.head_cons] at this
      simpa using this
    have hxm : x ∈ E := (List.dropWhile_sublist _).subset (by rw [hd]; simp)
    have h2 := h.2 x hxm
    rw [hd] at he hs
    rcases List.mem_cons.1 he with rfl | he
    · omega
    · have := List.rel_of_pairwise_cons hs he
      rw [leE_iff] at this; omega
theorem Good.none {N : Nat} {u : Int} {E : List (Int × Int)} (h : Good N u E) (hu : (N : Int) ≤ u) : E = [] := by
  rcases E with _ | ⟨e, r⟩
  · rfl
  · have := h.2 e (by simp); omega
theorem tV_lay {l : List Nat} {N m : Nat} (hN : N ≤ 1073741824) (hm : m ≤ 1073741824) : ∀ (k u t : Nat) (acc E : List (Int × Int)) (r : List Nat), l.drop t = encV k u E ++ r → u + k = N → m = acc.length + E.length → Good N u E →
    tV l N m k u t acc = (acc ++ E, t + (encV k u E).length, true) ∧ l.drop (t + (encV k u E).length) = r
  | 0, u, t, acc, E, r, h, hu, hm2, hg => by
    obtain rfl := hg.none (by omega)
    simp [tV, encV] at h ⊢; exact h
  | k + 1, u, t, acc, E, r, h, hu, hm2, hg => by
    have hll := lead_le E u
    simp only [encV, List.append_assoc] at h ⊢
    have hrest := hg.rest
    have hlo : leastOf k (m - acc.length) ≤ lead E u := by
      unfold leastOf
      split
      · have := hrest.none (by omega)
        have h2 := congrArg List.length this
        simp at h2
        omega
      · omega
    obtain ⟨hn, hd⟩ := num_uv (lo := leastOf k (m - acc.length)) (hi := m - acc.length) h hlo (by omega) (by unfold U64; omega)
    have hlen : (E.take (lead E u)).length = lead E u := by simp; omega
    obtain ⟨e1, e2⟩ := tE_lay hN (E.take (lead E u)) _ u acc _ hd (by omega) hg.first
    rw [hlen] at e1
    have hU : tU l N m k u t acc = (acc ++ E.take (lead E u), t + vs (lead E u) + (diffs u (E.take (lead E u))).length, true) := by
      unfold tU; rw [hn]; simp only [if_true]; exact e1
    obtain ⟨i1, i2⟩ := tV_lay hN hm k (u + 1) _ (acc ++ E.take (lead E u)) (E.drop (lead E u)) r e2 (by omega) (by simp; omega) (by push_cast; exact hrest)
    constructor
    · unfold tV
      rw [hU]
      simp only [if_true]
      rw [i1]
      simp [vs, Nat.add_assoc]
    · have : t + vs (lead E u) + (diffs u (E.take (lead E u))).length + (encV k (u + 1) (E.drop (lead E u))).length = t + (uv (lead E u) ++ (diffs u (E.take (lead E u)) ++ encV k (u + 1) (E.drop (lead E u)))).length := by simp [vs]; omega
      rw [← this]; exact i2
theorem lead_app {u : Int} {es E : List (Int × Int)} (h1 : ∀ e ∈ es, e.1 = u) (h2 : ∀ e ∈ E, u + 1 ≤ e.1) : lead (es ++ E) u = es.length := by
  unfold lead
  rw [List.takeWhile_append_of_pos (by simpa using h1)]
  rcases E with _ | ⟨x, r⟩
  · simp
  · have := h2 x (by simp)
    rw [List.takeWhile_cons_of_neg (by simp; omega)]; simp
theorem tU_back {l : List Nat} {N m k u t : Nat} {acc : List (Int × Int)} (hb : ∀ c ∈ l, c < 256) (h : (tU l N m k u t acc).2.2 = true) (hu : u < N) (ha : acc.length ≤ m) :
    ∃ es, (tU l N m k u t acc).1 = acc ++ es ∧ l.drop t = uv es.length ++ (diffs u es ++ l.drop (tU l N m k u t acc).2.1) ∧ Ris N u u es ∧ t + 1 + es.length ≤ (tU l N m k u t acc).2.1 ∧ (tU l N m k u t acc).2.1 ≤ l.length ∧ (acc ++ es).length ≤ m ∧ (k = 0 → (acc ++ es).length = m) := by
  unfold tU at h ⊢
  by_cases hok : (num l t (leastOf k (m - acc.length)) (m - acc.length)).2.2 = true
  · rw [if_pos hok] at h ⊢
    obtain ⟨b1, b2, b3, _, b5⟩ := num_back hb hok
    have hg := (num_ge l t (leastOf k (m - acc.length)) (m - acc.length)).2 hok
    generalize num l t (leastOf k (m - acc.length)) (m - acc.length) = d at *
    obtain ⟨es, e1, e2, e3, e4, e5, e6⟩ := tE_back hb _ _ _ _ h hu b5
    refine ⟨es, e1, by rw [e2, b1, e3], e4, by omega, e6, by simp; omega, fun hk => ?_⟩
    unfold leastOf at b2
    rw [if_pos hk] at b2
    simp; omega
  · rw [if_neg hok] at h; cases h
theorem tV_back {l : List Nat} {N m : Nat} (hb : ∀ c ∈ l, c < 256) : ∀ (k u t : Nat) (acc : List (Int × Int)), (tV l N m k u t acc).2.2 = true → u + k = N → acc.length ≤ m → t ≤ l.length →
    ∃ E, (tV l N m k u t acc).1 = acc ++ E ∧ l.drop t = encV k u E ++ l.drop (tV l N m k u t acc).2.1 ∧ Good N u E ∧ t + k + E.length ≤ (tV l N m k u t acc).2.1 ∧ (tV l N m k u t acc).2.1 ≤ l.length ∧ (0 < k → (acc ++ E).length = m)
  | 0, u, t, acc, _, _, _, ht => ⟨[], by simp [tV, encV, Good]; exact ht⟩
  | k + 1, u, t, acc, h, hu, ha, ht => by
    unfold tV at h ⊢
    by_cases hok : (tU l N m k u t acc).2.2 = true
    · rw [if_pos hok] at h ⊢
      obtain ⟨es, a1, a2, a3, a4, a5, a6, a7⟩ := tU_back hb hok (by omega) ha
      generalize tU l N m k u t acc = d at *
      obtain ⟨E, e1, e2, e3, e4, e5, e6⟩ := tV_back hb k (u + 1) _ _ h (by omega) (by rw [a1]; exact a6) a5
      have hm1 := a3.mem
      have hlead : lead (es ++ E) u = es.length := lead_app (fun e he => (hm1 e he).1) fun e he => by have := e3.2 e he; push_cast at this; omega
      refine ⟨es ++ E, by rw [e1, a1, List.append_assoc], ?_, ⟨?_, ?_⟩, by simp; omega, e5, fun _ => ?_⟩
      · simp only [encV]
        rw [hlead, List.take_left, List.drop_left, a2, e2]
        simp
      · refine List.pairwise_append.2 ⟨a3.sorted, e3.1, fun x hx y hy => ?_⟩
        have h1 := hm1 x hx
        have h2 := e3.2 y hy
        push_cast at h2
        rw [leE_iff]; omega
      · intro e he
        rcases List.mem_append.1 he with he | he
        · have := hm1 e he; omega
        · have := e3.2 e he; push_cast at this; omega
      · rcases Nat.eq_zero_or_pos k with h0 | h0
        · have h7 := a7 h0
          have := e3.none (by push_cast; omega)
          subst this
          simpa using h7
        · have := e6 h0
          rw [a1] at this
          simpa using this
    · rw [if_neg hok] at h; cases h

/-! ### the whole -/
theorem Good.formed {N : Nat} {E : List (Int × Int)} (h : Good N 0 E) (hN : N ≤ 1073741824) (hE : E.length ≤ 1073741824) : formed N E = true := by
  rw [formed_iff]
  refine ⟨by omega, fun e he => ?_⟩
  have := h.2 e he; omega
theorem Good.order {N : Nat} {E : List (Int × Int)} (h : Good N 0 E) : order E = E := by
  refine (order_one ?_ h.1).symm
  have : E.map norm = E.map id := List.map_congr_left fun e he => norm_of_le (h.2 e he).2.1
  rw [this, List.map_id]
theorem good_order {N : Nat} {l : List (Int × Int)} (h : Go.Proofs.Ytdjmjabbjjcgiaa.formed N l = true) : Good N 0 (Go.Proofs.Ytdjmjabbjjcgiaa.order l) := by
  have h2 := (formed_iff.1 (order_formed h)).2
  refine ⟨order_sorted l, fun e he => ?_⟩
  have h3 := h2 e he
  have := order_le he
  omega
theorem diffs_len {N : Nat} {u : Int} (hN : N ≤ 1073741824) : ∀ {p : Int} {es : List (Int × Int)}, 0 ≤ p → Ris N u p es → (diffs p es).length ≤ 10 * es.length
  | _, [], _, _ => by simp [diffs]
  | p, e :: r, hp, h => by
    obtain ⟨_, h2, h3, h4⟩ := h
    have := diffs_len hN (by omega) h4
    have h5 := vs_le (x := (e.2 - p).toNat) (by unfold U64; omega)
    unfold vs at h5
    simp only [diffs, List.length_append, List.length_cons]
    omega
theorem encV_len {N : Nat} (hN : N ≤ 1073741824) : ∀ (k u : Nat) (E : List (Int × Int)), E.length ≤ 1073741824 → Good N u E → (encV k u E).length ≤ 10 * k + 10 * E.length
  | 0, u, E, _, _ => by simp [encV]
  | k + 1, u, E, hE, h => by
    have hll := lead_le E u
    have h1 := diffs_len hN (by omega) h.first
    have h2 := encV_len hN k (u + 1) (E.drop (lead E u)) (by simp; omega) (by push_cast; exact h.rest)
    have h3 := vs_le (x := lead E u) (by unfold U64; omega)
    unfold vs at h3
    rw [List.length_take] at h1
    rw [List.length_drop] at h2
    simp only [encV, List.length_append]
    omega
theorem enc_len {N : Nat} {E : List (Int × Int)} (hN : N ≤ 1073741824) (hE : E.length ≤ 1073741824) (h : Good N 0 E) : (enc N E).length ≤ 21 + 10 * N + 10 * E.length := by
  have h1 := encV_len hN N 0 E hE (by simpa using h)
  have h2 := vs_le (x := N) (by unfold U64; omega)
  have h3 := vs_le (x := E.length) (by unfold U64; omega)
  unfold vs at h2 h3
  unfold enc
  simp only [List.length_append, List.length_cons, List.length_nil]
  omega
theorem enc_pos (N : Nat) (E : List (Int × Int)) : 0 < (enc N E).length := by unfold enc; simp
theorem dec_enc_app {N : Nat} {E : List (Int × Int)} {r : List Nat} (h : Good N 0 E) (hN : N ≤ 1073741824) (hE : E.length ≤ 1073741824) :
    dec (enc N E ++ r) = if r = [] then (true, N, E, 0) else (false, 0, [], (enc N E).length) := by
  have h0 : E.length ≤ mostE N := by
    unfold mostE; split
    · have := h.none (by omega); subst this; simp
    · exact hE
  have hd1 : (enc N E ++ r).drop 1 = uv N ++ (uv E.length ++ (encV N 0 E ++ r)) := by unfold enc; simp
  obtain ⟨n1, d1⟩ := num_uv (lo := 0) (hi := 1073741824) hd1 (by omega) hN (by unfold U64; omega)
  obtain ⟨n2, d2⟩ := num_uv (lo := 0) (hi := mostE N) d1 (by omega) h0 (by unfold U64; omega)
  obtain ⟨n3, d3⟩ := tV_lay (m := E.length) hN hE N 0 _ [] E r d2 (by omega) (by simp) (by simpa using h)
  have hlen : 1 + vs N + vs E.length + (encV N 0 E).length = (enc N E).length := by unfold enc vs; simp; omega
  unfold dec
  rw [if_pos (by unfold enc; simp), n1]
  simp only [if_true]
  rw [n2]
  simp only [if_true]
  rw [n3]
  simp only [true_and, List.nil_append, hlen, List.length_append]
  rcases r with _ | ⟨c, r⟩
  · simp
  · simp
theorem dec_enc {N : Nat} {E : List (Int × Int)} (h : Good N 0 E) (hN : N ≤ 1073741824) (hE : E.length ≤ 1073741824) : dec (enc N E) = (true, N, E, 0) := by
  have := dec_enc_app (r := []) h hN hE
  simpa using this
theorem dec_enc_more {N : Nat} {E : List (Int × Int)} {c : Nat} (h : Good N 0 E) (hN : N ≤ 1073741824) (hE : E.length ≤ 1073741824) : dec (enc N E ++ [c]) = (false, 0, [], (enc N E).length) := by
  have := dec_enc_app (r := [c]) h hN hE
  simpa using this
theorem enc_inj {N M : Nat} {E F : List (Int × Int)} (h : Good N 0 E) (hN : N ≤ 1073741824) (hE : E.length ≤ 1073741824) (h' : Good M 0 F) (hM : M ≤ 1073741824) (hF : F.length ≤ 1073741824) (he : enc N E = enc M F) : N = M ∧ E = F := by
  have h1 := dec_enc h hN hE
  rw [he, dec_enc h' hM hF] at h1
  simp at h1
  exact ⟨h1.1.symm, h1.2.symm⟩
/-- what is read of the first n bytes -/
theorem dec_cut (l : List Nat) (n : Nat) (hn : n ≤ l.length) :
    ((dec l).1 = true → n < l.length → dec (l.take n) = (false, 0, [], n)) ∧ ((dec l).1 = false → n ≤ (dec l).2.2.2 → (dec (l.take n)).1 = true ∧ n = (dec l).2.2.2 ∨ dec (l.take n) = (false, 0, [], n)) := by
  rcases Nat.eq_zero_or_pos n with h0 | h0
  · subst h0
    have : dec (l.take 0) = (false, 0, [], 0) := by unfold dec; simp
    exact ⟨fun _ _ => this, fun _ _ => .inr this⟩
  have hg : (l.take n).getD 0 0 = l.getD 0 0 := by
    simp only [List.getD_eq_getElem?_getD, List.getElem?_take, if_pos h0]
  have hlen : (l.take n).length = n := by simp; omega
  unfold dec
  rw [hg]
  by_cases h71 : l.getD 0 0 = 71
  · simp only [if_pos h71]
    have c1 := num_cut l 1 0 1073741824 n h0
    generalize num l 1 0 1073741824 = a at *
    generalize num (l.take n) 1 0 1073741824 = a' at *
    by_cases ha : a.2.1 + (if a.2.2 = true then 0 else 1) ≤ n
    · unfold Cut at c1
      rw [if_pos ha] at c1
      subst c1
      by_cases hok : a'.2.2 = true
      · simp only [if_pos hok] at ha ⊢
        have c2 := num_cut l a'.2.1 0 (mostE a'.1) n (by omega)
        generalize num l a'.2.1 0 (mostE a'.1) = b at *
        generalize num (l.take n) a'.2.1 0 (mostE a'.1) = b' at *
        by_cases hb : b.2.1 + (if b.2.2 = true then 0 else 1) ≤ n
        · unfold Cut at c2
          rw [if_pos hb] at c2
          subst c2
          by_cases hok2 : b'.2.2 = true
          · simp only [if_pos hok2] at hb ⊢
            have c3 := tV_cut l a'.1 b'.1 n a'.1 0 b'.2.1 [] (by omega)
            generalize tV l a'.1 b'.1 a'.1 0 b'.2.1 [] = q at *
            generalize tV (l.take n) a'.1 b'.1 a'.1 0 b'.2.1 [] = q' at *
            rw [hlen]
            unfold Cut at c3
            by_cases hq : q.2.1 + (if q.2.2 = true then 0 else 1) ≤ n
            · rw [if_pos hq] at c3
              subst c3
              by_cases hok3 : q'.2.2 = true
              · simp only [hok3, true_and, if_true] at hq ⊢
                constructor
                · intro h1 h2
                  split at h1
                  · omega
                  · cases h1
                · intro h1 h2
                  split at h1
                  · cases h1
                  · rename_i hne
                    rw [if_neg hne] at h2 ⊢
                    simp only at h2
                    have : q'.2.1 = n := by omega
                    rw [if_pos this]
                    exact .inl ⟨rfl, this.symm⟩
              · simp only [hok3] at hq ⊢
                simp at hq ⊢
                omega
            · rw [if_neg hq] at c3
              obtain ⟨c4, c5⟩ := c3
              have : (if q'.2.2 = true ∧ q'.2.1 = n then (true, a'.1, q'.1, 0) else (false, 0, ([] : List (Int × Int)), q'.2.1)) = (false, 0, [], n) := by simp [c4, c5]
              rw [this]
              exact ⟨fun _ _ => rfl, fun _ _ => .inr rfl⟩
          · simp only [hok2] at hb ⊢
            simp at hb ⊢
            omega
        · unfold Cut at c2
          rw [if_neg hb] at c2
          simp [c2.1, c2.2]
      · simp only [hok] at ha ⊢
        simp at ha ⊢
        omega
    · unfold Cut at c1
      rw [if_neg ha] at c1
      simp [c1.1, c1.2]
  · simp only [if_neg h71]
    simp; omega
theorem dec_le (l : List Nat) : (dec l).2.2.2 ≤ l.length := by
  unfold dec
  split
  · rename_i h71
    have hl : 1 ≤ l.length := by
      rcases l with _ | ⟨c, r⟩
      · simp at h71
      · simp
    have h1 := num_le l 1 0 1073741824 hl
    split
    · generalize num l 1 0 1073741824 = a at *
      have h2 := num_le l a.2.1 0 (mostE a.1) h1
      split
      · generalize num l a.2.1 0 (mostE a.1) = b at *
        have h3 := tV_le l a.1 b.1 a.1 0 b.2.1 [] h2
        simp only
        split
        · simp
        · exact h3
      · exact h2
    · exact h1
  · simp
theorem dec_false {l : List Nat} (h : (dec l).1 = false) : dec l = (false, 0, [], (dec l).2.2.2) := by
  revert h
  unfold dec
  simp only
  split
  · split
    · split
      · split
        · intro h; cases h
        · intro _; rfl
      · intro _; rfl
    · intro _; rfl
  · intro _; rfl
/-- what is read is a graph's bytes -/
theorem dec_back {l : List Nat} (hb : ∀ c ∈ l, c < 256) (h : (dec l).1 = true) :
    ∃ N E, dec l = (true, N, E, 0) ∧ l = enc N E ∧ Good N 0 E ∧ N ≤ 1073741824 ∧ E.length ≤ 1073741824 ∧ N + E.length < l.length := by
  unfold dec at h ⊢
  by_cases h71 : l.getD 0 0 = 71
  · rw [if_pos h71] at h ⊢
    by_cases ha : (num l 1 0 1073741824).2.2 = true
    · rw [if_pos ha] at h ⊢
      obtain ⟨a1, _, a3, _, a5⟩ := num_back hb ha
      have ag := (num_ge l 1 0 1073741824).2 ha
      generalize num l 1 0 1073741824 = a at *
      by_cases hb2 : (num l a.2.1 0 (mostE a.1)).2.2 = true
      · rw [if_pos hb2] at h ⊢
        obtain ⟨b1, _, b3, _, b5⟩ := num_back hb hb2
        have bg := (num_ge l a.2.1 0 (mostE a.1)).2 hb2
        generalize num l a.2.1 0 (mostE a.1) = b at *
        have hbk := tV_back (m := b.1) (N := a.1) hb a.1 0 b.2.1 []
        generalize tV l a.1 b.1 a.1 0 b.2.1 [] = q at *
        simp only at h ⊢
        by_cases hq : q.2.2 = true ∧ q.2.1 = l.length
        · rw [if_pos hq]
          obtain ⟨E, e1, e2, e3, e4, e5, e6⟩ := hbk hq.1 (by omega) (by simp) b5
          rw [List.nil_append] at e1 e6
          have hm : mostE a.1 ≤ 1073741824 := by unfold mostE; split <;> omega
          have hl : E.length = b.1 := by
            rcases Nat.eq_zero_or_pos a.1 with h0 | h0
            · have := e3.none (by omega)
              subst this
              unfold mostE at b3
              rw [if_pos h0] at b3
              simp; omega
            · exact e6 h0
          refine ⟨a.1, E, by rw [e1], ?_, by simpa using e3, a3, by omega, by omega⟩
          unfold enc
          rw [hl]
          rw [hq.2, List.drop_length, List.append_nil] at e2
          rw [← e2, ← b1, ← a1]
          rcases l with _ | ⟨c, r⟩
          · simp at h71
          · simp at h71; subst h71; simp
        · rw [if_neg hq] at h; cases h
      · rw [if_neg hb2] at h; cases h
    · rw [if_neg ha] at h; cases h
  · rw [if_neg h71] at h; cases h
end Go.Proofs.Ytdjmjabbjjcgiaa
