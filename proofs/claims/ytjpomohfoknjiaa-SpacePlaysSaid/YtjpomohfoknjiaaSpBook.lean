/- A law's own list of what it has taken: counted block by block; pushed, put and cut. -/
import Derived.Test.YtjpomohfoknjiaaSpTab
import Derived.Laws.StructEq
namespace Go.Proofs.Ytjpomohfoknjiaa
open Go.ChangeShapes Go.WideShapes Go.ChangeAt Go.RowKit

def inX (x : Ex) (b : Nat) : Nat := if x.1 ≤ b ∧ b < x.1 + x.2 then 1 else 0
/-- in how many of them block b is -/
def cntB (l : List Ex) (b : Nat) : Nat := (l.map fun x => inX x b).sum
theorem cntB_append (A B : List Ex) (b : Nat) : cntB (A ++ B) b = cntB A b + cntB B b := by simp [cntB]
theorem cntB_one (x : Ex) (b : Nat) : cntB [x] b = inX x b := by simp [cntB]
theorem cntB_cons (x : Ex) (l : List Ex) (b : Nat) : cntB (x :: l) b = inX x b + cntB l b := by simp [cntB]
theorem cntB_pos {l : List Ex} {b : Nat} : 0 < cntB l b ↔ hasB l b := by
  induction l with
  | nil => simp [cntB, hasB]
  | cons x l ih =>
    rw [cntB_cons, hasB_cons, ← ih]
    unfold inX
    by_cases h : x.1 ≤ b ∧ b < x.1 + x.2
    · rw [if_pos h]; simp [h]; omega
    · rw [if_neg h]; simp [h]
theorem cntB_at {l : List Ex} {k : Nat} (hk : k < l.length) (b : Nat) : inX (xAt l k) b ≤ cntB l b := by
  rw [split_at hk, cntB_append, cntB_cons, ← split_at hk]; omega
theorem cntB_set {l : List Ex} {k : Nat} (hk : k < l.length) (y : Ex) (b : Nat) : cntB (l.set k y) b + inX (xAt l k) b = cntB l b + inX y b := by
  have h1 : l.set k y = l.take k ++ y :: l.drop (k + 1) := by rw [List.set_eq_take_append_cons_drop, if_pos hk]
  have h2 := split_at hk
  rw [h1, cntB_append, cntB_cons]
  conv => rhs; rw [h2, cntB_append, cntB_cons]
  omega
/-- the last one comes in the k-th one's place -/
def swapL (l : List Ex) (k : Nat) : List Ex := (l.set k (xAt l (l.length - 1))).take (l.length - 1)
theorem swapL_length (l : List Ex) (k : Nat) : (swapL l k).length = l.length - 1 := by simp [swapL]
theorem cntB_swap {l : List Ex} {k : Nat} (hk : k < l.length) (b : Nat) : cntB (swapL l k) b + inX (xAt l k) b = cntB l b := by
  unfold swapL
  have h0 : l.length - 1 < (l.set k (xAt l (l.length - 1))).length := by rw [List.length_set]; omega
  have h1 := cntB_set hk (xAt l (l.length - 1)) b
  have h2 := split_at h0
  have h3 : (l.set k (xAt l (l.length - 1))).drop (l.length - 1 + 1) = [] := List.drop_eq_nil_of_le (by rw [List.length_set]; omega)
  have h4 : xAt (l.set k (xAt l (l.length - 1))) (l.length - 1) = xAt l (l.length - 1) := by
    rw [xAt_eq h0, List.getElem_set]
    split
    · rfl
    · exact (xAt_eq (by omega)).symm
  rw [h3, h4] at h2
  have h5 := congrArg (fun x => cntB x b) h2
  simp only [cntB_append, cntB_one] at h5
  omega
theorem swapL_mem {l : List Ex} {k : Nat} (hk : k < l.length) {x : Ex} (h : x ∈ swapL l k) : x ∈ l := by
  have h1 := List.mem_of_mem_take h
  rcases List.mem_or_eq_of_mem_set h1 with h2 | h2
  · exact h2
  · rw [h2]; exact getD_lt (by omega)
/-- what is taken, and not given: each block of the space is free or of just one of them -/
structure Book (s : Sp) (lo hi : Nat) (l : List Ex) : Prop where
  first : s.first = lo
  last : s.first + s.blocks = hi
  pos : ∀ x ∈ l, 1 ≤ x.2
  free : ∀ b, hasB s.fr b → cntB l b = 0
  taken : ∀ b, ¬ hasB s.fr b → cntB l b = if lo ≤ b ∧ b < hi then 1 else 0
section
variable {s s' : Sp} {lo hi a n : Nat} {l l' : List Ex}
theorem Book.took (h : Book s lo hi l) (ht : Took s s' a n) (hok : s.ok) (hn : 1 ≤ n) : Book s' lo hi (l ++ [(a, n)]) := by
  refine ⟨ht.first.trans h.first, by rw [ht.first, ht.blocks]; exact h.last, fun x hx => ?_, fun b hb => ?_, fun b hb => ?_⟩
  · rcases List.mem_append.1 hx with hx | hx
    · exact h.pos x hx
    · simp at hx; subst hx; exact hn
  · have h1 := (ht.has b).1 hb
    rw [cntB_append, cntB_one, h.free b h1.1]; unfold inX; rw [if_neg h1.2]
  · rw [cntB_append, cntB_one]; unfold inX
    by_cases hin : a ≤ b ∧ b < a + n
    · have h1 := ht.room b hin.1 hin.2
      have h2 := hok.2.2.has h1
      rw [h.last, h.first] at h2
      rw [if_pos hin, h.free b h1, if_pos h2]
    · have h1 : ¬ hasB s.fr b := fun hh => hb ((ht.has b).2 ⟨hh, hin⟩)
      rw [if_neg hin, h.taken b h1, Nat.add_zero]
theorem Book.give (h : Book s lo hi l) (hok : s.ok) (hn : 1 ≤ n) (hin : ∀ b, inX (a, n) b ≤ cntB l b) : ∃ s', giveS s (a : Int) (n : Int) = (s', 0) ∧ Gave s s' a n := by
  have hb : ∀ b, a ≤ b → b < a + n → ¬ hasB s.fr b ∧ lo ≤ b ∧ b < hi := fun b h1 h2 => by
    have h3 := hin b
    unfold inX at h3; rw [if_pos ⟨h1, h2⟩] at h3
    by_cases hf : hasB s.fr b
    · rw [h.free b hf] at h3; omega
    · rw [h.taken b hf] at h3
      split at h3
      · rename_i h4; exact ⟨hf, h4⟩
      · omega
  rcases giveS_spec hok (a : Int) (n : Int) with ⟨s', a', m, ha, hm, h1, e, hg⟩ | ⟨e, hno⟩
  · have ha : a = a' := by omega
    have hm : n = m := by omega
    subst ha; subst hm
    exact ⟨s', e, hg⟩
  · have h1 := hb a (Nat.le_refl _) (by omega)
    have h2 := hb (a + n - 1) (by omega) (by omega)
    exact absurd ⟨by rw [h.first]; omega, by rw [h.last]; omega, fun b h3 h4 => (hb b h3 h4).1⟩ (hno a n rfl rfl hn)
theorem Book.gave (h : Book s lo hi l) (hg : Gave s s' a n) (hl : ∀ b, cntB l' b + inX (a, n) b = cntB l b) (hp : ∀ x ∈ l', 1 ≤ x.2) : Book s' lo hi l' := by
  refine ⟨hg.first.trans h.first, by rw [hg.first, hg.blocks]; exact h.last, hp, fun b hb => ?_, fun b hb => ?_⟩
  · have h1 := hl b
    rcases (hg.has b).1 hb with h2 | h2
    · rw [h.free b h2] at h1; omega
    · have h3 := h.taken b (hg.none b h2.1 h2.2)
      unfold inX at h1; rw [if_pos h2] at h1
      split at h3 <;> omega
  · have h1 := hl b
    have h2 : ¬ hasB s.fr b := fun hh => hb ((hg.has b).2 (.inl hh))
    have h3 : ¬ (a ≤ b ∧ b < a + n) := fun hh => hb ((hg.has b).2 (.inr hh))
    unfold inX at h1; rw [if_neg h3] at h1
    rw [← h.taken b h2]; omega
/-- all is given back: the space is as it was -/
theorem Book.all (h : Book s lo hi []) (hok : s.ok) (hlt : lo < hi) : s.fr = [(lo, hi - lo)] := by
  have hc := hok.2.2
  rw [h.last, h.first] at hc
  refine Canon.only hc ?_ fun b => ?_
  · exact ⟨Nat.le_refl _, by simp; omega, by simp; omega, trivial⟩
  · constructor
    · intro hb
      have := hc.has hb
      exact ⟨_, List.mem_cons_self, by simp; omega, by simp; omega⟩
    · rintro ⟨x, hx, h1, h2⟩
      simp at hx; subst hx
      refine Classical.byContradiction fun hn => ?_
      have h3 := h.taken b hn
      simp at h1 h2
      rw [if_pos (by omega)] at h3
      simp [cntB] at h3
end

/-- integers as cells -/
def zcells (l : List Int) : List Value := l.map (Value.int .i64)
theorem zcells_get {l : List Int} {i : Nat} (h : i < l.length) : (zcells l)[i]? = some (.int .i64 (l.getD i 0)) := by
  unfold zcells
  rw [List.getElem?_map, List.getElem?_eq_getElem h, List.getD_eq_getElem?_getD, List.getElem?_eq_getElem h]; rfl
theorem zcells_set {l : List Int} {i : Nat} {b : Int} : zcells (l.set i b) = (zcells l).set i (.int .i64 b) := by unfold zcells; rw [List.map_set]
def fillZ (l : List Int) (v : Int) (a : Nat) : Nat → List Int
  | 0 => l
  | n + 1 => (fillZ l v a n).set (a + n) v
theorem fillZ_length (l : List Int) (v : Int) (a : Nat) : ∀ n, (fillZ l v a n).length = l.length
  | 0 => rfl
  | n + 1 => by rw [fillZ, List.length_set, fillZ_length l v a n]
theorem fillZ_get (l : List Int) (v : Int) (a : Nat) : ∀ n, a + n ≤ l.length → ∀ b, (fillZ l v a n).getD b 0 = if a ≤ b ∧ b < a + n then v else l.getD b 0
  | 0, _, b => by rw [if_neg (by omega)]; rfl
  | n + 1, h, b => by
    have h1 : ((fillZ l v a n).set (a + n) v).getD b 0 = if b = a + n then v else (fillZ l v a n).getD b 0 := by
      rw [List.getD_eq_getElem?_getD, List.getElem?_set, List.getD_eq_getElem?_getD]
      by_cases h : b = a + n
      · subst h; rw [if_pos rfl, if_pos rfl, if_pos (by rw [fillZ_length]; omega)]; rfl
      · rw [if_neg (fun e => h e.symm), if_neg h]
    rw [fillZ, h1, fillZ_get l v a n (by omega) b]
    by_cases h1 : b = a + n
    · rw [if_pos h1, if_pos (by omega)]
    · rw [if_neg h1]
      by_cases h2 : a ≤ b ∧ b < a + n
      · rw [if_pos h2, if_pos (by omega)]
      · rw [if_neg h2, if_neg (by omega)]
theorem fillZ_succ (l : List Int) (v : Int) (a n : Nat) : fillZ l v a (n + 1) = (fillZ l v a n).set (a + n) v := rfl
/-- the table names just the blocks of the list -/
def Own0 (l : List Ex) (len : Nat) (T : List Int) : Prop := T.length = len ∧ ∀ b, b < len → (T.getD b 0 = 0 ↔ cntB l b = 0)
theorem Own0.took {l : List Ex} {len a n : Nat} {T : List Int} {v : Int} (h : Own0 l len T) (hv : v ≠ 0) (ha : a + n ≤ len) : Own0 (l ++ [(a, n)]) len (fillZ T v a n) := by
  refine ⟨(fillZ_length _ _ _ _).trans h.1, fun b hb => ?_⟩
  rw [fillZ_get T v a n (by rw [h.1]; exact ha) b, cntB_append, cntB_one]
  unfold inX
  by_cases hin : a ≤ b ∧ b < a + n
  · rw [if_pos hin, if_pos hin]; omega
  · rw [if_neg hin, if_neg hin, Nat.add_zero]; exact h.2 b hb
theorem Own0.gave {l l' : List Ex} {len a n : Nat} {T : List Int} (h : Own0 l len T) (ha : a + n ≤ len) (hc : ∀ b, cntB l b ≤ 1) (hl : ∀ b, cntB l' b + inX (a, n) b = cntB l b) : Own0 l' len (fillZ T 0 a n) := by
  refine ⟨(fillZ_length _ _ _ _).trans h.1, fun b hb => ?_⟩
  rw [fillZ_get T 0 a n (by rw [h.1]; exact ha) b]
  have h1 := hl b
  have h2 := hc b
  unfold inX at h1
  by_cases hin : a ≤ b ∧ b < a + n
  · rw [if_pos hin] at h1 ⊢; simp; omega
  · rw [if_neg hin] at h1 ⊢
    rw [h.2 b hb, ← h1]; simp
theorem Book.le {s : Sp} {lo hi : Nat} {l : List Ex} (h : Book s lo hi l) (b : Nat) : cntB l b ≤ 1 := by
  by_cases hf : hasB s.fr b
  · rw [h.free b hf]; omega
  · rw [h.taken b hf]; split <;> omega

section
variable {w0 w : World} {p : Nat} {s : Sp} {n : Nat} {l : List Ex}
/-- 'l = append(l, x)' -/
theorem wpList_run_push {ops : Array Oper} {rest : List Oper} {o : Oper} {a : Act} {Q : Exit → Act → World → Prop} (hgd : o.guard = none) (sl x : Operand)
    (ho : o.op = .call { callee := .builtin .append, args := #[sl, x], argTypes := #[29, 29] }) {v : Value} (h : Run w0 w p s v n l) (hs : a.eval sl = v) (ad : Addr) (hx : a.eval x = .slice (some ad) 1 1) (y : Ex)
    (hsrc : ∀ j u, (flatX [y])[j]? = some u → w.cell? (ad.add j) = some u) (hn : n ≤ 1000000)
    (hK : ∀ A c w', Hid (Run w0 w' p s (.slice A (n + 1) c) (n + 1) (l ++ [y])) → Hid (KeepT w w') → wpList Try.prog ops Q rest (a.put o.dst (.slice A (n + 1) c)) w') : wpList Try.prog ops Q (o :: rest) a w := by
  obtain ⟨i0, hi0, hz0, hz, hzb⟩ := ext_info
  obtain ⟨G, h1, h2, h3, h4, h5⟩ := h
  refine wpList_append_own_at w hgd sl x 29 ho 0 36 i0 _ 2 16 Try.underlying29 hi0 hz0 hz hzb rfl (by decide) v n (flatX l) hs h2 ad 1 1 (flatX [y]) hx rfl hsrc flatX_one (by unfold maxLen; omega) (by omega) (Nat.zero_le _) ?_
  intro v' w' hown hgr _ hat
  rw [← flatX_append] at hown
  obtain ⟨A, c, rfl, _, _, _⟩ := own2_form hown
  have hfar : Far (fun k => v.ownBlock = some k) w w' := (Far.refl _ w).grown hgr fun k hk => .inl hk
  refine hK A c w' ⟨G, h1.far hfar fun k hk hv => (h3 k hv).1 hk, hown, fun k hk => ?_, h4, h5.trans (hfar.below h5.size fun k hk => (h3 k hk).2)⟩ fun k t cs hr e1 e2 => hfar.row hr fun hv => ?_
  · rcases hat with hat | hat
    · rw [hat] at hk; exact h3 k hk
    · rw [hat] at hk; injection hk with hk; subst hk
      exact ⟨fun hg => Nat.lt_irrefl _ (h1.lt hg), h5.size⟩
  · obtain ⟨ds, hd⟩ := own2_row h2 hv
    unfold Row at hr hd; rw [hr] at hd; injection hd with hd; injection hd with _ hd; exact e2 hd
theorem flatX_set (l : List Ex) : ∀ (i : Nat) (e : Ex), flatX (l.set i e) = ((flatX l).set (i * 2) (.int .i64 e.1)).set (i * 2 + 1) (.int .i64 e.2) := by
  induction l with
  | nil => intro i e; simp [flatX]
  | cons x l ih =>
    intro i e
    cases i with
    | zero => rfl
    | succ i =>
      have h := ih i e
      have e1 : (i + 1) * 2 = i * 2 + 2 := by omega
      rw [e1, List.set_cons_succ]
      show encX x ++ flatX (l.set i e) = _
      rw [h]
      rfl
/-- 'l[k] = y' -/
theorem run_put {g c k : Nat} (h : Run w0 w p s (.slice (some ⟨g, 0, none⟩) n c) n l) (hk : k < n) (y : Ex) :
    Run w0 ((w.setCell ⟨g, k * 2, none⟩ (.int .i64 y.1)).setCell ⟨g, k * 2 + 1, none⟩ (.int .i64 y.2)) p s (.slice (some ⟨g, 0, none⟩) n c) n (l.set k y) ∧ KeepT w ((w.setCell ⟨g, k * 2, none⟩ (.int .i64 y.1)).setCell ⟨g, k * 2 + 1, none⟩ (.int .i64 y.2)) ∧ w.frozen? ⟨g, k * 2, none⟩ = false ∧ w.frozen? ⟨g, k * 2 + 1, none⟩ = false := by
  obtain ⟨G, h1, h2, h3, h4, h5⟩ := h
  rcases own2_of h2 with ⟨_, h0, _⟩ | ⟨g', cap, cur, e, h6⟩
  · omega
  injection e with e1 e2 e3
  injection e1 with e1; injection e1 with e1; subst e1; subst e3
  have hset : Far (fun b => b = g) w ((w.setCell ⟨g, k * 2, none⟩ (.int .i64 y.1)).setCell ⟨g, k * 2 + 1, none⟩ (.int .i64 y.2)) :=
    ((Far.refl (fun b => b = g) w).set (p := ⟨g, k * 2, none⟩) (.inl rfl) _).set (p := ⟨g, k * 2 + 1, none⟩) (.inl rfl) _
  have hg := h3 g rfl
  have hrow := (h6.row.set (k * 2) (.int .i64 y.1)).set (k * 2 + 1) (.int .i64 y.2)
  have hown : Own2 ((w.setCell ⟨g, k * 2, none⟩ (.int .i64 y.1)).setCell ⟨g, k * 2 + 1, none⟩ (.int .i64 y.2)) g c n (l.set k y) _ :=
    ⟨hrow, by simp [h6.size], h6.le, h6.max, by rw [List.take_set, List.take_set, h6.cells, flatX_set], by rw [List.length_set, h6.len]⟩
  refine ⟨⟨G, h1.far hset fun b hb e => hg.1 (e ▸ hb), hown.own, h3, h4, h5.trans (hset.below h5.size fun b hb => hb ▸ hg.2)⟩, fun b t cs hr e1 e2 => hset.row hr fun hb => ?_, h6.row.free _, h6.row.free _⟩
  subst hb
  have := h6.row; unfold Row at hr this; rw [this] at hr; injection hr with hr; injection hr with _ hr; exact e2 hr.symm
/-- 'l = l[:m]' -/
theorem run_less {A : Option Addr} {c m : Nat} (h : Run w0 w p s (.slice A n c) n l) (hm : m ≤ n) : Run w0 w p s (.slice A m c) m (l.take m) := by
  obtain ⟨G, h1, h2, h3, h4, h5⟩ := h
  refine ⟨G, h1, ?_, fun k hk => h3 k (by cases A <;> exact hk), h4, h5⟩
  rcases own2_of h2 with ⟨e, h0, h6⟩ | ⟨g', cap, cur, e, h6⟩
  · injection e with e1 e2 e3
    obtain rfl : m = 0 := by omega
    subst e1 e3 h6
    exact World.ownsRow_nil _ _ _ _
  · injection e with e1 e2 e3
    subst e1 e3
    exact (Own2.own ⟨h6.row, h6.size, Nat.le_trans hm h6.le, h6.max, by rw [flatX_take, ← h6.cells, List.take_take, Nat.min_eq_left (by omega)], by rw [List.length_take, h6.len]; omega⟩)
/-- an element of the list, in memory -/
theorem run_cells {g c k a m : Nat} (h : Run w0 w p s (.slice (some ⟨g, 0, none⟩) n c) n l) (hx : xAt l k = (a, m)) (hk : k < n) : w.cell? ⟨g, k * 2, none⟩ = some (.int .i64 (a : Int)) ∧ w.cell? ⟨g, k * 2 + 1, none⟩ = some (.int .i64 (m : Int)) := by
  obtain ⟨g', e, _, h1, h2⟩ := own2_at h.own hk
  injection e with e; injection e with e; subst e
  rw [hx] at h1 h2
  exact ⟨h1, h2⟩
end
end Go.Proofs.Ytjpomohfoknjiaa
