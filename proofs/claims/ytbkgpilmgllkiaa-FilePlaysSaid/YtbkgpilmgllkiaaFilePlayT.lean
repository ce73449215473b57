/- FilePlayT: several texts, one behind the other. -/
import Derived.Test.YtbkgpilmgllkiaaFileTail
namespace Go.Proofs.Ytbkgpilmgllkiaa
open Go.ChangeShapes Go.WideShapes Go.ChangeAt Go.RowKit

/-- a writer of the law's own: where, what it is, the law's own list of what was put, whether it is open -/
structure Pw where
  x : Nat
  t : Wt
  v : Value
  o : Bool
/-- a file -/
structure Pf where
  first : Nat
  nb : Nat
  k : Nat
  h : Nat
  l : List Tup
  v : Value
  freed : Bool
/-- a reader, of the file number j -/
structure Pr where
  x : Nat
  r : Rt
  j : Nat
  o : Bool
/-- how many are true -/
def cntT : List Bool → Nat
  | [] => 0
  | true :: l => cntT l + 1
  | false :: l => cntT l
theorem cntT_append : ∀ a b : List Bool, cntT (a ++ b) = cntT a + cntT b
  | [], b => by simp [cntT]
  | true :: a, b => by rw [List.cons_append]; simp only [cntT]; rw [cntT_append a b]; omega
  | false :: a, b => by rw [List.cons_append]; simp only [cntT]; rw [cntT_append a b]
theorem cntT_set : ∀ (l : List Bool) (i : Nat), l[i]? = some true → cntT (l.set i false) + 1 = cntT l
  | [], i, h => by simp at h
  | true :: l, 0, _ => by simp [cntT]
  | false :: l, 0, h => by simp at h
  | true :: l, i + 1, h => by
    have := cntT_set l i (by simpa using h)
    simp only [List.set_cons_succ, cntT]; omega
  | false :: l, i + 1, h => by
    have := cntT_set l i (by simpa using h)
    simp only [List.set_cons_succ, cntT]; omega
theorem cntT_same (l : List Bool) (i : Nat) (b : Bool) (h : l[i]? = some b) : l.set i b = l := by
  obtain ⟨hi, e⟩ := List.getElem?_eq_some_iff.1 h
  subst e
  exact List.set_getElem_self hi
theorem cntT_le : ∀ l : List Bool, cntT l ≤ l.length
  | [] => Nat.le_refl _
  | true :: l => by have := cntT_le l; simp only [cntT, List.length_cons]; omega
  | false :: l => by have := cntT_le l; simp only [cntT, List.length_cons]; omega
/-- what each file is has stayed, but that it may be freed -/
def Stay (fs fs' : List Pf) : Prop := ∀ (j : Nat) (f : Pf), fs[j]? = some f → ∃ f' : Pf, fs'[j]? = some f' ∧ f'.first = f.first ∧ f'.nb = f.nb ∧ f'.k = f.k ∧ f'.h = f.h ∧ f'.l = f.l
theorem Stay.refl (fs : List Pf) : Stay fs fs := fun _ f h => ⟨f, h, rfl, rfl, rfl, rfl, rfl⟩
/-- the reader's file -/
def FileAt (fs : List Pf) (s : Pr) (ws : List Nat) : Prop :=
  ∃ f, fs[s.j]? = some f ∧ f.first = s.r.first ∧ f.nb = s.r.blocks ∧ f.k = s.r.k ∧ f.h = s.r.h ∧ f.l.length = s.r.count ∧ (s.r.pos % s.r.h ≠ 0 → ws.take (min s.r.h (s.r.count - s.r.pos / s.r.h * s.r.h) * s.r.k) = payT s.r.h s.r.k f.l (s.r.pos / s.r.h))
structure WrOk (w0 W : World) (G : Nat → Prop) (p : Wp) (F : Fs) (s : Pw) : Prop where
  wok : s.o = true → Wok w0 W G p F s.x s.t ∧ ((s.t.first + s.t.blocks : Nat) : Int) ≤ F.D.blocks
  shut : s.o = false → WShut W s.x p s.t ∧ ¬ G s.x ∧ ¬ G s.t.b
  new : w0.heap.size ≤ s.x ∧ w0.heap.size ≤ s.t.b
  ok : WtOk s.t F.D.size
  hol : s.t.h = holdsI F.D.size s.t.k
  fit : ∀ u ∈ s.t.l, TupOk u ∧ fitsT s.t.k u = true
structure RdOk (w0 W : World) (G : Nat → Prop) (p : Wp) (F : Fs) (fs : List Pf) (s : Pr) : Prop where
  rok : s.o = true → ∃ ws, RMem W s.x p s.r F.D.size ws ∧ ROut G s.x s.r ∧ wordsAt F.A.st s.r.b = some F.D.size ∧ w0.heap.size ≤ s.r.g ∧ FileAt fs s ws
  shut : s.o = false → RShut W s.x p s.r ∧ ¬ G s.x ∧ ¬ G s.r.b
  new : w0.heap.size ≤ s.x ∧ w0.heap.size ≤ s.r.b
  ok : RtOk s.r F.D.size
  file : ∃ f, fs[s.j]? = some f
structure FiOk (F : Fs) (f : Pf) : Prop where
  k : 0 < f.k ∧ f.k ≤ 5
  h : 0 < f.h ∧ f.h * f.k ≤ F.D.size - 2 ∧ f.h ≤ 254
  hol : f.h = holdsI F.D.size f.k
  nb : f.nb = blocksN f.h f.l.length ∧ f.l.length ≤ 100000000
  first : f.first ≤ 2000000
  fit : ∀ u ∈ f.l, TupOk u ∧ fitsT f.k u = true
  stand : f.freed = false → StandsTo F.D f.first f.k f.h f.l f.nb ∧ ((f.first + f.nb : Nat) : Int) ≤ F.D.blocks
/-- block b is held by an open writer, or by a file -/
def Pin (ws : List Pw) (fs : List Pf) : Bool × Nat → Nat → Prop
  | (true, i), b => ∃ s, ws[i]? = some s ∧ s.o = true ∧ s.t.first ≤ b ∧ b < s.t.first + s.t.blocks
  | (false, j), b => ∃ f, fs[j]? = some f ∧ f.freed = false ∧ f.first ≤ b ∧ b < f.first + f.nb
/-- two objects apart: their places, their buffers, the words of those that are open -/
structure Ob where
  x : Nat
  b : Nat
  g : Nat
  o : Bool
def Pw.ob (s : Pw) : Ob := ⟨s.x, s.t.b, s.t.g, s.o⟩
def Pr.ob (s : Pr) : Ob := ⟨s.x, s.r.b, s.r.g, s.o⟩
structure Oap (a c : Ob) : Prop where
  x : a.x ≠ c.x
  b : a.b ≠ c.b
  g : a.o = true → c.o = true → a.g ≠ c.g
theorem Oap.symm {a c : Ob} (h : Oap a c) : Oap c a := ⟨h.x.symm, h.b.symm, fun h1 h2 => (h.g h2 h1).symm⟩
/-- an object's rows -/
structure ObMem (W : World) (G : Nat → Prop) (a : Ob) : Prop where
  x : (∃ cs, Row W a.x 136 cs) ∨ ∃ cs, Row W a.x 126 cs
  b : ∃ cs, Row W a.b 130 cs
  g : a.o = true → ∃ cs, Row W a.g 69 cs
  nx : ¬ G a.x
  nb : ¬ G a.b
  ng : a.o = true → ¬ G a.g
/-- the blocks of an open object -/
def Ob.K (a : Ob) (k : Nat) : Prop := k = a.x ∨ k = a.b ∨ k = a.g
/-- a block of one of the types that writers and readers have -/
def Typed (W : World) (k : Nat) : Prop := ∃ T cs, Row W k T cs ∧ (T = 136 ∨ T = 126 ∨ T = 130 ∨ T = 69)
theorem Typed.not {W : World} {k : Nat} {T : TypeId} {cs : List Value} (h : Typed W k) (hr : Row W k T cs) (ht : T ≠ 136 ∧ T ≠ 126 ∧ T ≠ 130 ∧ T ≠ 69) : False := by
  obtain ⟨T', cs', hr', hT⟩ := h
  have e := hr.typed hr'
  subst e
  rcases hT with e | e | e | e
  · exact ht.1 e
  · exact ht.2.1 e
  · exact ht.2.2.1 e
  · exact ht.2.2.2 e
theorem ObMem.typed {W : World} {G : Nat → Prop} {a : Ob} (h : ObMem W G a) (ho : a.o = true) {k : Nat} (hk : a.K k) : Typed W k := by
  rcases hk with rfl | rfl | rfl
  · rcases h.x with ⟨cs, hr⟩ | ⟨cs, hr⟩
    · exact ⟨_, cs, hr, .inl rfl⟩
    · exact ⟨_, cs, hr, .inr (.inl rfl)⟩
  · obtain ⟨cs, hr⟩ := h.b
    exact ⟨_, cs, hr, .inr (.inr (.inl rfl))⟩
  · obtain ⟨cs, hr⟩ := h.g ho
    exact ⟨_, cs, hr, .inr (.inr (.inr rfl))⟩
/-- objects that are apart have no block in common -/
theorem Oap.notK {W : World} {G : Nat → Prop} {a c : Ob} (h : Oap a c) (ha : ObMem W G a) (hc : ObMem W G c) (hco : c.o = true) : ¬ c.K a.x ∧ ¬ c.K a.b ∧ (a.o = true → ¬ c.K a.g) := by
  obtain ⟨cb, hb⟩ := ha.b
  obtain ⟨cb', hb'⟩ := hc.b
  obtain ⟨cg', hg'⟩ := hc.g hco
  refine ⟨?_, ?_, fun ho => ?_⟩
  · rintro (e | e | e)
    · exact h.x e
    · rcases ha.x with ⟨cs, hr⟩ | ⟨cs, hr⟩
      · exact absurd (hr.typed (e ▸ hb')) (by decide)
      · exact absurd (hr.typed (e ▸ hb')) (by decide)
    · rcases ha.x with ⟨cs, hr⟩ | ⟨cs, hr⟩
      · exact absurd (hr.typed (e ▸ hg')) (by decide)
      · exact absurd (hr.typed (e ▸ hg')) (by decide)
  · rintro (e | e | e)
    · rcases hc.x with ⟨cs, hr⟩ | ⟨cs, hr⟩
      · exact absurd (hb.typed (e ▸ hr)) (by decide)
      · exact absurd (hb.typed (e ▸ hr)) (by decide)
    · exact h.b e
    · exact absurd (hb.typed (e ▸ hg')) (by decide)
  · obtain ⟨cg, hg⟩ := ha.g ho
    rintro (e | e | e)
    · rcases hc.x with ⟨cs, hr⟩ | ⟨cs, hr⟩
      · exact absurd (hg.typed (e ▸ hr)) (by decide)
      · exact absurd (hg.typed (e ▸ hr)) (by decide)
    · exact absurd (hg.typed (e ▸ hb')) (by decide)
    · exact h.g ho hco e
section
variable {w0 W W' : World} {G G' : Nat → Prop} {p : Wp} {F F' : Fs} {n : Nat}
theorem WrOk.mem {s : Pw} (h : WrOk w0 W G p F s) : ObMem W G s.ob := by
  cases ho : s.o with
  | true =>
    have hw := (h.wok ho).1
    obtain ⟨ws, hm, _⟩ := hw.mem
    exact ⟨.inl ⟨_, hm.row⟩, ⟨_, hm.buf⟩, fun _ => ⟨_, hm.words⟩, hw.out.x, hw.out.b, fun _ => hw.out.g⟩
  | false =>
    obtain ⟨⟨h1, h2⟩, h3, h4⟩ := h.shut ho
    exact ⟨.inl ⟨_, h1⟩, ⟨_, h2⟩, fun e => absurd (ho.symm.trans e) (by decide), h3, h4, fun e => absurd (ho.symm.trans e) (by decide)⟩
theorem RdOk.mem {fs : List Pf} {s : Pr} (h : RdOk w0 W G p F fs s) : ObMem W G s.ob := by
  cases ho : s.o with
  | true =>
    obtain ⟨ws, hm, hr, _⟩ := h.rok ho
    exact ⟨.inr ⟨_, hm.row⟩, ⟨_, hm.buf⟩, fun _ => ⟨_, hm.words⟩, hr.x, hr.b, fun _ => hr.g⟩
  | false =>
    obtain ⟨⟨h1, h2⟩, h3, h4⟩ := h.shut ho
    exact ⟨.inr ⟨_, h1⟩, ⟨_, h2⟩, fun e => absurd (ho.symm.trans e) (by decide), h3, h4, fun e => absurd (ho.symm.trans e) (by decide)⟩
/-- a writer that the call is not at -/
theorem WrOk.keep {s : Pw} (h : WrOk w0 W G p F s) {R K : Nat → Prop} (hf : Far R W W') (hR : ∀ k, R k → G k ∨ K k) (hK : ¬ K s.x ∧ ¬ K s.t.b ∧ (s.o = true → ¬ K s.t.g)) (hG : ∀ k, G' k → G k ∨ W.heap.size ≤ k) (hs : F'.D.size = F.D.size) (hbl : F'.D.blocks = F.D.blocks)
    (hn : s.o = true → ∀ i : Nat, s.t.first ≤ i → i < s.t.first + s.t.blocks → F'.D.now i = F.D.now i) (hst : s.o = true → wordsAt F'.A.st s.t.b = some F.D.size) : WrOk w0 W' G' p F' s := by
  have hm := h.mem
  have hx : ¬ R s.x := fun hr => (hR _ hr).elim hm.nx hK.1
  have hb : ¬ R s.t.b := fun hr => (hR _ hr).elim hm.nb hK.2.1
  refine ⟨fun ho => ?_, fun ho => ?_, h.new, by rw [hs]; exact h.ok, by rw [hs]; exact h.hol, h.fit⟩
  · obtain ⟨hw, hin⟩ := h.wok ho
    exact ⟨hw.keep hf hx hb (fun hr => (hR _ hr).elim hw.out.g (hK.2.2 ho)) hG hs (hn ho) (hst ho), by rw [hbl]; exact hin⟩
  · obtain ⟨⟨h1, h2⟩, h3, h4⟩ := h.shut ho
    exact ⟨⟨hf.row h1 hx, hf.row h2 hb⟩, fun hg => (hG _ hg).elim h3 (Nat.not_le_of_lt h1.lt), fun hg => (hG _ hg).elim h4 (Nat.not_le_of_lt h2.lt)⟩
/-- a reader that the call is not at -/
theorem RdOk.keep {fs fs' : List Pf} {s : Pr} (h : RdOk w0 W G p F fs s) {R K : Nat → Prop} (hf : Far R W W') (hR : ∀ k, R k → G k ∨ K k) (hK : ¬ K s.x ∧ ¬ K s.r.b ∧ (s.o = true → ¬ K s.r.g)) (hG : ∀ k, G' k → G k ∨ W.heap.size ≤ k) (hs : F'.D.size = F.D.size)
    (hst : s.o = true → wordsAt F'.A.st s.r.b = some F.D.size) (hfs : Stay fs fs') : RdOk w0 W' G' p F' fs' s := by
  have hm := h.mem
  have hx : ¬ R s.x := fun hr => (hR _ hr).elim hm.nx hK.1
  have hb : ¬ R s.r.b := fun hr => (hR _ hr).elim hm.nb hK.2.1
  refine ⟨fun ho => ?_, fun ho => ?_, h.new, by rw [hs]; exact h.ok, ?_⟩
  · obtain ⟨ws, h1, h2, h3, h4, f, e0, e1, e2, e3, e4, e5, e6⟩ := h.rok ho
    obtain ⟨l1, l2, l3⟩ := h1.lt
    obtain ⟨f', d0, d1, d2, d3, d4, d5⟩ := hfs _ _ e0
    refine ⟨ws, by rw [hs]; exact h1.far hf hx hb (fun hr => (hR _ hr).elim h2.g (hK.2.2 ho)), ⟨fun hg => (hG _ hg).elim h2.x (Nat.not_le_of_lt l1), fun hg => (hG _ hg).elim h2.b (Nat.not_le_of_lt l2), fun hg => (hG _ hg).elim h2.g (Nat.not_le_of_lt l3)⟩, by rw [hs]; exact hst ho, h4, f', d0, d1.trans e1, d2.trans e2, d3.trans e3, d4.trans e4, by rw [d5]; exact e5, by rw [d5]; exact e6⟩
  · obtain ⟨⟨h1, h2⟩, h3, h4⟩ := h.shut ho
    exact ⟨⟨hf.row h1 hx, hf.row h2 hb⟩, fun hg => (hG _ hg).elim h3 (Nat.not_le_of_lt h1.lt), fun hg => (hG _ hg).elim h4 (Nat.not_le_of_lt h2.lt)⟩
  · obtain ⟨f, hfj⟩ := h.file
    obtain ⟨f', d0, _⟩ := hfs _ _ hfj
    exact ⟨f', d0⟩
theorem FiOk.keep {f : Pf} (h : FiOk F f) (hs : F'.D.size = F.D.size) (hbl : F'.D.blocks = F.D.blocks) (hn : f.freed = false → ∀ i : Nat, f.first ≤ i → i < f.first + f.nb → F'.D.now i = F.D.now i) : FiOk F' f := by
  refine ⟨h.k, by rw [hs]; exact h.h, by rw [hs]; exact h.hol, h.nb, h.first, h.fit, fun hfr => ?_⟩
  obtain ⟨h1, h2⟩ := h.stand hfr
  refine ⟨fun j hj => ?_, by rw [hbl]; exact h2⟩
  rw [hn hfr _ (by omega) (by omega), hs]
  exact h1 j hj
end
/-- the work, its writers, files and readers -/
structure Many (w0 : World) (p : Wp) (F : Fs) (n sz : Nat) (bl : Int) (ws : List Pw) (fs : List Pf) (rs : List Pr) (G : Nat → Prop) (W : World) : Prop where
  sys : Sys W G p F n
  base : ∀ k, G k → w0.heap.size ≤ k
  bel : Below w0.heap.size w0 W
  calm : Calm F.D
  size : F.D.size = sz
  blocks : F.D.blocks = bl
  range : F.S.first = 0 ∧ ((F.S.blocks : Nat) : Int) = bl
  used : F.A.used = (cntT (ws.map (·.o)) + cntT (rs.map (·.o))) * sz
  wr : ∀ (i : Nat) (s : Pw), ws[i]? = some s → WrOk w0 W G p F s
  rd : ∀ (i : Nat) (s : Pr), rs[i]? = some s → RdOk w0 W G p F fs s
  fi : ∀ (j : Nat) (f : Pf), fs[j]? = some f → FiOk F f
  apw : ∀ (i j : Nat) (s s' : Pw), ws[i]? = some s → ws[j]? = some s' → i ≠ j → Oap s.ob s'.ob
  apr : ∀ (i j : Nat) (s s' : Pr), rs[i]? = some s → rs[j]? = some s' → i ≠ j → Oap s.ob s'.ob
  apx : ∀ (i j : Nat) (s : Pw) (s' : Pr), ws[i]? = some s → rs[j]? = some s' → Oap s.ob s'.ob
  ext : ∀ (o o' : Bool × Nat) (b : Nat), Pin ws fs o b → Pin ws fs o' b → o = o'
  nofree : ∀ (o : Bool × Nat) (b : Nat), Pin ws fs o b → ¬ hasB F.S.fr b
theorem set_at {α : Type} {l : List α} {i j : Nat} {a b : α} (h : (l.set i a)[j]? = some b) : (i = j ∧ a = b) ∨ (j ≠ i ∧ l[j]? = some b) := by
  rw [List.getElem?_set] at h
  by_cases e : i = j
  · rw [if_pos e] at h
    split at h
    · exact .inl ⟨e, by injection h with h⟩
    · cases h
  · rw [if_neg e] at h; exact .inr ⟨fun e' => e e'.symm, h⟩
theorem set_on {α : Type} {l : List α} {i : Nat} {a b : α} (h : l[i]? = some b) : (l.set i a)[i]? = some a := by
  obtain ⟨hi, _⟩ := List.getElem?_eq_some_iff.1 h
  rw [List.getElem?_set, if_pos rfl, if_pos hi]
theorem snoc_at {α : Type} {l : List α} {j : Nat} {a b : α} (h : (l ++ [a])[j]? = some b) : (j = l.length ∧ a = b) ∨ (j < l.length ∧ l[j]? = some b) := by
  by_cases hj : j < l.length
  · rw [List.getElem?_append_left hj] at h; exact .inr ⟨hj, h⟩
  · rw [List.getElem?_append_right (by omega)] at h
    by_cases e : j - l.length = 0
    · rw [e] at h; simp at h; exact .inl ⟨by omega, h⟩
    · rw [List.getElem?_eq_none (by simp; omega)] at h; cases h
section
variable {w0 W W' : World} {G G' : Nat → Prop} {p : Wp} {F F' : Fs} {n n' sz : Nat} {bl : Int} {ws : List Pw} {fs fs' : List Pf} {rs : List Pr}
theorem Many.after (h : Many w0 p F n sz bl ws fs rs G W) {K : Nat → Prop} (hf : Far (fun k => G k ∨ K k) W W') (hK : ∀ k, K k → w0.heap.size ≤ k) (hG : ∀ k, G' k → G k ∨ W.heap.size ≤ k) : (∀ k, G' k → w0.heap.size ≤ k) ∧ Below w0.heap.size w0 W' := by
  have z := h.bel.size
  exact ⟨fun k hk => (hG k hk).elim (h.base k) fun h => by omega, h.bel.trans (hf.below z fun k hk => hk.elim (h.base k) (hK k))⟩
/-- a call at an open writer -/
theorem Many.at_writer (h : Many w0 p F n sz bl ws fs rs G W) {i : Nat} {s s' : Pw} (hi : ws[i]? = some s) (ho : s.o = true) (hf : Far (fun k => G k ∨ s.ob.K k) W W') (hG : ∀ k, G' k → G k ∨ W.heap.size ≤ k) (hsys : Sys W' G' p F' n')
    (hc : Calm F'.D) (hs : F'.D.size = F.D.size) (hbl : F'.D.blocks = F.D.blocks) (hn : ∀ z : Nat, ¬ (s.t.first ≤ z ∧ z < s.t.first + s.t.blocks) → F'.D.now z = F.D.now z) (hst : ∀ b m, b ≠ s.t.b → wordsAt F.A.st b = some m → wordsAt F'.A.st b = some m)
    (hx : s'.x = s.x ∧ s'.t.b = s.t.b ∧ s'.t.g = s.t.g) (hw : WrOk w0 W' G' p F' s') (hfs : ∀ (j : Nat) (f : Pf), fs[j]? = some f → fs'[j]? = some f) (hfi : ∀ (j : Nat) (f : Pf), fs'[j]? = some f → fs[j]? = some f ∨ FiOk F' f)
    (q : Bool × Nat) (hP : ∀ o b, Pin (ws.set i s') fs' o b → (o ≠ q ∧ o ≠ (true, i) ∧ Pin ws fs o b) ∨ (o = q ∧ Pin ws fs (true, i) b)) (hfree : ∀ o b, Pin (ws.set i s') fs' o b → ¬ hasB F'.S.fr b) (hrange : F'.S.first = F.S.first ∧ F'.S.blocks = F.S.blocks)
    (hused : F'.A.used = (cntT ((ws.set i s').map (·.o)) + cntT (rs.map (·.o))) * sz) : Many w0 p F' n' sz bl (ws.set i s') fs' rs G' W' := by
  have hwi := h.wr i s hi
  have hmi := hwi.mem
  have hnew : ∀ k, s.ob.K k → w0.heap.size ≤ k := fun k hk => by
    have hw := (hwi.wok ho).1.new
    rcases hk with rfl | rfl | rfl
    · exact hw.1
    · exact hw.2.1
    · exact hw.2.2
  obtain ⟨b1, b2⟩ := h.after hf hnew hG
  have hpi : ∀ b, s.t.first ≤ b → b < s.t.first + s.t.blocks → Pin ws fs (true, i) b := fun b h1 h2 => ⟨s, hi, ho, h1, h2⟩
  have hoff : ∀ o b, o ≠ (true, i) → Pin ws fs o b → F'.D.now b = F.D.now b := fun o b hne hp => hn b fun hb => hne (h.ext _ _ _ hp (hpi b hb.1 hb.2))
  refine ⟨hsys, b1, b2, hc, hs.trans h.size, hbl.trans h.blocks, by rw [hrange.1, hrange.2]; exact h.range, hused, fun j t hj => ?_, fun j t hj => ?_, fun j f hj => ?_, fun j k t t' hj hk hne => ?_, h.apr, fun j k t t' hj hk => ?_, fun o o' b h1 h2 => ?_, hfree⟩
  · rcases set_at hj with ⟨rfl, rfl⟩ | ⟨hne, hj⟩
    · exact hw
    · have hap := h.apw j i t s hj hi hne
      have ht := h.wr j t hj
      exact ht.keep hf (fun k hk => hk) (hap.notK ht.mem hmi ho) hG hs hbl (fun hto z h1 h2 => hoff (true, j) z (fun e => hne (congrArg Prod.snd e)) ⟨t, hj, hto, h1, h2⟩) fun hto => hst _ _ hap.b (ht.wok hto).1.st
  · have hap := (h.apx i j s t hi hj).symm
    have ht := h.rd j t hj
    refine ht.keep hf (fun k hk => hk) (hap.notK ht.mem hmi ho) hG hs (fun hto => ?_) fun j f hj => ⟨f, hfs j f hj, rfl, rfl, rfl, rfl, rfl⟩
    obtain ⟨_, _, _, hwd, _⟩ := ht.rok hto
    exact hst _ _ hap.b hwd
  · rcases hfi j f hj with hj | hj
    · exact (h.fi j f hj).keep hs hbl fun hfr z h1 h2 => hoff (false, j) z ((by simp)) ⟨f, hj, hfr, h1, h2⟩
    · exact hj
  · have hob : ∀ {c : Ob}, Oap s.ob c → (s'.o = true → s.o = true) → Oap s'.ob c := fun hq _ => ⟨by rw [show s'.ob.x = s.ob.x from hx.1]; exact hq.x, by rw [show s'.ob.b = s.ob.b from hx.2.1]; exact hq.b, fun h1 h2 => by rw [show s'.ob.g = s.ob.g from hx.2.2]; exact hq.g ho h2⟩
    rcases set_at hj with ⟨rfl, rfl⟩ | ⟨hne1, hj⟩
    · rcases set_at hk with ⟨rfl, rfl⟩ | ⟨hne2, hk⟩
      · exact absurd rfl hne
      · exact hob (h.apw _ _ _ _ hi hk hne) fun _ => ho
    · rcases set_at hk with ⟨rfl, rfl⟩ | ⟨hne2, hk⟩
      · exact (hob (h.apw _ _ _ _ hi hj (fun e => hne e.symm)) fun _ => ho).symm
      · exact h.apw _ _ _ _ hj hk hne
  · rcases set_at hj with ⟨rfl, rfl⟩ | ⟨hne1, hj⟩
    · have hq := h.apx _ _ _ _ hi hk
      exact ⟨by rw [show s'.ob.x = s.ob.x from hx.1]; exact hq.x, by rw [show s'.ob.b = s.ob.b from hx.2.1]; exact hq.b, fun h1 h2 => by rw [show s'.ob.g = s.ob.g from hx.2.2]; exact hq.g ho h2⟩
    · exact h.apx _ _ _ _ hj hk
  · rcases hP o b h1 with ⟨_, n1, p1⟩ | ⟨q1, p1⟩
    · rcases hP o' b h2 with ⟨_, n2, p2⟩ | ⟨q2, p2⟩
      · exact h.ext _ _ _ p1 p2
      · exact absurd (h.ext _ _ _ p1 p2) n1
    · rcases hP o' b h2 with ⟨_, n2, p2⟩ | ⟨q2, p2⟩
      · exact absurd (h.ext _ _ _ p2 p1) n2
      · exact q1.trans q2.symm
/-- a call at an open reader -/
theorem Many.at_reader (h : Many w0 p F n sz bl ws fs rs G W) {i : Nat} {s s' : Pr} (hi : rs[i]? = some s) (ho : s.o = true) (hf : Far (fun k => G k ∨ s.ob.K k) W W') (hG : ∀ k, G' k → G k ∨ W.heap.size ≤ k) (hsys : Sys W' G' p F' n')
    (hc : Calm F'.D) (hs : F'.D.size = F.D.size) (hbl : F'.D.blocks = F.D.blocks) (hn : ∀ z : Nat, F'.D.now z = F.D.now z) (hst : ∀ b m, b ≠ s.r.b → wordsAt F.A.st b = some m → wordsAt F'.A.st b = some m)
    (hx : s'.x = s.x ∧ s'.r.b = s.r.b ∧ s'.r.g = s.r.g) (hw : RdOk w0 W' G' p F' fs s') (hS : F'.S = F.S) (hused : F'.A.used = (cntT (ws.map (·.o)) + cntT ((rs.set i s').map (·.o))) * sz) : Many w0 p F' n' sz bl ws fs (rs.set i s') G' W' := by
  have hwi := h.rd i s hi
  have hmi := hwi.mem
  have hnew : ∀ k, s.ob.K k → w0.heap.size ≤ k := fun k hk => by
    obtain ⟨_, _, _, _, hg, _⟩ := hwi.rok ho
    rcases hk with rfl | rfl | rfl
    · exact hwi.new.1
    · exact hwi.new.2
    · exact hg
  obtain ⟨b1, b2⟩ := h.after hf hnew hG
  refine ⟨hsys, b1, b2, hc, hs.trans h.size, hbl.trans h.blocks, by rw [hS]; exact h.range, hused, fun j t hj => ?_, fun j t hj => ?_, fun j f hj => (h.fi j f hj).keep hs hbl fun _ z _ _ => hn z, h.apw, fun j k t t' hj hk hne => ?_, fun j k t t' hj hk => ?_, h.ext, by rw [hS]; exact h.nofree⟩
  · have hap := h.apx j i t s hj hi
    have ht := h.wr j t hj
    exact ht.keep hf (fun k hk => hk) (hap.notK ht.mem hmi ho) hG hs hbl (fun hto z h1 h2 => hn z) fun hto => hst _ _ hap.b (ht.wok hto).1.st
  · rcases set_at hj with ⟨rfl, rfl⟩ | ⟨hne, hj⟩
    · exact hw
    · have hap := h.apr j i t s hj hi hne
      have ht := h.rd j t hj
      refine ht.keep hf (fun k hk => hk) (hap.notK ht.mem hmi ho) hG hs (fun hto => ?_) (Stay.refl fs)
      obtain ⟨_, _, _, hwd, _⟩ := ht.rok hto
      exact hst _ _ hap.b hwd
  · have hob : ∀ {c : Ob}, Oap s.ob c → Oap s'.ob c := fun hq => ⟨by rw [show s'.ob.x = s.ob.x from hx.1]; exact hq.x, by rw [show s'.ob.b = s.ob.b from hx.2.1]; exact hq.b, fun h1 h2 => by rw [show s'.ob.g = s.ob.g from hx.2.2]; exact hq.g ho h2⟩
    rcases set_at hj with ⟨rfl, rfl⟩ | ⟨hne1, hj⟩
    · rcases set_at hk with ⟨rfl, rfl⟩ | ⟨hne2, hk⟩
      · exact absurd rfl hne
      · exact hob (h.apr _ _ _ _ hi hk hne)
    · rcases set_at hk with ⟨rfl, rfl⟩ | ⟨hne2, hk⟩
      · exact (hob (h.apr _ _ _ _ hi hj (fun e => hne e.symm))).symm
      · exact h.apr _ _ _ _ hj hk hne
  · rcases set_at hk with ⟨rfl, rfl⟩ | ⟨hne1, hk⟩
    · have hq := (h.apx _ _ _ _ hj hi).symm
      exact Oap.symm ⟨by rw [show s'.ob.x = s.ob.x from hx.1]; exact hq.x, by rw [show s'.ob.b = s.ob.b from hx.2.1]; exact hq.b, fun h1 h2 => by rw [show s'.ob.g = s.ob.g from hx.2.2]; exact hq.g ho h2⟩
    · exact h.apx _ _ _ _ hj hk
end
theorem giveN_range {S : Sp} (h : S.ok) (f m : Nat) : (giveN S f m).first = S.first ∧ (giveN S f m).blocks = S.blocks := by
  unfold giveN
  split
  · exact ⟨rfl, rfl⟩
  · rcases giveS_spec h (f : Int) (m : Int) with ⟨s', a', m', e1, e2, h3, e3, hg⟩ | ⟨e3, _⟩
    · rw [e3]; exact ⟨hg.first, hg.blocks⟩
    · rw [e3]; exact ⟨rfl, rfl⟩
/-- what a call turns: the work's own blocks, and rows of writers and readers -/
def Turn (G G' : Nat → Prop) (W W' : World) : Prop := Far (fun k => G k ∨ Typed W k) W W' ∧ ∀ k, G' k → G k ∨ W.heap.size ≤ k
section
variable {w0 W W' : World} {G G' : Nat → Prop} {p : Wp} {F F' : Fs} {n n' sz : Nat} {bl : Int} {ws : List Pw} {fs fs' : List Pf} {rs : List Pr}
/-- the law's own blocks turn -/
theorem Many.mine (h : Many w0 p F n sz bl ws fs rs G W) {R : Nat → Prop} (hf : Far R W W') (hR : ∀ k, R k → ¬ G k ∧ ¬ Typed W k ∧ w0.heap.size ≤ k) : Many w0 p F n sz bl ws fs rs G W' := by
  have hb : ∀ {k : Nat} {T : TypeId} {cs : List Value}, Row W k T cs → (T = 136 ∨ T = 126 ∨ T = 130 ∨ T = 69) → ¬ R k := fun hr ht hk => (hR _ hk).2.1 ⟨_, _, hr, ht⟩
  have hm : ∀ {a : Ob}, ObMem W G a → ¬ R a.x ∧ ¬ R a.b ∧ (a.o = true → ¬ R a.g) := fun ha => by
    refine ⟨?_, ?_, fun ho => ?_⟩
    · rcases ha.x with ⟨cs, hr⟩ | ⟨cs, hr⟩
      · exact hb hr (.inl rfl)
      · exact hb hr (.inr (.inl rfl))
    · obtain ⟨cs, hr⟩ := ha.b; exact hb hr (.inr (.inr (.inl rfl)))
    · obtain ⟨cs, hr⟩ := ha.g ho; exact hb hr (.inr (.inr (.inr rfl)))
  refine ⟨h.sys.touch hf fun k hk => ⟨(hR k hk).1, fun v hv => hb hv (.inr (.inr (.inl rfl))) hk⟩, h.base, h.bel.trans (hf.below h.bel.size fun k hk => (hR k hk).2.2), h.calm, h.size, h.blocks, h.range, h.used, fun i s hi => ?_, fun i s hi => ?_, h.fi, h.apw, h.apr, h.apx, h.ext, h.nofree⟩
  · exact (h.wr i s hi).keep hf (fun k hk => .inr hk) (hm (h.wr i s hi).mem) (fun k hk => .inl hk) rfl rfl (fun _ _ _ _ => rfl) fun ho => ((h.wr i s hi).wok ho).1.st
  · refine (h.rd i s hi).keep hf (fun k hk => .inr hk) (hm (h.rd i s hi).mem) (fun k hk => .inl hk) rfl (fun ho => ?_) (Stay.refl fs)
    obtain ⟨_, _, _, hwd, _⟩ := (h.rd i s hi).rok ho
    exact hwd
theorem Many.below (h : Many w0 p F n sz bl ws fs rs G W) (hb : Below W.heap.size W W') : Many w0 p F n sz bl ws fs rs G W' := h.mine (Far.of_below hb fun _ => False) fun _ hk => hk.elim
/-- the law's own list is another value -/
theorem WrOk.val {s : Pw} (h : WrOk w0 W G p F s) (v : Value) : WrOk w0 W G p F { s with v := v } := ⟨h.wok, h.shut, h.new, h.ok, h.hol, h.fit⟩
/-- Put where there is none to put -/
theorem many_put_no (h : Many w0 p F n sz bl ws fs rs G W) {i : Nat} {s : Pw} (hi : ws[i]? = some s) (tu : Tup) (hno : s.o = false ∨ fitsT s.t.k tu = false) :
    Calls Try.prog 36 #[.pointer (some ⟨s.x, 0, none⟩), .agg #[.int .i64 tu.a, .int .i64 tu.b, .int .i64 tu.c, .int .i64 tu.d, .int .i64 tu.e]] W fun e w' => e = .returned (.int .i64 1) ∧ Many w0 p F n sz bl ws fs rs G w' ∧ Below W.heap.size W w' := by
  have hw := h.wr i s hi
  cases ho : s.o with
  | false => exact (wput_shut (hw.shut ho).1 _ _ _ _ _).mono fun _ _ ⟨h1, h2⟩ => ⟨h1, h.below h2, h2⟩
  | true =>
    obtain ⟨wd, hm, _⟩ := (hw.wok ho).1.mem
    exact (wput_unfit h.sys hw.ok hm tu (hno.elim (fun e => absurd (ho.symm.trans e) (by decide)) id)).mono fun _ _ ⟨h1, h2⟩ => ⟨h1, h.below h2, h2⟩
theorem many_put_full (h : Many w0 p F n sz bl ws fs rs G W) {i : Nat} {s : Pw} (hi : ws[i]? = some s) (tu : Tup) (ho : s.o = true) (hfit : fitsT s.t.k tu = true) (hfull : s.t.l.length = s.t.bound) :
    Calls Try.prog 36 #[.pointer (some ⟨s.x, 0, none⟩), .agg #[.int .i64 tu.a, .int .i64 tu.b, .int .i64 tu.c, .int .i64 tu.d, .int .i64 tu.e]] W fun e w' => e = .returned (.int .i64 5) ∧ Many w0 p F n sz bl ws fs rs G w' ∧ Below W.heap.size W w' := by
  have hw := h.wr i s hi
  obtain ⟨wd, hm, _⟩ := (hw.wok ho).1.mem
  exact (wput_full h.sys hw.ok hm tu hfit hfull).mono fun _ _ ⟨h1, h2⟩ => ⟨h1, h.below h2, h2⟩
theorem many_put (h : Many w0 p F n sz bl ws fs rs G W) (hn : n < 1000000) {i : Nat} {s : Pw} (hi : ws[i]? = some s) {tu : Tup} (ho : s.o = true) (hto : TupOk tu) (hfit : fitsT s.t.k tu = true) (hless : s.t.l.length < s.t.bound) :
    Calls Try.prog 36 #[.pointer (some ⟨s.x, 0, none⟩), .agg #[.int .i64 tu.a, .int .i64 tu.b, .int .i64 tu.c, .int .i64 tu.d, .int .i64 tu.e]] W fun e w' => e = .returned (.int .i64 0) ∧ ∃ F' G', (∀ v', Many w0 p F' (n + 1) sz bl (ws.set i ⟨s.x, s.t.snoc tu, v', true⟩) fs rs G' w') ∧ Turn G G' W w' := by
  have hw := h.wr i s hi
  obtain ⟨hwk, hin⟩ := hw.wok ho
  refine (wok_put h.sys hn hwk h.calm hin hto hfit hless).mono ?_
  rintro e w' ⟨he, G', D', k1, k2, k3, k4, c1, c2, c3, c4⟩
  have hf : Far (fun k => G k ∨ s.ob.K k) W w' := k3.mono fun k hk => hk.imp_right fun h => h.elim .inl fun h => .inr (.inr h)
  have hpin : ∀ v' o b, Pin (ws.set i ⟨s.x, s.t.snoc tu, v', true⟩) fs o b → (o ≠ (true, i) ∧ o ≠ (true, i) ∧ Pin ws fs o b) ∨ (o = (true, i) ∧ Pin ws fs (true, i) b) := fun v' o b hp => by
    match o, hp with
    | (true, j), ⟨s', hj, h1, h2, h3⟩ =>
      rcases set_at hj with ⟨rfl, rfl⟩ | ⟨hne, hj⟩
      · exact .inr ⟨rfl, s, hi, ho, h2, h3⟩
      · exact .inl ⟨fun e => hne (congrArg Prod.snd e), fun e => hne (congrArg Prod.snd e), s', hj, h1, h2, h3⟩
    | (false, j), ⟨f, hj, h1, h2, h3⟩ => exact .inl ⟨(by simp), (by simp), f, hj, h1, h2, h3⟩
  refine ⟨he, { F with D := D' }, G', fun v' => ?_, hf.mono fun k hk => hk.imp_right fun h => hw.mem.typed ho h, k4⟩
  refine h.at_writer hi ho hf k4 k1 c1 c2 c3 (fun z hz => c4 z hz) (fun _ _ _ h => h) ⟨rfl, rfl, rfl⟩ ⟨fun _ => ⟨k2, by show _ ≤ D'.blocks; rw [c3]; exact hin⟩, (fun e => by cases e), hw.new, k2.ok, by show _ = holdsI D'.size _; rw [c2]; exact hw.hol, k2.fit⟩ (fun _ _ h => h) (fun _ _ h => .inl h) (true, i) (hpin v') (fun o b hp => ?_) ⟨rfl, rfl⟩ ?_
  · rcases hpin v' o b hp with ⟨_, _, h1⟩ | ⟨_, h1⟩
    · exact h.nofree _ _ h1
    · exact h.nofree _ _ h1
  · rw [List.map_set]
    rw [cntT_same (ws.map (·.o)) i true (by rw [List.getElem?_map, hi]; simp [ho])]
    exact h.used
/-- Close of one that is closed, or dropped -/
theorem many_close_no (h : Many w0 p F n sz bl ws fs rs G W) {i : Nat} {s : Pw} (hi : ws[i]? = some s) (ho : s.o = false) :
    Calls Try.prog 35 #[.pointer (some ⟨s.x, 0, none⟩)] W fun e w' => e = .returned (.tuple #[fileV 0 0 0 0, .int .i64 1]) ∧ Many w0 p F n sz bl ws fs rs G w' ∧ Below W.heap.size W w' :=
  (wclose_shut ((h.wr i s hi).shut ho).1).mono fun _ _ ⟨h1, h2⟩ => ⟨h1, h.below h2, h2⟩
/-- a writer's end: used, and what others' grants are -/
theorem Many.less (h : Many w0 p F n sz bl ws fs rs G W) {i : Nat} {s : Pw} (hi : ws[i]? = some s) (ho : s.o = true) (s' : Pw) (hs' : s'.o = false) : F.A.used - sz = (cntT ((ws.set i s').map (·.o)) + cntT (rs.map (·.o))) * sz := by
  have hc := cntT_set (ws.map (·.o)) i (by rw [List.getElem?_map, hi]; simp [ho])
  rw [List.map_set, hs', h.used, ← hc]
  rw [show cntT ((ws.map (·.o)).set i false) + 1 + cntT (rs.map (·.o)) = (cntT ((ws.map (·.o)).set i false) + cntT (rs.map (·.o))) + 1 by omega, Nat.add_mul _ 1, Nat.one_mul, Nat.add_sub_cancel]
theorem many_close (h : Many w0 p F n sz bl ws fs rs G W) (hn : n < 1000000) {i : Nat} {s : Pw} (hi : ws[i]? = some s) (ho : s.o = true) :
    Calls Try.prog 35 #[.pointer (some ⟨s.x, 0, none⟩)] W fun e w' => e = .returned (.tuple #[fileV (firstOf s.t) (blocksN s.t.h s.t.l.length) s.t.k s.t.l.length, .int .i64 0]) ∧
      ∃ F' G', Many w0 p F' (n + 1) sz bl (ws.set i { s with o := false }) (fs ++ [⟨firstOf s.t, blocksN s.t.h s.t.l.length, s.t.k, s.t.h, s.t.l, s.v, false⟩]) rs G' w' ∧ Turn G G' W w' := by
  have hw := h.wr i s hi
  obtain ⟨hwk, hin⟩ := hw.wok ho
  refine (wok_close h.sys hn hwk h.calm hin).mono ?_
  rintro e w' ⟨he, G', D', k1, k2, k3, k4, ⟨c1, c2, c3, c4⟩, hst⟩
  have hf : Far (fun k => G k ∨ s.ob.K k) W w' := k3.mono fun k hk => hk.imp_right fun h => h.elim .inl fun h => h.elim (fun h => .inr (.inr h)) fun h => .inr (.inl h)
  obtain ⟨l1, l2, l3⟩ := hwk.lt
  have hnb : blocksN s.t.h s.t.l.length ≤ s.t.blocks := by
    rw [hw.ok.blocks.1]; exact blocks_mono hw.ok.h.1 hw.ok.bound.2
  have hfst : 0 < blocksN s.t.h s.t.l.length → firstOf s.t = s.t.first := fun h0 => by
    unfold firstOf
    split
    · rename_i h1; rw [h1, blocks_zero] at h0; omega
    · rfl
  have hfle : firstOf s.t ≤ s.t.first := by unfold firstOf; split <;> omega
  have hpin : ∀ o b, Pin (ws.set i { s with o := false }) (fs ++ [⟨firstOf s.t, blocksN s.t.h s.t.l.length, s.t.k, s.t.h, s.t.l, s.v, false⟩]) o b → (o ≠ (false, fs.length) ∧ o ≠ (true, i) ∧ Pin ws fs o b) ∨ (o = (false, fs.length) ∧ Pin ws fs (true, i) b ∧ s.t.first ≤ b ∧ b < s.t.first + blocksN s.t.h s.t.l.length) := fun o b hp => by
    match o, hp with
    | (true, j), ⟨s', hj, h1, h2, h3⟩ =>
      rcases set_at hj with ⟨rfl, rfl⟩ | ⟨hne, hj⟩
      · cases h1
      · exact .inl ⟨(by simp), fun e => hne (congrArg Prod.snd e), s', hj, h1, h2, h3⟩
    | (false, j), ⟨f, hj, h1, h2, h3⟩ =>
      rcases snoc_at hj with ⟨rfl, rfl⟩ | ⟨hlt, hj⟩
      · simp only at h2 h3
        have h4 : 0 < blocksN s.t.h s.t.l.length := by omega
        rw [hfst h4] at h2 h3
        exact .inr ⟨rfl, ⟨s, hi, ho, h2, by omega⟩, h2, h3⟩
      · exact .inl ⟨(by simp; omega), (by simp), f, hj, h1, h2, h3⟩
  refine ⟨he, endF { F with D := D' } s.t (blocksN s.t.h s.t.l.length), G', ?_, hf.mono fun k hk => hk.imp_right fun h => hw.mem.typed ho h, k4⟩
  refine h.at_writer hi ho hf k4 k1 c1 c2 c3 (fun z hz => c4 z hz) (fun b m hb hm => wordsAt_without _ _ _ _ hm hb) ⟨rfl, rfl, rfl⟩
    ⟨(fun e => by cases e), fun _ => ⟨k2, fun hg => (k4 _ hg).elim hwk.out.x (Nat.not_le_of_lt l1), fun hg => (k4 _ hg).elim hwk.out.b (Nat.not_le_of_lt l2)⟩, hw.new, by show WtOk s.t D'.size; rw [c2]; exact hw.ok, by show _ = holdsI D'.size _; rw [c2]; exact hw.hol, hw.fit⟩
    (fun j f hj => by
      obtain ⟨hlt, _⟩ := List.getElem?_eq_some_iff.1 hj
      rw [List.getElem?_append_left hlt]; exact hj)
    (fun j f hj => by
      rcases snoc_at hj with ⟨rfl, rfl⟩ | ⟨hlt, hj⟩
      · refine .inr ⟨hw.ok.k, by show _ ∧ _ ≤ D'.size - 2 ∧ _; rw [c2]; exact hw.ok.h, by show _ = holdsI D'.size _; rw [c2]; exact hw.hol, ⟨rfl, Nat.le_trans hw.ok.bound.2 hw.ok.bound.1⟩, Nat.le_trans hfle hw.ok.first, hw.fit, fun _ => ⟨hst, ?_⟩⟩
        show ((firstOf s.t + blocksN s.t.h s.t.l.length : Nat) : Int) ≤ D'.blocks
        rw [c3]; omega
      · exact .inl hj)
    (false, fs.length) (fun o b hp => (hpin o b hp).imp_right fun h => ⟨h.1, h.2.1⟩) (fun o b hp hfree => ?_) (giveN_range h.sys.sok _ _) ?_
  · rcases giveN_has h.sys.sok _ _ _ hfree with hb | ⟨hb1, hb2⟩
    · rcases hpin o b hp with ⟨_, _, h1⟩ | ⟨_, h1, _⟩
      · exact h.nofree _ _ h1 hb
      · exact h.nofree _ _ h1 hb
    · rcases hpin o b hp with ⟨_, hne, h1⟩ | ⟨_, _, h2, h3⟩
      · exact hne (h.ext _ _ _ h1 ⟨s, hi, ho, by omega, by omega⟩)
      · omega
  · show F.A.used - D'.size = _
    rw [c2, h.size]
    exact h.less hi ho _ rfl
/-- Drop -/
theorem many_drop (h : Many w0 p F n sz bl ws fs rs G W) {i : Nat} {s : Pw} (hi : ws[i]? = some s) :
    Calls Try.prog 32 #[.pointer (some ⟨s.x, 0, none⟩)] W fun e w' => e = .returned (.tuple #[]) ∧ ∃ F' G', Many w0 p F' n sz bl (ws.set i { s with o := false }) fs rs G' w' ∧ Turn G G' W w' := by
  have hw := h.wr i s hi
  cases ho : s.o with
  | false =>
    obtain ⟨⟨h1, h2⟩, _⟩ := hw.shut ho
    have hsame : ws.set i { s with o := false } = ws := by
      obtain ⟨hlt, e⟩ := List.getElem?_eq_some_iff.1 hi
      have : ({ s with o := false } : Pw) = ws[i] := by rw [e, ← ho]
      rw [this]; exact List.set_getElem_self hlt
    refine (wdrop_any_shut h1 h2).mono ?_
    rintro e w' ⟨he, rfl⟩
    exact ⟨he, F, G, by rw [hsame]; exact h, Far.refl _ _, fun k hk => .inl hk⟩
  | true =>
    obtain ⟨hwk, hin⟩ := hw.wok ho
    obtain ⟨wd, hm, _⟩ := hwk.mem
    obtain ⟨l1, l2, l3⟩ := hwk.lt
    refine (wdrop_any h.sys hm.row hm.buf (by have := hw.ok.sz; omega) hwk.out.x hwk.st hm.apart.1 hw.ok.first hw.ok.blocks.2).mono ?_
    rintro e w' ⟨he, G', k1, k2, k3, k4⟩
    have hf : Far (fun k => G k ∨ s.ob.K k) W w' := k2.mono fun k hk => hk.imp_right fun h => .inr (.inl h)
    have hpin : ∀ o b, Pin (ws.set i { s with o := false }) fs o b → o ≠ (true, i) ∧ Pin ws fs o b := fun o b hp => by
      match o, hp with
      | (true, j), ⟨s', hj, h1, h2, h3⟩ =>
        rcases set_at hj with ⟨rfl, rfl⟩ | ⟨hne, hj⟩
        · cases h1
        · exact ⟨fun e => hne (congrArg Prod.snd e), s', hj, h1, h2, h3⟩
      | (false, j), ⟨f, hj, h1, h2, h3⟩ => exact ⟨(by simp), f, hj, h1, h2, h3⟩
    refine ⟨he, endF F s.t 0, G', ?_, hf.mono fun k hk => hk.imp_right fun h => hw.mem.typed ho h, k3⟩
    refine h.at_writer hi ho hf k3 k1 h.calm rfl rfl (fun z _ => rfl) (fun b m hb hm => wordsAt_without _ _ _ _ hm hb) ⟨rfl, rfl, rfl⟩
      ⟨(fun e => by cases e), fun _ => ⟨⟨k2.row hm.row (fun hk => hk.elim hwk.out.x hm.apart.1), k4⟩, fun hg => (k3 _ hg).elim hwk.out.x (Nat.not_le_of_lt l1), fun hg => (k3 _ hg).elim hwk.out.b (Nat.not_le_of_lt l2)⟩, hw.new, hw.ok, hw.hol, hw.fit⟩
      (fun _ _ h => h) (fun _ _ h => .inl h) (true, i) (fun o b hp => .inl ⟨(hpin o b hp).1, hpin o b hp⟩) (fun o b hp hfree => ?_) (giveN_range h.sys.sok _ _) ?_
    · rcases giveN_has h.sys.sok _ _ _ hfree with hb | ⟨hb1, hb2⟩
      · exact h.nofree _ _ (hpin o b hp).2 hb
      · exact (hpin o b hp).1 (h.ext _ _ _ (hpin o b hp).2 ⟨s, hi, ho, by omega, by omega⟩)
    · show F.A.used - F.D.size = _
      rw [h.size]
      exact h.less hi ho _ rfl
end
section
variable {w0 W W' : World} {G G' : Nat → Prop} {p : Wp} {F F' : Fs} {n n' sz : Nat} {bl : Int} {ws : List Pw} {fs fs' : List Pf} {rs : List Pr}
/-- Next of a reader that is closed -/
theorem many_next_no (h : Many w0 p F n sz bl ws fs rs G W) {i : Nat} {s : Pr} (hi : rs[i]? = some s) (ho : s.o = false) :
    Calls Try.prog 31 #[.pointer (some ⟨s.x, 0, none⟩)] W fun e w' => e = .returned (.tuple #[.agg #[.int .i64 0, .int .i64 0, .int .i64 0, .int .i64 0, .int .i64 0], .bool false, .int .i64 1]) ∧ Many w0 p F n sz bl ws fs rs G w' ∧ Below W.heap.size W w' :=
  (fnext_shut ((h.rd i s hi).shut ho).1).mono fun _ _ ⟨h1, h2⟩ => ⟨h1, h.below h2, h2⟩
/-- Next at the end -/
theorem many_next_end (h : Many w0 p F n sz bl ws fs rs G W) {i : Nat} {s : Pr} (hi : rs[i]? = some s) (ho : s.o = true) (hpos : s.r.pos = s.r.count) :
    Calls Try.prog 31 #[.pointer (some ⟨s.x, 0, none⟩)] W fun e w' => e = .returned (.tuple #[.agg #[.int .i64 0, .int .i64 0, .int .i64 0, .int .i64 0, .int .i64 0], .bool false, .int .i64 0]) ∧ Many w0 p F n sz bl ws fs rs G w' ∧ Below W.heap.size W w' := by
  obtain ⟨wd, hm, _⟩ := (h.rd i s hi).rok ho
  exact (fnext_end (h.rd i s hi).ok hm hpos).mono fun _ _ ⟨h1, h2⟩ => ⟨h1, h.below h2, h2⟩
/-- Next of a file that is not freed -/
theorem many_next (h : Many w0 p F n sz bl ws fs rs G W) (hn : n < 1000000) {i : Nat} {s : Pr} (hi : rs[i]? = some s) (ho : s.o = true) {f : Pf} (hf : fs[s.j]? = some f) (hfr : f.freed = false) (hpos : s.r.pos < s.r.count) {t : Tup} (ht : f.l[s.r.pos]? = some t) :
    Calls Try.prog 31 #[.pointer (some ⟨s.x, 0, none⟩)] W fun e w' => e = .returned (.tuple #[.agg #[.int .i64 t.a, .int .i64 t.b, .int .i64 t.c, .int .i64 t.d, .int .i64 t.e], .bool true, .int .i64 0]) ∧
      ∃ F' G', Many w0 p F' (n + 1) sz bl ws fs (rs.set i { s with r := { s.r with pos := s.r.pos + 1 } }) G' w' ∧ Turn G G' W w' := by
  have hr := h.rd i s hi
  have hok := hr.ok
  obtain ⟨wd, hm, hout, hst, hg, f', e0, e1, e2, e3, e4, e5, e6⟩ := hr.rok ho
  rw [hf] at e0; injection e0 with e0; subst e0
  have hfi := h.fi s.j f hf
  obtain ⟨hsd, hin⟩ := hfi.stand hfr
  obtain ⟨hto, htf⟩ := hfi.fit t (List.mem_of_getElem? ht)
  have hjl : s.r.pos / s.r.h < f.nb := by
    rw [hfi.nb.1, e4, e5]
    exact (Nat.div_lt_iff_lt_mul hok.h.1).2 (Nat.lt_of_lt_of_le hpos (blocks_mul hok.h.1))
  have hright : right F.D ((s.r.first + s.r.pos / s.r.h : Nat) : Int) = true := by
    have hlt2 : s.r.first + s.r.pos / s.r.h < f.first + f.nb := by rw [e1]; omega
    generalize s.r.first + s.r.pos / s.r.h = y at hlt2 ⊢
    unfold right; simp; omega
  have hrd : (read F.D ((s.r.first + s.r.pos / s.r.h : Nat) : Int)).1 = 0 := by rw [read_ok h.calm hright]
  obtain ⟨l1, l2, l3⟩ := hm.lt
  have hblk : F.D.now ((s.r.first + s.r.pos / s.r.h : Nat) : Int) = sealW F.D.size (s.r.first + s.r.pos / s.r.h) s.r.k (payT s.r.h s.r.k f.l (s.r.pos / s.r.h)) := by
    have h1 := hsd _ hjl
    rw [e1, e3, e4] at h1
    exact h1
  refine (fnext_part h.sys hn hok hm hout e5 hpos (fun _ => ⟨hrd, hblk⟩) e6 ht hto (by rw [← e3]; exact htf)).mono ?_
  rintro e w' ⟨he, ws', ⟨G', k1, k2, k3, k4⟩, k5⟩
  have hff : Far (fun k => G k ∨ s.ob.K k) W w' := k3.mono fun k hk => hk.imp_right fun h => h.elim (fun h => .inr (.inr h)) .inl
  have hD : (nextD F.D s.r).size = F.D.size ∧ (nextD F.D s.r).blocks = F.D.blocks ∧ Calm (nextD F.D s.r) ∧ ∀ z, (nextD F.D s.r).now z = F.D.now z := by
    unfold nextD
    split
    · exact ⟨(wrote_read hrd).size, (wrote_read hrd).blocks, (wrote_read hrd).calm h.calm, fun z => (now_read F.D _ z).1⟩
    · exact ⟨rfl, rfl, h.calm, fun _ => rfl⟩
  obtain ⟨d1, d2, d3, d4⟩ := hD
  refine ⟨he, { F with D := nextD F.D s.r }, G', ?_, hff.mono fun k hk => hk.imp_right fun h => hr.mem.typed ho h, k4⟩
  refine h.at_reader hi ho hff k4 k1 d3 d1 d2 (fun z => d4 z) (fun _ _ _ h => h) ⟨rfl, rfl, rfl⟩ ⟨fun _ => ⟨ws', k2, ⟨fun hg => (k4 _ hg).elim hout.x (Nat.not_le_of_lt l1), fun hg => (k4 _ hg).elim hout.b (Nat.not_le_of_lt l2), fun hg => (k4 _ hg).elim hout.g (Nat.not_le_of_lt l3)⟩, by show wordsAt F.A.st s.r.b = some (nextD F.D s.r).size; rw [d1]; exact hst, hg, f, hf, e1, e2, e3, e4, e5, fun hne => ?_⟩, fun e => absurd (ho.symm.trans e) (by decide), hr.new, by show RtOk _ (nextD F.D s.r).size; rw [d1]; exact ⟨hok.k, hok.h, hok.sz, ⟨hok.count.1, hpos⟩, hok.first⟩, hr.file⟩ rfl ?_
  · show ws'.take (min s.r.h (s.r.count - (s.r.pos + 1) / s.r.h * s.r.h) * s.r.k) = payT s.r.h s.r.k f.l ((s.r.pos + 1) / s.r.h)
    rw [div_succ_ne hok.h.1 hne]
    exact k5
  · rw [List.map_set]
    rw [cntT_same (rs.map (·.o)) i _ (by rw [List.getElem?_map, hi]; rfl)]
    exact h.used
/-- a reader's Close -/
theorem many_rclose (h : Many w0 p F n sz bl ws fs rs G W) {i : Nat} {s : Pr} (hi : rs[i]? = some s) :
    Calls Try.prog 33 #[.pointer (some ⟨s.x, 0, none⟩)] W fun e w' => e = .returned (.tuple #[]) ∧ ∃ F' G', Many w0 p F' n sz bl ws fs (rs.set i { s with o := false }) G' w' ∧ Turn G G' W w' := by
  have hr := h.rd i s hi
  cases ho : s.o with
  | false =>
    have hsame : rs.set i { s with o := false } = rs := by
      obtain ⟨hlt, e⟩ := List.getElem?_eq_some_iff.1 hi
      have : ({ s with o := false } : Pr) = rs[i] := by rw [e, ← ho]
      rw [this]; exact List.set_getElem_self hlt
    refine (rclose_any_shut (hr.shut ho).1).mono ?_
    rintro e w' ⟨he, rfl⟩
    exact ⟨he, F, G, by rw [hsame]; exact h, Far.refl _ _, fun k hk => .inl hk⟩
  | true =>
    obtain ⟨wd, hm, hout, hst, hg, _⟩ := hr.rok ho
    obtain ⟨l1, l2, l3⟩ := hm.lt
    refine (rclose_any h.sys hm hout hst).mono ?_
    rintro e w' ⟨he, G', k1, k2, k3, k4⟩
    have hff : Far (fun k => G k ∨ s.ob.K k) W w' := k3.mono fun k hk => hk.imp_right fun h => .inr (.inl h)
    refine ⟨he, { F with A := release F.A s.r.b F.D.size }, G', ?_, hff.mono fun k hk => hk.imp_right fun h => hr.mem.typed ho h, k4⟩
    refine h.at_reader hi ho hff k4 k1 h.calm rfl rfl (fun z => rfl) (fun b m hb hm => wordsAt_without _ _ _ _ hm hb) ⟨rfl, rfl, rfl⟩ ⟨(fun e => by cases e), fun _ => ⟨k2, fun hg => (k4 _ hg).elim hout.x (Nat.not_le_of_lt l1), fun hg => (k4 _ hg).elim hout.b (Nat.not_le_of_lt l2)⟩, hr.new, hr.ok, hr.file⟩ rfl ?_
    show F.A.used - F.D.size = _
    have hc := cntT_set (rs.map (·.o)) i (by rw [List.getElem?_map, hi]; simp [ho])
    rw [List.map_set, h.size, h.used, ← hc, ← Nat.add_assoc, Nat.add_mul _ 1, Nat.one_mul, Nat.add_sub_cancel]
end
section
variable {w0 W W' : World} {G G' : Nat → Prop} {p : Wp} {F F' : Fs} {n n' sz : Nat} {bl : Int} {ws : List Pw} {fs fs' : List Pf} {rs : List Pr}
theorem ObMem.lt {a : Ob} (h : ObMem W G a) : a.x < W.heap.size ∧ a.b < W.heap.size ∧ (a.o = true → a.g < W.heap.size) := by
  refine ⟨?_, ?_, fun ho => ?_⟩
  · rcases h.x with ⟨_, hr⟩ | ⟨_, hr⟩
    · exact hr.lt
    · exact hr.lt
  · obtain ⟨_, hr⟩ := h.b; exact hr.lt
  · obtain ⟨_, hr⟩ := h.g ho; exact hr.lt
theorem ObMem.fresh {a c : Ob} (h : ObMem W G a) (hx : W.heap.size ≤ c.x) (hb : W.heap.size ≤ c.b) (hg : W.heap.size ≤ c.g) : Oap c a := by
  obtain ⟨l1, l2, l3⟩ := h.lt
  exact ⟨by omega, by omega, fun _ ho => by have := l3 ho; omega⟩
/-- what a call at no writer and no reader leaves -/
theorem Many.old (h : Many w0 p F n sz bl ws fs rs G W) (hf : Far G W W') (hG : ∀ k, G' k → G k ∨ W.heap.size ≤ k) (hD : F'.D = F.D) (hst : ∀ b m, wordsAt F.A.st b = some m → wordsAt F'.A.st b = some m) (hfs : Stay fs fs') :
    (∀ k, G' k → w0.heap.size ≤ k) ∧ Below w0.heap.size w0 W' ∧ Turn G G' W W' ∧ (∀ (i : Nat) (s : Pw), ws[i]? = some s → WrOk w0 W' G' p F' s) ∧ ∀ (i : Nat) (s : Pr), rs[i]? = some s → RdOk w0 W' G' p F' fs' s := by
  have hf' : Far (fun k => G k ∨ False) W W' := hf.mono fun k hk => .inl hk
  obtain ⟨b1, b2⟩ := h.after (K := fun _ => False) hf' (fun k hk => hk.elim) hG
  refine ⟨b1, b2, ⟨hf.mono fun k hk => .inl hk, hG⟩, fun i s hi => ?_, fun i s hi => ?_⟩
  · exact (h.wr i s hi).keep hf' (fun k hk => hk) ⟨id, id, fun _ => id⟩ hG (by rw [hD]) (by rw [hD]) (fun _ z _ _ => by rw [hD]) fun ho => hst _ _ ((h.wr i s hi).wok ho).1.st
  · refine (h.rd i s hi).keep hf' (fun k hk => hk) ⟨id, id, fun _ => id⟩ hG (by rw [hD]) (fun ho => ?_) hfs
    obtain ⟨_, _, _, hwd, _⟩ := (h.rd i s hi).rok ho
    exact hst _ _ hwd
theorem FiOk.same {f : Pf} (h : FiOk F f) (hD : F'.D = F.D) : FiOk F' f := h.keep (by rw [hD]) (by rw [hD]) fun _ z _ _ => by rw [hD]
/-- Write: an error, or a writer more -/
theorem many_write (h : Many w0 p F n sz bl ws fs rs G W) (width bound : Int) :
    Calls Try.prog 34 #[.pointer (some ⟨p.w, 0, none⟩), .int .i64 width, .int .i64 bound] W fun e w' =>
      (∃ er, e = .returned (.tuple #[.pointer none, .int .i64 er]) ∧ WErr F width bound er ∧ ∃ G', Many w0 p F n sz bl ws fs rs G' w' ∧ Turn G G' W w') ∨
      (∃ x t F' G', e = .returned (.tuple #[.pointer (some ⟨x, 0, none⟩), .int .i64 0]) ∧ (t.k : Int) = width ∧ (t.bound : Int) = bound ∧ t.l = [] ∧ (∀ v, Many w0 p F' n sz bl (ws ++ [⟨x, t, v, true⟩]) fs rs G' w') ∧ Turn G G' W w') := by
  refine (wok_write h.sys width bound h.bel).mono ?_
  rintro e w' (⟨er, he, hwe, G1, k1, k2, k3⟩ | ⟨x, t, S1, G1, he, hwa, hrm, htk, htb, hth, htl, htt, hq, k1, k2, k3, k4, k5, k6, k7⟩)
  · obtain ⟨b1, b2, b3, b4, b5⟩ := h.old (F' := F) (fs' := fs) k2 k3 rfl (fun _ _ h => h) (Stay.refl fs)
    exact .inl ⟨er, he, hwe, G1, ⟨k1, b1, b2, h.calm, h.size, h.blocks, h.range, h.used, b4, b5, h.fi, h.apw, h.apr, h.apx, h.ext, h.nofree⟩, b3⟩
  · have hS : ∀ b, hasB S1.fr b → hasB F.S.fr b ∧ ¬ (t.first ≤ b ∧ b < t.first + t.blocks) := fun b hb => by
      rcases htt with ⟨h0, _, rfl⟩ | ⟨_, h1, _⟩
      · exact ⟨hb, by omega⟩
      · exact (h1.has b).1 hb
    have hroom : ∀ b, t.first ≤ b → b < t.first + t.blocks → hasB F.S.fr b := fun b hb1 hb2 => by
      rcases htt with ⟨h0, _, _⟩ | ⟨_, h1, _⟩
      · omega
      · exact h1.room b hb1 hb2
    have hSr : S1.first = F.S.first ∧ S1.blocks = F.S.blocks := by
      rcases htt with ⟨_, _, rfl⟩ | ⟨_, h1, _⟩
      · exact ⟨rfl, rfl⟩
      · exact ⟨h1.first, h1.blocks⟩
    obtain ⟨b1, b2, b3, b4, b5⟩ := h.old (F' := { F with S := S1, A := grant F.A t.b F.D.size }) (fs' := fs) k3 k4 rfl (fun b m hm => wordsAt_append _ _ _ _ _ hm) (Stay.refl fs)
    have hin : ((t.first + t.blocks : Nat) : Int) ≤ F.D.blocks := by
      refine taken_range h.sys.sok htt ?_
      have := h.range; have := h.blocks
      omega
    refine .inr ⟨x, t, { F with S := S1, A := grant F.A t.b F.D.size }, G1, he, htk, htb, htl, fun v => ?_, b3⟩
    have hpin : ∀ o b, Pin (ws ++ [⟨x, t, v, true⟩]) fs o b → (o ≠ (true, ws.length) ∧ Pin ws fs o b) ∨ (o = (true, ws.length) ∧ t.first ≤ b ∧ b < t.first + t.blocks) := fun o b hp => by
      match o, hp with
      | (true, j), ⟨s', hj, h1, h2, h3⟩ =>
        rcases snoc_at hj with ⟨rfl, rfl⟩ | ⟨hlt, hj⟩
        · exact .inr ⟨rfl, h2, h3⟩
        · exact .inl ⟨(by simp; omega), s', hj, h1, h2, h3⟩
      | (false, j), ⟨f, hj, h1, h2, h3⟩ => exact .inl ⟨(by simp), f, hj, h1, h2, h3⟩
    refine ⟨k1, b1, b2, h.calm, h.size, h.blocks, by rw [hSr.1, hSr.2]; exact h.range, ?_, fun i s hi => ?_, b5, fun j f hj => (h.fi j f hj).same rfl, fun i j s s' hi hj hne => ?_, h.apr, fun i j s s' hi hj => ?_, fun o o' b h1 h2 => ?_, fun o b h1 hfree => ?_⟩
    · show F.A.used + F.D.size = _
      rw [List.map_append, cntT_append, h.used, h.size]
      show _ = (cntT (ws.map (·.o)) + 1 + cntT (rs.map (·.o))) * sz
      rw [Nat.add_right_comm, Nat.add_mul _ 1, Nat.one_mul]
    · rcases snoc_at hi with ⟨rfl, rfl⟩ | ⟨hlt, hi⟩
      · exact ⟨fun _ => ⟨k2, hin⟩, (fun e => by cases e), ⟨k2.new.1, k2.new.2.1⟩, k2.ok, by show t.h = holdsI F.D.size (t.k : Int); rw [htk]; exact hth, k2.fit⟩
      · exact b4 i s hi
    · rcases snoc_at hi with ⟨rfl, rfl⟩ | ⟨_, hi⟩
      · rcases snoc_at hj with ⟨rfl, rfl⟩ | ⟨_, hj⟩
        · exact absurd rfl hne
        · exact (h.wr _ _ hj).mem.fresh k5 k6 k7
      · rcases snoc_at hj with ⟨rfl, rfl⟩ | ⟨_, hj⟩
        · exact ((h.wr _ _ hi).mem.fresh k5 k6 k7).symm
        · exact h.apw _ _ _ _ hi hj hne
    · rcases snoc_at hi with ⟨rfl, rfl⟩ | ⟨_, hi⟩
      · exact (h.rd _ _ hj).mem.fresh k5 k6 k7
      · exact h.apx _ _ _ _ hi hj
    · rcases hpin o b h1 with ⟨_, p1⟩ | ⟨q1, r1, r2⟩
      · rcases hpin o' b h2 with ⟨_, p2⟩ | ⟨q2, r3, r4⟩
        · exact h.ext _ _ _ p1 p2
        · exact absurd (hroom b r3 r4) (h.nofree _ _ p1)
      · rcases hpin o' b h2 with ⟨_, p2⟩ | ⟨q2, r3, r4⟩
        · exact absurd (hroom b r1 r2) (h.nofree _ _ p2)
        · exact q1.trans q2.symm
    · rcases hpin o b h1 with ⟨_, p1⟩ | ⟨q1, r1, r2⟩
      · exact h.nofree _ _ p1 (hS b hfree).1
      · exact (hS b hfree).2 ⟨r1, r2⟩
/-- Read of a file that is not freed: no room, or a reader more -/
theorem many_read (h : Many w0 p F n sz bl ws fs rs G W) {j : Nat} {f : Pf} (hj : fs[j]? = some f) :
    Calls Try.prog 29 #[.pointer (some ⟨p.w, 0, none⟩), .agg #[.int .i64 f.first, .int .i64 f.nb, .int .i64 f.k, .int .i64 f.l.length]] W fun e w' =>
      (e = .returned (.tuple #[.pointer none, .int .i64 7]) ∧ Many w0 p F n sz bl ws fs rs G w' ∧ Below W.heap.size W w') ∨
      (∃ x r F' G', e = .returned (.tuple #[.pointer (some ⟨x, 0, none⟩), .int .i64 0]) ∧ r.pos = 0 ∧ Many w0 p F' n sz bl ws fs (rs ++ [⟨x, r, j, true⟩]) G' w' ∧ Turn G G' W w') := by
  have hfi := h.fi j f hj
  by_cases hroom : F.D.size ≤ F.A.room - F.A.used
  · refine (fread_ok h.sys f.k f.h f.first f.nb f.l.length hfi.hol hfi.h.1 hfi.nb.1 hfi.nb.2 hroom).mono ?_
    rintro e w' ⟨x, b, g, he, k1, k2, k3, G1, k4, ⟨wd, k5⟩, k6, k7, k8⟩
    have z := h.bel.size
    have hq : ∀ q ∈ F.A.st, q.1 ≠ b := fun q hq e => by
      have := (h.sys.buf hq).1.lt
      have k2' : W.heap.size ≤ b := k2
      omega
    obtain ⟨b1, b2, b3, b4, b5⟩ := h.old (F' := { F with A := grant F.A b F.D.size }) (fs' := fs) k7 k8 rfl (fun b m hm => wordsAt_append _ _ _ _ _ hm) (Stay.refl fs)
    refine .inr ⟨x, ⟨f.k, f.h, f.first, f.nb, f.l.length, 0, b, g⟩, { F with A := grant F.A b F.D.size }, G1, he, rfl, ?_, b3⟩
    refine ⟨k4, b1, b2, h.calm, h.size, h.blocks, h.range, ?_, b4, fun i s hi => ?_, fun j f hj => (h.fi j f hj).same rfl, h.apw, fun i j s s' hi hj hne => ?_, fun i j s s' hi hj => ?_, h.ext, h.nofree⟩
    · show F.A.used + F.D.size = _
      rw [List.map_append, cntT_append, h.used, h.size]
      show _ = (cntT (ws.map (·.o)) + (cntT (rs.map (·.o)) + 1)) * sz
      rw [← Nat.add_assoc, Nat.add_mul _ 1, Nat.one_mul]
    · rcases snoc_at hi with ⟨rfl, rfl⟩ | ⟨hlt, hi⟩
      · exact ⟨fun _ => ⟨wd, k5, k6, wordsAt_new _ _ _ hq, Nat.le_trans z k3, f, hj, rfl, rfl, rfl, rfl, rfl, fun hne => absurd (Nat.zero_mod _) hne⟩, (fun e => by cases e), ⟨Nat.le_trans z k1, Nat.le_trans z k2⟩, ⟨hfi.k, hfi.h, h.sys.size, ⟨hfi.nb.2, Nat.zero_le _⟩, hfi.first⟩, f, hj⟩
      · exact b5 i s hi
    · rcases snoc_at hi with ⟨rfl, rfl⟩ | ⟨_, hi⟩
      · rcases snoc_at hj with ⟨rfl, rfl⟩ | ⟨_, hj⟩
        · exact absurd rfl hne
        · exact (h.rd _ _ hj).mem.fresh k1 k2 k3
      · rcases snoc_at hj with ⟨rfl, rfl⟩ | ⟨_, hj⟩
        · exact ((h.rd _ _ hi).mem.fresh k1 k2 k3).symm
        · exact h.apr _ _ _ _ hi hj hne
    · rcases snoc_at hj with ⟨rfl, rfl⟩ | ⟨_, hj⟩
      · exact ((h.wr _ _ hi).mem.fresh k1 k2 k3).symm
      · exact h.apx _ _ _ _ hi hj
  · exact (fread_room h.sys f.k f.h f.first f.nb f.l.length hfi.hol hfi.h.1 hfi.nb.1 hfi.nb.2 (by omega)).mono fun _ _ ⟨h1, h2⟩ => .inl ⟨h1, h.below h2, h2⟩
/-- Free of a file that is not freed -/
theorem many_free (h : Many w0 p F n sz bl ws fs rs G W) {j : Nat} {f : Pf} (hj : fs[j]? = some f) (hfr : f.freed = false) :
    Calls Try.prog 22 #[.pointer (some ⟨p.w, 0, none⟩), .agg #[.int .i64 f.first, .int .i64 f.nb, .int .i64 f.k, .int .i64 f.l.length]] W fun e w' => e = .returned (.int .i64 0) ∧ ∃ F' G', Many w0 p F' n sz bl ws (fs.set j { f with freed := true }) rs G' w' ∧ Turn G G' W w' := by
  have hfi := h.fi j f hj
  obtain ⟨hsd, hin⟩ := hfi.stand hfr
  have hr := h.range
  have hbl := h.blocks
  have hnb := hfi.nb
  have hmx : f.nb ≤ 100000000 := by rw [hnb.1]; exact Nat.le_trans (blocks_le _ _) hnb.2
  have hno : ∀ b, f.first ≤ b → b < f.first + f.nb → ¬ hasB F.S.fr b := fun b h1 h2 => h.nofree (false, j) b ⟨f, hj, hfr, h1, h2⟩
  have hcode : (if f.nb = 0 then 0 else (giveS F.S f.first f.nb).2) = 0 := by
    split
    · rfl
    · rcases giveS_spec h.sys.sok (f.first : Int) (f.nb : Int) with ⟨s', a', m', e1, e2, h3, e3, hg⟩ | ⟨e3, hbad⟩
      · rw [e3]
      · exact absurd ⟨by omega, by omega, hno⟩ (hbad f.first f.nb rfl rfl (by omega))
  have hc := ffree_any h.sys f.first f.nb f.k f.l.length (Nat.le_trans hfi.first (by decide)) hmx
  rw [hcode] at hc
  refine hc.mono ?_
  rintro e w' ⟨he, G1, k1, k2, k3⟩
  have hstay : Stay fs (fs.set j { f with freed := true }) := fun i g hi => by
    by_cases e : i = j
    · subst e
      rw [hj] at hi; injection hi with hi; subst hi
      exact ⟨_, set_on hj, rfl, rfl, rfl, rfl, rfl⟩
    · exact ⟨g, by rw [List.getElem?_set, if_neg fun h => e h.symm]; exact hi, rfl, rfl, rfl, rfl, rfl⟩
  obtain ⟨b1, b2, b3, b4, b5⟩ := h.old (F' := { F with S := giveN F.S f.first f.nb }) k2 k3 rfl (fun _ _ h => h) hstay
  have hpin : ∀ o b, Pin ws (fs.set j { f with freed := true }) o b → o ≠ (false, j) ∧ Pin ws fs o b := fun o b hp => by
    match o, hp with
    | (true, i), ⟨s', hi, h1, h2, h3⟩ => exact ⟨(by simp), s', hi, h1, h2, h3⟩
    | (false, i), ⟨g, hi, h1, h2, h3⟩ =>
      rcases set_at hi with ⟨rfl, rfl⟩ | ⟨hne, hi⟩
      · cases h1
      · exact ⟨fun e => hne (congrArg Prod.snd e), g, hi, h1, h2, h3⟩
  have hgr := giveN_range h.sys.sok f.first f.nb
  refine ⟨he, { F with S := giveN F.S f.first f.nb }, G1, ⟨k1, b1, b2, h.calm, h.size, h.blocks, by rw [hgr.1, hgr.2]; exact h.range, h.used, b4, b5, fun i g hi => ?_, h.apw, h.apr, h.apx, fun o o' b h1 h2 => h.ext _ _ _ (hpin o b h1).2 (hpin o' b h2).2, fun o b h1 hfree => ?_⟩, b3⟩
  · rcases set_at hi with ⟨rfl, rfl⟩ | ⟨_, hi⟩
    · exact ⟨hfi.k, hfi.h, hfi.hol, hfi.nb, hfi.first, hfi.fit, (fun e => by cases e)⟩
    · exact (h.fi i g hi).same rfl
  · rcases giveN_has h.sys.sok _ _ _ hfree with hb | ⟨hb1, hb2⟩
    · exact h.nofree _ _ (hpin o b h1).2 hb
    · exact (hpin o b h1).1 (h.ext _ _ _ (hpin o b h1).2 ⟨f, hj, hfr, hb1, hb2⟩)
end
end Go.Proofs.Ytbkgpilmgllkiaa

namespace Go.Proofs.Ytbkgpilmgllkiaa
open Go.ChangeShapes Go.WideShapes Go.ChangeAt Go.RowKit

/-- the fields' element types, and how many cells an element has -/
def stT : Nat → TypeId
  | 0 => 80 | 1 => 24 | 2 => 3 | 3 => 3 | 4 => 4 | 5 => 30 | 6 => 24 | 7 => 4 | 8 => 72 | 9 => 3 | 10 => 3 | _ => 4
def stS : Nat → Nat
  | 5 => 4
  | _ => 1
def stC (p : Wp) (V : Nat → Value) : List Value := [.pointer (some ⟨p.w, 0, none⟩), V 0, V 1, V 2, V 3, V 4, V 5, V 6, V 7, V 8, V 9, V 10, V 11]
theorem stT_off : ∀ i, stT i ≠ 58 ∧ stT i ≠ 56 ∧ (stT i ≠ 136 ∧ stT i ≠ 126 ∧ stT i ≠ 130 ∧ stT i ≠ 69)
  | 0 => by decide
  | 1 => by decide
  | 2 => by decide
  | 3 => by decide
  | 4 => by decide
  | 5 => by decide
  | 6 => by decide
  | 7 => by decide
  | 8 => by decide
  | 9 => by decide
  | 10 => by decide
  | n + 11 => by show 4 ≠ _ ∧ 4 ≠ _ ∧ (4 ≠ _ ∧ 4 ≠ _ ∧ 4 ≠ _ ∧ 4 ≠ _); decide
theorem stown_row {w : World} {base s n : Nat} {e : TypeId} {v : Value} {xs : List Value} (h : w.ownsRow base e s v n xs) {q : Nat} (hq : v.ownBlock = some q) : (∃ cs, Row w q e cs) ∧ base ≤ q ∧ q < w.heap.size := by
  rcases h.2 with ⟨rfl, _⟩ | ⟨g, cap, cur, rfl, hb, hg, _⟩
  · cases hq
  · injection hq with hq
    subst hq
    have hr : Row w g e cur.toList := by
      show w.heap[g]? = _
      rw [hg]
    exact ⟨⟨_, hr⟩, hb, hr.lt⟩
/-- the state: N and X are what each field holds, P the lists of what was put -/
structure StB (w0 W : World) (G : Nat → Prop) (p : Wp) (sb : Nat) (V : Nat → Value) (N : Nat → Nat) (X : Nat → List Value) (P : List (Value × List Tup)) : Prop where
  row : Row W sb 56 (stC p V)
  sb : ¬ G sb ∧ w0.heap.size ≤ sb
  own : ∀ i, i < 12 → W.ownsRow w0.heap.size (stT i) (stS i) (V i) (N i) (X i) ∧ ∀ q, (V i).ownBlock = some q → ¬ G q
  own2 : ∀ i j, i < 12 → j < 12 → i ≠ j → ∀ q, (V i).ownBlock = some q → (V j).ownBlock ≠ some q
  puts : ∀ (k : Nat) (y : Value × List Tup), P[k]? = some y → W.ownsRow w0.heap.size 58 5 y.1 y.2.length (flatV y.2) ∧ ∀ q, y.1.ownBlock = some q → ¬ G q
  puts2 : ∀ (k j : Nat) (y z : Value × List Tup), P[k]? = some y → P[j]? = some z → k ≠ j → ∀ q, y.1.ownBlock = some q → z.1.ownBlock ≠ some q
/-- blocks of the state's own -/
def Mine (w0 W : World) (G : Nat → Prop) (k : Nat) : Prop := ¬ G k ∧ ¬ Typed W k ∧ w0.heap.size ≤ k
section
variable {w0 W W' : World} {G G' : Nat → Prop} {p : Wp} {sb : Nat} {V : Nat → Value} {N : Nat → Nat} {X : Nat → List Value} {P : List (Value × List Tup)}
theorem StB.sbMine (h : StB w0 W G p sb V N X P) : Mine w0 W G sb := ⟨h.sb.1, fun ht => ht.not h.row (by decide), h.sb.2⟩
theorem StB.ownMine (h : StB w0 W G p sb V N X P) {i q : Nat} (hi : i < 12) (hq : (V i).ownBlock = some q) : Mine w0 W G q := by
  obtain ⟨ho, hg⟩ := h.own i hi
  obtain ⟨⟨cs, hr⟩, hb, _⟩ := stown_row ho hq
  exact ⟨hg q hq, fun ht => ht.not hr (stT_off i).2.2, hb⟩
theorem StB.putMine (h : StB w0 W G p sb V N X P) {k q : Nat} {y : Value × List Tup} (hk : P[k]? = some y) (hq : y.1.ownBlock = some q) : Mine w0 W G q := by
  obtain ⟨ho, hg⟩ := h.puts k y hk
  obtain ⟨⟨cs, hr⟩, hb, _⟩ := stown_row ho hq
  exact ⟨hg q hq, fun ht => ht.not hr (by decide), hb⟩
/-- blocks of other fields are others -/
theorem StB.sb_own (h : StB w0 W G p sb V N X P) {i : Nat} (hi : i < 12) : (V i).ownBlock ≠ some sb := fun hq => by
  obtain ⟨⟨cs, hr⟩, _⟩ := stown_row (h.own i hi).1 hq
  exact (stT_off i).2.1 (hr.typed h.row)
theorem StB.sb_put (h : StB w0 W G p sb V N X P) {k : Nat} {y : Value × List Tup} (hk : P[k]? = some y) : y.1.ownBlock ≠ some sb := fun hq => by
  obtain ⟨⟨cs, hr⟩, _⟩ := stown_row (h.puts k y hk).1 hq
  exact absurd (hr.typed h.row) (by decide)
theorem StB.own_put (h : StB w0 W G p sb V N X P) {i k q : Nat} (hi : i < 12) {y : Value × List Tup} (hk : P[k]? = some y) (hq : (V i).ownBlock = some q) : y.1.ownBlock ≠ some q := fun hq' => by
  obtain ⟨⟨cs, hr⟩, _⟩ := stown_row (h.puts k y hk).1 hq'
  obtain ⟨⟨cs', hr'⟩, _⟩ := stown_row (h.own i hi).1 hq
  exact (stT_off i).1 (hr'.typed hr)
/-- what a call at the work leaves -/
theorem StB.keep (h : StB w0 W G p sb V N X P) {R : Nat → Prop} (hf : Far R W W') (hR : ∀ k, Mine w0 W G k → ¬ R k) (hG : ∀ k, G' k → G k ∨ W.heap.size ≤ k) : StB w0 W' G' p sb V N X P := by
  have hn : ∀ {k : Nat}, k < W.heap.size → ¬ G k → ¬ G' k := fun hk hg hg' => (hG _ hg').elim hg (Nat.not_le_of_lt hk)
  refine ⟨hf.row h.row (hR _ h.sbMine), ⟨hn h.row.lt h.sb.1, h.sb.2⟩, fun i hi => ?_, h.own2, fun k y hk => ?_, h.puts2⟩
  · obtain ⟨ho, hg⟩ := h.own i hi
    exact ⟨ownsRow_same ho fun q hq => hf.block q (stown_row ho hq).2.2 (hR _ (h.ownMine hi hq)), fun q hq => hn (stown_row ho hq).2.2 (hg q hq)⟩
  · obtain ⟨ho, hg⟩ := h.puts k y hk
    exact ⟨ownsRow_same ho fun q hq => hf.block q (stown_row ho hq).2.2 (hR _ (h.putMine hk hq)), fun q hq => hn (stown_row ho hq).2.2 (hg q hq)⟩
theorem StB.turn (h : StB w0 W G p sb V N X P) (ht : Turn G G' W W') : StB w0 W' G' p sb V N X P := h.keep ht.1 (fun _ hk hr => hr.elim hk.1 hk.2.1) ht.2
theorem StB.below (h : StB w0 W G p sb V N X P) (hb : Below W.heap.size W W') : StB w0 W' G p sb V N X P := h.keep (Far.of_below hb fun _ => False) (fun _ _ hr => hr) fun _ hk => .inl hk
/-- a field's row has grown: behind the store of its slice -/
theorem StB.push (h : StB w0 W G p sb V N X P) {i : Nat} (hi : i < 12) {v' : Value} {n' : Nat} {xs' : List Value} (ho : W'.ownsRow w0.heap.size (stT i) (stS i) v' n' xs') (hf : Far (fun k => (V i).ownBlock = some k) W W') (hv : v'.ownBlock = (V i).ownBlock ∨ v'.ownBlock = some W.heap.size) (hW : ∀ k, G k → k < W.heap.size) :
    StB w0 (W'.setCell ⟨sb, i + 1, none⟩ v') G p sb (fun k => if k = i then v' else V k) (fun k => if k = i then n' else N k) (fun k => if k = i then xs' else X k) P ∧
      Far (fun k => (V i).ownBlock = some k ∨ k = sb) W (W'.setCell ⟨sb, i + 1, none⟩ v') := by
  have hfp : Far (fun k => k = sb) W' (W'.setCell ⟨sb, i + 1, none⟩ v') := (Far.refl (fun k => k = sb) W').set (p := ⟨sb, i + 1, none⟩) (.inl rfl) v'
  have hfar : Far (fun k => (V i).ownBlock = some k ∨ k = sb) W (W'.setCell ⟨sb, i + 1, none⟩ v') := (hf.mono fun k hk => .inl hk).trans hfp fun k hk => .inl (.inr hk)
  have hrow' : Row W' sb 56 (stC p V) := hf.row h.row (h.sb_own hi)
  have hnew : ∀ q, v'.ownBlock = some q → (V i).ownBlock = some q ∨ q = W.heap.size := fun q hq => by
    rcases hv with h1 | h1
    · exact .inl (h1 ▸ hq)
    · rw [h1] at hq; injection hq with hq; exact .inr hq.symm
  refine ⟨⟨?_, h.sb, fun j hj => ?_, fun j k hj hk hne q hq hq' => ?_, fun k y hk => ?_, h.puts2⟩, hfar⟩
  · have hr := hrow'.set (i + 1) v'
    match i, hi with
    | 0, _ => exact hr
    | 1, _ => exact hr
    | 2, _ => exact hr
    | 3, _ => exact hr
    | 4, _ => exact hr
    | 5, _ => exact hr
    | 6, _ => exact hr
    | 7, _ => exact hr
    | 8, _ => exact hr
    | 9, _ => exact hr
    | 10, _ => exact hr
    | 11, _ => exact hr
  · by_cases e : j = i
    · subst e
      simp only [if_true]
      refine ⟨ownsRow_same ho fun q hq => hfp.block q (stown_row ho hq).2.2 fun e => ?_, fun q hq => ?_⟩
      · obtain ⟨⟨cs, hr⟩, _⟩ := stown_row ho hq
        exact (stT_off j).2.1 (hr.typed (e ▸ hrow'))
      · rcases hnew q hq with h1 | h1
        · exact (h.own j hi).2 q h1
        · rw [h1]; exact fun hg => Nat.lt_irrefl _ (hW _ hg)
    · simp only [if_neg e]
      obtain ⟨hoj, hg⟩ := h.own j hj
      exact ⟨ownsRow_same hoj fun q hq => hfar.block q (stown_row hoj hq).2.2 fun hk => hk.elim (h.own2 j i hj hi e q hq) fun e => h.sb_own hj (e ▸ hq), hg⟩
  · by_cases e : j = i
    · subst e
      simp only [if_true] at hq
      simp only [if_neg (fun e : k = j => hne e.symm)] at hq'
      rcases hnew q hq with h1 | h1
      · exact h.own2 j k hj hk hne q h1 hq'
      · have := (stown_row (h.own k hk).1 hq').2.2; omega
    · simp only [if_neg e] at hq
      by_cases e2 : k = i
      · subst e2
        simp only [if_true] at hq'
        rcases hnew q hq' with h1 | h1
        · exact h.own2 j k hj hk hne q hq h1
        · have := (stown_row (h.own j hj).1 hq).2.2; omega
      · simp only [if_neg e2] at hq'
        exact h.own2 j k hj hk hne q hq hq'
  · obtain ⟨hop, hg⟩ := h.puts k y hk
    exact ⟨ownsRow_same hop fun q hq => hfar.block q (stown_row hop hq).2.2 fun hk' => hk'.elim (fun e => h.own_put hi hk e hq) fun e => h.sb_put hk (e ▸ hq), hg⟩
/-- a cell of a field's row is another one -/
theorem StB.store (h : StB w0 W G p sb V N X P) {i j g n c : Nat} (hi : i < 12) (hV : V i = .slice (some ⟨g, 0, none⟩) n c) (hN : N i = n) (u : Value) :
    StB w0 (W.setCell ⟨g, j, none⟩ u) G p sb V N (fun k => if k = i then (X i).set j u else X k) P ∧ Far (fun k => k = g) W (W.setCell ⟨g, j, none⟩ u) ∧ Mine w0 W G g := by
  have hq0 : (V i).ownBlock = some g := by rw [hV]; rfl
  have hf : Far (fun k => k = g) W (W.setCell ⟨g, j, none⟩ u) := (Far.refl (fun k => k = g) W).set (p := ⟨g, j, none⟩) (.inl rfl) u
  refine ⟨⟨hf.row h.row fun e => h.sb_own hi (e ▸ hq0), h.sb, fun k hk => ?_, h.own2, fun k y hk => ?_, h.puts2⟩, hf, h.ownMine hi hq0⟩
  · by_cases e : k = i
    · subst e
      simp only [if_true]
      obtain ⟨ho, hg⟩ := h.own k hi
      rw [hV, hN] at ho
      refine ⟨?_, hg⟩
      rw [hV, hN]
      exact (World.ownsRow.stored ho j u).1
    · simp only [if_neg e]
      obtain ⟨ho, hg⟩ := h.own k hk
      exact ⟨ownsRow_same ho fun q hq => hf.block q (stown_row ho hq).2.2 fun e' => h.own2 k i hk hi e q hq (e' ▸ hq0), hg⟩
  · obtain ⟨hop, hg⟩ := h.puts k y hk
    exact ⟨ownsRow_same hop fun q hq => hf.block q (stown_row hop hq).2.2 fun e => h.own_put hi hk hq0 (e ▸ hq), hg⟩
/-- a list of what was put has grown: behind the store of its slice -/
theorem StB.pusht (h : StB w0 W G p sb V N X P) {k : Nat} {y : Value × List Tup} (hk : P[k]? = some y) {v' : Value} {t : Tup} (ho : W'.ownsRow w0.heap.size 58 5 v' (y.2.length + 1) (flatV (y.2 ++ [t]))) (hf : Far (fun q => y.1.ownBlock = some q) W W') (hv : v'.ownBlock = y.1.ownBlock ∨ v'.ownBlock = some W.heap.size) (hW : ∀ k, G k → k < W.heap.size)
    {g n c : Nat} (hV : V 1 = .slice (some ⟨g, 0, none⟩) n c) (hN : N 1 = n) :
    StB w0 (W'.setCell ⟨g, k, none⟩ v') G p sb V N (fun i => if i = 1 then (X 1).set k v' else X i) (P.set k (v', y.2 ++ [t])) ∧ Far (fun q => y.1.ownBlock = some q ∨ q = g) W (W'.setCell ⟨g, k, none⟩ v') ∧ Mine w0 W G g := by
  have hq0 : (V 1).ownBlock = some g := by rw [hV]; rfl
  have hfp : Far (fun q => q = g) W' (W'.setCell ⟨g, k, none⟩ v') := (Far.refl (fun q => q = g) W').set (p := ⟨g, k, none⟩) (.inl rfl) v'
  have hfar : Far (fun q => y.1.ownBlock = some q ∨ q = g) W (W'.setCell ⟨g, k, none⟩ v') := (hf.mono fun q hq => .inl hq).trans hfp fun q hq => .inl (.inr hq)
  have hnew : ∀ q, v'.ownBlock = some q → y.1.ownBlock = some q ∨ q = W.heap.size := fun q hq => by
    rcases hv with h1 | h1
    · exact .inl (h1 ▸ hq)
    · rw [h1] at hq; injection hq with hq; exact .inr hq.symm
  obtain ⟨ho1, hg1⟩ := h.own 1 (by omega)
  have ho1' : W'.ownsRow w0.heap.size (stT 1) (stS 1) (V 1) (N 1) (X 1) := ownsRow_same ho1 fun q hq => hf.block q (stown_row ho1 hq).2.2 fun e => h.own_put (by omega) hk hq e
  refine ⟨⟨?_, h.sb, fun i hi => ?_, h.own2, fun j z hj => ?_, fun j i z u hj hi hne q hq hq' => ?_⟩, hfar, h.ownMine (by omega) hq0⟩
  · exact hfar.row h.row fun e => e.elim (fun e => h.sb_put hk e) fun e => h.sb_own (i := 1) (by omega) (e ▸ hq0)
  · by_cases e : i = 1
    · subst e
      simp only [if_true]
      rw [hV, hN] at ho1'
      refine ⟨?_, hg1⟩
      rw [hV, hN]
      exact (World.ownsRow.stored ho1' k v').1
    · simp only [if_neg e]
      obtain ⟨hoi, hg⟩ := h.own i hi
      exact ⟨ownsRow_same hoi fun q hq => hfar.block q (stown_row hoi hq).2.2 fun e' => e'.elim (fun e' => h.own_put hi hk hq e') fun e' => h.own2 i 1 hi (by omega) e q hq (e' ▸ hq0), hg⟩
  · rcases set_at hj with ⟨rfl, rfl⟩ | ⟨hne, hj⟩
    · simp only
      rw [List.length_append, List.length_singleton]
      refine ⟨ownsRow_same ho fun q hq => hfp.block q (stown_row ho hq).2.2 fun e => ?_, fun q hq => ?_⟩
      · obtain ⟨⟨cs, hr⟩, _⟩ := stown_row ho hq
        obtain ⟨⟨cs', hr'⟩, _⟩ := stown_row ho1' hq0
        exact absurd (hr.typed (e ▸ hr')) (by decide)
      · rcases hnew q hq with h1 | h1
        · exact (h.puts _ y hk).2 q h1
        · rw [h1]; exact fun hg => Nat.lt_irrefl _ (hW _ hg)
    · obtain ⟨hoz, hg⟩ := h.puts j z hj
      refine ⟨ownsRow_same hoz fun q hq => hfar.block q (stown_row hoz hq).2.2 ?_, hg⟩
      rintro (e | e)
      · exact h.puts2 j k z y hj hk hne q hq e
      · exact h.own_put (i := 1) (by omega) hj (e ▸ hq0) hq
  · rcases set_at hj with ⟨rfl, rfl⟩ | ⟨hne1, hj⟩
    · rcases set_at hi with ⟨rfl, rfl⟩ | ⟨hne2, hi⟩
      · exact hne rfl
      · rcases hnew q hq with h1 | h1
        · exact h.puts2 _ i y u hk hi hne q h1 hq'
        · have := (stown_row (h.puts i u hi).1 hq').2.2; omega
    · rcases set_at hi with ⟨rfl, rfl⟩ | ⟨hne2, hi⟩
      · rcases hnew q hq' with h1 | h1
        · exact h.puts2 j _ z y hj hk hne q hq h1
        · have := (stown_row (h.puts j z hj).1 hq).2.2; omega
      · exact h.puts2 j i z u hj hi hne q hq hq'
/-- an empty list more -/
theorem StB.newp (h : StB w0 W G p sb V N X P) : StB w0 W G p sb V N X (P ++ [(.slice none 0 0, [])]) := by
  refine ⟨h.row, h.sb, h.own, h.own2, fun j z hj => ?_, fun j i z u hj hi hne q hq hq' => ?_⟩
  · rcases snoc_at hj with ⟨rfl, rfl⟩ | ⟨_, hj⟩
    · exact ⟨ownT_nil W w0.heap.size 58, fun q hq => by cases hq⟩
    · exact h.puts j z hj
  · rcases snoc_at hj with ⟨rfl, rfl⟩ | ⟨_, hj⟩
    · cases hq
    · rcases snoc_at hi with ⟨rfl, rfl⟩ | ⟨_, hi⟩
      · cases hq'
      · exact h.puts2 j i z u hj hi hne q hq hq'
theorem StB.congr (h : StB w0 W G p sb V N X P) {N' : Nat → Nat} {X' : Nat → List Value} {P' : List (Value × List Tup)} (hN : ∀ i, i < 12 → N i = N' i) (hX : ∀ i, i < 12 → X i = X' i) (hP : P = P') : StB w0 W G p sb V N' X' P' := by
  subst hP
  refine ⟨h.row, h.sb, fun i hi => ?_, h.own2, h.puts, h.puts2⟩
  rw [← hN i hi, ← hX i hi]
  exact h.own i hi
end
def fiC (f : Pf) : List Value := [.int .i64 f.first, .int .i64 f.nb, .int .i64 f.k, .int .i64 f.l.length]
/-- what the fields hold, of these writers, files and readers -/
def stN (ws : List Pw) (fs : List Pf) (rs : List Pr) : Nat → Nat
  | 0 => ws.length | 1 => ws.length | 2 => ws.length | 3 => ws.length | 4 => ws.length
  | 5 => fs.length | 6 => fs.length | 7 => fs.length
  | _ => rs.length
def stX (ws : List Pw) (fs : List Pf) (rs : List Pr) : Nat → List Value
  | 0 => ws.map fun s => .pointer (some ⟨s.x, 0, none⟩)
  | 1 => ws.map (·.v)
  | 2 => ws.map fun s => .int .i64 s.t.k
  | 3 => ws.map fun s => .int .i64 s.t.bound
  | 4 => ws.map fun s => .bool s.o
  | 5 => fs.flatMap fiC
  | 6 => fs.map (·.v)
  | 7 => fs.map fun f => .bool f.freed
  | 8 => rs.map fun s => .pointer (some ⟨s.x, 0, none⟩)
  | 9 => rs.map fun s => .int .i64 s.j
  | 10 => rs.map fun s => .int .i64 s.r.pos
  | _ => rs.map fun s => .bool s.o
def stP (ws : List Pw) : List (Value × List Tup) := ws.map fun s => (s.v, s.t.l)
/-- each file's list is the one of a writer that is closed -/
def Kept2 (ws : List Pw) (fs : List Pf) : Prop := ∀ (j : Nat) (f : Pf), fs[j]? = some f → ∃ (k : Nat) (s : Pw), ws[k]? = some s ∧ s.o = false ∧ s.v = f.v ∧ s.t.l = f.l
/-- all that stands between two acts -/
structure Play (w0 : World) (p : Wp) (sb n sz : Nat) (bl : Int) (ws : List Pw) (fs : List Pf) (rs : List Pr) (W : World) : Prop where
  all : ∃ F G V, Many w0 p F n sz bl ws fs rs G W ∧ StB w0 W G p sb V (stN ws fs rs) (stX ws fs rs) (stP ws)
  kept : Kept2 ws fs
end Go.Proofs.Ytbkgpilmgllkiaa

namespace Go.Proofs.Ytbkgpilmgllkiaa
open Go.ChangeShapes Go.WideShapes Go.ChangeAt Go.RowKit

section
variable {w0 W W' : World} {G G' : Nat → Prop} {p : Wp} {sb n sz : Nat} {bl : Int} {V : Nat → Value} {N : Nat → Nat} {X : Nat → List Value} {P : List (Value × List Tup)} {ws : List Pw} {fs : List Pf} {rs : List Pr}
/-- a field's slice -/
theorem StB.form (h : StB w0 W G p sb V N X P) {i : Nat} (hi : i < 12) : ∃ A c, V i = .slice A (N i) c ∧ N i ≤ c ∧ c ≤ maxLen ∧ (0 < N i → ∃ g, A = some ⟨g, 0, none⟩ ∧ Mine w0 W G g ∧ g < W.heap.size ∧ ∀ j, j < N i * stS i → W.cell? ⟨g, j, none⟩ = (X i)[j]?) := by
  obtain ⟨ho, _⟩ := h.own i hi
  rcases Nat.eq_zero_or_pos (N i) with h0 | h0
  · rcases ho.2 with ⟨hv, hn⟩ | ⟨g, cap, cur, hv, _, _, hc, hm, _⟩
    · exact ⟨none, 0, by rw [hv, hn], by omega, by unfold maxLen; omega, fun h => by omega⟩
    · exact ⟨some ⟨g, 0, none⟩, cap, hv, hc, hm, fun h => by omega⟩
  · rcases ho.2 with ⟨hv, hn⟩ | ⟨g, cap, cur, hv, _, hg, hc, hm, _⟩
    · omega
    · refine ⟨some ⟨g, 0, none⟩, cap, hv, hc, hm, fun _ => ⟨g, rfl, h.ownMine hi (by rw [hv]; rfl), ?_, fun j hj => ?_⟩⟩
      · exact (stown_row ho (q := g) (by rw [hv]; rfl)).2.2
      · rw [hv] at ho
        exact World.ownsRow.cellAt ho j hj
theorem Play.below (h : Play w0 p sb n sz bl ws fs rs W) (hb : Below W.heap.size W W') : Play w0 p sb n sz bl ws fs rs W' := by
  obtain ⟨⟨F, G, V, h1, h2⟩, h3⟩ := h
  exact ⟨⟨F, G, V, h1.below hb, h2.below hb⟩, h3⟩
/-- what an act leaves -/
def After (w0 : World) (p : Wp) (sb n sz : Nat) (bl : Int) (ws : List Pw) (fs : List Pf) (rs : List Pr) (W : World) : Prop :=
  ∃ n' ws' fs' rs', n' ≤ n + 1 ∧ ws'.length ≤ ws.length + 1 ∧ fs'.length ≤ fs.length + 1 ∧ rs'.length ≤ rs.length + 1 ∧ Play w0 p sb n' sz bl ws' fs' rs' W
theorem Play.after (h : Play w0 p sb n sz bl ws fs rs W) : After w0 p sb n sz bl ws fs rs W := ⟨n, ws, fs, rs, by omega, by omega, by omega, by omega, h⟩
theorem stP_drop {i : Nat} {s : Pw} (hi : ws[i]? = some s) : stP (ws.set i { s with o := false }) = stP ws := by
  unfold stP
  rw [List.map_set]
  obtain ⟨hlt, e⟩ := List.getElem?_eq_some_iff.1 hi
  refine List.ext_getElem? fun j => ?_
  rw [List.getElem?_set]
  split
  · rename_i h1; subst h1
    rw [List.getElem?_map, hi]
    rw [if_pos (by rw [List.length_map]; exact hlt)]
    rfl
  · rfl
theorem map_set_same {α : Type} (f : Pw → α) {i : Nat} {s s' : Pw} (hi : ws[i]? = some s) (hf : f s' = f s) : (ws.set i s').map f = ws.map f := by
  obtain ⟨hlt, e⟩ := List.getElem?_eq_some_iff.1 hi
  rw [List.map_set, hf]
  refine List.ext_getElem? fun j => ?_
  rw [List.getElem?_set]
  split
  · rename_i h1; subst h1
    rw [List.getElem?_map, hi, if_pos (by rw [List.length_map]; exact hlt)]
    rfl
  · rfl
/-- 's.open[i] = false', behind the call that closes -/
theorem Play.shutW {F : Fs} {i : Nat} {s : Pw} (hm : Many w0 p F n sz bl (ws.set i { s with o := false }) fs rs G W) (hb : StB w0 W G p sb V (stN ws fs rs) (stX ws fs rs) (stP ws)) (hk : Kept2 ws fs) (hi : ws[i]? = some s) {g c : Nat} (hV : V 4 = .slice (some ⟨g, 0, none⟩) ws.length c) :
    Play w0 p sb n sz bl (ws.set i { s with o := false }) fs rs (W.setCell ⟨g, i, none⟩ (.bool false)) := by
  obtain ⟨k1, k2, k3⟩ := hb.store (i := 4) (j := i) (by omega) hV rfl (.bool false)
  refine ⟨⟨F, G, V, hm.mine k2 (fun k hk => by rw [hk]; exact k3), k1.congr (fun q hq => ?_) (fun q hq => ?_) (stP_drop hi).symm⟩, fun j f hj => ?_⟩
  · match q, hq with
    | 0, _ => simp [stN]
    | 1, _ => simp [stN]
    | 2, _ => simp [stN]
    | 3, _ => simp [stN]
    | 4, _ => simp [stN]
    | 5, _ => rfl
    | 6, _ => rfl
    | 7, _ => rfl
    | q + 8, _ => rfl
  · match q, hq with
    | 0, _ => exact (map_set_same (s' := { s with o := false }) (fun s => Value.pointer (some ⟨s.x, 0, none⟩)) hi rfl).symm
    | 1, _ => exact (map_set_same (s' := { s with o := false }) (fun s => s.v) hi rfl).symm
    | 2, _ => exact (map_set_same (s' := { s with o := false }) (fun s => Value.int .i64 s.t.k) hi rfl).symm
    | 3, _ => exact (map_set_same (s' := { s with o := false }) (fun s => Value.int .i64 s.t.bound) hi rfl).symm
    | 4, _ => exact (List.map_set (f := fun s : Pw => Value.bool s.o) (l := ws) (i := i) (a := { s with o := false })).symm
    | 5, _ => rfl
    | 6, _ => rfl
    | 7, _ => rfl
    | 8, _ => rfl
    | 9, _ => rfl
    | 10, _ => rfl
    | q + 11, _ => rfl
  · obtain ⟨k, s', e1, e2, e3, e4⟩ := hk j f hj
    by_cases e : k = i
    · subst e
      rw [hi] at e1; injection e1 with e1; subst e1
      exact ⟨k, _, set_on hi, rfl, e3, e4⟩
    · exact ⟨k, s', by rw [List.getElem?_set, if_neg fun h => e h.symm]; exact e1, e2, e3, e4⟩
end
end Go.Proofs.Ytbkgpilmgllkiaa

namespace Go.Proofs.Ytbkgpilmgllkiaa
open Go.ChangeShapes Go.WideShapes Go.ChangeAt Go.RowKit

section
variable {w0 W W' : World} {G G' : Nat → Prop} {p : Wp} {sb n sz : Nat} {bl : Int} {V : Nat → Value} {N : Nat → Nat} {X : Nat → List Value} {P : List (Value × List Tup)} {ws : List Pw} {fs : List Pf} {rs : List Pr}
set_option maxHeartbeats 2000000 in
set_option maxRecDepth 100000 in
/-- 4: a writer is dropped -/
theorem stwrite_4 (h : Play w0 p sb n sz bl ws fs rs W) (k wd bd a b c d e0 : Int) (hk : I64 k) (hn : ws.length ≤ 1000) :
    Calls Try.prog 23 #[.pointer (some ⟨sb, 0, none⟩), .agg #[.int .i64 4, .int .i64 k, .int .i64 wd, .int .i64 bd, .int .i64 a, .int .i64 b, .int .i64 c, .int .i64 d, .int .i64 e0], .int .i64 sz] W fun e w' => e = .returned (.bool true) ∧ After w0 p sb n sz bl ws fs rs w' := by
  have hb0 : Below W.heap.size W (W.alloc (.cells #[.int .i64 4, .int .i64 k, .int .i64 wd, .int .i64 bd, .int .i64 a, .int .i64 b, .int .i64 c, .int .i64 d, .int .i64 e0] 60)) := (Below.refl W.heap.size W).alloc (Nat.le_refl _) _
  have hr0 : Row (W.alloc (.cells #[.int .i64 4, .int .i64 k, .int .i64 wd, .int .i64 bd, .int .i64 a, .int .i64 b, .int .i64 c, .int .i64 d, .int .i64 e0] 60)) W.heap.size 60 [.int .i64 4, .int .i64 k, .int .i64 wd, .int .i64 bd, .int .i64 a, .int .i64 b, .int .i64 c, .int .i64 d, .int .i64 e0] := heap_alloc_new _ _
  have h1 := h.below hb0
  obtain ⟨⟨F, G, V, m1, s1⟩, hkp⟩ := h1
  obtain ⟨A0, c0, hV0, _, _, hA0⟩ := s1.form (i := 0) (by omega)
  have f0 : (W.alloc (.cells #[.int .i64 4, .int .i64 k, .int .i64 wd, .int .i64 bd, .int .i64 a, .int .i64 b, .int .i64 c, .int .i64 d, .int .i64 e0] 60)).cell? ⟨W.heap.size, 0, none⟩ = some (.int .i64 4) := hr0.cell 0
  have f1 : (W.alloc (.cells #[.int .i64 4, .int .i64 k, .int .i64 wd, .int .i64 bd, .int .i64 a, .int .i64 b, .int .i64 c, .int .i64 d, .int .i64 e0] 60)).cell? ⟨W.heap.size, 1, none⟩ = some (.int .i64 k) := hr0.cell 1
  have c1 : (W.alloc (.cells #[.int .i64 4, .int .i64 k, .int .i64 wd, .int .i64 bd, .int .i64 a, .int .i64 b, .int .i64 c, .int .i64 d, .int .i64 e0] 60)).cell? ⟨sb, 1, none⟩ = some (.slice A0 ws.length c0) := (s1.row.cell 1).trans (congrArg some hV0)
  have HB := Lib.hid hb0
  have HM := Lib.hid m1
  have HS := Lib.hid s1
  have HK := Lib.hid hkp
  have HA := Lib.hid hA0
  have HPL := Lib.hid (h.below hb0)
  clear hb0 m1 s1 hkp hA0 h hr0
  by_cases hin : 0 ≤ k ∧ k < (ws.length : Int)
  · obtain ⟨hk0, hk1⟩ := hin
    obtain ⟨i, rfl⟩ : ∃ i : Nat, k = (i : Int) := ⟨k.toNat, by omega⟩
    have hil : i < ws.length := by omega
    obtain ⟨s, hs⟩ : ∃ s, ws[i]? = some s := ⟨ws[i], List.getElem?_eq_getElem hil⟩
    obtain ⟨g, rfl, hmn, hgl, hcg⟩ := HA.out (by show 0 < ws.length; omega)
    have cx : (W.alloc (.cells #[.int .i64 4, .int .i64 i, .int .i64 wd, .int .i64 bd, .int .i64 a, .int .i64 b, .int .i64 c, .int .i64 d, .int .i64 e0] 60)).cell? ⟨g, i, none⟩ = some (.pointer (some ⟨s.x, 0, none⟩)) := by
      refine (hcg i (by show i < ws.length * 1; omega)).trans ?_
      show (ws.map _)[i]? = _
      rw [List.getElem?_map, hs]; rfl
    have HD := Lib.hid (many_drop HM.out hs)
    have Hs := Lib.hid hs
    clear hs hcg hmn hgl
    go_enter Try.func23, Try.ntmps23
    go_wp2_with fail
    refine HD.out.mono ?_; rintro e w1 ⟨rfl, F1, G1, k1, k2⟩
    have s2 := HS.out.turn k2
    obtain ⟨A4, c4, hV4, _, _, hA4⟩ := s2.form (i := 4) (by omega)
    obtain ⟨g4, rfl, hmn, hgl, hcg⟩ := hA4 (by show 0 < ws.length; omega)
    have d5 : w1.cell? ⟨sb, 5, none⟩ = some (.slice (some ⟨g4, 0, none⟩) ws.length c4) := (s2.row.cell 5).trans (congrArg some hV4)
    have d4 : w1.cell? ⟨g4, i, none⟩ = some (.bool s.o) := by
      refine (hcg i (by show i < ws.length * 1; omega)).trans ?_
      show (ws.map _)[i]? = _
      rw [List.getElem?_map, Hs.out]; rfl
    have hfz : w1.frozen? ⟨g4, i, none⟩ = false := by
      have ho := (s2.own 4 (by omega)).1
      rw [hV4] at ho
      exact World.ownsRow.frozenAt ho i
    have HPL2 : Hid (Play w0 p sb n sz bl (ws.set i { s with o := false }) fs rs (w1.setCell ⟨g4, i, none⟩ (.bool false))) := Play.shutW k1 s2 HK.out Hs.out hV4
    clear k1 s2 k2 hA4 hmn hgl hcg hV4
    go_wp2
    go_ret
    exact ⟨rfl, n, _, _, _, by omega, by simp, by simp, by simp, HPL2.out⟩
  · go_enter Try.func23, Try.ntmps23
    go_wp2
    all_goals (go_ret; exact ⟨rfl, HPL.out.after⟩)
set_option maxHeartbeats 2000000 in
set_option maxRecDepth 100000 in
/-- another kind: nothing is done -/
theorem stwrite_none (h : Play w0 p sb n sz bl ws fs rs W) (z k wd bd a b c d e0 : Int) (hz : z ≠ 1 ∧ z ≠ 2 ∧ z ≠ 3 ∧ z ≠ 4) :
    Calls Try.prog 23 #[.pointer (some ⟨sb, 0, none⟩), .agg #[.int .i64 z, .int .i64 k, .int .i64 wd, .int .i64 bd, .int .i64 a, .int .i64 b, .int .i64 c, .int .i64 d, .int .i64 e0], .int .i64 sz] W fun e w' => e = .returned (.bool true) ∧ After w0 p sb n sz bl ws fs rs w' := by
  have hb0 : Below W.heap.size W (W.alloc (.cells #[.int .i64 z, .int .i64 k, .int .i64 wd, .int .i64 bd, .int .i64 a, .int .i64 b, .int .i64 c, .int .i64 d, .int .i64 e0] 60)) := (Below.refl W.heap.size W).alloc (Nat.le_refl _) _
  have hr0 : Row (W.alloc (.cells #[.int .i64 z, .int .i64 k, .int .i64 wd, .int .i64 bd, .int .i64 a, .int .i64 b, .int .i64 c, .int .i64 d, .int .i64 e0] 60)) W.heap.size 60 [.int .i64 z, .int .i64 k, .int .i64 wd, .int .i64 bd, .int .i64 a, .int .i64 b, .int .i64 c, .int .i64 d, .int .i64 e0] := heap_alloc_new _ _
  have f0 : (W.alloc (.cells #[.int .i64 z, .int .i64 k, .int .i64 wd, .int .i64 bd, .int .i64 a, .int .i64 b, .int .i64 c, .int .i64 d, .int .i64 e0] 60)).cell? ⟨W.heap.size, 0, none⟩ = some (.int .i64 z) := hr0.cell 0
  have f1 : (W.alloc (.cells #[.int .i64 z, .int .i64 k, .int .i64 wd, .int .i64 bd, .int .i64 a, .int .i64 b, .int .i64 c, .int .i64 d, .int .i64 e0] 60)).cell? ⟨W.heap.size, 1, none⟩ = some (.int .i64 k) := hr0.cell 1
  have HPL := Lib.hid (h.below hb0)
  obtain ⟨z1, z2, z3, z4⟩ := hz
  have d1 : decide (z = 1) = false := decide_eq_false z1
  have d2 : decide (z = 2) = false := decide_eq_false z2
  have d3 : decide (z = 3) = false := decide_eq_false z3
  have d4 : decide (z = 4) = false := decide_eq_false z4
  clear hb0 h hr0
  go_enter Try.func23, Try.ntmps23
  go_wp2
  all_goals first | (exfalso; omega) | (go_ret; exact ⟨rfl, HPL.out.after⟩)
end
end Go.Proofs.Ytbkgpilmgllkiaa

namespace Go.Proofs.Ytbkgpilmgllkiaa
open Go.ChangeShapes Go.WideShapes Go.ChangeAt Go.RowKit

section
variable {w0 W W' : World} {G G' : Nat → Prop} {p : Wp} {sb n sz : Nat} {bl : Int} {V : Nat → Value} {N : Nat → Nat} {X : Nat → List Value} {P : List (Value × List Tup)} {ws : List Pw} {fs : List Pf} {rs : List Pr}
theorem map_setR {α : Type} (f : Pr → α) {i : Nat} {s s' : Pr} (hi : rs[i]? = some s) (hf : f s' = f s) : (rs.set i s').map f = rs.map f := by
  obtain ⟨hlt, e⟩ := List.getElem?_eq_some_iff.1 hi
  rw [List.map_set, hf]
  refine List.ext_getElem? fun j => ?_
  rw [List.getElem?_set]
  split
  · rename_i h1; subst h1
    rw [List.getElem?_map, hi, if_pos (by rw [List.length_map]; exact hlt)]
    rfl
  · rfl
/-- 's.reading[i] = false', behind the call that closes -/
theorem Play.shutR {F : Fs} {i : Nat} {s : Pr} (hm : Many w0 p F n sz bl ws fs (rs.set i { s with o := false }) G W) (hb : StB w0 W G p sb V (stN ws fs rs) (stX ws fs rs) (stP ws)) (hk : Kept2 ws fs) (hi : rs[i]? = some s) {g c : Nat} (hV : V 11 = .slice (some ⟨g, 0, none⟩) rs.length c) :
    Play w0 p sb n sz bl ws fs (rs.set i { s with o := false }) (W.setCell ⟨g, i, none⟩ (.bool false)) := by
  obtain ⟨k1, k2, k3⟩ := hb.store (i := 11) (j := i) (by omega) hV rfl (.bool false)
  refine ⟨⟨F, G, V, hm.mine k2 (fun k hk => by rw [hk]; exact k3), k1.congr (fun q hq => ?_) (fun q hq => ?_) rfl⟩, hk⟩
  · match q, hq with
    | 0, _ => rfl
    | 1, _ => rfl
    | 2, _ => rfl
    | 3, _ => rfl
    | 4, _ => rfl
    | 5, _ => rfl
    | 6, _ => rfl
    | 7, _ => rfl
    | q + 8, _ => simp [stN]
  · match q, hq with
    | 0, _ => rfl
    | 1, _ => rfl
    | 2, _ => rfl
    | 3, _ => rfl
    | 4, _ => rfl
    | 5, _ => rfl
    | 6, _ => rfl
    | 7, _ => rfl
    | 8, _ => exact (map_setR (s' := { s with o := false }) (fun s => Value.pointer (some ⟨s.x, 0, none⟩)) hi rfl).symm
    | 9, _ => exact (map_setR (s' := { s with o := false }) (fun s => Value.int .i64 s.j) hi rfl).symm
    | 10, _ => exact (map_setR (s' := { s with o := false }) (fun s => Value.int .i64 s.r.pos) hi rfl).symm
    | 11, _ => exact (List.map_set (f := fun s : Pr => Value.bool s.o) (l := rs) (i := i) (a := { s with o := false })).symm
    | q + 12, h => exact absurd h (by omega)
set_option maxHeartbeats 2000000 in
set_option maxRecDepth 100000 in
/-- 7: a reader is closed -/
theorem stread_7 (h : Play w0 p sb n sz bl ws fs rs W) (k wd bd a b c d e0 : Int) (hk : I64 k) (hn : rs.length ≤ 1000) :
    Calls Try.prog 24 #[.pointer (some ⟨sb, 0, none⟩), .agg #[.int .i64 7, .int .i64 k, .int .i64 wd, .int .i64 bd, .int .i64 a, .int .i64 b, .int .i64 c, .int .i64 d, .int .i64 e0]] W fun e w' => e = .returned (.bool true) ∧ After w0 p sb n sz bl ws fs rs w' := by
  have hb0 : Below W.heap.size W (W.alloc (.cells #[.int .i64 7, .int .i64 k, .int .i64 wd, .int .i64 bd, .int .i64 a, .int .i64 b, .int .i64 c, .int .i64 d, .int .i64 e0] 60)) := (Below.refl W.heap.size W).alloc (Nat.le_refl _) _
  have hr0 : Row (W.alloc (.cells #[.int .i64 7, .int .i64 k, .int .i64 wd, .int .i64 bd, .int .i64 a, .int .i64 b, .int .i64 c, .int .i64 d, .int .i64 e0] 60)) W.heap.size 60 [.int .i64 7, .int .i64 k, .int .i64 wd, .int .i64 bd, .int .i64 a, .int .i64 b, .int .i64 c, .int .i64 d, .int .i64 e0] := heap_alloc_new _ _
  have h1 := h.below hb0
  obtain ⟨⟨F, G, V, m1, s1⟩, hkp⟩ := h1
  obtain ⟨A0, c0, hV0, _, _, hA0⟩ := s1.form (i := 8) (by omega)
  have f0 : (W.alloc (.cells #[.int .i64 7, .int .i64 k, .int .i64 wd, .int .i64 bd, .int .i64 a, .int .i64 b, .int .i64 c, .int .i64 d, .int .i64 e0] 60)).cell? ⟨W.heap.size, 0, none⟩ = some (.int .i64 7) := hr0.cell 0
  have f1 : (W.alloc (.cells #[.int .i64 7, .int .i64 k, .int .i64 wd, .int .i64 bd, .int .i64 a, .int .i64 b, .int .i64 c, .int .i64 d, .int .i64 e0] 60)).cell? ⟨W.heap.size, 1, none⟩ = some (.int .i64 k) := hr0.cell 1
  have c1 : (W.alloc (.cells #[.int .i64 7, .int .i64 k, .int .i64 wd, .int .i64 bd, .int .i64 a, .int .i64 b, .int .i64 c, .int .i64 d, .int .i64 e0] 60)).cell? ⟨sb, 9, none⟩ = some (.slice A0 rs.length c0) := (s1.row.cell 9).trans (congrArg some hV0)
  have HB := Lib.hid hb0
  have HM := Lib.hid m1
  have HS := Lib.hid s1
  have HK := Lib.hid hkp
  have HA := Lib.hid hA0
  have HPL := Lib.hid (h.below hb0)
  clear hb0 m1 s1 hkp hA0 h hr0
  by_cases hin : 0 ≤ k ∧ k < (rs.length : Int)
  · obtain ⟨hk0, hk1⟩ := hin
    obtain ⟨i, rfl⟩ : ∃ i : Nat, k = (i : Int) := ⟨k.toNat, by omega⟩
    have hil : i < rs.length := by omega
    obtain ⟨s, hs⟩ : ∃ s, rs[i]? = some s := ⟨rs[i], List.getElem?_eq_getElem hil⟩
    obtain ⟨g, rfl, hmn, hgl, hcg⟩ := HA.out (by show 0 < rs.length; omega)
    have cx : (W.alloc (.cells #[.int .i64 7, .int .i64 i, .int .i64 wd, .int .i64 bd, .int .i64 a, .int .i64 b, .int .i64 c, .int .i64 d, .int .i64 e0] 60)).cell? ⟨g, i, none⟩ = some (.pointer (some ⟨s.x, 0, none⟩)) := by
      refine (hcg i (by show i < rs.length * 1; omega)).trans ?_
      show (rs.map _)[i]? = _
      rw [List.getElem?_map, hs]; rfl
    have HD := Lib.hid (many_rclose HM.out hs)
    have Hs := Lib.hid hs
    clear hs hcg hmn hgl
    go_enter Try.func24, Try.ntmps24
    go_wp2_with fail
    refine HD.out.mono ?_; rintro e w1 ⟨rfl, F1, G1, k1, k2⟩
    have s2 := HS.out.turn k2
    obtain ⟨A4, c4, hV4, _, _, hA4⟩ := s2.form (i := 11) (by omega)
    obtain ⟨g4, rfl, hmn, hgl, hcg⟩ := hA4 (by show 0 < rs.length; omega)
    have d5 : w1.cell? ⟨sb, 12, none⟩ = some (.slice (some ⟨g4, 0, none⟩) rs.length c4) := (s2.row.cell 12).trans (congrArg some hV4)
    have d4 : w1.cell? ⟨g4, i, none⟩ = some (.bool s.o) := by
      refine (hcg i (by show i < rs.length * 1; omega)).trans ?_
      show (rs.map _)[i]? = _
      rw [List.getElem?_map, Hs.out]; rfl
    have hfz : w1.frozen? ⟨g4, i, none⟩ = false := by
      have ho := (s2.own 11 (by omega)).1
      rw [hV4] at ho
      exact World.ownsRow.frozenAt ho i
    have HPL2 : Hid (Play w0 p sb n sz bl ws fs (rs.set i { s with o := false }) (w1.setCell ⟨g4, i, none⟩ (.bool false))) := Play.shutR k1 s2 HK.out Hs.out hV4
    clear k1 s2 k2 hA4 hmn hgl hcg hV4
    go_wp2
    go_ret
    exact ⟨rfl, n, _, _, _, by omega, by simp, by simp, by simp, HPL2.out⟩
  · go_enter Try.func24, Try.ntmps24
    go_wp2
    all_goals (go_ret; exact ⟨rfl, HPL.out.after⟩)
set_option maxHeartbeats 2000000 in
set_option maxRecDepth 100000 in
/-- another kind: nothing is done -/
theorem stread_none (h : Play w0 p sb n sz bl ws fs rs W) (z k wd bd a b c d e0 : Int) (hz : z ≠ 5 ∧ z ≠ 6 ∧ z ≠ 7 ∧ z ≠ 8) :
    Calls Try.prog 24 #[.pointer (some ⟨sb, 0, none⟩), .agg #[.int .i64 z, .int .i64 k, .int .i64 wd, .int .i64 bd, .int .i64 a, .int .i64 b, .int .i64 c, .int .i64 d, .int .i64 e0]] W fun e w' => e = .returned (.bool true) ∧ After w0 p sb n sz bl ws fs rs w' := by
  have hb0 : Below W.heap.size W (W.alloc (.cells #[.int .i64 z, .int .i64 k, .int .i64 wd, .int .i64 bd, .int .i64 a, .int .i64 b, .int .i64 c, .int .i64 d, .int .i64 e0] 60)) := (Below.refl W.heap.size W).alloc (Nat.le_refl _) _
  have hr0 : Row (W.alloc (.cells #[.int .i64 z, .int .i64 k, .int .i64 wd, .int .i64 bd, .int .i64 a, .int .i64 b, .int .i64 c, .int .i64 d, .int .i64 e0] 60)) W.heap.size 60 [.int .i64 z, .int .i64 k, .int .i64 wd, .int .i64 bd, .int .i64 a, .int .i64 b, .int .i64 c, .int .i64 d, .int .i64 e0] := heap_alloc_new _ _
  have f0 : (W.alloc (.cells #[.int .i64 z, .int .i64 k, .int .i64 wd, .int .i64 bd, .int .i64 a, .int .i64 b, .int .i64 c, .int .i64 d, .int .i64 e0] 60)).cell? ⟨W.heap.size, 0, none⟩ = some (.int .i64 z) := hr0.cell 0
  have f1 : (W.alloc (.cells #[.int .i64 z, .int .i64 k, .int .i64 wd, .int .i64 bd, .int .i64 a, .int .i64 b, .int .i64 c, .int .i64 d, .int .i64 e0] 60)).cell? ⟨W.heap.size, 1, none⟩ = some (.int .i64 k) := hr0.cell 1
  have HPL := Lib.hid (h.below hb0)
  obtain ⟨z1, z2, z3, z4⟩ := hz
  have d1 : decide (z = 5) = false := decide_eq_false z1
  have d2 : decide (z = 6) = false := decide_eq_false z2
  have d3 : decide (z = 7) = false := decide_eq_false z3
  have d4 : decide (z = 8) = false := decide_eq_false z4
  clear hb0 h hr0
  go_enter Try.func24, Try.ntmps24
  go_wp2
  all_goals first | (exfalso; omega) | (go_ret; exact ⟨rfl, HPL.out.after⟩)
theorem map_setG {α β : Type} (f : β → α) {l : List β} {i : Nat} {s s' : β} (hi : l[i]? = some s) (hf : f s' = f s) : (l.set i s').map f = l.map f := by
  obtain ⟨hlt, e⟩ := List.getElem?_eq_some_iff.1 hi
  rw [List.map_set, hf]
  refine List.ext_getElem? fun j => ?_
  rw [List.getElem?_set]
  split
  · rename_i h1; subst h1
    rw [List.getElem?_map, hi, if_pos (by rw [List.length_map]; exact hlt)]
    rfl
  · rfl
theorem fiC_at : ∀ (fs : List Pf) (i : Nat) (f : Pf) (r : Nat), fs[i]? = some f → r < 4 → (fs.flatMap fiC)[i * 4 + r]? = (fiC f)[r]?
  | [], i, f, r, h, _ => by simp at h
  | g :: fs, 0, f, r, h, hr => by
    simp at h; subst h
    rw [List.flatMap_cons, Nat.zero_mul, Nat.zero_add, List.getElem?_append_left (by simpa [fiC] using hr)]
  | g :: fs, i + 1, f, r, h, hr => by
    have hl : (fiC g).length = 4 := rfl
    rw [List.flatMap_cons, List.getElem?_append_right (by rw [hl]; omega), hl, show (i + 1) * 4 + r - 4 = i * 4 + r by omega]
    exact fiC_at fs i f r (by simpa using h) hr
/-- 's.freed[i] = true', and the call that frees -/
theorem Play.freed {F : Fs} {i : Nat} {f : Pf} (hm : Many w0 p F n sz bl ws (fs.set i { f with freed := true }) rs G W) (hb : StB w0 W G p sb V (stN ws fs rs) (fun q => if q = 7 then (stX ws fs rs 7).set i (.bool true) else stX ws fs rs q) (stP ws)) (hk : Kept2 ws fs) (hi : fs[i]? = some f) :
    Play w0 p sb n sz bl ws (fs.set i { f with freed := true }) rs W := by
  refine ⟨⟨F, G, V, hm, hb.congr (fun q hq => ?_) (fun q hq => ?_) rfl⟩, fun j g hj => ?_⟩
  · match q, hq with
    | 0, _ => rfl
    | 1, _ => rfl
    | 2, _ => rfl
    | 3, _ => rfl
    | 4, _ => rfl
    | 5, _ => simp [stN]
    | 6, _ => simp [stN]
    | 7, _ => simp [stN]
    | q + 8, _ => rfl
  · match q, hq with
    | 0, _ => rfl
    | 1, _ => rfl
    | 2, _ => rfl
    | 3, _ => rfl
    | 4, _ => rfl
    | 5, _ =>
      show fs.flatMap fiC = (fs.set i { f with freed := true }).flatMap fiC
      rw [List.flatMap_def, List.flatMap_def, map_setG (s' := { f with freed := true }) fiC hi rfl]
    | 6, _ => exact (map_setG (s' := { f with freed := true }) (fun s => s.v) hi rfl).symm
    | 7, _ => exact (List.map_set (f := fun s : Pf => Value.bool s.freed) (l := fs) (i := i) (a := { f with freed := true })).symm
    | 8, _ => rfl
    | 9, _ => rfl
    | 10, _ => rfl
    | q + 11, _ => rfl
  · rcases set_at hj with ⟨rfl, rfl⟩ | ⟨_, hj⟩
    · exact hk i f hi
    · exact hk j g hj
end
end Go.Proofs.Ytbkgpilmgllkiaa

namespace Go.Proofs.Ytbkgpilmgllkiaa
open Go.ChangeShapes Go.WideShapes Go.ChangeAt Go.RowKit

/-- the fields' slices' types -/
def stU : Nat → TypeId
  | 0 => 49 | 1 => 50 | 2 => 51 | 3 => 51 | 4 => 52 | 5 => 53 | 6 => 50 | 7 => 52 | 8 => 54 | 9 => 51 | 10 => 51 | _ => 52
def StInfo (u e : TypeId) (s : Nat) : Prop := ∃ i z b, Try.prog.underlying u = some (.slice e) ∧ Try.prog.info? e = some i ∧ i.zero = some z ∧ i.size = s ∧ i.bytes = b ∧ z.cells.size = s ∧ 0 < s ∧ b ≤ 40
theorem StInfo.of {u e : TypeId} {s b : Nat} {z : Value} (hu : Try.prog.underlying u = some (.slice e)) (h : (Try.prog.info? e).map (fun i => (i.zero, i.size, i.bytes)) = some (some z, s, b)) (hz : z.cells.size = s) (hs : 0 < s) (hb : b ≤ 40) : StInfo u e s := by
  obtain ⟨i0, hi0, hz0, h1, h2⟩ := info_parts h
  exact ⟨i0, z, b, hu, hi0, hz0, h1, h2, hz, hs, hb⟩
theorem infoPW : (Try.prog.info? 80).map (fun i => (i.zero, i.size, i.bytes)) = some (some (.pointer none), 1, 8) := by kernel_rfl
theorem infoPR : (Try.prog.info? 72).map (fun i => (i.zero, i.size, i.bytes)) = some (some (.pointer none), 1, 8) := by kernel_rfl
theorem infoTS : (Try.prog.info? 24).map (fun i => (i.zero, i.size, i.bytes)) = some (some (.slice none 0 0), 1, 24) := by kernel_rfl
theorem infoI : (Try.prog.info? 3).map (fun i => (i.zero, i.size, i.bytes)) = some (some (.int .i64 0), 1, 8) := by kernel_rfl
theorem infoB : (Try.prog.info? 4).map (fun i => (i.zero, i.size, i.bytes)) = some (some (.bool false), 1, 1) := by kernel_rfl
theorem infoFi : (Try.prog.info? 30).map (fun i => (i.zero, i.size, i.bytes)) = some (some (.agg #[.int .i64 0, .int .i64 0, .int .i64 0, .int .i64 0]), 4, 32) := by kernel_rfl
theorem st_info : ∀ i, i < 12 → StInfo (stU i) (stT i) (stS i)
  | 0, _ => StInfo.of Try.underlying49 infoPW rfl (by decide) (by decide)
  | 1, _ => StInfo.of Try.underlying50 infoTS rfl (by decide) (by decide)
  | 2, _ => StInfo.of Try.underlying51 infoI rfl (by decide) (by decide)
  | 3, _ => StInfo.of Try.underlying51 infoI rfl (by decide) (by decide)
  | 4, _ => StInfo.of Try.underlying52 infoB rfl (by decide) (by decide)
  | 5, _ => StInfo.of Try.underlying53 infoFi rfl (by decide) (by decide)
  | 6, _ => StInfo.of Try.underlying50 infoTS rfl (by decide) (by decide)
  | 7, _ => StInfo.of Try.underlying52 infoB rfl (by decide) (by decide)
  | 8, _ => StInfo.of Try.underlying54 infoPR rfl (by decide) (by decide)
  | 9, _ => StInfo.of Try.underlying51 infoI rfl (by decide) (by decide)
  | 10, _ => StInfo.of Try.underlying51 infoI rfl (by decide) (by decide)
  | 11, _ => StInfo.of Try.underlying52 infoB rfl (by decide) (by decide)
  | n + 12, h => absurd h (by omega)
/-- a box: a row of its own, beside all -/
structure Bx (W : World) (G : Nat → Prop) (V : Nat → Value) (sb ob : Nat) (t : TypeId) (cs : List Value) : Prop where
  row : Row W ob t cs
  ng : ¬ G ob
  ty : t ≠ 136 ∧ t ≠ 126 ∧ t ≠ 130 ∧ t ≠ 69
  nv : ∀ i, i < 12 → (V i).ownBlock ≠ some ob
  ns : ob ≠ sb
/-- the work's part and the state's, between two operations -/
structure PB (w0 : World) (p : Wp) (F : Fs) (sb n sz : Nat) (bl : Int) (ws : List Pw) (fs : List Pf) (rs : List Pr) (G : Nat → Prop) (V : Nat → Value) (N : Nat → Nat) (X : Nat → List Value) (P : List (Value × List Tup)) (B : List (Nat × TypeId × List Value)) (W : World) : Prop where
  m : Many w0 p F n sz bl ws fs rs G W
  s : StB w0 W G p sb V N X P
  b : ∀ x ∈ B, Bx W G V sb x.1 x.2.1 x.2.2
def updS {α : Type} (f : Nat → α) (i : Nat) (v : α) : Nat → α := fun k => if k = i then v else f k
section
variable {w0 W W' : World} {G G' : Nat → Prop} {p : Wp} {F : Fs} {sb n sz : Nat} {bl : Int} {V : Nat → Value} {N : Nat → Nat} {X : Nat → List Value} {P : List (Value × List Tup)} {B : List (Nat × TypeId × List Value)} {ws : List Pw} {fs : List Pf} {rs : List Pr}
theorem PB.below (h : PB w0 p F sb n sz bl ws fs rs G V N X P B W) (hb : Below W.heap.size W W') : PB w0 p F sb n sz bl ws fs rs G V N X P B W' := ⟨h.m.below hb, h.s.below hb, fun x hx => by
  have hb' := h.b x hx
  exact ⟨hb'.row.below hb hb'.row.lt, hb'.ng, hb'.ty, hb'.nv, hb'.ns⟩⟩
theorem PB.drew (h : PB w0 p F sb n sz bl ws fs rs G V N X P B W) : PB w0 p F sb n sz bl ws fs rs G V N X P B W.drew := h.below (below_drew (Below.refl _ _))
theorem below_drewN2 {B : Nat} {a w : World} (h : Below B a w) (q : Nat) : Below B a (w.drewN q) := ⟨h.os, h.tape, h.output, h.size, h.block⟩
theorem PB.drewN2 (h : PB w0 p F sb n sz bl ws fs rs G V N X P B W) (q : Nat) : PB w0 p F sb n sz bl ws fs rs G V N X P B (W.drewN q) := h.below (below_drewN2 (Below.refl _ _) q)
theorem PB.alloc (h : PB w0 p F sb n sz bl ws fs rs G V N X P B W) (o : Obj) : PB w0 p F sb n sz bl ws fs rs G V N X P B (W.alloc o) := h.below ((Below.refl _ _).alloc (Nat.le_refl _) _)
/-- a box more -/
theorem PB.box (h : PB w0 p F sb n sz bl ws fs rs G V N X P B W) (cs : List Value) (t : TypeId) (ht : t ≠ 136 ∧ t ≠ 126 ∧ t ≠ 130 ∧ t ≠ 69) : PB w0 p F sb n sz bl ws fs rs G V N X P ((W.heap.size, t, cs) :: B) (W.alloc (.cells cs.toArray t)) := by
  have h1 := h.alloc (.cells cs.toArray t)
  refine ⟨h1.m, h1.s, fun x hx => ?_⟩
  rcases List.mem_cons.1 hx with rfl | hx
  · exact ⟨heap_alloc_new _ _, fun hg => Nat.lt_irrefl _ (h.m.sys.lt hg), ht, fun i hi hq => Nat.lt_irrefl _ (stown_row (h.s.own i hi).1 hq).2.2, fun e => by
      have := h.s.row.lt
      simp only at e
      omega⟩
  · exact h1.b x hx
theorem PB.unbox (h : PB w0 p F sb n sz bl ws fs rs G V N X P B W) {B' : List (Nat × TypeId × List Value)} (hB : ∀ x ∈ B', x ∈ B) : PB w0 p F sb n sz bl ws fs rs G V N X P B' W := ⟨h.m, h.s, fun x hx => h.b x (hB x hx)⟩
theorem PB.cell (h : PB w0 p F sb n sz bl ws fs rs G V N X P B W) : ∀ {i : Nat}, i < 12 → W.cell? ⟨sb, i + 1, none⟩ = some (V i)
  | 0, _ => h.s.row.cell 1
  | 1, _ => h.s.row.cell 2
  | 2, _ => h.s.row.cell 3
  | 3, _ => h.s.row.cell 4
  | 4, _ => h.s.row.cell 5
  | 5, _ => h.s.row.cell 6
  | 6, _ => h.s.row.cell 7
  | 7, _ => h.s.row.cell 8
  | 8, _ => h.s.row.cell 9
  | 9, _ => h.s.row.cell 10
  | 10, _ => h.s.row.cell 11
  | 11, _ => h.s.row.cell 12
  | n + 12, h => absurd h (by omega)
theorem PB.free (h : PB w0 p F sb n sz bl ws fs rs G V N X P B W) (i : Nat) : W.frozen? ⟨sb, i, none⟩ = false := h.s.row.free i
theorem PB.push (h : PB w0 p F sb n sz bl ws fs rs G V N X P B W) {i : Nat} (hi : i < 12) {g cap : Nat} {xs' : List Value} (ho : W'.ownsRow w0.heap.size (stT i) (stS i) (.slice (some ⟨g, 0, none⟩) (N i + 1) cap) (N i + 1) xs') (hgr : W.grownBy W' (V i).ownBlock) (hat : (V i).ownBlock = some g ∨ g = W.heap.size) :
    PB w0 p F sb n sz bl ws fs rs G (updS V i (.slice (some ⟨g, 0, none⟩) (N i + 1) cap)) (updS N i (N i + 1)) (updS X i xs') P B (W'.setCell ⟨sb, i + 1, none⟩ (.slice (some ⟨g, 0, none⟩) (N i + 1) cap)) := by
  have hf : Far (fun k => (V i).ownBlock = some k) W W' := (Far.refl _ W).grown hgr fun k hk => .inl hk
  obtain ⟨k1, k2⟩ := h.s.push hi ho hf (hat.imp (fun e => e.symm) fun e => by rw [e]; rfl) fun k hk => h.m.sys.lt hk
  refine ⟨h.m.mine k2 fun k hk => hk.elim (fun e => h.s.ownMine hi e) fun e => by rw [e]; exact h.s.sbMine, k1, fun x hx => ?_⟩
  have hb := h.b x hx
  refine ⟨k2.row hb.row fun hk => hk.elim (hb.nv i hi) hb.ns, hb.ng, hb.ty, fun j hj => ?_, hb.ns⟩
  unfold updS
  split
  · intro e
    injection e with e
    rcases hat with h1 | h1
    · exact hb.nv i hi (h1.trans (congrArg some e))
    · have hlt : x.1 < W.heap.size := hb.row.lt
      rw [← e, h1] at hlt; exact Nat.lt_irrefl _ hlt
  · exact hb.nv j hj
/-- a field's slice, its cell in the state, its own cells -/
theorem PB.get (h : PB w0 p F sb n sz bl ws fs rs G V N X P B W) {i : Nat} (hi : i < 12) : ∃ A c, V i = .slice A (N i) c ∧ W.cell? ⟨sb, i + 1, none⟩ = some (.slice A (N i) c) ∧ N i ≤ c ∧ c ≤ maxLen ∧
    (0 < N i → ∃ g, A = some ⟨g, 0, none⟩ ∧ (∀ j, j < N i * stS i → W.cell? ⟨g, j, none⟩ = (X i)[j]?) ∧ ∀ j, W.frozen? ⟨g, j, none⟩ = false) := by
  obtain ⟨A, c, hV, hc, hm, hA⟩ := h.s.form hi
  refine ⟨A, c, hV, (h.cell hi).trans (congrArg some hV), hc, hm, fun h0 => ?_⟩
  obtain ⟨g, rfl, _, _, hg⟩ := hA h0
  refine ⟨g, rfl, hg, fun j => ?_⟩
  have ho := (h.s.own i hi).1
  rw [hV] at ho
  exact World.ownsRow.frozenAt ho j
theorem PB.store (h : PB w0 p F sb n sz bl ws fs rs G V N X P B W) {i j g n' c : Nat} (hi : i < 12) (hV : V i = .slice (some ⟨g, 0, none⟩) n' c) (hN : N i = n') (u : Value) : PB w0 p F sb n sz bl ws fs rs G V N (updS X i ((X i).set j u)) P B (W.setCell ⟨g, j, none⟩ u) := by
  obtain ⟨k1, k2, k3⟩ := h.s.store (j := j) hi hV hN u
  refine ⟨h.m.mine k2 fun k hk => by rw [hk]; exact k3, k1, fun x hx => ?_⟩
  have hb := h.b x hx
  exact ⟨k2.row hb.row fun hk => hb.nv i hi (by rw [hV, hk]; rfl), hb.ng, hb.ty, hb.nv, hb.ns⟩
theorem PB.turn {F' : Fs} {n' : Nat} {ws' : List Pw} {fs' : List Pf} {rs' : List Pr} (h : PB w0 p F sb n sz bl ws fs rs G V N X P B W) (hm : Many w0 p F' n' sz bl ws' fs' rs' G' W') (ht : Turn G G' W W') : PB w0 p F' sb n' sz bl ws' fs' rs' G' V N X P B W' := ⟨hm, h.s.turn ht, fun x hx => by
    have hb := h.b x hx
    exact ⟨ht.1.row hb.row fun hk => hk.elim hb.ng fun hk => hk.not hb.row hb.ty, fun hg => (ht.2 _ hg).elim hb.ng (Nat.not_le_of_lt hb.row.lt), hb.ty, hb.nv, hb.ns⟩⟩
theorem wp_push {w : World} {o : Oper} {a : Act} {K : Act → World → Prop} {Q : Exit → Act → World → Prop} (h : PB w0 p F sb n sz bl ws fs rs G V N X P B w) (sl x : Operand) {i : Nat} (hi : i < 12) (k : Nat) (hk : i + 1 = k)
    (ho : o.op = .call { callee := .builtin .append, args := #[sl, x], argTypes := #[stU i, stU i] }) (hs : a.eval sl = V i) (ad : Addr) (ys : List Value) (hx : a.eval x = .slice (some ad) 1 1) (hl : ys.length = stS i) (hsrc : ∀ j u, ys[j]? = some u → w.cell? (ad.add j) = some u) (h1 : ∀ u ∈ ys, u.oneCell' = true) (hn : N i ≤ 1000000)
    (hK : ∀ g cap m w', Hid (m = N i + 1) → w'.cell? ⟨sb, k, none⟩ = some (V i) → w'.frozen? ⟨sb, k, none⟩ = false → Hid (PB w0 p F sb n sz bl ws fs rs G (updS V i (.slice (some ⟨g, 0, none⟩) m cap)) (updS N i m) (updS X i (X i ++ ys)) P B (w'.setCell ⟨sb, k, none⟩ (.slice (some ⟨g, 0, none⟩) m cap))) → K (a.put o.dst (.slice (some ⟨g, 0, none⟩) m cap)) w') : o.wp Try.prog a w K Q := by
  obtain ⟨i0, z, b, hu, hi0, hz, hsz, hby, hzs, hs0, hb⟩ := st_info i hi
  have hb2 : (N i + 1) * b ≤ 140737488355328 := Nat.le_trans (Nat.mul_le_mul (by omega : N i + 1 ≤ 1000001) hb) (by omega)
  refine wp_append_lies w sl x (stU i) ho w0.heap.size (stT i) i0 z (stS i) b hu hi0 hz hsz hby hzs hs0 (V i) (N i) (X i) hs (h.s.own i hi).1 ad 1 1 ys hx (by rw [hl]; omega) hsrc h1 (by omega) (by unfold maxLen; omega) hb2 h.m.bel.size w.heap.size rfl ?_
  intro g cap w' hown hgr hat _
  have hf : Far (fun k => (V i).ownBlock = some k) w w' := (Far.refl _ w).grown hgr fun k hk => .inl hk
  have hr := hf.row h.s.row (h.s.sb_own hi)
  subst hk
  refine hK g cap (N i + 1) w' (Lib.hid rfl) ?_ (hr.free (i + 1)) (Lib.hid (h.push hi hown hgr hat))
  have hc := h.cell hi
  simp only [World.cell?, hf.block sb h.s.row.lt (h.s.sb_own hi)] at hc ⊢
  exact hc
theorem wpList_push {w : World} {ops : Array Oper} {rest : List Oper} {o : Oper} {a : Act} {Q : Exit → Act → World → Prop} (h : PB w0 p F sb n sz bl ws fs rs G V N X P B w) (hgd : o.guard = none) (sl x : Operand) {i : Nat} (hi : i < 12) (k : Nat) (hk : i + 1 = k)
    (ho : o.op = .call { callee := .builtin .append, args := #[sl, x], argTypes := #[stU i, stU i] }) (hs : a.eval sl = V i) (ad : Addr) (ys : List Value) (hx : a.eval x = .slice (some ad) 1 1) (hl : ys.length = stS i) (hsrc : ∀ j u, ys[j]? = some u → w.cell? (ad.add j) = some u) (h1 : ∀ u ∈ ys, u.oneCell' = true) (hn : N i ≤ 1000000)
    (hK : ∀ g cap m w', Hid (m = N i + 1) → w'.cell? ⟨sb, k, none⟩ = some (V i) → w'.frozen? ⟨sb, k, none⟩ = false → Hid (PB w0 p F sb n sz bl ws fs rs G (updS V i (.slice (some ⟨g, 0, none⟩) m cap)) (updS N i m) (updS X i (X i ++ ys)) P B (w'.setCell ⟨sb, k, none⟩ (.slice (some ⟨g, 0, none⟩) m cap))) → wpList Try.prog ops Q rest (a.put o.dst (.slice (some ⟨g, 0, none⟩) m cap)) w') : wpList Try.prog ops Q (o :: rest) a w :=
  wpList_plain hgd fun _ hk' => wp_push h sl x hi k hk ho hs ad ys hx hl hsrc h1 hn fun g cap m w' h2 h3 h4 h5 => hk' _ _ (hK g cap m w' h2 h3 h4 h5)
theorem step_push {w : World} {ops : Array Oper} {o : Oper} {a : Act} {K : Act → World → Prop} {Q : Exit → Act → World → Prop} {E : Prop} (h : PB w0 p F sb n sz bl ws fs rs G V N X P B w) (hgd : o.guard = none) (sl x : Operand) {i : Nat} (hi : i < 12) (k : Nat) (hk : i + 1 = k)
    (ho : o.op = .call { callee := .builtin .append, args := #[sl, x], argTypes := #[stU i, stU i] }) (hs : a.eval sl = V i) (ad : Addr) (ys : List Value) (hx : a.eval x = .slice (some ad) 1 1) (hl : ys.length = stS i) (hsrc : ∀ j u, ys[j]? = some u → w.cell? (ad.add j) = some u) (h1 : ∀ u ∈ ys, u.oneCell' = true) (hn : N i ≤ 1000000)
    (hK : ∀ g cap m w', Hid (m = N i + 1) → w'.cell? ⟨sb, k, none⟩ = some (V i) → w'.frozen? ⟨sb, k, none⟩ = false → Hid (PB w0 p F sb n sz bl ws fs rs G (updS V i (.slice (some ⟨g, 0, none⟩) m cap)) (updS N i m) (updS X i (X i ++ ys)) P B (w'.setCell ⟨sb, k, none⟩ (.slice (some ⟨g, 0, none⟩) m cap))) → K (a.put o.dst (.slice (some ⟨g, 0, none⟩) m cap)) w') :
    if Region.wanted o (yielded ops a.tmps) = true then Oper.wp Try.prog o a w K Q else E := by
  have hw : Region.wanted o (yielded ops a.tmps) = true := by simp [Region.wanted, hgd]
  rw [if_pos hw]
  exact wp_push h sl x hi k hk ho hs ad ys hx hl hsrc h1 hn hK
theorem all12 {Q : Nat → Prop} (h0 : Q 0) (h1 : Q 1) (h2 : Q 2) (h3 : Q 3) (h4 : Q 4) (h5 : Q 5) (h6 : Q 6) (h7 : Q 7) (h8 : Q 8) (h9 : Q 9) (h10 : Q 10) (h11 : Q 11) : ∀ i, i < 12 → Q i
  | 0, _ => h0
  | 1, _ => h1
  | 2, _ => h2
  | 3, _ => h3
  | 4, _ => h4
  | 5, _ => h5
  | 6, _ => h6
  | 7, _ => h7
  | 8, _ => h8
  | 9, _ => h9
  | 10, _ => h10
  | 11, _ => h11
  | n + 12, h => absurd h (by omega)
/-- one cell that was just laid -/
theorem laid1 {W : World} {u : Value} {t : TypeId} {g : Nat} (hr : Row W g t [u]) : ∀ j v, [u][j]? = some v → W.cell? ((⟨g, 0, none⟩ : Addr).add j) = some v := by
  intro j v hj
  match j, hj with
  | 0, hj => exact (hr.cell 0).trans hj
  | j + 1, hj => simp at hj
end
end Go.Proofs.Ytbkgpilmgllkiaa

namespace Go.Proofs.Ytbkgpilmgllkiaa
open Go.ChangeShapes Go.WideShapes Go.ChangeAt Go.RowKit

section
variable {w0 W W' : World} {G G' : Nat → Prop} {p : Wp} {sb n sz : Nat} {bl : Int} {V : Nat → Value} {N : Nat → Nat} {X : Nat → List Value} {P : List (Value × List Tup)} {ws : List Pw} {fs : List Pf} {rs : List Pr}
/-- the act's own box -/
theorem Play.box (h : Play w0 p sb n sz bl ws fs rs W) (cs : List Value) (t : TypeId) : Play w0 p sb n sz bl ws fs rs (W.alloc (.cells cs.toArray t)) ∧ Row (W.alloc (.cells cs.toArray t)) W.heap.size t cs ∧ W.heap.size < (W.alloc (.cells cs.toArray t)).heap.size := by
  have hr : Row (W.alloc (.cells cs.toArray t)) W.heap.size t cs := heap_alloc_new _ _
  exact ⟨h.below ((Below.refl W.heap.size W).alloc (Nat.le_refl _) _), hr, hr.lt⟩
set_option maxHeartbeats 2000000 in
set_option maxRecDepth 100000 in
/-- 8: a file is freed -/
theorem stread_8 (h : Play w0 p sb n sz bl ws fs rs W) (k wd bd a b c d e0 : Int) (hk : I64 k) (hn : fs.length ≤ 1000) :
    Calls Try.prog 24 #[.pointer (some ⟨sb, 0, none⟩), .agg #[.int .i64 8, .int .i64 k, .int .i64 wd, .int .i64 bd, .int .i64 a, .int .i64 b, .int .i64 c, .int .i64 d, .int .i64 e0]] W fun e w' => e = .returned (.bool true) ∧ After w0 p sb n sz bl ws fs rs w' := by
  obtain ⟨h1, hr, hob⟩ := h.box [.int .i64 8, .int .i64 k, .int .i64 wd, .int .i64 bd, .int .i64 a, .int .i64 b, .int .i64 c, .int .i64 d, .int .i64 e0] 60
  go_enter Try.func24, Try.ntmps24
  go_upto_region 1 with (fail)
  generalize W.alloc (.cells #[.int .i64 8, .int .i64 k, .int .i64 wd, .int .i64 bd, .int .i64 a, .int .i64 b, .int .i64 c, .int .i64 d, .int .i64 e0] 60) = W1 at *
  generalize W.heap.size = ob at *
  clear h
  have f0 : W1.cell? ⟨ob, 0, none⟩ = some (.int .i64 8) := hr.cell 0
  have f1 : W1.cell? ⟨ob, 1, none⟩ = some (.int .i64 k) := hr.cell 1
  have HPL := Lib.hid h1
  obtain ⟨⟨F, G, V, m1, s1⟩, hkp⟩ := h1
  have hp : PB w0 p F sb n sz bl ws fs rs G V (stN ws fs rs) (stX ws fs rs) (stP ws) [] W1 := ⟨m1, s1, fun _ h => by cases h⟩
  obtain ⟨A6, c6, hV6, x6, -, -, hA6⟩ := hp.get (i := 5) (by omega)
  obtain ⟨A8, c8, hV8, x8, -, -, hA8⟩ := hp.get (i := 7) (by omega)
  have d6 : W1.cell? ⟨sb, 6, none⟩ = some (.slice A6 fs.length c6) := x6
  have d8 : W1.cell? ⟨sb, 8, none⟩ = some (.slice A8 fs.length c8) := x8
  have HP := Lib.hid hp
  have HK := Lib.hid hkp
  have HA6 := Lib.hid hA6
  have HA8 := Lib.hid hA8
  have HV6 := Lib.hid hV6
  have HV8 := Lib.hid hV8
  clear x6 x8 m1 s1 hp hkp hA6 hA8 hr hob hV6 hV8
  by_cases hin : 0 ≤ k ∧ k < (fs.length : Int)
  · obtain ⟨hk0, hk1⟩ := hin
    obtain ⟨i, rfl⟩ : ∃ i : Nat, k = (i : Int) := ⟨k.toNat, by omega⟩
    have hil : i < fs.length := by omega
    obtain ⟨f, hs⟩ : ∃ f, fs[i]? = some f := ⟨fs[i], List.getElem?_eq_getElem hil⟩
    have Hs := Lib.hid hs
    obtain ⟨g8, rfl, hcg8, hfz8⟩ := HA8.out (by show 0 < fs.length; omega)
    have y8 : W1.cell? ⟨g8, i, none⟩ = some (.bool f.freed) := by
      refine (hcg8 i (by show i < fs.length * 1; omega)).trans ?_
      show (fs.map _)[i]? = _
      rw [List.getElem?_map, hs]; rfl
    have hfz := hfz8 i
    clear hcg8 hfz8 hs HA8
    cases hfr : f.freed with
    | true =>
      rw [hfr] at y8
      clear hfr HA6
      go_wp2
      go_ret
      exact ⟨rfl, HPL.out.after⟩
    | false =>
      rw [hfr] at y8
      have Hfr := Lib.hid hfr
      clear hfr
      obtain ⟨g6, rfl, _, _⟩ := HA6.out (by show 0 < fs.length; omega)
      have hp2 := HP.out.store (j := i) (i := 7) (by omega) HV8.out rfl (.bool true)
      clear HA6 HPL
      go_upto_region 32 with (fail)
      generalize W1.setCell ⟨g8, i, none⟩ (.bool true) = W2 at *
      clear y8 hfz d8 f0 f1
      have b0 : W2.cell? ⟨sb, 0, none⟩ = some (.pointer (some ⟨p.w, 0, none⟩)) := hp2.s.row.cell 0
      have b6 : W2.cell? ⟨sb, 6, none⟩ = some (.slice (some ⟨g6, 0, none⟩) fs.length c6) := (hp2.cell (i := 5) (by omega)).trans (congrArg some HV6.out)
      have KF : Hid (∀ W F' n' ws' fs' rs' G', PB w0 p F' sb n' sz bl ws' fs' rs' G' V (stN ws fs rs) (updS (stX ws fs rs) 7 ((stX ws fs rs 7).set i (.bool true))) (stP ws) [] W → W.cell? ⟨g6, i * 4, none⟩ = some (.int .i64 f.first) ∧ W.cell? ⟨g6, i * 4 + 1, none⟩ = some (.int .i64 f.nb) ∧ W.cell? ⟨g6, i * 4 + 2, none⟩ = some (.int .i64 f.k) ∧ W.cell? ⟨g6, i * 4 + 3, none⟩ = some (.int .i64 f.l.length)) := by
        intro W F' n' ws' fs' rs' G' hp
        obtain ⟨A, c, hV, _, _, _, hA⟩ := hp.get (i := 5) (by omega)
        obtain ⟨g, rfl, hc, _⟩ := hA (by show 0 < fs.length; omega)
        have e := HV6.out.symm.trans hV
        injection e with e1 e2 e3
        injection e1 with e1
        injection e1 with e1
        subst e1
        have hb : ∀ r, r < 4 → W.cell? ⟨g6, i * 4 + r, none⟩ = (fiC f)[r]? := fun r hr => (hc (i * 4 + r) (by show i * 4 + r < fs.length * 4; omega)).trans (fiC_at fs i f r Hs.out hr)
        exact ⟨hb 0 (by omega), hb 1 (by omega), hb 2 (by omega), hb 3 (by omega)⟩
      obtain ⟨y0, y1, y2, y3⟩ := KF.out _ _ _ _ _ _ _ hp2
      have HF : Hid (Calls Try.prog 22 #[.pointer (some ⟨p.w, 0, none⟩), .agg #[.int .i64 f.first, .int .i64 f.nb, .int .i64 f.k, .int .i64 f.l.length]] W2.drew fun e w' => e = .returned (.int .i64 0) ∧ After w0 p sb n sz bl ws fs rs w' ∧ w'.cell? ⟨sb, 0, none⟩ = some (.pointer (some ⟨p.w, 0, none⟩)) ∧ w'.cell? ⟨sb, 6, none⟩ = some (.slice (some ⟨g6, 0, none⟩) fs.length c6) ∧ w'.cell? ⟨g6, i * 4, none⟩ = some (.int .i64 f.first) ∧ w'.cell? ⟨g6, i * 4 + 1, none⟩ = some (.int .i64 f.nb) ∧ w'.cell? ⟨g6, i * 4 + 2, none⟩ = some (.int .i64 f.k) ∧ w'.cell? ⟨g6, i * 4 + 3, none⟩ = some (.int .i64 f.l.length)) := by
        refine (many_free hp2.drew.m Hs.out Hfr.out).mono ?_
        rintro e w' ⟨he, F', G', t1, t2⟩
        have hp3 := hp2.drew.turn t1 t2
        exact ⟨he, ⟨n, ws, _, rs, by omega, by omega, by simp, by omega, Play.freed t1 hp3.s HK.out Hs.out⟩, hp3.s.row.cell 0, (hp3.cell (i := 5) (by omega)).trans (congrArg some HV6.out), KF.out _ _ _ _ _ _ _ hp3⟩
      have b0 : W2.drew.cell? ⟨sb, 0, none⟩ = some (.pointer (some ⟨p.w, 0, none⟩)) := b0
      have b6 : W2.drew.cell? ⟨sb, 6, none⟩ = some (.slice (some ⟨g6, 0, none⟩) fs.length c6) := b6
      obtain ⟨y0, y1, y2, y3⟩ := KF.out _ _ _ _ _ _ _ hp2.drew
      clear hp2 KF HV6 HV8 HK Hs Hfr HP
      go_region_held3 (fun w' => w'.cell? ⟨sb, 0, none⟩ = some (.pointer (some ⟨p.w, 0, none⟩)) ∧ w'.cell? ⟨sb, 6, none⟩ = some (.slice (some ⟨g6, 0, none⟩) fs.length c6) ∧ w'.cell? ⟨g6, i * 4, none⟩ = some (.int .i64 f.first) ∧ w'.cell? ⟨g6, i * 4 + 1, none⟩ = some (.int .i64 f.nb) ∧ w'.cell? ⟨g6, i * 4 + 2, none⟩ = some (.int .i64 f.k) ∧ w'.cell? ⟨g6, i * 4 + 3, none⟩ = some (.int .i64 f.l.length)) (first | with_reducible exact ⟨b0, b6, y0, y1, y2, y3⟩ | with_reducible exact q2)
        (first
          | (go_at_call 22; (with_reducible refine HF.out.mono ?_); rintro e w2 ⟨rfl, h2, q2⟩))
      go_wp2
      go_ret
      exact ⟨rfl, h2⟩
  · clear HP HK HA6 HA8 HV6
    rcases (by omega : k < 0 ∨ (0 ≤ k ∧ (fs.length : Int) ≤ k)) with h1 | ⟨h1, h2⟩
    all_goals
      clear hin
      go_wp2
      go_ret
      exact ⟨rfl, HPL.out.after⟩
end
end Go.Proofs.Ytbkgpilmgllkiaa

namespace Go.Proofs.Ytbkgpilmgllkiaa
open Go.ChangeShapes Go.WideShapes Go.ChangeAt Go.RowKit

section
variable {w0 W W' : World} {G G' : Nat → Prop} {p : Wp} {sb n sz : Nat} {bl : Int} {V : Nat → Value} {N : Nat → Nat} {X : Nat → List Value} {P : List (Value × List Tup)} {ws : List Pw} {fs : List Pf} {rs : List Pr}
theorem PB.play {F : Fs} {B : List (Nat × TypeId × List Value)} (h : PB w0 p F sb n sz bl ws fs rs G V N X P B W) (hk : Kept2 ws fs) (hN : ∀ i, i < 12 → N i = stN ws fs rs i) (hX : ∀ i, i < 12 → X i = stX ws fs rs i) (hP : P = stP ws) : Play w0 p sb n sz bl ws fs rs W :=
  ⟨⟨F, G, V, h.m, h.s.congr hN hX hP⟩, hk⟩
set_option maxHeartbeats 4000000 in
set_option maxRecDepth 100000 in
/-- 5: a reader -/
theorem stread_5 (h : Play w0 p sb n sz bl ws fs rs W) (k wd bd a b c d e0 : Int) (hk : I64 k) (hn : fs.length ≤ 1000) (hn2 : rs.length ≤ 1000) :
    Calls Try.prog 24 #[.pointer (some ⟨sb, 0, none⟩), .agg #[.int .i64 5, .int .i64 k, .int .i64 wd, .int .i64 bd, .int .i64 a, .int .i64 b, .int .i64 c, .int .i64 d, .int .i64 e0]] W fun e w' => e = .returned (.bool true) ∧ After w0 p sb n sz bl ws fs rs w' := by
  obtain ⟨h1, hr, hob⟩ := h.box [.int .i64 5, .int .i64 k, .int .i64 wd, .int .i64 bd, .int .i64 a, .int .i64 b, .int .i64 c, .int .i64 d, .int .i64 e0] 60
  go_enter Try.func24, Try.ntmps24
  go_upto_region 1 with (fail)
  generalize W.alloc (.cells #[.int .i64 5, .int .i64 k, .int .i64 wd, .int .i64 bd, .int .i64 a, .int .i64 b, .int .i64 c, .int .i64 d, .int .i64 e0] 60) = W1 at *
  generalize W.heap.size = ob at *
  clear h
  have f0 : W1.cell? ⟨ob, 0, none⟩ = some (.int .i64 5) := hr.cell 0
  have f1 : W1.cell? ⟨ob, 1, none⟩ = some (.int .i64 k) := hr.cell 1
  have HPL := Lib.hid h1
  obtain ⟨⟨F, G, V, m1, s1⟩, hkp⟩ := h1
  have hp : PB w0 p F sb n sz bl ws fs rs G V (stN ws fs rs) (stX ws fs rs) (stP ws) [] W1 := ⟨m1, s1, fun _ h => by cases h⟩
  obtain ⟨A6, c6, hV6, x6, -, -, hA6⟩ := hp.get (i := 5) (by omega)
  obtain ⟨A8, c8, hV8, x8, -, -, hA8⟩ := hp.get (i := 7) (by omega)
  have d6 : W1.cell? ⟨sb, 6, none⟩ = some (.slice A6 fs.length c6) := x6
  have d8 : W1.cell? ⟨sb, 8, none⟩ = some (.slice A8 fs.length c8) := x8
  have HP := Lib.hid hp
  have HK := Lib.hid hkp
  have HA6 := Lib.hid hA6
  have HA8 := Lib.hid hA8
  have HV6 := Lib.hid hV6
  have Hn2 := Lib.hid hn2
  clear x6 x8 m1 s1 hp hkp hA6 hA8 hr hob hV6 hV8 hn2
  by_cases hin : 0 ≤ k ∧ k < (fs.length : Int)
  · obtain ⟨hk0, hk1⟩ := hin
    obtain ⟨i, rfl⟩ : ∃ i : Nat, k = (i : Int) := ⟨k.toNat, by omega⟩
    have hil : i < fs.length := by omega
    obtain ⟨f, hs⟩ : ∃ f, fs[i]? = some f := ⟨fs[i], List.getElem?_eq_getElem hil⟩
    have Hs := Lib.hid hs
    obtain ⟨g8, rfl, hcg8, _⟩ := HA8.out (by show 0 < fs.length; omega)
    have y8 : W1.cell? ⟨g8, i, none⟩ = some (.bool f.freed) := by
      refine (hcg8 i (by show i < fs.length * 1; omega)).trans ?_
      show (fs.map _)[i]? = _
      rw [List.getElem?_map, hs]; rfl
    clear hcg8 hs HA8
    cases hfr : f.freed with
    | true =>
      rw [hfr] at y8
      clear hfr HA6
      go_wp2
      go_ret
      exact ⟨rfl, HPL.out.after⟩
    | false =>
      rw [hfr] at y8
      have Hfr := Lib.hid hfr
      clear hfr
      obtain ⟨g6, rfl, _, _⟩ := HA6.out (by show 0 < fs.length; omega)
      clear HA6 HPL
      have b0 : W1.cell? ⟨sb, 0, none⟩ = some (.pointer (some ⟨p.w, 0, none⟩)) := HP.out.s.row.cell 0
      have KF : Hid (∀ W F' n' ws' fs' rs' G', PB w0 p F' sb n' sz bl ws' fs' rs' G' V (stN ws fs rs) (stX ws fs rs) (stP ws) [] W → W.cell? ⟨sb, 0, none⟩ = some (.pointer (some ⟨p.w, 0, none⟩)) ∧ W.cell? ⟨sb, 6, none⟩ = some (.slice (some ⟨g6, 0, none⟩) fs.length c6) ∧ W.cell? ⟨g6, i * 4, none⟩ = some (.int .i64 f.first) ∧ W.cell? ⟨g6, i * 4 + 1, none⟩ = some (.int .i64 f.nb) ∧ W.cell? ⟨g6, i * 4 + 2, none⟩ = some (.int .i64 f.k) ∧ W.cell? ⟨g6, i * 4 + 3, none⟩ = some (.int .i64 f.l.length)) := by
        intro W F' n' ws' fs' rs' G' hp
        obtain ⟨A, c, hV, hsb, _, _, hA⟩ := hp.get (i := 5) (by omega)
        obtain ⟨g, rfl, hc, _⟩ := hA (by show 0 < fs.length; omega)
        have e := HV6.out.symm.trans hV
        injection e with e1 e2 e3
        injection e1 with e1
        injection e1 with e1
        subst e1 e3
        have hb : ∀ r, r < 4 → W.cell? ⟨g6, i * 4 + r, none⟩ = (fiC f)[r]? := fun r hr => (hc (i * 4 + r) (by show i * 4 + r < fs.length * 4; omega)).trans (fiC_at fs i f r Hs.out hr)
        exact ⟨hp.s.row.cell 0, hsb, hb 0 (by omega), hb 1 (by omega), hb 2 (by omega), hb 3 (by omega)⟩
      have HF : Hid (Calls Try.prog 29 #[.pointer (some ⟨p.w, 0, none⟩), .agg #[.int .i64 f.first, .int .i64 f.nb, .int .i64 f.k, .int .i64 f.l.length]] W1.drew fun e w' => ∃ A er, e = .returned (.tuple #[.pointer A, .int .i64 er]) ∧ Hid ((er = 7 ∧ Play w0 p sb n sz bl ws fs rs w') ∨ ∃ x r F' G', A = some ⟨x, 0, none⟩ ∧ er = 0 ∧ r.pos = 0 ∧ PB w0 p F' sb n sz bl ws fs (rs ++ [⟨x, r, i, true⟩]) G' V (stN ws fs rs) (stX ws fs rs) (stP ws) [] w') ∧
          w'.cell? ⟨sb, 0, none⟩ = some (.pointer (some ⟨p.w, 0, none⟩)) ∧ w'.cell? ⟨sb, 6, none⟩ = some (.slice (some ⟨g6, 0, none⟩) fs.length c6) ∧ w'.cell? ⟨g6, i * 4, none⟩ = some (.int .i64 f.first) ∧ w'.cell? ⟨g6, i * 4 + 1, none⟩ = some (.int .i64 f.nb) ∧ w'.cell? ⟨g6, i * 4 + 2, none⟩ = some (.int .i64 f.k) ∧ w'.cell? ⟨g6, i * 4 + 3, none⟩ = some (.int .i64 f.l.length)) := by
        refine (many_read HP.out.drew.m Hs.out).mono ?_
        rintro e w' (⟨he, t1, t2⟩ | ⟨x, r, F', G', he, hr, t1, t2⟩)
        · have hp3 := HP.out.drew.below t2
          exact ⟨_, _, he, .inl ⟨rfl, hp3.play HK.out (fun _ _ => rfl) (fun _ _ => rfl) rfl⟩, KF.out _ _ _ _ _ _ _ hp3⟩
        · have hp3 := HP.out.drew.turn t1 t2
          exact ⟨_, _, he, .inr ⟨x, r, F', G', rfl, rfl, hr, hp3⟩, KF.out _ _ _ _ _ _ _ hp3⟩
      have b0 : W1.drew.cell? ⟨sb, 0, none⟩ = some (.pointer (some ⟨p.w, 0, none⟩)) := b0
      have b6 : W1.drew.cell? ⟨sb, 6, none⟩ = some (.slice (some ⟨g6, 0, none⟩) fs.length c6) := d6
      obtain ⟨_, _, y0, y1, y2, y3⟩ := KF.out _ _ _ _ _ _ _ HP.out.drew
      clear KF HV6 Hs Hfr HP
      go_wp2
      go_region_held3 (fun w' => w'.cell? ⟨sb, 0, none⟩ = some (.pointer (some ⟨p.w, 0, none⟩)) ∧ w'.cell? ⟨sb, 6, none⟩ = some (.slice (some ⟨g6, 0, none⟩) fs.length c6) ∧ w'.cell? ⟨g6, i * 4, none⟩ = some (.int .i64 f.first) ∧ w'.cell? ⟨g6, i * 4 + 1, none⟩ = some (.int .i64 f.nb) ∧ w'.cell? ⟨g6, i * 4 + 2, none⟩ = some (.int .i64 f.k) ∧ w'.cell? ⟨g6, i * 4 + 3, none⟩ = some (.int .i64 f.l.length)) (first | with_reducible exact ⟨b0, b6, y0, y1, y2, y3⟩ | with_reducible exact q2)
        (first
          | (go_at_call 29; (with_reducible refine HF.out.mono ?_); rintro e w2 ⟨A, er, rfl, h2, q2⟩))
      clear HF q2 b0 b6 d6 y0 y1 y2 y3 y8 f0 f1 d8
      rcases h2.out with ⟨rfl, h3⟩ | ⟨x, r, F', G', rfl, rfl, hr, hp3⟩
      · have H3 := Lib.hid h3
        clear h2 h3
        go_wp2
        go_ret
        exact ⟨rfl, H3.out.after⟩
      · have HP := Lib.hid hp3
        have HR := Lib.hid hr
        have z1 : w2.cell? ⟨sb, 9, none⟩ = some (V 8) := hp3.cell (i := 8) (by omega)
        clear h2 hp3 hr
        go_wp2_with (with_reducible refine stopAt 62 ?_)
        unfold Hid
        refine wpList_push (HP.out.alloc _) rfl _ _ (i := 8) (by omega) 9 rfl rfl (by rfl) ⟨w2.heap.size, 0, none⟩ [.pointer (some ⟨x, 0, none⟩)] (by rfl) rfl (laid1 (heap_alloc_new _ _)) (by simp [Value.oneCell']) (by show rs.length ≤ _; have := Hn2.out; omega) ?_
        intro g1 c1 n1 w3 HN1 z2 z3 HP3
        have z4 : (w3.setCell ⟨sb, 9, none⟩ (.slice (some ⟨g1, 0, none⟩) n1 c1)).cell? ⟨sb, 10, none⟩ = some (V 9) := HP3.out.cell (i := 9) (by omega)
        clear HP z1
        go_wp2_with (with_reducible refine stopAt 72 ?_)
        unfold Hid
        have HZ3 : Hid ((w3.setCell ⟨sb, 9, none⟩ (.slice (some ⟨g1, 0, none⟩) n1 c1)).heap.size = w3.heap.size) := by unfold Hid; simp
        generalize w3.setCell ⟨sb, 9, none⟩ (.slice (some ⟨g1, 0, none⟩) n1 c1) = w4 at *
        clear z2 z3 z4
        refine wpList_push (HP3.out.alloc _) rfl _ _ (i := 9) (by omega) 10 rfl rfl (by rfl) ⟨w3.heap.size, 0, none⟩ [.int .i64 i] (by rfl) rfl (laid1 (by rw [← HZ3.out]; exact heap_alloc_new _ _)) (by simp [Value.oneCell']) (by show rs.length ≤ _; have := Hn2.out; omega) ?_
        intro g2 c2 n2 w5 HN2 z2 z3 HP4
        have z4 : (w5.setCell ⟨sb, 10, none⟩ (.slice (some ⟨g2, 0, none⟩) n2 c2)).cell? ⟨sb, 11, none⟩ = some (V 10) := HP4.out.cell (i := 10) (by omega)
        clear HP3
        go_wp2_with (with_reducible refine stopAt 81 ?_)
        unfold Hid
        have HZ5 : Hid ((w5.setCell ⟨sb, 10, none⟩ (.slice (some ⟨g2, 0, none⟩) n2 c2)).heap.size = w5.heap.size) := by unfold Hid; simp
        generalize w5.setCell ⟨sb, 10, none⟩ (.slice (some ⟨g2, 0, none⟩) n2 c2) = w6 at *
        clear z2 z3 z4
        refine wpList_push (HP4.out.alloc _) rfl _ _ (i := 10) (by omega) 11 rfl rfl (by rfl) ⟨w5.heap.size, 0, none⟩ [.int .i64 0] (by rfl) rfl (laid1 (by rw [← HZ5.out]; exact heap_alloc_new _ _)) (by simp [Value.oneCell']) (by show rs.length ≤ _; have := Hn2.out; omega) ?_
        intro g3 c3 n3 w7 HN3 z2 z3 HP5
        have z4 : (w7.setCell ⟨sb, 11, none⟩ (.slice (some ⟨g3, 0, none⟩) n3 c3)).cell? ⟨sb, 12, none⟩ = some (V 11) := HP5.out.cell (i := 11) (by omega)
        clear HP4
        go_wp2_with (with_reducible refine stopAt 90 ?_)
        unfold Hid
        have HZ7 : Hid ((w7.setCell ⟨sb, 11, none⟩ (.slice (some ⟨g3, 0, none⟩) n3 c3)).heap.size = w7.heap.size) := by unfold Hid; simp
        generalize w7.setCell ⟨sb, 11, none⟩ (.slice (some ⟨g3, 0, none⟩) n3 c3) = w8 at *
        clear z2 z3 z4
        refine wpList_push (HP5.out.alloc _) rfl _ _ (i := 11) (by omega) 12 rfl rfl (by rfl) ⟨w7.heap.size, 0, none⟩ [.bool true] (by rfl) rfl (laid1 (by rw [← HZ7.out]; exact heap_alloc_new _ _)) (by simp [Value.oneCell']) (by show rs.length ≤ _; have := Hn2.out; omega) ?_
        intro g4 c4 n4 w9 HN4 z2 z3 HP6
        clear HP5
        have HE : Hid (After w0 p sb n sz bl ws fs rs (w9.setCell ⟨sb, 12, none⟩ (.slice (some ⟨g4, 0, none⟩) n4 c4))) := by
          refine ⟨n, ws, fs, _, by omega, by omega, by omega, by simp, HP6.out.play HK.out (all12 rfl rfl rfl rfl rfl rfl rfl rfl ?_ ?_ ?_ ?_) (all12 rfl rfl rfl rfl rfl rfl rfl rfl ?_ ?_ ?_ ?_) rfl⟩
          · show n1 = (rs ++ [_]).length
            rw [HN1.out]; simp [stN]
          · show n2 = (rs ++ [_]).length
            rw [HN2.out]; simp [stN, updS]
          · show n3 = (rs ++ [_]).length
            rw [HN3.out]; simp [stN, updS]
          · show n4 = (rs ++ [_]).length
            rw [HN4.out]; simp [stN, updS]
          · simp [updS, stX]
          · simp [updS, stX]
          · simp [updS, stX, HR.out]
          · simp [updS, stX]
        clear HP6 HN1 HN2 HN3 HN4
        go_wp2
        go_ret
        exact ⟨rfl, HE.out⟩
  · clear HP HK HA6 HA8 HV6
    rcases (by omega : k < 0 ∨ (0 ≤ k ∧ (fs.length : Int) ≤ k)) with h1 | ⟨h1, h2⟩
    all_goals
      clear hin
      go_wp2
      go_ret
      exact ⟨rfl, HPL.out.after⟩
end
end Go.Proofs.Ytbkgpilmgllkiaa
