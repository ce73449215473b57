/- The grants of a law, one behind the other; what awake and clear answer. -/
import Derived.Test.YtohhneeliaankaaArFn
import Derived.Test.YtohhneeliaankaaPairs
namespace Go.Proofs.Ytohhneeliaankaa
open Go.ChangeShapes Go.WideShapes Go.ChangeAt Go.RowKit

/-! ### grants, one behind the other: block, words, whether it stands -/
def stOf : List (Nat × Nat × Bool) → List (Nat × Nat)
  | [] => []
  | g :: l => if g.2.2 then (g.1, g.2.1) :: stOf l else stOf l
theorem stOf_snoc (b n : Nat) : ∀ l, stOf (l ++ [(b, n, true)]) = stOf l ++ [(b, n)]
  | [] => rfl
  | g :: l => by
    show (if g.2.2 then (g.1, g.2.1) :: stOf (l ++ [(b, n, true)]) else stOf (l ++ [(b, n, true)])) = (if g.2.2 then (g.1, g.2.1) :: stOf l else stOf l) ++ [(b, n)]
    rw [stOf_snoc b n l]; split <;> rfl
theorem stOf_mem : ∀ (l : List (Nat × Nat × Bool)) (q : Nat × Nat), q ∈ stOf l → (q.1, q.2, true) ∈ l
  | [], _, h => by cases h
  | g :: l, q, h => by
    have h' : q ∈ (if g.2.2 then (g.1, g.2.1) :: stOf l else stOf l) := h
    by_cases hg : g.2.2 = true
    · rw [if_pos hg] at h'
      rcases List.mem_cons.1 h' with h' | h'
      · obtain ⟨g1, g2, g3⟩ := g
        simp only at hg; subst hg
        rw [h']; exact List.mem_cons_self
      · exact List.mem_cons_of_mem _ (stOf_mem l q h')
    · rw [if_neg hg] at h'
      exact List.mem_cons_of_mem _ (stOf_mem l q h')
theorem stOf_nil : ∀ (l : List (Nat × Nat × Bool)), (∀ (k : Nat) (q : Nat × Nat × Bool), l[k]? = some q → q.2.2 = false) → stOf l = []
  | [], _ => rfl
  | g :: l, h => by
    show (if g.2.2 then (g.1, g.2.1) :: stOf l else stOf l) = []
    rw [if_neg (by rw [h 0 g rfl]; decide)]
    exact stOf_nil l fun k q hq => h (k + 1) q (by simpa using hq)
/-- no two have one block -/
def Apart (l : List (Nat × Nat × Bool)) : Prop := l.Pairwise fun g h => g.1 ≠ h.1
theorem wordsAt_stOf : ∀ (l : List (Nat × Nat × Bool)) (k b n : Nat) (t : Bool), Apart l → l[k]? = some (b, n, t) → wordsAt (stOf l) b = if t then some n else none
  | [], _, _, _, _, _, h => by simp at h
  | g :: l, 0, b, n, t, ha, h => by
    simp at h; subst h
    obtain ⟨h1, h2⟩ := List.pairwise_cons.1 ha
    show wordsAt (if t then (b, n) :: stOf l else stOf l) b = _
    cases t
    · exact wordsAt_fresh _ _ fun q hq => fun e => h1 _ (stOf_mem l q hq) e.symm
    · show (if b = b then some n else _) = _; rw [if_pos rfl]; rfl
  | g :: l, k + 1, b, n, t, ha, h => by
    obtain ⟨h1, h2⟩ := List.pairwise_cons.1 ha
    have h' : l[k]? = some (b, n, t) := by simpa using h
    have ih := wordsAt_stOf l k b n t h2 h'
    have hne := h1 _ (List.mem_of_getElem? h')
    show wordsAt (if g.2.2 then (g.1, g.2.1) :: stOf l else stOf l) b = _
    split
    · show (if g.1 = b then _ else wordsAt (stOf l) b) = _
      rw [if_neg hne]; exact ih
    · exact ih
theorem without_stOf : ∀ (l : List (Nat × Nat × Bool)) (k b n : Nat), Apart l → l[k]? = some (b, n, true) → stOf (l.set k (b, n, false)) = without (stOf l) b
  | [], _, _, _, _, h => by simp at h
  | g :: l, 0, b, n, ha, h => by
    simp at h; subst h
    show stOf l = without ((b, n) :: stOf l) b
    unfold without; rw [if_pos rfl]
  | g :: l, k + 1, b, n, ha, h => by
    obtain ⟨h1, h2⟩ := List.pairwise_cons.1 ha
    have h' : l[k]? = some (b, n, true) := by simpa using h
    have ih := without_stOf l k b n h2 h'
    have hne := h1 _ (List.mem_of_getElem? h')
    show (if g.2.2 then (g.1, g.2.1) :: stOf (l.set k (b, n, false)) else stOf (l.set k (b, n, false))) = without (if g.2.2 then (g.1, g.2.1) :: stOf l else stOf l) b
    rw [ih]
    split
    · have e : without ((g.1, g.2.1) :: stOf l) b = (g.1, g.2.1) :: without (stOf l) b := by show (if g.1 = b then _ else _) = _; rw [if_neg hne]
      rw [e]
    · rfl
theorem apart_set {l : List (Nat × Nat × Bool)} (ha : Apart l) {k b n m : Nat} {t u : Bool} (h : l[k]? = some (b, n, t)) : Apart (l.set k (b, m, u)) := by
  have e : (l.set k (b, m, u)).map (fun g => g.1) = l.map fun g => g.1 := by
    rw [List.map_set]
    apply List.ext_getElem?
    intro j
    rw [List.getElem?_set]
    by_cases hj : k = j
    · subst hj
      have hk := (List.getElem?_eq_some_iff.1 h).1
      rw [if_pos rfl, if_pos (by simpa using hk), List.getElem?_map, h]; rfl
    · rw [if_neg hj]
  have h1 : (l.map fun g => g.1).Pairwise (· ≠ ·) := List.pairwise_map.2 ha
  rw [← e] at h1
  exact List.pairwise_map.1 h1
theorem apart_snoc {l : List (Nat × Nat × Bool)} (ha : Apart l) {b n : Nat} {t : Bool} (hb : ∀ q ∈ l, q.1 ≠ b) : Apart (l ++ [(b, n, t)]) := by
  refine List.pairwise_append.2 ⟨ha, List.pairwise_singleton _ _, fun x hx y hy => ?_⟩
  have : y = (b, n, t) := by simpa using hy
  subst this; exact hb x hx
theorem ptrs_set (l : List (Nat × Nat × Bool)) {k b n m : Nat} {t u : Bool} (h : l[k]? = some (b, n, t)) : (l.set k (b, m, u)).map (fun g => ptr g.1) = l.map fun g => ptr g.1 := by
  rw [List.map_set]
  apply List.ext_getElem?
  intro j
  rw [List.getElem?_set]
  by_cases hj : k = j
  · subst hj
    have hk := (List.getElem?_eq_some_iff.1 h).1
    rw [if_pos rfl, if_pos (by simpa using hk), List.getElem?_map, h]; rfl
  · rw [if_neg hj]

/-- an arena and the grants l of it: those that stand no more have no words -/
def Play (w : World) (G : Nat → Prop) (p : Nat) (s : Ar) (l : List (Nat × Nat × Bool)) : Prop :=
  Arn w G p s ∧ s.st = stOf l ∧ Apart l ∧ ∀ q ∈ l, ∃ v, Row w q.1 42 [v] ∧ (q.2.2 = false → v = .slice none 0 0)
/-- the slice v is the law's own list of the blocks l -/
def Own (w : World) (base : Nat) (v : Value) (l : List (Nat × Nat × Bool)) : Prop := w.ownsRow base 31 1 v l.length (l.map fun g => ptr g.1)
section
variable {w w' : World} {G G' : Nat → Prop} {p : Nat} {s : Ar} {l : List (Nat × Nat × Bool)}
theorem Play.arn (h : Play w G p s l) : Arn w G p s := h.1
theorem Play.buf (h : Play w G p s l) {k : Nat} {q : Nat × Nat × Bool} (hq : l[k]? = some q) : Buf w q.1 := by obtain ⟨v, hr, _⟩ := h.2.2.2 q (List.mem_of_getElem? hq); exact ⟨v, hr⟩
theorem Play.at_ (h : Play w G p s l) {k b n : Nat} {t : Bool} (hq : l[k]? = some (b, n, t)) : wordsAt s.st b = if t then some n else none := by rw [h.2.1]; exact wordsAt_stOf l k b n t h.2.2.1 hq
/-- what is known when all rows but the arena have stayed -/
theorem Play.keep (h : Play w G p s l) (hA : Arn w' G p s) (hf : ∀ k cs, Row w k 42 cs → Row w' k 42 cs) : Play w' G p s l :=
  ⟨hA, h.2.1, h.2.2.1, fun q hq => by obtain ⟨v, hr, hv⟩ := h.2.2.2 q hq; exact ⟨v, hf _ _ hr, hv⟩⟩
theorem Play.below (h : Play w G p s l) (hb : Below w.heap.size w w') : Play w' G p s l := h.keep (h.1.below hb) fun _ _ hr => hr.below hb hr.lt
theorem Play.granted (h : Play w G p s l) {b n : Nat} {v : Value} (hA : Arn w' G' p (grant s b n)) (hr : Row w' b 42 [v]) (hb : w.heap.size ≤ b) (hf : Far G w w') : Play w' G' p (grant s b n) (l ++ [(b, n, true)]) := by
  refine ⟨hA, by rw [stOf_snoc, ← h.2.1]; rfl, apart_snoc h.2.2.1 fun q hq e => ?_, fun q hq => ?_⟩
  · obtain ⟨v, hr, _⟩ := h.2.2.2 q hq; have := hr.lt; omega
  · rcases List.mem_append.1 hq with hq | hq
    · obtain ⟨v, hr, hv⟩ := h.2.2.2 q hq
      exact ⟨v, h.1.row hf (fun _ hk => hk) hr (by decide), hv⟩
    · have : q = (b, n, true) := by simpa using hq
      subst this; exact ⟨v, hr, fun e => by cases e⟩
theorem Play.released (h : Play w G p s l) {k b n : Nat} (hk : l[k]? = some (b, n, true)) (hA : Arn w' G p (release s b n)) (hr : Row w' b 42 [.slice none 0 0]) (hf : Far (fun j => G j ∨ j = b) w w') : Play w' G p (release s b n) (l.set k (b, n, false)) := by
  refine ⟨hA, by rw [without_stOf l k b n h.2.2.1 hk, ← h.2.1]; rfl, apart_set h.2.2.1 hk, fun q hq => ?_⟩
  rcases List.mem_or_eq_of_mem_set hq with hq | rfl
  · obtain ⟨v, hrq, hv⟩ := h.2.2.2 q hq
    by_cases e : q.1 = b
    · exact ⟨_, e ▸ hr, fun _ => rfl⟩
    · exact ⟨v, hf.row hrq fun hj => hj.elim (h.1.types hrq (by decide)) e, hv⟩
  · exact ⟨_, hr, fun _ => rfl⟩
theorem Own.keep {base : Nat} {v : Value} (h : Own w base v l) (hf : ∀ k cs, Row w k 31 cs → Row w' k 31 cs) : Own w' base v l := by
  obtain ⟨h1, h2⟩ := h
  refine ⟨h1, ?_⟩
  rcases h2 with h2 | ⟨g, cap, cur, rfl, hg, hh, r⟩
  · exact .inl h2
  · have hr : Row w g 31 cur.toList := by unfold Row; simpa using hh
    have := hf g _ hr
    exact .inr ⟨g, cap, cur, rfl, hg, by unfold Row at this; simpa using this, r⟩
theorem Own.form {base : Nat} {v : Value} (h : Own w base v l) : ∃ A c, v = .slice A l.length c ∧ l.length ≤ c := by
  rcases h.2 with ⟨rfl, h0⟩ | ⟨g, cap, cur, rfl, _, _, hcap, _⟩
  · exact ⟨none, 0, by rw [h0], by omega⟩
  · exact ⟨_, _, rfl, hcap⟩
theorem Own.at_ {base : Nat} {v : Value} (h : Own w base v l) {k : Nat} {q : Nat × Nat × Bool} (hq : l[k]? = some q) : ∃ g c, v = .slice (some ⟨g, 0, none⟩) l.length c ∧ w.cell? ⟨g, k, none⟩ = some (ptr q.1) := by
  have hk := (List.getElem?_eq_some_iff.1 hq).1
  obtain ⟨g, cap, cs, rfl, _, hr, _, _, _, ht⟩ := own_row h (by omega)
  refine ⟨g, cap, rfl, ?_⟩
  have h1 : (cs.take l.length)[k]? = cs[k]? := by rw [List.getElem?_take, if_pos hk]
  rw [hr.cell k, ← h1, ht, List.getElem?_map, hq]; rfl
/-- no row of another type is the law's own list -/
theorem Own.not_row {base : Nat} {v : Value} (h : Own w base v l) {g : Nat} {t : TypeId} {cs : List Value} (hr : Row w g t cs) (ht : t ≠ 31) : some g ≠ v.ownBlock := by
  rcases h.2 with ⟨rfl, _⟩ | ⟨g', cap, cur, rfl, _, hh, _⟩
  · simp [Value.ownBlock]
  · simp only [Value.ownBlock]
    intro e; injection e with e; subst e
    have hr' : Row w g 31 cur.toList := by unfold Row; simpa using hh
    exact ht (hr.typed hr')
theorem Own.not_map {base : Nat} {v : Value} (h : Own w base v l) {b : Nat} {m : List (Nat × Nat)} (hm : PMap w b m) : some b ≠ v.ownBlock := by
  rcases h.2 with ⟨rfl, _⟩ | ⟨g', cap, cur, rfl, _, hh, _⟩
  · simp [Value.ownBlock]
  · simp only [Value.ownBlock]
    intro e; injection e with e; subst e
    obtain ⟨es, clock, h1, _⟩ := hm
    rw [h1] at hh; cases hh
/-- an append to the law's own list is nothing to the arena -/
theorem Play.append (h : Play w G p s l) {base : Nat} {v : Value} {l' : List (Nat × Nat × Bool)} (ho : Own w base v l') (hf : ∀ k, k < w.heap.size → some k ≠ v.ownBlock → w'.heap[k]? = w.heap[k]?) (hs : w.heap.size ≤ w'.heap.size) : Play w' G p s l := by
  have hrow : ∀ k t cs, t ≠ 31 → Row w k t cs → Row w' k t cs := fun k t cs ht hr => (hf k hr.lt (ho.not_row hr ht)).trans hr
  refine h.keep (h.1.keep (fun k hk => hf k (h.1.lt hk) ?_) (fun q _ hb => by obtain ⟨u, hb⟩ := hb; exact ⟨u, hrow _ _ _ (by decide) hb⟩) hs) fun k cs hr => hrow _ _ _ (by decide) hr
  obtain ⟨h0, ⟨m, h1, h2, h3⟩, _⟩ := h.1
  rcases h3 k hk with rfl | rfl
  · exact ho.not_row h1 (by decide)
  · rcases h2 with ⟨e, _⟩ | ⟨b, e, hb, _⟩
    · cases e
    · injection e with e; subst e; exact ho.not_map hb
end

/-! ### an arena, its grants gs, and the law's own list of them, at the value av; blocks below B have stayed since w0 -/
def Run (B : Nat) (w0 w : World) (G : Nat → Prop) (p : Nat) (s : Ar) (av : Value) (gs os : List (Nat × Nat × Bool)) : Prop :=
  Play w G p s gs ∧ Own w B av os ∧ (∀ k, G k → B ≤ k) ∧ (∀ q ∈ gs, B ≤ q.1) ∧ Below B w0 w
section
variable {B : Nat} {w0 w w' : World} {G G' : Nat → Prop} {p : Nat} {s : Ar} {av : Value} {gs os : List (Nat × Nat × Bool)}
theorem Run.play (h : Run B w0 w G p s av gs os) : Play w G p s gs := h.1
theorem Run.own (h : Run B w0 w G p s av gs os) : Own w B av os := h.2.1
theorem Run.bel (h : Run B w0 w G p s av gs os) : Below B w0 w := h.2.2.2.2
theorem Run.arn (h : Run B w0 w G p s av gs os) : Arn w G p s := h.1.1
theorem Run.row (h : Run B w0 w G p s av gs os) : ∃ m, Row w p 56 (arCells s m) := by obtain ⟨_, ⟨m, hr, _⟩, _⟩ := h.1.1; exact ⟨m, hr⟩
theorem Run.start {w1 : World} (hA : Arn w1 G p s) (hs : s.st = []) (hG : ∀ k, G k → B ≤ k) (hb : Below B w0 w1) : Run B w0 w1 G p s (.slice none 0 0) [] [] :=
  ⟨⟨hA, hs, List.Pairwise.nil, fun q hq => by cases hq⟩, World.ownsRow_nil _ _ _ _, hG, (fun q hq => by cases hq), hb⟩
theorem Run.below (h : Run B w0 w G p s av gs os) (hb : Below w.heap.size w w') (hB : B ≤ w.heap.size) : Run B w0 w' G p s av gs os :=
  ⟨h.1.below hb, h.2.1.keep fun _ _ hr => hr.below hb hr.lt, h.2.2.1, h.2.2.2.1, h.bel.trans (hb.mono hB)⟩
theorem Run.drewN (h : Run B w0 w G p s av gs os) (hB : B ≤ w.heap.size) (m : Nat) : Run B w0 (w.drewN m) G p s av gs os := h.below (below_drewN (Below.refl _ _) _) hB
theorem run_grant (h : Run B w0 w G p s av gs os) (hB : B ≤ w.heap.size) (n : Nat) (hn : n ≤ s.room - s.used) (hm : n ≤ 268435455) :
    Calls Try.prog 10 #[.pointer (some ⟨p, 0, none⟩), .int .i64 (n : Int)] w fun e w' => ∃ b g G', e = .returned (.tuple #[.pointer (some ⟨b, 0, none⟩), .int .i64 0]) ∧ Run B w0 w' G' p (grant s b n) av (gs ++ [(b, n, true)]) os ∧
      Row w' b 42 [.slice (some ⟨g, 0, none⟩) n n] ∧ Row w' g 50 (List.replicate n (.int .u64 0)) ∧ w.heap.size ≤ b ∧ w.heap.size ≤ g ∧ w.heap.size ≤ w'.heap.size ∧ ∀ k t cs, t ≠ 56 → Row w k t cs → Row w' k t cs := by
  refine (grant_any p s G n w h.arn hn hm).mono ?_
  rintro e w1 ⟨b, g, G', rfl, ha, hr, hg, hb, hgw, hne, _, _, hf, hG⟩
  refine ⟨b, g, G', rfl, ⟨h.1.granted ha hr hb hf, h.2.1.keep fun k cs hk => h.arn.row hf (fun _ hx => hx) hk (by decide), fun k hk => (hG k hk).elim (h.2.2.1 k) fun hx => by omega, fun q hq => ?_, h.bel.trans (hf.below hB h.2.2.1)⟩, hr, hg, hb, hgw, hf.size, fun k t cs ht hk => h.arn.row hf (fun _ hx => hx) hk ht⟩
  rcases List.mem_append.1 hq with hq | hq
  · exact h.2.2.2.1 q hq
  · have : q = (b, n, true) := by simpa using hq
    subst this; show B ≤ b; omega
theorem set_same (l : List (Nat × Nat × Bool)) {k : Nat} {q : Nat × Nat × Bool} (h : l[k]? = some q) : l.set k q = l := by
  apply List.ext_getElem?
  intro j
  rw [List.getElem?_set]
  by_cases hj : k = j
  · subst hj
    have hk := (List.getElem?_eq_some_iff.1 h).1
    rw [if_pos rfl, if_pos hk, h]
  · rw [if_neg hj]
/-- s, when block b, which has n words if it stands, is released -/
def rel (s : Ar) (b n : Nat) (t : Bool) : Ar := if t then release s b n else s
theorem rel_room (s : Ar) (b n : Nat) (t : Bool) : (rel s b n t).room = s.room := by cases t <;> rfl
theorem rel_peak (s : Ar) (b n : Nat) (t : Bool) : (rel s b n t).peak = s.peak := by cases t <;> rfl
theorem run_release (h : Run B w0 w G p s av gs gs) (hB : B ≤ w.heap.size) {k b n : Nat} {t : Bool} (hk : gs[k]? = some (b, n, t)) :
    Calls Try.prog 13 #[.pointer (some ⟨p, 0, none⟩), .pointer (some ⟨b, 0, none⟩)] w fun e w' => e = .returned (.bool t) ∧ Run B w0 w' G p (rel s b n t) av (gs.set k (b, n, false)) (gs.set k (b, n, false)) ∧
      Row w' b 42 [.slice none 0 0] ∧ w.heap.size ≤ w'.heap.size ∧ ∀ j t cs, t ≠ 56 → j ≠ b → Row w j t cs → Row w' j t cs := by
  have hbuf := h.1.buf hk
  have hw := h.1.at_ hk
  cases t
  · refine (release_no p s G b w h.arn hbuf hw).mono ?_
    rintro e w1 ⟨rfl, rfl⟩
    obtain ⟨v, hr, hv⟩ := h.1.2.2.2 _ (List.mem_of_getElem? hk)
    rw [set_same gs hk]
    exact ⟨rfl, h, by rw [hv rfl] at hr; exact hr, Nat.le_refl _, fun _ _ _ _ _ hr => hr⟩
  · refine (release_any p s G b n w h.arn hbuf hw).mono ?_
    rintro e w1 ⟨rfl, ha, hr, hf⟩
    have hBb : B ≤ b := h.2.2.2.1 _ (List.mem_of_getElem? hk)
    have hrow : ∀ j t cs, t ≠ 56 → j ≠ b → Row w j t cs → Row w1 j t cs := fun j t cs ht hj hr => hf.row hr fun hx => hx.elim (h.arn.types hr ht) hj
    refine ⟨rfl, ⟨h.1.released hk ha hr hf, ?_, h.2.2.1, fun q hq => ?_, h.bel.trans (hf.below hB fun x hx => hx.elim (h.2.2.1 x) fun e => e ▸ hBb)⟩, hr, hf.size, hrow⟩
    · have ho : Own w1 B av gs := h.2.1.keep fun j cs hj => hrow j _ cs (by decide) (fun e => by obtain ⟨v, hb⟩ := hbuf; subst e; exact absurd (hj.typed hb) (by decide)) hj
      unfold Own at ho ⊢
      rw [ptrs_set gs hk, List.length_set]; exact ho
    · rcases List.mem_or_eq_of_mem_set hq with hq | rfl
      · exact h.2.2.2.1 q hq
      · exact hBb
theorem infoP : (Try.prog.info? 31).map (fun i => (i.zero, i.size, i.bytes)) = some (some (.pointer none), 1, 8) := by kernel_rfl
/-- 'all = append(all, b)' -/
theorem wpList_push {w : World} {ops : Array Oper} {rest : List Oper} {o : Oper} {a : Act} {Q : Exit → Act → World → Prop} (hgd : o.guard = none) (sl x : Operand) (ho : o.op = .call { callee := .builtin .append, args := #[sl, x], argTypes := #[28, 28] })
    (h : Run B w0 w G p s av gs os) (hB : B ≤ w.heap.size) (hs : a.eval sl = av) (g b n c : Nat) (t : Bool) (hx : a.eval x = .slice (some ⟨g, 0, none⟩) 1 c) (hc : w.cell? ⟨g, 0, none⟩ = some (ptr b)) (hl : os.length ≤ 1000000)
    (hK : ∀ v' w', Run B w0 w' G p s v' gs (os ++ [(b, n, t)]) → w.heap.size ≤ w'.heap.size → (∀ k t cs, t ≠ 31 → Row w k t cs → Row w' k t cs) → wpList Try.prog ops Q rest (a.put o.dst v') w') : wpList Try.prog ops Q (o :: rest) a w := by
  obtain ⟨i0, hi0, hz0, hz1, hz2⟩ := info_parts infoP
  refine wpList_append_list3 w hgd sl x 28 ho B 31 i0 (.pointer none) 8 Try.underlying28 hi0 hz0 hz1 hz2 rfl av os.length _ hs h.own _ 1 c [ptr b] hx rfl ?_ ?_ (by unfold maxLen; omega) (by omega) hB ?_
  · intro _
    refine ⟨_, rfl, fun j u hj => ?_⟩
    match j, hj with
    | 0, hj => simp at hj; subst hj; rw [add_row]; exact hc
  · intro u hu
    have : u = ptr b := by simpa using hu
    subst this; rfl
  · intro v' w1 h1 h2 h3
    have hrow : ∀ k t cs, t ≠ 31 → Row w k t cs → Row w1 k t cs := fun k t cs ht hr => (h3 k hr.lt (h.own.not_row hr ht)).trans hr
    refine hK v' w1 ⟨h.1.append h.own h3 h2.size, ?_, h.2.2.1, h.2.2.2.1, h.bel.trans h2⟩ h2.size hrow
    unfold Own
    rw [List.length_append, List.map_append]; exact h1
end
theorem awake_any (w : World) : Calls Try.prog 7 #[] w fun e w' => e = .returned (.bool true) ∧ Below w.heap.size w w' := by
  have hnew := arnew_any 10 w (by omega) (by omega)
  go_enter Try.func7, Try.ntmps7
  go_wp2_with fail
  refine hnew.mono ?_
  rintro e w1 ⟨rfl, ha1, hb1⟩
  have hgr := grant_any w.heap.size (empty 10) _ 4 w1 ha1 (by show 4 ≤ 10 - 0; omega) (by omega)
  have HB1 := Lib.hid hb1
  clear hnew ha1 hb1
  unfold ptr
  go_wp2_with fail
  refine hgr.mono ?_
  rintro e w2 ⟨b, g, G', rfl, ha2, hr2, _, _, _, _, _, _, hf2, _⟩
  have c0 : w2.cell? ⟨b, 0, none⟩ = some (.slice (some ⟨g, 0, none⟩) 4 4) := hr2.cell 0
  obtain ⟨h0, ⟨m, hra, _⟩, _⟩ := id ha2
  have hl := arleft_any w.heap.size (grant (empty 10) b 4) m w2 hra h0
  have HL : Hid ((grant (empty 10) b 4).room - (grant (empty 10) b 4).used = 6) := rfl
  rw [HL.out] at hl
  have HB2 := Lib.hid (HB1.out.trans (hf2.below (B := w.heap.size) HB1.out.size fun k hk => by omega))
  clear hgr ha2 hr2 hf2 h0 hra HL
  unfold ptr
  go_wp2_with fail
  refine hl.mono ?_
  rintro e w3 ⟨rfl, rfl⟩
  go_wp2
  go_ret
  exact ⟨rfl, HB2.out⟩
set_option maxRecDepth 100000 in
theorem clear_any (b g n : Nat) (w : World) (hb : Row w b 42 [.slice (some ⟨g, 0, none⟩) n n]) (hg : Row w g 50 (List.replicate n (.int .u64 0))) (hn : n ≤ 268435455) :
    Calls Try.prog 12 #[.pointer (some ⟨b, 0, none⟩), .int .i64 (n : Int)] w fun e w' => e = .returned (.bool true) ∧ w' = w := by
  have c0 : w.cell? ⟨b, 0, none⟩ = some (.slice (some ⟨g, 0, none⟩) n n) := hb.cell 0
  have hcell : ∀ i, i < n → w.cell? ⟨g, i, none⟩ = some (.int .u64 0) := fun i hi => by rw [hg.cell i, List.getElem?_replicate, if_pos hi]
  clear hb hg
  go_enter Try.func12, Try.ntmps12
  go_wp2
  go_loopw [5] (fun iv wr => ∃ i : Nat, i ≤ n ∧ iv = .int .i64 (i : Int) ∧ wr = w) (fun iv _ => n - (intOf iv).toNat)
  case atStart => exact ⟨0, by omega, rfl, by trivial⟩
  case round =>
    obtain ⟨i, hi, rfl, rfl⟩ := hrel
    by_cases hlt : i < n
    · have g0 : decide (i < n) = true := by simpa using hlt
      have ci := hcell i hlt
      have hj0 : (0 : Int) ≤ (i : Int) := by omega
      have hj1 : (i : Int) < (n : Int) := by omega
      go_wp2
      go_roundw
      case rel => exact ⟨i + 1, by omega, by go_num, by trivial⟩
      case measure => simp [intOf]; omega
    · have g0 : decide (i < n) = false := by simpa using hlt
      go_wp2
      go_ret
      exact ⟨rfl, rfl⟩
end Go.Proofs.Ytohhneeliaankaa
