/- Words for objects behind pointers: an integer of 64 bits, 'but for the blocks of F all has stayed', a slice of bools that came in, a stop ahead of a store into a map. No type of the seat is named here. -/
import Derived.Test.YtoimpiimlekakaaWords
namespace Go.Proofs.Ytoimpiimlekakaa
open Go.ChangeShapes Go.WideShapes Go.ChangeAt Go.RowKit

/-- an integer of 64 bits -/
def I64 (n : Int) : Prop := (Lit.int .i64 n).wf = true
theorem I64.bounds {n : Int} (h : I64 n) : -9223372036854775808 ≤ n ∧ n ≤ 9223372036854775807 := i64_bounds h
theorem I64.of {n : Int} (h0 : -9223372036854775808 ≤ n) (h1 : n ≤ 9223372036854775807) : I64 n := by
  simp [I64, Lit.wf, IntKind.min, IntKind.max, IntKind.signed, IntKind.bits]; omega

/-- but for the blocks of F what there was has stayed -/
structure Far (F : Nat → Prop) (w w' : World) : Prop where
  os : w'.os = w.os
  tape : w'.tape = w.tape
  output : w'.output = w.output
  size : w.heap.size ≤ w'.heap.size
  block : ∀ k, k < w.heap.size → ¬ F k → w'.heap[k]? = w.heap[k]?
section
variable {F F' : Nat → Prop} {w w1 w2 : World}
theorem Far.refl (F : Nat → Prop) (w : World) : Far F w w := ⟨rfl, rfl, rfl, Nat.le_refl _, fun _ _ _ => rfl⟩
theorem Far.trans (h : Far F w w1) (k : Far F' w1 w2) (hF : ∀ b, F' b → F b ∨ w.heap.size ≤ b) : Far F w w2 :=
  ⟨k.os.trans h.os, k.tape.trans h.tape, k.output.trans h.output, Nat.le_trans h.size k.size, fun b hb hn => (k.block b (Nat.lt_of_lt_of_le hb h.size) fun hf => by
    rcases hF b hf with h1 | h1
    · exact hn h1
    · omega).trans (h.block b hb hn)⟩
theorem Far.of_below (h : Below w.heap.size w w1) (F : Nat → Prop) : Far F w w1 := ⟨h.os, h.tape, h.output, h.size, fun k hk _ => h.block k hk⟩
theorem Far.below (h : Far F w w1) {B : Nat} (hB : B ≤ w.heap.size) (hF : ∀ b, F b → B ≤ b) : Below B w w1 := ⟨h.os, h.tape, h.output, h.size, fun k hk => h.block k (by omega) fun hf => by have := hF k hf; omega⟩
theorem Far.mono (h : Far F w w1) (hF : ∀ b, F b → F' b) : Far F' w w1 := ⟨h.os, h.tape, h.output, h.size, fun k hk hn => h.block k hk fun hf => hn (hF k hf)⟩
theorem Far.drewN (h : Far F w w1) (m : Nat) : Far F w (w1.drewN m) := ⟨h.os, h.tape, h.output, h.size, h.block⟩
theorem Far.drew (h : Far F w w1) : Far F w w1.drew := ⟨h.os, h.tape, h.output, h.size, h.block⟩
theorem Far.set (h : Far F w w1) {p : Addr} (hp : F p.block ∨ w.heap.size ≤ p.block) (v : Value) : Far F w (w1.setCell p v) := by
  have h0 := (Below.refl 0 w1).setCell (Nat.zero_le p.block) v
  refine h.trans (F' := fun b => b = p.block) ⟨h0.os, h0.tape, h0.output, h0.size, fun k _ hn => heap_setCell_other w1 p k v hn⟩ ?_
  intro b hb; subst hb; exact hp
theorem Far.alloc (h : Far F w w1) (o : Obj) : Far F w (w1.alloc o) := h.trans (Far.of_below ((Below.refl _ w1).alloc (Nat.le_refl _) o) fun _ => False) fun _ hf => hf.elim
theorem Far.grown (h : Far F w w1) {row : Option Nat} (hg : w1.grownBy w2 row) (hr : ∀ k, row = some k → F k ∨ w.heap.size ≤ k) : Far F w w2 :=
  h.trans (F' := fun b => row = some b) ⟨hg.os, hg.tape, hg.output, hg.size, fun k hk hn => hg.block k hk fun e => hn e.symm⟩ fun b hb => hr b hb
theorem Far.row (h : Far F w w1) {g : Nat} {t : TypeId} {cs : List Value} (hr : Row w g t cs) (hn : ¬ F g) : Row w1 g t cs := (h.block g hr.lt hn).trans hr
end
/-- A slice value that reads as the bools l; the cells lie below block B. -/
def ReadsB (w : World) (B : Nat) (a : Option Addr) (n : Nat) (l : List Bool) : Prop :=
  l.length = n ∧ (0 < n → ∃ b off, a = some ⟨b, off, none⟩ ∧ b < B ∧ ∀ i, i < n → w.cell? ⟨b, off + i, none⟩ = some (.bool (l.getD i false)))
theorem ReadsB.keep {w w' : World} {B : Nat} {a : Option Addr} {n : Nat} {l : List Bool} (h : ReadsB w B a n l) (hb : Below B w w') : ReadsB w' B a n l := by
  obtain ⟨hl, hc⟩ := h
  refine ⟨hl, fun hn => ?_⟩
  obtain ⟨b, off, rfl, hbB, hc⟩ := hc hn
  exact ⟨b, off, rfl, hbB, fun i hi => (hb.cell (p := ⟨b, off + i, none⟩) hbB).trans (hc i hi)⟩
theorem ReadsB.far {w w1 : World} {B : Nat} {A : Option Addr} {n : Nat} {l : List Bool} {F : Nat → Prop} (h : ReadsB w B A n l) (hB : B ≤ w.heap.size) (hf : Far F w w1) (hF : 0 < n → ∀ b off, A = some ⟨b, off, none⟩ → ¬ F b) : ReadsB w1 B A n l := by
  obtain ⟨h1, h3⟩ := h
  refine ⟨h1, fun hn => ?_⟩
  obtain ⟨b, off, hA, hb, hc⟩ := h3 hn
  refine ⟨b, off, hA, hb, fun i hi => ?_⟩
  rw [World.cell?_of_block (w := w) (w' := w1) (hf.block b (by omega) (hF hn b off hA))]
  exact hc i hi
theorem ReadsB.mono {w : World} {B B' : Nat} {a : Option Addr} {n : Nat} {l : List Bool} (h : ReadsB w B a n l) (hb : B ≤ B') : ReadsB w B' a n l := by
  obtain ⟨hl, hc⟩ := h
  refine ⟨hl, fun hn => ?_⟩
  obtain ⟨b, off, rfl, hbB, hc⟩ := hc hn
  exact ⟨b, off, rfl, by omega, hc⟩

theorem add_row (g j : Nat) : (⟨g, 0, none⟩ : Addr).add j = ⟨g, j, none⟩ := by unfold Addr.add; split <;> simp_all
theorem stopMap {P : Program} {ops : Array Oper} {Q : Exit → Act → World → Prop} {rest : List Oper} {a : Act} {w : World} {t : TypeId} {m x v : Operand} {ty : TypeId} {pos : String} {after : Array Edge} {guard : Option (Nat × Bool)}
    (h : Hid (wpList P ops Q (⟨none, .mapUpdate t m x v, ty, pos, after, guard⟩ :: rest) a w)) : wpList P ops Q (⟨none, .mapUpdate t m x v, ty, pos, after, guard⟩ :: rest) a w := h
theorem wrap_nat (z : Int) : ∃ c : Nat, IntKind.u64.wrap z = (c : Int) ∧ (Lit.int .u64 (c : Nat)).wf = true := by
  have h := wf_wrap .u64 z
  have h0 := u64_nonneg _ h
  obtain ⟨c, hc⟩ := Int.eq_ofNat_of_zero_le h0
  exact ⟨c, hc, by rw [← hc]; exact h⟩
/-- all objects but those of the kind K have stayed -/
structure Kept (K : Obj → Prop) (w w' : World) : Prop where
  os : w'.os = w.os
  tape : w'.tape = w.tape
  output : w'.output = w.output
  size : w.heap.size ≤ w'.heap.size
  block : ∀ (k : Nat) (o : Obj), w.heap[k]? = some o → ¬ K o → w'.heap[k]? = some o
/-- a row of a type of T -/
def rowsOf (T : TypeId → Prop) (o : Obj) : Prop := ∃ (cs : Array Value) (t : TypeId), o = .cells cs t (0, 0) ∧ T t
section
variable {K : Obj → Prop} {T : TypeId → Prop} {w w1 w2 : World}
theorem Kept.refl (K : Obj → Prop) (w : World) : Kept K w w := ⟨rfl, rfl, rfl, Nat.le_refl _, fun _ _ h _ => h⟩
theorem Kept.trans (h : Kept K w w1) (k : Kept K w1 w2) : Kept K w w2 := ⟨k.os.trans h.os, k.tape.trans h.tape, k.output.trans h.output, Nat.le_trans h.size k.size, fun i o hi ho => k.block i o (h.block i o hi ho) ho⟩
theorem Kept.drew (h : Kept K w w1) : Kept K w w1.drew := ⟨h.os, h.tape, h.output, h.size, h.block⟩
theorem Kept.drewN (h : Kept K w w1) (m : Nat) : Kept K w (w1.drewN m) := ⟨h.os, h.tape, h.output, h.size, h.block⟩
theorem lt_of_some {k : Nat} {o : Obj} (h : w.heap[k]? = some o) : k < w.heap.size := by
  rcases Nat.lt_or_ge k w.heap.size with h1 | h1
  · exact h1
  · rw [Array.getElem?_eq_none h1] at h; cases h
theorem Kept.of_below (h : Below w.heap.size w w1) (K : Obj → Prop) : Kept K w w1 := ⟨h.os, h.tape, h.output, h.size, fun k _ hk _ => (h.block k (lt_of_some hk)).trans hk⟩
theorem Kept.row (h : Kept (rowsOf T) w w1) {k : Nat} {t : TypeId} {cs : List Value} (hr : Row w k t cs) (ht : ¬ T t) : Row w1 k t cs :=
  h.block k _ hr fun ⟨_, _, e, hT⟩ => ht (by injection e with _ e; subst e; exact hT)
theorem Kept.set (h : Kept (rowsOf T) w w1) {p : Addr} {t : TypeId} {cs : List Value} (hr : Row w1 p.block t cs) (ht : T t) (v : Value) : Kept (rowsOf T) w (w1.setCell p v) := by
  have h0 := (Below.refl 0 w1).setCell (Nat.zero_le p.block) v
  refine h.trans ⟨h0.os, h0.tape, h0.output, h0.size, fun k o hk ho => ?_⟩
  rw [heap_setCell_other w1 p k v fun e => ?_]
  · exact hk
  · subst e
    unfold Row at hr
    rw [hr] at hk; injection hk with hk; subst hk
    exact ho ⟨_, _, rfl, ht⟩
/-- what an append to an own row of a type of T leaves -/
theorem Kept.append (h : Kept (rowsOf T) w w1) {base : Nat} {e : TypeId} {n : Nat} {v : Value} {xs : List Value} {s : Nat} (hown : w1.ownsRow base e s v n xs) (hT : T e) (hb : Below base w1 w2) (hf : ∀ k, k < w1.heap.size → some k ≠ v.ownBlock → w2.heap[k]? = w1.heap[k]?) : Kept (rowsOf T) w w2 := by
  refine h.trans ⟨hb.os, hb.tape, hb.output, hb.size, fun k o hk ho => (hf k (lt_of_some hk) fun e1 => ?_).trans hk⟩
  rcases hown.2 with ⟨rfl, _⟩ | ⟨g, cap, cur, rfl, _, hh, _⟩
  · simp [Value.ownBlock] at e1
  · simp only [Value.ownBlock] at e1
    injection e1 with e1; subst e1
    rw [hh] at hk; injection hk with hk; subst hk
    exact ho ⟨_, _, rfl, hT⟩
/-- an own row stays, when rows of its type do -/
theorem ownsRow_kept (h : Kept (rowsOf T) w w1) {base : Nat} {e : TypeId} {n s : Nat} {v : Value} {xs : List Value} (hown : w.ownsRow base e s v n xs) (hT : ¬ T e) : w1.ownsRow base e s v n xs := by
  obtain ⟨h1, h2⟩ := hown
  refine ⟨h1, ?_⟩
  rcases h2 with h2 | ⟨g, cap, cur, rfl, hg, hh, r⟩
  · exact .inl h2
  · exact .inr ⟨g, cap, cur, rfl, hg, h.block g _ hh fun ⟨_, _, e1, e2⟩ => hT (by injection e1 with _ e1; subst e1; exact e2), r⟩
/-- an own row of one type is nothing to a store into a row of another one -/
theorem ownsRow_set {base : Nat} {e : TypeId} {n s : Nat} {v : Value} {xs : List Value} (hown : w.ownsRow base e s v n xs) {p : Addr} {t : TypeId} {cs : List Value} (hr : Row w p.block t cs) (ht : e ≠ t) (u : Value) : (w.setCell p u).ownsRow base e s v n xs :=
  ownsRow_kept (T := fun x => x = t) (Kept.set (T := fun x => x = t) (Kept.refl _ w) hr rfl u) hown ht
theorem own_cells {base : Nat} {e : TypeId} {n : Nat} {v : Value} {xs : List Value} (h : w.ownsRow base e 1 v n xs) (hn : 0 < n) : ∃ g c, v = .slice (some ⟨g, 0, none⟩) n c ∧ ∀ i, i < n → w.cell? ⟨g, i, none⟩ = xs[i]? := by
  obtain ⟨g, cap, cs, rfl, _, hr, _, _, _, ht⟩ := own_row h hn
  refine ⟨g, cap, rfl, fun i hi => ?_⟩
  have h1 : (cs.take n)[i]? = cs[i]? := by rw [List.getElem?_take, if_pos hi]
  rw [hr.cell i, ← h1, ht]
theorem own_form {base : Nat} {e : TypeId} {n : Nat} {v : Value} {xs : List Value} (h : w.ownsRow base e 1 v n xs) : ∃ A c, v = .slice A n c ∧ n ≤ c := by
  rcases h.2 with ⟨rfl, h0⟩ | ⟨g, cap, cur, rfl, _, _, hcap, _⟩
  · exact ⟨none, 0, by rw [h0], by omega⟩
  · exact ⟨_, _, rfl, hcap⟩
/-- a store into an own row -/
theorem own_store {base : Nat} {e : TypeId} {n : Nat} {v : Value} {xs : List Value} (h : w.ownsRow base e 1 v n xs) {i : Nat} (hi : i < n) (u : Value) : ∃ g c cs, v = .slice (some ⟨g, 0, none⟩) n c ∧ base ≤ g ∧ Row w g e cs ∧ w.cell? ⟨g, i, none⟩ = xs[i]? ∧ w.frozen? ⟨g, i, none⟩ = false ∧ (w.setCell ⟨g, i, none⟩ u).ownsRow base e 1 v n (xs.set i u) := by
  obtain ⟨hl, h2⟩ := h
  rcases h2 with ⟨_, h0⟩ | ⟨g, cap, cur, rfl, hg, hh, hcap, hm, hs, ht⟩
  · omega
  · have hr : Row w g e cur.toList := by unfold Row; simpa using hh
    refine ⟨g, cap, cur.toList, rfl, hg, hr, ?_, hr.free i, by simpa using hl, .inr ⟨g, cap, (cur.toList.set i u).toArray, rfl, hg, (hr.set i u), hcap, hm, by simpa using hs, ?_⟩⟩
    · have h1 : (cur.toList.take (n * 1))[i]? = cur.toList[i]? := by rw [List.getElem?_take, if_pos (by omega)]
      rw [hr.cell i, ← h1, ht]
    · rw [List.take_set, ht]
end
theorem ownsRow_same {w w' : World} {base s : Nat} {e : TypeId} {v : Value} {n : Nat} {xs : List Value} (h : w.ownsRow base e s v n xs) (hb : ∀ k, v.ownBlock = some k → w'.heap[k]? = w.heap[k]?) : w'.ownsRow base e s v n xs := by
  obtain ⟨h1, h2⟩ := h
  refine ⟨h1, ?_⟩
  rcases h2 with h2 | ⟨g, cap, cur, rfl, hg, hh, r⟩
  · exact .inl h2
  · exact .inr ⟨g, cap, cur, rfl, hg, (hb g rfl).trans hh, r⟩
end Go.Proofs.Ytoimpiimlekakaa
