/- A device in memory: its cells, its two maps, its list of writes, and the rows of words that they hold; kept over what is made elsewhere. -/
import Derived.Test.YtbkgpilmgllkiaaDevMath
import Derived.Maps.OwnSet
import Derived.Maps.RangeWalk
import Derived.Maps.AppendAt
namespace Go.Proofs.Ytbkgpilmgllkiaa
open Go.ChangeShapes Go.WideShapes Go.ChangeAt Go.RowKit

/-! ### maps of integers -/
def keepV (v : Value) : Option (DataW Value × List MemPlace) := some (.held v, [])
theorem law : Maps.Keyed Try.prog 3 := Maps.int_keyed Try.underlying3
theorem keyI {x : Int} (h : I64 x) : keyOf Try.prog 3 (.int .i64 x) = some (.int .i64 x) := Maps.keyOf_int_mk Try.underlying3 h
theorem litI {x : Int} (h : I64 x) : WideAt.IsKeyLit (.int .i64 x) := law.key (keyI h)

/-- the map D, read as a function -/
def Fn (D : DataW Value) (f : Int → Option Value) : Prop :=
  Maps.IsMap D ∧ (∀ x, I64 x → f x = none → Maps.has D (.int .i64 x) = false) ∧ ∀ x v, I64 x → f x = some v → Maps.has D (.int .i64 x) = true ∧ ∀ zd, D.atKey (.int .i64 x) zd = .held v
theorem Fn.empty : Fn (.map []) nothing := ⟨Maps.isMap_empty, fun _ _ _ => rfl, fun _ _ _ h => by cases h⟩
theorem Fn.put {D : DataW Value} {f : Int → Option Value} (h : Fn D f) {i : Int} (hi : I64 i) (v : Value) : Fn (D.put (.int .i64 i) (.held v)) (upd f i v) := by
  obtain ⟨h0, h1, h2⟩ := h
  have hne : ∀ {x : Int}, x ≠ i → (Lit.int .i64 x) ≠ .int .i64 i := fun hx e => hx (by injection e)
  refine ⟨h0.put _ _, fun x hx hn => ?_, fun x u hx hu => ?_⟩
  · by_cases e : x = i
    · subst e; rw [upd_same] at hn; cases hn
    · rw [upd_other _ _ e] at hn
      rw [Maps.has_put_other (hne e)]; exact h1 x hx hn
  · by_cases e : x = i
    · subst e; rw [upd_same] at hu; injection hu with hu; subst hu
      exact ⟨Maps.has_put_same h0 (litI hx) _, fun zd => Maps.atKey_put_same h0 (litI hx) _ _⟩
    · rw [upd_other _ _ e] at hu
      rw [Maps.has_put_other (hne e)]
      exact ⟨(h2 x u hx hu).1, fun zd => by rw [Maps.atKey_put_other (hne e)]; exact (h2 x u hx hu).2 zd⟩
theorem Fn.found {D : DataW Value} {f : Int → Option Value} (h : Fn D f) {x : Int} (hx : I64 x) {v : Value} (ha : ∀ zd, D.atKey (.int .i64 x) zd = .held v) : f x = some v := by
  rcases hf : f x with _ | u
  · have := h.2.1 x hx hf
    rw [Maps.has_true_of_atKey ha] at this; cases this
  · have := (h.2.2 x u hx hf).2 (.held v)
    rw [ha] at this; injection this with this; rw [this]

def MapF (w : World) (b n : Nat) (f : Int → Option Value) : Prop := ∃ D : DataW Value, w.ownsMap Try.prog 3 keepV b n D ∧ Fn D f
theorem MapF.lt {w : World} {b n : Nat} {f : Int → Option Value} (h : MapF w b n f) : b < w.heap.size := by obtain ⟨D, h, _⟩ := h; exact h.lt
theorem MapF.mono {w : World} {b n n' : Nat} {f : Int → Option Value} (h : MapF w b n f) (hn : n ≤ n') : MapF w b n' f := by obtain ⟨D, h, k⟩ := h; exact ⟨D, h.mono hn, k⟩
theorem MapF.same {w w' : World} {b n : Nat} {f : Int → Option Value} (h : MapF w b n f) (hb : w'.heap[b]? = w.heap[b]?) : MapF w' b n f := by
  obtain ⟨D, ⟨es, clock, h1, h2⟩, k⟩ := h
  exact ⟨D, ⟨es, clock, hb.trans h1, h2⟩, k⟩
theorem MapF.made (w : World) : MapF (w.alloc (.map #[] 0)) w.heap.size 0 nothing := ⟨_, World.ownsMap_made w Try.prog 3 keepV, Fn.empty⟩
theorem MapF.not_row {w : World} {b n g : Nat} {f : Int → Option Value} {t : TypeId} {cs : List Value} (h : MapF w b n f) (hr : Row w g t cs) : g ≠ b := by
  obtain ⟨D, ⟨es, clock, h1, _⟩, _⟩ := h
  intro e; subst e; unfold Row at hr; rw [h1] at hr; cases hr

/-! ### rows of words -/
/-- the slice v reads as the words l, in a row of its own in G -/
def Words (w : World) (G : Nat → Prop) (v : Value) (l : List Nat) : Prop :=
  ∃ g c cs, v = .slice (some ⟨g, 0, none⟩) l.length c ∧ Row w g 69 cs ∧ G g ∧ l.length ≤ c ∧ c ≤ maxLen ∧ 0 < l.length ∧ (∀ x ∈ l, (Lit.int .u64 (x : Nat)).wf = true) ∧ cs.take l.length = l.map fun x : Nat => Value.int .u64 x
theorem Words.keep {w w' : World} {G G' : Nat → Prop} {v : Value} {l : List Nat} (h : Words w G v l) (hG : ∀ k cs, Row w k 69 cs → G k → w'.heap[k]? = w.heap[k]?) (hG' : ∀ k cs, Row w k 69 cs → G k → G' k) : Words w' G' v l := by
  obtain ⟨g, c, cs, rfl, hr, hg, h1⟩ := h
  exact ⟨g, c, cs, rfl, (hG g cs hr hg).trans hr, hG' g cs hr hg, h1⟩
theorem Words.reads {w : World} {G : Nat → Prop} {v : Value} {l : List Nat} (h : Words w G v l) : ∃ A c, v = .slice A l.length c ∧ A ≠ none ∧ Reads .u64 w w.heap.size A l.length l := by
  obtain ⟨g, c, cs, rfl, hr, hg, _, _, hp, hw, ht⟩ := h
  refine ⟨_, c, rfl, by simp, hr.reads rfl hw (fun i hi => ?_) hr.lt⟩
  have h1 : (cs.take l.length)[i]? = cs[i]? := by rw [List.getElem?_take, if_pos hi]
  rw [← h1, ht, List.getElem?_map, List.getElem?_eq_getElem hi, List.getD_eq_getElem?_getD, List.getElem?_eq_getElem hi]; rfl

def Rel (w : World) (G : Nat → Prop) : Option Value → Option (List Nat) → Prop
  | none, none => True
  | some v, some l => Words w G v l
  | _, _ => False
theorem Rel.keep {w w' : World} {G G' : Nat → Prop} {v : Option Value} {l : Option (List Nat)} (h : Rel w G v l) (hG : ∀ k cs, Row w k 69 cs → G k → w'.heap[k]? = w.heap[k]?) (hG' : ∀ k cs, Row w k 69 cs → G k → G' k) : Rel w' G' v l := by
  match v, l, h with
  | none, none, _ => trivial
  | some v, some l, h => exact Words.keep h hG hG'
/-- block b is a map whose words read as fl -/
def Store (w : World) (G : Nat → Prop) (b n : Nat) (fl : Int → Option (List Nat)) : Prop := ∃ f, MapF w b n f ∧ ∀ x, Rel w G (f x) (fl x)

/-- the cells of writes -/
def flatW : List (Int × Value) → List Value
  | [] => []
  | e :: l => .int .i64 e.1 :: e.2 :: flatW l
theorem flatW_length : ∀ l, (flatW l).length = l.length * 2
  | [] => rfl
  | e :: l => by show (flatW l).length + 2 = _; rw [flatW_length l, List.length_cons]; omega
theorem flatW_append : ∀ l m, flatW (l ++ m) = flatW l ++ flatW m
  | [], _ => rfl
  | e :: l, m => by show _ :: _ :: flatW (l ++ m) = _; rw [flatW_append l m]; rfl
theorem flatW_at : ∀ (l : List (Int × Value)) (i : Nat) (e : Int × Value), l[i]? = some e → (flatW l)[i * 2]? = some (.int .i64 e.1) ∧ (flatW l)[i * 2 + 1]? = some e.2
  | [], i, e, h => by simp at h
  | a :: l, 0, e, h => by simp at h; subst h; exact ⟨rfl, rfl⟩
  | a :: l, i + 1, e, h => by
    have h' := flatW_at l i e (by simpa using h)
    rw [show (i + 1) * 2 = i * 2 + 2 by omega, show i * 2 + 2 + 1 = (i * 2 + 1) + 2 by omega]
    exact h'
/-- the slice v reads as the writes l, in a row of its own in G -/
def Later (w : World) (G : Nat → Prop) (v : Value) (l : List (Int × List Nat)) : Prop :=
  ∃ rs : List (Int × Value), w.ownsRow 0 118 2 v l.length (flatW rs) ∧ rs.length = l.length ∧ (∀ (i : Nat) (r : Int × Value) (e : Int × List Nat), rs[i]? = some r → l[i]? = some e → r.1 = e.1 ∧ Words w G r.2 e.2) ∧ ∀ k, v.ownBlock = some k → G k
theorem ownsRow_same {w w' : World} {base s : Nat} {e : TypeId} {v : Value} {n : Nat} {xs : List Value} (h : w.ownsRow base e s v n xs) (hb : ∀ k, v.ownBlock = some k → w'.heap[k]? = w.heap[k]?) : w'.ownsRow base e s v n xs := by
  obtain ⟨h1, h2⟩ := h
  refine ⟨h1, ?_⟩
  rcases h2 with h2 | ⟨g, cap, cur, rfl, hg, hh, r⟩
  · exact .inl h2
  · exact .inr ⟨g, cap, cur, rfl, hg, (hb g rfl).trans hh, r⟩

def cellsOf (s : St) (bl bf : Nat) (v : Value) : List Value :=
  [.int .i64 (s.size : Int), .int .i64 s.blocks, .map (some bl), .map (some bf), v, .bool s.fb, .int .i64 s.fn, .bool s.tb, .int .i64 s.tn, .bool s.down, .int .i64 s.acts]
/-- what is known of a device's numbers, n of its acts being done -/
structure Fits (s : St) (n : Nat) : Prop where
  size : 8 ≤ s.size ∧ s.size ≤ 256
  blocks : 0 ≤ s.blocks ∧ s.blocks ≤ 1000000
  fn : 0 ≤ s.fn ∧ s.fn ≤ 1000000
  tn : 0 ≤ s.tn ∧ s.tn ≤ 1000000
  acts : 0 ≤ s.acts ∧ s.acts ≤ n
  small : n ≤ 1000000
  later : ∀ e ∈ s.later, I64 e.1 ∧ e.2.length = s.size
  fl : ∀ x l, s.fl x = some l → l.length = s.size
/-- block p is a device that is as s says; all its memory is of G -/
def DevM (w : World) (G : Nat → Prop) (p : Nat) (s : St) (n m : Nat) : Prop :=
  Fits s n ∧ ∃ bl bf v nl, Row w p 113 (cellsOf s bl bf v) ∧ Store w G bl nl s.fl ∧ Store w G bf s.later.length (lay nothing s.later) ∧ Later w G v s.later ∧ bl ≠ bf ∧ G p ∧ G bl ∧ G bf ∧ (∀ k, G k → k < w.heap.size) ∧ nl + s.later.length ≤ m
def Dev (w : World) (G : Nat → Prop) (p : Nat) (s : St) (n : Nat) : Prop := DevM w G p s n n

section
variable {w w' : World} {G G' : Nat → Prop}
theorem Store.keep {b n : Nat} {fl : Int → Option (List Nat)} (h : Store w G b n fl) (hb : w'.heap[b]? = w.heap[b]?) (hG : ∀ k cs, Row w k 69 cs → G k → w'.heap[k]? = w.heap[k]?) (hG' : ∀ k cs, Row w k 69 cs → G k → G' k) : Store w' G' b n fl := by
  obtain ⟨f, h1, h2⟩ := h
  exact ⟨f, h1.same hb, fun x => (h2 x).keep hG hG'⟩
theorem Store.lt {b n : Nat} {fl : Int → Option (List Nat)} (h : Store w G b n fl) : b < w.heap.size := by obtain ⟨f, h1, _⟩ := h; exact h1.lt
theorem Store.not_row {b n g : Nat} {fl : Int → Option (List Nat)} {t : TypeId} {cs : List Value} (h : Store w G b n fl) (hr : Row w g t cs) : g ≠ b := by obtain ⟨f, h1, _⟩ := h; exact h1.not_row hr
theorem Store.mono {b n n' : Nat} {fl : Int → Option (List Nat)} (h : Store w G b n fl) (hn : n ≤ n') : Store w G b n' fl := by obtain ⟨f, h1, h2⟩ := h; exact ⟨f, h1.mono hn, h2⟩
theorem Later.keep {v : Value} {l : List (Int × List Nat)} (h : Later w G v l) (hv : ∀ k, v.ownBlock = some k → G k → w'.heap[k]? = w.heap[k]? ∧ G' k) (hG : ∀ k cs, Row w k 69 cs → G k → w'.heap[k]? = w.heap[k]?) (hG' : ∀ k cs, Row w k 69 cs → G k → G' k) : Later w' G' v l := by
  obtain ⟨rs, h1, h2, h3, h4⟩ := h
  exact ⟨rs, ownsRow_same h1 fun k hk => (hv k hk (h4 k hk)).1, h2, fun i r e hr he => ⟨(h3 i r e hr he).1, (h3 i r e hr he).2.keep hG hG'⟩, fun k hk => (hv k hk (h4 k hk)).2⟩
theorem Later.nil (w : World) (G : Nat → Prop) : Later w G (.slice none 0 0) [] := ⟨[], World.ownsRow_nil _ _ _ _, rfl, fun i r e h => by simp at h, fun k h => by simp [Value.ownBlock] at h⟩
/-- the list of writes lies in no row of another type -/
theorem Later.not_row {v : Value} {l : List (Int × List Nat)} (h : Later w G v l) {g : Nat} {t : TypeId} {cs : List Value} (hr : Row w g t cs) (ht : t ≠ 118) : v.ownBlock ≠ some g := by
  obtain ⟨rs, ⟨_, h1⟩, _⟩ := h
  rcases h1 with ⟨rfl, _⟩ | ⟨g', cap, cur, rfl, _, hh, _⟩
  · simp [Value.ownBlock]
  · simp only [Value.ownBlock]
    intro e; injection e with e; subst e
    unfold Row at hr; rw [hh] at hr; injection hr with hr; injection hr with _ hr; exact ht hr.symm
theorem Later.not_map {v : Value} {l : List (Int × List Nat)} (h : Later w G v l) {b n : Nat} {fl : Int → Option (List Nat)} (hs : Store w G b n fl) : v.ownBlock ≠ some b := by
  obtain ⟨rs, ⟨_, h1⟩, _⟩ := h
  rcases h1 with ⟨rfl, _⟩ | ⟨g', cap, cur, rfl, _, hh, _⟩
  · simp [Value.ownBlock]
  · simp only [Value.ownBlock]
    intro e; injection e with e; subst e
    obtain ⟨f, ⟨D, ⟨es, clock, h1, _⟩, _⟩, _⟩ := hs
    rw [h1] at hh; cases hh
theorem Later.form {v : Value} {l : List (Int × List Nat)} (h : Later w G v l) : ∃ A c, v = .slice A l.length c := by
  obtain ⟨rs, ⟨_, h1⟩, _⟩ := h
  rcases h1 with ⟨rfl, h0⟩ | ⟨g, cap, cur, rfl, _⟩
  · exact ⟨none, 0, by rw [h0]⟩
  · exact ⟨_, _, rfl⟩
/-- a device stays while its memory does -/
theorem Dev.keep {p : Nat} {s : St} {n : Nat} (h : Dev w G p s n) (hG : ∀ k, G k → w'.heap[k]? = w.heap[k]?) (hs : w.heap.size ≤ w'.heap.size) : Dev w' G p s n := by
  obtain ⟨h0, bl, bf, v, nl, h1, h2, h3, h4, h5, h6, h7, h8, h9, h10⟩ := h
  exact ⟨h0, bl, bf, v, nl, (hG p h6).trans h1, h2.keep (hG bl h7) (fun k _ _ hk => hG k hk) (fun k _ _ hk => hk), h3.keep (hG bf h8) (fun k _ _ hk => hG k hk) (fun k _ _ hk => hk), h4.keep (fun k _ hk => ⟨hG k hk, hk⟩) (fun k _ _ hk => hG k hk) (fun k _ _ hk => hk), h5, h6, h7, h8, fun k hk => Nat.lt_of_lt_of_le (h9 k hk) hs, h10⟩
theorem Dev.below {p : Nat} {s : St} {n : Nat} (h : Dev w G p s n) (hb : Below w.heap.size w w') : Dev w' G p s n :=
  h.keep (fun k hk => hb.block k (by obtain ⟨_, _, _, _, _, _, _, _, _, _, _, _, _, h9, _⟩ := h; exact h9 k hk)) hb.size
theorem Dev.lt {p : Nat} {s : St} {n : Nat} (h : Dev w G p s n) {k : Nat} (hk : G k) : k < w.heap.size := by obtain ⟨_, _, _, _, _, _, _, _, _, _, _, _, _, h9, _⟩ := h; exact h9 k hk
theorem Dev.far {F : Nat → Prop} {p : Nat} {s : St} {n : Nat} (h : Dev w G p s n) (hb : Far F w w') (hF : ∀ k, G k → ¬ F k) : Dev w' G p s n :=
  h.keep (fun k hk => hb.block k (h.lt hk) (hF k hk)) hb.size
theorem Dev.fits {p : Nat} {s : St} {n : Nat} (h : Dev w G p s n) : Fits s n := h.1
theorem Dev.mine {p : Nat} {s : St} {n : Nat} (h : Dev w G p s n) : G p := by obtain ⟨_, _, _, _, _, _, _, _, _, _, h6, _⟩ := h; exact h6
theorem Fits.mono {s : St} {n n' : Nat} (h : Fits s n) (hn : n ≤ n') (h6 : n' ≤ 1000000) : Fits s n' := ⟨h.size, h.blocks, h.fn, h.tn, ⟨h.acts.1, by have := h.acts.2; omega⟩, h6, h.later, h.fl⟩
theorem Dev.mono {p : Nat} {s : St} {n n' : Nat} (h : Dev w G p s n) (hn : n ≤ n') (h6 : n' ≤ 1000000) : Dev w G p s n' := by
  obtain ⟨h0, bl, bf, v, nl, h1, h2, h3, h4, h5, h6', h7, h8, h9, h10⟩ := h
  exact ⟨h0.mono hn h6, bl, bf, v, nl, h1, h2, h3, h4, h5, h6', h7, h8, h9, by omega⟩
theorem DevM.up {p : Nat} {s : St} {n m : Nat} (h : DevM w G p s n m) (hm : m ≤ n) : Dev w G p s n := by
  obtain ⟨h0, bl, bf, v, nl, h1, h2, h3, h4, h5, h6', h7, h8, h9, h10⟩ := h
  exact ⟨h0, bl, bf, v, nl, h1, h2, h3, h4, h5, h6', h7, h8, h9, by omega⟩
/-- an act's beginning: the numbers alone turn -/
theorem Dev.begin {p : Nat} {s : St} {n : Nat} (h : Dev w G p s n) {b : Bool} {bl bf : Nat} {v : Value} (h1 : Row w p 113 (cellsOf s bl bf v)) (h2 : Row w' p 113 (cellsOf (begin s b).2 bl bf v)) (hf : Far (fun k => k = p) w w') (hft : Fits (begin s b).2 (n + 1)) : DevM w' G p (begin s b).2 (n + 1) n := by
  obtain ⟨h0, bl', bf', v', nl, k1, k2, k3, k4, k5, k6, k7, k8, k9, k10⟩ := h
  obtain ⟨e1, e2, e3, e4⟩ := begin_same s b
  have e0 : cellsOf s bl bf v = cellsOf s bl' bf' v' := by
    unfold Row at h1 k1; rw [h1] at k1; injection k1 with k1; injection k1 with k1; simpa using k1
  obtain ⟨rfl, rfl, rfl⟩ : bl = bl' ∧ bf = bf' ∧ v = v' := by simpa [cellsOf] using e0
  have hne : ∀ k cs, Row w k 69 cs → k ≠ p := by
    intro k cs hk e; subst e
    unfold Row at h1 hk; rw [h1] at hk; injection hk with hk; injection hk with _ hk; exact absurd hk (by decide)
  have hb1 : bl ≠ p := fun e => k2.not_row h1 e.symm
  have hb2 : bf ≠ p := fun e => k3.not_row h1 e.symm
  have hkeep : ∀ k cs, Row w k 69 cs → G k → w'.heap[k]? = w.heap[k]? := fun k cs hk hg => hf.block k hk.lt (hne k cs hk)
  refine ⟨hft, bl, bf, v, nl, h2, ?_, ?_, ?_, k5, k6, k7, k8, fun k hk => Nat.lt_of_lt_of_le (k9 k hk) hf.size, by rw [e4]; omega⟩
  · rw [e3]; exact k2.keep (hf.block bl k2.lt hb1) hkeep (fun k _ _ hk => hk)
  · rw [e4]; exact k3.keep (hf.block bf k3.lt hb2) hkeep (fun k _ _ hk => hk)
  · rw [e4]; exact k4.keep (fun k hk hg => ⟨hf.block k (k9 k hg) fun e => k4.not_row h1 (by decide) (by rw [← e]; exact hk), hg⟩) hkeep (fun k _ _ hk => hk)
end
theorem begin_fits {s : St} {n : Nat} (h : Fits s n) (hn : n < 1000000) (b : Bool) : Fits (begin s b).2 (n + 1) := by
  obtain ⟨e1, e2, e3, e4⟩ := begin_same s b
  have ha := begin_acts s b
  have hf : (0 ≤ (begin s b).2.fn ∧ (begin s b).2.fn ≤ 1000000) ∧ (0 ≤ (begin s b).2.tn ∧ (begin s b).2.tn ≤ 1000000) := by
    have h1 := h.fn
    have h2 := h.tn
    unfold begin
    by_cases hd : s.down = true
    · rw [if_pos hd]; exact ⟨h1, h2⟩
    rw [if_neg hd]
    by_cases hb : b = false
    · rw [if_pos hb]; exact ⟨h1, h2⟩
    rw [if_neg hb]
    by_cases hA : s.fb = true ∧ s.fn = 0
    · rw [if_pos hA]; exact ⟨h1, h2⟩
    rw [if_neg hA]
    have hfn : 0 ≤ (if s.fb = true then s.fn - 1 else s.fn) ∧ (if s.fb = true then s.fn - 1 else s.fn) ≤ 1000000 := by
      split
      · rename_i hB; have : s.fn ≠ 0 := fun e => hA ⟨hB, e⟩; omega
      · exact h1
    by_cases hC : s.tb = true ∧ s.tn = 0
    · dsimp only; rw [if_pos hC]; exact ⟨hfn, by dsimp only; omega⟩
    · dsimp only; rw [if_neg hC]
      refine ⟨hfn, ?_⟩
      show 0 ≤ (if s.tb = true then s.tn - 1 else s.tn) ∧ (if s.tb = true then s.tn - 1 else s.tn) ≤ 1000000
      split
      · rename_i hB; have : s.tn ≠ 0 := fun e => hC ⟨hB, e⟩; omega
      · exact h2
  refine ⟨by rw [e1]; exact h.size, by rw [e2]; exact h.blocks, hf.1, hf.2, ?_, by omega, by rw [e4, e1]; exact h.later, by rw [e3, e1]; exact h.fl⟩
  have := h.acts
  rcases ha with ha | ha <;> rw [ha] <;> omega
end Go.Proofs.Ytbkgpilmgllkiaa
