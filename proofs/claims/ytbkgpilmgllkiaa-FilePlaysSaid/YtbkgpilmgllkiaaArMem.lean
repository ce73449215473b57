/- An arena in memory: its cells, and its map from the buffers that stand to their words; kept over what is made elsewhere. -/
import Derived.Test.YtbkgpilmgllkiaaArMath
import Derived.Maps.OwnSet
import Derived.LaidEqlPtr
import Derived.WalkSpells
namespace Go.Proofs.Ytbkgpilmgllkiaa
open Go.ChangeShapes Go.WideShapes Go.ChangeAt Go.RowKit
open Go.ChangeMaps (setBlock heap_setBlock_same heap_setBlock_other)

/-- the pointer to block b -/
def ptr (b : Nat) : Value := .pointer (some ⟨b, 0, none⟩)
def Buf (w : World) (b : Nat) : Prop := ∃ v, Row w b 130 [v]
/-- block b is a map of these entries, in their order -/
def PMap (w : World) (b : Nat) (l : List (Nat × Nat)) : Prop :=
  ∃ (es : Array MapEntry) (clock : Nat), w.heap[b]? = some (.map es clock) ∧ es.toList.map (fun e => (e.key, e.val)) = l.map fun q => (ptr q.1, Value.int .i64 (q.2 : Int))

theorem infoBuf : (Try.prog.info? 130).map (fun i => i.size) = some 1 := by kernel_rfl
set_option maxRecDepth 100000 in
theorem eql_ptr (w : World) {x b : Nat} (hx : Buf w x) (hb : Buf w b) : (Op.equal 122 (ptr x) (ptr b)).run Try.prog w = .ok (decide (b = x)) w := by
  obtain ⟨j, hj, hs⟩ : ∃ j, Try.prog.info? 130 = some j ∧ j.size = 1 := by
    have h := infoBuf
    rcases hi : Try.prog.info? 130 with _ | i
    · rw [hi] at h; cases h
    · rw [hi] at h; simp at h; exact ⟨i, rfl, h⟩
  obtain ⟨v, hx⟩ := hx
  obtain ⟨u, hb⟩ := hb
  by_cases e : b = x
  · subst e
    have h : ∀ d : Nat, (Op.equalIn (d + 1) 122 (ptr b) (ptr b)).run Try.prog w = .ok true w := fun d => by
      simp [ptr, Op.equalIn, run_underlying Try.underlying122, sizeOf, typeInfo, hj, run_sameAddr_same]
    simp [Op.equal, Op.maxDepth, h 9999]
  · have hne : (⟨x, 0, none⟩ : Addr) ≠ ⟨b, 0, none⟩ := fun h => e (by injection h with h; exact h.symm)
    have hx' : w.heap[(⟨x, 0, none⟩ : Addr).block]? = some (.cells #[v] 130 (0, 0)) := hx
    have hb' : w.heap[(⟨b, 0, none⟩ : Addr).block]? = some (.cells #[u] 130 (0, 0)) := hb
    have h : ∀ d : Nat, (Op.equalIn (d + 1) 122 (ptr x) (ptr b)).run Try.prog w = .ok false w := fun d => by
      simp [ptr, Op.equalIn, run_underlying Try.underlying122, sizeOf, typeInfo, hj, hs, run_sameAddr_other w hne hx' hb']
    simp [Op.equal, Op.maxDepth, h 9999, e]
set_option maxRecDepth 100000 in
theorem run_findAsking (w : World) {x : Nat} (hx : Buf w x) : ∀ (es : List MapEntry) (l : List (Nat × Nat)) (i : Nat), es.map (fun e => (e.key, e.val)) = l.map (fun q => (ptr q.1, Value.int .i64 (q.2 : Int))) → (∀ q ∈ l, Buf w q.1) →
    (Instr.findAsking 122 (ptr x) es i).run Try.prog w = .ok ((findAt l x i).map fun r => (r.1, Value.int .i64 (r.2 : Int))) w
  | [], [], i, _, _ => by simp [Instr.findAsking, findAt]
  | [], q :: l, i, h, _ => by cases h
  | e :: es, [], i, h, _ => by cases h
  | e :: es, q :: l, i, h, hl => by
    have h0 : (e.key, e.val) = (ptr q.1, Value.int .i64 (q.2 : Int)) := by injection h
    have h1 : es.map (fun e => (e.key, e.val)) = l.map (fun q => (ptr q.1, Value.int .i64 (q.2 : Int))) := by injection h
    have hk : e.key = ptr q.1 := by injection h0
    have hv : e.val = Value.int .i64 (q.2 : Int) := by injection h0
    have hq := eql_ptr w hx (hl q List.mem_cons_self)
    have ih := run_findAsking w hx es l (i + 1) h1 fun r hr => hl r (List.mem_cons_of_mem _ hr)
    unfold Instr.findAsking findAt
    rw [hk]
    by_cases he : q.1 = x
    · rw [he] at hq ⊢
      simp [hq, hv, Result.andThen]
    · simp [hq, he, ih, Result.andThen]
set_option maxRecDepth 100000 in
theorem run_findKey (w : World) {x : Nat} (hx : Buf w x) (es : List MapEntry) (l : List (Nat × Nat)) (h : es.map (fun e => (e.key, e.val)) = l.map (fun q => (ptr q.1, Value.int .i64 (q.2 : Int)))) (hl : ∀ q ∈ l, Buf w q.1) :
    (Instr.findKey 122 (ptr x) es).run Try.prog w = .ok ((findAt l x 0).map fun r => (r.1, Value.int .i64 (r.2 : Int))) w := by
  have hf := run_findAsking w hx es l 0 h hl
  unfold Instr.findKey
  rcases es with _ | ⟨e, es⟩
  · match l, h with
    | [], _ => simp [run_underlying Try.underlying122, Instr.findNow, findAt, Result.andThen]
  · have hn : ∀ k i, Instr.findNow (.pointer k) (ptr x) (e :: es) i = none := fun k i => by simp [Instr.findNow, Instr.sameNow]
    simp [run_underlying Try.underlying122, hn, hf, Result.andThen]
set_option maxRecDepth 100000 in
theorem run_checkPtr (w : World) (em : Bool) (b : Nat) : (Instr.checkKey em 10000 122 (ptr b)).run Try.prog w = .ok () w := by
  unfold Instr.checkKey
  simp [run_underlying Try.underlying122, Result.andThen]
set_option maxRecDepth 100000 in
theorem zeroI (w : World) : (zeroValue 3).run Try.prog w = .ok (.int .i64 0) w := by kernel_rfl
set_option maxRecDepth 100000 in
/-- 'n, ok := m[p]' -/
theorem run_look (w : World) {b x : Nat} {l : List (Nat × Nat)} (h : PMap w b l) (hx : Buf w x) (hl : ∀ q ∈ l, Buf w q.1) :
    (Instr.lookup 102 (.map (some b)) (ptr x) true).run Try.prog w = .ok (.tuple #[.int .i64 ((wordsAt l x).getD 0 : Nat), .bool (wordsAt l x).isSome]) w := by
  obtain ⟨es, clock, hb, he⟩ := h
  have hf := run_findKey w hx es.toList l he hl
  unfold Instr.lookup
  rcases hw : wordsAt l x with _ | n
  · rw [findAt_none l x 0 hw] at hf
    simp [run_underlying Try.underlying102, MapKept.run_getObj_map hb, run_checkPtr, hf, Result.andThen]
  · obtain ⟨j, h1, _⟩ := findAt_some l x 0 n hw
    rw [h1] at hf
    simp [run_underlying Try.underlying102, MapKept.run_getObj_map hb, run_checkPtr, hf, Result.andThen]
set_option maxRecDepth 100000 in
theorem run_look_nil (w : World) (x : Nat) : (Instr.lookup 102 (.map none) (ptr x) true).run Try.prog w = .ok (.tuple #[.int .i64 0, .bool false]) w := by
  unfold Instr.lookup
  simp [run_underlying Try.underlying102, run_checkPtr, Instr.findKey, run_underlying Try.underlying122, Instr.findNow, Result.andThen]
set_option maxRecDepth 100000 in
/-- 'm[p] = n', p none of its keys -/
theorem run_put (w : World) {b x n : Nat} {l : List (Nat × Nat)} (h : PMap w b l) (hx : Buf w x) (hl : ∀ q ∈ l, Buf w q.1) (hn : wordsAt l x = none) :
    ∃ w', (Instr.mapUpdate 102 (.map (some b)) (ptr x) (.int .i64 (n : Nat))).run Try.prog w = .ok () w' ∧ PMap w' b (l ++ [(x, n)]) ∧ w.grownBy w' (some b) := by
  obtain ⟨es, clock, hb, he⟩ := h
  have hf := run_findKey w hx es.toList l he hl
  rw [findAt_none l x 0 hn] at hf
  refine ⟨setBlock w b (.map (es.push ⟨ptr x, .int .i64 (n : Nat), clock⟩) (clock + 1)), ?_, ⟨_, _, heap_setBlock_same hb _, ?_⟩, ⟨rfl, rfl, rfl, by simp [setBlock], fun i _ hi => heap_setBlock_other hb _ (fun e => hi (by rw [e]))⟩⟩
  · unfold Instr.mapUpdate
    simp [run_underlying Try.underlying102, MapKept.run_getObj_map hb, run_checkPtr, hf, MapKept.run_setObj_map _ hb, Result.andThen, setBlock]
  · simp [he]
set_option maxRecDepth 100000 in
/-- 'delete(m, p)', p one of its keys -/
theorem run_del (w : World) {b x n : Nat} {l : List (Nat × Nat)} (h : PMap w b l) (hx : Buf w x) (hl : ∀ q ∈ l, Buf w q.1) (hn : wordsAt l x = some n) (ty : TypeId) :
    ∃ w', (Builtin.delete_ #[102, 122] ty #[.map (some b), ptr x]).run Try.prog w = .ok (.tuple #[]) w' ∧ PMap w' b (without l x) ∧ w.grownBy w' (some b) := by
  obtain ⟨es, clock, hb, he⟩ := h
  have hf := run_findKey w hx es.toList l he hl
  obtain ⟨j, h1, h2, h3⟩ := findAt_some l x 0 n hn
  rw [h1] at hf
  refine ⟨setBlock w b (.map (es.eraseIdxIfInBounds j) clock), ?_, ⟨_, _, heap_setBlock_same hb _, ?_⟩, ⟨rfl, rfl, rfl, by simp [setBlock], fun i _ hi => heap_setBlock_other hb _ (fun e => hi (by rw [e]))⟩⟩
  · unfold Builtin.delete_
    simp [run_underlying Try.underlying102, MapKept.run_getObj_map hb, run_checkPtr, hf, MapKept.run_setObj_map _ hb, Result.andThen, setBlock]
  · have hlen : es.toList.length = l.length := by have := congrArg List.length he; simpa using this
    have hj : j < es.size := by simpa [← hlen] using h2
    have e1 : (es.eraseIdxIfInBounds j).toList = es.toList.eraseIdx j := by simp [Array.eraseIdxIfInBounds, hj]
    rw [e1, ← h3, Go.ChangeMaps.map_eraseIdx, Go.ChangeMaps.map_eraseIdx, he]

theorem PMap.same {w w' : World} {b : Nat} {l : List (Nat × Nat)} (h : PMap w b l) (hb : w'.heap[b]? = w.heap[b]?) : PMap w' b l := by
  obtain ⟨es, clock, h1, h2⟩ := h
  exact ⟨es, clock, hb.trans h1, h2⟩
theorem PMap.lt {w : World} {b : Nat} {l : List (Nat × Nat)} (h : PMap w b l) : b < w.heap.size := by
  obtain ⟨es, clock, h1, h2⟩ := h
  exact (Array.getElem?_eq_some_iff.1 h1).1
theorem PMap.not_row {w : World} {b g : Nat} {l : List (Nat × Nat)} {t : TypeId} {cs : List Value} (h : PMap w b l) (hr : Row w g t cs) : g ≠ b := by
  obtain ⟨es, clock, h1, h2⟩ := h
  intro e; subst e; unfold Row at hr; rw [h1] at hr; cases hr
theorem PMap.made (w : World) : PMap (w.alloc (.map #[] 0)) w.heap.size [] := ⟨#[], 0, (MapKept.heap_alloc w _).1, rfl⟩

def arCells (s : Ar) (m : Option Nat) : List Value := [.int .i64 (s.room : Int), .int .i64 (s.used : Int), .int .i64 (s.peak : Int), .map m]
/-- the map of those that stand -/
def Stood (w : World) (G : Nat → Prop) (m : Option Nat) (l : List (Nat × Nat)) : Prop := (m = none ∧ l = []) ∨ ∃ b, m = some b ∧ PMap w b l ∧ G b
/-- block p is an arena that is as s says; its memory, this block and its map, is G; the blocks that stand are buffers -/
def Arn (w : World) (G : Nat → Prop) (p : Nat) (s : Ar) : Prop :=
  Sound s ∧ (∃ m, Row w p 104 (arCells s m) ∧ Stood w G m s.st ∧ ∀ k, G k → k = p ∨ m = some k) ∧ G p ∧ (∀ k, G k → k < w.heap.size) ∧ ∀ q ∈ s.st, Buf w q.1

section
variable {w w' : World} {G G' : Nat → Prop} {p : Nat} {s : Ar}
theorem Buf.lt {b : Nat} (h : Buf w b) : b < w.heap.size := by obtain ⟨v, h⟩ := h; exact h.lt
theorem Buf.far {F : Nat → Prop} {b : Nat} (h : Buf w b) (hf : Far F w w') (hF : ¬ F b) : Buf w' b := by obtain ⟨v, h⟩ := h; exact ⟨v, hf.row h hF⟩
theorem Stood.keep {m : Option Nat} {l : List (Nat × Nat)} (h : Stood w G m l) (hG : ∀ k, G k → w'.heap[k]? = w.heap[k]?) : Stood w' G m l := by
  rcases h with h | ⟨b, rfl, hb, hg⟩
  · exact .inl h
  · exact .inr ⟨b, rfl, hb.same (hG b hg), hg⟩
theorem Arn.lt (h : Arn w G p s) {k : Nat} (hk : G k) : k < w.heap.size := h.2.2.2.1 k hk
theorem Arn.mine (h : Arn w G p s) : G p := h.2.2.1
theorem Arn.sound (h : Arn w G p s) : Sound s := h.1
theorem Arn.buf (h : Arn w G p s) {q : Nat × Nat} (hq : q ∈ s.st) : Buf w q.1 := h.2.2.2.2 q hq
theorem Row.typed {g : Nat} {t u : TypeId} {cs ds : List Value} (h : Row w g t cs) (k : Row w g u ds) : t = u := by
  unfold Row at h k; rw [h] at k; injection k with k; injection k
/-- the arena's memory holds no row but the arena itself -/
theorem Arn.types (h : Arn w G p s) {k : Nat} {t : TypeId} {cs : List Value} (hr : Row w k t cs) (ht : t ≠ 104) : ¬ G k := by
  obtain ⟨h0, ⟨m, h1, h2, h3⟩, _⟩ := h
  intro hk
  rcases h3 k hk with rfl | rfl
  · exact ht (hr.typed h1)
  · rcases h2 with ⟨e, _⟩ | ⟨b, e, hb, _⟩
    · cases e
    · injection e with e; subst e; exact hb.not_row hr rfl
theorem Arn.notBuf (h : Arn w G p s) {b : Nat} (hb : Buf w b) : ¬ G b := by obtain ⟨v, hb⟩ := hb; exact h.types hb (by decide)
theorem Arn.row {F : Nat → Prop} (h : Arn w G p s) (hf : Far F w w') (hF : ∀ k, F k → G k) {k : Nat} {t : TypeId} {cs : List Value} (hr : Row w k t cs) (ht : t ≠ 104) : Row w' k t cs := hf.row hr fun hk => h.types hr ht (hF k hk)
/-- an arena stays while its memory does, and the buffers stay buffers -/
theorem Arn.keep (h : Arn w G p s) (hG : ∀ k, G k → w'.heap[k]? = w.heap[k]?) (hB : ∀ q ∈ s.st, Buf w q.1 → Buf w' q.1) (hs : w.heap.size ≤ w'.heap.size) : Arn w' G p s := by
  obtain ⟨h0, ⟨m, h1, h2, h3⟩, h4, h5, h6⟩ := h
  exact ⟨h0, ⟨m, (hG p h4).trans h1, h2.keep hG, h3⟩, h4, fun k hk => Nat.lt_of_lt_of_le (h5 k hk) hs, fun q hq => hB q hq (h6 q hq)⟩
theorem Arn.far {F : Nat → Prop} (h : Arn w G p s) (hf : Far F w w') (hG : ∀ k, G k → ¬ F k) (hB : ∀ q ∈ s.st, ¬ F q.1) : Arn w' G p s :=
  h.keep (fun k hk => hf.block k (h.lt hk) (hG k hk)) (fun q hq hb => hb.far hf (hB q hq)) hf.size
theorem Arn.below (h : Arn w G p s) (hb : Below w.heap.size w w') : Arn w' G p s := h.far (Far.of_below hb fun _ => False) (fun _ _ hf => hf) fun _ _ hf => hf
theorem Arn.words {b n : Nat} (h : Arn w G p s) (hb : wordsAt s.st b = some n) : n ≤ s.used ∧ s.used ≤ s.peak ∧ s.peak ≤ s.room ∧ s.room ≤ 9223372036854775807 := ⟨release_le h.1 hb, h.1.peak.1, h.1.peak.2, h.1.room⟩
end
end Go.Proofs.Ytbkgpilmgllkiaa
