/- A device whose power has gone refuses; words of a block; arrays of six words. -/
import Derived.Test.YtcnmbddlaaopgaaDevLaw
namespace Go.Proofs.Ytcnmbddlaaopgaa
open Go.ChangeShapes Go.WideShapes Go.ChangeAt Go.RowKit
theorem read_lost (p : Nat) (s : St) (bl bf : Nat) (v : Value) (i : Int) (w : World) (hr : Row w p 60 (cellsOf s bl bf v)) (hd : s.down = true) :
    Calls Try.prog 14 #[.pointer (some ⟨p, 0, none⟩), .int .i64 i] w fun e w' => e = .returned (.tuple #[.slice none 0 0, .int .i64 8]) ∧ w' = w := by
  have hh := has_any p s bl bf v w i hr
  have hdn := down_any p s bl bf v w hr
  rw [hd] at hdn
  have hb : Calls Try.prog 24 #[.pointer (some ⟨p, 0, none⟩), .bool (right s i)] w fun e w' => e = .returned (.int .i64 8) ∧ w' = w := by
    clear hh hr hd
    generalize right s i = b
    go_enter Try.func24, Try.ntmps24
    go_wp2_with fail
    refine hdn.mono ?_
    rintro e w1 ⟨rfl, rfl⟩
    go_wp2
    go_ret
    exact ⟨rfl, rfl⟩
  clear hdn hr hd
  generalize right s i = b at *
  go_enter Try.func14, Try.ntmps14
  go_wp2_with fail
  refine hh.mono ?_
  rintro e w1 ⟨rfl, rfl⟩
  go_wp2_with fail
  refine hb.mono ?_
  rintro e w1' ⟨rfl, rfl⟩
  go_wp2
  go_ret2
  exact ⟨rfl, rfl⟩
/-- the words of a block -/
def wordsOf (z : Nat) : List Nat := [z, 0, 0, 0, 0, 0, 0, 0]
theorem words8 {w : World} {G : Nat → Prop} {v : Value} {z : Nat} (h : Words w G v (wordsOf z)) : ∃ g c, v = .slice (some ⟨g, 0, none⟩) 8 c ∧ w.cell? ⟨g, 0, none⟩ = some (.int .u64 (z : Int)) := by
  obtain ⟨g, c, cs, rfl, hr, _, _, _, _, _, ht⟩ := h
  refine ⟨g, c, rfl, ?_⟩
  have h0 : (cs.take (wordsOf z).length)[0]? = cs[0]? := by rw [List.getElem?_take, if_pos (by show 0 < 8; decide)]
  rw [hr.cell 0, ← h0, ht]; rfl
theorem wordsOf_wf {z : Nat} (hz : z < 18446744073709551616) : ∀ x ∈ wordsOf z, (Lit.int .u64 (x : Nat)).wf = true := by
  intro x hx
  rcases List.mem_cons.1 hx with rfl | hx
  · exact u64_wf hz
  · have : x = 0 := by simpa using hx
    subst this; decide
/-- the cells of an array of words -/
def arr (l : List Nat) : List Value := l.map fun z : Nat => Value.int .u64 z
theorem arr_set (l : List Nat) (k z : Nat) : (arr l).set k (.int .u64 (z : Nat)) = arr (l.set k z) := by
  unfold arr
  rw [List.map_set]
theorem arr_at (l : List Nat) {k : Nat} (hk : k < l.length) : (arr l)[k]? = some (.int .u64 (l.getD k 0 : Nat)) := by
  unfold arr
  rw [List.getElem?_map, List.getElem?_eq_getElem hk, List.getD_eq_getElem?_getD, List.getElem?_eq_getElem hk]; rfl
theorem getD_set (l : List Nat) {k z j : Nat} (hk : k < l.length) : (l.set k z).getD j 0 = if j = k then z else l.getD j 0 := by
  rw [List.getD_eq_getElem?_getD, List.getElem?_set, List.getD_eq_getElem?_getD]
  by_cases e : k = j
  · subst e; rw [if_pos rfl, if_pos rfl, if_pos hk]; rfl
  · rw [if_neg e, if_neg (fun h => e h.symm)]
/-- a device of blocks of eight words, with power, that stands at now and, as it lasts, at synced, is the law's -/
def Says (s : St) (nw sy : List Nat) : Prop := s.size = 8 ∧ s.blocks = 6 ∧ Calm s ∧ nw.length = 6 ∧ sy.length = 6 ∧ ∀ k : Nat, k < 6 → s.now k = wordsOf (nw.getD k 0) ∧ blk 8 (s.fl k) = wordsOf (sy.getD k 0)
theorem says_fresh : Says (fresh 8 6) [0, 0, 0, 0, 0, 0] [0, 0, 0, 0, 0, 0] := by
  refine ⟨rfl, rfl, fresh_calm 8 6, rfl, rfl, fun k hk => ?_⟩
  have e : ∀ k : Nat, k < 6 → ([0, 0, 0, 0, 0, 0] : List Nat).getD k 0 = 0 := by decide
  rw [e k hk]; exact ⟨rfl, rfl⟩
theorem says_right {s : St} {nw sy : List Nat} (h : Says s nw sy) {k : Nat} (hk : k < 6) : right s k = true := by
  unfold right; rw [h.2.1]; simp; omega
theorem says_write {s : St} {nw sy : List Nat} (h : Says s nw sy) {k z : Nat} (hk : k < 6) : (write s k (wordsOf z)).1 = 0 ∧ Says (write s k (wordsOf z)).2 (nw.set k z) sy ∧ (write s k (wordsOf z)).2.later.length = s.later.length + 1 := by
  have hw := write_ok h.2.2.1 (says_right h hk) (l := wordsOf z) (by rw [h.1]; rfl)
  rw [hw]
  obtain ⟨h1, h2, h3, h4, h5, h6⟩ := h
  refine ⟨rfl, ⟨h1, h2, h3, by simp [h4], h5, fun j hj => ⟨?_, (h6 j hj).2⟩⟩, by simp⟩
  unfold St.now
  show blk s.size (lay s.fl (s.later ++ [((k : Int), wordsOf z)]) j) = _
  rw [lay_snoc, getD_set nw (by omega)]
  by_cases e : j = k
  · subst e; rw [upd_same, if_pos rfl]; rfl
  · rw [upd_other _ _ (by omega), if_neg e]; exact (h6 j hj).1
theorem says_sync {s : St} {nw sy : List Nat} (h : Says s nw sy) : (sync s).1 = 0 ∧ Says (sync s).2 nw nw ∧ (sync s).2.later = [] := by
  rw [sync_ok h.2.2.1]
  obtain ⟨h1, h2, h3, h4, h5, h6⟩ := h
  refine ⟨rfl, ⟨h1, h2, h3, h4, h4, fun j hj => ?_⟩, rfl⟩
  have := (h6 j hj).1
  unfold St.now at this
  rw [h1] at this
  refine ⟨?_, this⟩
  unfold St.now
  show blk s.size (lay (lay s.fl s.later) [] j) = _
  rw [h1]; exact this
/-- a row of bools, as it is filled -/
theorem fill_set (b : Bool) {n i : Nat} (h : i < n) : (List.replicate i (Value.bool b) ++ List.replicate (n - i) (Value.bool false)).set i (.bool b) = List.replicate (i + 1) (Value.bool b) ++ List.replicate (n - (i + 1)) (Value.bool false) := by
  apply List.ext_getElem?
  intro j
  simp only [List.getElem?_set, List.getElem?_append, List.getElem?_replicate, List.length_append, List.length_replicate]
  by_cases h1 : i = j
  · subst h1; simp; omega
  · rw [if_neg h1]
    by_cases h2 : j < i
    · simp [h2, show j < i + 1 by omega]
    · simp only [h2, if_false, show ¬ (j < i + 1) by omega]
      by_cases h3 : j - i < n - i
      · rw [if_pos h3, if_pos (by omega)]
      · rw [if_neg h3, if_neg (by omega)]
theorem fill_reads {w : World} {g n : Nat} {b : Bool} {t : TypeId} (h : Row w g t (List.replicate n (Value.bool b) ++ List.replicate (n - n) (Value.bool false))) {B : Nat} (hB : g < B) : ReadsB w B (some ⟨g, 0, none⟩) n (List.replicate n b) := by
  refine ⟨by simp, fun _ => ⟨g, 0, rfl, hB, fun i hi => ?_⟩⟩
  rw [Nat.zero_add, h.cell i, List.getElem?_append_left (by simpa using hi), List.getElem?_replicate, if_pos hi, List.getD_eq_getElem?_getD, List.getElem?_replicate, if_pos hi]; rfl
end Go.Proofs.Ytcnmbddlaaopgaa
