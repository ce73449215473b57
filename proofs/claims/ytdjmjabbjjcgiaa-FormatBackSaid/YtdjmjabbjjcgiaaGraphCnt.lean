/- What graph.Degrees and the reference's Degrees answer. -/
import Derived.Test.YtdjmjabbjjcgiaaGraphSmall
import Derived.IntWalk
namespace Go.Proofs.Ytdjmjabbjjcgiaa
open Go.ChangeShapes Go.WideShapes Go.ChangeAt Go.RowKit

def i64c (c : Nat) : Value := .int .i64 c
/-- one more at place u -/
def bump (D : List Nat) (u : Nat) : List Nat := D.set u (D.getD u 0 + 1)
theorem bump_length (D : List Nat) (u : Nat) : (bump D u).length = D.length := by simp [bump]
theorem bump_getD {D : List Nat} {u v : Nat} (hv : v < D.length) : (bump D u).getD v 0 = D.getD v 0 + one (u : Int) (v : Int) := by
  unfold bump one
  simp only [List.getD_eq_getElem?_getD, List.getElem?_set]
  by_cases h : u = v
  · subst h; simp [hv]
  · rw [if_neg h, if_neg (by omega)]; rfl
theorem bump_degs {N : Nat} {l : List (Int × Int)} {u v : Nat} : bump (bump (degs N l) u) v = degs N (l ++ [((u : Int), (v : Int))]) := by
  refine List.ext_getElem (by simp [bump_length, degs_length]) fun i h1 h2 => ?_
  have hi : i < N := by simpa [degs_length] using h2
  have e1 := bump_getD (D := bump (degs N l) u) (u := v) (v := i) (by rw [bump_length, degs_length]; exact hi)
  have e3 := bump_getD (D := degs N l) (u := u) (v := i) (by rw [degs_length]; exact hi)
  rw [degs_getD l hi] at e3
  have e2 := degs_getD (l ++ [((u : Int), (v : Int))]) hi
  rw [deg_snoc] at e2
  rw [List.getD_eq_getElem?_getD, List.getElem?_eq_getElem h1] at e1
  rw [List.getD_eq_getElem?_getD, List.getElem?_eq_getElem h2] at e2
  simp only [Option.getD_some] at e1 e2
  omega
theorem degs_zero (N : Nat) : degs N [] = List.replicate N 0 := by
  refine List.ext_getElem (by simp [degs_length]) fun i h1 h2 => ?_
  simp [degs, deg_nil]
theorem row_bump {w : World} {g : Nat} {t : TypeId} {D : List Nat} (h : Row w g t (D.map i64c)) {u : Nat} : Row (w.setCell ⟨g, u, none⟩ (.int .i64 ((D.getD u 0 : Nat) + 1))) g t ((bump D u).map i64c) := by
  have := h.set u (.int .i64 ((D.getD u 0 : Nat) + 1))
  unfold bump
  rw [List.map_set]
  have e : i64c (D.getD u 0 + 1) = .int .i64 ((D.getD u 0 : Nat) + 1) := rfl
  rw [e]; exact this
theorem row_at {w : World} {g : Nat} {t : TypeId} {D : List Nat} (h : Row w g t (D.map i64c)) {u : Nat} (hu : u < D.length) : w.cell? ⟨g, u, none⟩ = some (.int .i64 (D.getD u 0 : Nat)) := by
  rw [h.cell, List.getElem?_map, List.getElem?_eq_getElem hu, List.getD_eq_getElem?_getD, List.getElem?_eq_getElem hu]; rfl
theorem deg_bound {N : Nat} {l : List (Int × Int)} {n k : Nat} (hk : k ≤ n) (u : Nat) : (degs N (l.take k)).getD u 0 ≤ 2 * n := by
  rcases Nat.lt_or_ge u N with h | h
  · rw [degs_getD _ h]
    have := deg_le (l.take k) u
    have := List.length_take_le k l
    omega
  · rw [List.getD_eq_getElem?_getD, List.getElem?_eq_none (by rw [degs_length]; exact h)]; simp

theorem bump_bound {D : List Nat} {u : Nat} (v : Nat) : (bump D u).getD v 0 ≤ D.getD v 0 + 1 := by
  rcases Nat.lt_or_ge v D.length with h | h
  · rw [bump_getD h]; unfold one; split <;> omega
  · rw [List.getD_eq_getElem?_getD, List.getElem?_eq_none (by rw [bump_length]; exact h)]; simp
/-- a list of n numbers is answered, beside OK, in memory of its own; what was there stays -/
def Listed (w : World) (n : Nat) (L : List Nat) (e : Ending) (w' : World) : Prop :=
  ∃ v, e = .returned (.tuple #[v, .int .i64 0]) ∧ w'.ownsRow w.heap.size 3 1 v n (L.map i64c) ∧ (∀ x ∈ L, I64 (x : Int)) ∧ Below w.heap.size w w'
theorem own_of_row {w : World} {g base : Nat} {t : TypeId} {cs : List Value} {n : Nat} (h : Row w g t cs) (hn : cs.length = n) (hb : base ≤ g) (hm : n ≤ maxLen) : w.ownsRow base t 1 (.slice (some ⟨g, 0, none⟩) n n) n cs :=
  ⟨by omega, .inr ⟨g, n, cs.toArray, rfl, hb, h, Nat.le_refl _, hm, by simp [hn], by rw [Nat.mul_one]; exact List.take_of_length_le (by simp [hn])⟩⟩
theorem own_base {w : World} {base base' : Nat} {e : TypeId} {v : Value} {n : Nat} {xs : List Value} (h : w.ownsRow base e 1 v n xs) (hb : base' ≤ base) : w.ownsRow base' e 1 v n xs := by
  refine ⟨h.1, ?_⟩
  rcases h.2 with h0 | ⟨g, cap, cur, h1, h2, h3⟩
  · exact .inl h0
  · exact .inr ⟨g, cap, cur, h1, by omega, h3⟩
theorem degs_wf {N : Nat} {l : List (Int × Int)} (hl : l.length ≤ 1073741824) : ∀ x ∈ degs N l, I64 (x : Int) := fun x hx => by
  obtain ⟨v, _, rfl⟩ := List.mem_map.1 hx
  have := deg_le l v
  exact I64.of (by omega) (by omega)
theorem info_int : (Try.prog.info? 3).map (fun i => (i.zero, i.size, i.bytes)) = some (some (.int .i64 0), 1, 8) := by kernel_rfl




theorem degs_take (N : Nat) (l : List (Int × Int)) (k : Nat) (hk : k < N) : (degs N l).take (k + 1) = (degs N l).take k ++ [deg l k] := by
  rw [List.take_succ_eq_append_getElem (by rw [degs_length]; exact hk)]
  have := degs_getD l hk
  rw [List.getD_eq_getElem?_getD, List.getElem?_eq_getElem (by rw [degs_length]; exact hk)] at this
  simp only [Option.getD_some] at this
  rw [this]
theorem take_edge {l : List (Int × Int)} {n k : Nat} {u v : Int} (hl : l.length = n) (hk : k < n) (h : l.getD k (0, 0) = (u, v)) : l.take (k + 1) = l.take k ++ [(u, v)] := by
  rw [List.take_succ_eq_append_getElem (by omega)]
  rw [List.getD_eq_getElem?_getD, List.getElem?_eq_getElem (by omega)] at h
  simp only [Option.getD_some] at h
  rw [h]
theorem news2 {w : World} {o : Obj} {t : TypeId} {u : Value} : ∀ j v, ([u] : List Value)[j]? = some v → ((w.alloc o).alloc (.cells #[u] t)).cell? ((⟨w.heap.size + 1, 0, none⟩ : Addr).add j) = some v := by
  have := cells1 (w := w.alloc o) (n := t) (u := u)
  simpa using this
theorem own_keep {w w' : World} {base : Nat} {e : TypeId} {v : Value} {n : Nat} {xs : List Value} (h : w.ownsRow base e 1 v n xs) (hb : Below w.heap.size w w') : w'.ownsRow base e 1 v n xs := by
  refine ⟨h.1, ?_⟩
  rcases h.2 with h0 | ⟨g, cap, cur, h1, h2, h3, h4⟩
  · exact .inl h0
  · refine .inr ⟨g, cap, cur, h1, h2, ?_, h4⟩
    have hlt : g < w.heap.size := by
      rcases Nat.lt_or_ge g w.heap.size with h | h
      · exact h
      · rw [Array.getElem?_eq_none h] at h3; cases h3
    rw [hb.block g hlt]; exact h3
theorem own_drewN {w : World} {base : Nat} {e : TypeId} {v : Value} {n : Nat} {xs : List Value} (h : w.ownsRow base e 1 v n xs) (m : Nat) : (w.drewN m).ownsRow base e 1 v n xs := h
theorem news1 {w : World} {t : TypeId} {u : Value} : ∀ j v, ([u] : List Value)[j]? = some v → (w.alloc (.cells #[u] t)).cell? ((⟨w.heap.size, 0, none⟩ : Addr).add j) = some v := cells1

end Go.Proofs.Ytdjmjabbjjcgiaa
