/- The edges turned round, from a place on; what is owned of edges is read. -/
import Derived.Test.YtdjmjabbjjcgiaaGraphROrd
namespace Go.Proofs.Ytdjmjabbjjcgiaa
open Go.ChangeShapes Go.WideShapes Go.ChangeAt Go.RowKit

theorem Row.keep {w w' : World} {g : Nat} {t : TypeId} {cs : List Value} (h : Row w g t cs) (hb : Below w.heap.size w w') : Row w' g t cs := h.below hb h.lt
def flip (e : Int × Int) : Int × Int := (e.2, e.1)
theorem norm_flip (e : Int × Int) : norm (flip e) = norm e := norm_swap e.1 e.2
/-- the first k of l's edges from place t on, each turned round -/
def turnE (l : List (Int × Int)) (n t k : Nat) : List (Int × Int) := (List.range k).map fun i => flip (gE l ((i + t) % n))
theorem turnE_length (l : List (Int × Int)) (n t k : Nat) : (turnE l n t k).length = k := by simp [turnE]
theorem turnE_snoc (l : List (Int × Int)) (n t k : Nat) : turnE l n t (k + 1) = turnE l n t k ++ [flip (gE l ((k + t) % n))] := by simp [turnE, List.range_succ]
theorem turnE_perm {l : List (Int × Int)} {n : Nat} (hl : l.length = n) (t : Nat) : ((turnE l n t n).map norm).Perm (l.map norm) := by
  rcases Nat.eq_zero_or_pos n with h0 | h0
  · subst h0
    have : l = [] := List.eq_nil_of_length_eq_zero hl
    subst this; simp [turnE]
  · have e : (turnE l n t n).map norm = (l.drop (t % n) ++ l.take (t % n)).map norm := by
      have hs : t % n < n := Nat.mod_lt _ h0
      refine List.ext_getElem (by simp [turnE_length]; omega) fun i h1 h2 => ?_
      have hi : i < n := by simpa [turnE_length] using h1
      simp only [List.getElem_map]
      unfold turnE
      simp only [List.getElem_map, List.getElem_range]
      rw [norm_flip]
      congr 1
      have hm : (i + t) % n = if i + t % n < n then i + t % n else i + t % n - n := by
        rw [Nat.add_mod, Nat.mod_eq_of_lt hi]
        split
        · rw [Nat.mod_eq_of_lt (by assumption)]
        · rw [Nat.mod_eq_sub_mod (by omega), Nat.mod_eq_of_lt (by omega)]
      rw [hm]
      by_cases hc : i + t % n < n
      · rw [if_pos hc, gE_get (by omega), List.getElem_append_left (by simp; omega), List.getElem_drop]
        congr 1; omega
      · rw [if_neg hc, gE_get (by omega), List.getElem_append_right (by simp; omega), List.getElem_take]
        congr 1; simp; omega
    rw [e]
    refine List.Perm.map _ ?_
    have h := List.perm_append_comm (l₁ := l.drop (t % n)) (l₂ := l.take (t % n))
    rwa [List.take_append_drop] at h
theorem turnE_order {l : List (Int × Int)} {n : Nat} (hl : l.length = n) (t : Nat) : order (turnE l n t n) = order l := order_congr (turnE_perm hl t)
theorem turnE_mem {l : List (Int × Int)} {n t k : Nat} (hl : l.length = n) (hn : 0 < n) {e : Int × Int} (h : e ∈ turnE l n t k) : ∃ x ∈ l, e = flip x := by
  unfold turnE at h
  obtain ⟨i, _, rfl⟩ := List.mem_map.1 h
  exact ⟨_, getD_mem (by rw [hl]; exact Nat.mod_lt _ hn), rfl⟩
theorem turnE_formed {N : Int} {l : List (Int × Int)} {n : Nat} (hl : l.length = n) (t : Nat) (hf : formed N l = true) : formed N (turnE l n t n) = true := by
  rw [formed_iff] at *
  refine ⟨⟨hf.1.1, hf.1.2.1, by rw [turnE_length, ← hl]; exact hf.1.2.2⟩, fun e he => ?_⟩
  rcases Nat.eq_zero_or_pos n with h0 | h0
  · subst h0; simp [turnE] at he
  · obtain ⟨x, hx, rfl⟩ := turnE_mem hl h0 he
    have := hf.2 x hx
    exact ⟨this.2, this.1⟩
theorem own_edges {w : World} {base n : Nat} {v : Value} {l : List (Int × Int)} (h : w.ownsRow base 43 2 v n (flatE l)) (hl : l.length = n) (hw : ∀ x ∈ l, I64 x.1 ∧ I64 x.2) :
    ∃ A c, v = .slice A n c ∧ ReadsE w w.heap.size A n l := by
  rcases h.2 with ⟨rfl, h0⟩ | ⟨g, cap', cur, rfl, hg, hh, hcap, hm, hs, ht⟩
  · subst h0
    have : l = [] := List.eq_nil_of_length_eq_zero hl
    subst this
    exact ⟨none, 0, rfl, ReadsE.nil _ _ _⟩
  · refine ⟨_, _, rfl, hl, hw, fun _ => ⟨g, 0, rfl, ?_, fun k hk => ?_⟩⟩
    · exact Row.lt (t := 43) (cs := cur.toList) hh
    · have hrow : Row w g 43 (flatE l ++ cur.toList.drop (n * 2)) := by
        have e1 : flatE l ++ cur.toList.drop (n * 2) = cur.toList := by rw [← ht]; exact List.take_append_drop _ _
        rw [e1]; exact hh
      rw [Nat.zero_add]
      exact flat_cell hrow (by omega)
theorem sum_take_le (D : List Nat) (k : Nat) : (D.take k).sum ≤ D.sum := by
  have h := List.take_append_drop k D
  have : D.sum = (D.take k).sum + (D.drop k).sum := by rw [← List.sum_append, h]
  omega
theorem sum_take_snoc {D : List Nat} {n k c : Nat} (hl : D.length = n) (hk : k < n) (hc : c = D.getD k 0) : (D.take (k + 1)).sum = (D.take k).sum + c := by
  rw [List.take_succ_eq_append_getElem (by omega), List.sum_append, hc, List.getD_eq_getElem?_getD, List.getElem?_eq_getElem (by omega)]; simp
end Go.Proofs.Ytdjmjabbjjcgiaa
