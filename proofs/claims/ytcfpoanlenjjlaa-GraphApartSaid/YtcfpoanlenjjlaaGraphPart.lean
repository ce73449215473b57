/- One graph beside another: the edges moved along. -/
import Derived.Test.YtcfpoanlenjjlaaGraphIns
namespace Go.Proofs.Ytcfpoanlenjjlaa

def shiftE (c : Int) (e : Int × Int) : Int × Int := (e.1 + c, e.2 + c)
theorem norm_shift (c : Int) (e : Int × Int) : norm (shiftE c e) = shiftE c (norm e) := by unfold norm shiftE; ext <;> simp only <;> omega
theorem leE_shift (c : Int) (a b : Int × Int) : leE (shiftE c a) (shiftE c b) = leE a b := by
  have h : leE (shiftE c a) (shiftE c b) = true ↔ leE a b = true := by rw [leE_iff, leE_iff]; unfold shiftE; simp only; omega
  exact Bool.eq_iff_iff.2 h
/-- the graph made of two: the second's edges, moved, and then the first's -/
def beside (N : Nat) (la lb : List (Int × Int)) : List (Int × Int) := lb.map (shiftE N) ++ la
theorem beside_length (N : Nat) (la lb : List (Int × Int)) : (beside N la lb).length = lb.length + la.length := by simp [beside]
theorem beside_mem {N M : Nat} {la lb : List (Int × Int)} (ha : formed N la = true) (hb : formed M lb = true) : ∀ e ∈ beside N la lb, (0 ≤ e.1 ∧ e.1 < (N : Int) + M) ∧ (0 ≤ e.2 ∧ e.2 < (N : Int) + M) := by
  intro e he
  rw [formed_iff] at ha hb
  unfold beside at he
  rcases List.mem_append.1 he with h | h
  · obtain ⟨x, hx, rfl⟩ := List.mem_map.1 h
    have := hb.2 x hx
    unfold shiftE; simp only; omega
  · have := ha.2 e h; omega
theorem beside_formed {N M : Nat} {la lb : List (Int × Int)} (ha : formed N la = true) (hb : formed M lb = true) (h1 : N + M ≤ 1073741824) (h2 : lb.length + la.length ≤ 1073741824) : formed ((N + M : Nat) : Int) (beside N la lb) = true := by
  refine formed_iff.2 ⟨⟨by omega, by omega, by rw [beside_length]; omega⟩, fun e he => ?_⟩
  have := beside_mem ha hb e he
  omega
theorem one_shift (a v c : Int) : one (a + c) v = one a (v - c) := by
  unfold one
  by_cases h : a + c = v
  · rw [if_pos h, if_pos (by omega)]
  · rw [if_neg h, if_neg (by omega)]
theorem deg_shift (l : List (Int × Int)) (v c : Int) : deg (l.map (shiftE c)) v = deg l (v - c) := by
  unfold deg shiftE
  rw [List.map_map]
  refine congrArg _ (List.map_congr_left fun e _ => ?_)
  simp only [Function.comp]
  rw [one_shift, one_shift]
theorem deg_zero {l : List (Int × Int)} {v : Int} (h : ∀ e ∈ l, e.1 ≠ v ∧ e.2 ≠ v) : deg l v = 0 := by
  unfold deg
  refine List.sum_eq_zero_iff_forall_eq_nat.2 fun x hx => ?_
  obtain ⟨e, he, rfl⟩ := List.mem_map.1 hx
  have := h e he
  unfold one
  rw [if_neg this.1, if_neg this.2]
theorem degs_beside {N M : Nat} {la lb : List (Int × Int)} (ha : formed N la = true) (hb : formed M lb = true) : degs (N + M) (beside N la lb) = degs N la ++ degs M lb := by
  rw [formed_iff] at ha hb
  refine List.ext_getElem (by simp [degs]) fun i h1 h2 => ?_
  have hi : i < N + M := by simpa [degs] using h1
  by_cases hc : i < N
  · rw [List.getElem_append_left (by simp [degs]; omega)]
    simp only [degs, List.getElem_map, List.getElem_range]
    unfold beside
    rw [deg_append, deg_zero (l := lb.map (shiftE N)), Nat.zero_add]
    intro e he
    obtain ⟨x, hx, rfl⟩ := List.mem_map.1 he
    have := hb.2 x hx
    unfold shiftE; simp only; omega
  · rw [List.getElem_append_right (by simp [degs]; omega)]
    simp only [degs, List.getElem_map, List.getElem_range, List.length_map, List.length_range]
    unfold beside
    rw [deg_append, deg_shift, deg_zero (l := la), Nat.add_zero]
    · congr 1; omega
    · intro e he
      have := ha.2 e he
      omega
theorem order_beside {N M : Nat} {la lb : List (Int × Int)} (ha : formed N la = true) (hb : formed M lb = true) : order (beside N la lb) = order la ++ (order lb).map (shiftE N) := by
  refine (order_one (l := beside N la lb) ?_ ?_).symm
  · have h1 : (beside N la lb).map norm = (lb.map norm).map (shiftE N) ++ la.map norm := by
      unfold beside
      rw [List.map_append, List.map_map, List.map_map]
      refine congrArg (· ++ _) (List.map_congr_left fun e _ => ?_)
      exact norm_shift _ _
    rw [h1]
    exact List.perm_append_comm.trans (List.Perm.append ((order_perm lb).map _) (order_perm la))
  · refine List.pairwise_append.2 ⟨order_sorted la, ?_, ?_⟩
    · refine List.pairwise_map.2 ((order_sorted lb).imp fun {a b} h => ?_)
      rw [leE_shift]; exact h
    · intro e he f hf
      obtain ⟨x, hx, rfl⟩ := List.mem_map.1 hf
      have h1 := (formed_iff.1 (order_formed ha)).2 e he
      have h2 := (formed_iff.1 (order_formed hb)).2 x hx
      rw [leE_iff]; unfold shiftE; simp only; omega
theorem beside_left {N n i : Nat} {la lb : List (Int × Int)} (hl : la.length = n) (hi : i < n) : (order la ++ (order lb).map (shiftE N)).getD i (0, 0) = (order la).getD i (0, 0) := by
  rw [List.getD_eq_getElem?_getD, List.getD_eq_getElem?_getD, List.getElem?_append_left (by rw [order_length]; omega)]
theorem beside_right {N n m i : Nat} {la lb : List (Int × Int)} (hl : la.length = n) (hm : lb.length = m) (hi : n ≤ i) (hj : i < n + m) : (order la ++ (order lb).map (shiftE N)).getD i (0, 0) = shiftE N ((order lb).getD (i - n) (0, 0)) := by
  have h1 : i - n < (order lb).length := by rw [order_length]; omega
  rw [List.getD_eq_getElem?_getD, List.getD_eq_getElem?_getD, List.getElem?_append_right (by rw [order_length]; omega), order_length, hl, List.getElem?_map, List.getElem?_eq_getElem h1]
  rfl
theorem shift_take {N n k : Nat} {l : List (Int × Int)} {u v : Int} (hl : l.length = n) (hk : k < n) (h : l.getD k (0, 0) = (u, v)) : (l.take (k + 1)).map (shiftE N) = (l.take k).map (shiftE N) ++ [(u + N, v + N)] := by
  rw [List.take_succ_eq_append_getElem (by omega), List.map_append]
  rw [List.getD_eq_getElem?_getD, List.getElem?_eq_getElem (by omega)] at h
  simp only [Option.getD_some] at h
  rw [h]; rfl
end Go.Proofs.Ytcfpoanlenjjlaa
