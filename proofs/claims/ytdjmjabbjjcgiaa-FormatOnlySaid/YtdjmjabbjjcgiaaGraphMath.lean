/- GRAPHS, AS MATHEMATICS: pairs of integers, formed, ascending, in order; the degrees. No program is named here. -/
import Derived.Lib.Hide
namespace Go.Proofs.Ytdjmjabbjjcgiaa

/-- v is one of N vertices -/
def vtx (v N : Int) : Bool := decide (0 ≤ v) && decide (v < N)
theorem vtx_iff {v N : Int} : vtx v N = true ↔ 0 ≤ v ∧ v < N := by unfold vtx; simp
def okE (N : Int) (e : Int × Int) : Bool := vtx e.1 N && vtx e.2 N
theorem okE_iff {N : Int} {e : Int × Int} : okE N e = true ↔ (0 ≤ e.1 ∧ e.1 < N) ∧ (0 ≤ e.2 ∧ e.2 < N) := by unfold okE; simp [vtx_iff]
/-- formed, but for the edges' ends -/
def sized (N : Int) (n : Nat) : Bool := decide (0 ≤ N) && decide (N ≤ 1073741824) && decide (n ≤ 1073741824)
theorem sized_iff {N : Int} {n : Nat} : sized N n = true ↔ 0 ≤ N ∧ N ≤ 1073741824 ∧ n ≤ 1073741824 := by unfold sized; simp [and_assoc]
def formed (N : Int) (l : List (Int × Int)) : Bool := sized N l.length && l.all (okE N)
theorem formed_iff {N : Int} {l : List (Int × Int)} : formed N l = true ↔ (0 ≤ N ∧ N ≤ 1073741824 ∧ l.length ≤ 1073741824) ∧ ∀ e ∈ l, (0 ≤ e.1 ∧ e.1 < N) ∧ (0 ≤ e.2 ∧ e.2 < N) := by
  unfold formed; simp only [Bool.and_eq_true, sized_iff, List.all_eq_true, okE_iff]
/-- a stands ahead of b -/
def ltE (a b : Int × Int) : Bool := decide (a.1 < b.1 ∨ a.1 = b.1 ∧ a.2 < b.2)
theorem ltE_iff {a b : Int × Int} : ltE a b = true ↔ a.1 < b.1 ∨ a.1 = b.1 ∧ a.2 < b.2 := by unfold ltE; simp
theorem ltE_false {a b : Int × Int} : ltE a b = false ↔ ¬ (a.1 < b.1 ∨ a.1 = b.1 ∧ a.2 < b.2) := by unfold ltE; simp
/-- place i is well, as one goes through: its ends stand right, and it isn't ahead of the one before -/
def stepE (l : List (Int × Int)) (i : Nat) : Bool := decide ((l.getD i (0, 0)).1 ≤ (l.getD i (0, 0)).2) && (decide (i = 0) || !ltE (l.getD i (0, 0)) (l.getD (i - 1) (0, 0)))
def asc (l : List (Int × Int)) : Bool := (List.range l.length).all (stepE l)
def ordered (N : Int) (l : List (Int × Int)) : Bool := formed N l && asc l

theorem all_range_true {p : Nat → Bool} {n : Nat} (h : ∀ i, i < n → p i = true) : (List.range n).all p = true := by
  simp only [List.all_eq_true, List.mem_range]; exact h
theorem all_range_false {p : Nat → Bool} {n i : Nat} (hi : i < n) (h : p i = false) : (List.range n).all p = false := by
  rw [Bool.eq_false_iff]; intro hc
  simp only [List.all_eq_true, List.mem_range] at hc
  rw [hc i hi] at h; cases h
theorem all_getD_true {p : Int × Int → Bool} {l : List (Int × Int)} (h : ∀ i, i < l.length → p (l.getD i (0, 0)) = true) : l.all p = true := by
  simp only [List.all_eq_true]; intro x hx
  obtain ⟨i, hi, rfl⟩ := List.getElem_of_mem hx
  have := h i hi
  rwa [List.getD_eq_getElem?_getD, List.getElem?_eq_getElem hi] at this
theorem getD_mem {l : List (Int × Int)} {i : Nat} (hi : i < l.length) : l.getD i (0, 0) ∈ l := by
  rw [List.getD_eq_getElem?_getD, List.getElem?_eq_getElem hi]; exact List.getElem_mem hi
theorem all_getD_false {p : Int × Int → Bool} {l : List (Int × Int)} {i : Nat} (hi : i < l.length) (h : p (l.getD i (0, 0)) = false) : l.all p = false := by
  rw [Bool.eq_false_iff]; intro hc
  simp only [List.all_eq_true] at hc
  rw [hc _ (getD_mem hi)] at h; cases h

/-- an edge with its lesser end first -/
def norm (e : Int × Int) : Int × Int := (min e.1 e.2, max e.1 e.2)
/-- a isn't behind b -/
def leE (a b : Int × Int) : Bool := !ltE b a
theorem leE_iff {a b : Int × Int} : leE a b = true ↔ a.1 < b.1 ∨ a.1 = b.1 ∧ a.2 ≤ b.2 := by
  unfold leE; simp only [Bool.not_eq_true', ltE_false]; omega
theorem leE_trans (a b c : Int × Int) (h1 : leE a b = true) (h2 : leE b c = true) : leE a c = true := by
  rw [leE_iff] at *; omega
theorem leE_total (a b : Int × Int) : (leE a b || leE b a) = true := by
  simp only [Bool.or_eq_true, leE_iff]; omega
theorem leE_antisymm {a b : Int × Int} (h1 : leE a b = true) (h2 : leE b a = true) : a = b := by
  rw [leE_iff] at *; ext <;> omega
/-- the edges in order -/
def order (l : List (Int × Int)) : List (Int × Int) := (l.map norm).mergeSort leE
theorem order_perm (l : List (Int × Int)) : (order l).Perm (l.map norm) := List.mergeSort_perm _ _
theorem order_sorted (l : List (Int × Int)) : (order l).Pairwise fun a b => leE a b = true := List.pairwise_mergeSort leE_trans leE_total _
theorem order_length (l : List (Int × Int)) : (order l).length = l.length := by rw [(order_perm l).length_eq]; simp
/-- there is but one sorted list of given members -/
theorem sorted_one {l m : List (Int × Int)} (hp : l.Perm m) (hl : l.Pairwise fun a b => leE a b = true) (hm : m.Pairwise fun a b => leE a b = true) : l = m :=
  hp.eq_of_pairwise (fun _ _ _ _ => leE_antisymm) hl hm
theorem order_one {l m : List (Int × Int)} (hp : m.Perm (l.map norm)) (hm : m.Pairwise fun a b => leE a b = true) : m = order l :=
  sorted_one (hp.trans (order_perm l).symm) hm (order_sorted l)
theorem norm_le (e : Int × Int) : (norm e).1 ≤ (norm e).2 := by unfold norm; simp only; omega
theorem norm_of_le {e : Int × Int} (h : e.1 ≤ e.2) : norm e = e := by unfold norm; ext <;> simp only <;> omega
theorem norm_swap (u v : Int) : norm (v, u) = norm (u, v) := by unfold norm; ext <;> simp only <;> omega
theorem order_le {l : List (Int × Int)} {e : Int × Int} (h : e ∈ order l) : e.1 ≤ e.2 := by
  obtain ⟨x, _, rfl⟩ := List.mem_map.1 ((order_perm l).mem_iff.1 h)
  exact norm_le x
theorem map_norm_order (l : List (Int × Int)) : (order l).map norm = order l := by
  have h : (order l).map norm = (order l).map id := List.map_congr_left fun e he => norm_of_le (order_le he)
  rw [h, List.map_id]
theorem order_order (l : List (Int × Int)) : order (order l) = order l := by
  refine (order_one ?_ (order_sorted l)).symm
  rw [map_norm_order]
theorem order_formed {N : Int} {l : List (Int × Int)} (h : formed N l = true) : formed N (order l) = true := by
  rw [formed_iff] at *
  refine ⟨by rw [order_length]; exact h.1, fun e he => ?_⟩
  obtain ⟨x, hx, rfl⟩ := List.mem_map.1 ((order_perm l).mem_iff.1 he)
  have := h.2 x hx
  unfold norm; simp only; omega
theorem sorted_asc {l : List (Int × Int)} (hs : l.Pairwise fun a b => leE a b = true) (hn : ∀ e ∈ l, e.1 ≤ e.2) : asc l = true := by
  refine all_range_true fun i hi => ?_
  unfold stepE
  have h1 := hn _ (getD_mem hi)
  simp only [Bool.and_eq_true, decide_eq_true_eq, h1, true_and, Bool.or_eq_true]
  rcases Nat.eq_zero_or_pos i with h0 | h0
  · exact .inl h0
  · refine .inr ?_
    have := List.pairwise_iff_getElem.1 hs (i - 1) i (by omega) hi (by omega)
    rw [List.getD_eq_getElem?_getD, List.getD_eq_getElem?_getD, List.getElem?_eq_getElem hi, List.getElem?_eq_getElem (by omega)]
    exact this
theorem order_ordered {N : Int} {l : List (Int × Int)} (h : formed N l = true) : ordered N (order l) = true := by
  unfold ordered
  rw [order_formed h, sorted_asc (order_sorted l) fun e he => order_le he]; rfl
theorem order_congr {l m : List (Int × Int)} (h : (l.map norm).Perm (m.map norm)) : order l = order m :=
  order_one ((order_perm l).trans h) (order_sorted l)

/-- how many ends of edges v is -/
def one (a v : Int) : Nat := if a = v then 1 else 0
def deg (l : List (Int × Int)) (v : Int) : Nat := (l.map fun e => one e.1 v + one e.2 v).sum
theorem deg_nil (v : Int) : deg [] v = 0 := rfl
theorem deg_append (l m : List (Int × Int)) (v : Int) : deg (l ++ m) v = deg l v + deg m v := by unfold deg; simp
theorem deg_snoc (l : List (Int × Int)) (e : Int × Int) (v : Int) : deg (l ++ [e]) v = deg l v + (one e.1 v + one e.2 v) := by rw [deg_append]; simp [deg]
theorem deg_le (l : List (Int × Int)) (v : Int) : deg l v ≤ 2 * l.length := by
  induction l with
  | nil => simp [deg]
  | cons e l ih =>
    have h1 : one e.1 v ≤ 1 := by unfold one; split <;> omega
    have h2 : one e.2 v ≤ 1 := by unfold one; split <;> omega
    have h3 : deg (e :: l) v = (one e.1 v + one e.2 v) + deg l v := by simp [deg]
    simp only [List.length_cons]; omega
theorem deg_perm {l m : List (Int × Int)} (h : l.Perm m) (v : Int) : deg l v = deg m v := by unfold deg; exact (h.map _).sum_nat
theorem deg_norm (l : List (Int × Int)) (v : Int) : deg (l.map norm) v = deg l v := by
  unfold deg
  rw [List.map_map]
  congr 1
  refine List.map_congr_left fun e _ => ?_
  simp only [Function.comp]
  unfold norm one
  simp only
  by_cases h : e.1 ≤ e.2
  · rw [Int.min_eq_left h, Int.max_eq_right h]
  · rw [Int.min_eq_right (by omega), Int.max_eq_left (by omega)]; omega
theorem deg_order (l : List (Int × Int)) (v : Int) : deg (order l) v = deg l v := by rw [deg_perm (order_perm l), deg_norm]
/-- the degrees of N vertices -/
def degs (N : Nat) (l : List (Int × Int)) : List Nat := (List.range N).map fun v : Nat => deg l v
theorem degs_length (N : Nat) (l : List (Int × Int)) : (degs N l).length = N := by simp [degs]
theorem degs_getD {N v : Nat} (l : List (Int × Int)) (h : v < N) : (degs N l).getD v 0 = deg l v := by
  simp [degs, List.getD_eq_getElem?_getD, h]
theorem degs_order (N : Nat) (l : List (Int × Int)) : degs N (order l) = degs N l := by
  unfold degs; exact List.map_congr_left fun v _ => deg_order l v
theorem sum_one (a : Int) (N : Nat) (h : 0 ≤ a ∧ a < N) : ((List.range N).map fun v : Nat => one a v).sum = 1 := by
  induction N with
  | zero => omega
  | succ N ih =>
    rw [List.range_succ, List.map_append, List.sum_append]
    simp only [List.map_cons, List.map_nil, List.sum_cons, List.sum_nil, Nat.add_zero]
    by_cases h1 : a = (N : Int)
    · have h0 : ((List.range N).map fun v : Nat => one a v).sum = 0 := by
        refine List.sum_eq_zero_iff_forall_eq_nat.2 fun x hx => ?_
        obtain ⟨v, hv, rfl⟩ := List.mem_map.1 hx
        have := List.mem_range.1 hv
        unfold one; rw [if_neg (by omega)]
      rw [h0]; unfold one; rw [if_pos h1]
    · rw [ih (by omega)]; unfold one; rw [if_neg h1]
theorem sum_add (N : Nat) (f g : Nat → Nat) : ((List.range N).map fun v => f v + g v).sum = ((List.range N).map f).sum + ((List.range N).map g).sum := by
  induction N with
  | zero => rfl
  | succ N ih => simp only [List.range_succ, List.map_append, List.sum_append, ih, List.map_cons, List.map_nil, List.sum_cons, List.sum_nil]; omega
theorem degs_sum {N : Nat} {l : List (Int × Int)} (h : ∀ e ∈ l, (0 ≤ e.1 ∧ e.1 < (N : Int)) ∧ (0 ≤ e.2 ∧ e.2 < (N : Int))) : (degs N l).sum = 2 * l.length := by
  induction l with
  | nil =>
    unfold degs
    refine List.sum_eq_zero_iff_forall_eq_nat.2 fun x hx => ?_
    obtain ⟨v, _, rfl⟩ := List.mem_map.1 hx
    rfl
  | cons e l ih =>
    have h1 := h e (by simp)
    have h2 : degs N (e :: l) = (List.range N).map fun v : Nat => (one e.1 v + one e.2 v) + deg l v := by unfold degs; simp [deg]
    rw [h2, sum_add N (fun v => one e.1 v + one e.2 v) (fun v => deg l v), sum_add N (fun v => one e.1 v) (fun v => one e.2 v), sum_one e.1 N h1.1, sum_one e.2 N h1.2]
    have := ih fun x hx => h x (by simp [hx])
    unfold degs at this
    rw [this, List.length_cons]; omega

/-- the places of the loops among the first k edges -/
def loops (l : List (Int × Int)) : Nat → List Nat
  | 0 => []
  | k + 1 => loops l k ++ if (l.getD k (0, 0)).1 = (l.getD k (0, 0)).2 then [k] else []
theorem loops_length (l : List (Int × Int)) (k : Nat) : (loops l k).length ≤ k := by
  induction k with
  | zero => simp [loops]
  | succ k ih => unfold loops; split <;> simp <;> omega
theorem loops_lt (l : List (Int × Int)) (k x : Nat) (h : x ∈ loops l k) : x < k := by
  induction k with
  | zero => simp [loops] at h
  | succ k ih =>
    unfold loops at h
    rcases List.mem_append.1 h with h | h
    · have := ih h; omega
    · split at h <;> simp at h
      omega
end Go.Proofs.Ytdjmjabbjjcgiaa
