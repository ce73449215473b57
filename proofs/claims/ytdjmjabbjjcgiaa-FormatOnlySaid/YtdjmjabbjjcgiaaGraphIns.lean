/- Insertion, as mathematics: the reference's Order puts each edge where it belongs. -/
import Derived.Test.YtdjmjabbjjcgiaaGraphMath
import Derived.Sort.Lot0
namespace Go.Proofs.Ytdjmjabbjjcgiaa

abbrev gE (E : List (Int × Int)) (p : Nat) : Int × Int := E.getD p (0, 0)
/-- all of P, in order but for the one at place k, which isn't behind those behind it -/
structure InsAt (P E : List (Int × Int)) (i k : Nat) : Prop where
  perm : E.Perm P
  len : E.length = i + 1
  srt : ∀ p q, p < q → q ≤ i → p ≠ k → q ≠ k → leE (gE E p) (gE E q) = true
  aft : ∀ q, k < q → q ≤ i → leE (gE E k) (gE E q) = true
theorem gE_get {E : List (Int × Int)} {p : Nat} (h : p < E.length) : gE E p = E[p] := by
  unfold gE; rw [List.getD_eq_getElem?_getD, List.getElem?_eq_getElem h]; rfl
theorem InsAt.start {l : List (Int × Int)} {i : Nat} {e : Int × Int} (hi : (l.take i).length = i) (hl : l.take (i + 1) = l.take i ++ [e]) : InsAt ((l.take (i + 1)).map norm) (order (l.take i) ++ [norm e]) i i := by
  have hlen : (order (l.take i)).length = i := by rw [order_length]; exact hi
  refine ⟨?_, by simp [hlen], fun p q hpq hq hp hq2 => ?_, fun q h1 h2 => absurd h1 (by omega)⟩
  · rw [hl, List.map_append]
    exact (order_perm _).append_right _
  · have hp' : p < (order (l.take i)).length := by omega
    have hq' : q < (order (l.take i)).length := by omega
    rw [gE_get (by simp; omega), gE_get (by simp; omega), List.getElem_append_left hp', List.getElem_append_left hq']
    exact List.pairwise_iff_getElem.1 (order_sorted _) p q hp' hq' hpq
theorem InsAt.stop {l : List (Int × Int)} {E : List (Int × Int)} {i k : Nat} (h : InsAt ((l.take (i + 1)).map norm) E i k) (hk : k ≤ i) (hs : k = 0 ∨ ltE (gE E k) (gE E (k - 1)) = false) : E = order (l.take (i + 1)) := by
  refine order_one h.perm (List.pairwise_iff_getElem.2 fun p q hp hq hpq => ?_)
  have hl := h.len
  rw [← gE_get hp, ← gE_get hq]
  by_cases h1 : p = k
  · subst h1; exact h.aft q hpq (by omega)
  · by_cases h2 : q = k
    · subst h2
      rcases hs with h0 | h0
      · omega
      · have h3 : leE (gE E (q - 1)) (gE E q) = true := by unfold leE; rw [h0]; rfl
        by_cases h4 : p = q - 1
        · rw [h4]; exact h3
        · exact leE_trans _ _ _ (h.srt p (q - 1) (by omega) (by omega) (by omega) (by omega)) h3
    · exact h.srt p q hpq (by omega) h1 h2
theorem gE_set {E : List (Int × Int)} {a p : Nat} {e : Int × Int} (ha : a < E.length) : gE (E.set a e) p = if p = a then e else gE E p := by
  unfold gE
  simp only [List.getD_eq_getElem?_getD, List.getElem?_set]
  by_cases h : a = p
  · subst h; simp [ha]
  · rw [if_neg h, if_neg (fun h2 => h h2.symm)]
theorem swap_perm {E : List (Int × Int)} {a b : Nat} (ha : a < E.length) (hb : b < E.length) : ((E.set a (gE E b)).set b (gE E a)).Perm E := by
  have h := (Sort.swp_permIn (α := Int × Int) E.toArray 0 E.toArray.size a b (Nat.zero_le _) (by simpa using ha) (Nat.zero_le _) (by simpa using hb) (Nat.le_refl _))
  have h2 := h.2.2
  rw [← h.1, Array.extract_size, h.1, Array.extract_size] at h2
  have e : (Sort.swp E.toArray a b).toList = (E.set a (gE E b)).set b (gE E a) := by
    unfold Sort.swp
    rw [gE_get ha, gE_get hb, getElem!_pos E.toArray b (by simpa using hb), getElem!_pos E.toArray a (by simpa using ha)]
    simp
  rw [e] at h2
  simpa using h2
theorem InsAt.step {P E : List (Int × Int)} {i j : Nat} (h : InsAt P E i (j + 1)) (hj : j + 1 ≤ i) (hlt : ltE (gE E (j + 1)) (gE E j) = true) : InsAt P ((E.set (j + 1) (gE E j)).set j (gE E (j + 1))) i j := by
  have hl := h.len
  have hle : leE (gE E (j + 1)) (gE E j) = true := by
    rw [leE_iff]; rw [ltE_iff] at hlt; omega
  have hg : ∀ p, gE ((E.set (j + 1) (gE E j)).set j (gE E (j + 1))) p = if p = j then gE E (j + 1) else if p = j + 1 then gE E j else gE E p := fun p => by
    rw [gE_set (by simp; omega), gE_set (by omega)]
  refine ⟨(swap_perm (by omega) (by omega)).trans h.perm, by simp [hl], fun p q hpq hq hp hq2 => ?_, fun q h1 h2 => ?_⟩
  · rw [hg, hg, if_neg hp, if_neg hq2]
    by_cases h1 : p = j + 1
    · rw [if_pos h1, if_neg (by omega)]
      exact h.srt j q (by omega) hq (by omega) (by omega)
    · rw [if_neg h1]
      by_cases h2 : q = j + 1
      · rw [if_pos h2]; exact h.srt p j (by omega) (by omega) h1 (by omega)
      · rw [if_neg h2]; exact h.srt p q hpq hq h1 h2
  · rw [hg, hg, if_pos rfl, if_neg (by omega)]
    by_cases h3 : q = j + 1
    · rw [if_pos h3]; exact hle
    · rw [if_neg h3]; exact h.aft q (by omega) h2
end Go.Proofs.Ytdjmjabbjjcgiaa
