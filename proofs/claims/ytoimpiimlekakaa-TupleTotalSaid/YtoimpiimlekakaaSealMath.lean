/- A SEALED BLOCK AS MATHEMATICS: its words, what a block is opened as, and what one half of a word, or another address, makes of it. No program is named here. -/
import Derived.Test.YtoimpiimlekakaaCrcMath
namespace Go.Proofs.Ytoimpiimlekakaa

/-- the last word behind the words of l -/
def lastW (l : List Nat) (num ad : Nat) : Nat := num * 4294967296 + sm (l ++ [num, ad])
/-- all words of a block but the last one -/
def frontW (size tag : Nat) (pl : List Nat) : List Nat := pl ++ List.replicate (size - 2 - pl.length) 0 ++ [tag]
/-- a sealed block -/
def sealW (size ad tag : Nat) (pl : List Nat) : List Nat := frontW size tag pl ++ [lastW (frontW size tag pl) (pl.length + 1) ad]
/-- how many words the payload of a block has, and one more, as its last word tells -/
def numW (b : List Nat) : Nat := b.getD (b.length - 1) 0 / 4294967296
def tagW (b : List Nat) : Nat := b.getD (b.length - 2) 0
/-- a block is the sealed one of its own payload and tag, at that address -/
def okW (b : List Nat) (ad : Nat) : Bool := decide (1 ≤ numW b) && decide (numW b ≤ b.length - 1) && decide (b = sealW b.length ad (tagW b) (b.take (numW b - 1)))

theorem front_len {size tag : Nat} {pl : List Nat} (h : pl.length ≤ size - 2) (h2 : 2 ≤ size) : (frontW size tag pl).length = size - 1 := by
  unfold frontW; simp; omega
theorem seal_len {size ad tag : Nat} {pl : List Nat} (h : pl.length ≤ size - 2) (h2 : 2 ≤ size) : (sealW size ad tag pl).length = size := by
  unfold sealW; rw [List.length_append, front_len h h2]; simp; omega
theorem last_lt {l : List Nat} {num ad : Nat} (h : num < 4294967296) : lastW l num ad < 18446744073709551616 := by
  unfold lastW; have := sm_lt (l ++ [num, ad]); omega
theorem last_div {l : List Nat} {num ad : Nat} : lastW l num ad / 4294967296 = num := by
  unfold lastW; have := sm_lt (l ++ [num, ad]); omega
theorem last_mod {l : List Nat} {num ad : Nat} : lastW l num ad % 4294967296 = sm (l ++ [num, ad]) := by
  unfold lastW; have := sm_lt (l ++ [num, ad]); omega
theorem last_or {l : List Nat} {num ad : Nat} : num * 4294967296 ||| sm (l ++ [num, ad]) = lastW l num ad := by
  unfold lastW
  rw [show num * 4294967296 = 2 ^ 32 * num by rw [Nat.mul_comm]]
  exact (Nat.two_pow_add_eq_or_of_lt (i := 32) (sm_lt _) num).symm
theorem front_u64 {size tag : Nat} {pl : List Nat} (hp : U64s pl) (ht : tag < 18446744073709551616) : U64s (frontW size tag pl) := by
  intro x hx
  unfold frontW at hx
  rcases List.mem_append.1 hx with hx | hx
  · rcases List.mem_append.1 hx with hx | hx
    · exact hp x hx
    · rw [List.mem_replicate] at hx; omega
  · simp at hx; omega
theorem seal_u64 {size ad tag : Nat} {pl : List Nat} (hp : U64s pl) (ht : tag < 18446744073709551616) (hn : pl.length + 1 < 4294967296) : U64s (sealW size ad tag pl) := by
  intro x hx
  unfold sealW at hx
  rcases List.mem_append.1 hx with hx | hx
  · exact front_u64 hp ht x hx
  · simp at hx; subst hx; exact last_lt hn

theorem getD_split {α : Type} {l m : List α} {k : Nat} {x d : α} (h : l.length = k) : (l ++ x :: m).getD k d = x := by
  rw [List.getD_eq_getElem?_getD, List.getElem?_append_right (by omega), h, Nat.sub_self]; rfl
theorem seal_last {size ad tag : Nat} {pl : List Nat} (h : pl.length ≤ size - 2) (h2 : 2 ≤ size) : (sealW size ad tag pl).getD (size - 1) 0 = lastW (frontW size tag pl) (pl.length + 1) ad := by
  unfold sealW; exact getD_split (front_len h h2)
theorem seal_num {size ad tag : Nat} {pl : List Nat} (h : pl.length ≤ size - 2) (h2 : 2 ≤ size) : numW (sealW size ad tag pl) = pl.length + 1 := by
  unfold numW; rw [seal_len h h2, seal_last h h2, last_div]
theorem seal_tag {size ad tag : Nat} {pl : List Nat} (h : pl.length ≤ size - 2) (h2 : 2 ≤ size) : tagW (sealW size ad tag pl) = tag := by
  unfold tagW; rw [seal_len h h2]
  unfold sealW
  have e : frontW size tag pl ++ [lastW (frontW size tag pl) (pl.length + 1) ad] = (pl ++ List.replicate (size - 2 - pl.length) 0) ++ tag :: [lastW (frontW size tag pl) (pl.length + 1) ad] := by
    conv => lhs; unfold frontW
    rw [List.append_assoc, List.singleton_append]; rfl
  rw [e]
  exact getD_split (by simp; omega)
theorem seal_take {size ad tag : Nat} {pl : List Nat} : (sealW size ad tag pl).take pl.length = pl := by
  unfold sealW frontW
  rw [List.append_assoc, List.append_assoc]
  exact List.take_left' rfl
theorem seal_front {size ad tag : Nat} {pl : List Nat} (h : pl.length ≤ size - 2) (h2 : 2 ≤ size) : (sealW size ad tag pl).take (size - 1) = frontW size tag pl := by
  unfold sealW; exact List.take_left' (front_len h h2)
/-- what is put is got -/
theorem seal_ok {size ad tag : Nat} {pl : List Nat} (h : pl.length ≤ size - 2) (h2 : 2 ≤ size) : okW (sealW size ad tag pl) ad = true := by
  unfold okW
  rw [seal_num h h2, seal_tag h h2, seal_len h h2, Nat.add_sub_cancel, seal_take]
  simp; omega

theorem list_parts {b : List Nat} {n p : Nat} (hn : b.length = n) (h2 : 2 ≤ n) (hp : p ≤ n - 2) :
    b = b.take p ++ (b.drop p).take (n - 2 - p) ++ [b.getD (n - 2) 0] ++ [b.getD (n - 1) 0] ∧ b.take (n - 1) = b.take p ++ (b.drop p).take (n - 2 - p) ++ [b.getD (n - 2) 0] := by
  have h1 : b.take (n - 1) = b.take (n - 2) ++ [b.getD (n - 2) 0] := by
    rw [show n - 1 = n - 2 + 1 by omega, List.take_succ_eq_append_getElem (by omega), List.getD_eq_getElem?_getD, List.getElem?_eq_getElem (by omega)]; rfl
  have h0 : b.take (n - 2) = b.take p ++ (b.drop p).take (n - 2 - p) := by
    conv => lhs; rw [show n - 2 = p + (n - 2 - p) by omega]
    rw [List.take_add]
  have h3 : b.take n = b.take (n - 1) ++ [b.getD (n - 1) 0] := by
    conv => lhs; rw [show n = n - 1 + 1 by omega]
    rw [List.take_succ_eq_append_getElem (by omega), List.getD_eq_getElem?_getD, List.getElem?_eq_getElem (by omega)]; rfl
  refine ⟨?_, by rw [h1, h0]⟩
  rw [← h0, ← h1, ← h3, List.take_of_length_le (by omega)]
theorem all_zero_iff {l : List Nat} : (∀ x ∈ l, x = 0) ↔ l = List.replicate l.length 0 := by
  rw [List.eq_replicate_iff]; simp
/-- a block is sealed just if the words between the payload and the tag are zeros, and the last word is as it should be -/
theorem ok_iff {b : List Nat} {ad n : Nat} (hn : b.length = n) (h2 : 2 ≤ n) (h3 : 1 ≤ numW b) (h4 : numW b ≤ n - 1) :
    okW b ad = true ↔ (∀ x ∈ (b.drop (numW b - 1)).take (n - 2 - (numW b - 1)), x = 0) ∧ b.getD (n - 1) 0 = lastW (b.take (n - 1)) (numW b) ad := by
  have hp : numW b - 1 ≤ n - 2 := by omega
  obtain ⟨e1, e2⟩ := list_parts hn h2 hp
  have hlen : (b.take (numW b - 1)).length = numW b - 1 := by rw [List.length_take]; omega
  have hmid : ((b.drop (numW b - 1)).take (n - 2 - (numW b - 1))).length = n - 2 - (numW b - 1) := by rw [List.length_take, List.length_drop]; omega
  have hok : okW b ad = true ↔ b = sealW n ad (b.getD (n - 2) 0) (b.take (numW b - 1)) := by
    unfold okW tagW
    rw [hn]
    simp [h3, h4]
  rw [hok, all_zero_iff, hmid]
  have hS : sealW n ad (b.getD (n - 2) 0) (b.take (numW b - 1)) = b.take (numW b - 1) ++ List.replicate (n - 2 - (numW b - 1)) 0 ++ [b.getD (n - 2) 0] ++ [lastW (b.take (numW b - 1) ++ List.replicate (n - 2 - (numW b - 1)) 0 ++ [b.getD (n - 2) 0]) (numW b) ad] := by
    unfold sealW frontW
    rw [hlen, show numW b - 1 + 1 = numW b by omega]
  rw [hS, e2]
  generalize b.take (numW b - 1) = P at *
  generalize (b.drop (numW b - 1)).take (n - 2 - (numW b - 1)) = M at *
  generalize n - 2 - (numW b - 1) = k at *
  generalize b.getD (n - 2) 0 = t at *
  generalize b.getD (n - 1) 0 = z at *
  generalize numW b = num at *
  constructor
  · intro h
    rw [e1] at h
    have h5 := List.append_inj h (by simp [hmid])
    have h6 := List.append_inj h5.1 (by simp [hmid])
    have h7 := List.append_inj h6.1 rfl
    refine ⟨h7.2, ?_⟩
    have h8 : z = lastW (P ++ List.replicate k 0 ++ [t]) num ad := by simpa using h5.2
    rw [h7.2]; exact h8
  · rintro ⟨h5, h6⟩
    conv => lhs; rw [e1, h6]
    rw [h5]
/-- a sealed block's payload and sum -/
theorem ok_parts {b : List Nat} {ad n : Nat} (hn : b.length = n) (h2 : 2 ≤ n) (h : okW b ad = true) : 1 ≤ numW b ∧ numW b ≤ n - 1 ∧ b.getD (n - 1) 0 = lastW (b.take (n - 1)) (numW b) ad := by
  have h0 := h
  unfold okW at h0
  simp only [Bool.and_eq_true, decide_eq_true_eq] at h0
  rw [hn] at h0
  exact ⟨h0.1.1, h0.1.2, ((ok_iff hn h2 h0.1.1 h0.1.2).1 h).2⟩
/-- zeros are no block -/
theorem ok_zeros (n ad : Nat) : okW (List.replicate n 0) ad = false := by
  unfold okW
  have : numW (List.replicate n 0) = 0 := by
    unfold numW
    rw [List.getD_eq_getElem?_getD, List.getElem?_replicate]
    split <;> rfl
  rw [this]; rfl

theorem set_get (l : List Nat) (k j v : Nat) (hk : k < l.length) : (l.set k v).getD j 0 = if k = j then v else l.getD j 0 := by
  rw [List.getD_eq_getElem?_getD, List.getElem?_set]
  by_cases e : k = j
  · rw [if_pos e, if_pos e, if_pos hk]; rfl
  · rw [if_neg e, if_neg e, List.getD_eq_getElem?_getD]

/-- ONE HALF OF ONE WORD turned to another one: the block is refused -/
theorem seal_half {size ad tag : Nat} {pl : List Nat} (hp : U64s pl) (ht : tag < 18446744073709551616) (ha : ad < 18446744073709551616) (h : pl.length ≤ size - 2) (h2 : 2 ≤ size) (hs : size ≤ 1000000) (k : Nat) (hk : k < size) (x : Nat) (hx : x < 4294967296) (hi : Bool) :
    okW ((sealW size ad tag pl).set k ((sealW size ad tag pl).getD k 0 ^^^ half x hi)) ad = true ↔ x = 0 := by
  have hlen := seal_len (ad := ad) (tag := tag) h h2
  have hlast := seal_last (ad := ad) (tag := tag) h h2
  have hfront := seal_front (ad := ad) (tag := tag) h h2
  have hflen := front_len (tag := tag) h h2
  have hfu := front_u64 (size := size) hp ht
  constructor
  · intro hok
    obtain ⟨h3, h4, h5⟩ := ok_parts (n := size) (by rw [List.length_set]; exact hlen) h2 hok
    unfold numW at h3 h4 h5
    rw [List.length_set, hlen] at h3 h4 h5
    rw [set_get _ _ _ _ (by omega)] at h3 h4 h5
    generalize hN : pl.length + 1 = num at *
    have hnum : num < 4294967296 := by omega
    by_cases e : k = size - 1
    · -- the last word
      rw [if_pos e] at h3 h4 h5
      subst e
      rw [hlast] at h3 h4 h5
      have ht2 : ((sealW size ad tag pl).set (size - 1) ((sealW size ad tag pl).getD (size - 1) 0 ^^^ half x hi)).take (size - 1) = frontW size tag pl := by
        rw [List.take_set_of_le (Nat.le_refl _), hfront]
      rw [hlast] at ht2
      rw [ht2] at h5
      generalize frontW size tag pl = F at *
      cases hi with
      | true =>
        -- the number has changed
        have e1 : (lastW F num ad ^^^ half x true) / 4294967296 = num ^^^ x := by
          rw [show (4294967296 : Nat) = 2 ^ 32 from rfl, Nat.xor_div_two_pow]
          have : half x true = x * 2 ^ 32 := by unfold half; simp
          rw [this, Nat.mul_div_cancel _ (by decide)]
          have := last_div (l := F) (num := num) (ad := ad)
          rw [show (4294967296 : Nat) = 2 ^ 32 from rfl] at this
          rw [this]
        have e2 : (lastW F num ad ^^^ half x true) % 4294967296 = sm (F ++ [num, ad]) := by
          rw [show (4294967296 : Nat) = 2 ^ 32 from rfl, Nat.xor_mod_two_pow]
          have : half x true = x * 2 ^ 32 := by unfold half; simp
          rw [this, Nat.mul_mod_left, Nat.xor_zero]
          exact last_mod
        rw [e1] at h5
        have h6 := congrArg (· % 4294967296) h5
        rw [e2, last_mod] at h6
        have h7 := (sm_tells (F ++ [num, ad]) (by
          intro y hy
          rcases List.mem_append.1 hy with hy | hy
          · exact hfu y hy
          · simp at hy; omega) (size - 1) (by simp; omega) x hx false).1
        have e3 : half x false = x := by unfold half; simp
        rw [e3, getD_split hflen] at h7
        have e4 : (F ++ [num, ad]).set (size - 1) (num ^^^ x) = F ++ [num ^^^ x, ad] := by
          rw [List.set_append_right _ _ (by omega), hflen, Nat.sub_self]; rfl
        rw [e4] at h7
        exact h7 h6.symm
      | false =>
        have e3 : half x false = x := by unfold half; simp
        rw [e3] at h5
        have e1 : (lastW F num ad ^^^ x) / 4294967296 = num := by
          rw [show (4294967296 : Nat) = 2 ^ 32 from rfl, Nat.xor_div_two_pow, Nat.div_eq_of_lt (show x < 2 ^ 32 from hx), Nat.xor_zero]
          exact last_div
        rw [e1] at h5
        have h6 : lastW F num ad ^^^ (lastW F num ad ^^^ x) = lastW F num ad ^^^ lastW F num ad := by rw [h5]
        rw [← Nat.xor_assoc, Nat.xor_self, Nat.zero_xor] at h6
        exact h6
    · rw [if_neg e, hlast, last_div] at h5
      have hk2 : k < size - 1 := by omega
      have e1 : ((sealW size ad tag pl).set k ((sealW size ad tag pl).getD k 0 ^^^ half x hi)).take (size - 1) = (frontW size tag pl).set k ((frontW size tag pl).getD k 0 ^^^ half x hi) := by
        rw [List.take_set, hfront]
        congr 2
        unfold sealW
        rw [List.getD_eq_getElem?_getD, List.getElem?_append_left (by omega), ← List.getD_eq_getElem?_getD]
      rw [e1] at h5
      generalize frontW size tag pl = F at *
      have h6 := congrArg (· % 4294967296) h5
      rw [last_mod, last_mod] at h6
      have h7 := (sm_tells (F ++ [num, ad]) (by
          intro y hy
          rcases List.mem_append.1 hy with hy | hy
          · exact hfu y hy
          · simp at hy; omega) k (by simp; omega) x hx hi).1
      have e2 : (F ++ [num, ad]).set k ((F ++ [num, ad]).getD k 0 ^^^ half x hi) = F.set k (F.getD k 0 ^^^ half x hi) ++ [num, ad] := by
        rw [List.set_append_left _ _ (by omega)]
        congr 3
        rw [List.getD_eq_getElem?_getD, List.getElem?_append_left (by omega), ← List.getD_eq_getElem?_getD]
      rw [e2] at h7
      exact h7 h6.symm
  · rintro rfl
    rw [half_zero, Nat.xor_zero]
    have e : (sealW size ad tag pl).set k ((sealW size ad tag pl).getD k 0) = sealW size ad tag pl := by
      rw [List.getD_eq_getElem?_getD, List.getElem?_eq_getElem (by omega)]
      exact List.set_getElem_self _
    rw [e]; exact seal_ok h h2

/-- AT ANOTHER ADDRESS, both below 2^32: the block is refused -/
theorem seal_else {size ad ad2 tag : Nat} {pl : List Nat} (hp : U64s pl) (ht : tag < 18446744073709551616) (ha : ad < 4294967296) (ha2 : ad2 < 4294967296) (h : pl.length ≤ size - 2) (h2 : 2 ≤ size) (hs : size ≤ 1000000) :
    okW (sealW size ad tag pl) ad2 = true ↔ ad = ad2 := by
  constructor
  · intro hok
    obtain ⟨h3, h4, h5⟩ := ok_parts (seal_len h h2) h2 hok
    have hfu := front_u64 (size := size) hp ht
    have hflen := front_len (tag := tag) h h2
    rw [seal_num h h2, seal_last h h2, seal_front h h2] at h5
    generalize frontW size tag pl = F at *
    generalize hN : pl.length + 1 = num at *
    have h6 := congrArg (· % 4294967296) h5
    rw [last_mod, last_mod] at h6
    have hx : ad ^^^ ad2 < 4294967296 := Nat.xor_lt_two_pow (n := 32) ha ha2
    have h7 := (sm_tells (F ++ [num, ad]) (by
        intro y hy
        rcases List.mem_append.1 hy with hy | hy
        · exact hfu y hy
        · simp at hy; omega) size (by simp; omega) (ad ^^^ ad2) hx false).1
    have e3 : half (ad ^^^ ad2) false = ad ^^^ ad2 := by unfold half; simp
    have e5 : (F ++ [num, ad]).getD size 0 = ad := by
      rw [show F ++ [num, ad] = (F ++ [num]) ++ [ad] by simp]
      exact getD_split (by simp; omega)
    have e4 : (F ++ [num, ad]).set size ad2 = F ++ [num, ad2] := by
      rw [List.set_append_right _ _ (by omega), hflen, show size - (size - 1) = 1 by omega]; rfl
    rw [e3, e5, ← Nat.xor_assoc, Nat.xor_self, Nat.zero_xor, e4] at h7
    exact xor_eq_zero (h7 h6.symm)
  · rintro rfl
    exact seal_ok h h2
end Go.Proofs.Ytoimpiimlekakaa
