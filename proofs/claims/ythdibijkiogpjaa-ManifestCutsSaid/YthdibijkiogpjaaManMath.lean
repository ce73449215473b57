/- A MANIFEST AS MATHEMATICS: entries, their words, what is read of words, what stands, what is loaded. No program is named here. -/
import Derived.Test.YthdibijkiogpjaaWords
import Derived.Test.YthdibijkiogpjaaSealMath
namespace Go.Proofs.Ythdibijkiogpjaa

/-- byte k of a name, as a number -/
def nb (s : ByteArray) (k : Nat) : Nat := if h : k < s.size then (s[k]'h).toNat else 0
theorem get_nb (s : ByteArray) : ∀ (n : Nat) (h : n < s.size), ((s[n]'h).toNat : Int) = (nb s n : Int) := fun n h => by unfold nb; rw [dif_pos h]
theorem nb_lt (s : ByteArray) (k : Nat) : nb s k < 256 := by
  unfold nb; split
  · exact (s[k]).toNat_lt
  · omega
/-- a name's bytes -/
def bts (s : ByteArray) : List Nat := s.data.toList.map UInt8.toNat
theorem bts_len (s : ByteArray) : (bts s).length = s.size := by unfold bts; rw [List.length_map]; rfl
theorem bts_at (s : ByteArray) {k : Nat} (h : k < s.size) : (bts s)[k]? = some (nb s k) := by
  unfold bts nb
  rw [dif_pos h, List.getElem?_map, Array.getElem?_toList, Array.getElem?_eq_getElem h]; rfl
theorem bts_lt (s : ByteArray) : ∀ x ∈ bts s, x < 256 := by
  intro x hx
  unfold bts at hx
  obtain ⟨u, _, rfl⟩ := List.mem_map.1 hx
  exact u.toNat_lt
theorem bts_mem {s : ByteArray} {x : Nat} (h : x ∈ bts s) : ∃ k, k < s.size ∧ x = nb s k := by
  obtain ⟨k, hk⟩ := List.mem_iff_getElem?.1 h
  have hl : k < s.size := by
    have := (List.getElem?_eq_some_iff.1 hk).1
    rw [bts_len] at this; exact this
  rw [bts_at s hl] at hk
  injection hk with hk
  exact ⟨k, hl, hk.symm⟩
theorem strOf_bts (s : ByteArray) : strOf (bts s) = s := by
  unfold strOf strOfNums bts
  obtain ⟨⟨d⟩⟩ := s
  congr 2
  rw [List.map_map, List.map_map]
  conv => rhs; rw [← List.map_id d]
  apply List.map_congr_left
  intro u _
  simp

structure Ent where
  nm : ByteArray
  fi : Int
  bl : Int
  wi : Int
  co : Int
def ent0 : Ent := ⟨⟨#[]⟩, 0, 0, 0, 0⟩
def CharP (x : Nat) : Prop := (97 ≤ x ∧ x ≤ 122) ∨ (48 ≤ x ∧ x ≤ 57)
def NameP (s : ByteArray) : Prop := (1 ≤ s.size ∧ s.size ≤ 8) ∧ ∀ k, k < s.size → CharP (nb s k)
def SmP (x : Int) : Prop := 0 ≤ x ∧ x ≤ 1099511627776
def EntP (e : Ent) : Prop := (SmP e.fi ∧ SmP e.bl ∧ SmP e.wi ∧ SmP e.co) ∧ NameP e.nm
def lessN (a b : ByteArray) : Bool := Op.bytesLess a.toList b.toList
def FormedP (l : List Ent) : Prop := l.length ≤ 12 ∧ ∀ i, i < l.length → EntP (l.getD i ent0) ∧ (0 < i → lessN (l.getD (i - 1) ent0).nm (l.getD i ent0).nm = true)
instance (x : Nat) : Decidable (CharP x) := by unfold CharP; infer_instance
instance (s : ByteArray) : Decidable (NameP s) := by unfold NameP; infer_instance
instance (x : Int) : Decidable (SmP x) := by unfold SmP; infer_instance
instance (e : Ent) : Decidable (EntP e) := by unfold EntP; infer_instance
instance (l : List Ent) : Decidable (FormedP l) := by unfold FormedP; infer_instance
def GenP (g : Nat) : Prop := 1 ≤ g ∧ g ≤ 4611686018427387904
instance (g : Nat) : Decidable (GenP g) := by unfold GenP; infer_instance

/-- bytes, the first one the most significant, of a word of k bytes -/
def packR : Nat → List Nat → Nat
  | 0, _ => 0
  | _ + 1, [] => 0
  | k + 1, b :: t => b * 256 ^ k + packR k t
def packE (s : ByteArray) : Nat := packR 8 (bts s)
theorem packR_nil (k : Nat) : packR k [] = 0 := by cases k <;> rfl
theorem packR_lt : ∀ (k : Nat) (l : List Nat), (∀ x ∈ l, x < 256) → packR k l < 256 ^ k
  | 0, _, _ => by simp [packR]
  | k + 1, [], _ => by show 0 < _; exact Nat.pow_pos (by decide)
  | k + 1, b :: t, h => by
    have h1 := packR_lt k t fun x hx => h x (List.mem_cons_of_mem _ hx)
    have h2 := h b List.mem_cons_self
    show b * 256 ^ k + packR k t < 256 ^ (k + 1)
    have h3 : b * 256 ^ k ≤ 255 * 256 ^ k := Nat.mul_le_mul_right _ (by omega)
    rw [Nat.pow_succ]; omega
/-- of the bytes of l all that lies behind them is 0 -/
theorem packR_div : ∀ (k : Nat) (l : List Nat), l.length ≤ k → 256 ^ (k - l.length) ∣ packR k l
  | 0, _, _ => ⟨0, rfl⟩
  | k + 1, [], _ => ⟨0, rfl⟩
  | k + 1, b :: t, h => by
    have h1 := packR_div k t (by simpa using h)
    rw [List.length_cons, Nat.add_sub_add_right]
    refine Nat.dvd_add ?_ h1
    exact Nat.dvd_trans (Nat.pow_dvd_pow 256 (Nat.sub_le _ _)) ⟨b, Nat.mul_comm _ _⟩
theorem packR_snoc : ∀ (k : Nat) (l : List Nat) (b : Nat), l.length < k → packR k (l ++ [b]) = packR k l + b * 256 ^ (k - 1 - l.length)
  | 0, _, _, h => by omega
  | k + 1, [], b, _ => by show b * 256 ^ k + packR k [] = 0 + b * 256 ^ (k + 1 - 1 - 0); rw [packR_nil]; simp
  | k + 1, a :: t, b, h => by
    have h1 := packR_snoc k t b (by simpa using h)
    show a * 256 ^ k + packR k (t ++ [b]) = a * 256 ^ k + packR k t + b * 256 ^ (k + 1 - 1 - (t.length + 1))
    rw [h1, Nat.add_assoc, show k + 1 - 1 - (t.length + 1) = k - 1 - t.length by omega]
theorem pow256 (n : Nat) : 256 ^ n = 2 ^ (8 * n) := by rw [show (256 : Nat) = 2 ^ 8 from rfl, ← Nat.pow_mul]
/-- what is laid in by 'or' -/
theorem packR_or (l : List Nat) (b : Nat) (hl : l.length < 8) (hb : b < 256) : packR 8 l ||| b * 256 ^ (7 - l.length) = packR 8 (l ++ [b]) := by
  rw [packR_snoc 8 l b hl, show 8 - 1 - l.length = 7 - l.length by omega]
  obtain ⟨q, hq⟩ := packR_div 8 l (by omega)
  have h1 : b * 256 ^ (7 - l.length) < 2 ^ (8 * (8 - l.length)) := by
    rw [← pow256, show 8 - l.length = (7 - l.length) + 1 by omega, Nat.pow_succ, Nat.mul_comm]
    have := Nat.pow_pos (n := 7 - l.length) (show 0 < 256 by decide)
    exact Nat.mul_lt_mul_of_pos_left hb this
  rw [pow256] at hq
  rw [hq]
  exact (Nat.two_pow_add_eq_or_of_lt h1 q).symm
/-- the bytes of a word, up to where the rest is 0 -/
def unpackF : Nat → Nat → List Nat
  | 0, _ => []
  | f + 1, w => if w = 0 then [] else w / 72057594037927936 :: unpackF f (w * 256 % 18446744073709551616)
def unpackE (w : Nat) : List Nat := unpackF 8 w
theorem unpackF_len : ∀ f w, (unpackF f w).length ≤ f
  | 0, _ => Nat.le_refl _
  | f + 1, w => by
    unfold unpackF; split
    · simp
    · have := unpackF_len f (w * 256 % 18446744073709551616); simpa using this
theorem unpack_packR : ∀ (k : Nat) (l : List Nat), k ≤ 8 → l.length ≤ k → (∀ x ∈ l, 0 < x ∧ x < 256) → unpackF k (packR k l * 256 ^ (8 - k)) = l
  | 0, [], _, _, _ => rfl
  | 0, _ :: _, _, h, _ => by simp at h
  | k + 1, [], _, _, _ => by rw [packR_nil, Nat.zero_mul]; rfl
  | k + 1, b :: t, hk, hl, hb => by
    have hb0 := hb b List.mem_cons_self
    have ht : ∀ x ∈ t, 0 < x ∧ x < 256 := fun x hx => hb x (List.mem_cons_of_mem _ hx)
    have h1 := unpack_packR k t (by omega) (by simpa using hl) ht
    have h2 := packR_lt k t fun x hx => (ht x hx).2
    have hp : 256 ^ k * 256 ^ (8 - (k + 1)) = 72057594037927936 := by
      rw [← Nat.pow_add, show k + (8 - (k + 1)) = 7 by omega]
    have hp1 : 256 ^ (8 - (k + 1)) * 256 = 256 ^ (8 - k) := by
      have h := Nat.pow_succ (n := 256) (m := 8 - (k + 1))
      rw [← h, show (8 - (k + 1)).succ = 8 - k by omega]
    have hW : packR (k + 1) (b :: t) * 256 ^ (8 - (k + 1)) = b * 72057594037927936 + packR k t * 256 ^ (8 - (k + 1)) := by
      show (b * 256 ^ k + packR k t) * _ = _
      rw [Nat.add_mul, Nat.mul_assoc, hp]
    have hR : packR k t * 256 ^ (8 - (k + 1)) < 72057594037927936 := by
      rw [← hp]; exact Nat.mul_lt_mul_of_pos_right h2 (Nat.pow_pos (by decide))
    have hR2 : packR k t * 256 ^ (8 - (k + 1)) * 256 = packR k t * 256 ^ (8 - k) := by rw [Nat.mul_assoc, hp1]
    rw [hW]
    generalize packR k t * 256 ^ (8 - (k + 1)) = R at *
    unfold unpackF
    rw [if_neg (by omega)]
    have e1 : (b * 72057594037927936 + R) / 72057594037927936 = b := by omega
    have e2 : (b * 72057594037927936 + R) * 256 % 18446744073709551616 = R * 256 := by omega
    rw [e1, e2, hR2, h1]
theorem unpack_pack {s : ByteArray} (h : NameP s) : strOf (unpackE (packE s)) = s := by
  unfold unpackE packE
  have h1 := unpack_packR 8 (bts s) (Nat.le_refl _) (by rw [bts_len]; exact h.1.2) (fun x hx => by
    obtain ⟨k, hk, rfl⟩ := bts_mem hx
    have := h.2 k hk
    have := nb_lt s k
    unfold CharP at *
    omega)
  rw [Nat.sub_self, Nat.pow_zero, Nat.mul_one] at h1
  rw [h1, strOf_bts]

/-- an entry's words -/
def entW (e : Ent) : List Nat := [packE e.nm, e.fi.toNat, e.bl.toNat, e.wi.toNat, e.co.toNat]
def wordsE (g : Nat) (l : List Ent) : List Nat := g :: l.length :: l.flatMap entW
theorem flat5_len (l : List Ent) : (l.flatMap entW).length = l.length * 5 := by
  induction l with
  | nil => rfl
  | cons e l ih => rw [List.flatMap_cons, List.length_append, ih, List.length_cons]; show 5 + _ = _; omega
theorem words_len (g : Nat) (l : List Ent) : (wordsE g l).length = 2 + l.length * 5 := by
  unfold wordsE; rw [List.length_cons, List.length_cons, flat5_len]; omega
/-- the words of one block's share -/
def partE (p i : Nat) (ws : List Nat) : List Nat := (ws.drop (p * i)).take p
theorem part_len (p i : Nat) (ws : List Nat) : (partE p i ws).length ≤ p := by unfold partE; rw [List.length_take]; omega
theorem part_cut (p i : Nat) (ws : List Nat) : (ws.drop (min (p * i) ws.length)).take (min (p * (i + 1)) ws.length - min (p * i) ws.length) = partE p i ws := by
  unfold partE
  have hm : p * (i + 1) = p * i + p := by rw [Nat.mul_add, Nat.mul_one]
  rw [hm]
  generalize p * i = a
  by_cases h : a ≤ ws.length
  · rw [Nat.min_eq_left h]
    by_cases h2 : a + p ≤ ws.length
    · rw [Nat.min_eq_left h2, show a + p - a = p by omega]
    · rw [Nat.min_eq_right (by omega)]
      rw [List.take_of_length_le (by rw [List.length_drop]; omega), List.take_of_length_le (by rw [List.length_drop]; omega)]
  · rw [Nat.min_eq_right (by omega), Nat.min_eq_right (by omega), Nat.sub_self, List.take_zero, List.drop_eq_nil_of_le (by omega), List.take_nil]
/-- the entry whose words stand from i on -/
def iw (x : Nat) : Int := IntKind.i64.wrap x
def entAt (ws : List Nat) (i : Nat) : Ent := ⟨strOf (unpackE (ws.getD i 0)), iw (ws.getD (i + 1) 0), iw (ws.getD (i + 2) 0), iw (ws.getD (i + 3) 0), iw (ws.getD (i + 4) 0)⟩
def entsE (ws : List Nat) : List Ent := (List.range ((ws.length - 2) / 5)).map fun j => entAt ws (2 + j * 5)
theorem iw_small {x : Int} (h : SmP x) : iw x.toNat = x := by
  unfold SmP at h
  unfold iw
  rw [Int.toNat_of_nonneg h.1]
  exact IntWalk.i64_in _ ⟨by omega, by omega⟩
theorem getD_flat (l : List Ent) : ∀ (j : Nat), j < l.length → ∀ (c : Nat), c < 5 → (l.flatMap entW).getD (j * 5 + c) 0 = (entW (l.getD j ent0)).getD c 0 := by
  induction l with
  | nil => intro j hj; simp at hj
  | cons e l ih =>
    intro j hj c hc
    rw [List.flatMap_cons, List.getD_eq_getElem?_getD]
    cases j with
    | zero =>
      rw [Nat.zero_mul, Nat.zero_add, List.getElem?_append_left (show c < (entW e).length by simpa [entW] using hc)]
      rw [List.getD_eq_getElem?_getD]; rfl
    | succ j =>
      rw [List.getElem?_append_right (by show 5 ≤ _; omega)]
      rw [show (j + 1) * 5 + c - (entW e).length = j * 5 + c by show (j + 1) * 5 + c - 5 = _; omega, ← List.getD_eq_getElem?_getD]
      rw [ih j (by simpa using hj) c hc]; simp
theorem ents_words {g : Nat} {l : List Ent} (h : FormedP l) : entsE (wordsE g l) = l := by
  unfold entsE
  rw [words_len, show (2 + l.length * 5 - 2) / 5 = l.length by omega]
  apply List.ext_getElem?
  intro j
  by_cases hj : j < l.length
  · rw [List.getElem?_map, List.getElem?_range hj, List.getElem?_eq_getElem hj]
    show some (entAt (wordsE g l) (2 + j * 5)) = _
    congr 1
    have hE := (h.2 j hj).1
    have e0 : l.getD j ent0 = l[j] := by rw [List.getD_eq_getElem?_getD, List.getElem?_eq_getElem hj]; rfl
    have hw : ∀ c, c < 5 → (wordsE g l).getD (2 + j * 5 + c) 0 = (entW l[j]).getD c 0 := by
      intro c hc
      rw [← e0, ← getD_flat l j hj c hc]
      unfold wordsE
      rw [List.getD_eq_getElem?_getD, List.getD_eq_getElem?_getD, show 2 + j * 5 + c = (j * 5 + c) + 1 + 1 by omega, List.getElem?_cons_succ, List.getElem?_cons_succ]
    rw [e0] at hE
    generalize l[j] = e at *
    obtain ⟨nm, fi, bl, wi, co⟩ := e
    obtain ⟨⟨s1, s2, s3, s4⟩, s5⟩ := hE
    unfold entAt
    have w0 := hw 0 (by omega); have w1 := hw 1 (by omega); have w2 := hw 2 (by omega); have w3 := hw 3 (by omega); have w4 := hw 4 (by omega)
    rw [Nat.add_zero] at w0
    rw [w0, w1, w2, w3, w4]
    simp only [entW, List.getD_cons_zero, List.getD_cons_succ]
    rw [unpack_pack s5, iw_small s1, iw_small s2, iw_small s3, iw_small s4]
  · rw [List.getElem?_eq_none (by simp; omega), List.getElem?_eq_none (by omega)]

/-- what a block holds at its number -/
def partOf (b : List Nat) (ad : Nat) : List Nat × Nat := if okW b ad then (b.take (numW b - 1), tagW b) else ([], 0)
def nop : List Nat × Nat := ([], 0)
/-- what stands in the slot s, whose blocks hold ps -/
def standE (ps : List (List Nat × Nat)) (s size : Nat) : List Ent × Nat :=
  if GenP (ps.getD 0 nop).2 ∧ (ps.getD 0 nop).2 % 2 = s then
    if FormedP (entsE (ps.flatMap (·.1))) then
      if ∀ i, i < ps.length → (ps.getD i nop).2 = (ps.getD 0 nop).2 ∧ (ps.getD i nop).1 = partE (size - 2) i (wordsE (ps.getD 0 nop).2 (entsE (ps.flatMap (·.1)))) then (entsE (ps.flatMap (·.1)), (ps.getD 0 nop).2) else ([], 0)
    else ([], 0)
  else ([], 0)
def highE (ps : List (List Nat × Nat)) : Nat := ps.foldl (fun h x => if GenP x.2 then max h x.2 else h) 0
def nextE (g h : Nat) : Nat := if 0 < g ∧ (h + 1) % 2 = g % 2 then h + 2 else h + 1
def slotE (size : Nat) : Nat := (61 + (size - 2)) / (size - 2)
def partsE (now : Int → List Nat) (k s : Nat) : List (List Nat × Nat) := (List.range k).map fun i => partOf (now ((k * s + i : Nat) : Int)) (k * s + i)
def loadE (now : Int → List Nat) (size : Nat) : List Ent × Nat × Nat :=
  let k := slotE size
  let a := standE (partsE now k 0) 0 size
  let b := standE (partsE now k 1) 1 size
  let c := if b.2 > a.2 then b else a
  (c.1, c.2, nextE c.2 (max (highE (partsE now k 0)) (highE (partsE now k 1))))
end Go.Proofs.Ythdibijkiogpjaa
