/- A device that holds manifests: what stands on it, and what a Save, whole or cut, makes of it. No program is named here. -/
import Derived.Test.YthdibijkiogpjaaManLoad
namespace Go.Proofs.Ythdibijkiogpjaa

/-- the blocks of the two slots are none, or one of a manifest of L: tg tells which -/
def Inv (size k : Nat) (fl : Int → Option (List Nat)) (tg : Nat → Nat → Nat) (L : Nat → List Ent) : Prop :=
  ∀ s i, s ≤ 1 → i < k → (tg s i = 0 ∧ fl ((k * s + i : Nat) : Int) = none) ∨
    (GenP (tg s i) ∧ tg s i % 2 = s ∧ FormedP (L (tg s i)) ∧ fl ((k * s + i : Nat) : Int) = some (blockE size k (tg s i) (L (tg s i)) i))
def partT (size : Nat) (L : Nat → List Ent) (t i : Nat) : List Nat × Nat := if t = 0 then nop else (partE (size - 2) i (wordsE t (L t)), t)
theorem inv_fresh (size k : Nat) (L : Nat → List Ent) : Inv size k nothing (fun _ _ => 0) L := fun _ _ _ _ => .inl ⟨rfl, rfl⟩
section
variable {size k : Nat} {fl : Int → Option (List Nat)} {tg : Nat → Nat → Nat} {L : Nat → List Ent}
theorem inv_part (h : Inv size k fl tg L) (h8 : 8 ≤ size) {s i : Nat} (hs : s ≤ 1) (hi : i < k) : partOf (blk size (fl ((k * s + i : Nat) : Int))) (k * s + i) = partT size L (tg s i) i := by
  rcases h s i hs hi with ⟨h1, h2⟩ | ⟨h1, h2, h3, h4⟩
  · rw [h2, h1]
    show partOf (List.replicate size 0) _ = _
    unfold partOf partT
    rw [ok_zeros]; rfl
  · rw [h4]
    show partOf (blockE _ _ _ _ _) _ = _
    unfold partOf partT blockE
    have hl : (partE (size - 2) i (wordsE (tg s i) (L (tg s i)))).length ≤ size - 2 := part_len _ _ _
    rw [h2, if_pos (seal_ok hl (by omega)), seal_num hl (by omega), seal_tag hl (by omega), Nat.add_sub_cancel, seal_take, if_neg (by have := h1.1; omega)]
theorem inv_parts (h : Inv size k fl tg L) (h8 : 8 ≤ size) {s : Nat} (hs : s ≤ 1) (now : Int → List Nat) (hn : ∀ x, now x = blk size (fl x)) : partsE now k s = (List.range k).map fun i => partT size L (tg s i) i := by
  unfold partsE
  refine List.map_congr_left fun i hi => ?_
  rw [hn]
  exact inv_part h h8 hs (List.mem_range.1 hi)
end
theorem parts_join (p : Nat) (ws : List Nat) : ∀ k, (List.range k).flatMap (fun i => partE p i ws) = ws.take (p * k)
  | 0 => by simp
  | k + 1 => by
    rw [List.range_succ, List.flatMap_append, parts_join p ws k, List.flatMap_singleton, Nat.mul_add, Nat.mul_one, List.take_add]; rfl
theorem getD_parts {size k : Nat} {L : Nat → List Ent} {f : Nat → Nat} {i : Nat} (hi : i < k) : ((List.range k).map fun i => partT size L (f i) i).getD i nop = partT size L (f i) i := by
  rw [List.getD_eq_getElem?_getD, List.getElem?_map, List.getElem?_range hi]; rfl
theorem partT_tag (size : Nat) (L : Nat → List Ent) (t i : Nat) : (partT size L t i).2 = t := by
  unfold partT; split
  · next h => rw [h]; rfl
  · rfl
/-- what stands in a slot -/
theorem stand_all {size k s t : Nat} {L : Nat → List Ent} {f : Nat → Nat} (hk : 0 < k) (h62 : 62 ≤ k * (size - 2)) (hg : GenP t) (ht : t % 2 = s) (hf : FormedP (L t)) (hall : ∀ i, i < k → f i = t) :
    standE ((List.range k).map fun i => partT size L (f i) i) s size = (L t, t) := by
  have e0 : ((List.range k).map fun i => partT size L (f i) i) = (List.range k).map fun i => (partE (size - 2) i (wordsE t (L t)), t) := by
    refine List.map_congr_left fun i hi => ?_
    rw [hall i (List.mem_range.1 hi)]
    unfold partT; rw [if_neg (by have := hg.1; omega)]
  rw [e0]
  have hD : ∀ i, i < k → ((List.range k).map fun i => (partE (size - 2) i (wordsE t (L t)), t)).getD i nop = (partE (size - 2) i (wordsE t (L t)), t) := by
    intro i hi
    rw [List.getD_eq_getElem?_getD, List.getElem?_map, List.getElem?_range hi]; rfl
  have hj : (((List.range k).map fun i => (partE (size - 2) i (wordsE t (L t)), t)).flatMap (·.1)) = wordsE t (L t) := by
    rw [List.flatMap_map, parts_join, List.take_of_length_le]
    have h62' := h62
    rw [Nat.mul_comm] at h62'
    rw [words_len]
    have := hf.1; omega
  have h0 := hD 0 hk
  have he : entsE (wordsE t (L t)) = L t := ents_words hf
  have := stand_yes (ps := (List.range k).map fun i => (partE (size - 2) i (wordsE t (L t)), t)) (s := s) (size := size) (by rw [h0]; exact ⟨hg, ht⟩) (by rw [hj, he]; exact hf) (by
    intro i hi
    rw [List.length_map, List.length_range] at hi
    rw [hD i hi, h0, hj, he]
    exact ⟨rfl, rfl⟩)
  rw [this, h0, hj, he]
theorem stand_none {size k s : Nat} {L : Nat → List Ent} {f : Nat → Nat} (hk : 0 < k) (h : f 0 = 0 ∨ ∃ i, i < k ∧ f i ≠ f 0) : standE ((List.range k).map fun i => partT size L (f i) i) s size = ([], 0) := by
  have h0 : (((List.range k).map fun i => partT size L (f i) i).getD 0 nop).2 = f 0 := by rw [getD_parts hk, partT_tag]
  rcases h with h | ⟨i, hi, h⟩
  · refine stand_no1 ?_
    rw [h0, h]
    exact fun h => absurd h.1.1 (by omega)
  · refine stand_no3 (i := i) (by simpa using hi) ?_
    rw [getD_parts hi, partT_tag, h0]
    exact fun h2 => h h2.1
/-- either one manifest stands there, or none -/
theorem stand_cases {size k s : Nat} {L : Nat → List Ent} {f : Nat → Nat} (hk : 0 < k) (h62 : 62 ≤ k * (size - 2)) (hF : ∀ i, i < k → f i ≠ 0 → GenP (f i) ∧ f i % 2 = s ∧ FormedP (L (f i))) :
    (f 0 ≠ 0 ∧ (∀ i, i < k → f i = f 0) ∧ standE ((List.range k).map fun i => partT size L (f i) i) s size = (L (f 0), f 0)) ∨ ((f 0 = 0 ∨ ∃ i, i < k ∧ f i ≠ f 0) ∧ standE ((List.range k).map fun i => partT size L (f i) i) s size = ([], 0)) := by
  by_cases h0 : f 0 = 0
  · exact .inr ⟨.inl h0, stand_none hk (.inl h0)⟩
  · by_cases hall : ∀ i, i < k → f i = f 0
    · obtain ⟨h1, h2, h3⟩ := hF 0 hk h0
      exact .inl ⟨h0, hall, stand_all hk h62 h1 h2 h3 hall⟩
    · have hex : ∃ i, i < k ∧ f i ≠ f 0 := by
        apply Classical.byContradiction
        intro hn
        apply hall
        intro i hi
        apply Classical.byContradiction
        intro hne
        exact hn ⟨i, hi, hne⟩
      exact .inr ⟨.inr hex, stand_none hk (.inr hex)⟩
/-- the highest tag -/
theorem high_fold (l : List (List Nat × Nat)) : ∀ h, (l.foldl (fun h x => if GenP x.2 then max h x.2 else h) h) ≥ h ∧ ∀ x ∈ l, GenP x.2 → x.2 ≤ l.foldl (fun h x => if GenP x.2 then max h x.2 else h) h := by
  induction l with
  | nil => intro h; exact ⟨Nat.le_refl _, fun x hx => by cases hx⟩
  | cons y l ih =>
    intro h
    rw [List.foldl_cons]
    obtain ⟨i1, i2⟩ := ih (if GenP y.2 then max h y.2 else h)
    refine ⟨?_, fun x hx hg => ?_⟩
    · refine Nat.le_trans ?_ i1
      split
      · exact Nat.le_max_left _ _
      · exact Nat.le_refl _
    · rcases List.mem_cons.1 hx with rfl | hx
      · refine Nat.le_trans ?_ i1
        rw [if_pos hg]; exact Nat.le_max_right _ _
      · exact i2 x hx hg
theorem high_ge {ps : List (List Nat × Nat)} {x : List Nat × Nat} (hx : x ∈ ps) (hg : GenP x.2) : x.2 ≤ highE ps := (high_fold ps 0).2 x hx hg
theorem high_bd {ps : List (List Nat × Nat)} {H : Nat} (h : ∀ x ∈ ps, x.2 ≤ H) : highE ps ≤ H := by
  have key : ∀ (l : List (List Nat × Nat)) (h0 : Nat), h0 ≤ H → (∀ x ∈ l, x.2 ≤ H) → l.foldl (fun h x => if GenP x.2 then max h x.2 else h) h0 ≤ H := by
    intro l
    induction l with
    | nil => intro h0 hh _; exact hh
    | cons y l ih =>
      intro h0 hh hl
      rw [List.foldl_cons]
      apply ih
      · split
        · exact Nat.max_le.2 ⟨hh, hl y List.mem_cons_self⟩
        · exact hh
      · exact fun x hx => hl x (List.mem_cons_of_mem _ hx)
  exact key ps 0 (by omega) h
/-- what is loaded, of what stands in the two slots -/
theorem load_pick (now : Int → List Nat) (size : Nat) (l0 l1 : List Ent) (g0 g1 : Nat) (h0 : standE (partsE now (slotE size) 0) 0 size = (l0, g0)) (h1 : standE (partsE now (slotE size) 1) 1 size = (l1, g1)) (hz : g0 = 0 → l0 = []) :
    loadP now size = (if g1 > g0 then l1 else l0, if g1 > g0 then g1 else g0, nextE (if g1 > g0 then g1 else g0) (max (highE (partsE now (slotE size) 0)) (highE (partsE now (slotE size) 1)))) := by
  have e1 : pickE now (slotE size) size 1 = (l0, g0, highE (partsE now (slotE size) 0)) := by
    show (let b := standE (partsE now (slotE size) 0) 0 size; ((if b.2 > 0 then b.1 else [], if b.2 > 0 then b.2 else 0, max 0 (highE (partsE now (slotE size) 0))) : List Ent × Nat × Nat)) = _
    rw [h0]
    by_cases h : g0 > 0
    · show (if g0 > 0 then l0 else [], if g0 > 0 then g0 else 0, _) = _
      rw [if_pos h, if_pos h, Nat.zero_max]
    · have h' : g0 = 0 := by omega
      show (if g0 > 0 then l0 else [], if g0 > 0 then g0 else 0, _) = _
      rw [if_neg h, if_neg h, Nat.zero_max, hz h', h']
  have e2 : pickE now (slotE size) size 2 = (if g1 > g0 then l1 else l0, if g1 > g0 then g1 else g0, max (highE (partsE now (slotE size) 0)) (highE (partsE now (slotE size) 1))) := by
    show (let c := pickE now (slotE size) size 1; let b := standE (partsE now (slotE size) 1) 1 size; ((if b.2 > c.2.1 then b.1 else c.1, if b.2 > c.2.1 then b.2 else c.2.1, max c.2.2 (highE (partsE now (slotE size) 1))) : List Ent × Nat × Nat)) = _
    rw [e1, h1]
  unfold loadP
  rw [e2]
theorem next_facts (g h : Nat) : h < nextE g h ∧ nextE g h ≤ h + 2 ∧ (0 < g → nextE g h % 2 ≠ g % 2) := by
  unfold nextE
  split
  · next hc => exact ⟨by omega, by omega, fun _ => by omega⟩
  · next hc =>
    refine ⟨by omega, by omega, fun hg e => hc ⟨hg, e⟩⟩

/-- the writes of a Save, from the block i on, r of them -/
def wrE (size k g : Nat) (l : List Ent) : Nat → Nat → List (Int × List Nat)
  | 0, _ => []
  | r + 1, i => (((k * (g % 2) + i : Nat) : Int), blockE size k g l i) :: wrE size k g l r (i + 1)
theorem wr_mem {size k g : Nat} {l : List Ent} : ∀ {r i : Nat} {e : Int × List Nat}, e ∈ wrE size k g l r i → ∃ j, i ≤ j ∧ j < i + r ∧ e = (((k * (g % 2) + j : Nat) : Int), blockE size k g l j)
  | 0, _, _, h => by cases h
  | r + 1, i, e, h => by
    rcases List.mem_cons.1 h with rfl | h
    · exact ⟨i, Nat.le_refl _, by omega, rfl⟩
    · obtain ⟨j, h1, h2, h3⟩ := wr_mem h
      exact ⟨j, by omega, by omega, h3⟩
theorem mem_wr {size k g : Nat} {l : List Ent} : ∀ {r i j : Nat}, i ≤ j → j < i + r → (((k * (g % 2) + j : Nat) : Int), blockE size k g l j) ∈ wrE size k g l r i
  | 0, _, _, h1, h2 => by omega
  | r + 1, i, j, h1, h2 => by
    by_cases e : j = i
    · subst e; exact List.mem_cons_self
    · exact List.mem_cons_of_mem _ (mem_wr (by omega) (by omega))
theorem wr_len {size k g : Nat} {l : List Ent} : ∀ (r i : Nat), (wrE size k g l r i).length = r
  | 0, _ => rfl
  | r + 1, i => by show (wrE size k g l r (i + 1)).length + 1 = _; rw [wr_len r (i + 1)]
theorem block_len {size k g i : Nat} {l : List Ent} (h8 : 8 ≤ size) : (blockE size k g l i).length = size := seal_len (part_len _ _ _) (by omega)
theorem right_slot {s : St} {k g i : Nat} (hb : 2 * (k : Int) ≤ s.blocks) (hi : i < k) : right s ((k * (g % 2) + i : Nat) : Int) = true := by
  have h1 : k * (g % 2) ≤ k * 1 := Nat.mul_le_mul (Nat.le_refl _) (by omega)
  obtain ⟨x, hx⟩ : ∃ x, x = k * (g % 2) + i := ⟨_, rfl⟩
  rw [← hx]
  unfold right; simp; omega
/-- a Save that is not cut -/
theorem saveGo_calm {size k g : Nat} {l : List Ent} (h8 : 8 ≤ size) : ∀ (r i : Nat) (s : St), i + r = k → Calm s → s.size = size → 2 * (k : Int) ≤ s.blocks →
    saveGo size k g l r i s = (0, { s with acts := s.acts + (r : Int) + 1, fl := lay s.fl (s.later ++ wrE size k g l r i), later := [] })
  | 0, i, s, _, hc, _, _ => by
    show sync s = _
    rw [sync_ok hc]
    show _ = ((0 : Int), ({ s with acts := s.acts + ((0 : Nat) : Int) + 1, fl := lay s.fl (s.later ++ []), later := [] } : St))
    rw [List.append_nil, Int.natCast_zero, Int.add_zero]
  | r + 1, i, s, hk, hc, hs, hb => by
    have hw := write_ok hc (right_slot (g := g) hb (show i < k by omega)) (l := blockE size k g l i) (by rw [block_len h8, hs])
    show (let q := write s ((k * (g % 2) + i : Nat) : Int) (blockE size k g l i); if q.1 = 0 then saveGo size k g l r (i + 1) q.2 else q) = _
    rw [hw]
    have ih := saveGo_calm (g := g) (l := l) h8 r (i + 1) { s with acts := s.acts + 1, later := s.later ++ [(((k * (g % 2) + i : Nat) : Int), blockE size k g l i)] } (by omega) ⟨hc.1, hc.2.1, hc.2.2⟩ hs hb
    show saveGo size k g l r (i + 1) { s with acts := s.acts + 1, later := s.later ++ [(((k * (g % 2) + i : Nat) : Int), blockE size k g l i)] } = _
    rw [ih]
    simp only [List.append_assoc, List.singleton_append]
    have e : s.acts + 1 + (r : Int) + 1 = s.acts + ((r + 1 : Nat) : Int) + 1 := by omega
    rw [e]; rfl
/-- with a fuse of f acts -/
def Fuse (s : St) (f : Nat) : Prop := s.down = false ∧ s.fb = true ∧ s.fn = (f : Int) ∧ s.tb = false
theorem begin_out {s : St} (h : Fuse s 0) : begin s true = (8, { s with down := true }) := by
  obtain ⟨h1, h2, h3, _⟩ := h
  unfold begin
  rw [if_neg (by rw [h1]; decide), if_neg (by decide), if_pos ⟨h2, by rw [h3]; rfl⟩]
theorem begin_in {s : St} {f : Nat} (h : Fuse s (f + 1)) : begin s true = (0, { s with fn := (f : Int), tn := s.tn, acts := s.acts + 1 }) := by
  obtain ⟨h1, h2, h3, h4⟩ := h
  unfold begin
  rw [if_neg (by rw [h1]; decide), if_neg (by decide), if_neg (by rw [h3]; omega)]
  simp only [h2, h4, h3]
  rw [if_neg (by simp)]
  simp
theorem saveGo_fuse {size k g : Nat} {l : List Ent} (h8 : 8 ≤ size) : ∀ (r i f : Nat) (s : St), i + r = k → f ≤ r → Fuse s f → s.size = size → 2 * (k : Int) ≤ s.blocks →
    (saveGo size k g l r i s).1 = 8 ∧ (saveGo size k g l r i s).2.fl = s.fl ∧ (saveGo size k g l r i s).2.later = s.later ++ wrE size k g l f i ∧ (saveGo size k g l r i s).2.size = s.size ∧ (saveGo size k g l r i s).2.blocks = s.blocks
  | 0, i, f, s, _, hf, hfu, hs, hb => by
    obtain rfl : f = 0 := by omega
    have : saveGo size k g l 0 i s = (8, { s with down := true }) := by
      show sync s = _
      unfold sync
      rw [begin_out hfu]; rfl
    rw [this]
    exact ⟨rfl, rfl, (List.append_nil _).symm, rfl, rfl⟩
  | r + 1, i, f, s, hk, hf, hfu, hs, hb => by
    have hrt := right_slot (g := g) hb (show i < k by omega)
    have hR : (right s ((k * (g % 2) + i : Nat) : Int) && decide ((blockE size k g l i).length = s.size)) = true := by
      rw [hrt, block_len h8, hs]; simp
    cases f with
    | zero =>
      have hw : write s ((k * (g % 2) + i : Nat) : Int) (blockE size k g l i) = (8, { s with down := true }) := by
        unfold write
        rw [hR, begin_out hfu]; rfl
      have : saveGo size k g l (r + 1) i s = (8, { s with down := true }) := by
        show (let q := write s ((k * (g % 2) + i : Nat) : Int) (blockE size k g l i); if q.1 = 0 then saveGo size k g l r (i + 1) q.2 else q) = _
        rw [hw]; rfl
      rw [this]
      exact ⟨rfl, rfl, (List.append_nil _).symm, rfl, rfl⟩
    | succ f =>
      have hw : write s ((k * (g % 2) + i : Nat) : Int) (blockE size k g l i) = (0, { s with fn := (f : Int), tn := s.tn, acts := s.acts + 1, later := s.later ++ [(((k * (g % 2) + i : Nat) : Int), blockE size k g l i)] }) := by
        unfold write
        rw [hR, begin_in hfu]; rfl
      have e : saveGo size k g l (r + 1) i s = saveGo size k g l r (i + 1) { s with fn := (f : Int), tn := s.tn, acts := s.acts + 1, later := s.later ++ [(((k * (g % 2) + i : Nat) : Int), blockE size k g l i)] } := by
        show (let q := write s ((k * (g % 2) + i : Nat) : Int) (blockE size k g l i); if q.1 = 0 then saveGo size k g l r (i + 1) q.2 else q) = _
        rw [hw]; rfl
      rw [e]
      obtain ⟨i1, i2, i3, i4, i5⟩ := saveGo_fuse h8 r (i + 1) f { s with fn := (f : Int), tn := s.tn, acts := s.acts + 1, later := s.later ++ [(((k * (g % 2) + i : Nat) : Int), blockE size k g l i)] } (by omega) (by omega) ⟨hfu.1, hfu.2.1, rfl, hfu.2.2.2⟩ hs hb
      refine ⟨i1, i2, ?_, i4, i5⟩
      rw [i3]
      simp only [List.append_assoc, List.singleton_append]; rfl
/-- what is laid over f -/
theorem lay_or {α : Type} : ∀ (l : List (Int × α)) (f : Int → Option α) (x : Int), (lay f l x = f x ∧ ∀ e ∈ l, e.1 ≠ x) ∨ ∃ e ∈ l, e.1 = x ∧ lay f l x = some e.2
  | [], f, x => .inl ⟨rfl, fun e he => by cases he⟩
  | a :: l, f, x => by
    rcases lay_or l (upd f a.1 a.2) x with ⟨h1, h2⟩ | ⟨e, h1, h2, h3⟩
    · by_cases hx : a.1 = x
      · right
        refine ⟨a, List.mem_cons_self, hx, ?_⟩
        show lay (upd f a.1 a.2) l x = _
        rw [h1, ← hx, upd_same]
      · left
        refine ⟨?_, fun e he => ?_⟩
        · show lay (upd f a.1 a.2) l x = _
          rw [h1, upd_other _ _ (fun e => hx e.symm)]
        · rcases List.mem_cons.1 he with rfl | he
          · exact hx
          · exact h2 e he
    · exact .inr ⟨e, List.mem_cons_of_mem _ h1, h2, h3⟩
def setL (L : Nat → List Ent) (g : Nat) (l : List Ent) : Nat → List Ent := fun t => if t = g then l else L t
/-- some blocks of a new manifest are laid over: the old tags stay, or the new one comes -/
theorem inv_lay {size k g : Nat} {fl : Int → Option (List Nat)} {tg : Nat → Nat → Nat} {L : Nat → List Ent} {l : List Ent} {K : List (Int × List Nat)} (h : Inv size k fl tg L) (hg : GenP g) (hf : FormedP l) (hn : ∀ s i, s ≤ 1 → i < k → tg s i ≠ g)
    (hK : ∀ e ∈ K, ∃ j, j < k ∧ e = (((k * (g % 2) + j : Nat) : Int), blockE size k g l j)) :
    ∃ tg', Inv size k (lay fl K) tg' (setL L g l) ∧ (∀ s i, s ≤ 1 → i < k → tg' s i = tg s i ∨ (s = g % 2 ∧ tg' s i = g)) ∧ ((∀ j, j < k → (((k * (g % 2) + j : Nat) : Int), blockE size k g l j) ∈ K) → ∀ j, j < k → tg' (g % 2) j = g) := by
  have hone : ∀ s i, s ≤ 1 → i < k → ∃ t, ((t = 0 ∧ lay fl K ((k * s + i : Nat) : Int) = none) ∨ (GenP t ∧ t % 2 = s ∧ FormedP (setL L g l t) ∧ lay fl K ((k * s + i : Nat) : Int) = some (blockE size k t (setL L g l t) i))) ∧ (t = tg s i ∨ (s = g % 2 ∧ t = g)) ∧ ((∀ j, j < k → (((k * (g % 2) + j : Nat) : Int), blockE size k g l j) ∈ K) → s = g % 2 → t = g) := by
    intro s i hs hi
    rcases lay_or K fl ((k * s + i : Nat) : Int) with ⟨h1, h2⟩ | ⟨e, h1, h2, h3⟩
    · refine ⟨tg s i, ?_, .inl rfl, fun hall hsg => ?_⟩
      · rw [h1]
        have hL : setL L g l (tg s i) = L (tg s i) := by unfold setL; rw [if_neg (hn s i hs hi)]
        rw [hL]; exact h s i hs hi
      · exfalso
        have := h2 _ (hall i hi)
        rw [hsg] at this; exact this rfl
    · obtain ⟨j, hj, rfl⟩ := hK e h1
      have h2 : k * (g % 2) + j = k * s + i := by
        have h : ((k * (g % 2) + j : Nat) : Int) = ((k * s + i : Nat) : Int) := h2
        exact Int.ofNat.inj h
      have hsg : s = g % 2 ∧ i = j := by
        have hg2 : g % 2 ≤ 1 := by omega
        have c1 : s = 0 ∨ s = 1 := by omega
        have c2 : g % 2 = 0 ∨ g % 2 = 1 := by omega
        rcases c1 with c1 | c1 <;> rcases c2 with c2 | c2 <;> rw [c1, c2] at h2 <;> omega
      obtain ⟨rfl, rfl⟩ := hsg
      refine ⟨g, .inr ⟨hg, rfl, ?_, ?_⟩, .inr ⟨rfl, rfl⟩, fun _ _ => rfl⟩
      · unfold setL; rw [if_pos rfl]; exact hf
      · rw [h3]; unfold setL; rw [if_pos rfl]
  have hex : ∀ s i, ∃ t, s ≤ 1 → i < k → ((t = 0 ∧ lay fl K ((k * s + i : Nat) : Int) = none) ∨ (GenP t ∧ t % 2 = s ∧ FormedP (setL L g l t) ∧ lay fl K ((k * s + i : Nat) : Int) = some (blockE size k t (setL L g l t) i))) ∧ (t = tg s i ∨ (s = g % 2 ∧ t = g)) ∧ ((∀ j, j < k → (((k * (g % 2) + j : Nat) : Int), blockE size k g l j) ∈ K) → s = g % 2 → t = g) := by
    intro s i
    by_cases hs : s ≤ 1
    · by_cases hi : i < k
      · obtain ⟨t, ht⟩ := hone s i hs hi
        exact ⟨t, fun _ _ => ht⟩
      · exact ⟨0, fun _ h => absurd h hi⟩
    · exact ⟨0, fun h => absurd h hs⟩
  refine ⟨fun s i => (hex s i).choose, fun s i hs hi => ((hex s i).choose_spec hs hi).1, fun s i hs hi => ((hex s i).choose_spec hs hi).2.1, fun hall j hj => ((hex (g % 2) j).choose_spec (by omega) hj).2.2 hall rfl⟩

def Full (tg : Nat → Nat → Nat) (k s t : Nat) : Prop := t ≠ 0 ∧ ∀ i, i < k → tg s i = t
theorem inv_tags {size k : Nat} {fl : Int → Option (List Nat)} {tg : Nat → Nat → Nat} {L : Nat → List Ent} (h : Inv size k fl tg L) {s i : Nat} (hs : s ≤ 1) (hi : i < k) (h0 : tg s i ≠ 0) : GenP (tg s i) ∧ tg s i % 2 = s ∧ FormedP (L (tg s i)) := by
  rcases h s i hs hi with ⟨h1, _⟩ | ⟨h1, h2, h3, _⟩
  · exact absurd h1 h0
  · exact ⟨h1, h2, h3⟩
/-- WHAT LOAD TELLS of such a device -/
theorem load_inv {size k : Nat} {fl : Int → Option (List Nat)} {tg : Nat → Nat → Nat} {L : Nat → List Ent} {now : Int → List Nat} {H : Nat} (hk : k = slotE size) (h8 : 8 ≤ size) (h256 : size ≤ 256) (h : Inv size k fl tg L) (hn : ∀ x, now x = blk size (fl x)) (hH : ∀ s i, s ≤ 1 → i < k → tg s i ≤ H) :
    ∃ l g nx, loadP now size = (l, g, nx) ∧ (∀ s i, s ≤ 1 → i < k → tg s i < nx) ∧ nx ≤ H + 2 ∧ (0 < g → nx % 2 ≠ g % 2) ∧ (∀ h', (∃ s i, s ≤ 1 ∧ i < k ∧ tg s i = h') → (∀ s i, s ≤ 1 → i < k → tg s i ≤ h') → nx = nextE g h') ∧
      ((g = 0 ∧ l = [] ∧ ∀ s t, s ≤ 1 → ¬ Full tg k s t) ∨ (0 < g ∧ Full tg k (g % 2) g ∧ l = L g ∧ ∀ s t, s ≤ 1 → s ≠ g % 2 → Full tg k s t → t < g)) := by
  obtain ⟨hk0, _, hk62⟩ := slot_pos h8 h256
  rw [← hk] at hk0 hk62
  have hp0 := inv_parts h h8 (s := 0) (by omega) now hn
  have hp1 := inv_parts h h8 (s := 1) (by omega) now hn
  have c0 := stand_cases (size := size) (s := 0) (L := L) (f := tg 0) hk0 hk62 (fun i hi h0 => inv_tags h (by omega) hi h0)
  have c1 := stand_cases (size := size) (s := 1) (L := L) (f := tg 1) hk0 hk62 (fun i hi h0 => inv_tags h (by omega) hi h0)
  rw [← hp0] at c0
  rw [← hp1] at c1
  have hlp := load_pick now size
  rw [← hk] at hlp
  have hmem : ∀ s, s ≤ 1 → ∀ i, i < k → partT size L (tg s i) i ∈ partsE now k s := by
    intro s hs i hi
    rw [inv_parts h h8 hs now hn]
    exact List.mem_map.2 ⟨i, List.mem_range.2 hi, rfl⟩
  have hge : ∀ s, s ≤ 1 → ∀ i, i < k → tg s i ≤ highE (partsE now k s) := by
    intro s hs i hi
    by_cases h0 : tg s i = 0
    · omega
    · have := high_ge (hmem s hs i hi) (by rw [partT_tag]; exact (inv_tags h hs hi h0).1)
      rw [partT_tag] at this; exact this
  have hle : ∀ s, s ≤ 1 → ∀ B, (∀ i, i < k → tg s i ≤ B) → highE (partsE now k s) ≤ B := by
    intro s hs B hB
    refine high_bd fun x hx => ?_
    rw [inv_parts h h8 hs now hn] at hx
    obtain ⟨i, hi, rfl⟩ := List.mem_map.1 hx
    rw [partT_tag]; exact hB i (List.mem_range.1 hi)
  generalize hh0 : highE (partsE now k 0) = h0 at hlp
  generalize hh1 : highE (partsE now k 1) = h1 at hlp
  have hb : ∀ s i, s ≤ 1 → i < k → tg s i ≤ max h0 h1 := by
    intro s i hs hi
    have c : s = 0 ∨ s = 1 := by omega
    rcases c with rfl | rfl
    · have := hge 0 (by omega) i hi; omega
    · have := hge 1 (by omega) i hi; omega
  have hm : max h0 h1 ≤ H := by
    have a0 := hle 0 (by omega) H (fun i hi => hH 0 i (by omega) hi)
    have a1 := hle 1 (by omega) H (fun i hi => hH 1 i (by omega) hi)
    omega
  have hex : ∀ h', (∃ s i, s ≤ 1 ∧ i < k ∧ tg s i = h') → (∀ s i, s ≤ 1 → i < k → tg s i ≤ h') → max h0 h1 = h' := by
    rintro h' ⟨s, i, hs, hi, e⟩ hall
    have := hb s i hs hi
    have a0 := hle 0 (by omega) h' (fun i hi => hall 0 i (by omega) hi)
    have a1 := hle 1 (by omega) h' (fun i hi => hall 1 i (by omega) hi)
    omega
  have hfull : ∀ s t, s ≤ 1 → Full tg k s t → t = tg s 0 ∧ tg s 0 ≠ 0 ∧ ∀ i, i < k → tg s i = tg s 0 := by
    intro s t hs hf
    have e := hf.2 0 hk0
    exact ⟨e.symm, by rw [e]; exact hf.1, fun i hi => by rw [hf.2 i hi, e]⟩
  have hno : ∀ s, (tg s 0 = 0 ∨ ∃ i, i < k ∧ tg s i ≠ tg s 0) → ∀ t, s ≤ 1 → ¬ Full tg k s t := by
    intro s hc t hs hf
    obtain ⟨_, f1, f2⟩ := hfull s t hs hf
    rcases hc with hc | ⟨i, hi, hc⟩
    · exact f1 hc
    · exact hc (f2 i hi)
  have main : ∀ (l : List Ent) (g : Nat), loadP now size = (l, g, nextE g (max h0 h1)) → ((g = 0 ∧ l = [] ∧ ∀ s t, s ≤ 1 → ¬ Full tg k s t) ∨ (0 < g ∧ Full tg k (g % 2) g ∧ l = L g ∧ ∀ s t, s ≤ 1 → s ≠ g % 2 → Full tg k s t → t < g)) → ∃ l g nx, loadP now size = (l, g, nx) ∧ (∀ s i, s ≤ 1 → i < k → tg s i < nx) ∧ nx ≤ H + 2 ∧ (0 < g → nx % 2 ≠ g % 2) ∧ (∀ h', (∃ s i, s ≤ 1 ∧ i < k ∧ tg s i = h') → (∀ s i, s ≤ 1 → i < k → tg s i ≤ h') → nx = nextE g h') ∧
      ((g = 0 ∧ l = [] ∧ ∀ s t, s ≤ 1 → ¬ Full tg k s t) ∨ (0 < g ∧ Full tg k (g % 2) g ∧ l = L g ∧ ∀ s t, s ≤ 1 → s ≠ g % 2 → Full tg k s t → t < g)) := by
    intro l g e hc
    obtain ⟨n1, n2, n3⟩ := next_facts g (max h0 h1)
    refine ⟨l, g, _, e, fun s i hs hi => ?_, by omega, n3, fun h' ha hb' => by rw [hex h' ha hb'], hc⟩
    have := hb s i hs hi
    omega
  rcases c0 with ⟨a1, a2, a3⟩ | ⟨a2, a3⟩ <;> rcases c1 with ⟨b1, b2, b3⟩ | ⟨b2, b3⟩
  · have m0 := (inv_tags h (by omega) hk0 a1).2.1
    have m1 := (inv_tags h (by omega) hk0 b1).2.1
    have e := hlp _ _ _ _ a3 b3 (fun h => absurd h a1)
    by_cases hc : tg 1 0 > tg 0 0
    · rw [if_pos hc, if_pos hc] at e
      refine main _ _ e (.inr ⟨by omega, by rw [m1]; exact ⟨b1, b2⟩, rfl, fun s t hs hne hf => ?_⟩)
      obtain rfl : s = 0 := by omega
      have := (hfull 0 t (by omega) hf).1; omega
    · rw [if_neg hc, if_neg hc] at e
      refine main _ _ e (.inr ⟨by omega, by rw [m0]; exact ⟨a1, a2⟩, rfl, fun s t hs hne hf => ?_⟩)
      obtain rfl : s = 1 := by omega
      have h1 := (hfull 1 t (by omega) hf).1
      omega
  · have m0 := (inv_tags h (by omega) hk0 a1).2.1
    have e := hlp _ _ _ _ a3 b3 (fun h => absurd h a1)
    rw [if_neg (by omega), if_neg (by omega)] at e
    refine main _ _ e (.inr ⟨by omega, by rw [m0]; exact ⟨a1, a2⟩, rfl, fun s t hs hne hf => ?_⟩)
    obtain rfl : s = 1 := by omega
    exact absurd hf (hno 1 b2 t (by omega))
  · have m1 := (inv_tags h (by omega) hk0 b1).2.1
    have e := hlp _ _ _ _ a3 b3 (fun _ => rfl)
    rw [if_pos (by omega), if_pos (by omega)] at e
    refine main _ _ e (.inr ⟨by omega, by rw [m1]; exact ⟨b1, b2⟩, rfl, fun s t hs hne hf => ?_⟩)
    obtain rfl : s = 0 := by omega
    exact absurd hf (hno 0 a2 t (by omega))
  · have e := hlp _ _ _ _ a3 b3 (fun _ => rfl)
    rw [if_neg (by omega), if_neg (by omega)] at e
    refine main _ _ e (.inl ⟨rfl, rfl, fun s t hs => ?_⟩)
    have c : s = 0 ∨ s = 1 := by omega
    rcases c with rfl | rfl
    · exact hno 0 a2 t hs
    · exact hno 1 b2 t hs

/-- WHAT STANDS BEHIND A SAVE, cut or not: what stood, or the new one -/
theorem load_after {size k : Nat} {fl : Int → Option (List Nat)} {tg : Nat → Nat → Nat} {L : Nat → List Ent} {now now' : Int → List Nat} {H : Nat} {l l0 : List Ent} {g0 nx : Nat} {K : List (Int × List Nat)} (hk : k = slotE size) (h8 : 8 ≤ size) (h256 : size ≤ 256) (h : Inv size k fl tg L) (hn : ∀ x, now x = blk size (fl x)) (hH : ∀ s i, s ≤ 1 → i < k → tg s i ≤ H) (hH2 : H ≤ 1000000)
    (hld : loadP now size = (l0, g0, nx)) (hf : FormedP l) (hK : ∀ e ∈ K, ∃ j, j < k ∧ e = (((k * (nx % 2) + j : Nat) : Int), blockE size k nx l j)) (hn' : ∀ x, now' x = blk size (lay fl K x)) :
    ∃ tg' L', Inv size k (lay fl K) tg' L' ∧ (∀ s i, s ≤ 1 → i < k → tg' s i ≤ H + 2) ∧ ((loadP now' size).1 = l ∨ (loadP now' size).1 = l0) ∧ ((∀ j, j < k → (((k * (nx % 2) + j : Nat) : Int), blockE size k nx l j) ∈ K) → (loadP now' size).1 = l) := by
  obtain ⟨hk0, _, _⟩ := slot_pos h8 h256
  rw [← hk] at hk0
  obtain ⟨l0', g0', nx', e, q1, q2, q3, _, q4⟩ := load_inv hk h8 h256 h hn hH
  rw [hld] at e
  injection e with e1 e; injection e with e2 e3
  subst e1; subst e2; subst e3
  have hg : GenP nx := ⟨by have := q1 0 0 (by omega) hk0; omega, by omega⟩
  obtain ⟨tg', i1, i2, i3⟩ := inv_lay h hg hf (fun s i hs hi e => by have := q1 s i hs hi; omega) hK
  have hB : ∀ s i, s ≤ 1 → i < k → tg' s i ≤ H + 2 := by
    intro s i hs hi
    rcases i2 s i hs hi with e | ⟨_, e⟩
    · rw [e]; have := hH s i hs hi; omega
    · rw [e]; exact q2
  obtain ⟨l', g', n', e, _, _, _, _, c⟩ := load_inv hk h8 h256 i1 hn' hB
  rw [e]
  -- the other slot has stayed
  have hstay : ∀ s i, s ≤ 1 → i < k → s ≠ nx % 2 → tg' s i = tg s i := by
    intro s i hs hi hne
    rcases i2 s i hs hi with e | ⟨e, _⟩
    · exact e
    · exact absurd e hne
  have hkeep : 0 < g0 → Full tg k (g0 % 2) g0 → Full tg' k (g0 % 2) g0 := fun hg0 hF => ⟨hF.1, fun i hi => by rw [hstay _ i (by omega) hi (fun e => q3 hg0 e.symm)]; exact hF.2 i hi⟩
  have hnew : (∀ j, j < k → (((k * (nx % 2) + j : Nat) : Int), blockE size k nx l j) ∈ K) → Full tg' k (nx % 2) nx := fun hall => ⟨by have := hg.1; omega, i3 hall⟩
  refine ⟨tg', _, i1, hB, ?_⟩
  rcases c with ⟨c1, c2, c3⟩ | ⟨c1, c2, c3, c4⟩
  · constructor
    · rcases q4 with ⟨_, d2, _⟩ | ⟨d1, d2, _⟩
      · right; rw [c2, d2]
      · exact absurd (hkeep d1 d2) (c3 _ _ (by omega))
    · exact fun hall => absurd (hnew hall) (c3 _ _ (by omega))
  · by_cases he : g' = nx
    · have hl : l' = l := by rw [c3, he]; unfold setL; rw [if_pos rfl]
      exact ⟨.inl hl, fun _ => hl⟩
    · have hl : l' = L g' := by rw [c3]; unfold setL; rw [if_neg he]
      have hold : ∀ i, i < k → tg (g' % 2) i = g' := by
        intro i hi
        have h1 := c2.2 i hi
        rcases i2 (g' % 2) i (by omega) hi with e | ⟨_, e⟩
        · rw [← e]; exact h1
        · rw [h1] at e; exact absurd e he
      have hlt : g' < nx := by
        have := q1 (g' % 2) 0 (by omega) hk0
        rw [hold 0 hk0] at this; exact this
      have hF : Full tg k (g' % 2) g' := ⟨by omega, hold⟩
      constructor
      · right
        rcases q4 with ⟨_, _, d3⟩ | ⟨d1, d2, d3, d4⟩
        · exact absurd hF (d3 _ _ (by omega))
        · by_cases hp : g' % 2 = g0 % 2
          · have : g' = g0 := by
              have h1 := hold 0 hk0
              rw [hp, d2.2 0 hk0] at h1; exact h1.symm
            show l' = l0
            rw [hl, d3, this]
          · have h1 := d4 (g' % 2) g' (by omega) hp hF
            have h2 := c4 (g0 % 2) g0 (by omega) (fun e => hp e.symm) (hkeep d1 d2)
            omega
      · intro hall
        exfalso
        have hN := hnew hall
        by_cases hp : g' % 2 = nx % 2
        · have h1 := c2.2 0 hk0
          rw [hp, hN.2 0 hk0] at h1
          omega
        · have := c4 (nx % 2) nx (by omega) (fun e => hp e.symm) hN
          omega
end Go.Proofs.Ythdibijkiogpjaa
