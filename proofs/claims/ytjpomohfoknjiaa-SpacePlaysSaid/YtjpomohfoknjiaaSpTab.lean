/- A table that a law keeps beside a space; a slice of pairs of bytes that came in. -/
import Derived.Test.YtjpomohfoknjiaaSpLaw
namespace Go.Proofs.Ytjpomohfoknjiaa
open Go.ChangeShapes Go.WideShapes Go.ChangeAt Go.RowKit

theorem run_set {w0 w : World} {p : Nat} {s : Sp} {v : Value} {n : Nat} {l : List Ex} (h : Run w0 w p s v n l) {b i : Nat} {t : TypeId} {cs : List Value} (hr : Row w b t cs) (h1 : t ≠ 53) (h2 : t ≠ 36) (hb : w0.heap.size ≤ b) (u : Value) : Run w0 (w.setCell ⟨b, i, none⟩ u) p s v n l := by
  obtain ⟨G, g1, g2, g3, g4, g5⟩ := h
  have hset : Far (fun k => k = b) w (w.setCell ⟨b, i, none⟩ u) := (Far.refl (fun k => k = b) w).set (p := ⟨b, i, none⟩) (.inl rfl) u
  have hnG : ¬ G b := g1.types hr h1 h2
  have hnv : ∀ k, v.ownBlock = some k → ¬ k = b := fun k hk e => by
    subst e
    obtain ⟨ds, hd⟩ := own2_row g2 hk
    unfold Row at hr hd; rw [hr] at hd; injection hd with hd; injection hd with _ hd; exact h2 hd
  exact ⟨G, g1.far hset fun k hk e => hnG (e ▸ hk), own2_far g2 hset hnv, g3, g4, g5.setCell (p := ⟨b, i, none⟩) hb u⟩
/-- bools as cells -/
def bcells (l : List Bool) : List Value := l.map Value.bool
theorem bcells_get {l : List Bool} {i : Nat} (h : i < l.length) : (bcells l)[i]? = some (.bool (l.getD i false)) := by
  unfold bcells
  rw [List.getElem?_map, List.getElem?_eq_getElem h, List.getD_eq_getElem?_getD, List.getElem?_eq_getElem h]; rfl
theorem bcells_set {l : List Bool} {i : Nat} {b : Bool} : bcells (l.set i b) = (bcells l).set i (.bool b) := by unfold bcells; rw [List.map_set]
theorem getD_set {l : List Bool} {i j : Nat} {b : Bool} (hi : i < l.length) : (l.set i b).getD j false = if j = i then b else l.getD j false := by
  rw [List.getD_eq_getElem?_getD, List.getElem?_set, List.getD_eq_getElem?_getD]
  by_cases h : j = i
  · subst h; simp [hi]
  · rw [if_neg (fun e => h e.symm), if_neg h]
/-- the blocks of the table that are held: just those of the space that aren't free -/
def Tab (s : Sp) (lo hi len : Nat) (l : List Bool) : Prop := l.length = len ∧ s.first = lo ∧ s.first + s.blocks = hi ∧ ∀ b, b < len → (l.getD b false = true ↔ lo ≤ b ∧ b < hi ∧ ¬ hasB s.fr b)
theorem Tab.free {s : Sp} {lo hi len : Nat} {l : List Bool} (h : Tab s lo hi len l) {b : Nat} (hl : b < len) (h1 : lo ≤ b) (h2 : b < hi) : l.getD b false = false ↔ hasB s.fr b := by
  have h3 := h.2.2.2 b hl
  cases hq : l.getD b false with
  | true => rw [hq] at h3; have := h3.1 rfl; simp [this.2.2]
  | false =>
    rw [hq] at h3
    refine ⟨fun _ => Classical.byContradiction fun hn => ?_, fun _ => rfl⟩
    have := h3.2 ⟨h1, h2, hn⟩; cases this
/-- n blocks from a on are free just if the table says so -/
theorem Tab.room {s : Sp} {lo hi len : Nat} {l : List Bool} (h : Tab s lo hi len l) (hok : s.ok) {a n : Nat} (hn : 1 ≤ n) (hlen : hi ≤ len) (hlo : lo ≤ a) : roomB s a n ↔ a + n ≤ hi ∧ ∀ b, a ≤ b → b < a + n → l.getD b false = false := by
  constructor
  · intro hr
    have h1 := hok.2.2.has (hr (a + n - 1) (by omega) (by omega))
    rw [h.2.2.1] at h1
    refine ⟨by omega, fun b hb hb2 => (h.free (by omega) (by omega) (by omega)).2 (hr b hb hb2)⟩
  · rintro ⟨h1, h2⟩ b hb hb2
    exact (h.free (by omega) (by omega) (by omega)).1 (h2 b hb hb2)
/-- n blocks from a on are held now -/
theorem Tab.took {s s' : Sp} {lo hi len : Nat} {l l' : List Bool} (h : Tab s lo hi len l) {a n : Nat} (ht : Took s s' a n) (hok : s.ok) (hl : l'.length = l.length) (hg : ∀ b, l'.getD b false = if a ≤ b ∧ b < a + n then true else l.getD b false) : Tab s' lo hi len l' := by
  refine ⟨hl.trans h.1, ht.first.trans h.2.1, by rw [ht.first, ht.blocks]; exact h.2.2.1, fun b hb => ?_⟩
  rw [hg b, ht.has b]
  by_cases hin : a ≤ b ∧ b < a + n
  · have h1 := hok.2.2.has (ht.room b hin.1 hin.2)
    rw [h.2.1, ← h.2.1, h.2.2.1, h.2.1] at h1
    rw [if_pos hin]; simp [hin]; omega
  · rw [if_neg hin, h.2.2.2 b hb]; simp [hin]
/-- a table into which the blocks from a on have been written, up to b -/
def fillT (l : List Bool) (a : Nat) : Nat → List Bool
  | 0 => l
  | n + 1 => (fillT l a n).set (a + n) true
theorem fillT_length (l : List Bool) (a : Nat) : ∀ n, (fillT l a n).length = l.length
  | 0 => rfl
  | n + 1 => by rw [fillT, List.length_set, fillT_length l a n]
theorem fillT_get (l : List Bool) (a : Nat) : ∀ n, a + n ≤ l.length → ∀ b, (fillT l a n).getD b false = if a ≤ b ∧ b < a + n then true else l.getD b false
  | 0, _, b => by rw [if_neg (by omega)]; rfl
  | n + 1, h, b => by
    rw [fillT, getD_set (by rw [fillT_length]; omega), fillT_get l a n (by omega) b]
    by_cases h1 : b = a + n
    · rw [if_pos h1, if_pos (by omega)]
    · rw [if_neg h1]
      by_cases h2 : a ≤ b ∧ b < a + n
      · rw [if_pos h2, if_pos (by omega)]
      · rw [if_neg h2, if_neg (by omega)]

/-- A slice value that reads as pairs of bytes; the cells lie below block B. -/
def ReadsP (w : World) (B : Nat) (a : Option Addr) (n : Nat) (l : List (Nat × Nat)) : Prop :=
  l.length = n ∧ (∀ x ∈ l, x.1 < 256 ∧ x.2 < 256) ∧ (0 < n → ∃ b off, a = some ⟨b, off, none⟩ ∧ b < B ∧ ∀ (i : Nat) (x : Nat × Nat), l[i]? = some x → w.cell? ⟨b, off + i * 2, none⟩ = some (.int .u8 (x.1 : Nat)) ∧ w.cell? ⟨b, off + i * 2 + 1, none⟩ = some (.int .u8 (x.2 : Nat)))
theorem ReadsP.keep {w w' : World} {B : Nat} {a : Option Addr} {n : Nat} {l : List (Nat × Nat)} (h : ReadsP w B a n l) (hb : Below B w w') : ReadsP w' B a n l := by
  obtain ⟨hl, hw, hc⟩ := h
  refine ⟨hl, hw, fun hn => ?_⟩
  obtain ⟨b, off, rfl, hbB, hc⟩ := hc hn
  exact ⟨b, off, rfl, hbB, fun i x hi => ⟨(hb.cell (p := ⟨b, off + i * 2, none⟩) hbB).trans (hc i x hi).1, (hb.cell (p := ⟨b, off + i * 2 + 1, none⟩) hbB).trans (hc i x hi).2⟩⟩
theorem ReadsP.at_ {w : World} {B : Nat} {a : Option Addr} {n : Nat} {l : List (Nat × Nat)} (h : ReadsP w B a n l) {i : Nat} (hi : i < n) :
    ∃ b off x y, a = some ⟨b, off, none⟩ ∧ b < B ∧ w.cell? ⟨b, off + i * 2, none⟩ = some (.int .u8 (x : Nat)) ∧ w.cell? ⟨b, off + i * 2 + 1, none⟩ = some (.int .u8 (y : Nat)) ∧ x < 256 ∧ y < 256 := by
  obtain ⟨hl, hw, hc⟩ := h
  obtain ⟨b, off, rfl, hb, hc⟩ := hc (by omega)
  have hi' : l[i]? = some (l[i]'(by omega)) := List.getElem?_eq_getElem _
  obtain ⟨h1, h2⟩ := hc i _ hi'
  obtain ⟨w1, w2⟩ := hw _ (List.getElem_mem (show i < l.length by omega))
  exact ⟨b, off, _, _, rfl, hb, h1, h2, w1, w2⟩
section
variable {H : Type} {enc : TypeId × Value → H} {P : Program} {w : World} {base b0 : Nat} {spare : Nat → Bool} {held : Bool}
open Go.Joins Go.Deep
/-- A slice of pairs of bytes that came in. -/
theorem open_pairs8 {t e i : TypeId} {fuel : Nat} {v : Value} {x : DataW H × List MemPlace} (ht : P.underlying t = some (.slice e)) (he : P.underlying e = some (.array 2 i)) (hce : P.cellsOf i = 1) (hC : P.cellsOf e = 2) (hi : P.underlying i = some (.int .u8))
    (h : DataW.trod enc P w base spare held fuel t [v] = some x) : ∃ a len cap l, v = .slice a len cap ∧ ReadsP w w.heap.size a len l ∧ len ≤ maxLen := by
  rcases open_slice ht h with h0 | ⟨a, len, cap, m, n, D, Pl, hcs, hb, hl, hm, hmm, hx, hi2⟩
  · have h3 := h0.1; injection h3 with h3; subst h3
    exact ⟨none, 0, 0, [], rfl, ⟨rfl, by simp, fun h => absurd h (by omega)⟩, Nat.zero_le _⟩
  · injection hcs with hcs; subst hcs
    have hlm : len ≤ m := by split at hmm <;> omega
    have key : ∀ k, k < len → ∀ j, j < 2 → ∃ z : Nat, w.cell? (a.add (k * 2 + j)) = some (.int .u8 (z : Nat)) ∧ z < 256 := by
      intro k hk j hj
      obtain ⟨cs', hc, ht'⟩ := hi2 k (by omega)
      rw [hC] at hc
      obtain ⟨ys, m', _, _, hlen, hyl, hf⟩ := DataW.trod_array he ht'
      obtain ⟨_, hcl, hat⟩ := World.cells?_some hc
      have h1 := hf j hj
      rw [hce, Nat.mul_one] at h1
      have hone' : (cs'.drop j).take 1 = [cs'[j]'(by omega)] := by
        rw [List.drop_eq_getElem_cons (by omega)]; rfl
      rw [hone', List.getElem?_eq_getElem (by omega)] at h1
      obtain ⟨z, hz, _, hw⟩ := DataW.trod_int hi h1
      injection hz with hz
      have h2 := hat j hj
      rw [← Go.Deep.add_add] 
      obtain ⟨z', rfl⟩ := Int.eq_ofNat_of_zero_le (u8_nonneg z hw)
      exact ⟨z', by rw [h2, List.getElem?_eq_getElem (by omega), hz], u8_lt hw⟩
    obtain ⟨f, hf⟩ : ∃ f : Nat → Nat × Nat, ∀ k, k < len → (w.cell? (a.add (k * 2 + 0)) = some (.int .u8 ((f k).1 : Nat)) ∧ w.cell? (a.add (k * 2 + 1)) = some (.int .u8 ((f k).2 : Nat))) ∧ (f k).1 < 256 ∧ (f k).2 < 256 := by
      have : ∀ k, ∃ x : Nat × Nat, k < len → (w.cell? (a.add (k * 2 + 0)) = some (.int .u8 (x.1 : Nat)) ∧ w.cell? (a.add (k * 2 + 1)) = some (.int .u8 (x.2 : Nat))) ∧ x.1 < 256 ∧ x.2 < 256 := fun k => by
        by_cases hk : k < len
        · obtain ⟨z0, e0, w0⟩ := key k hk 0 (by omega)
          obtain ⟨z1, e1, w1⟩ := key k hk 1 (by omega)
          exact ⟨(z0, z1), fun _ => ⟨⟨e0, e1⟩, w0, w1⟩⟩
        · exact ⟨(0, 0), fun h => absurd h hk⟩
      exact ⟨fun k => (this k).choose, fun k => (this k).choose_spec⟩
    have hspot : 0 < len → a.spot = none := fun hp => by
      have := (hf 0 hp).1.1
      simpa [Addr.add] using World.cell?_spot this
    obtain ⟨b, off, spot⟩ := a
    have e : ∀ k j, spot = none → (⟨b, off, spot⟩ : Addr).add (k * 2 + j) = ⟨b, off + k * 2 + j, none⟩ := by
      intro k j hs; subst hs; unfold Addr.add; split <;> simp_all [Nat.add_assoc]
    refine ⟨_, len, cap, (List.range len).map f, rfl, ⟨by simp, ?_, fun hpos => ?_⟩, by omega⟩
    · intro x hx
      obtain ⟨k, hk, rfl⟩ := List.mem_map.1 hx
      exact (hf k (List.mem_range.1 hk)).2
    · have hs : spot = none := hspot hpos
      subst hs
      refine ⟨b, off, rfl, ?_, fun k x hk => ?_⟩
      · have := (hf 0 hpos).1.1; rw [e _ _ rfl] at this; exact block_lt_of_cell this
      · have hkl : k < len := by
          rcases Nat.lt_or_ge k len with h1 | h1
          · exact h1
          · rw [List.getElem?_eq_none (by simpa using h1)] at hk; cases hk
        rw [List.getElem?_map, List.getElem?_range hkl] at hk
        injection hk with hk; subst hk
        obtain ⟨⟨e0, e1⟩, _⟩ := hf k hkl
        rw [e _ _ rfl] at e0 e1
        exact ⟨e0, e1⟩
end
end Go.Proofs.Ytjpomohfoknjiaa
