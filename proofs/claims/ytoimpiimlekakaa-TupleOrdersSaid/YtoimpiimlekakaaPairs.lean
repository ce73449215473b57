/- A slice of pairs of integers (a struct of two) that is read, kept over what is made behind it; a slice of structs that came in. No type of the seat is named here. -/
import Derived.Test.YtoimpiimlekakaaFar
import Derived.Lib.SmallJoins
import Derived.Deep.Slices
import Derived.Deep.Fields
namespace Go.Proofs.Ytoimpiimlekakaa
open Go.ChangeShapes Go.WideShapes Go.ChangeAt Go.RowKit

theorem getD_memP {l : List (Int × Int)} {i : Nat} (h : i < l.length) : l.getD i (0, 0) ∈ l := by
  rw [List.getD_eq_getElem?_getD, List.getElem?_eq_getElem h]; exact List.getElem_mem h
/-- A slice value (address a, length n) that reads as the edges l; the cells lie below block B. -/
def ReadsE (w : World) (B : Nat) (a : Option Addr) (n : Nat) (l : List (Int × Int)) : Prop :=
  l.length = n ∧ (∀ x ∈ l, I64 x.1 ∧ I64 x.2) ∧
  (0 < n → ∃ b off, a = some ⟨b, off, none⟩ ∧ b < B ∧ ∀ i, i < n → w.cell? ⟨b, off + i * 2, none⟩ = some (.int .i64 (l.getD i (0, 0)).1) ∧ w.cell? ⟨b, off + i * 2 + 1, none⟩ = some (.int .i64 (l.getD i (0, 0)).2))

theorem ReadsE.at_ {w : World} {B : Nat} {a : Option Addr} {n : Nat} {l : List (Int × Int)} (h : ReadsE w B a n l) {i : Nat} (hi : i < n) :
    ∃ b off u v, a = some ⟨b, off, none⟩ ∧ b < B ∧ w.cell? ⟨b, off + i * 2, none⟩ = some (.int .i64 u) ∧ w.cell? ⟨b, off + i * 2 + 1, none⟩ = some (.int .i64 v) ∧ I64 u ∧ I64 v ∧ Hid (l.getD i (0, 0) = (u, v)) := by
  obtain ⟨hl, hw, hc⟩ := h
  obtain ⟨b, off, rfl, hb, hc⟩ := hc (by omega)
  have hm := hw _ (getD_memP (l := l) (i := i) (by omega))
  exact ⟨b, off, _, _, rfl, hb, (hc i hi).1, (hc i hi).2, hm.1, hm.2, rfl⟩
theorem ReadsE.keep {w w' : World} {B : Nat} {a : Option Addr} {n : Nat} {l : List (Int × Int)} (h : ReadsE w B a n l) (hb : Below B w w') : ReadsE w' B a n l := by
  obtain ⟨hl, hw, hc⟩ := h
  refine ⟨hl, hw, fun hn => ?_⟩
  obtain ⟨b, off, rfl, hbB, hc⟩ := hc hn
  exact ⟨b, off, rfl, hbB, fun i hi => ⟨(hb.cell (p := ⟨b, off + i * 2, none⟩) hbB).trans (hc i hi).1, (hb.cell (p := ⟨b, off + i * 2 + 1, none⟩) hbB).trans (hc i hi).2⟩⟩
theorem ReadsE.drewN {w : World} {B : Nat} {a : Option Addr} {n : Nat} {l : List (Int × Int)} (h : ReadsE w B a n l) (m : Nat) : ReadsE (w.drewN m) B a n l := h
theorem ReadsE.mono {w : World} {B B' : Nat} {a : Option Addr} {n : Nat} {l : List (Int × Int)} (h : ReadsE w B a n l) (hb : B ≤ B') : ReadsE w B' a n l := by
  obtain ⟨hl, hw, hc⟩ := h
  refine ⟨hl, hw, fun hn => ?_⟩
  obtain ⟨b, off, rfl, hbB, hc⟩ := hc hn
  exact ⟨b, off, rfl, by omega, hc⟩
theorem ReadsE.nil (w : World) (B : Nat) (a : Option Addr) : ReadsE w B a 0 [] := ⟨rfl, by simp, fun h => absurd h (by omega)⟩
theorem ReadsE.lt {w : World} {B : Nat} {a : Option Addr} {n : Nat} {l : List (Int × Int)} (h : ReadsE w B a n l) {x : Addr} (hx : a = some x) (hn : 0 < n) : x.block < B := by
  obtain ⟨b, off, rfl, hb, _⟩ := h.2.2 hn
  injection hx with hx; subst hx; exact hb

section
variable {H : Type} {enc : TypeId × Value → H} {P : Program} {w : World} {base b0 : Nat} {spare : Nat → Bool} {held : Bool}
open Go.Joins Go.Deep
theorem open_slice_fields {t e : TypeId} {fs : Array Field} {fuel : Nat} {cs : List Value} {x : DataW H × List MemPlace} (ht : P.underlying t = some (.slice e)) (he : P.underlying e = some (.struct fs))
    (hone : oneCellFields P fs = true) (hC : P.cellsOf e = fs.size) (h : DataW.trod enc P w base spare held fuel t cs = some x) :
    (cs = [.slice none 0 0]) ∨
    ∃ (a : Addr) (len cap m : Nat), cs = [.slice (some a) len cap] ∧ len ≤ cap ∧ cap ≤ maxLen ∧ len ≤ m ∧
      ∀ i, i < m → ∀ (j : Nat) (f : Field), fs[j]? = some f → ∃ (v : Value) (n : Nat) (y : DataW H × List MemPlace), w.cell? (a.add (i * fs.size + j)) = some v ∧ DataW.trod enc P w base spare held n f.type [v] = some y := by
  rcases open_slice ht h with h0 | ⟨a, len, cap, m, n, D, Pl, hcs, hb, hl, hm, hmm, hx, hi⟩
  · exact .inl h0.1
  · refine .inr ⟨a, len, cap, m, hcs, hl, hm, by split at hmm <;> omega, fun i him j f hj => ?_⟩
    obtain ⟨cs', hc, ht'⟩ := hi i him
    rw [hC] at hc
    obtain ⟨ys, n', hn', hy, hlen, hyl, hf⟩ := DataW.trod_struct he ht'
    obtain ⟨_, hcl, hat⟩ := World.cells?_some hc
    obtain ⟨ho, hk⟩ := hone_of hone j f hj
    have hjl : j < fs.size := (Array.getElem?_eq_some_iff.1 hj).1
    have hcell := hat j hjl
    have hv : cs'[j]? = some (cs'[j]'(by omega)) := List.getElem?_eq_getElem (by omega)
    have h1 := hf j f hj
    rw [ho, hk] at h1
    have hone' : (cs'.drop j).take 1 = [cs'[j]'(by omega)] := by
      rw [List.drop_eq_getElem_cons (by omega)]
      rfl
    rw [hone'] at h1
    have hys : ys[j]? = some (ys[j]'(by omega)) := List.getElem?_eq_getElem (by omega)
    exact ⟨_, _, _, by rw [← Go.Deep.add_add, hcell, hv], h1.trans hys⟩
/-- A slice of edges that came in. -/
theorem open_edges {t e i : TypeId} {f0 f1 : Field} {fuel : Nat} {v : Value} {x : DataW H × List MemPlace} (ht : P.underlying t = some (.slice e)) (he : P.underlying e = some (.struct #[f0, f1]))
    (hone : oneCellFields P #[f0, f1] = true) (hC : P.cellsOf e = 2) (hi : P.underlying i = some (.int .i64)) (h0 : f0.type = i) (h1 : f1.type = i)
    (h : DataW.trod enc P w base spare held fuel t [v] = some x) :
    ∃ a len cap l, v = .slice a len cap ∧ ReadsE w w.heap.size a len l ∧ len ≤ cap ∧ cap ≤ maxLen := by
  rcases open_slice_fields ht he hone hC h with h2 | ⟨a, len, cap, m, hcs, hl, hm, hlm, hf⟩
  · injection h2 with h2; subst h2
    exact ⟨none, 0, 0, [], rfl, ReadsE.nil _ _ _, by omega, by omega⟩
  · injection hcs with hcs; subst hcs
    have hcell : ∀ k, k < len → ∀ j, j < 2 → ∃ z : Int, w.cell? (a.add (k * 2 + j)) = some (.int .i64 z) ∧ I64 z := by
      intro k hk j hj
      have key : ∀ f : Field, #[f0, f1][j]? = some f → f.type = i → ∃ z : Int, w.cell? (a.add (k * 2 + j)) = some (.int .i64 z) ∧ I64 z := by
        intro f hff hft
        obtain ⟨u, n, y, hc, ht'⟩ := hf k (by omega) j f hff
        obtain ⟨z, hz, _, hw⟩ := DataW.trod_int (hft ▸ hi) ht'
        injection hz with hz; subst hz
        exact ⟨z, hc, hw⟩
      match j, hj with
      | 0, _ => exact key f0 rfl h0
      | 1, _ => exact key f1 rfl h1
    have hspot : 0 < len → a.spot = none := fun hp => by
      obtain ⟨z, hz, _⟩ := hcell 0 hp 0 (by omega)
      simpa [Addr.add] using World.cell?_spot hz
    obtain ⟨b, off, spot⟩ := a
    have e : ∀ k j, spot = none → (⟨b, off, spot⟩ : Addr).add (k * 2 + j) = ⟨b, off + k * 2 + j, none⟩ := by
      intro k j hs; subst hs; unfold Addr.add; split <;> simp_all [Nat.add_assoc]
    refine ⟨_, len, cap, (List.range len).map fun k => (intOf ((w.cell? ⟨b, off + k * 2, none⟩).getD (.int .i64 0)), intOf ((w.cell? ⟨b, off + k * 2 + 1, none⟩).getD (.int .i64 0))), rfl, ⟨by simp, ?_, fun hpos => ?_⟩, hl, hm⟩
    · intro p hp
      obtain ⟨k, hk, rfl⟩ := List.mem_map.1 hp
      have hk := List.mem_range.1 hk
      have hs := hspot (by omega)
      obtain ⟨z, hz, wz⟩ := hcell k hk 0 (by omega)
      obtain ⟨y, hy, wy⟩ := hcell k hk 1 (by omega)
      rw [e _ _ hs] at hz hy
      rw [Nat.add_zero] at hz
      rw [hz, hy]; exact ⟨wz, wy⟩
    · have hs : spot = none := hspot hpos
      subst hs
      obtain ⟨z, hz, _⟩ := hcell 0 hpos 0 (by omega)
      refine ⟨b, off, rfl, ?_, fun k hk => ?_⟩
      · rw [e _ _ rfl] at hz; exact block_lt_of_cell hz
      · obtain ⟨z, hz, wz⟩ := hcell k hk 0 (by omega)
        obtain ⟨y, hy, wy⟩ := hcell k hk 1 (by omega)
        rw [e _ _ rfl] at hz hy
        rw [Nat.add_zero] at hz
        rw [List.getD_eq_getElem?_getD, List.getElem?_map, List.getElem?_range hk]
        simp [hz, hy, intOf]
end
/-- A slice value (address a, length n) that reads as the integers l; the cells lie below block B. -/
def ReadsZ (w : World) (B : Nat) (a : Option Addr) (n : Nat) (l : List Int) : Prop :=
  l.length = n ∧ (∀ x ∈ l, I64 x) ∧ (0 < n → ∃ b off, a = some ⟨b, off, none⟩ ∧ b < B ∧ ∀ i, i < n → w.cell? ⟨b, off + i, none⟩ = some (.int .i64 (l.getD i 0)))
theorem ReadsZ.at_ {w : World} {B : Nat} {a : Option Addr} {n : Nat} {l : List Int} (h : ReadsZ w B a n l) {i : Nat} (hi : i < n) :
    ∃ b off u, a = some ⟨b, off, none⟩ ∧ b < B ∧ w.cell? ⟨b, off + i, none⟩ = some (.int .i64 u) ∧ I64 u ∧ Hid (l.getD i 0 = u) := by
  obtain ⟨hl, hw, hc⟩ := h
  obtain ⟨b, off, rfl, hb, hc⟩ := hc (by omega)
  have : i < l.length := by omega
  have hm : l.getD i 0 ∈ l := by rw [List.getD_eq_getElem?_getD, List.getElem?_eq_getElem this]; exact List.getElem_mem this
  exact ⟨b, off, _, rfl, hb, hc i hi, hw _ hm, rfl⟩
theorem ReadsZ.keep {w w' : World} {B : Nat} {a : Option Addr} {n : Nat} {l : List Int} (h : ReadsZ w B a n l) (hb : Below B w w') : ReadsZ w' B a n l := by
  obtain ⟨hl, hw, hc⟩ := h
  refine ⟨hl, hw, fun hn => ?_⟩
  obtain ⟨b, off, rfl, hbB, hc⟩ := hc hn
  exact ⟨b, off, rfl, hbB, fun i hi => (hb.cell (p := ⟨b, off + i, none⟩) hbB).trans (hc i hi)⟩
theorem IsRow.readsZ {w : World} {a : Option Addr} {len cap : Nat} {zs : List Int} (h : IsRow .i64 w a len cap zs) : ReadsZ w w.heap.size a len (zs.take len) := by
  rcases h with ⟨rfl, rfl, rfl, rfl⟩ | ⟨x, rfl, hlc, hm, hz, hcell, hwf⟩
  · exact ⟨rfl, by simp, fun h => absurd h (by omega)⟩
  · refine ⟨by simp; omega, fun z hz1 => hwf z (List.mem_of_mem_take hz1), fun hpos => ?_⟩
    obtain ⟨b, off, spot⟩ := x
    have hc := hcell 0 (by omega)
    have hspot : spot = none := by simpa [Addr.add] using World.cell?_spot hc
    subst hspot
    refine ⟨b, off, rfl, block_lt_of_cell hc, fun i hi => ?_⟩
    have hi' : i < zs.length := by omega
    have h1 := hcell i hi'
    have e : (⟨b, off, none⟩ : Addr).add i = ⟨b, off + i, none⟩ := by unfold Addr.add; split <;> simp_all
    rw [e] at h1
    rw [h1, List.getD_eq_getElem?_getD, List.getD_eq_getElem?_getD, List.getElem?_take, if_pos hi]
end Go.Proofs.Ytoimpiimlekakaa
