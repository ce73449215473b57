/- Parameters of the laws: a struct of integers by value, a tuple by value, a slice of tuples. -/
import Derived.Test.YtoimpiimlekakaaFileTup
import Derived.Test.YtoimpiimlekakaaPairs
namespace Go.Proofs.Ytoimpiimlekakaa
open Go.ChangeShapes Go.WideShapes Go.ChangeAt Go.RowKit

section
variable {H : Type} {enc : TypeId × Value → H} {P : Program} {w : World} {base b0 : Nat} {spare : Nat → Bool} {held : Bool} {r : Reach}
open Go.Joins Go.Deep
theorem open_tup {t e : TypeId} {v : Value} {d : DataW H} {p : List MemPlace} (ht : P.underlying t = some (.array 5 e)) (he : P.underlying e = some (.int .i64)) (hce : P.cellsOf e = 1) (hct : P.cellsOf t = 5)
    (hv : Value.okWide P w r b0 t v) (h : DataW.Trod enc P w base spare held t v d p) :
    ∃ t : Tup, v = .agg #[.int .i64 t.a, .int .i64 t.b, .int .i64 t.c, .int .i64 t.d, .int .i64 t.e] ∧ TupOk t := by
  obtain ⟨zs, hl, rfl, hw⟩ := open_arr ht he hce hct hv h
  match zs, hl, hw with
  | [x, y, z, u, q], _, hw => exact ⟨⟨x, y, z, u, q⟩, rfl, fun k hk => hw k hk⟩
/-- a struct of one-cell fields, all integers, by value -/
theorem open_ints_struct {t i : TypeId} {fs : Array Field} {v : Value} {d : DataW H} {p : List MemPlace} (ht : P.underlying t = some (.struct fs)) (hone : oneCellFields P fs = true) (hC : P.cellsOf t = fs.size) (hi : P.underlying i = some (.int .i64)) (hall : ∀ (j : Nat) (f : Field), fs[j]? = some f → f.type = i)
    (hv : Value.okWide P w r b0 t v) (h : DataW.Trod enc P w base spare held t v d p) :
    ∃ zs : List Int, zs.length = fs.size ∧ v = .agg (zs.map (Value.int .i64)).toArray ∧ ∀ z ∈ zs, I64 z := by
  have h0 : ∃ cs, v = .agg cs ∧ cs.size = P.cellsOf t := by
    simp only [Value.okWide, ht] at hv
    obtain ⟨cs, h1, h2, _⟩ := hv
    exact ⟨cs, h1, h2⟩
  obtain ⟨cs, rfl, hsz⟩ := h0
  obtain ⟨fuel, hf⟩ := h
  have hcells : (Value.agg cs).cells.toList = cs.toList := by simp [Value.cells]
  rw [hcells] at hf
  obtain ⟨ys, n', hn', hy, hlen, hyl, hff⟩ := DataW.trod_struct ht hf
  have hall2 : ∀ j, j < fs.size → ∃ z, cs[j]? = some (.int .i64 z) ∧ I64 z := by
    intro j hj
    have hjf : fs[j]? = some fs[j] := Array.getElem?_eq_getElem hj
    obtain ⟨ho, hk⟩ := hone_of hone j _ hjf
    have h1 := hff j _ hjf
    rw [ho, hk] at h1
    have hjl : j < cs.toList.length := by simp; omega
    have hone' : (cs.toList.drop j).take 1 = [cs.toList[j]'hjl] := by
      rw [List.drop_eq_getElem_cons hjl]; rfl
    rw [hone'] at h1
    have hys : ys[j]? = some (ys[j]'(by omega)) := List.getElem?_eq_getElem (by omega)
    rw [hall j _ hjf] at h1
    obtain ⟨z, hz, _, hw⟩ := DataW.trod_int hi (h1.trans hys)
    injection hz with hz
    exact ⟨z, by rw [← Array.getElem?_toList, List.getElem?_eq_getElem hjl, hz], hw⟩
  have hall3 : ∀ c ∈ cs.toList, c = .int .i64 (intOf c) ∧ I64 (intOf c) := by
    intro c hc
    obtain ⟨j, hj, rfl⟩ := List.getElem_of_mem hc
    obtain ⟨z, hz, hw⟩ := hall2 j (by simp at hj; omega)
    rw [← Array.getElem?_toList, List.getElem?_eq_getElem hj] at hz
    injection hz with hz
    rw [hz]; exact ⟨rfl, hw⟩
  refine ⟨cs.toList.map intOf, by rw [List.length_map]; simp; omega, ?_, ?_⟩
  · congr 1
    apply Array.ext'
    rw [List.map_map]
    have e1 : ∀ l : List Value, (∀ c ∈ l, c = .int .i64 (intOf c) ∧ I64 (intOf c)) → l = l.map (Value.int .i64 ∘ intOf) := by
      intro l
      induction l with
      | nil => intro _; rfl
      | cons c l ih => intro h; rw [List.map_cons, ← ih fun x hx => h x (by simp [hx])]; congr 1; exact (h c (by simp)).1
    exact e1 _ hall3
  · intro z hz
    obtain ⟨c, hc, rfl⟩ := List.mem_map.1 hz
    exact (hall3 c hc).2
theorem open_struct3 {t i : TypeId} {f0 f1 f2 : Field} {v : Value} {d : DataW H} {p : List MemPlace} (ht : P.underlying t = some (.struct #[f0, f1, f2])) (hone : oneCellFields P #[f0, f1, f2] = true) (hC : P.cellsOf t = 3) (hi : P.underlying i = some (.int .i64)) (h0 : f0.type = i) (h1 : f1.type = i) (h2 : f2.type = i)
    (hv : Value.okWide P w r b0 t v) (h : DataW.Trod enc P w base spare held t v d p) :
    ∃ x y z : Int, v = .agg #[.int .i64 x, .int .i64 y, .int .i64 z] ∧ I64 x ∧ I64 y ∧ I64 z := by
  obtain ⟨zs, hl, rfl, hw⟩ := open_ints_struct ht hone hC hi (fun j f hj => by
    match j, hj with
    | 0, hj => simp at hj; rw [← hj]; exact h0
    | 1, hj => simp at hj; rw [← hj]; exact h1
    | 2, hj => simp at hj; rw [← hj]; exact h2
    | j + 3, hj => simp at hj) hv h
  match zs, hl, hw with
  | [x, y, z], _, hw => exact ⟨x, y, z, rfl, hw x (by simp), hw y (by simp), hw z (by simp)⟩
theorem open_struct4 {t i : TypeId} {f0 f1 f2 f3 : Field} {v : Value} {d : DataW H} {p : List MemPlace} (ht : P.underlying t = some (.struct #[f0, f1, f2, f3])) (hone : oneCellFields P #[f0, f1, f2, f3] = true) (hC : P.cellsOf t = 4) (hi : P.underlying i = some (.int .i64)) (h0 : f0.type = i) (h1 : f1.type = i) (h2 : f2.type = i) (h3 : f3.type = i)
    (hv : Value.okWide P w r b0 t v) (h : DataW.Trod enc P w base spare held t v d p) :
    ∃ x y z u : Int, v = .agg #[.int .i64 x, .int .i64 y, .int .i64 z, .int .i64 u] ∧ I64 x ∧ I64 y ∧ I64 z ∧ I64 u := by
  obtain ⟨zs, hl, rfl, hw⟩ := open_ints_struct ht hone hC hi (fun j f hj => by
    match j, hj with
    | 0, hj => simp at hj; rw [← hj]; exact h0
    | 1, hj => simp at hj; rw [← hj]; exact h1
    | 2, hj => simp at hj; rw [← hj]; exact h2
    | 3, hj => simp at hj; rw [← hj]; exact h3
    | j + 4, hj => simp at hj) hv h
  match zs, hl, hw with
  | [x, y, z, u], _, hw => exact ⟨x, y, z, u, rfl, hw x (by simp), hw y (by simp), hw z (by simp), hw u (by simp)⟩
/-- a tuple's cells that came in -/
theorem tup_cells {t e : TypeId} {fuel : Nat} {cs : List Value} {x : DataW H × List MemPlace} (ht : P.underlying t = some (.array 5 e)) (he : P.underlying e = some (.int .i64)) (hce : P.cellsOf e = 1) (hct : P.cellsOf t = 5) (h : DataW.trod enc P w base spare held fuel t cs = some x) : ∃ u : Tup, cs = tupC u ∧ TupOk u := by
  obtain ⟨xs, m, _, _, hl, hxl, hx⟩ := DataW.trod_array ht h
  rw [hct] at hl
  have hcell : ∀ i, i < 5 → ∃ z, cs[i]? = some (.int .i64 z) ∧ I64 z := by
    intro i hi
    have h1 := hx i hi
    rw [hce, Nat.mul_one] at h1
    rw [List.drop_eq_getElem_cons (by omega), List.take_succ_cons, List.take_zero] at h1
    rw [List.getElem?_eq_getElem (show i < xs.length by omega)] at h1
    obtain ⟨z, hz, _, hw⟩ := DataW.trod_int he h1
    injection hz with hz
    exact ⟨z, by rw [List.getElem?_eq_getElem (by omega), hz], hw⟩
  clear hx h
  match cs, hl, hcell with
  | [c0, c1, c2, c3, c4], _, hcell =>
    obtain ⟨z0, e0, w0⟩ := hcell 0 (by omega)
    obtain ⟨z1, e1, w1⟩ := hcell 1 (by omega)
    obtain ⟨z2, e2, w2⟩ := hcell 2 (by omega)
    obtain ⟨z3, e3, w3⟩ := hcell 3 (by omega)
    obtain ⟨z4, e4, w4⟩ := hcell 4 (by omega)
    have e0' : some c0 = some (Value.int .i64 z0) := e0
    injection e0' with e0'
    subst e0'
    have e1' : some c1 = some (Value.int .i64 z1) := e1
    injection e1' with e1'
    subst e1'
    have e2' : some c2 = some (Value.int .i64 z2) := e2
    injection e2' with e2'
    subst e2'
    have e3' : some c3 = some (Value.int .i64 z3) := e3
    injection e3' with e3'
    subst e3'
    have e4' : some c4 = some (Value.int .i64 z4) := e4
    injection e4' with e4'
    subst e4'
    refine ⟨⟨z0, z1, z2, z3, z4⟩, rfl, fun z hz => ?_⟩
    simp [Tup.cols] at hz
    rcases hz with rfl | rfl | rfl | rfl | rfl <;> assumption
/-- A slice of tuples that came in. -/
theorem open_tups {t e i : TypeId} {fuel : Nat} {v : Value} {x : DataW H × List MemPlace} (ht : P.underlying t = some (.slice e)) (he : P.underlying e = some (.array 5 i)) (hi : P.underlying i = some (.int .i64)) (hce : P.cellsOf i = 1) (hC : P.cellsOf e = 5)
    (h : DataW.trod enc P w base spare held fuel t [v] = some x) : ∃ a len cap l, v = .slice a len cap ∧ ReadsT w w.heap.size a len l ∧ len ≤ maxLen := by
  rcases open_slice ht h with h0 | ⟨a, len, cap, m, n, D, Pl, hcs, hb, hl, hm, hmm, hx, hit⟩
  · have h2 := h0.1
    injection h2 with h2; subst h2
    exact ⟨none, 0, 0, [], rfl, ReadsT.nil _ _ _, Nat.zero_le _⟩
  · injection hcs with hcs; subst hcs
    have hlm : len ≤ m := by split at hmm <;> omega
    have hex : ∀ k, k < len → ∃ o : Tup, TupOk o ∧ ∀ (j : Nat) (u : Value), (tupC o)[j]? = some u → w.cell? (a.add (k * 5 + j)) = some u := by
      intro k hk
      obtain ⟨cs', hc, ht'⟩ := hit k (by omega)
      rw [hC] at hc
      obtain ⟨o, rfl, ho⟩ := tup_cells he hi hce hC ht'
      obtain ⟨_, hcl, hat⟩ := World.cells?_some hc
      refine ⟨o, ho, fun j u hj => ?_⟩
      have hj5 : j < 5 := (List.getElem?_eq_some_iff.1 hj).1
      rw [← Go.Deep.add_add, hat j hj5, hj]
    obtain ⟨f, hf⟩ : ∃ f : Nat → Tup, ∀ k, k < len → TupOk (f k) ∧ ∀ (j : Nat) (u : Value), (tupC (f k))[j]? = some u → w.cell? (a.add (k * 5 + j)) = some u := by
      have : ∀ k, ∃ o : Tup, k < len → TupOk o ∧ ∀ (j : Nat) (u : Value), (tupC o)[j]? = some u → w.cell? (a.add (k * 5 + j)) = some u := fun k => by
        by_cases hk : k < len
        · obtain ⟨o, ho⟩ := hex k hk; exact ⟨o, fun _ => ho⟩
        · exact ⟨tup0, fun h => absurd h hk⟩
      exact ⟨fun k => (this k).choose, fun k => (this k).choose_spec⟩
    have hspot : 0 < len → a.spot = none := fun hp => by
      have := (hf 0 hp).2 0 _ rfl
      simpa [Addr.add] using World.cell?_spot this
    obtain ⟨b, off, spot⟩ := a
    have e : ∀ k j, spot = none → (⟨b, off, spot⟩ : Addr).add (k * 5 + j) = ⟨b, off + k * 5 + j, none⟩ := by
      intro k j hs; subst hs; unfold Addr.add; split <;> simp_all [Nat.add_assoc]
    refine ⟨_, len, cap, (List.range len).map f, rfl, ⟨by simp, ?_, fun hpos => ?_⟩, by omega⟩
    · intro o ho
      obtain ⟨k, hk, rfl⟩ := List.mem_map.1 ho
      exact (hf k (List.mem_range.1 hk)).1
    · have hs : spot = none := hspot hpos
      subst hs
      refine ⟨b, off, rfl, ?_, fun k hkl j u hj => ?_⟩
      · have := (hf 0 hpos).2 0 _ rfl; rw [e _ _ rfl] at this; exact block_lt_of_cell this
      · have hD : ((List.range len).map f).getD k tup0 = f k := by
          rw [List.getD_eq_getElem?_getD, List.getElem?_map, List.getElem?_range hkl]; rfl
        rw [hD] at hj
        have := (hf k hkl).2 j u hj
        rw [e _ _ rfl] at this; exact this
end
end Go.Proofs.Ytoimpiimlekakaa
