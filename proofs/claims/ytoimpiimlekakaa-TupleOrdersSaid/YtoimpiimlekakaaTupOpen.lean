/- Parameters of layer 11's laws: three tuples by value. -/
import Derived.Test.YtoimpiimlekakaaFileOpen
namespace Go.Proofs.Ytoimpiimlekakaa
open Go.ChangeShapes Go.WideShapes Go.ChangeAt Go.RowKit

section
variable {H : Type} {enc : TypeId × Value → H} {P : Program} {w : World} {base b0 : Nat} {spare : Nat → Bool} {held : Bool} {r : Reach}
open Go.Joins Go.Deep
theorem open_tup3 {t e i : TypeId} {v : Value} {d : DataW H} {p : List MemPlace} (ht : P.underlying t = some (.array 3 e)) (he : P.underlying e = some (.array 5 i)) (hi : P.underlying i = some (.int .i64)) (hci : P.cellsOf i = 1) (hce : P.cellsOf e = 5) (hct : P.cellsOf t = 15)
    (hv : Value.okWide P w r b0 t v) (h : DataW.Trod enc P w base spare held t v d p) :
    ∃ a b c : Tup, v = .agg #[.int .i64 a.a, .int .i64 a.b, .int .i64 a.c, .int .i64 a.d, .int .i64 a.e, .int .i64 b.a, .int .i64 b.b, .int .i64 b.c, .int .i64 b.d, .int .i64 b.e, .int .i64 c.a, .int .i64 c.b, .int .i64 c.c, .int .i64 c.d, .int .i64 c.e] ∧ TupOk a ∧ TupOk b ∧ TupOk c := by
  have h0 : ∃ cs, v = .agg cs ∧ cs.size = P.cellsOf t := by
    simp only [Value.okWide, ht] at hv
    obtain ⟨cs, h1, h2, _⟩ := hv
    exact ⟨cs, h1, h2⟩
  obtain ⟨cs, rfl, hsz⟩ := h0
  obtain ⟨fuel, hf⟩ := h
  obtain ⟨xs, m, _, _, hl, hxl, hx⟩ := DataW.trod_array ht hf
  have hcells : (Value.agg cs).cells.toList = cs.toList := by simp [Value.cells]
  rw [hcells] at hx hl
  rw [hct] at hl
  have key : ∀ k, k < 3 → ∃ u : Tup, (cs.toList.drop (k * 5)).take 5 = tupC u ∧ TupOk u := by
    intro k hk
    have h1 := hx k hk
    rw [hce, List.getElem?_eq_getElem (by omega)] at h1
    exact tup_cells he hi hci hce h1
  obtain ⟨a, ea, oa⟩ := key 0 (by omega)
  obtain ⟨b, eb, ob⟩ := key 1 (by omega)
  obtain ⟨c, ec, oc⟩ := key 2 (by omega)
  refine ⟨a, b, c, ?_, oa, ob, oc⟩
  congr 1
  apply Array.ext'
  have hd : cs.toList = (cs.toList.drop (0 * 5)).take 5 ++ ((cs.toList.drop (1 * 5)).take 5 ++ (cs.toList.drop (2 * 5)).take 5) := by
    match hh : cs.toList, hl with
    | [c0, c1, c2, c3, c4, c5, c6, c7, c8, c9, c10, c11, c12, c13, c14], _ => rfl
  rw [hd, ea, eb, ec]; rfl
end
end Go.Proofs.Ytoimpiimlekakaa
