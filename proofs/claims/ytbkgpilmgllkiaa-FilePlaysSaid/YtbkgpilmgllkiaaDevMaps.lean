/- What slices.Clone of words, maps.Clone and maps.Copy of maps of integers answer. -/
import Derived.Test.YtbkgpilmgllkiaaDevSmall
import Derived.Shelf.SlMaps.Clone
import Derived.Lib.SliceRun
namespace Go.Proofs.Ytbkgpilmgllkiaa
open Go.ChangeShapes Go.WideShapes Go.ChangeAt Go.RowKit Go.Maps

theorem infoU : (Try.prog.info? 69).map (fun i => (i.zero, i.size, i.bytes)) = some (some (.int .u64 0), 1, 8) := by kernel_rfl

theorem ownsRow_made (w : World) (e : TypeId) : (w.alloc (.cells #[] e)).ownsRow w.heap.size e 1 (.slice (some ⟨w.heap.size, 0, none⟩) 0 0) 0 [] :=
  ⟨rfl, .inr ⟨w.heap.size, 0, #[], rfl, Nat.le_refl _, heap_alloc_new _ _, Nat.le_refl _, Nat.zero_le _, rfl, rfl⟩⟩
/-- what a call made for itself of words -/
theorem own_words {w : World} {base : Nat} {v : Value} {n : Nat} {l : List Nat} (h : w.ownsRow base 69 1 v n (l.map fun x : Nat => Value.int .u64 x)) (hl : l.length = n) (hp : 0 < n) (hw : ∀ x ∈ l, (Lit.int .u64 (x : Nat)).wf = true) : Words w (fun k => base ≤ k) v l := by
  subst hl
  obtain ⟨g, cap, cs, rfl, hg, hr, hc, hm, _, ht⟩ := own_row h hp
  exact ⟨g, cap, cs, rfl, hr, hg, hc, hm, hp, hw, ht⟩

theorem sclone_any (A : Option Addr) (n c : Nat) (l : List Nat) (w : World) {B : Nat} (hl : Reads .u64 w B A n l) (hn : 0 < n) (hn2 : n ≤ 1000000) (hB : B ≤ w.heap.size) :
    Calls Try.prog 46 #[.slice A n c] w fun e w' => ∃ v, e = .returned v ∧ Words w' (fun k => w.heap.size ≤ k) v l ∧ Below w.heap.size w w' := by
  obtain ⟨i0, hi, hz0, hz1, hz2⟩ := info_parts infoU
  obtain ⟨hl0, hl1, hl2⟩ := id hl
  obtain ⟨b, off, rfl, hbB, _⟩ := hl2 hn
  have HL := Lib.hid hl
  have HL0 := Lib.hid hl0
  have HL1 := Lib.hid hl1
  clear hl hl0 hl1 hl2
  have hq := fun w => Go.Lib.run_eql_slice_nil (P := Try.prog) w 71 69 (some ⟨b, off, none⟩) n c 0 0 Try.underlying71
  go_enter Try.func46, Try.ntmps46
  go_wp2_with (with_reducible refine stopAt 7 ?_)
  unfold Hid
  refine wpList_append_list _ rfl _ _ 71 rfl w.heap.size 69 i0 (.int .u64 0) 8 Try.underlying71 hi hz0 hz1 hz2 rfl _ 0 [] rfl (ownsRow_made w 69) (some ⟨b, off, none⟩) n c (l.map fun x : Nat => Value.int .u64 x) rfl (by rw [List.length_map]; exact HL0.out) (HL.out.keep ((Below.refl _ w).alloc (by omega) _ : Below B w _)).source cells_int (by omega) (by omega) (by simp) ?_
  intro v' w' hown hb
  rw [Nat.zero_add, List.nil_append] at hown
  have HO := Lib.hid hown
  have HB := Lib.hid (((Below.refl w.heap.size w).alloc (Nat.le_refl _) _).trans hb)
  clear hown hb
  go_wp2
  go_ret
  exact ⟨v', rfl, own_words HO.out HL0.out hn HL1.out, HB.out⟩

end Go.Proofs.Ytbkgpilmgllkiaa
