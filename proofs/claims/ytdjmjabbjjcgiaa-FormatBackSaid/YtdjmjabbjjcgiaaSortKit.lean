/- SORTING BY sort.Slice WHERE 'less' TAKES STRUCTS (so it lays blocks of its own at each call): the state of a row of edges that is being sorted. The pure functions and the laws on rows are the library's. -/
import Derived.Test.YtdjmjabbjjcgiaaGraphSmall
import Derived.Shelf.SlSortCmp.KitK
import Derived.Shelf.GgSortFunc.SmallK
import Derived.Sort.AssemblyPlain
namespace Go.Proofs.Ytdjmjabbjjcgiaa
open Go.ChangeShapes Go.WideShapes Go.ChangeAt Go.RowKit
open Go.Sort (swp size_swp PermIn SortedIn SWO)
open Go.Proofs (SWK SwapSwapsK sortWorldK)
open Go.Sort (HoldsK putRowK)

/-- an edge's cells -/
def encE (x : Int × Int) : List Value := [.int .i64 x.1, .int .i64 x.2]
theorem swo_ltE : SWO ltE where
  irrefl := fun x => by rw [ltE_false]; omega
  trans := fun x y z h1 h2 => by rw [ltE_iff] at *; omega
  ntrans := fun x y z h1 h2 => by rw [ltE_false] at *; omega

/-- From world w on: the row of block blk holds d, n edges; function g, bound to lb, compares; function sf, bound to sb, exchanges. -/
structure Srt (g : Nat) (lb : Array Value) (sf : Nat) (sb : Array Value) (blk n : Nat) (w : World) (d : Array (Int × Int)) : Prop where
  holds : HoldsK encE 2 w blk 0 d
  size : d.size = n
  less : ∀ W dk, SWK encE 2 w blk 0 dk W → dk.size = n → ∀ i j : Nat, i < n → j < n →
    Calls Try.prog g (#[.int .i64 i, .int .i64 j] ++ lb) W fun e w' => e = .returned (.bool (ltE dk[i]! dk[j]!)) ∧ ∃ q os, w' = Sort.grow (W.drewN q) os
  swap : SwapSwapsK Try.prog sf sb encE 2 blk 0 n
  eg : ∀ args w, (callFunc g args).run Try.prog w = .ok (.enter g args) w
  hblk : blk < w.heap.size
  small : n < 4611686018427387904

section
variable {g : Nat} {lb : Array Value} {sf : Nat} {sb : Array Value} {blk n : Nat} {w wr W : World} {d dk dk' : Array (Int × Int)} {B : Nat}

theorem encE_len (x : Int × Int) : (encE x).length = 2 := rfl
theorem sw_on (h : SWK encE 2 w blk 0 d W) (hblk : blk < w.heap.size) (h2 : SWK encE 2 W blk 0 dk wr) (hs : dk.size = d.size) : SWK encE 2 w blk 0 dk wr := by
  obtain ⟨m, os, rfl⟩ := h2
  exact h.on hblk m dk os hs
theorem Srt.on (S : Srt g lb sf sb blk n w d) (h : SWK encE 2 w blk 0 dk W) (hs : dk.size = n) : Srt g lb sf sb blk n W dk where
  holds := h.holds S.hblk S.holds (hs.trans S.size.symm)
  size := hs
  less := fun W' dk' h' hs' => S.less W' dk' (sw_on h S.hblk h' (hs'.trans hs.symm)) hs'
  swap := S.swap
  eg := S.eg
  hblk := h.lt S.hblk
  small := S.small

/-- In the midst of a call that began in world w, whose box is block B: the row holds dk. -/
structure Mid (g : Nat) (lb : Array Value) (sf : Nat) (sb : Array Value) (blk n : Nat) (w : World) (B : Nat) (dk : Array (Int × Int)) (wr : World) : Prop where
  sw : SWK encE 2 w blk 0 dk wr
  size : dk.size = n
  c0 : wr.cell? ⟨B, 0, none⟩ = some (.func (.func g) #[] lb)
  c1 : wr.cell? ⟨B, 1, none⟩ = some (.func (.func sf) #[] sb)
  hB : B < wr.heap.size
  ne : B ≠ blk

theorem Mid.start (S : Srt g lb sf sb blk n w d) : Mid g lb sf sb blk n w w.heap.size d (w.alloc (.cells #[.func (.func g) #[] lb, .func (.func sf) #[] sb] 78)) := by
  have h : Row (w.alloc (.cells #[.func (.func g) #[] lb, .func (.func sf) #[] sb] 78)) w.heap.size 78 [.func (.func g) #[] lb, .func (.func sf) #[] sb] := heap_alloc_new _ _
  exact ⟨(SWK.start S.holds).alloc _, S.size, h.cell 0, h.cell 1, by simp, by have := S.hblk; omega⟩
theorem Mid.srt (S : Srt g lb sf sb blk n w d) (h : Mid g lb sf sb blk n w B dk wr) : Srt g lb sf sb blk n wr dk := S.on h.sw h.size
theorem cell_sw {p : Addr} {v : Value} (h : SWK encE 2 w blk 0 dk wr) (hp : p.block < w.heap.size) (hne : p.block ≠ blk) (hc : w.cell? p = some v) : wr.cell? p = some v := by
  obtain ⟨m, os, rfl⟩ := h
  unfold sortWorldK
  rw [Sort.cell?_grow _ _ _ (by rw [Sort.size_putRowK]; exact hp), Sort.cell?_putRowK_other _ _ _ _ _ _ _ hne]
  exact hc
theorem frozen_sw {p : Addr} (h : SWK encE 2 w blk 0 dk wr) (hp : p.block < w.heap.size) (hne : p.block ≠ blk) : wr.heap[p.block]? = w.heap[p.block]? := by
  obtain ⟨m, os, rfl⟩ := h
  unfold sortWorldK Sort.grow Sort.putRowK Sort.putRow Sort.mapBlock Sort.ahead
  simp only [Array.getElem?_append, Array.size_modify, if_pos hp]
  rw [Array.getElem?_modify, if_neg (by omega)]
/-- Behind a callee that began in wr. -/
theorem Mid.call (S : Srt g lb sf sb blk n w d) (h : Mid g lb sf sb blk n w B dk wr) (h2 : SWK encE 2 wr blk 0 dk' W) (hs : dk'.size = n) : Mid g lb sf sb blk n w B dk' W :=
  ⟨sw_on h.sw S.hblk h2 (hs.trans h.size.symm), hs, cell_sw h2 h.hB h.ne h.c0, cell_sw h2 h.hB h.ne h.c1, Nat.lt_of_lt_of_le h.hB h2.le, h.ne⟩
/-- 'less(i, j)'. -/
theorem Mid.less (S : Srt g lb sf sb blk n w d) (h : Mid g lb sf sb blk n w B dk wr) (i j : Nat) (hi : i < n) (hj : j < n) :
    Calls Try.prog g (#[.int .i64 i, .int .i64 j] ++ lb) wr fun e w' => e = .returned (.bool (ltE dk[i]! dk[j]!)) ∧ Mid g lb sf sb blk n w B dk w' ∧ wr.heap.size ≤ w'.heap.size ∧ ∀ b, b < wr.heap.size → w'.heap[b]? = wr.heap[b]? :=
  (S.less wr dk h.sw h.size i j hi hj).mono fun e w' ⟨he, q, os, hw⟩ => by
    subst hw
    refine ⟨he, h.call S ((SWK.start (h.sw.holds S.hblk S.holds (h.size.trans S.size.symm))).grown q os) h.size, by rw [Sort.size_grow]; show wr.heap.size ≤ wr.heap.size + _; omega, fun b hb => ?_⟩
    show (wr.heap ++ os)[b]? = _
    rw [Array.getElem?_append_left hb]
/-- 'swap(i, j)'. -/
theorem Mid.swap (S : Srt g lb sf sb blk n w d) (h : Mid g lb sf sb blk n w B dk wr) (i j : Nat) (hi : i < n) (hj : j < n) :
    ∃ W, (callFunc sf (#[.int .i64 i, .int .i64 j] ++ sb)).run Try.prog wr = .ok (.value (.tuple #[])) W ∧ Mid g lb sf sb blk n w B (swp dk i j) W ∧ W.heap.size = wr.heap.size ∧ ∀ b, b ≠ blk → W.heap[b]? = wr.heap[b]? := by
  have hh := h.sw.holds S.hblk S.holds (h.size.trans S.size.symm)
  have hi' : i < dk.size := by rw [h.size]; exact hi
  have hj' : j < dk.size := by rw [h.size]; exact hj
  have hb : blk < wr.heap.size := h.sw.lt S.hblk
  have hsw : SWK encE 2 wr blk 0 (swp dk i j) ((wr.setCells blk (0 + i * 2) (encE dk[j]!)).setCells blk (0 + j * 2) (encE dk[i]!)) := (SWK.start hh).swap encE_len hb i j hi' hj'
  refine ⟨_, S.swap wr dk hh h.size i j hi hj, h.call S hsw (by rw [size_swp]; exact h.size), by simp, fun b hbn => ?_⟩
  unfold encE
  simp only [World.setCells]
  rw [heap_setCell_other _ _ _ _ (by exact hbn), heap_setCell_other _ _ _ _ (by exact hbn), heap_setCell_other _ _ _ _ (by exact hbn), heap_setCell_other _ _ _ _ (by exact hbn)]
end
end Go.Proofs.Ytdjmjabbjjcgiaa
