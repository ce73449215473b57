/- sort.order2_func, median_func and medianAdjacent_func, where 'less' may lay blocks. -/
import Derived.Test.YtdjmjabbjjcgiaaSortKit
import Derived.IntWalk
import Derived.Sort.LotD4
namespace Go.Proofs.Ytdjmjabbjjcgiaa
open Go.ChangeShapes Go.WideShapes Go.ChangeAt Go.RowKit
open Go.Sort (swp size_swp PermIn SortedIn SWO)
open Go.Proofs (SWK SwapSwapsK sortWorldK)
open Go.Sort (HoldsK putRowK)
section
variable {g : Nat} {lb : Array Value} {sf : Nat} {sb : Array Value} {blk n : Nat} {w W : World} {d : Array (Int × Int)}

/-- Behind a call that began in W: the row is as it was (from w on), the counter's block C holds s, all else that was there stays. -/
structure Cnt (w W : World) (blk : Nat) (d : Array (Int × Int)) (C s : Nat) (w' : World) : Prop where
  sw : SWK encE 2 w blk 0 d w'
  row : Row w' C 3 [.int .i64 (s : Nat)]
  size : W.heap.size ≤ w'.heap.size
  far : ∀ b, b < W.heap.size → b ≠ C → w'.heap[b]? = W.heap[b]?
theorem Cnt.cell {w W w' : World} {blk : Nat} {d : Array (Int × Int)} {C s : Nat} (h : Cnt w W blk d C s w') {p : Addr} {v : Value} (hp : p.block < W.heap.size) (hne : p.block ≠ C) (hc : W.cell? p = some v) : w'.cell? p = some v := by
  rw [← hc]; unfold World.cell?; rw [h.far _ hp hne]
theorem Cnt.trans {w W W' w' : World} {blk : Nat} {d : Array (Int × Int)} {C s s' : Nat} (h : Cnt w W blk d C s W') (h2 : Cnt w W' blk d C s' w') : Cnt w W blk d C s' w' :=
  ⟨h2.sw, h2.row, Nat.le_trans h.size h2.size, fun b hb hne => (h2.far b (Nat.lt_of_lt_of_le hb h.size) hne).trans (h.far b hb hne)⟩
theorem Cnt.boxed {w W w' : World} {blk : Nat} {d : Array (Int × Int)} {C s : Nat} {o : Obj} (h : Cnt w (W.alloc o) blk d C s w') : Cnt w W blk d C s w' :=
  ⟨h.sw, h.row, by have := h.size; simp at this; omega, fun b hb hne => (h.far b (by simp; omega) hne).trans (Below.heap_alloc W o b hb)⟩
theorem Mid.at_ (S : Srt g lb sf sb blk n w d) (h : SWK encE 2 w blk 0 d W) : Mid g lb sf sb blk n w W.heap.size d (W.alloc (.cells #[.func (.func g) #[] lb, .func (.func sf) #[] sb] 78)) := by
  have hr : Row (W.alloc (.cells #[.func (.func g) #[] lb, .func (.func sf) #[] sb] 78)) W.heap.size 78 [.func (.func g) #[] lb, .func (.func sf) #[] sb] := heap_alloc_new _ _
  exact ⟨h.alloc _, S.size, hr.cell 0, hr.cell 1, by simp, by have := h.lt S.hblk; omega⟩
theorem row_far {w w' : World} {C : Nat} {t : TypeId} {cs : List Value} (h : Row w C t cs) (he : w'.heap[C]? = w.heap[C]?) : Row w' C t cs := he.trans h

set_option maxHeartbeats 2000000 in
set_option maxRecDepth 100000 in
theorem ord2_any (S : Srt g lb sf sb blk n w d) (a b C s : Nat) (hW : SWK encE 2 w blk 0 d W) (ha : a < n) (hb : b < n) (hC : w.heap.size ≤ C) (hR : Row W C 3 [.int .i64 (s : Nat)]) (hs : s < 4611686018427387904) :
    Calls Try.prog 70 #[.agg #[.func (.func g) #[] lb, .func (.func sf) #[] sb], .int .i64 a, .int .i64 b, .pointer (some ⟨C, 0, none⟩)] W fun e w' =>
      e = .returned (.tuple #[.int .i64 (Sort.order2 ltE d a b s).1, .int .i64 (Sort.order2 ltE d a b s).2.1]) ∧ Cnt w W blk d C (Sort.order2 ltE d a b s).2.2 w' := by
  have HS := Lib.hid S
  have eg := S.eg
  have HM := Lib.hid (Mid.at_ S hW)
  have hCl := hR.lt
  have HR := Lib.hid (hR.alloc (.cells #[.func (.func g) #[] lb, .func (.func sf) #[] sb] 78))
  have hl := HM.out.less HS.out b a hb ha
  clear hR
  go_enter Try.func70, Try.ntmps70
  cases hlv : ltE d[b]! d[a]! with
  | true =>
    rw [hlv] at hl
    have HE : Hid (Sort.order2 ltE d a b s = (b, a, s + 1)) := by unfold Hid Sort.order2; rw [hlv]; rfl
    clear hlv
    go_wp2_with (go_at_fn g; refine hl.mono ?_; rintro e w2 ⟨rfl, hm2, hz2, hf2⟩; have hr2 := row_far HR.out (hf2 C (by simp; omega)); have k0 := hr2.cell 0; have k1 := hr2.free 0)
    go_ret2
    rw [HE.out]
    refine ⟨rfl, hm2.sw.setCell_new C 0 _ hC, ?_, by simp at hz2 ⊢; omega, fun b hb hne => ?_⟩
    · exact hr2.set 0 _
    · rw [heap_setCell_other _ _ _ _ (by exact hne), hf2 b (by simp; omega)]; exact Below.heap_alloc W _ b hb
  | false =>
    rw [hlv] at hl
    have HE : Hid (Sort.order2 ltE d a b s = (a, b, s)) := by unfold Hid Sort.order2; rw [hlv]; rfl
    clear hlv
    go_wp2_with (go_at_fn g; refine hl.mono ?_; rintro e w2 ⟨rfl, hm2, hz2, hf2⟩; have hr2 := row_far HR.out (hf2 C (by simp; omega)))
    go_ret2
    rw [HE.out]
    exact ⟨rfl, hm2.sw, hr2, by simp at hz2; omega, fun b hb hne => by rw [hf2 b (by simp; omega)]; exact Below.heap_alloc W _ b hb⟩

theorem ord2_lt {a b s : Nat} (ha : a < n) (hb : b < n) : (Sort.order2 ltE d a b s).1 < n ∧ (Sort.order2 ltE d a b s).2.1 < n ∧ (Sort.order2 ltE d a b s).2.2 ≤ s + 1 := by
  unfold Sort.order2; split <;> exact ⟨by assumption, by assumption, by simp⟩

set_option maxHeartbeats 2000000 in
set_option maxRecDepth 100000 in
theorem med_any (S : Srt g lb sf sb blk n w d) (a b c C s : Nat) (hW : SWK encE 2 w blk 0 d W) (ha : a < n) (hb : b < n) (hc : c < n) (hC : w.heap.size ≤ C) (hR : Row W C 3 [.int .i64 (s : Nat)]) (hs : s + 3 < 4611686018427387904) :
    Calls Try.prog 69 #[.agg #[.func (.func g) #[] lb, .func (.func sf) #[] sb], .int .i64 a, .int .i64 b, .int .i64 c, .pointer (some ⟨C, 0, none⟩)] W fun e w' =>
      e = .returned (.int .i64 (Sort.median ltE d a b c s).1) ∧ Cnt w W blk d C (Sort.median ltE d a b c s).2 w' := by
  have HS := Lib.hid S
  have HM := Lib.hid (Mid.at_ S hW)
  have hCl := hR.lt
  have hR0 := hR.alloc (.cells #[.func (.func g) #[] lb, .func (.func sf) #[] sb] 78)
  have o1 := Lib.hid (ord2_lt (d := d) (s := s) ha hb)
  have HMED : Hid (∀ r1 r2 r3, r1 = Sort.order2 ltE d a b s → r2 = Sort.order2 ltE d r1.2.1 c r1.2.2 → r3 = Sort.order2 ltE d r1.1 r2.1 r2.2.2 → Sort.median ltE d a b c s = (r3.2.1, r3.2.2)) := by
    rintro r1 r2 r3 rfl rfl rfl; rfl
  have q1 := Lib.hid (ord2_any S a b C s HM.out.sw ha hb hC hR0 (by omega))
  have q2 : ∀ W' t x, SWK encE 2 w blk 0 d W' → x < n → Row W' C 3 [.int .i64 (t : Nat)] → t < 4611686018427387904 → _ := fun W' t x h1 h2 h3 h4 => ord2_any S x c C t h1 h2 hc hC h3 h4
  have q3 : ∀ W' t x y, SWK encE 2 w blk 0 d W' → x < n → y < n → Row W' C 3 [.int .i64 (t : Nat)] → t < 4611686018427387904 → _ := fun W' t x y h1 h2 h5 h3 h4 => ord2_any S x y C t h1 h2 h5 hC h3 h4
  have Q2 := Lib.hid q2
  have Q3 := Lib.hid q3
  have HB : Hid (W.heap.size ≠ C) := by unfold Hid; omega
  have HCL := Lib.hid hCl
  clear hR hR0 S q2 q3
  go_enter Try.func69, Try.ntmps69
  go_wp2_with fail
  refine q1.out.mono ?_; rintro e w1 ⟨rfl, hc1⟩
  have d0 := hc1.cell (p := ⟨W.heap.size, 0, none⟩) (by simp) HB.out HM.out.c0
  have d1 := hc1.cell (p := ⟨W.heap.size, 1, none⟩) (by simp) HB.out HM.out.c1
  have C1 := Lib.hid hc1
  have hz1 : W.heap.size < w1.heap.size := by have := hc1.size; simp at this; omega
  clear hc1 q1
  obtain ⟨⟨x1, y1, s1⟩, hr1⟩ : ∃ r, Sort.order2 ltE d a b s = r := ⟨_, rfl⟩
  rw [hr1] at C1 o1 ⊢
  have HR1 := Lib.hid hr1
  clear hr1
  obtain ⟨hx1, hy1, hs1⟩ := o1.out
  simp only at hx1 hy1 hs1
  have o2 := Lib.hid (ord2_lt (d := d) (s := s1) hy1 hc)
  go_wp2_with fail
  refine (Q2.out w1 s1 y1 C1.out.sw hy1 C1.out.row (by omega)).mono ?_; rintro e w2 ⟨rfl, hc2⟩
  have d0 := hc2.cell (p := ⟨W.heap.size, 0, none⟩) (by simp; omega) HB.out d0
  have d1 := hc2.cell (p := ⟨W.heap.size, 1, none⟩) (by simp; omega) HB.out d1
  have C2 := Lib.hid hc2
  have hz2 : W.heap.size < w2.heap.size := by have := hc2.size; omega
  clear hc2
  obtain ⟨⟨x2, y2, s2⟩, hr2⟩ : ∃ r, Sort.order2 ltE d y1 c s1 = r := ⟨_, rfl⟩
  rw [hr2] at C2 o2 ⊢
  have HR2 := Lib.hid hr2
  clear hr2
  obtain ⟨hx2, hy2, hs2⟩ := o2.out
  simp only at hx2 hy2 hs2
  go_wp2_with fail
  refine (Q3.out w2 s2 x1 x2 C2.out.sw hx1 hx2 C2.out.row (by omega)).mono ?_; rintro e w3 ⟨rfl, hc3⟩
  have C3 := Lib.hid ((C1.out.trans (C2.out.trans hc3)).boxed)
  clear hc3
  obtain ⟨⟨x3, y3, s3⟩, hr3⟩ : ∃ r, Sort.order2 ltE d x1 x2 s2 = r := ⟨_, rfl⟩
  have HV := Lib.hid (HMED.out (x1, y1, s1) (x2, y2, s2) (x3, y3, s3) HR1.out.symm HR2.out.symm hr3.symm)
  rw [hr3] at C3 ⊢
  clear hr3
  go_wp2
  go_ret
  rw [HV.out]
  exact ⟨rfl, C3.out⟩

set_option maxHeartbeats 2000000 in
set_option maxRecDepth 100000 in
theorem meda_any (S : Srt g lb sf sb blk n w d) (a C s : Nat) (hW : SWK encE 2 w blk 0 d W) (ha : 1 ≤ a) (ha2 : a + 1 < n) (hC : w.heap.size ≤ C) (hR : Row W C 3 [.int .i64 (s : Nat)]) (hs : s + 3 < 4611686018427387904) :
    Calls Try.prog 68 #[.agg #[.func (.func g) #[] lb, .func (.func sf) #[] sb], .int .i64 a, .pointer (some ⟨C, 0, none⟩)] W fun e w' =>
      e = .returned (.int .i64 (Sort.medianAdjacent ltE d a s).1) ∧ Cnt w W blk d C (Sort.medianAdjacent ltE d a s).2 w' := by
  have HM := Lib.hid (Mid.at_ S hW)
  have hCl := hR.lt
  have hsm := S.small
  have hm := med_any S (a - 1) a (a + 1) C s HM.out.sw (by omega) (by omega) ha2 hC (hR.alloc (.cells #[.func (.func g) #[] lb, .func (.func sf) #[] sb] 78)) hs
  rw [show ((a - 1 : Nat) : Int) = (a : Int) - 1 by omega, show ((a + 1 : Nat) : Int) = (a : Int) + 1 by omega] at hm
  have HQ := Lib.hid hm
  have HCL := Lib.hid hCl
  clear S hR hm
  go_enter Try.func68, Try.ntmps68
  go_wp2_with fail
  refine HQ.out.mono ?_; rintro e w1 ⟨rfl, hc1⟩
  have HC := Lib.hid (hc1.boxed)
  clear hc1
  go_wp2
  go_ret
  exact ⟨rfl, HC.out⟩
end
end Go.Proofs.Ytdjmjabbjjcgiaa
