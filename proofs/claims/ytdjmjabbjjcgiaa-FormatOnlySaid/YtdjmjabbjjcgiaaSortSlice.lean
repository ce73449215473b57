/- sort.Slice of edges, by graph.Order's closure: the row holds a permutation, in order. -/
import Derived.Test.YtdjmjabbjjcgiaaSortPdq
namespace Go.Proofs.Ytdjmjabbjjcgiaa
open Go.ChangeShapes Go.WideShapes Go.ChangeAt Go.RowKit
open Go.Sort (swp size_swp PermIn SortedIn SWO)
open Go.Proofs (SWK SwapSwapsK sortWorldK)
open Go.Sort (HoldsK putRowK)

/-- all is as it was, but for block g; blocks may have been laid -/
structure But (g : Nat) (w w' : World) : Prop where
  os : w'.os = w.os
  tape : w'.tape = w.tape
  output : w'.output = w.output
  size : w.heap.size ≤ w'.heap.size
  block : ∀ b, b < w.heap.size → b ≠ g → w'.heap[b]? = w.heap[b]?
theorem But.below {g B : Nat} {a w w' : World} (h : But g w w') (hb : Below B a w) (hg : B ≤ g) (hB : B ≤ w.heap.size) : Below B a w' :=
  hb.trans ⟨h.os, h.tape, h.output, h.size, fun k hk => h.block k (by omega) (by omega)⟩
theorem But.of_below {g : Nat} {w w' : World} (h : Below w.heap.size w w') : But g w w' := ⟨h.os, h.tape, h.output, h.size, fun b hb _ => h.block b hb⟩
theorem But.cell {g : Nat} {w w' : World} (h : But g w w') {p : Addr} {v : Value} (hp : p.block < w.heap.size) (hne : p.block ≠ g) (hc : w.cell? p = some v) : w'.cell? p = some v := by
  rw [← hc]; unfold World.cell?; rw [h.block _ hp hne]
theorem But.row {g : Nat} {w w' : World} (h : But g w w') {b : Nat} {t : TypeId} {cs : List Value} (hne : b ≠ g) (hr : Row w b t cs) : Row w' b t cs := (h.block b hr.lt hne).trans hr
theorem But.of_sw {blk : Nat} {w w' : World} {d : Array (Int × Int)} (h : SWK encE 2 w blk 0 d w') : But blk w w' := by
  refine ⟨?_, ?_, ?_, h.le, fun b hb hne => frozen_sw (p := ⟨b, 0, none⟩) h hb hne⟩ <;>
  · obtain ⟨m, os, rfl⟩ := h
    rfl

def flatE (l : List (Int × Int)) : List Value := l.flatMap encE
theorem flatE_length (l : List (Int × Int)) : (flatE l).length = l.length * 2 := by
  induction l with
  | nil => rfl
  | cons x l ih => simp only [flatE, List.flatMap_cons, List.length_append] at *; rw [ih]; simp [encE]; omega
theorem flatE_get (l : List (Int × Int)) : ∀ (i : Nat), i < l.length → (flatE l)[i * 2]? = some (.int .i64 (l.getD i (0, 0)).1) ∧ (flatE l)[i * 2 + 1]? = some (.int .i64 (l.getD i (0, 0)).2) := by
  induction l with
  | nil => intro i hi; simp at hi
  | cons x l ih =>
    intro i hi
    cases i with
    | zero => exact ⟨rfl, rfl⟩
    | succ i =>
      have h := ih i (by simpa using hi)
      have e1 : (i + 1) * 2 = i * 2 + 2 := by omega
      rw [e1]
      exact ⟨h.1, h.2⟩
theorem flatE_set (l : List (Int × Int)) : ∀ (i : Nat) (e : Int × Int), flatE (l.set i e) = ((flatE l).set (i * 2) (.int .i64 e.1)).set (i * 2 + 1) (.int .i64 e.2) := by
  induction l with
  | nil => intro i e; simp [flatE]
  | cons x l ih =>
    intro i e
    cases i with
    | zero => rfl
    | succ i =>
      have h := ih i e
      have e1 : (i + 1) * 2 = i * 2 + 2 := by omega
      rw [e1, List.set_cons_succ]
      show encE x ++ flatE (l.set i e) = _
      rw [h]
      rfl
theorem flatE_zero (n : Nat) : flatE (List.replicate n (0, 0)) = List.replicate (n * 2) (.int .i64 0) := by
  induction n with
  | zero => rfl
  | succ n ih =>
    rw [List.replicate_succ, show (n + 1) * 2 = n * 2 + 1 + 1 by omega, List.replicate_succ, List.replicate_succ]
    show encE (0, 0) ++ flatE (List.replicate n (0, 0)) = _
    rw [ih]; rfl
theorem holds_of_row {w : World} {g : Nat} {l : List (Int × Int)} (h : Row w g 43 (flatE l)) : HoldsK encE 2 w g 0 l.toArray := by
  intro j hj
  rw [Sort.size_flatK] at hj
  have hj' : j < l.length * 2 := by simpa using hj
  rw [Sort.get_flatK _ _ _ _ hj, Nat.zero_add]
  refine ⟨?_, h.free j⟩
  rw [h.cell]
  have hi : j / 2 < l.length := by omega
  have hg := flatE_get l (j / 2) hi
  have e : l.toArray[j / 2]! = l.getD (j / 2) (0, 0) := by
    rw [getElem!_pos l.toArray (j / 2) (by simpa using hi), List.getD_eq_getElem?_getD, List.getElem?_eq_getElem hi]; rfl
  rw [e]
  rcases Nat.mod_two_eq_zero_or_one j with h2 | h2
  · have : j / 2 * 2 = j := by omega
    rw [this] at hg; rw [hg.1, h2]; rfl
  · have : j / 2 * 2 + 1 = j := by omega
    rw [this] at hg; rw [hg.2, h2]; rfl
theorem reads_of_holds {w : World} {g n : Nat} {d : Array (Int × Int)} (h : HoldsK encE 2 w g 0 d) (hn : d.size = n) (hw : ∀ x ∈ d.toList, I64 x.1 ∧ I64 x.2) (hg : g < w.heap.size) : ReadsE w w.heap.size (some ⟨g, 0, none⟩) n d.toList := by
  refine ⟨by simpa using hn, hw, fun _ => ⟨g, 0, rfl, hg, fun i hi => ?_⟩⟩
  have h0 := (Sort.HoldsK.cell h (i := i) (c := 0) (by omega) (by omega)).1
  have h1 := (Sort.HoldsK.cell h (i := i) (c := 1) (by omega) (by omega)).1
  have e : d[i]! = d.toList.getD i (0, 0) := by
    rw [getElem!_pos d i (by omega), List.getD_eq_getElem?_getD, List.getElem?_eq_getElem (by simpa using (by omega : i < d.size))]; rfl
  rw [e] at h0 h1
  exact ⟨h0, h1⟩

set_option maxRecDepth 100000 in
theorem ahead_grow (a b c d : Int) (w : World) : Calls Try.prog 31 #[.agg #[.int .i64 a, .int .i64 b], .agg #[.int .i64 c, .int .i64 d]] w fun e w' => e = .returned (.bool (ltE (a, b) (c, d))) ∧ (∃ os, w' = Sort.grow w os) ∧ Below w.heap.size w w' := by
  have two : ∀ o o', ∃ os, (w.alloc o).alloc o' = Sort.grow w os := fun o o' => ⟨#[o] ++ #[o'], by rw [Sort.alloc_eq_grow, Sort.alloc_eq_grow, Sort.grow_grow]⟩
  have TWO := Lib.hid two
  clear two
  go_enter Try.func31, Try.ntmps31
  go_wp2
  · go_ret
    have h : a ≠ c := bne_t (by assumption)
    exact ⟨ret_bool (by unfold ltE; rw [Bool.eq_iff_iff]; simp only [decide_eq_true_eq]; omega), TWO.out _ _, two_new _ _ _⟩
  · go_ret
    have h : a = c := bne_f (by assumption)
    exact ⟨ret_bool (by unfold ltE; rw [Bool.eq_iff_iff]; simp only [decide_eq_true_eq]; omega), TWO.out _ _, two_new _ _ _⟩

set_option maxHeartbeats 2000000 in
set_option maxRecDepth 100000 in
theorem clos_any (blk c Bs n : Nat) (W : World) (dk : Array (Int × Int)) (hs : W.cell? ⟨Bs, 0, none⟩ = some (.slice (some ⟨blk, 0, none⟩) n c)) (hH : HoldsK encE 2 W blk 0 dk) (hn : dk.size = n) (i j : Nat) (hi : i < n) (hj : j < n) :
    Calls Try.prog 30 #[.int .i64 i, .int .i64 j, .pointer (some ⟨Bs, 0, none⟩)] W fun e w' => e = .returned (.bool (ltE dk[i]! dk[j]!)) ∧ ∃ q os, w' = Sort.grow (W.drewN q) os := by
  have h1 := (Sort.HoldsK.cell hH (i := i) (c := 0) (by omega) (by omega)).1
  have h2 := (Sort.HoldsK.cell hH (i := i) (c := 1) (by omega) (by omega)).1
  have h3 := (Sort.HoldsK.cell hH (i := j) (c := 0) (by omega) (by omega)).1
  have h4 := (Sort.HoldsK.cell hH (i := j) (c := 1) (by omega) (by omega)).1
  rw [show 0 + i * 2 + 0 = i * 2 by omega] at h1
  rw [show 0 + i * 2 + 1 = i * 2 + 1 by omega] at h2
  rw [show 0 + j * 2 + 0 = j * 2 by omega] at h3
  rw [show 0 + j * 2 + 1 = j * 2 + 1 by omega] at h4
  obtain ⟨⟨u, v⟩, hx⟩ : ∃ x, dk[i]! = x := ⟨_, rfl⟩
  obtain ⟨⟨x, y⟩, hy⟩ : ∃ x, dk[j]! = x := ⟨_, rfl⟩
  rw [hx] at h1 h2 ⊢
  rw [hy] at h3 h4 ⊢
  have k1 : W.cell? ⟨blk, i * 2, none⟩ = some (.int .i64 u) := h1
  have k2 : W.cell? ⟨blk, i * 2 + 1, none⟩ = some (.int .i64 v) := h2
  have k3 : W.cell? ⟨blk, j * 2, none⟩ = some (.int .i64 x) := h3
  have k4 : W.cell? ⟨blk, j * 2 + 1, none⟩ = some (.int .i64 y) := h4
  have l0 : Bs < W.heap.size := block_lt_of_cell hs
  have l1 : blk < W.heap.size := block_lt_of_cell k1
  have i0 : (0 : Int) ≤ (i : Int) := by omega
  have i1 : (i : Int) < (n : Int) := by omega
  have j0 : (0 : Int) ≤ (j : Int) := by omega
  have j1 : (j : Int) < (n : Int) := by omega
  clear h1 h2 h3 h4 hx hy hH
  go_enter Try.func30, Try.ntmps30
  go_wp2
  go_region_held3 (fun w' => w'.cell? ⟨Bs, 0, none⟩ = some (.slice (some ⟨blk, 0, none⟩) n c) ∧ w'.cell? ⟨blk, i * 2, none⟩ = some (.int .i64 u) ∧ w'.cell? ⟨blk, i * 2 + 1, none⟩ = some (.int .i64 v) ∧ w'.cell? ⟨blk, j * 2, none⟩ = some (.int .i64 x) ∧ w'.cell? ⟨blk, j * 2 + 1, none⟩ = some (.int .i64 y)) (first | go_keep | (go_split_ands; refine ⟨?_, ?_, ?_, ?_, ?_⟩ <;> (first | assumption | (rw [hb3.cell (by first | (simp; done) | (simp; omega))]; assumption)))) ((go_at_call 31; refine (ahead_grow _ _ _ _ _).mono ?_; rintro e w2 ⟨rfl, hg3, hb3⟩))
  go_wp2
  go_ret
  obtain ⟨os, rfl⟩ := hg3
  exact ⟨rfl, 1, os, rfl⟩

set_option maxHeartbeats 800000 in
set_option maxRecDepth 100000 in
theorem ins_tiny (f1 : Fn) (x1 y1 : Array Value) (f2 : Fn) (x2 y2 : Array Value) (n : Nat) (hn : n ≤ 1) (w : World) :
    Calls Try.prog 56 #[.agg #[.func f1 x1 y1, .func f2 x2 y2], .int .i64 0, .int .i64 n] w fun e w' => e = .returned (.tuple #[]) ∧ Below w.heap.size w w' := by
  have g0 : decide ((1 : Int) < (n : Int)) = false := by simp; omega
  have g1 : decide (1 < n) = false := by simp; omega
  go_enter Try.func56, Try.ntmps56
  go_wp2
  go_loopw [6] (fun iv wr => iv = .int .i64 1 ∧ Below w.heap.size w wr) (fun _ _ => 0)
  case atStart => exact ⟨rfl, (Below.refl _ _).alloc (Nat.le_refl _) _⟩
  case round =>
    obtain ⟨rfl, hb⟩ := hrel
    go_wp2
    go_end0
    exact ⟨rfl, hb⟩
set_option maxHeartbeats 800000 in
set_option maxRecDepth 100000 in
theorem pdq_tiny (f1 : Fn) (x1 y1 : Array Value) (f2 : Fn) (x2 y2 : Array Value) (n : Nat) (hn : n ≤ 1) (lim : Int) (w : World) :
    Calls Try.prog 43 #[.agg #[.func f1 x1 y1, .func f2 x2 y2], .int .i64 0, .int .i64 n, .int .i64 lim] w fun e w' => e = .returned (.tuple #[]) ∧ Below w.heap.size w w' := by
  have g0 : decide ((n : Int) ≤ 12) = true := by simp; omega
  go_enter Try.func43, Try.ntmps43
  go_wp2
  go_loopw [1, 2, 3, 8, 9] (fun s1 s2 s3 s8 s9 wr => s1 = .int .i64 0 ∧ s2 = .int .i64 n ∧ s3 = .int .i64 lim ∧ s8 = .bool true ∧ s9 = .bool true ∧ wr = w.alloc (.cells #[.func f1 x1 y1, .func f2 x2 y2] 78)) (fun _ _ _ _ _ _ => 0)
  case atStart => exact ⟨rfl, rfl, rfl, rfl, rfl, rfl⟩
  case round =>
    obtain ⟨rfl, rfl, rfl, rfl, rfl, rfl⟩ := hrel
    go_wp2_with fail
    refine (ins_tiny f1 x1 y1 f2 x2 y2 n hn _).mono ?_; rintro e w2 ⟨rfl, hb⟩
    have HB := Lib.hid (((Below.refl _ _).alloc (Nat.le_refl _) _).trans (hb.mono (show w.heap.size ≤ _ by simp)))
    clear hb
    go_wp2
    refine bodyPost_ret (results_none rfl _ _ _) rfl ?_
    exact ⟨rfl, HB.out⟩

/-- what is known behind sort.Slice -/
structure Slc (blk n : Nat) (l : List (Int × Int)) (w w' : World) : Prop where
  ex : ∃ l' : List (Int × Int), l'.Perm l ∧ (l'.Pairwise fun a b => leE a b = true) ∧ ReadsE w' w'.heap.size (some ⟨blk, 0, none⟩) n l'
  but : But blk w w'
theorem info_T : (Try.prog.info? 22).map (fun i => i.desc) = some (.slice 43) := by kernel_rfl
theorem info_E : (Try.prog.info? 43).map (fun i => (i.size, i.bytes, i.hasPointers)) = some (2, 16, false) := by kernel_rfl
theorem toList_of_perm {d d' : Array (Int × Int)} (h : PermIn 0 d.size d d') : d'.toList.Perm d.toList := by
  have h2 := h.2.2
  rwa [← h.1, Array.extract_size, h.1, Array.extract_size] at h2
theorem sorted_of {d : Array (Int × Int)} {n : Nat} (hn : d.size = n) (h : SortedIn ltE 0 n d) : d.toList.Pairwise fun a b => leE a b = true := by
  refine List.pairwise_iff_getElem.2 fun i j hi hj hij => ?_
  have h2 := h i j (Nat.zero_le _) hij (by simp at hj; omega)
  rw [getElem!_pos d j (by simpa using hj), getElem!_pos d i (by simpa using hi)] at h2
  unfold leE
  simp only [Array.getElem_toList]
  rw [h2]; rfl

set_option maxHeartbeats 4000000 in
set_option maxRecDepth 100000 in
theorem slice_any (blk c Bs n : Nat) (l : List (Int × Int)) (w : World) (hl : l.length = n) (hw : ∀ x ∈ l, I64 x.1 ∧ I64 x.2) (hR : Row w blk 43 (flatE l)) (hBs : w.cell? ⟨Bs, 0, none⟩ = some (.slice (some ⟨blk, 0, none⟩) n c)) (hne : Bs ≠ blk) (hn : n ≤ 1073741824) :
    Calls Try.prog 29 #[.iface 22 (.slice (some ⟨blk, 0, none⟩) n c), .func (.func 30) #[] #[.pointer (some ⟨Bs, 0, none⟩)]] w fun e w' => e = .returned (.tuple #[]) ∧ Slc blk n l w w' := by
  obtain ⟨i, hi, hd⟩ : ∃ i, Try.prog.info? 22 = some i ∧ i.desc = .slice 43 := by
    have h := info_T
    rcases hx : Try.prog.info? 22 with _ | i
    · rw [hx] at h; cases h
    · rw [hx] at h; simp at h; exact ⟨i, rfl, h⟩
  obtain ⟨ie, hie, hs2, hb16, hnp⟩ : ∃ i, Try.prog.info? 43 = some i ∧ i.size = 2 ∧ i.bytes = 16 ∧ i.hasPointers = false := by
    have h := info_E
    rcases hx : Try.prog.info? 43 with _ | i
    · rw [hx] at h; cases h
    · rw [hx] at h; simp at h; exact ⟨i, rfl, h.1, h.2.1, h.2.2⟩
  have hke : ∀ w, (Extern.Rtype.kind 43).run Try.prog w = .ok 25 w := fun _ => by kernel_rfl
  have hpk : Try.prog.packed 22 = false := by kernel_rfl
  have hBl : Bs < w.heap.size := block_lt_of_cell hBs
  have hbl := hR.lt
  by_cases h2 : 2 ≤ n
  · have hK : Lib.swapperK n ie 25 = 9 := by
      have c1 : (n == 0) = false := by simp; omega
      have c2 : (n == 1) = false := by simp; omega
      simp [Lib.swapperK, hnp, hb16, c1, c2]
    refine Any.sort_Slice_of_pdq (P := Try.prog) (ρ := Try.laysGg6_ren) Try.laysGg6 22 43 i ie hi hd hpk hie 25 hke (some ⟨blk, 0, none⟩) n c (by omega) 53 (by rw [hK]; kernel_rfl) (.func 30) #[] #[.pointer (some ⟨Bs, 0, none⟩)] w (Slc blk n l w) ?_
    have hB : sliceBound Try.prog 43 ie 25 (some ⟨blk, 0, none⟩) n c = #[.slice (some ⟨blk, 0, none⟩) n c, typeHandle Try.prog 43] := by
      unfold sliceBound; rw [hK, if_neg (by omega)]
    rw [hB]
    have hW : Below w.heap.size w (sliceWorld Try.prog Try.laysGg6_ren 22 (some ⟨blk, 0, none⟩) n c w) := two_new _ _ _
    generalize sliceWorld Try.prog Try.laysGg6_ren 22 (some ⟨blk, 0, none⟩) n c w = W1 at *
    have hR1 := hR.below hW hbl
    have hB1 : W1.cell? ⟨Bs, 0, none⟩ = some (.slice (some ⟨blk, 0, none⟩) n c) := (hW.cell (p := ⟨Bs, 0, none⟩) hBl).trans hBs
    have hBl1 : Bs < W1.heap.size := block_lt_of_cell hB1
    have hH1 := holds_of_row hR1
    have hds : l.toArray.size = n := by simpa using hl
    have hS : Srt 30 #[.pointer (some ⟨Bs, 0, none⟩)] 53 #[.slice (some ⟨blk, 0, none⟩) n c, typeHandle Try.prog 43] blk n W1 l.toArray := {
      holds := hH1
      size := hds
      less := fun W dk h hs i j hi hj => clos_any blk c Bs n W dk (cell_sw h hBl1 hne hB1) (h.holds hR1.lt hH1 (hs.trans hds.symm)) hs i j hi hj
      swap := swapSwapsK_of_literal (P := Try.prog) false 53 (fun args W => run_callFunc_extern Try.func53 (by kernel_rfl) (by kernel_rfl) (by kernel_rfl) (e := Extern.ReflectliteSwapper.swap false) (by kernel_rfl) args W) 43 ie hie encE 2 encE_len hs2 (fun _ => by kernel_rfl) (fun x v hv => by simp [encE] at hv; rcases hv with rfl | rfl <;> rfl) blk 0 n c
      eg := enters_of Try.func30 (by kernel_rfl) rfl
      hblk := hR1.lt
      small := by omega }
    have hlim : Lib.bitLen n < 4611686018427387904 := Nat.lt_of_le_of_lt (Lib.bitLen_le n 62 (by omega) (by omega)) (by omega)
    have hp := pdq_any (n + 1) W1 l.toArray 0 n (Lib.bitLen n) hS (by omega) (Nat.zero_le _) (Nat.le_refl _) hlim (.inl rfl)
    refine hp.mono ?_
    rintro e w' ⟨rfl, hsw⟩
    have hps := Sort.pdq_sorts ltE swo_ltE l.toArray 0 n (Lib.bitLen n) true true (Nat.zero_le _) (by omega) (.inl rfl)
    have hsz : (Sort.pdq ltE l.toArray 0 n (Lib.bitLen n) true true).size = n := hps.1.1.trans hds
    have hperm : (Sort.pdq ltE l.toArray 0 n (Lib.bitLen n) true true).toList.Perm l := by
      have h := hps.1
      have e : n = l.toArray.size := hds.symm
      have h3 := toList_of_perm (d := l.toArray) (d' := Sort.pdq ltE l.toArray 0 n (Lib.bitLen n) true true) (by rw [hds]; exact h)
      simpa using h3
    have hb1 : blk < W1.heap.size := hR1.lt
    refine ⟨rfl, ⟨_, hperm, sorted_of hsz hps.2, reads_of_holds (hsw.holds hb1 hH1 (hsz.trans hds.symm)) hsz (fun x hx => hw x (hperm.mem_iff.1 hx)) (hsw.lt hb1)⟩, ?_⟩
    have hbt := But.of_sw hsw
    exact ⟨hbt.os.trans hW.os, hbt.tape.trans hW.tape, hbt.output.trans hW.output, Nat.le_trans hW.size hbt.size, fun b hb hne => (hbt.block b (Nat.lt_of_lt_of_le hb hW.size) hne).trans (hW.block b hb)⟩
  · have hfin : ∀ w', Below w.heap.size w w' → Slc blk n l w w' := fun w' hb => by
      refine ⟨⟨l, List.Perm.refl _, ?_, ?_⟩, But.of_below hb⟩
      · match l, hl with
        | [], _ => exact List.Pairwise.nil
        | [x], _ => exact List.pairwise_singleton _ _
        | x :: y :: l, hl => simp at hl; omega
      · have hr2 := hR.below hb hbl
        have := reads_of_holds (holds_of_row hr2) (n := n) (by simpa using hl) (by simpa using hw) hr2.lt
        simpa using this
    have hWb : Below w.heap.size w (sliceWorld Try.prog Try.laysGg6_ren 22 (some ⟨blk, 0, none⟩) n c w) := two_new _ _ _
    by_cases h0 : n = 0
    · have hK : Lib.swapperK n ie 25 = 1 := by subst h0; simp [Lib.swapperK]
      refine Any.sort_Slice_of_pdq (P := Try.prog) (ρ := Try.laysGg6_ren) Try.laysGg6 22 43 i ie hi hd hpk hie 25 hke (some ⟨blk, 0, none⟩) n c (by omega) 45 (by rw [hK]; kernel_rfl) (.func 30) #[] #[.pointer (some ⟨Bs, 0, none⟩)] w (Slc blk n l w) ?_
      have := pdq_tiny (.func 30) #[] #[.pointer (some ⟨Bs, 0, none⟩)] (.func 45) #[] (sliceBound Try.prog 43 ie 25 (some ⟨blk, 0, none⟩) n c) n (by omega) (Lib.bitLen n) (sliceWorld Try.prog Try.laysGg6_ren 22 (some ⟨blk, 0, none⟩) n c w)
      exact this.mono fun e w' h => ⟨h.1, hfin w' (hWb.trans (h.2.mono hWb.size))⟩
    · have hK : Lib.swapperK n ie 25 = 2 := by obtain rfl : n = 1 := by omega
                                               simp [Lib.swapperK]
      refine Any.sort_Slice_of_pdq (P := Try.prog) (ρ := Try.laysGg6_ren) Try.laysGg6 22 43 i ie hi hd hpk hie 25 hke (some ⟨blk, 0, none⟩) n c (by omega) 46 (by rw [hK]; kernel_rfl) (.func 30) #[] #[.pointer (some ⟨Bs, 0, none⟩)] w (Slc blk n l w) ?_
      have := pdq_tiny (.func 30) #[] #[.pointer (some ⟨Bs, 0, none⟩)] (.func 46) #[] (sliceBound Try.prog 43 ie 25 (some ⟨blk, 0, none⟩) n c) n (by omega) (Lib.bitLen n) (sliceWorld Try.prog Try.laysGg6_ren 22 (some ⟨blk, 0, none⟩) n c w)
      exact this.mono fun e w' h => ⟨h.1, hfin w' (hWb.trans (h.2.mono hWb.size))⟩
end Go.Proofs.Ytdjmjabbjjcgiaa
