/- slices.Insert of extents, what is inserted lying elsewhere. -/
import Derived.Test.YtbkgpilmgllkiaaSpMath
import Derived.Laws.Externs
import Derived.IntWalk
namespace Go.Proofs.Ytbkgpilmgllkiaa
open Go.ChangeShapes Go.WideShapes Go.ChangeAt Go.RowKit

theorem ext_info : ∃ i, Try.prog.info? 98 = some i ∧ i.zero = some (.agg #[.int .i64 0, .int .i64 0]) ∧ i.size = 2 ∧ i.bytes = 16 := info_parts (by kernel_rfl)
theorem ext_size : (Try.prog.info? 98).map (·.size) = some 2 := by kernel_rfl
theorem ext_sizeOf (w : World) : (Go.sizeOf 98).run Try.prog w = .ok 2 w := by
  obtain ⟨i, hi, _, hs, _⟩ := ext_info
  simp [Go.sizeOf, typeInfo, hi, hs]
theorem ext_zero (w : World) : (zeroValue 98).run Try.prog w = .ok (.agg #[.int .i64 0, .int .i64 0]) w := by
  obtain ⟨i, hi, hz, _⟩ := ext_info
  simp [zeroValue, typeInfo, hi, hz]

/-- a slice of extents that is owned, its row as it is -/
structure Own2 (w : World) (g cap n : Nat) (l : List Ex) (cur : List Value) : Prop where
  row : Row w g 98 cur
  size : cur.length = cap * 2
  le : n ≤ cap
  max : cap ≤ 9223372036854775807
  cells : cur.take (n * 2) = flatX l
  len : l.length = n
theorem own2_of {w : World} {v : Value} {n : Nat} {l : List Ex} (h : w.ownsRow 0 98 2 v n (flatX l)) : (v = .slice none 0 0 ∧ n = 0 ∧ l = []) ∨ ∃ g cap cur, v = .slice (some ⟨g, 0, none⟩) n cap ∧ Own2 w g cap n l cur := by
  obtain ⟨h1, h2⟩ := h
  rw [flatX_length] at h1
  rcases h2 with ⟨rfl, rfl⟩ | ⟨g, cap, cur, rfl, _, hh, hcap, hm, hs, ht⟩
  · exact .inl ⟨rfl, rfl, List.eq_nil_of_length_eq_zero (by omega)⟩
  · exact .inr ⟨g, cap, cur.toList, rfl, hh, by simpa using hs, hcap, hm, ht, by omega⟩
section
variable {w : World} {g cap n : Nat} {l : List Ex} {cur : List Value}
theorem Own2.own (h : Own2 w g cap n l cur) : w.ownsRow 0 98 2 (.slice (some ⟨g, 0, none⟩) n cap) n (flatX l) :=
  ⟨by rw [flatX_length, h.len], .inr ⟨g, cap, cur.toArray, rfl, Nat.zero_le _, h.row, h.le, h.max, by simpa using h.size, by simpa using h.cells⟩⟩
theorem Own2.get (h : Own2 w g cap n l cur) {k : Nat} (hk : k < n * 2) : cur[k]? = (flatX l)[k]? := by
  rw [← h.cells, List.getElem?_take, if_pos hk]
theorem Own2.at_ (h : Own2 w g cap n l cur) {i : Nat} (hi : i < n) : w.cell? ⟨g, i * 2, none⟩ = some (.int .i64 (xAt l i).1) ∧ w.cell? ⟨g, i * 2 + 1, none⟩ = some (.int .i64 (xAt l i).2) := by
  have h1 := flatX_get l i (by rw [h.len]; exact hi)
  rw [h.row.cell, h.row.cell, h.get (by omega), h.get (by omega)]
  exact h1
theorem Own2.shape (h : Own2 w g cap n l cur) : w.shape? g = some (98, cap * 2) := by
  have := h.row; unfold Row at this
  simp [World.shape?, this, h.size]
/-- the cells from place i on, as a source -/
theorem Own2.src (h : Own2 w g cap n l cur) (i : Nat) : ∀ j v, (flatX (l.drop i))[j]? = some v → cur[i * 2 + j]? = some v := by
  intro j v hj
  rw [flatX_drop, List.getElem?_drop] at hj
  have hlt : i * 2 + j < n * 2 := by
    rcases Nat.lt_or_ge (i * 2 + j) (flatX l).length with h1 | h1
    · rw [flatX_length, h.len] at h1; exact h1
    · rw [List.getElem?_eq_none h1] at hj; cases hj
  rw [h.get hlt]; exact hj
end
/-- a slice that is answered, of what was: in the same row or in a new one -/
def Got (w : World) (v : Value) (l : List Ex) (e : Ending) (w' : World) : Prop :=
  ∃ v', e = .returned v' ∧ w'.ownsRow 0 98 2 v' l.length (flatX l) ∧ Far (fun k => v.ownBlock = some k) w w' ∧ ∀ k, v'.ownBlock = some k → v.ownBlock = some k ∨ w.heap.size ≤ k

theorem Own2.got {w w' : World} {v : Value} {g cap n : Nat} {l : List Ex} {cur : List Value} (h : Own2 w' g cap n l cur) (hf : Far (fun k => v.ownBlock = some k) w w') (hg : v.ownBlock = some g ∨ w.heap.size ≤ g) : Got w v l (.returned (.slice (some ⟨g, 0, none⟩) n cap)) w' := by
  have e := h.len; subst e
  exact ⟨_, rfl, h.own, hf, fun k hk => by injection hk with hk; subst hk; exact hg⟩
theorem over_apart (w : World) (a b : Addr) (la ca lb cb : Nat) (hne : a.block ≠ b.block) (tA tB : TypeId) (kA kB : Nat) (hsa : w.shape? a.block = some (tA, kA)) (hsb : w.shape? b.block = some (tB, kB)) (hkB : kB ≠ 0)
    (hfa : w.frozen? a = false) (hfe : w.frozen? { block := a.block, off := kA } = false) : (callFunc 89 #[.slice (some a) la ca, .slice (some b) lb cb]).run Try.prog w = .ok (.value (.bool false)) w := by
  rw [run_callFunc_extern Try.func89 (by kernel_rfl) (by kernel_rfl) (by kernel_rfl) (e := Extern.SlicesOverlaps.overlaps #[99, 99] #[4]) (by kernel_rfl),
    Lib.run_overlaps_apart w 99 4 98 Try.underlying99 2 ext_sizeOf a b la ca lb cb hne tA tB kA kB hsa hsb hkB hfa hfe]
  rfl

set_option maxHeartbeats 2000000 in
set_option maxRecDepth 100000 in
/-- there is room -/
theorem insert_shift (w : World) {g cap n gv cv m i : Nat} {l M : List Ex} {cur curv : List Value} (h : Own2 w g cap n l cur) (hv : Own2 w gv cv m M curv) (hne : gv ≠ g) (hi : i < n) (hm : 0 < m) (hroom : n + m ≤ cap) (hbig : n + m ≤ 4000000) :
    Calls Try.prog 88 #[.slice (some ⟨g, 0, none⟩) n cap, .int .i64 i, .slice (some ⟨gv, 0, none⟩) m cv] w (Got w (.slice (some ⟨g, 0, none⟩) n cap) (l.take i ++ M ++ l.drop i)) := by
  obtain ⟨i0, hi0, _, hz, _⟩ := ext_info
  obtain ⟨R, hR⟩ : ∃ R, R = l.take i ++ M ++ l.drop i := ⟨_, rfl⟩
  rw [← hR]
  obtain ⟨tot, htot⟩ : ∃ t : Nat, t = n + m := ⟨_, rfl⟩
  obtain ⟨im, him⟩ : ∃ t : Nat, t = i + m := ⟨_, rfl⟩
  have hcap := h.max
  have hlen := h.len
  have hlenv := hv.len
  have hsz := h.size
  have hadd1 : (n : Int) + (m : Int) = (tot : Int) := by omega
  have hadd2 : (i : Int) + (m : Int) = (im : Int) := by omega
  have hw1 : IntKind.i64.wrap (tot : Int) = (tot : Int) := IntWalk.i64_in _ (by omega)
  have hw2 : IntKind.i64.wrap (im : Int) = (im : Int) := IntWalk.i64_in _ (by omega)
  have hg1 : ¬ ((m : Int) = 0) := by omega
  have hg2 : ¬ ((i : Int) = (n : Int)) := by omega
  have hg3 : decide ((tot : Int) > (cap : Int)) = false := by simp; omega
  have hs1 := fun w' k => run_tail (P := Try.prog) w' 99 98 i0 Try.underlying99 hi0 hz (some ⟨g, 0, none⟩) n cap i (by omega) k (i : Int) rfl
  have hs2 := fun w' k => run_head (P := Try.prog) w' 99 98 i0 Try.underlying99 hi0 (some ⟨g, 0, none⟩) n cap tot (by omega) k (tot : Int) rfl
  have hs3 := fun w' k => run_tail (P := Try.prog) w' 99 98 i0 Try.underlying99 hi0 hz (some ⟨g, 0, none⟩) tot cap im (by omega) k (im : Int) rfl
  have hs4 := fun w' k => run_tail (P := Try.prog) w' 99 98 i0 Try.underlying99 hi0 hz (some ⟨g, 0, none⟩) tot cap i (by omega) k (i : Int) rfl
  have ht1 := tailA_lt (g := g) (off := 0) (i := im) (cap := cap) (sz := 2) (by omega)
  have ht2 := tailA_lt (g := g) (off := 0) (i := i) (cap := cap) (sz := 2) (by omega)
  rw [Nat.zero_add] at ht1 ht2
  rw [ht1] at hs3
  rw [ht2] at hs4 hs1
  have hov : ∀ lb cb, (callFunc 89 #[.slice (some ⟨gv, 0, none⟩) m cv, .slice (some ⟨g, im * 2, none⟩) lb cb]).run Try.prog w = .ok (.value (.bool false)) w := fun lb cb =>
    over_apart w ⟨gv, 0, none⟩ ⟨g, im * 2, none⟩ m cv lb cb hne _ _ _ _ hv.shape h.shape (by omega) (hv.row.free 0) (hv.row.free _)
  have hc1 : (flatX (l.drop i)).length = Nat.min (tot - i) (tot - im) * 2 := by rw [flatX_length, List.length_drop, hlen, htot, him]; simp only [Nat.min_def]; split <;> omega
  have hc2 : ∀ j v, (flatX (l.drop i))[j]? = some v → w.drew.cell? ((⟨g, i * 2, none⟩ : Addr).add j) = some v := fun j v hj => by
    rw [Addr.add_lit]; exact (h.row.cell _).trans (h.src i j v hj)
  have hc3 : im * 2 + (flatX (l.drop i)).length ≤ cur.length := by rw [flatX_length, List.length_drop, hlen, hsz, him]; omega
  have C1 := Lib.hid hc1
  have C2 := Lib.hid hc2
  have C3 := Lib.hid hc3
  clear hc1 hc2 hc3
  have hc4 : (flatX M).length = Nat.min m (tot - i) * 2 := by rw [flatX_length, hlenv, htot]; simp only [Nat.min_def]; split <;> omega
  have hc5 : ∀ j v, (flatX M)[j]? = some v → w.cell? ((⟨gv, 0, none⟩ : Addr).add j) = some v := fun j v hj => by
    rw [Addr.add_lit, Nat.zero_add, hv.row.cell]; have := hv.src 0 j v (by simpa using hj); simpa using this
  have hc6 : i * 2 + (flatX M).length ≤ (splice cur (im * 2) (flatX (l.drop i))).length := by rw [splice_length _ _ _ C3.out, flatX_length, hlenv, hsz]; omega
  have hc7 : ((splice (splice cur (im * 2) (flatX (l.drop i))) (i * 2) (flatX M)).take (tot * 2)) = flatX R := by
    rw [take_splice2r cur (flatX M) (flatX (l.drop i)) (i * 2) (im * 2) (tot * 2) (by rw [flatX_length, hlenv]; omega) (by rw [flatX_length, List.length_drop, hlen]; omega) (by rw [hsz]; omega), hR, flatX_append, flatX_append, flatX_take, ← h.cells, List.take_take, Nat.min_eq_left (by omega)]
  have hc8 : (splice (splice cur (im * 2) (flatX (l.drop i))) (i * 2) (flatX M)).length = cap * 2 := by rw [splice_length _ _ _ hc6, splice_length _ _ _ C3.out, hsz]
  have hc9 : R.length = tot := by rw [hR, List.length_append, List.length_append, List.length_take, List.length_drop, hlen, hlenv]; omega
  have C4 := Lib.hid hc4
  have C5 := Lib.hid hc5
  have C6 := Lib.hid hc6
  have C7 := Lib.hid hc7
  have C8 := Lib.hid hc8
  have C9 := Lib.hid hc9
  have HCT : Hid (tot ≤ cap) := by unfold Hid; omega
  clear hc4 hc5 hc6 hc7 hc8 hc9 hR
  have H := Lib.hid h
  have HV := Lib.hid hv
  have HT := Lib.hid htot
  have HI := Lib.hid him
  have HL := Lib.hid hlen
  have HLV := Lib.hid hlenv
  have HS := Lib.hid hsz
  clear h hv htot him hlen hlenv hsz ht1 ht2 hz hi0
  go_enter Try.func88, Try.ntmps88
  go_wp2_with (simp only [hov])
  go_region_law (refine step_copy_rows rfl _ _ 99 99 rfl 98 Try.underlying99 ext_size (by decide) (some ⟨g, im * 2, none⟩) (some ⟨g, i * 2, none⟩) (tot - im) (cap - im) (tot - i) (cap - i) (by simp [Act.eval, Act.put]) (by simp [Act.eval, Act.put]) g (im * 2) cur 98 H.out.row (flatX (l.drop i)) C1.out (fun _ => ⟨rfl, _, rfl, C2.out⟩) C3.out flatX_one ?_; intro w2 hr2 hf2)
  have hv2 := hf2.out.row (w := w.drew) HV.out.row hne
  have HV2 := Lib.hid hv2
  clear hv2
  have c5 : ∀ j v, (flatX M)[j]? = some v → w2.cell? ((⟨gv, 0, none⟩ : Addr).add j) = some v := fun j v hj => by
    have h5 := C5.out j v hj
    rw [Addr.add_lit] at h5 ⊢
    rw [HV2.out.cell, ← HV.out.row.cell]; exact h5
  have C5' := Lib.hid c5
  clear c5
  go_wp2_with (with_reducible refine stopAt 82 ?_)
  unfold Hid
  refine wpList_copy_rows rfl _ _ 99 99 rfl 98 Try.underlying99 ext_size (by decide) (some ⟨g, i * 2, none⟩) (some ⟨gv, 0, none⟩) (tot - i) (cap - i) m cv rfl rfl g (i * 2) _ 98 hr2.out (flatX M) C4.out (fun _ => ⟨rfl, _, rfl, C5'.out⟩) C6.out flatX_one ?_
  intro w3 hr3 hf3
  go_wp2
  go_ret
  have own : Own2 w3 g cap tot R _ := ⟨hr3.out, C8.out, HCT.out, hcap, C7.out, C9.out⟩
  exact own.got ((Far.drew (Far.refl _ w)).trans (hf2.out.trans hf3.out fun b hb => .inl hb) fun b hb => .inl (by rw [hb]; rfl)) (.inl rfl)

set_option maxHeartbeats 2000000 in
set_option maxRecDepth 100000 in
/-- there is no room -/
theorem insert_grow (w : World) {g cap n gv cv m i : Nat} {l M : List Ex} {cur curv : List Value} (h : Own2 w g cap n l cur) (hv : Own2 w gv cv m M curv) (hi : i < n) (hm : 0 < m) (hroom : cap < n + m) (hbig : n + m ≤ 4000000) :
    Calls Try.prog 88 #[.slice (some ⟨g, 0, none⟩) n cap, .int .i64 i, .slice (some ⟨gv, 0, none⟩) m cv] w (Got w (.slice (some ⟨g, 0, none⟩) n cap) (l.take i ++ M ++ l.drop i)) := by
  obtain ⟨i0, hi0, hz0, hz, hzb⟩ := ext_info
  obtain ⟨R, hR⟩ : ∃ R, R = l.take i ++ M ++ l.drop i := ⟨_, rfl⟩
  rw [← hR]
  obtain ⟨tot, htot⟩ : ∃ t : Nat, t = n + m := ⟨_, rfl⟩
  obtain ⟨im, him⟩ : ∃ t : Nat, t = i + m := ⟨_, rfl⟩
  obtain ⟨q, hq⟩ : ∃ t : Nat, t = tot - i := ⟨_, rfl⟩
  have hcap := h.max
  have hnc := h.le
  have hlen := h.len
  have hlenv := hv.len
  have hsz := h.size
  have hadd1 : (n : Int) + (m : Int) = (tot : Int) := by omega
  have hadd2 : (i : Int) + (m : Int) = (im : Int) := by omega
  have hsub : (tot : Int) - (i : Int) = (q : Int) := by omega
  have hw1 : IntKind.i64.wrap (tot : Int) = (tot : Int) := IntWalk.i64_in _ (by omega)
  have hw2 : IntKind.i64.wrap (im : Int) = (im : Int) := IntWalk.i64_in _ (by omega)
  have hw3 : IntKind.i64.wrap (q : Int) = (q : Int) := IntWalk.i64_in _ (by omega)
  have hg1 : ¬ ((m : Int) = 0) := by omega
  have hg2 : ¬ ((i : Int) = (n : Int)) := by omega
  have hg3 : decide ((tot : Int) > (cap : Int)) = true := by simp; omega
  have hs1 := fun w' k => run_tail (P := Try.prog) w' 99 98 i0 Try.underlying99 hi0 hz (some ⟨g, 0, none⟩) n cap i (by omega) k (i : Int) rfl
  have hs2 := fun w' k => run_head (P := Try.prog) w' 99 98 i0 Try.underlying99 hi0 (some ⟨g, 0, none⟩) n cap i (by omega) k (i : Int) rfl
  have hs3 := fun b C w' k => run_tail (P := Try.prog) w' 99 98 i0 Try.underlying99 hi0 hz (some ⟨b, 0, none⟩) tot C im (by omega) k (im : Int) rfl
  have hs4 := fun b C w' k => run_tail (P := Try.prog) w' 99 98 i0 Try.underlying99 hi0 hz (some ⟨b, 0, none⟩) tot C i (by omega) k (i : Int) rfl
  have ht2 := tailA_lt (g := g) (off := 0) (i := i) (cap := cap) (sz := 2) (by omega)
  rw [Nat.zero_add] at ht2
  rw [ht2] at hs1
  have hc0 : ∀ j v, (flatX (l.take i))[j]? = some v → w.cell? ((⟨g, 0, none⟩ : Addr).add j) = some v := fun j v hj => by
    rw [Addr.add_lit, Nat.zero_add, h.row.cell]
    have h1 := h.src 0 j v (by
      rw [List.drop_zero]
      rw [flatX_take, List.getElem?_take] at hj
      split at hj
      · exact hj
      · cases hj)
    simpa using h1
  have hc1 : (flatX (l.drop i)).length = Nat.min (n - i) (tot - im) * 2 := by rw [flatX_length, List.length_drop, hlen, htot, him]; simp only [Nat.min_def]; split <;> omega
  have hc2 : ∀ j v, (flatX (l.drop i))[j]? = some v → w.cell? ((⟨g, i * 2, none⟩ : Addr).add j) = some v := fun j v hj => by
    rw [Addr.add_lit]; exact (h.row.cell _).trans (h.src i j v hj)
  have hc4 : (flatX M).length = Nat.min m (tot - i) * 2 := by rw [flatX_length, hlenv, htot]; simp only [Nat.min_def]; split <;> omega
  have hc5 : ∀ j v, (flatX M)[j]? = some v → w.cell? ((⟨gv, 0, none⟩ : Addr).add j) = some v := fun j v hj => by
    rw [Addr.add_lit, Nat.zero_add, hv.row.cell]; have := hv.src 0 j v (by simpa using hj); simpa using this
  have hc6 : ∀ C (c0 : List Value), tot ≤ C → c0.length = C * 2 → i * 2 + (flatX M).length ≤ c0.length ∧ im * 2 + (flatX (l.drop i)).length ≤ (splice c0 (i * 2) (flatX M)).length := fun C c0 h1 h2 => by
    have h3 : i * 2 + (flatX M).length ≤ c0.length := by rw [flatX_length, hlenv, h2]; omega
    exact ⟨h3, by rw [splice_length _ _ _ h3, flatX_length, List.length_drop, hlen, h2]; omega⟩
  have hc7 : ∀ C (c0 : List Value), tot ≤ C → C ≤ maxLen → c0.length = C * 2 → c0.take (i * 2) = flatX (l.take i) → ∀ b (W : World), Row W b 98 (splice (splice c0 (i * 2) (flatX M)) (im * 2) (flatX (l.drop i))) → Own2 W b C tot R (splice (splice c0 (i * 2) (flatX M)) (im * 2) (flatX (l.drop i))) := fun C c0 h1 hm h2 h3 b W hr => by
    refine ⟨hr, ?_, h1, by unfold maxLen at hm; omega, ?_, ?_⟩
    · rw [splice_length _ _ _ (hc6 C c0 h1 h2).2, splice_length _ _ _ (hc6 C c0 h1 h2).1, h2]
    · rw [take_splice2 c0 (flatX M) (flatX (l.drop i)) (i * 2) (im * 2) (tot * 2) (by rw [flatX_length, hlenv]; omega) (by rw [flatX_length, List.length_drop, hlen]; omega) (by rw [h2]; omega), h3, hR, flatX_append, flatX_append]
    · rw [hR, List.length_append, List.length_append, List.length_take, List.length_drop, hlen, hlenv]; omega
  have hti : (flatX (l.take i)).length = i * 2 := by rw [flatX_length, List.length_take, hlen]; omega
  have C0 := Lib.hid hc0
  have C1 := Lib.hid hc1
  have C2 := Lib.hid hc2
  have C4 := Lib.hid hc4
  have C5 := Lib.hid hc5
  have C6 := Lib.hid hc6
  have C7 := Lib.hid hc7
  have CT := Lib.hid hti
  have CI : Hid (i < im ∧ im < tot ∧ i + q = tot ∧ 0 < q) := by unfold Hid; omega
  have H := Lib.hid h
  have HV := Lib.hid hv
  have HI0 := Lib.hid hi0
  have hgl := h.row.lt
  have hvl := hv.row.lt
  clear hc0 hc1 hc2 hc4 hc5 hc6 hc7 hti hR h hv htot him hlen hlenv hsz ht2 hq
  go_enter Try.func88, Try.ntmps88
  go_wp2_with (with_reducible refine stopAt 40 ?_)
  unfold Hid
  refine wpList_append_zeros_grow rfl _ _ 99 3 rfl 98 i0 _ .i64 .i64 Try.underlying99 Try.underlying3 HI0.out hz0 hz (by decide) hzb rfl (some ⟨g, 0, none⟩) i cap rfl (flatX (l.take i)) CT.out (fun e => by cases e) (fun ad e => by injection e with e; subst e; exact C0.out) q (q : Int) rfl rfl CI.out.2.2.2 (by have := CI.out; omega) (by unfold maxLen; have := CI.out; omega) (by have := CI.out; omega) ?_
  rw [CI.out.2.2.1]
  intro w2 C c0 hC1 hC2 hc0 hct hr2 hs2' hb2
  have ht3 := tailA_lt (g := w.heap.size) (off := 0) (i := im) (cap := C) (sz := 2) (by have := CI.out; omega)
  have ht4 := tailA_lt (g := w.heap.size) (off := 0) (i := i) (cap := C) (sz := 2) (by have := CI.out; omega)
  rw [Nat.zero_add] at ht3 ht4
  have hs3' := hs3 w.heap.size C
  have hs4' := hs4 w.heap.size C
  rw [ht3] at hs3'
  rw [ht4] at hs4'
  have D0 := Lib.hid (hC1)
  have D1 := Lib.hid hC2
  have D2 := Lib.hid hc0
  have D3 := Lib.hid hct
  have D4 := Lib.hid hr2
  have D6 := Lib.hid hb2
  have c5 : ∀ j v, (flatX M)[j]? = some v → w2.cell? ((⟨gv, 0, none⟩ : Addr).add j) = some v := fun j v hj => by
    rw [hb2.cell (by rw [Addr.add_lit]; exact hvl)]; exact C5.out j v hj
  have C5' := Lib.hid c5
  have c2 : ∀ j v, (flatX (l.drop i))[j]? = some v → w2.cell? ((⟨g, i * 2, none⟩ : Addr).add j) = some v := fun j v hj => by
    rw [hb2.cell (by rw [Addr.add_lit]; exact hgl)]; exact C2.out j v hj
  have C2' := Lib.hid c2
  clear hC1 hC2 hc0 hct hr2 hb2 c5 c2 ht3 ht4 hs3 hs4 hs2'
  go_wp2_with (with_reducible refine stopAt 45 ?_)
  unfold Hid
  refine wpList_copy_rows rfl _ _ 99 99 rfl 98 Try.underlying99 ext_size (by decide) (some ⟨w.heap.size, i * 2, none⟩) (some ⟨gv, 0, none⟩) (tot - i) (C - i) m cv rfl rfl w.heap.size (i * 2) _ 98 D4.out (flatX M) C4.out (fun _ => ⟨rfl, _, rfl, C5'.out⟩) (C6.out C c0 D0.out D2.out).1 flatX_one ?_
  intro w3 hr3 hf3
  have c2 : ∀ j v, (flatX (l.drop i))[j]? = some v → w3.drew.cell? ((⟨g, i * 2, none⟩ : Addr).add j) = some v := fun j v hj => by
    have h5 := C2'.out j v hj
    rw [Addr.add_lit] at h5 ⊢
    exact (World.cell?_of_block (hf3.out.block g (by have := D6.out.size; omega) (by omega))).trans h5
  have C2'' := Lib.hid c2
  clear c2
  go_wp2
  go_region_law (refine step_copy_rows rfl _ _ 99 99 rfl 98 Try.underlying99 ext_size (by decide) (some ⟨w.heap.size, im * 2, none⟩) (some ⟨g, i * 2, none⟩) (tot - im) (C - im) (n - i) (cap - i) (by simp [Act.eval, Act.put]) (by simp [Act.eval, Act.put]) w.heap.size (im * 2) _ 98 hr3.out (flatX (l.drop i)) C1.out (fun _ => ⟨rfl, _, rfl, C2''.out⟩) (C6.out C c0 D0.out D2.out).2 flatX_one ?_; intro w4 hr4 hf4)
  go_wp2
  go_ret
  have own := C7.out C c0 D0.out D1.out D2.out D3.out _ _ hr4.out
  exact own.got ((Far.of_below D6.out _).trans ((hf3.out.drew).trans hf4.out fun b hb => .inl hb) fun b hb => .inr (by omega)) (.inr (Nat.le_refl _))

theorem own2_form {w : World} {v : Value} {n : Nat} {l : List Ex} (h : w.ownsRow 0 98 2 v n (flatX l)) : ∃ A c, v = .slice A n c ∧ n ≤ c ∧ c ≤ 9223372036854775807 ∧ l.length = n := by
  rcases own2_of h with ⟨rfl, rfl, rfl⟩ | ⟨g, cap, cur, rfl, h1⟩
  · exact ⟨none, 0, rfl, Nat.le_refl _, by omega, rfl⟩
  · exact ⟨_, _, rfl, h1.le, h1.max, h1.len⟩
theorem own2_src {w : World} {A : Option Addr} {m c : Nat} {M : List Ex} (h : w.ownsRow 0 98 2 (.slice A m c) m (flatX M)) (hm : 0 < m) : ∃ ad, A = some ad ∧ ∀ j v, (flatX M)[j]? = some v → w.cell? (ad.add j) = some v := by
  rcases own2_of h with ⟨_, h0, _⟩ | ⟨g, cap, cur, e, h1⟩
  · omega
  · injection e with e1 e2 e3
    subst e1
    refine ⟨_, rfl, fun j v hj => ?_⟩
    rw [Addr.add_lit, Nat.zero_add, h1.row.cell]
    have := h1.src 0 j v (by simpa using hj); simpa using this
theorem got_at {w w' : World} {v v' : Value} {n : Nat} {l : List Ex} (h : w'.ownsRow 0 98 2 v' n (flatX l)) (hf : Far (fun k => v.ownBlock = some k) w w') (hg : v'.ownBlock = v.ownBlock ∨ v'.ownBlock = some w.heap.size) : Got w v l (.returned v') w' := by
  obtain ⟨A, c, rfl, _, _, hl⟩ := own2_form h
  subst hl
  refine ⟨_, rfl, h, hf, fun k hk => ?_⟩
  rcases hg with hg | hg
  · exact .inl (hg ▸ hk)
  · rw [hg] at hk; injection hk with hk; exact .inr (by omega)

set_option maxHeartbeats 2000000 in
set_option maxRecDepth 100000 in
/-- at the end -/
theorem insert_end (w : World) {v u : Value} {n m : Nat} {l M : List Ex} (h : w.ownsRow 0 98 2 v n (flatX l)) (hv : w.ownsRow 0 98 2 u m (flatX M)) (hm : 0 < m) (hbig : n + m ≤ 4000000) :
    Calls Try.prog 88 #[v, .int .i64 n, u] w (Got w v (l ++ M)) := by
  obtain ⟨i0, hi0, hz0, hz, hzb⟩ := ext_info
  obtain ⟨R, hR⟩ : ∃ R, R = l ++ M := ⟨_, rfl⟩
  rw [← hR]
  have hx : w.ownsRow 0 98 2 v n (flatX l) := h
  obtain ⟨A, c, rfl, hnc, hcm, hl⟩ := own2_form h
  obtain ⟨B, d, rfl, hmd, hdm, hlM⟩ := own2_form hv
  obtain ⟨ad, rfl, hsrc⟩ := own2_src hv hm
  have hg1 : ¬ ((m : Int) = 0) := by omega
  have hs1 := fun w' k => run_tail (P := Try.prog) w' 99 98 i0 Try.underlying99 hi0 hz A n c n (Nat.le_refl _) k (n : Int) rfl
  have hfl : (flatX M).length = m * 2 := by rw [flatX_length, hlM]
  have HX := Lib.hid hx
  have HS := Lib.hid hsrc
  have HF := Lib.hid hfl
  have HR := Lib.hid hR
  have HI0 := Lib.hid hi0
  clear h hv hx hsrc hR hfl hl hlM hi0
  go_enter Try.func88, Try.ntmps88
  go_wp2_with (with_reducible refine stopAt 25 ?_)
  unfold Hid
  refine wpList_append_own_at w rfl _ _ 99 rfl 0 98 i0 _ 2 16 Try.underlying99 HI0.out hz0 hz hzb rfl (by decide) _ n (flatX l) rfl HX.out ad m d (flatX M) rfl HF.out HS.out flatX_one (by unfold maxLen; omega) (by omega) (Nat.zero_le _) ?_
  intro v' w' ho hgr _ hat
  have HO := Lib.hid ho
  have HG := Lib.hid hgr
  have HA := Lib.hid hat
  obtain ⟨A', c', rfl, _, _⟩ : ∃ A' c', v' = .slice A' (n + m) c' ∧ n + m ≤ c' ∧ c' ≤ 9223372036854775807 := by
    rw [← flatX_append] at ho
    obtain ⟨A', c', h1, h2, h3, _⟩ := own2_form ho
    exact ⟨A', c', h1, h2, h3⟩
  clear ho hgr hat
  go_wp2
  go_ret
  have ho := HO.out
  rw [← flatX_append, ← HR.out] at ho
  exact got_at ho ((Far.refl _ w).grown HG.out fun k hk => .inl hk) HA.out
/-- slices.Insert of what lies elsewhere -/
theorem insert_any (w : World) {v u : Value} {n m i : Nat} {l M : List Ex} (h : w.ownsRow 0 98 2 v n (flatX l)) (hv : w.ownsRow 0 98 2 u m (flatX M)) (hne : ∀ k, v.ownBlock = some k → u.ownBlock ≠ some k) (hi : i ≤ n) (hm : 0 < m) (hbig : n + m ≤ 4000000) :
    Calls Try.prog 88 #[v, .int .i64 i, u] w (Got w v (l.take i ++ M ++ l.drop i)) := by
  have hl : l.length = n := by obtain ⟨_, _, _, _, _, h1⟩ := own2_form h; exact h1
  by_cases e : i = n
  · subst e
    have := insert_end w h hv hm hbig
    rw [List.take_of_length_le (by omega), List.drop_of_length_le (by omega), List.append_nil]
    exact this
  · rcases own2_of h with ⟨_, h0, _⟩ | ⟨g, cap, cur, rfl, h1⟩
    · omega
    · rcases own2_of hv with ⟨_, h0, _⟩ | ⟨gv, cv, curv, rfl, h2⟩
      · omega
      · have hne' : gv ≠ g := fun e => hne g rfl (by rw [e]; rfl)
        rcases Nat.lt_or_ge cap (n + m) with h3 | h3
        · exact insert_grow w h1 h2 (by omega) hm h3 hbig
        · exact insert_shift w h1 h2 hne' (by omega) hm h3 hbig
end Go.Proofs.Ytbkgpilmgllkiaa
