/- What seal.Put answers: a new row of the sealed block's words, or ErrArg. -/
import Derived.Test.YtbkgpilmgllkiaaSealFn
import Derived.Test.YtbkgpilmgllkiaaRows2
namespace Go.Proofs.Ytbkgpilmgllkiaa
open Go.ChangeShapes Go.WideShapes Go.ChangeAt Go.RowKit

def vw (x : Nat) : Value := .int .u64 x
theorem map_set (l : List Nat) (k x : Nat) : (l.map vw).set k (vw x) = (l.set k x).map vw := by rw [List.map_set]
theorem lay_words (size : Nat) (l : List Nat) : splice (List.replicate size (Value.int .u64 0)) 0 (l.map vw) = (l ++ List.replicate (size - l.length) 0).map vw := by
  unfold splice
  rw [List.take_zero, List.nil_append, Nat.zero_add, List.length_map, List.drop_replicate, List.map_append, List.map_replicate]; rfl
theorem lay_tag {size tag : Nat} {l : List Nat} (h : l.length ≤ size - 2) (h2 : 2 ≤ size) : (l ++ List.replicate (size - l.length) 0).set (size - 2) tag = frontW size tag l ++ [0] := by
  have e : List.replicate (size - l.length) 0 = List.replicate (size - 2 - l.length) 0 ++ [0, 0] := by
    rw [show size - l.length = size - 2 - l.length + 2 by omega, ← List.replicate_append_replicate]; rfl
  rw [e, ← List.append_assoc, List.set_append_right _ _ (by simp; omega)]
  have e2 : size - 2 - (l ++ List.replicate (size - 2 - l.length) 0).length = 0 := by rw [List.length_append, List.length_replicate]; omega
  rw [e2]
  unfold frontW
  rw [List.append_assoc (l ++ _)]; rfl
theorem lay_last {size z : Nat} {F : List Nat} (h : F.length = size - 1) : (F ++ [0]).set (size - 1) z = F ++ [z] := by
  rw [List.set_append_right _ _ (by omega), h, Nat.sub_self]; rfl
theorem map_at {l : List Nat} {k : Nat} (h : k < l.length) : (l.map vw)[k]? = some (.int .u64 (l.getD k 0 : Nat)) := by
  rw [List.getElem?_map, List.getElem?_eq_getElem h, List.getD_eq_getElem?_getD, List.getElem?_eq_getElem h]; rfl
/-- a row of numbers is read as such, from its head on -/
theorem Row.words {w : World} {g n : Nat} {t : TypeId} {l : List Nat} (h : Row w g t (l.map vw)) (hn : n ≤ l.length) (hu : ∀ x ∈ l, (Lit.int .u64 (x : Nat)).wf = true) : Reads .u64 w w.heap.size (some ⟨g, 0, none⟩) n (l.take n) :=
  h.reads (by rw [List.length_take]; omega) (fun x hx => hu x (List.mem_of_mem_take hx)) (fun i hi => by
    rw [map_at (by omega)]
    congr 2
    rw [List.getD_eq_getElem?_getD, List.getD_eq_getElem?_getD, List.getElem?_take, if_pos hi]) h.lt

set_option maxHeartbeats 1600000 in
set_option maxRecDepth 100000 in
theorem put_ok (size ad tag : Nat) (a : Option Addr) (n c : Nat) (l : List Nat) (w : World) {B : Nat} (hl : Reads .u64 w B a n l) (hB : B ≤ w.heap.size) (h8 : 8 ≤ size) (h256 : size ≤ 256) (had : ad ≤ 9223372036854775807) (ht : tag < 18446744073709551616) (hn : n ≤ size - 2) :
    Calls Try.prog 78 #[.int .i64 size, .int .i64 ad, .int .u64 tag, .slice a n c] w fun e w' => e = .returned (.tuple #[.slice (some ⟨w.heap.size, 0, none⟩) size size, .int .i64 0]) ∧ Row w' w.heap.size 69 ((sealW size ad tag l).map vw) ∧ Below w.heap.size w w' := by
  obtain ⟨i0, hi, hz0, hz1, hz2⟩ := info_parts infoW
  have hlen := hl.1
  have hu : U64s l := fun x hx => u64_lt (hl.2.1 x hx)
  have HM : Hid (∀ w, Calls Try.prog 82 #[.int .i64 size, .int .i64 ad] w fun e w' => e = .returned (.bool true) ∧ w = w') := fun w => by
    have h := may_any size ad w
    have e : mayW size ad = true := by unfold mayW; simp; omega
    rwa [e] at h
  obtain ⟨s1, hs1⟩ : ∃ s1, s1 = size - 1 := ⟨_, rfl⟩
  obtain ⟨s2, hs2⟩ : ∃ s2, s2 = size - 2 := ⟨_, rfl⟩
  obtain ⟨num, hnum⟩ : ∃ num, num = n + 1 := ⟨_, rfl⟩
  have b1 : s1 + 1 ≤ size ∧ size ≤ s1 + 1 := by omega
  have b2 : s2 + 2 ≤ size ∧ size ≤ s2 + 2 := by omega
  have b3 : num ≤ n + 1 ∧ n + 1 ≤ num := by omega
  have hsub1 : (size : Int) - 1 = (s1 : Int) := by omega
  have hsub2 : (size : Int) - 2 = (s2 : Int) := by omega
  have hadd : (n : Int) + 1 = (num : Int) := by omega
  have hg : decide ((n : Int) > (s2 : Int)) = false := by simp; omega
  have HROW1 : Hid (∀ cs : List Value, cs = l.map vw → splice (List.replicate size (Value.int .u64 0)) 0 cs = (l ++ List.replicate (size - l.length) 0).map vw) := by
    rintro cs rfl; exact lay_words size l
  have HTAG : Hid (((l ++ List.replicate (size - l.length) 0).map vw).set s2 (vw tag) = (frontW size tag l ++ [0]).map vw) := by
    unfold Hid; rw [map_set, hs2, lay_tag (by omega) (by omega)]
  have hF := front_len (tag := tag) (pl := l) (size := size) (by omega) (by omega)
  have HLAST : Hid (∀ z, ((frontW size tag l ++ [0]).map vw).set s1 (vw z) = (frontW size tag l ++ [z]).map vw) := by
    intro z; rw [map_set, hs1, lay_last hF]
  have HSEAL : Hid (sealW size ad tag l = frontW size tag l ++ [lastW (frontW size tag l) num ad]) := by
    unfold Hid sealW; rw [hlen, hnum]
  have HFU := Lib.hid (front_u64 (size := size) hu ht)
  have HLEN1 : Hid ((l ++ List.replicate (size - l.length) 0).length = size) := by unfold Hid; simp; omega
  have HLENF : Hid ((frontW size tag l).length = s1) := by unfold Hid; rw [hF, hs1]
  have HL := Lib.hid hl
  have HLL := Lib.hid hlen
  rw [HSEAL.out]
  generalize hZE : lastW (frontW size tag l) num ad = z
  have HZE := Lib.hid hZE
  clear hZE
  generalize l ++ List.replicate (size - l.length) 0 = L1 at *
  generalize frontW size tag l = F at *
  clear hF hs1 hs2 hnum hlen hl hu HSEAL
  have hcut := fun W => run_head (P := Try.prog) W 71 69 i0 Try.underlying71 hi (some ⟨w.heap.size, 0, none⟩) size size s1 (by omega) .i64 (s1 : Int) rfl
  go_enter Try.func78, Try.ntmps78
  go_wp2_with fail
  refine (HM.out _).mono ?_; rintro e w1 ⟨rfl, rfl⟩
  go_wp2_with (with_reducible refine stopAt 23 ?_)
  unfold Hid
  refine wpList_make_row _ rfl _ _ 71 rfl 69 i0 (.int .u64 0) Try.underlying71 hi hz0 hz1 rfl .i64 .i64 _ _ size rfl rfl rfl rfl (by rw [hz2]; omega) (by omega) ?_
  intro w2 hr2 hb2 hs2
  have HR2 := Lib.hid hr2
  have HB2 := Lib.hid hb2
  clear hr2 hb2 hs2
  go_wp2_with (with_reducible refine stopAt 26 ?_)
  unfold Hid
  have HSRC := Lib.hid ((HL.out.keep (B := B) (w' := w2) ⟨HB2.out.os, HB2.out.tape, HB2.out.output, by have := HB2.out.size; omega, fun k hk => HB2.out.block k (by omega)⟩).source)
  refine wpList_copy_rows rfl _ _ 71 71 rfl 69 Try.underlying71 sizeW (by decide) (some ⟨w.heap.size, 0, none⟩) a size size n c rfl rfl w.heap.size 0 _ 69 HR2.out (l.map vw) (by rw [List.length_map, HLL.out, Nat.mul_one]; exact (Nat.min_eq_left (by omega)).symm) (fun h0 => ⟨rfl, HSRC.out (by have := HLL.out; rw [List.length_map] at h0; omega)⟩) (by rw [List.length_map, List.length_replicate, HLL.out]; omega) (fun v hv => by obtain ⟨x, _, rfl⟩ := List.mem_map.1 hv; rfl) ?_
  intro w3 hr3 hf3
  have HR3 : Hid (Row w3 w.heap.size 69 (L1.map vw)) := by
    have h := hr3.out
    rwa [HROW1.out _ rfl] at h
  have HB3 := Lib.hid (HB2.out.trans (hf3.out.below (by have := HB2.out.size; exact this) (fun b hb => by rw [hb]; exact Nat.le_refl _)))
  clear hr3 hf3
  have hc3 : w3.cell? ⟨w.heap.size, s2, none⟩ = some (.int .u64 (L1.getD s2 0 : Nat)) := by
    rw [HR3.out.cell]; exact map_at (by have := HLEN1.out; omega)
  have hz3 := HR3.out.free s2
  have i20 : (0 : Int) ≤ (s2 : Int) := by omega
  have i21 : (s2 : Int) < (size : Int) := by omega
  have i10 : (0 : Int) ≤ (s1 : Int) := by omega
  have i11 : (s1 : Int) < (size : Int) := by omega
  have HR4 : Hid (Row (w3.setCell ⟨w.heap.size, s2, none⟩ (.int .u64 tag)) w.heap.size 69 ((F ++ [0]).map vw)) := by
    have h := HR3.out.set s2 (vw tag)
    rw [HTAG.out] at h; exact h
  have HB4 : Hid (Below w.heap.size w (w3.setCell ⟨w.heap.size, s2, none⟩ (.int .u64 tag))) := HB3.out.setCell (Nat.le_refl _) _
  go_wp2_with fail
  have HRD := Lib.hid (HR4.out.words (n := s1) (by have := HLENF.out; simp; omega) (fun x hx => by
    rcases List.mem_append.1 hx with hx | hx
    · exact u64_wf (HFU.out x hx)
    · simp at hx; subst hx; exact u64_wf (by decide)))
  have HTK : Hid ((F ++ [0]).take s1 = F) := by unfold Hid; rw [← HLENF.out]; exact List.take_left' rfl
  generalize w3.setCell ⟨w.heap.size, s2, none⟩ (.int .u64 tag) = w4 at *
  rw [HTK.out] at HRD
  refine (lastw_any (some ⟨w.heap.size, 0, none⟩) s1 size F num ad w4 HRD.out (by omega) (by omega) had).mono ?_; rintro e w5 ⟨rfl, rfl⟩
  rw [HZE.out]
  have HZ := Lib.hid (HLAST.out z)
  have hc4 : w4.cell? ⟨w.heap.size, s1, none⟩ = some (.int .u64 ((F ++ [0]).getD s1 0 : Nat)) := by
    rw [HR4.out.cell]; exact map_at (by have := HLENF.out; simp; omega)
  have hz4 := HR4.out.free s1
  have HR5 : Hid (Row (w4.setCell ⟨w.heap.size, s1, none⟩ (.int .u64 z)) w.heap.size 69 ((F ++ [z]).map vw)) := by
    have h := HR4.out.set s1 (vw z)
    rw [HZ.out] at h; exact h
  have HB5 : Hid (Below w.heap.size w (w4.setCell ⟨w.heap.size, s1, none⟩ (.int .u64 z))) := HB4.out.setCell (Nat.le_refl _) _
  go_wp2
  go_ret2
  exact ⟨rfl, HR5.out, HB5.out⟩

set_option maxHeartbeats 1600000 in
set_option maxRecDepth 100000 in
theorem put_no (size ad : Int) (tag : Nat) (a : Option Addr) (n c : Nat) (w : World) (hno : ¬ (8 ≤ size ∧ size ≤ 256 ∧ 0 ≤ ad ∧ (n : Int) ≤ size - 2)) :
    Calls Try.prog 78 #[.int .i64 size, .int .i64 ad, .int .u64 tag, .slice a n c] w fun e w' => e = .returned (.tuple #[.slice none 0 0, .int .i64 1]) ∧ w = w' := by
  have HM := fun w => may_any size ad w
  by_cases h : mayW size ad = true
  · rw [h] at HM
    have HM := Lib.hid HM
    unfold mayW at h
    simp only [Bool.and_eq_true, decide_eq_true_eq] at h
    obtain ⟨s2, hs2⟩ : ∃ s2, s2 = size - 2 := ⟨_, rfl⟩
    have hsub2 : size - 2 = s2 := by omega
    have b2 : s2 + 2 ≤ size ∧ size ≤ s2 + 2 := by omega
    have hg : decide ((n : Int) > s2) = true := by simp; omega
    have hb : 6 ≤ s2 ∧ s2 ≤ 254 := by omega
    clear hs2 hno h
    go_enter Try.func78, Try.ntmps78
    go_wp2_with fail
    refine (HM.out _).mono ?_; rintro e w1 ⟨rfl, rfl⟩
    go_wp2
    go_ret2
    exact ⟨rfl, rfl⟩
  · have h : mayW size ad = false := by simpa using h
    rw [h] at HM
    have HM := Lib.hid HM
    clear h
    go_enter Try.func78, Try.ntmps78
    go_wp2_with fail
    refine (HM.out _).mono ?_; rintro e w1 ⟨rfl, rfl⟩
    go_wp2
    go_ret2
    exact ⟨rfl, rfl⟩
end Go.Proofs.Ytbkgpilmgllkiaa
