/- Two lists of words: slices.Equal, and the reference's Same. -/
import Derived.Test.YthdibijkiogpjaaManRead
namespace Go.Proofs.Ythdibijkiogpjaa
open Go.ChangeShapes Go.WideShapes Go.ChangeAt Go.RowKit

theorem take_ne {l m : List Nat} {i x y : Nat} (hx : x = l.getD i 0) (hy : y = m.getD i 0) (h : x ≠ y) : l ≠ m := by
  intro e; subst e; exact h (hx.trans hy.symm)
theorem take_more {l m : List Nat} {i n x : Nat} (hl : l.length = n) (hm : m.length = n) (hi : i < n) (hx : x = l.getD i 0) (hy : x = m.getD i 0) (h : l.take i = m.take i) : l.take (i + 1) = m.take (i + 1) := by
  rw [List.take_succ_eq_append_getElem (by omega), List.take_succ_eq_append_getElem (by omega), h]
  congr 2
  rw [List.getD_eq_getElem?_getD, List.getElem?_eq_getElem (by omega)] at hx hy
  exact hx.symm.trans hy
set_option maxRecDepth 100000 in
theorem wsame_any (a1 a2 : Option Addr) (n1 n2 c1 c2 : Nat) (l1 l2 : List Nat) (w : World) {B1 B2 : Nat} (h1 : Reads .u64 w B1 a1 n1 l1) (h2 : Reads .u64 w B2 a2 n2 l2) (hn : n1 ≤ 1000000) :
    Calls Try.prog 22 #[.slice a1 n1 c1, .slice a2 n2 c2] w fun e w' => e = .returned (.bool (decide (l1 = l2))) ∧ ∃ m, w' = w.drewN m := by
  by_cases hlen : n1 = n2
  · subst hlen
    have HL1 := Lib.hid h1.1
    have HL2 := Lib.hid h2.1
    go_enter Try.func22, Try.ntmps22
    go_wp2
    go_loopw [5] (fun iv wr => ∃ i : Nat, i ≤ n1 ∧ iv = .int .i64 (i : Int) ∧ (∃ m, wr = w.drewN m) ∧ Hid (l1.take i = l2.take i)) (fun iv _ => n1 - (intOf iv).toNat)
    case atStart => exact ⟨0, by omega, rfl, ⟨0, rfl⟩, by unfold Hid; simp⟩
    case round =>
      obtain ⟨i, hi, rfl, ⟨m, rfl⟩, HT⟩ := hrel
      by_cases hlt : i < n1
      · obtain ⟨b1, o1, x, rfl, hb1, d1, wx, hx⟩ := h1.at_ hlt
        obtain ⟨b2, o2, y, rfl, hb2, d2, wy, hy⟩ := h2.at_ hlt
        have hj0 : (0 : Int) ≤ (i : Int) := by omega
        have hj1 : (i : Int) < (n1 : Int) := by omega
        have d1' : ∀ q, (w.drewN q).cell? ⟨b1, o1 + i, none⟩ = some (.int .u64 (x : Nat)) := fun _ => d1
        have d2' : ∀ q, (w.drewN q).cell? ⟨b2, o2 + i, none⟩ = some (.int .u64 (y : Nat)) := fun _ => d2
        by_cases e : x = y
        · subst e
          have HT2 : Hid (l1.take (i + 1) = l2.take (i + 1)) := take_more HL1.out HL2.out hlt hx.out hy.out HT.out
          go_wp2
          go_quiet (fail)
          go_wp2
          go_roundw
          case rel => exact ⟨i + 1, by omega, by go_num, ⟨_, rfl⟩, HT2.out⟩
          case measure => simp [intOf]; omega
        · have g : ((x : Int) != (y : Int)) = true := by simp; omega
          have HNE : Hid (decide (l1 = l2) = false) := by
            unfold Hid; rw [decide_eq_false_iff_not]; exact take_ne hx.out hy.out e
          clear e
          go_wp2
          go_quiet (fail)
          go_wp2
          go_ret
          exact ⟨ret_bool HNE.out.symm, _, World.drewN_drewN _ _ _⟩
      · have HE : Hid (decide (l1 = l2) = true) := by
          unfold Hid; rw [decide_eq_true_eq]
          have h := HT.out
          rwa [List.take_of_length_le (by have := HL1.out; omega), List.take_of_length_le (by have := HL2.out; omega)] at h
        go_wp2
        go_ret
        exact ⟨ret_bool HE.out.symm, m, rfl⟩
  · have HNE : Hid (decide (l1 = l2) = false) := by
      unfold Hid; rw [decide_eq_false_iff_not]; intro e; exact hlen (by rw [← h1.1, ← h2.1, e])
    have g : ((n1 : Int) != (n2 : Int)) = true := by simp; omega
    clear hlen
    go_enter Try.func22, Try.ntmps22
    go_wp2
    go_ret
    exact ⟨ret_bool HNE.out.symm, 0, rfl⟩

set_option maxRecDepth 100000 in
theorem weq_any (a1 a2 : Option Addr) (n1 n2 c1 c2 : Nat) (l1 l2 : List Nat) (w : World) {B1 B2 : Nat} (h1 : Reads .u64 w B1 a1 n1 l1) (h2 : Reads .u64 w B2 a2 n2 l2) (hn : n1 ≤ 1000000) :
    Calls Try.prog 48 #[.slice a1 n1 c1, .slice a2 n2 c2] w fun e w' => e = .returned (.bool (decide (l1 = l2))) ∧ ∃ m, w' = w.drewN m := by
  by_cases hlen : n1 = n2
  · subst hlen
    have HL1 := Lib.hid h1.1
    have HL2 := Lib.hid h2.1
    go_enter Try.func48, Try.ntmps48
    go_wp2
    go_loopw [13] (fun iv wr => ∃ i : Nat, i ≤ n1 ∧ iv = .int .i64 (i : Int) ∧ (∃ m, wr = w.drewN m) ∧ Hid (l1.take i = l2.take i)) (fun iv _ => n1 - (intOf iv).toNat)
    case atStart => exact ⟨0, by omega, rfl, ⟨0, rfl⟩, by unfold Hid; simp⟩
    case round =>
      obtain ⟨i, hi, rfl, ⟨m, rfl⟩, HT⟩ := hrel
      by_cases hlt : i < n1
      · obtain ⟨b1, o1, x, rfl, hb1, d1, wx, hx⟩ := h1.at_ hlt
        obtain ⟨b2, o2, y, rfl, hb2, d2, wy, hy⟩ := h2.at_ hlt
        have hj0 : (0 : Int) ≤ (i : Int) := by omega
        have hj1 : (i : Int) < (n1 : Int) := by omega
        have d1' : ∀ q, (w.drewN q).cell? ⟨b1, o1 + i, none⟩ = some (.int .u64 (x : Nat)) := fun _ => d1
        have d2' : ∀ q, (w.drewN q).cell? ⟨b2, o2 + i, none⟩ = some (.int .u64 (y : Nat)) := fun _ => d2
        by_cases e : x = y
        · subst e
          have HT2 : Hid (l1.take (i + 1) = l2.take (i + 1)) := take_more HL1.out HL2.out hlt hx.out hy.out HT.out
          go_wp2
          go_quiet (fail)
          go_wp2
          go_roundw
          case rel => exact ⟨i + 1, by omega, by go_num, ⟨_, rfl⟩, HT2.out⟩
          case measure => simp [intOf]; omega
        · have g : ((x : Int) != (y : Int)) = true := by simp; omega
          have HNE : Hid (decide (l1 = l2) = false) := by
            unfold Hid; rw [decide_eq_false_iff_not]; exact take_ne hx.out hy.out e
          clear e
          go_wp2
          go_quiet (fail)
          go_wp2
          go_ret
          exact ⟨ret_bool HNE.out.symm, _, World.drewN_drewN _ _ _⟩
      · have HE : Hid (decide (l1 = l2) = true) := by
          unfold Hid; rw [decide_eq_true_eq]
          have h := HT.out
          rwa [List.take_of_length_le (by have := HL1.out; omega), List.take_of_length_le (by have := HL2.out; omega)] at h
        go_wp2
        go_ret
        exact ⟨ret_bool HE.out.symm, m, rfl⟩
  · have HNE : Hid (decide (l1 = l2) = false) := by
      unfold Hid; rw [decide_eq_false_iff_not]; intro e; exact hlen (by rw [← h1.1, ← h2.1, e])
    have g : ((n1 : Int) != (n2 : Int)) = true := by simp; omega
    clear hlen
    go_enter Try.func48, Try.ntmps48
    go_wp2
    go_ret
    exact ⟨ret_bool HNE.out.symm, 0, rfl⟩
end Go.Proofs.Ythdibijkiogpjaa
