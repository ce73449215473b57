/- varint.Take and the reference's Take, at whatever place: both answer takeR; for slices of at most 100000 bytes. -/
import Derived.Test.YtdjmjabbjjcgiaaRtakes
namespace Go.Proofs.Ytdjmjabbjjcgiaa
open Go.ChangeShapes Go.WideShapes Go.ChangeAt Go.RowKit

def takeR (l : List Nat) (n : Nat) (i : Int) : Nat × Nat × Nat :=
  if i < 0 ∨ (n : Int) < i then (0, 0, 1) else ((scan (l.drop i.toNat) 0 0).1, i.toNat + (scan (l.drop i.toNat) 0 0).2.1, (scan (l.drop i.toNat) 0 0).2.2)
theorem scan_le : ∀ (l : List Nat) (p x : Nat), (scan l p x).2.1 ≤ p + l.length
  | [], p, x => by simp [scan]
  | c :: r, p, x => by
    unfold scan
    split
    · split
      · simp
      · have := scan_le r (p + 1) (x + c % 128 * 128 ^ p)
        simp only [List.length_cons]; omega
    · simp
theorem takeR_le {l : List Nat} {n : Nat} {i : Int} (hl : l.length = n) : (takeR l n i).2.1 ≤ n := by
  unfold takeR
  split
  · simp
  · have := scan_le (l.drop i.toNat) 0 0
    simp only [List.length_drop] at this
    simp only []
    omega
def tup (r : Nat × Nat × Nat) : Ending := .returned (.tuple #[.int .u64 r.1, .int .i64 r.2.1, .int .i64 r.2.2])

set_option maxHeartbeats 400000 in
set_option maxRecDepth 100000 in
theorem take_out (a : Option Addr) (n cap : Nat) (i : Int) (w : World) (hi : i < 0 ∨ (n : Int) < i) :
    Calls Try.prog 44 #[.slice a n cap, .int .i64 i] w fun e w' => e = .returned (.tuple #[.int .u64 0, .int .i64 0, .int .i64 1]) ∧ w = w' := by
  rcases hi with hi | hi
  · have g1 : decide (i < 0) = true := by simp; omega
    go_enter Try.func44, Try.ntmps44
    go_wp2
    go_ret3
    exact ⟨rfl, rfl⟩
  · have g1 : decide (i < 0) = false := by simp; omega
    have g2 : decide ((n : Int) < i) = true := by simp; omega
    go_enter Try.func44, Try.ntmps44
    go_wp2
    go_ret3
    exact ⟨rfl, rfl⟩

set_option maxHeartbeats 400000 in
set_option maxRecDepth 100000 in
theorem rtake_out (a : Option Addr) (n cap : Nat) (i : Int) (w : World) (hi : i < 0 ∨ (n : Int) < i) :
    Calls Try.prog 37 #[.slice a n cap, .int .i64 i] w fun e w' => e = .returned (.tuple #[.int .u64 0, .int .i64 0, .int .i64 1]) ∧ w = w' := by
  rcases hi with hi | hi
  · have g1 : decide (i < 0) = true := by simp; omega
    go_enter Try.func37, Try.ntmps37
    go_wp2
    go_ret3
    exact ⟨rfl, rfl⟩
  · have g1 : decide (i < 0) = false := by simp; omega
    have g2 : decide ((n : Int) < i) = true := by simp; omega
    go_enter Try.func37, Try.ntmps37
    go_wp2
    go_ret3
    exact ⟨rfl, rfl⟩

theorem take_all (a : Option Addr) (n cap : Nat) (l : List Nat) (i : Int) (w : World) (hl : Reads .u8 w w.heap.size a n l) (hn : n ≤ 100000) :
    Calls Try.prog 44 #[.slice a n cap, .int .i64 i] w fun e w' => e = tup (takeR l n i) ∧ ∃ m, w.drewN m = w' := by
  by_cases h : i < 0 ∨ (n : Int) < i
  · refine (take_out a n cap i w h).mono fun e w' ⟨he, hw⟩ => ⟨?_, 0, hw⟩
    rw [he, takeR, if_pos h]; rfl
  · obtain ⟨t, rfl⟩ := Int.eq_ofNat_of_zero_le (show 0 ≤ i by omega)
    refine (take_in a n cap l t w hl hn (by omega)).mono fun e w' ⟨he, hw⟩ => ⟨?_, hw⟩
    rw [he, takeR, if_neg h]; rfl

theorem rtake_all (a : Option Addr) (n cap : Nat) (l : List Nat) (i : Int) (w : World) (hl : Reads .u8 w w.heap.size a n l) (hn : n ≤ 100000) :
    Calls Try.prog 37 #[.slice a n cap, .int .i64 i] w fun e w' => e = tup (takeR l n i) ∧ ∃ m, w.drewN m = w' := by
  by_cases h : i < 0 ∨ (n : Int) < i
  · refine (rtake_out a n cap i w h).mono fun e w' ⟨he, hw⟩ => ⟨?_, 0, hw⟩
    rw [he, takeR, if_pos h]; rfl
  · obtain ⟨t, rfl⟩ := Int.eq_ofNat_of_zero_le (show 0 ≤ i by omega)
    refine (rtake_in a n cap l t w hl hn (by omega)).mono fun e w' ⟨he, hw⟩ => ⟨?_, hw⟩
    rw [he, takeR, if_neg h]; rfl
end Go.Proofs.Ytdjmjabbjjcgiaa
