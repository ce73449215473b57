/- What the laws' awake answers. -/
import Derived.Test.YtfihbfpdfkeppaaSealRef
namespace Go.Proofs.Ytfihbfpdfkeppaa
open Go.ChangeShapes Go.WideShapes Go.ChangeAt Go.RowKit

theorem nil_reads (w : World) (B : Nat) : Reads .u64 w B none 0 [] := ⟨rfl, by simp, fun h => absurd h (by omega)⟩
set_option maxHeartbeats 800000 in
set_option maxRecDepth 100000 in
theorem awake_any (w : World) : Calls Try.prog 8 #[] w fun e w' => e = .returned (.bool true) ∧ Below w.heap.size w w' := by
  have HP := Lib.hid (put_ok 8 0 5 none 0 0 [] w (nil_reads w 0) (Nat.zero_le _) (by omega) (by omega) (by omega) (by omega) (by omega))
  have h7 := seal_last (size := 8) (ad := 0) (tag := 5) (pl := []) (by simp) (by omega)
  have h6 := seal_tag (size := 8) (ad := 0) (tag := 5) (pl := []) (by simp) (by omega)
  have hl := seal_len (size := 8) (ad := 0) (tag := 5) (pl := []) (by simp) (by omega)
  unfold tagW at h6
  rw [hl] at h6
  obtain ⟨z, hz⟩ : ∃ z, z = lastW (frontW 8 5 []) (([] : List Nat).length + 1) 0 := ⟨_, rfl⟩
  have hdiv : (z : Int) / 4294967296 = 1 := by
    have h := last_div (l := frontW 8 5 []) (num := ([] : List Nat).length + 1) (ad := 0)
    rw [← hz] at h
    have h : z / 4294967296 = 1 := h
    omega
  rw [← hz] at h7
  have H7 : Hid ((sealW 8 0 5 []).getD 7 0 = z) := h7
  have H6 : Hid ((sealW 8 0 5 []).getD 6 0 = 5) := h6
  have HL := Lib.hid hl
  clear h7 h6 hl hz
  generalize sealW 8 0 5 [] = S at *
  go_enter Try.func8, Try.ntmps8
  go_wp2_with fail
  refine HP.out.mono ?_; rintro e w1 ⟨rfl, hr, hb⟩
  have c7 : w1.cell? ⟨w.heap.size, 7, none⟩ = some (.int .u64 (z : Nat)) := by
    rw [hr.cell, map_at (by have := HL.out; omega), H7.out]
  have c6 : w1.cell? ⟨w.heap.size, 6, none⟩ = some (.int .u64 (5 : Nat)) := by
    rw [hr.cell, map_at (by have := HL.out; omega), H6.out]
  have HB := Lib.hid hb
  clear hr hb
  go_wp2
  go_ret
  exact ⟨rfl, HB.out⟩
end Go.Proofs.Ytfihbfpdfkeppaa
