/- What graph.Ordered and the reference's Ordered answer. -/
import Derived.Test.YtcfpoanlenjjlaaGraphSmall
import Derived.IntWalk
namespace Go.Proofs.Ytcfpoanlenjjlaa
open Go.ChangeShapes Go.WideShapes Go.ChangeAt Go.RowKit

theorem stepE_swap {l : List (Int × Int)} {k : Nat} {u v : Int} (h : l.getD k (0, 0) = (u, v)) (hlt : v < u) : stepE l k = false := by
  unfold stepE; rw [h]; simp; intro h2; omega
theorem stepE_zero {l : List (Int × Int)} {u v : Int} (h : l.getD 0 (0, 0) = (u, v)) (hle : u ≤ v) : stepE l 0 = true := by
  unfold stepE; rw [h]; simp [hle]
theorem stepE_pos {l : List (Int × Int)} {k : Nat} {u v c d : Int} (h : l.getD k (0, 0) = (u, v)) (h' : l.getD (k - 1) (0, 0) = (c, d)) (hk : 0 < k) (hle : u ≤ v) : stepE l k = !ltE (u, v) (c, d) := by
  unfold stepE; rw [h, h']
  have : decide (k = 0) = false := by simp; omega
  simp [hle, this]
theorem ordered_true {N : Int} {l : List (Int × Int)} {n : Nat} (hl : l.length = n) (hf : formed N l = true) (h : ∀ i, i < n → stepE l i = true) : ordered N l = true := by
  unfold ordered asc; rw [hf, hl, all_range_true h]; rfl
theorem ordered_false {N : Int} {l : List (Int × Int)} {n i : Nat} (hl : l.length = n) (hi : i < n) (h : stepE l i = false) : ordered N l = false := by
  unfold ordered asc; rw [hl, all_range_false hi h, Bool.and_false]

set_option maxHeartbeats 1600000 in
set_option maxRecDepth 100000 in
/-- What graph.Ordered answers. -/
theorem ordered_any (N : Int) (a : Option Addr) (n cap : Nat) (l : List (Int × Int)) (w : World) {B : Nat} (hN : I64 N) (hl : ReadsE w B a n l) (hB : B ≤ w.heap.size) (hcap : n ≤ 9223372036854775807) :
    Calls Try.prog 12 #[.agg #[.int .i64 N, .slice a n cap]] w fun e w' => e = .returned (.bool (ordered N l)) ∧ Below w.heap.size w w' := by
  have hNb := hN.bounds
  have HLEN := Lib.hid hl.1
  have HL0 := Lib.hid ((hl.keep ((Below.refl _ _).alloc hB (.cells #[.int .i64 N, .slice a n cap] 24))).mono (show B ≤ w.heap.size + 1 by omega))
  by_cases hf : formed N l = true
  · have HF := Lib.hid hf
    clear hf
    go_enter Try.func12, Try.ntmps12
    go_wp2_with fail
    refine (formed_any N a n cap l _ hN HL0.out (by simp) hcap).mono ?_; rintro e w1 ⟨rfl, hb1⟩
    rw [HF.out]
    have hb1' : Below (w.heap.size + 1) (w.alloc (.cells #[.int .i64 N, .slice a n cap] 24)) w1 := hb1.mono (by simp)
    obtain ⟨c0, c1⟩ := box2 hb1'
    have hsz : w.heap.size < w1.heap.size := by have := hb1'.size; simp at this; omega
    have HB1 := Lib.hid hb1'
    clear hb1 hb1'
    go_wp2
    go_loopw [11] (fun iv wr => ∃ k : Nat, k ≤ n ∧ iv = .int .i64 k ∧ Below (w.heap.size + 1) w1 wr ∧ Hid (∀ i, i < k → stepE l i = true)) (fun iv _ => n - (intOf iv).toNat)
    case atStart => exact ⟨0, by omega, rfl, Below.refl _ _, fun i hi => absurd hi (by omega)⟩
    case round =>
      obtain ⟨k, hk, rfl, hbw, HK⟩ := hrel
      have hb0 := HB1.out.trans hbw
      obtain ⟨c0, c1⟩ := box2 hb0
      have HB0 := Lib.hid hb0
      have hsz : w.heap.size < wr.heap.size := by have := hb0.size; simp at this; omega
      by_cases hlt : k < n
      · obtain ⟨b, off, u, v, rfl, hb, hu, hv, wu, wv, HE⟩ := (HL0.out.keep hb0).at_ hlt
        have hb2 : b < wr.heap.size := by omega
        have bu := wu.bounds
        have bv := wv.bounds
        clear hb0
        by_cases hsw : v < u
        · have HX : Hid (ordered N l = false) := ordered_false HLEN.out hlt (stepE_swap HE.out hsw)
          have g : decide (v < u) = true := by simp; omega
          go_wp2
          go_quiet (fail)
          go_wp2
          go_ret
          exact ⟨ret_bool HX.out.symm, below_drewN (((Below.refl _ _).alloc (Nat.le_refl _) _).trans (((HB0.out.mono (by omega))).alloc (by omega) _)) _⟩
        · have g : decide (v < u) = false := by simp; omega
          by_cases hk0 : k = 0
          · subst hk0
            have HS : Hid (stepE l 0 = true) := stepE_zero HE.out (by omega)
            simp only [Nat.zero_mul, Nat.add_zero] at hu hv
            go_wp2
            go_quiet (fail)
            go_wp2
            have HB2 := Lib.hid (below_drewN (hbw.alloc (o := .cells #[.int .i64 u, .int .i64 v] 37) (by omega)) nq)
            go_roundw
            case rel => exact ⟨1, by omega, by go_num, HB2.out, up_snoc HK.out HS.out⟩
            case measure => simp [intOf]; omega
          · obtain ⟨b', off', c, d, hbe, hbb, hu', hv', wc, wd, HE'⟩ := (HL0.out.keep (HB1.out.trans hbw)).at_ (show k - 1 < n by omega)
            injection hbe with hbe; injection hbe with e1 e2; subst e1; subst e2
            have HS : Hid (stepE l k = !ltE (u, v) (c, d)) := stepE_pos HE.out HE'.out (by omega) (by omega)
            have g2 : decide ((0 : Int) < (k : Int)) = true := by simp; omega
            have g3 : decide (0 < k) = true := by simp; omega
            obtain ⟨j, rfl⟩ : ∃ j, k = j + 1 := ⟨k - 1, by omega⟩
            rw [Nat.add_sub_cancel] at hu' hv'
            have hj0 : (0 : Int) ≤ (j : Int) := by omega
            have hj1 : (j : Int) < (n : Int) := by omega
            have hw1 : IntKind.i64.wrap ((j : Int) + 1 - 1) = (j : Int) := by rw [show (j : Int) + 1 - 1 = j by omega]; exact IntWalk.i64_in _ (by omega)
            have hw2 : IntKind.i64.wrap (j : Int) = (j : Int) := IntWalk.i64_in _ (by omega)
            go_wp2
            go_region_held3 (fun w' => w'.cell? ⟨w.heap.size, 1, none⟩ = some (.slice (some ⟨b, off, none⟩) n cap) ∧ w'.cell? ⟨wr.heap.size, 0, none⟩ = some (.int .i64 u) ∧ w'.cell? ⟨wr.heap.size, 1, none⟩ = some (.int .i64 v) ∧ w'.cell? ⟨b, off + j * 2, none⟩ = some (.int .i64 c) ∧ w'.cell? ⟨b, off + j * 2 + 1, none⟩ = some (.int .i64 d)) (first | go_keep | (go_split_ands; refine ⟨?_, ?_, ?_, ?_, ?_⟩ <;> (first | assumption | (rw [hb3.cell (by first | (simp; done) | (simp; omega))]; assumption)))) ((go_at_call 24; refine (ahead_any _ _ _ _ _).mono ?_; rintro e w2 ⟨rfl, hb3⟩))
            have hb4 : Below (w.heap.size + 1) w1 w2 := (below_drewN (hbw.alloc (o := .cells #[.int .i64 u, .int .i64 v] 37) (by omega)) 1).trans (hb3.mono (by simp; omega))
            have HB4 := Lib.hid hb4
            clear hb4 hb3
            go_wp2
            · have HX : Hid (ordered N l = false) := ordered_false HLEN.out hlt (by rw [HS.out]; simp_all)
              go_ret
              exact ⟨ret_bool HX.out.symm, (((Below.refl _ _).alloc (Nat.le_refl _) _).trans ((HB1.out.trans HB4.out).mono (by omega)))⟩
            · have HT : Hid (stepE l (j + 1) = true) := by unfold Hid; rw [HS.out]; simp_all
              go_roundw
              case rel => exact ⟨j + 2, by omega, by go_num, HB4.out, up_snoc HK.out HT.out⟩
              case measure => simp [intOf]; omega
      · obtain rfl : k = n := by omega
        have HX : Hid (ordered N l = true) := ordered_true HLEN.out HF.out HK.out
        go_wp2
        go_ret
        exact ⟨ret_bool HX.out.symm, (((Below.refl _ _).alloc (Nat.le_refl _) _).trans ((HB1.out.trans hbw).mono (by omega)))⟩
  · have HF : Hid (formed N l = false) := by unfold Hid; simpa using hf
    have HX : Hid (ordered N l = false) := by unfold Hid ordered; rw [HF.out]; rfl
    clear hf
    go_enter Try.func12, Try.ntmps12
    go_wp2_with fail
    refine (formed_any N a n cap l _ hN HL0.out (by simp) hcap).mono ?_; rintro e w1 ⟨rfl, hb1⟩
    rw [HF.out]
    go_wp2
    go_ret
    exact ⟨ret_bool HX.out.symm, ((Below.refl _ _).alloc (Nat.le_refl _) _).trans (hb1.mono (by simp))⟩

theorem keep_cells {w w2 : World} {B : Nat} (hb : Below B w w2) {p : Addr} {v : Value} (hp : p.block < B) (h : w.cell? p = some v) : w2.cell? p = some v := (hb.cell hp).trans h

set_option maxHeartbeats 1600000 in
set_option maxRecDepth 100000 in
/-- What the reference's Ordered answers. -/
theorem rordered_any (N : Int) (a : Option Addr) (n cap : Nat) (l : List (Int × Int)) (w : World) {B : Nat} (hN : I64 N) (hl : ReadsE w B a n l) (hB : B ≤ w.heap.size) (hcap : n ≤ 9223372036854775807) :
    Calls Try.prog 13 #[.agg #[.int .i64 N, .slice a n cap]] w fun e w' => e = .returned (.bool (ordered N l)) ∧ Below w.heap.size w w' := by
  have hNb := hN.bounds
  have HLEN := Lib.hid hl.1
  have HL0 := Lib.hid ((hl.keep ((Below.refl _ _).alloc hB (.cells #[.int .i64 N, .slice a n cap] 24))).mono (show B ≤ w.heap.size + 1 by omega))
  go_enter Try.func13, Try.ntmps13
  go_wp2
  go_loopw [3] (fun iv wr => ∃ k : Nat, k ≤ n ∧ iv = .int .i64 k ∧ Below (w.heap.size + 1) (w.alloc (.cells #[.int .i64 N, .slice a n cap] 24)) wr ∧ Hid (∀ i, i < k → stepE l i = true)) (fun iv _ => n - (intOf iv).toNat)
  case atStart => exact ⟨0, by omega, rfl, Below.refl _ _, fun i hi => absurd hi (by omega)⟩
  case round =>
    obtain ⟨k, hk, rfl, hbw, HK⟩ := hrel
    obtain ⟨c0, c1⟩ := box2 hbw
    have HBW := Lib.hid hbw
    have hsz : w.heap.size < wr.heap.size := by have := hbw.size; simp at this; omega
    by_cases hlt : k < n
    · obtain ⟨b, off, u, v, rfl, hb, hu, hv, wu, wv, HE⟩ := (HL0.out.keep hbw).at_ hlt
      have hb2 : b < wr.heap.size := by omega
      have bu := wu.bounds
      have bv := wv.bounds
      clear hbw
      by_cases hsw : v < u
      · have HX : Hid (ordered N l = false) := ordered_false HLEN.out hlt (stepE_swap HE.out hsw)
        have g : decide (v < u) = true := by simp; omega
        go_wp2
        go_quiet (fail)
        go_wp2
        go_ret
        exact ⟨ret_bool HX.out.symm, below_drewN (((Below.refl _ _).alloc (Nat.le_refl _) _).trans (HBW.out.mono (by omega))) _⟩
      · have g : decide (v < u) = false := by simp; omega
        by_cases hk0 : k = 0
        · subst hk0
          have HS : Hid (stepE l 0 = true) := stepE_zero HE.out (by omega)
          simp only [Nat.zero_mul, Nat.add_zero] at hu hv
          go_wp2
          go_quiet (fail)
          go_wp2
          have HB2 := Lib.hid (below_drewN HBW.out nq)
          go_roundw
          case rel => exact ⟨1, by omega, by go_num, HB2.out, up_snoc HK.out HS.out⟩
          case measure => simp [intOf]; omega
        · obtain ⟨b', off', c, d, hbe, hbb, hu', hv', wc, wd, HE'⟩ := (HL0.out.keep HBW.out).at_ (show k - 1 < n by omega)
          injection hbe with hbe; injection hbe with e1 e2; subst e1; subst e2
          have HS : Hid (stepE l k = !ltE (u, v) (c, d)) := stepE_pos HE.out HE'.out (by omega) (by omega)
          have g2 : decide ((0 : Int) < (k : Int)) = true := by simp; omega
          have g3 : decide (0 < k) = true := by simp; omega
          obtain ⟨j, rfl⟩ : ∃ j, k = j + 1 := ⟨k - 1, by omega⟩
          rw [Nat.add_sub_cancel] at hu' hv'
          have hj0 : (0 : Int) ≤ (j : Int) := by omega
          have hj1 : (j : Int) < (n : Int) := by omega
          have hj2 : (0 : Int) ≤ (j : Int) + 1 := by omega
          have hj3 : (j : Int) + 1 < (n : Int) := by omega
          have hw1 : IntKind.i64.wrap ((j : Int) + 1 - 1) = (j : Int) := by rw [show (j : Int) + 1 - 1 = j by omega]; exact IntWalk.i64_in _ (by omega)
          have hw2 : IntKind.i64.wrap (j : Int) = (j : Int) := IntWalk.i64_in _ (by omega)
          go_wp2
          go_region_held3 (fun w' => w'.cell? ⟨w.heap.size, 1, none⟩ = some (.slice (some ⟨b, off, none⟩) n cap) ∧ w'.cell? ⟨b, off + (j + 1) * 2, none⟩ = some (.int .i64 u) ∧ w'.cell? ⟨b, off + (j + 1) * 2 + 1, none⟩ = some (.int .i64 v) ∧ w'.cell? ⟨b, off + j * 2, none⟩ = some (.int .i64 c) ∧ w'.cell? ⟨b, off + j * 2 + 1, none⟩ = some (.int .i64 d)) (first | go_keep | (go_split_ands; refine ⟨?_, ?_, ?_, ?_, ?_⟩ <;> (first | assumption | (rw [hb3.cell (by first | (simp; done) | (simp; omega))]; assumption)))) ((go_at_call 25; refine (less_any _ _ _ _ _).mono ?_; rintro e w2 ⟨rfl, hb3⟩))
          have hb4 : Below (w.heap.size + 1) (w.alloc (.cells #[.int .i64 N, .slice (some ⟨b, off, none⟩) n cap] 24)) w2 := (below_drewN HBW.out 1).trans (hb3.mono (by simp; omega))
          have HB4 := Lib.hid hb4
          clear hb4 hb3
          go_wp2
          · have HX : Hid (ordered N l = false) := ordered_false HLEN.out hlt (by rw [HS.out]; simp_all)
            go_ret
            exact ⟨ret_bool HX.out.symm, (((Below.refl _ _).alloc (Nat.le_refl _) _).trans (HB4.out.mono (by omega)))⟩
          · have HT : Hid (stepE l (j + 1) = true) := by unfold Hid; rw [HS.out]; simp_all
            go_roundw
            case rel => exact ⟨j + 2, by omega, by go_num, HB4.out, up_snoc HK.out HT.out⟩
            case measure => simp [intOf]; omega
    · obtain rfl : k = n := by omega
      have HX : Hid (ordered N l = formed N l) := by unfold Hid ordered asc; rw [HLEN.out, all_range_true HK.out, Bool.and_true]
      go_wp2_with fail
      refine (rformed_any N a k cap l _ hN (HL0.out.keep HBW.out) (by omega) hcap).mono ?_; rintro e w1 ⟨rfl, hb1⟩
      have HB5 := Lib.hid (HBW.out.trans (hb1.mono (by omega)))
      go_wp2
      go_ret
      exact ⟨ret_bool HX.out.symm, (((Below.refl _ _).alloc (Nat.le_refl _) _).trans (HB5.out.mono (by omega)))⟩
end Go.Proofs.Ytcfpoanlenjjlaa
