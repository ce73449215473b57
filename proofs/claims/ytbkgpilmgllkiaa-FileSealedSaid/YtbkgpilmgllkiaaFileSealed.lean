/-
  FileSealed: whatever tuples, block and words; no condition.
-/
import Derived.Test.YtbkgpilmgllkiaaRows
import Derived.Test.YtbkgpilmgllkiaaFilePart
import Derived.WalkKit
import Derived.ProofKit
import Derived.OpenShut
import Derived.ShutString
import Derived.ChangeOld
import Derived.Below
namespace Go.Proofs.Ytbkgpilmgllkiaa.fileSealed
open Go.ChangeShapes Go.WideShapes Go.ChangeAt Go.RowKit
open Go.ChangeMaps (open_string shut_string)
set_option linter.unusedVariables false

theorem own : ownKnob Try.prog.godebug = none := by kernel_rfl
theorem laidOut : laidOutB Try.prog = true := by kernel_rfl

/-- others' words -/
def othersW (x y : Nat) : List Nat := [x, x, 0, 0, 0, 0, 0, 0, y]
theorem others_bad (x y ad : Nat) (m : Nat) : ¬ (okW (othersW x y) ad = true ∧ tagW (othersW x y) = 2 ∧ numW (othersW x y) - 1 = m) := fun h => by
  have := h.2.1
  simp [tagW, othersW] at this
/-- what the device holds behind the write -/
def SealD (Dw : St) (nb kk : Nat) (l : List Tup) (x y : Nat) : Prop := Dw.size = 9 ∧ Calm Dw ∧ Dw.blocks = 500 ∧ (∀ j, j < nb → j ≠ kk → Dw.now (j : Nat) = sealW 9 j 2 (payT 3 2 l j)) ∧ Dw.now (kk : Nat) = othersW x y
/-- i tuples were told -/
def SealAt (w : World) (p : Wp) (A : Ar) (S : Sp) (Dw : St) (rs : List (Nat × TypeId × List Value)) (x nb len b g : Nat) (l : List Tup) (N i : Nat) (W : World) : Prop :=
  ∃ D ws, (D.size = Dw.size ∧ Calm D ∧ D.blocks = Dw.blocks ∧ ∀ z, D.now z = Dw.now z) ∧ RBase w p ⟨D, A, S⟩ (N + i) rs x ⟨2, 3, 0, nb, len, i, b, g⟩ ws W ∧ (i % 3 ≠ 0 → ws.take (min 3 (len - i / 3 * 3) * 2) = payT 3 2 l (i / 3))
theorem seal_rt {nb len b g i sz : Nat} (hs : sz = 9) (hl : len ≤ 200) (hi : i ≤ len) : RtOk ⟨2, 3, 0, nb, len, i, b, g⟩ sz := ⟨by simp, by rw [hs]; simp, by omega, ⟨by show len ≤ 100000000; omega, hi⟩, by simp⟩
theorem seal_next {w W : World} {p : Wp} {A : Ar} {S : Sp} {Dw : St} {rs : List (Nat × TypeId × List Value)} {x nb kk len b g : Nat} {l : List Tup} {N i u y : Nat} (hD : SealD Dw nb kk l u y) (h : SealAt w p A S Dw rs x nb len b g l N i W) (hN : N + i < 1000000) (hl : len ≤ 200) (hlen : l.length = len) (hi : i < kk * 3) (hk : kk < nb) (hnb : nb = blocksN 3 len) {t : Tup} (ht : l[i]? = some t) (hto : TupOk t) (htf : fitsT 2 t = true) :
    Calls Try.prog 31 #[.pointer (some ⟨x, 0, none⟩)] W fun e w' => e = .returned (.tuple #[.agg #[.int .i64 t.a, .int .i64 t.b, .int .i64 t.c, .int .i64 t.d, .int .i64 t.e], .bool true, .int .i64 0]) ∧ SealAt w p A S Dw rs x nb len b g l N (i + 1) w' := by
  obtain ⟨D, ws, ⟨d1, d2, d3, d4⟩, h1, h2⟩ := h
  obtain ⟨s1, s2, s3, s4, s5⟩ := hD
  have hlt : i < len := by rw [← hlen]; exact (List.getElem?_eq_some_iff.1 ht).1
  have hj : i / 3 < kk := by omega
  have hri : right D ((0 + i / 3 : Nat) : Int) = true := by
    unfold right
    rw [d3, s3]
    have := blocks_le 3 len
    have hq : i / 3 < 500 := by omega
    generalize i / 3 = z at hq
    simp; omega
  have hro := read_ok d2 hri
  refine (rbase_next h1 hN (seal_rt (d1.trans s1) hl (by omega)) (l := l) hlen hlt (fun _ => ⟨by show (read D ((0 + i / 3 : Nat) : Int)).1 = 0; rw [hro], ?_⟩) h2 ht hto htf).mono ?_
  · show D.now ((0 + i / 3 : Nat) : Int) = sealW D.size (0 + i / 3) 2 (payT 3 2 l (i / 3))
    rw [d4, d1, s1, Nat.zero_add]
    exact s4 _ (by omega) (by omega)
  · rintro e w' ⟨he, ws', h3, h4⟩
    have e1 : ∀ z, (nextD D ⟨2, 3, 0, nb, len, i, b, g⟩).now z = D.now z := fun z => by unfold nextD; split; exact (now_read _ _ z).1; rfl
    have e2 : Calm (nextD D ⟨2, 3, 0, nb, len, i, b, g⟩) := by
      unfold nextD; split
      · show Calm (read D ((0 + i / 3 : Nat) : Int)).2
        rw [hro]; exact d2
      · exact d2
    have e3 : (nextD D ⟨2, 3, 0, nb, len, i, b, g⟩).size = D.size ∧ (nextD D ⟨2, 3, 0, nb, len, i, b, g⟩).blocks = D.blocks := by
      unfold nextD; split
      · exact (now_read _ _ 0).2
      · exact ⟨rfl, rfl⟩
    refine ⟨he, _, ws', ⟨e3.1.trans d1, e2, e3.2.trans d3, fun z => (e1 z).trans (d4 z)⟩, h3, fun h5 => ?_⟩
    rw [div_succ_ne (by omega) h5]; exact h4
theorem seal_end {w W : World} {p : Wp} {A : Ar} {S : Sp} {Dw : St} {rs : List (Nat × TypeId × List Value)} {x nb kk len b g : Nat} {l : List Tup} {N u y : Nat} (hD : SealD Dw nb kk l u y) (h : SealAt w p A S Dw rs x nb len b g l N (kk * 3) W) (hN : N + kk * 3 < 1000000) (hl : len ≤ 200) (hk : kk < nb) (hnb : nb = blocksN 3 len) (hst : wordsAt A.st b = some 9) :
    Calls Try.prog 31 #[.pointer (some ⟨x, 0, none⟩)] W fun e w' => e = .returned (.tuple #[.agg #[.int .i64 0, .int .i64 0, .int .i64 0, .int .i64 0, .int .i64 0], .bool false, .int .i64 6]) ∧ RShut w' x p ⟨2, 3, 0, nb, len, kk * 3, b, g⟩ ∧ ∃ D', Base w p ⟨D', release A b 9, S⟩ (N + kk * 3 + 1) rs w' := by
  obtain ⟨D, ws, ⟨d1, d2, d3, d4⟩, h1, h2⟩ := h
  obtain ⟨s1, s2, s3, s4, s5⟩ := hD
  have hl0 : 0 < len := by
    rcases Nat.eq_zero_or_pos len with h0 | h0
    · rw [hnb, h0, blocks_zero] at hk; omega
    · exact h0
  have hlt : kk * 3 < len := by
    have := (blocks_last (h := 3) (c := len) (by omega) hl0).1
    rw [← hnb] at this
    have := Nat.mul_le_mul_right 3 (show kk ≤ nb - 1 by omega)
    omega
  have hdv : kk * 3 / 3 = kk := by omega
  have hri : right D ((0 + kk * 3 / 3 : Nat) : Int) = true := by
    unfold right
    rw [d3, s3, hdv]
    have := blocks_le 3 len
    simp; omega
  have hro := read_ok d2 hri
  have hsz9 : D.size = 9 := d1.trans s1
  have := rbase_fault h1 hN (seal_rt hsz9 hl (Nat.le_of_lt hlt)) (by show wordsAt A.st b = some D.size; rw [hsz9]; exact hst) hlt (by show kk * 3 % 3 = 0; omega) (by show (read D ((0 + kk * 3 / 3 : Nat) : Int)).1 = 0; rw [hro]) (by
    show ¬ (okW (D.now ((0 + kk * 3 / 3 : Nat) : Int)) (0 + kk * 3 / 3) = true ∧ tagW (D.now ((0 + kk * 3 / 3 : Nat) : Int)) = 2 ∧ numW (D.now ((0 + kk * 3 / 3 : Nat) : Int)) - 1 = min 3 (len - kk * 3 / 3 * 3) * 2)
    rw [d4, hdv, Nat.zero_add, s5]
    exact others_bad u y kk _)
  refine this.mono ?_
  rintro e w' ⟨he, hsh, D', hb⟩
  have hb' : Base w p ⟨D', release A b D.size, S⟩ (N + kk * 3 + 1) rs w' := hb
  rw [hsz9] at hb'
  exact ⟨he, hsh, D', hb'⟩


set_option maxHeartbeats 4000000 in
set_option maxRecDepth 100000 in
theorem walk (a0 : Option Addr) (len0 cap0 : Nat) (l0 : List Tup) (a1 : Int) (a2 : Int) (w : World) (wr0 : ReadsT w w.heap.size a0 len0 l0) (wm0 : len0 ≤ maxLen) (w1 : (Lit.int .u8 a1).wf = true) (w2 : (Lit.int .u64 a2).wf = true) :
    Calls Try.prog 6 #[.slice a0 len0 cap0, .int .u8 a1, .int .u64 a2] w fun e w' => e = .returned (.bool true) ∧ Below w.heap.size w w' := by
  have HAWK : Hid (∀ W, Calls Try.prog 10 #[] W fun e w' => e = .returned (.bool true) ∧ Below W.heap.size W w') := fun W => awake_any W
  obtain ⟨u1, rfl⟩ := Int.eq_ofNat_of_zero_le (show 0 ≤ a1 by have := bounds_u8 w1; omega)
  obtain ⟨u2, rfl⟩ := Int.eq_ofNat_of_zero_le (show 0 ≤ a2 by have := bounds_u64 w2; omega)
  have b1 : u1 ≤ 255 := by have := bounds_u8 w1; omega
  have b2 : u2 < 18446744073709551616 := by have := bounds_u64 w2; omega
  have HLR := Lib.hid wr0
  have HLEN : Hid (l0.length = len0) := wr0.1
  have hm2 : len0 ≤ 9223372036854775807 := by unfold maxLen at wm0; omega
  have WM := Lib.hid wm0
  have HWK : Hid (∀ W, Calls Try.prog 9 #[.agg #[.int .i64 9, .int .i64 500, .int .i64 1000]] W fun e w' => ∃ p G, e = .returned (.tuple #[.pointer (some ⟨p.w, 0, none⟩), .bool true]) ∧ Sys w' G p (placeF 9 500 1000) 0 ∧ (∀ k, G k → W.heap.size ≤ k) ∧ Below W.heap.size W w') := fun W => by
    refine (work_any 9 500 1000 W (I64.of (by omega) (by omega)) (I64.of (by omega) (by omega)) (I64.of (by omega) (by omega))).mono ?_
    rintro e w' (⟨hno, _⟩ | ⟨_, h⟩)
    · exact absurd ⟨⟨by omega, by omega⟩, ⟨by omega, by omega⟩, by omega⟩ hno
    · exact h
  clear wr0 wm0 w1 w2
  go_enter Try.func6, Try.ntmps6
  go_wp2_with fail
  refine (HWK.out _).mono ?_
  rintro e w2 ⟨p, G, rfl, hs, hG, hb⟩
  have hB2 : Base w p (placeF 9 500 1000) 0 [] w2 := ⟨G, hs, hG, hb, fun r hr => by cases hr⟩
  have HBASE := Lib.hid hB2
  clear hs hG hb hB2 HWK
  go_wp2_with fail
  refine (HAWK.out _).mono ?_; rintro e w3 ⟨rfl, hb⟩
  have HB3 := Lib.hid (HBASE.out.below hb)
  clear hb HBASE
  by_cases hz : len0 = 0
  case pos =>
    have g5 : ((len0 : Int) == 0) = true := by simp; omega
    clear hz
    go_wp2_with fail
    refine (HAWK.out _).mono ?_; rintro e w4 ⟨rfl, hb⟩
    have HB4 := Lib.hid ((HB3.out.below hb).bel)
    clear hb
    go_wp2
    go_ret
    exact ⟨rfl, HB4.out⟩
  case neg =>
  have g4 : ((len0 : Int) == 0) = false := by simp; omega
  by_cases h200 : len0 ≤ 200
  case neg =>
    have g5 : decide ((len0 : Int) > 200) = true := by simp; omega
    go_wp2_with fail
    refine (HAWK.out _).mono ?_; rintro e w4 ⟨rfl, hb⟩
    have HB4 := Lib.hid ((HB3.out.below hb).bel)
    clear hb
    go_wp2
    go_ret
    exact ⟨rfl, HB4.out⟩
  case pos =>
  have g5 : decide ((len0 : Int) > 200) = false := by simp; omega
  have HRA : Hid (Calls Try.prog 18 #[.slice a0 len0 cap0, .int .i64 2] w3 fun e w' => e = .returned (.bool (l0.all (fitsT 2))) ∧ Below w3.heap.size w3 w') := rall_any a0 len0 cap0 l0 2 w3 ((HLR.out.keep HB3.out.bel).mono HB3.out.size) (by omega) WM.out
  have HALL : Hid (l0.all (fitsT 2) = true → ∀ u ∈ l0, fitsT 2 u = true) := fun h => List.all_eq_true.1 h
  generalize l0.all (fitsT 2) = al at *
  go_wp2_with fail
  refine HRA.out.mono ?_; rintro e w4 ⟨rfl, hb⟩
  have HB4 := Lib.hid (HB3.out.below hb)
  clear hb HB3 HRA
  cases al
  case false =>
    go_wp2_with fail
    refine (HAWK.out _).mono ?_; rintro e w5 ⟨rfl, hb⟩
    have HB5 := Lib.hid ((HB4.out.below hb).bel)
    clear hb
    go_wp2
    go_ret
    exact ⟨rfl, HB5.out⟩
  case true =>
  have HFIT : Hid (∀ u ∈ l0, fitsT 2 u = true) := HALL.out (by trivial)
  clear HALL HAWK
  have HLAY : Hid (Calls Try.prog 11 #[.pointer (some ⟨p.w, 0, none⟩), .int .i64 2, .slice a0 len0 cap0] w4 fun e w' => ∃ (nb b : Nat) (D' : St) (S1 : Sp), e = .returned (.tuple #[.agg #[.int .i64 0, .int .i64 nb, .int .i64 2, .int .i64 len0], .int .i64 0]) ∧ nb = blocksN 3 len0 ∧ Wrote (fresh 9 500) D' nb ∧ StandsTo D' 0 2 3 l0 nb ∧ Base w p (LayE (placeF 9 500 1000) S1 b D') (0 + len0 + 1) [] w') := by
    refine (base_lay HB4.out 2 (c := cap0) HLR.out (by rw [HLEN.out]; omega)).mono ?_
    have hwa : WArgs (placeF 9 500 1000) 2 (l0.length : Int) := ⟨by show holdsI 9 2 ≠ 0; decide, by omega, by rw [HLEN.out]; omega⟩
    have hin : (((placeF 9 500 1000).S.first + (placeF 9 500 1000).S.blocks : Nat) : Int) ≤ (placeF 9 500 1000).D.blocks := placeF_range 9 500 1000 (by omega)
    rintro e w6 (⟨er, rfl, hwe, hbs⟩ | ⟨t, S1, ⟨_, hrr, htk, hth, htbl, htt, hf2, hqb⟩, ⟨rfl, ⟨u, hu, hf⟩, D', m', hD, hbs⟩ | ⟨er, D1, m', i', ws', rfl, hne, d1, d2, d3, d4, hbs⟩ | ⟨rfl, hall, D', hD, hst, hbs⟩⟩)
    · exfalso
      rcases hwe with ⟨_, h1⟩ | ⟨_, _, h1⟩ | ⟨_, _, _, h1, h2⟩
      · exact h1 hwa
      · exact absurd h1 (by show ¬ (1000 - 0 < 9); omega)
      · refine h2 0 (newsp_room ?_)
        exact Nat.le_trans (blocks_le _ _) (by rw [Int.toNat_natCast, HLEN.out]; show len0 ≤ 500; omega)
    · have e2 : t.k = 2 := by omega
      rw [e2, HFIT.out u hu] at hf; cases hf
    · have hc : Calm D1 := d1.calm (fresh_calm _ _)
      rw [d2, write_ok hc (d3 (taken_range HB4.out.sok htt hin)) d4] at hne
      exact absurd rfl hne
    · have e2 : t.k = 2 := by omega
      have e3 : t.h = 3 := hth
      have e4 : t.first = 0 := (newsp_taken (n := 500) htt).1
      refine ⟨t.blocks, t.b, D', S1, ?_, by rw [htbl, e3, HLEN.out], hD, ?_, by rw [HLEN.out] at hbs; exact hbs⟩
      · rw [e2, e4, HLEN.out]; rfl
      · rw [e2, e3, e4] at hst; exact hst
  go_wp2_with fail
  refine HLAY.out.mono ?_
  rintro e w6 ⟨nb, b, D', S1, rfl, hnb, hD, hst, hbs⟩
  have HNB := Lib.hid hnb
  have HD := Lib.hid hD
  have HST := Lib.hid hst
  have hnb0 : 0 < nb := by rw [hnb]; exact blocks_pos (by omega) (by omega)
  have hnb2 : nb ≤ 200 := by rw [hnb]; exact Nat.le_trans (blocks_le _ _) h200
  have HB7 := Lib.hid (hbs.alloc 30 (by decide) #[.int .i64 0, .int .i64 nb, .int .i64 2, .int .i64 len0])
  clear hnb hD hst hbs HLAY HB4
  obtain ⟨kk, hkk⟩ : ∃ kk, kk = u1 % nb := ⟨_, rfl⟩
  have hkn : kk < nb := by rw [hkk]; exact Nat.mod_lt _ hnb0
  have t1 : Int.tmod (u1 : Int) (nb : Int) = (kk : Int) := by rw [hkk]; rfl
  have hnz : ¬ ((nb : Int) = 0) := by omega
  have hz0 : (0 : Int) + (kk : Int) = (kk : Int) := by omega
  obtain ⟨y2, hy⟩ : ∃ y2, y2 = u2 % 4294967296 := ⟨_, rfl⟩
  have ty : Int.tmod (u2 : Int) 4294967296 = (y2 : Int) := by rw [hy]; rfl
  have my : (u2 : Int) % 4294967296 = (y2 : Int) := by rw [hy]; rfl
  have hyl : y2 < 4294967296 := by rw [hy]; exact Nat.mod_lt _ (by omega)
  clear hkk hy
  generalize hST7 : Base w p (LayE (placeF 9 500 1000) S1 b D') (0 + len0 + 1) [(w6.heap.size, 30, [.int .i64 0, .int .i64 nb, .int .i64 2, .int .i64 len0])] = ST7 at *
  replace hST7 := Lib.hid hST7
  have K7 : Hid (∀ W, ST7 W → W.cell? ⟨w6.heap.size, 0, none⟩ = some (.int .i64 0) ∧ W.cell? ⟨w6.heap.size, 1, none⟩ = some (.int .i64 nb) ∧ W.cell? ⟨w6.heap.size, 2, none⟩ = some (.int .i64 2) ∧ W.cell? ⟨w6.heap.size, 3, none⟩ = some (.int .i64 len0)) := fun W h => by
    rw [← hST7.out] at h
    have r2 := h.row (r := (w6.heap.size, 30, [.int .i64 0, .int .i64 nb, .int .i64 2, .int .i64 len0])) (by simp)
    exact ⟨r2.cell 0, r2.cell 1, r2.cell 2, r2.cell 3⟩
  have KB7 : Hid (∀ W W', ST7 W → Below W.heap.size W W' → ST7 W') := fun W W' h hb => by rw [← hST7.out] at h ⊢; exact h.below hb
  have CDV : Hid (∀ W, ST7 W → Calls Try.prog 25 #[.pointer (some ⟨p.w, 0, none⟩)] W fun e w' => e = .returned (.pointer (some ⟨p.d, 0, none⟩)) ∧ w' = W) := fun W h => by
    rw [← hST7.out] at h
    obtain ⟨G, h1, _⟩ := h
    exact wdev_any h1.row
  have h7 : ST7 (w6.alloc (.cells #[.int .i64 0, .int .i64 nb, .int .i64 2, .int .i64 len0] 30)) := HB7.out
  have HWR : Hid (∀ W, ST7 W → Row W (w6.heap.size + 1) 69 ((othersW u2 y2).map vw) → Calls Try.prog 28 #[.pointer (some ⟨p.d, 0, none⟩), .int .i64 kk, .slice (some ⟨w6.heap.size + 1, 0, none⟩) 9 9] W fun e w' => e = .returned (.int .i64 0) ∧ Base w p { LayE (placeF 9 500 1000) S1 b D' with D := (write D' (kk : Nat) (othersW u2 y2)).2 } (0 + len0 + 1 + 1) [(w6.heap.size, 30, [.int .i64 0, .int .i64 nb, .int .i64 2, .int .i64 len0])] w') := fun W h hr8 => by
    rw [← hST7.out] at h
    have hrd := hr8.words (n := 9) (by simp [othersW]) (fun y hy => u64_wf (by
      simp [othersW] at hy
      rcases hy with rfl | rfl | rfl <;> omega))
    rw [List.take_of_length_le (by simp [othersW])] at hrd
    have hc : Calm D' := HD.out.calm (fresh_calm _ _)
    have hri : right D' (kk : Nat) = true := by
      unfold right
      rw [HD.out.blocks]
      show (decide ((0 : Int) ≤ (kk : Int)) && decide ((kk : Int) < 500)) = true
      simp; omega
    have hw := base_write h (by omega) (kk : Int) (I64.of (by omega) (by omega)) (some ⟨w6.heap.size + 1, 0, none⟩) 9 9 (othersW u2 y2) hrd (Nat.le_refl _)
    have e0 : (write D' (kk : Nat) (othersW u2 y2)).1 = 0 := by rw [write_ok hc hri (by rw [HD.out.size]; rfl)]
    refine hw.mono ?_
    rintro e w' ⟨rfl, hb9⟩
    refine ⟨?_, hb9⟩
    show Ending.returned (.int .i64 (write D' (kk : Nat) (othersW u2 y2)).1) = _
    rw [e0]
  have hd7 : ST7 (w6.alloc (.cells #[.int .i64 0, .int .i64 nb, .int .i64 2, .int .i64 len0] 30)).drew := KB7.out _ _ h7 (below_drew (Below.refl _ _))
  obtain ⟨_, f1, _⟩ := K7.out _ h7
  have e6 : (w6.alloc (.cells #[.int .i64 0, .int .i64 nb, .int .i64 2, .int .i64 len0] 30)).heap.size = w6.heap.size + 1 := by simp
  have hx1 : ST7 ((w6.alloc (.cells #[.int .i64 0, .int .i64 nb, .int .i64 2, .int .i64 len0] 30)).drew.alloc (.cells #[.int .u64 u2, .int .u64 u2, .int .u64 0, .int .u64 0, .int .u64 0, .int .u64 0, .int .u64 0, .int .u64 0, .int .u64 y2] 69)) := KB7.out _ _ hd7 ((Below.refl _ _).alloc (Nat.le_refl _) _)
  have hx2 : Row ((w6.alloc (.cells #[.int .i64 0, .int .i64 nb, .int .i64 2, .int .i64 len0] 30)).drew.alloc (.cells #[.int .u64 u2, .int .u64 u2, .int .u64 0, .int .u64 0, .int .u64 0, .int .u64 0, .int .u64 0, .int .u64 0, .int .u64 y2] 69)) (w6.heap.size + 1) 69 ((othersW u2 y2).map vw) := by
    have h : Row ((w6.alloc (.cells #[.int .i64 0, .int .i64 nb, .int .i64 2, .int .i64 len0] 30)).drew.alloc (.cells #[.int .u64 u2, .int .u64 u2, .int .u64 0, .int .u64 0, .int .u64 0, .int .u64 0, .int .u64 0, .int .u64 0, .int .u64 y2] 69)) (w6.alloc (.cells #[.int .i64 0, .int .i64 nb, .int .i64 2, .int .i64 len0] 30)).drew.heap.size 69 ((othersW u2 y2).map vw) := heap_alloc_new _ _
    have e : (w6.alloc (.cells #[.int .i64 0, .int .i64 nb, .int .i64 2, .int .i64 len0] 30)).drew.heap.size = w6.heap.size + 1 := e6
    rw [e] at h; exact h
  have hy1 : ST7 ((w6.alloc (.cells #[.int .i64 0, .int .i64 nb, .int .i64 2, .int .i64 len0] 30)).alloc (.cells #[.int .u64 u2, .int .u64 u2, .int .u64 0, .int .u64 0, .int .u64 0, .int .u64 0, .int .u64 0, .int .u64 0, .int .u64 y2] 69)).drew := KB7.out _ _ h7 (below_drew ((Below.refl _ _).alloc (Nat.le_refl _) _))
  have hy2 : Row ((w6.alloc (.cells #[.int .i64 0, .int .i64 nb, .int .i64 2, .int .i64 len0] 30)).alloc (.cells #[.int .u64 u2, .int .u64 u2, .int .u64 0, .int .u64 0, .int .u64 0, .int .u64 0, .int .u64 0, .int .u64 0, .int .u64 y2] 69)).drew (w6.heap.size + 1) 69 ((othersW u2 y2).map vw) := by
    have h : Row ((w6.alloc (.cells #[.int .i64 0, .int .i64 nb, .int .i64 2, .int .i64 len0] 30)).alloc (.cells #[.int .u64 u2, .int .u64 u2, .int .u64 0, .int .u64 0, .int .u64 0, .int .u64 0, .int .u64 0, .int .u64 0, .int .u64 y2] 69)) (w6.alloc (.cells #[.int .i64 0, .int .i64 nb, .int .i64 2, .int .i64 len0] 30)).heap.size 69 ((othersW u2 y2).map vw) := heap_alloc_new _ _
    rw [e6] at h; exact h
  clear e6
  have KW7 : Hid (∀ W', Base w p { LayE (placeF 9 500 1000) S1 b D' with D := (write D' (kk : Nat) (othersW u2 y2)).2 } (0 + len0 + 1 + 1) [(w6.heap.size, 30, [.int .i64 0, .int .i64 nb, .int .i64 2, .int .i64 len0])] W' → W'.cell? ⟨w6.heap.size, 0, none⟩ = some (.int .i64 0) ∧ W'.cell? ⟨w6.heap.size, 1, none⟩ = some (.int .i64 nb) ∧ W'.cell? ⟨w6.heap.size, 2, none⟩ = some (.int .i64 2) ∧ W'.cell? ⟨w6.heap.size, 3, none⟩ = some (.int .i64 len0)) := fun W h => by
    have r2 := h.row (r := (w6.heap.size, 30, [.int .i64 0, .int .i64 nb, .int .i64 2, .int .i64 len0])) (by simp)
    exact ⟨r2.cell 0, r2.cell 1, r2.cell 2, r2.cell 3⟩
  generalize hSU : Base w p { LayE (placeF 9 500 1000) S1 b D' with D := (write D' (kk : Nat) (othersW u2 y2)).2 } (0 + len0 + 1 + 1) [(w6.heap.size, 30, [.int .i64 0, .int .i64 nb, .int .i64 2, .int .i64 len0])] = SU at *
  replace hSU := Lib.hid hSU
  clear h7 HB7
  go_wp2
  have hwk : IntKind.i64.wrap (kk : Int) = (kk : Int) := IntWalk.i64_in _ (by clear t1 hz0 ty my; omega)
  go_region_held3 (fun W => W.cell? ⟨w6.heap.size, 0, none⟩ = some (.int .i64 0) ∧ W.cell? ⟨w6.heap.size, 1, none⟩ = some (.int .i64 nb) ∧ W.cell? ⟨w6.heap.size, 2, none⟩ = some (.int .i64 2) ∧ W.cell? ⟨w6.heap.size, 3, none⟩ = some (.int .i64 len0)) (first | with_reducible exact K7.out _ (by assumption) | with_reducible exact KW7.out _ (by assumption))
    (first
      | (go_at_call 25; (with_reducible refine (CDV.out _ (by assumption)).mono ?_); rintro e w8 ⟨rfl, rfl⟩)
      | (go_at_call 28; (with_reducible refine (HWR.out _ (by assumption) (by assumption)).mono ?_); rintro e w9 ⟨rfl, h9⟩))
  all_goals
    have H9 := Lib.hid h9
    obtain ⟨f0, f1, f2, f3⟩ := KW7.out _ h9
    obtain ⟨Dw, hDw⟩ : ∃ Dw, Dw = (write D' (kk : Nat) (othersW u2 y2)).2 := ⟨_, rfl⟩
    have HSD : Hid (SealD Dw nb kk l0 u2 y2) := by
      have hc : Calm D' := HD.out.calm (fresh_calm _ _)
      have hri : right D' (kk : Nat) = true := by
        unfold right
        rw [HD.out.blocks]
        show (decide ((0 : Int) ≤ (kk : Int)) && decide ((kk : Int) < 500)) = true
        simp; omega
      have e0 : (write D' (kk : Nat) (othersW u2 y2)).1 = 0 := by rw [write_ok hc hri (by rw [HD.out.size]; rfl)]
      obtain ⟨q1, q2, q3, q4⟩ := now_write e0
      have q5 := (wrote_write e0).calm hc
      rw [← hDw] at q1 q2 q3 q4 q5
      refine ⟨q3.trans HD.out.size, q5, q4.trans HD.out.blocks, fun j hj hne => ?_, q1⟩
      rw [q2 _ (by omega)]
      have := HST.out j hj
      rw [Nat.zero_add, HD.out.size] at this
      exact this
    have HRD : Hid (Calls Try.prog 29 #[.pointer (some ⟨p.w, 0, none⟩), .agg #[.int .i64 0, .int .i64 nb, .int .i64 2, .int .i64 len0]] w9 fun e w' => ∃ x b2 g2 ws A, e = .returned (.tuple #[.pointer (some ⟨x, 0, none⟩), .int .i64 0]) ∧ (A.used = 9 ∧ wordsAt A.st b2 = some 9) ∧ RBase w p ⟨Dw, A, S1⟩ (0 + len0 + 1 + 1) [(w6.heap.size, 30, [.int .i64 0, .int .i64 nb, .int .i64 2, .int .i64 len0])] x ⟨2, 3, 0, nb, len0, 0, b2, g2⟩ ws w') := by
      have h := H9.out
      rw [← hSU.out] at h
      have hsz : ({ LayE (placeF 9 500 1000) S1 b D' with D := (write D' (kk : Nat) (othersW u2 y2)).2 } : Fs).D.size = 9 := by
        show (write D' (kk : Nat) (othersW u2 y2)).2.size = 9
        rw [← hDw]; exact HSD.out.1
      have hus : ({ LayE (placeF 9 500 1000) S1 b D' with D := (write D' (kk : Nat) (othersW u2 y2)).2 } : Fs).A.used = 0 := layE_used _ _ _ _
      have hrd := rbase_read h (fun q hq => by
        simp only [List.mem_singleton] at hq
        subst hq
        exact ⟨show (30 : Nat) ≠ 69 by decide, show (30 : Nat) ≠ 126 by decide⟩) 2 3 0 nb len0 (by rw [hsz]; rfl) (by omega) HNB.out (by omega) (by rw [hsz, hus]; show 9 ≤ 1000 - 0; omega)
      refine hrd.mono ?_
      rintro e w' ⟨x, b2, g2, ws, he, hq, hb⟩
      refine ⟨x, b2, g2, ws, grant ({ LayE (placeF 9 500 1000) S1 b D' with D := (write D' (kk : Nat) (othersW u2 y2)).2 } : Fs).A b2 9, he, ⟨?_, wordsAt_new _ _ _ hq⟩, ?_⟩
      · show ({ LayE (placeF 9 500 1000) S1 b D' with D := (write D' (kk : Nat) (othersW u2 y2)).2 } : Fs).A.used + 9 = 9
        rw [hus]
      · have hb' : RBase w p ⟨(write D' (kk : Nat) (othersW u2 y2)).2, grant ({ LayE (placeF 9 500 1000) S1 b D' with D := (write D' (kk : Nat) (othersW u2 y2)).2 } : Fs).A b2 ({ LayE (placeF 9 500 1000) S1 b D' with D := (write D' (kk : Nat) (othersW u2 y2)).2 } : Fs).D.size, S1⟩ (0 + len0 + 1 + 1) [(w6.heap.size, 30, [.int .i64 0, .int .i64 nb, .int .i64 2, .int .i64 len0])] x ⟨2, 3, 0, nb, len0, 0, b2, g2⟩ ws w' := hb
        rw [hsz] at hb'
        rw [hDw]; exact hb'
    have HSUZ : Hid True := True.intro
    clear hDw h9 hd7 hx1 hx2 hy1 hy2 HWR CDV KB7 K7 hST7 HST HD KW7 hSU H9 hwk t1 hz0 ty my hyl HSUZ hnz
    go_wp2_with fail
    refine HRD.out.mono ?_
    rintro e w10 ⟨x, b2, g2, ws, A, rfl, hA, hrb⟩
    have HA := Lib.hid hA
    have HAT0 : Hid (SealAt w p A S1 Dw [(w6.heap.size, 30, [.int .i64 0, .int .i64 nb, .int .i64 2, .int .i64 len0])] x nb len0 b2 g2 l0 (0 + len0 + 1 + 1) 0 w10) := ⟨Dw, ws, ⟨rfl, HSD.out.2.1, rfl, fun _ => rfl⟩, hrb, fun h => absurd (Nat.zero_mod _) h⟩
    clear hA hrb HRD f0 f1 f2 f3
    obtain ⟨k3, hk3⟩ : ∃ k3, k3 = kk * 3 := ⟨_, rfl⟩
    have hm3 : (kk : Int) * 3 = (k3 : Int) := by omega
    have HK3 := Lib.hid hk3
    have hk3b : k3 ≤ 600 := by omega
    have hk3l : k3 < len0 := by
      have h1 := (blocks_last (h := 3) (c := len0) (by omega) (by omega)).1
      rw [← HNB.out] at h1
      have := Nat.mul_le_mul_right 3 (show kk ≤ nb - 1 by omega)
      omega
    clear hk3
    go_wp2_with fail
    go_loopw [14] (fun iv wr => ∃ i : Nat, i ≤ k3 ∧ iv = .int .i64 (i : Int) ∧ Hid (SealAt w p A S1 Dw [(w6.heap.size, 30, [.int .i64 0, .int .i64 nb, .int .i64 2, .int .i64 len0])] x nb len0 b2 g2 l0 (0 + len0 + 1 + 1) i wr)) (fun iv _ => k3 - (intOf iv).toNat)
    case atStart => exact ⟨0, Nat.zero_le _, rfl, HAT0.out⟩
    case round =>
      obtain ⟨i, hi, rfl, HAT⟩ := hrel
      have HHO : Hid (Calls Try.prog 30 #[.pointer (some ⟨p.w, 0, none⟩), .int .i64 2] wr fun e w' => e = .returned (.int .i64 3) ∧ w' = wr) := by
        obtain ⟨D, ws, ⟨d1, _⟩, h1, _⟩ := HAT.out
        have h := rbase_holds h1 2
        have e1 : holdsI D.size 2 = 3 := by rw [d1, HSD.out.1]; rfl
        have e2 : (⟨D, A, S1⟩ : Fs).D.size = D.size := rfl
        rw [e2, e1] at h; exact h
      by_cases hlt : i < k3
      · have g0 : decide ((i : Int) < (k3 : Int)) = true := by simp; omega
        have hw0 : Below w.heap.size w wr := by obtain ⟨D, ws, _, h1, _⟩ := HAT.out; exact h1.bel
        obtain ⟨bb, off, t, rfl, hbl, q0, q1, q2, q3, q4, hto, ht⟩ := HLR.out.at_ (show i < len0 by omega)
        have HNX := Lib.hid (seal_next HSD.out HAT.out (by omega) h200 HLEN.out (by have := HK3.out; omega) hkn HNB.out ht.out hto (HFIT.out t (List.mem_of_getElem? ht.out)))
        have HCL : Hid (∀ W, Below w.heap.size w W → (W.cell? ⟨bb, off + i * 5, none⟩ = some (.int .i64 t.a) ∧ W.cell? ⟨bb, off + i * 5 + 1, none⟩ = some (.int .i64 t.b) ∧ W.cell? ⟨bb, off + i * 5 + 2, none⟩ = some (.int .i64 t.c) ∧ W.cell? ⟨bb, off + i * 5 + 3, none⟩ = some (.int .i64 t.d) ∧ W.cell? ⟨bb, off + i * 5 + 4, none⟩ = some (.int .i64 t.e))) := fun W hb => ⟨(hb.cell (p := ⟨bb, _, none⟩) hbl).trans q0, (hb.cell (p := ⟨bb, _, none⟩) hbl).trans q1, (hb.cell (p := ⟨bb, _, none⟩) hbl).trans q2, (hb.cell (p := ⟨bb, _, none⟩) hbl).trans q3, (hb.cell (p := ⟨bb, _, none⟩) hbl).trans q4⟩
        clear q0 q1 q2 q3 q4 hto hw0
        obtain ⟨ta, tb, tc, td, te⟩ := t
        simp only at HNX HCL
        go_wp2_with fail
        refine HHO.out.mono ?_; rintro e w11 ⟨rfl, rfl⟩
        clear HHO
        go_wp2_with fail
        refine HNX.out.mono ?_
        rintro e w12 ⟨rfl, hat⟩
        have hbt : Below w12.heap.size w12 (w12.alloc (.cells #[.int .i64 ta, .int .i64 tb, .int .i64 tc, .int .i64 td, .int .i64 te] 58)) := (Below.refl _ _).alloc (Nat.le_refl _) _
        have hrt : Row (w12.alloc (.cells #[.int .i64 ta, .int .i64 tb, .int .i64 tc, .int .i64 td, .int .i64 te] 58)) w12.heap.size 58 [.int .i64 ta, .int .i64 tb, .int .i64 tc, .int .i64 td, .int .i64 te] := heap_alloc_new _ _
        have hbw : Below w.heap.size w (w12.alloc (.cells #[.int .i64 ta, .int .i64 tb, .int .i64 tc, .int .i64 td, .int .i64 te] 58)) := by
          obtain ⟨D, ws, _, h1, _⟩ := hat
          exact h1.bel.trans (hbt.mono h1.bel.size)
        have HATN : Hid (∀ q, SealAt w p A S1 Dw [(w6.heap.size, 30, [.int .i64 0, .int .i64 nb, .int .i64 2, .int .i64 len0])] x nb len0 b2 g2 l0 (0 + len0 + 1 + 1) (i + 1) ((w12.alloc (.cells #[.int .i64 ta, .int .i64 tb, .int .i64 tc, .int .i64 td, .int .i64 te] 58)).drewN q)) := fun q => by
          obtain ⟨D, ws, h0, h1, h2⟩ := hat
          exact ⟨D, ws, h0, h1.below (below_drewN hbt q), h2⟩
        have d0' : ∀ q, ((w12.alloc (.cells #[.int .i64 ta, .int .i64 tb, .int .i64 tc, .int .i64 td, .int .i64 te] 58)).drewN q).cell? ⟨w12.heap.size, 0, none⟩ = some (.int .i64 ta) := fun _ => hrt.cell 0
        have d1' : ∀ q, ((w12.alloc (.cells #[.int .i64 ta, .int .i64 tb, .int .i64 tc, .int .i64 td, .int .i64 te] 58)).drewN q).cell? ⟨w12.heap.size, 1, none⟩ = some (.int .i64 tb) := fun _ => hrt.cell 1
        have d2' : ∀ q, ((w12.alloc (.cells #[.int .i64 ta, .int .i64 tb, .int .i64 tc, .int .i64 td, .int .i64 te] 58)).drewN q).cell? ⟨w12.heap.size, 2, none⟩ = some (.int .i64 tc) := fun _ => hrt.cell 2
        have d3' : ∀ q, ((w12.alloc (.cells #[.int .i64 ta, .int .i64 tb, .int .i64 tc, .int .i64 td, .int .i64 te] 58)).drewN q).cell? ⟨w12.heap.size, 3, none⟩ = some (.int .i64 td) := fun _ => hrt.cell 3
        have d4' : ∀ q, ((w12.alloc (.cells #[.int .i64 ta, .int .i64 tb, .int .i64 tc, .int .i64 td, .int .i64 te] 58)).drewN q).cell? ⟨w12.heap.size, 4, none⟩ = some (.int .i64 te) := fun _ => hrt.cell 4
        have f0' : ∀ q, ((w12.alloc (.cells #[.int .i64 ta, .int .i64 tb, .int .i64 tc, .int .i64 td, .int .i64 te] 58)).drewN q).cell? ⟨bb, off + i * 5, none⟩ = some (.int .i64 ta) := fun _ => (HCL.out _ hbw).1
        have f1' : ∀ q, ((w12.alloc (.cells #[.int .i64 ta, .int .i64 tb, .int .i64 tc, .int .i64 td, .int .i64 te] 58)).drewN q).cell? ⟨bb, off + i * 5 + 1, none⟩ = some (.int .i64 tb) := fun _ => (HCL.out _ hbw).2.1
        have f2' : ∀ q, ((w12.alloc (.cells #[.int .i64 ta, .int .i64 tb, .int .i64 tc, .int .i64 td, .int .i64 te] 58)).drewN q).cell? ⟨bb, off + i * 5 + 2, none⟩ = some (.int .i64 tc) := fun _ => (HCL.out _ hbw).2.2.1
        have f3' : ∀ q, ((w12.alloc (.cells #[.int .i64 ta, .int .i64 tb, .int .i64 tc, .int .i64 td, .int .i64 te] 58)).drewN q).cell? ⟨bb, off + i * 5 + 3, none⟩ = some (.int .i64 td) := fun _ => (HCL.out _ hbw).2.2.2.1
        have f4' : ∀ q, ((w12.alloc (.cells #[.int .i64 ta, .int .i64 tb, .int .i64 tc, .int .i64 td, .int .i64 te] 58)).drewN q).cell? ⟨bb, off + i * 5 + 4, none⟩ = some (.int .i64 te) := fun _ => (HCL.out _ hbw).2.2.2.2
        have hq : ∀ W, (binOp .neq 58 (.agg #[.int .i64 ta, .int .i64 tb, .int .i64 tc, .int .i64 td, .int .i64 te]) (.agg #[.int .i64 ta, .int .i64 tb, .int .i64 tc, .int .i64 td, .int .i64 te])).run Try.prog W = .ok (.bool false) W := fun W => by
          rw [neq_tup]; simp
        have hg := fun W x y => guard_tup W .neq x y #[.int .i64 ta, .int .i64 tb, .int .i64 tc, .int .i64 td, .int .i64 te] #[.int .i64 ta, .int .i64 tb, .int .i64 tc, .int .i64 td, .int .i64 te]
        have i0 : (0 : Int) ≤ (i : Int) := by omega
        have i1 : (i : Int) < (len0 : Int) := by omega
        clear hat HNX HAT hbt hrt hbw HCL
        go_wp2
        go_quiet (fail)
        go_wp2
        go_roundw
        case rel => exact ⟨i + 1, by omega, by go_num, HATN.out _⟩
        case measure => simp [intOf]; omega
      · obtain rfl : i = k3 := by omega
        have g0 : decide ((i : Int) < (i : Int)) = false := by simp
        have hat := HAT.out
        rw [HK3.out] at hat
        have HEN := Lib.hid (seal_end HSD.out hat (by have := HK3.out; omega) h200 hkn HNB.out HA.out.2)
        clear hat HAT
        go_wp2_with fail
        refine HHO.out.mono ?_; rintro e w11 ⟨rfl, rfl⟩
        clear HHO
        go_wp2_with fail
        refine HEN.out.mono ?_
        rintro e w12 ⟨rfl, hsh, D3, hb12⟩
        have hbz : Below w12.heap.size w12 (w12.alloc (.cells #[.int .i64 0, .int .i64 0, .int .i64 0, .int .i64 0, .int .i64 0] 58)) := (Below.refl _ _).alloc (Nat.le_refl _) _
        have HB13 := Lib.hid (hb12.below hbz)
        have HN2 := Lib.hid (fnext_shut (w := w12.alloc (.cells #[.int .i64 0, .int .i64 0, .int .i64 0, .int .i64 0, .int .i64 0] 58)) (p := p) (x := x) (r := ⟨2, 3, 0, nb, len0, kk * 3, b2, g2⟩) ⟨hsh.1.below hbz hsh.1.lt, hsh.2.below hbz hsh.2.lt⟩)
        have HUS : Hid ((⟨D3, release A b2 9, S1⟩ : Fs).A.used = 0) := by
          show A.used - 9 = 0
          rw [HA.out.1]
        clear hsh hb12 hbz HEN
        go_wp2_with fail
        refine HN2.out.mono ?_
        rintro e w14 ⟨rfl, hb⟩
        have HB14 := Lib.hid (HB13.out.below hb)
        have HB15 := Lib.hid (HB14.out.below ((Below.refl w14.heap.size w14).alloc (Nat.le_refl _) (.cells #[.int .i64 0, .int .i64 0, .int .i64 0, .int .i64 0, .int .i64 0] 58)))
        have HAR := Lib.hid (base_arena HB15.out)
        clear hb HB13 HN2
        go_wp2_with fail
        refine HAR.out.mono ?_; rintro e w16 ⟨rfl, h16⟩
        have h17 := base_used h16
        rw [HUS.out] at h17
        have H17 := Lib.hid h17
        clear h16 h17 HAR
        go_wp2_with fail
        refine H17.out.mono ?_; rintro e w18 ⟨rfl, h18⟩
        have HE := Lib.hid h18.bel
        clear h18
        go_wp2
        go_ret
        exact ⟨rfl, HE.out⟩

set_option maxRecDepth 100000 in
theorem lifted (os : Os) (started : os.Started) (H : Type) (enc : TypeId × Value → H) :
    ReturnsInHanded {} Try.checked os 6 .any (Rows.fileSealedSpec.pre6 enc Try.prog Try.f6 Rows.fileSealedRow.domain false) (Rows.fileSealedSpec.post enc Try.prog Try.f6 false true false false) := by
  refine returnsInHanded_of_change (C := Try.checked) own started (by kernel_rfl) Try.func6
    (ChangeSpec.witness6 (enc := enc) (C := Try.checked) false ⟨#[], #[.slice none 0 0, .int .u8 0, .int .u64 0], []⟩ 8 (by kernel_rfl) (by kernel_rfl) (by kernel_rfl) (by kernel_rfl)) ?_
  intro W base args ds gs before hval0 hW hcnd _
  have hval : ∀ (j : Nat) t v, Try.f6.params[j]? = some t → args[j]? = some v → Value.okWide Try.prog W .any base t v := hval0
  have hW' := hW
  obtain ⟨p, q, hA0, hV, rfl, hfz, hnd⟩ := hW
  have hA : DataW.TrodAll enc Try.prog W 0 (fun _ => true) true Try.f6.params.toList args.toList ds p := hA0
  rw [Try.params6] at hA hval
  obtain ⟨v0, vs0, d0, ds0, p0, q0, hargs, rfl, rfl, h0, r0⟩ := trodAll_cons hA
  obtain ⟨v1, vs1, d1, ds1, p1, q1, rfl, rfl, rfl, h1, r1⟩ := trodAll_cons r0
  obtain ⟨v2, vs2, d2, ds2, p2, q2, rfl, rfl, rfl, h2, r2⟩ := trodAll_cons r1
  obtain ⟨rfl, rfl, rfl⟩ := trodAll_nil r2
  obtain rfl : args = #[v0, v1, v2] := by cases args; simp_all
  obtain ⟨rfl, rfl⟩ := trodVars_none hV
  have k0 := h0
  have lt0 : ∀ x ∈ p0, x.block < W.heap.size := by obtain ⟨m, hm⟩ := k0; exact DataW.trod_lt m _ _ _ hm
  have k1 := h1
  have lt1 : ∀ x ∈ p1, x.block < W.heap.size := by obtain ⟨m, hm⟩ := k1; exact DataW.trod_lt m _ _ _ hm
  have k2 := h2
  have lt2 : ∀ x ∈ p2, x.block < W.heap.size := by obtain ⟨m, hm⟩ := k2; exact DataW.trod_lt m _ _ _ hm
  obtain ⟨a0, len0, cap0, rfl⟩ := okWide_slice Try.underlying24 (hval 0 24 v0 rfl rfl)
  obtain ⟨l0, wr0, wm0⟩ : ∃ l, ReadsT W W.heap.size a0 len0 l ∧ len0 ≤ maxLen := by
    obtain ⟨fuel, hf⟩ := h0
    obtain ⟨a', len', cap', l', he', hr', hm'⟩ := open_tups Try.underlying24 Try.underlying58 Try.underlying2 (by kernel_rfl) (by kernel_rfl) hf
    injection he' with e1 e2 e3
    subst e1; subst e2
    exact ⟨l', hr', hm'⟩
  obtain ⟨a1, rfl, rfl, rfl, w1⟩ := open_int Try.underlying5 (hval 1 5 v1 rfl rfl) h1
  obtain ⟨a2, rfl, rfl, rfl, w2⟩ := open_int Try.underlying69 (hval 2 69 v2 rfl rfl) h2
  clear hA0 hval0
  refine (walk a0 len0 cap0 l0 a1 a2 W wr0 wm0 w1 w2).mono fun e W' ⟨he, bel⟩ => ?_
  subst he
  exact ⟨_, rfl, _, _, _, [], _, [], hW', trodAll_mk1 (shut_bool Try.underlying4 _), (trodAll_cons_mk (Below.trod laidOut (by kernel_rfl) (of_decide_eq_true (by kernel_rfl)) k0 bel lt0) (trodAll_cons_mk (Below.trod laidOut (by kernel_rfl) (of_decide_eq_true (by kernel_rfl)) k1 bel lt1) (trodAll_cons_mk (Below.trod laidOut (by kernel_rfl) (of_decide_eq_true (by kernel_rfl)) k2 bel lt2) trodAll_mk0))), rfl, bel.frame _, fun h => by cases h⟩

theorem over : Rows.fileSealedRow.holds Try.pinned (OpenSpec.ofChange Rows.fileSealedSpec) :=
  OpenClaim.holds_of_wide 6 Try.f6 rfl rfl rfl rfl rfl rfl rfl ⟨rfl, rfl, rfl, rfl, rfl⟩ rfl rfl rfl rfl rfl (by kernel_rfl) Try.func6 (by kernel_rfl)
    (of_decide_eq_true (by kernel_rfl)) (by unfold Func.isWrapper; first | (rw [if_pos (by decide +kernel)]; kernel_rfl) | (rw [if_neg (by decide +kernel)]; exact ⟨rfl, rfl⟩))
    (fun os started H enc _ => lifted os started H enc)

theorem proved : Rows.FileSealedSaid := over
end Go.Proofs.Ytbkgpilmgllkiaa.fileSealed
