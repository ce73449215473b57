/-
  SealBack: whatever the payload, size, address and tag, what is put is got at its address; and with one half of one word turned it is refused; no condition.
-/
import Derived.Test.YtfihbfpdfkeppaaRows
import Derived.Test.YtfihbfpdfkeppaaSealLaw
import Derived.WalkKit
import Derived.ProofKit
import Derived.OpenShut
import Derived.ShutString
import Derived.ChangeOld
import Derived.Below
namespace Go.Proofs.Ytfihbfpdfkeppaa.sealBack
open Go.ChangeShapes Go.WideShapes Go.ChangeAt Go.RowKit
open Go.ChangeMaps (open_string shut_string)
set_option linter.unusedVariables false

theorem own : ownKnob Try.prog.godebug = none := by kernel_rfl
theorem laidOut : laidOutB Try.prog = true := by kernel_rfl


set_option maxHeartbeats 4000000 in
set_option maxRecDepth 100000 in
theorem walk (a0 : Option Addr) (len0 cap0 : Nat) (z0 : List Int) (a1_0 a1_1 : Int) (a2_0 a2_1 a2_2 : Int) (w : World) (w0 : IsRow .u64 w a0 len0 cap0 z0) (w1_0 : (Lit.int .i64 a1_0).wf = true) (w1_1 : (Lit.int .i64 a1_1).wf = true) (w2_0 : (Lit.int .u64 a2_0).wf = true) (w2_1 : (Lit.int .u64 a2_1).wf = true) (w2_2 : (Lit.int .u64 a2_2).wf = true) :
    Calls Try.prog 5 #[.slice a0 len0 cap0, .agg #[.int .i64 a1_0, .int .i64 a1_1], .agg #[.int .u64 a2_0, .int .u64 a2_1, .int .u64 a2_2]] w fun e w' => e = .returned (.bool true) ∧ Below w.heap.size w w' := by
  obtain ⟨l, hl⟩ := w0.reads u64_nonneg
  clear w0
  obtain ⟨t0, rfl⟩ := Int.eq_ofNat_of_zero_le (u64_nonneg a2_0 w2_0)
  obtain ⟨t1, rfl⟩ := Int.eq_ofNat_of_zero_le (u64_nonneg a2_1 w2_1)
  obtain ⟨t2, rfl⟩ := Int.eq_ofNat_of_zero_le (u64_nonneg a2_2 w2_2)
  have ht0 := u64_lt w2_0
  have ht1 := u64_lt w2_1
  have ht2 := u64_lt w2_2
  have hb0 := i64_bounds w1_0
  have hb1 := i64_bounds w1_1
  have hbw : Below w.heap.size w ((w.alloc (.cells #[.int .i64 a1_0, .int .i64 a1_1] 22)).alloc (.cells #[.int .u64 (t0 : Int), .int .u64 (t1 : Int), .int .u64 (t2 : Int)] 34)) := ((Below.refl _ _).alloc (Nat.le_refl _) _).alloc (by simp) _
  clear w2_0 w2_1 w2_2 w1_0 w1_1
  by_cases hbig : 1000 < len0
  · have g1 : decide (1000 < len0) = true := by simp; omega
    go_enter Try.func5, Try.ntmps5
    go_wp2
    go_quiet (fail)
    go_wp2_with fail
    refine (awake_any _).mono ?_; rintro e w2 ⟨rfl, hb2⟩
    go_wp2_with fail
    refine (awake_any _).mono ?_; rintro e w3 ⟨rfl, hb3⟩
    go_wp2
    go_ret
    exact ⟨rfl, ((below_drewN hbw _).trans (hb2.mono hbw.size)).trans (hb3.mono ((below_drewN hbw _).trans (hb2.mono hbw.size)).size)⟩
  have g1 : decide (1000 < len0) = false := by simp; omega
  have HBX : Hid (∀ q w2, Below (((w.alloc (.cells #[.int .i64 a1_0, .int .i64 a1_1] 22)).alloc (.cells #[.int .u64 (t0 : Int), .int .u64 (t1 : Int), .int .u64 (t2 : Int)] 34)).drewN q).heap.size (((w.alloc (.cells #[.int .i64 a1_0, .int .i64 a1_1] 22)).alloc (.cells #[.int .u64 (t0 : Int), .int .u64 (t1 : Int), .int .u64 (t2 : Int)] 34)).drewN q) w2 → Row w2 (w.heap.size + 1) 34 [.int .u64 t0, .int .u64 t1, .int .u64 t2] ∧ Below w.heap.size w w2) := by
    intro q w2 hb
    have h1 : Row ((w.alloc (.cells #[.int .i64 a1_0, .int .i64 a1_1] 22)).alloc (.cells #[.int .u64 (t0 : Int), .int .u64 (t1 : Int), .int .u64 (t2 : Int)] 34)) (w.heap.size + 1) 34 [.int .u64 t0, .int .u64 t1, .int .u64 t2] := by
      have := heap_alloc_new (w.alloc (.cells #[.int .i64 a1_0, .int .i64 a1_1] 22)) (.cells #[.int .u64 (t0 : Int), .int .u64 (t1 : Int), .int .u64 (t2 : Int)] 34)
      rw [World.size_alloc] at this
      exact this
    exact ⟨(h1.drewN q).below hb (h1.drewN q).lt, (below_drewN hbw q).trans (hb.mono (below_drewN hbw q).size)⟩
  by_cases hok : 8 ≤ a1_0 ∧ a1_0 ≤ 256 ∧ 0 ≤ a1_1 ∧ (len0 : Int) ≤ a1_0 - 2
  · obtain ⟨h1, h2, h3, h4⟩ := hok
    obtain ⟨size, rfl⟩ := Int.eq_ofNat_of_zero_le (show 0 ≤ a1_0 by omega)
    obtain ⟨ad, rfl⟩ := Int.eq_ofNat_of_zero_le h3
    have k1 : 8 ≤ size := by omega
    have k2 : size ≤ 256 := by omega
    have k3 : ad ≤ 9223372036854775807 := by omega
    have k4 : len0 ≤ size - 2 := by omega
    clear h1 h2 h3 h4 hb0 hb1
    have HL := Lib.hid hl
    have hll : l.length ≤ size - 2 := by rw [hl.1]; exact k4
    have hlu : U64s l := fun y hy => u64_lt (hl.2.1 y hy)
    have HSL := Lib.hid (seal_len (ad := ad) (tag := t0) (pl := l) (size := size) hll (by omega))
    have hsu := seal_u64 (size := size) (ad := ad) hlu ht0 (by rw [hl.1]; omega)
    have HSW : Hid (∀ x ∈ sealW size ad t0 l, (Lit.int .u64 (x : Nat)).wf = true) := fun x hx => u64_wf (hsu x hx)
    have HOK := Lib.hid (seal_ok (ad := ad) (tag := t0) (pl := l) (size := size) hll (by omega))
    have HNUM : Hid (numW (sealW size ad t0 l) - 1 = len0) := by unfold Hid; rw [seal_num hll (by omega), hl.1]; rfl
    have HTAG := Lib.hid (seal_tag (ad := ad) (tag := t0) (pl := l) (size := size) hll (by omega))
    have HTAKE : Hid ((sealW size ad t0 l).take len0 = l) := by unfold Hid; rw [← hl.1]; exact seal_take
    have HP1 : Hid (∀ w2, Below w.heap.size w w2 → _) := fun w2 (hb : Below w.heap.size w w2) => put_ok size ad t0 a0 len0 cap0 l w2 (hl.keep hb) hb.size k1 k2 k3 ht0 k4
    obtain ⟨k, hk⟩ : ∃ k, k = t1 % size := ⟨_, rfl⟩
    have hklt : k < size := by rw [hk]; exact Nat.mod_lt _ (by omega)
    have hmodk : (t1 : Int) % (size : Int) = (k : Int) := by rw [hk]; exact (Int.natCast_emod _ _).symm
    obtain ⟨x, hx⟩ : ∃ x, x = t2 % 4294967296 := ⟨_, rfl⟩
    have hxlt : x < 4294967296 := by omega
    have hmodx : (t2 : Int) % 4294967296 = (x : Int) := by omega
    have i0 : (0 : Int) ≤ (k : Int) := by omega
    have i1 : (k : Int) < (size : Int) := by omega
    have hsz0 : ((size : Int) == 0) = false := by simp; omega
    have hsz1 : ¬ (size : Int) = 0 := by omega
    have HALF := Lib.hid (fun hi => seal_half (size := size) (ad := ad) (tag := t0) (pl := l) hlu ht0 (by omega) hll (by omega) (by omega) k hklt x hxlt hi)
    have hc64 : (sealW size ad t0 l).getD k 0 < 18446744073709551616 := hsu _ (by rw [List.getD_eq_getElem?_getD, List.getElem?_eq_getElem (by rw [HSL.out]; exact hklt)]; exact List.getElem_mem _)
    have HSU := Lib.hid hsu
    clear hl hll hlu hsu hk hx
    generalize sealW size ad t0 l = S at *
    obtain ⟨c, hc⟩ : ∃ c, c = S.getD k 0 := ⟨_, rfl⟩
    rw [← hc] at hc64 HALF
    have HC := Lib.hid hc
    clear hc
    by_cases hq : t1 / 4294967296 % 2 = 1
    ·  have gq : ((t1 : Int) / 4294967296 % 2 == 1) = true := by simp; omega
       obtain ⟨X, hX⟩ : ∃ X, X = half x true := ⟨_, rfl⟩
       have hXlt : X < 18446744073709551616 := by rw [hX]; exact half_lt hxlt _
       have hmul : (x : Int) * 4294967296 = (X : Int) := by rw [hX]; unfold half; simp
       obtain ⟨Y, hY⟩ : ∃ Y, Y = c ^^^ X := ⟨_, rfl⟩
       have hYlt : Y < 18446744073709551616 := by rw [hY]; exact Nat.xor_lt_two_pow (n := 64) hc64 hXlt
       have hxor : bits .xor .u64 (c : Int) (X : Int) = (Y : Int) := by rw [hY]; exact u64_xor_nat c X hc64 hXlt
       have HIF : Hid (okW (S.set k Y) ad = true ↔ x = 0) := by
         have h := HALF.out true
         rw [← hX, ← hY] at h; exact h
       have hX0 : X = 0 ↔ x = 0 := by rw [hX]; unfold half; simp only [↓reduceIte]; omega
       clear hX hY HALF hq
       by_cases hx0 : x = 0
       · have gX : ((X : Int) == 0) = true := by have := hX0.2 hx0; simp; omega
         have HE := Lib.hid (HIF.out.2 hx0)
         clear HIF hx0 hX0
         go_enter Try.func5, Try.ntmps5
         go_wp2
         go_quiet (fail)
         go_wp2_with fail
         refine (awake_any _).mono ?_; rintro e w2 ⟨rfl, hb2⟩
         obtain ⟨hrt, hbb⟩ := HBX.out _ _ hb2
         have HRT := Lib.hid hrt
         have HB2 := Lib.hid hbb
         have d0 : w2.cell? ⟨w.heap.size + 1, 0, none⟩ = some (.int .u64 (t0 : Nat)) := hrt.cell 0
         clear hrt hbb hb2
         go_wp2_with fail
         refine (HP1.out w2 HB2.out).mono ?_; rintro e w3 ⟨rfl, hr3, hb3⟩
         have HR3 := Lib.hid hr3
         have HRT3 := Lib.hid (HRT.out.below hb3 HRT.out.lt)
         have HB3 := Lib.hid (HB2.out.trans (hb3.mono HB2.out.size))
         have hr5 := hr3.words (n := size) (by rw [HSL.out]; exact Nat.le_refl _) HSW.out
         rw [List.take_of_length_le (by rw [HSL.out]; exact Nat.le_refl _)] at hr5
         have HG := Lib.hid (get_may (some ⟨w2.heap.size, 0, none⟩) size size ad S w3 hr5 (Nat.le_refl _) (Nat.le_refl _) k1 k2 k3)
         clear hr3 hb3 hr5 d0
         have HGW := Lib.hid HB2.out.size
         generalize w2.heap.size = g at *
         go_wp2_with fail
         refine HG.out.mono ?_
         rintro e w4 (⟨ho, _⟩ | ⟨ho, v, rfl, hown, hb4⟩)
         · rw [HOK.out] at ho; cases ho
         rw [HNUM.out, HTAKE.out] at hown
         obtain ⟨A, cA, rfl, hr4, _⟩ := own_reads hown HL.out.2.1
         have HR4 := Lib.hid (HR3.out.below hb4 HR3.out.lt)
         have HRT4 := Lib.hid (HRT3.out.below hb4 HRT3.out.lt)
         have HB4 := Lib.hid (HB3.out.trans (hb4.mono HB3.out.size))
         rw [HTAG.out]
         have hsame := wsame_any A a0 len0 len0 cA cap0 l l w4 hr4 (HL.out.keep HB4.out) (by omega)
         rw [decide_eq_true rfl] at hsame
         have HS := Lib.hid hsame
         have d0 : w4.cell? ⟨w.heap.size + 1, 0, none⟩ = some (.int .u64 (t0 : Nat)) := HRT4.out.cell 0
         clear ho hown hr4 hb4 hsame
         go_wp2_with fail
         refine HS.out.mono ?_; rintro e w5 ⟨rfl, m, rfl⟩
         have d1 : (w4.drewN m).cell? ⟨w.heap.size + 1, 1, none⟩ = some (.int .u64 (t1 : Nat)) := HRT4.out.cell 1
         have d2 : (w4.drewN m).cell? ⟨w.heap.size + 1, 2, none⟩ = some (.int .u64 (t2 : Nat)) := HRT4.out.cell 2
         have hck : (w4.drewN m).cell? ⟨g, k, none⟩ = some (.int .u64 (c : Nat)) := by
           rw [(HR4.out.drewN m).cell, map_at (by rw [HSL.out]; exact hklt), HC.out]
         have hfk := (HR4.out.drewN m).free k
         have HR6 : Hid (Row ((w4.drewN m).setCell ⟨g, k, none⟩ (.int .u64 (Y : Nat))) g 23 ((S.set k Y).map vw)) := by
           have h := (HR4.out.drewN m).set k (vw Y)
           rw [map_set] at h; exact h
         have HB6 : Hid (Below w.heap.size w ((w4.drewN m).setCell ⟨g, k, none⟩ (.int .u64 (Y : Nat)))) := (below_drewN HB4.out m).setCell HGW.out _
         clear d0
         go_wp2_with fail
         generalize (w4.drewN m).setCell ⟨g, k, none⟩ (.int .u64 (Y : Nat)) = w6 at *
         have hr7 := HR6.out.words (n := size) (by rw [List.length_set, HSL.out]; exact Nat.le_refl _) (fun y hy => by
           rcases List.mem_or_eq_of_mem_set hy with hy | rfl
           · exact HSW.out y hy
           · exact u64_wf hYlt)
         rw [List.take_of_length_le (by rw [List.length_set, HSL.out]; exact Nat.le_refl _)] at hr7
         have HG2 := Lib.hid (get_may (some ⟨g, 0, none⟩) size size ad (S.set k Y) w6 hr7 (Nat.le_refl _) (Nat.le_refl _) k1 k2 k3)
         clear hr7
         refine HG2.out.mono ?_
         rintro e w7 (⟨ho, _⟩ | ⟨ho, v2, rfl, hown, hb7⟩)
         · rw [HE.out] at ho; cases ho
         · have HB7 := Lib.hid (HB6.out.trans (hb7.mono HB6.out.size))
           clear ho hown hb7
           go_wp2
           go_ret
           exact ⟨rfl, HB7.out⟩
       · have gX : ((X : Int) == 0) = false := by have := fun h => hx0 (hX0.1 h); simp; omega
         have HE : Hid (okW (S.set k Y) ad = false) := by
           unfold Hid; rw [Bool.eq_false_iff]; exact fun h => hx0 (HIF.out.1 h)
         clear HIF hx0 hX0
         go_enter Try.func5, Try.ntmps5
         go_wp2
         go_quiet (fail)
         go_wp2_with fail
         refine (awake_any _).mono ?_; rintro e w2 ⟨rfl, hb2⟩
         obtain ⟨hrt, hbb⟩ := HBX.out _ _ hb2
         have HRT := Lib.hid hrt
         have HB2 := Lib.hid hbb
         have d0 : w2.cell? ⟨w.heap.size + 1, 0, none⟩ = some (.int .u64 (t0 : Nat)) := hrt.cell 0
         clear hrt hbb hb2
         go_wp2_with fail
         refine (HP1.out w2 HB2.out).mono ?_; rintro e w3 ⟨rfl, hr3, hb3⟩
         have HR3 := Lib.hid hr3
         have HRT3 := Lib.hid (HRT.out.below hb3 HRT.out.lt)
         have HB3 := Lib.hid (HB2.out.trans (hb3.mono HB2.out.size))
         have hr5 := hr3.words (n := size) (by rw [HSL.out]; exact Nat.le_refl _) HSW.out
         rw [List.take_of_length_le (by rw [HSL.out]; exact Nat.le_refl _)] at hr5
         have HG := Lib.hid (get_may (some ⟨w2.heap.size, 0, none⟩) size size ad S w3 hr5 (Nat.le_refl _) (Nat.le_refl _) k1 k2 k3)
         clear hr3 hb3 hr5 d0
         have HGW := Lib.hid HB2.out.size
         generalize w2.heap.size = g at *
         go_wp2_with fail
         refine HG.out.mono ?_
         rintro e w4 (⟨ho, _⟩ | ⟨ho, v, rfl, hown, hb4⟩)
         · rw [HOK.out] at ho; cases ho
         rw [HNUM.out, HTAKE.out] at hown
         obtain ⟨A, cA, rfl, hr4, _⟩ := own_reads hown HL.out.2.1
         have HR4 := Lib.hid (HR3.out.below hb4 HR3.out.lt)
         have HRT4 := Lib.hid (HRT3.out.below hb4 HRT3.out.lt)
         have HB4 := Lib.hid (HB3.out.trans (hb4.mono HB3.out.size))
         rw [HTAG.out]
         have hsame := wsame_any A a0 len0 len0 cA cap0 l l w4 hr4 (HL.out.keep HB4.out) (by omega)
         rw [decide_eq_true rfl] at hsame
         have HS := Lib.hid hsame
         have d0 : w4.cell? ⟨w.heap.size + 1, 0, none⟩ = some (.int .u64 (t0 : Nat)) := HRT4.out.cell 0
         clear ho hown hr4 hb4 hsame
         go_wp2_with fail
         refine HS.out.mono ?_; rintro e w5 ⟨rfl, m, rfl⟩
         have d1 : (w4.drewN m).cell? ⟨w.heap.size + 1, 1, none⟩ = some (.int .u64 (t1 : Nat)) := HRT4.out.cell 1
         have d2 : (w4.drewN m).cell? ⟨w.heap.size + 1, 2, none⟩ = some (.int .u64 (t2 : Nat)) := HRT4.out.cell 2
         have hck : (w4.drewN m).cell? ⟨g, k, none⟩ = some (.int .u64 (c : Nat)) := by
           rw [(HR4.out.drewN m).cell, map_at (by rw [HSL.out]; exact hklt), HC.out]
         have hfk := (HR4.out.drewN m).free k
         have HR6 : Hid (Row ((w4.drewN m).setCell ⟨g, k, none⟩ (.int .u64 (Y : Nat))) g 23 ((S.set k Y).map vw)) := by
           have h := (HR4.out.drewN m).set k (vw Y)
           rw [map_set] at h; exact h
         have HB6 : Hid (Below w.heap.size w ((w4.drewN m).setCell ⟨g, k, none⟩ (.int .u64 (Y : Nat)))) := (below_drewN HB4.out m).setCell HGW.out _
         clear d0
         go_wp2_with fail
         generalize (w4.drewN m).setCell ⟨g, k, none⟩ (.int .u64 (Y : Nat)) = w6 at *
         have hr7 := HR6.out.words (n := size) (by rw [List.length_set, HSL.out]; exact Nat.le_refl _) (fun y hy => by
           rcases List.mem_or_eq_of_mem_set hy with hy | rfl
           · exact HSW.out y hy
           · exact u64_wf hYlt)
         rw [List.take_of_length_le (by rw [List.length_set, HSL.out]; exact Nat.le_refl _)] at hr7
         have HG2 := Lib.hid (get_may (some ⟨g, 0, none⟩) size size ad (S.set k Y) w6 hr7 (Nat.le_refl _) (Nat.le_refl _) k1 k2 k3)
         clear hr7
         refine HG2.out.mono ?_
         rintro e w7 (⟨ho, rfl, hb7⟩ | ⟨ho, _⟩)
         · have HB7 := Lib.hid (HB6.out.trans (hb7.mono HB6.out.size))
           clear ho hb7
           go_wp2
           go_ret
           exact ⟨rfl, HB7.out⟩
         · rw [HE.out] at ho; cases ho
    ·  have gq : ((t1 : Int) / 4294967296 % 2 == 1) = false := by simp; omega
       obtain ⟨X, hX⟩ : ∃ X, X = half x false := ⟨_, rfl⟩
       have hXlt : X < 18446744073709551616 := by rw [hX]; exact half_lt hxlt _
       have hXx : (x : Int) = (X : Int) := by rw [hX]; unfold half; simp
       obtain ⟨Y, hY⟩ : ∃ Y, Y = c ^^^ X := ⟨_, rfl⟩
       have hYlt : Y < 18446744073709551616 := by rw [hY]; exact Nat.xor_lt_two_pow (n := 64) hc64 hXlt
       have hxor : bits .xor .u64 (c : Int) (X : Int) = (Y : Int) := by rw [hY]; exact u64_xor_nat c X hc64 hXlt
       have HIF : Hid (okW (S.set k Y) ad = true ↔ x = 0) := by
         have h := HALF.out false
         rw [← hX, ← hY] at h; exact h
       have hX0 : X = 0 ↔ x = 0 := by rw [hX]; unfold half; simp
       clear hX hY HALF hq
       by_cases hx0 : x = 0
       · have gX : ((X : Int) == 0) = true := by have := hX0.2 hx0; simp; omega
         have HE := Lib.hid (HIF.out.2 hx0)
         clear HIF hx0 hX0
         go_enter Try.func5, Try.ntmps5
         go_wp2
         go_quiet (fail)
         go_wp2_with fail
         refine (awake_any _).mono ?_; rintro e w2 ⟨rfl, hb2⟩
         obtain ⟨hrt, hbb⟩ := HBX.out _ _ hb2
         have HRT := Lib.hid hrt
         have HB2 := Lib.hid hbb
         have d0 : w2.cell? ⟨w.heap.size + 1, 0, none⟩ = some (.int .u64 (t0 : Nat)) := hrt.cell 0
         clear hrt hbb hb2
         go_wp2_with fail
         refine (HP1.out w2 HB2.out).mono ?_; rintro e w3 ⟨rfl, hr3, hb3⟩
         have HR3 := Lib.hid hr3
         have HRT3 := Lib.hid (HRT.out.below hb3 HRT.out.lt)
         have HB3 := Lib.hid (HB2.out.trans (hb3.mono HB2.out.size))
         have hr5 := hr3.words (n := size) (by rw [HSL.out]; exact Nat.le_refl _) HSW.out
         rw [List.take_of_length_le (by rw [HSL.out]; exact Nat.le_refl _)] at hr5
         have HG := Lib.hid (get_may (some ⟨w2.heap.size, 0, none⟩) size size ad S w3 hr5 (Nat.le_refl _) (Nat.le_refl _) k1 k2 k3)
         clear hr3 hb3 hr5 d0
         have HGW := Lib.hid HB2.out.size
         generalize w2.heap.size = g at *
         go_wp2_with fail
         refine HG.out.mono ?_
         rintro e w4 (⟨ho, _⟩ | ⟨ho, v, rfl, hown, hb4⟩)
         · rw [HOK.out] at ho; cases ho
         rw [HNUM.out, HTAKE.out] at hown
         obtain ⟨A, cA, rfl, hr4, _⟩ := own_reads hown HL.out.2.1
         have HR4 := Lib.hid (HR3.out.below hb4 HR3.out.lt)
         have HRT4 := Lib.hid (HRT3.out.below hb4 HRT3.out.lt)
         have HB4 := Lib.hid (HB3.out.trans (hb4.mono HB3.out.size))
         rw [HTAG.out]
         have hsame := wsame_any A a0 len0 len0 cA cap0 l l w4 hr4 (HL.out.keep HB4.out) (by omega)
         rw [decide_eq_true rfl] at hsame
         have HS := Lib.hid hsame
         have d0 : w4.cell? ⟨w.heap.size + 1, 0, none⟩ = some (.int .u64 (t0 : Nat)) := HRT4.out.cell 0
         clear ho hown hr4 hb4 hsame
         go_wp2_with fail
         refine HS.out.mono ?_; rintro e w5 ⟨rfl, m, rfl⟩
         have d1 : (w4.drewN m).cell? ⟨w.heap.size + 1, 1, none⟩ = some (.int .u64 (t1 : Nat)) := HRT4.out.cell 1
         have d2 : (w4.drewN m).cell? ⟨w.heap.size + 1, 2, none⟩ = some (.int .u64 (t2 : Nat)) := HRT4.out.cell 2
         have hck : (w4.drewN m).cell? ⟨g, k, none⟩ = some (.int .u64 (c : Nat)) := by
           rw [(HR4.out.drewN m).cell, map_at (by rw [HSL.out]; exact hklt), HC.out]
         have hfk := (HR4.out.drewN m).free k
         have HR6 : Hid (Row ((w4.drewN m).setCell ⟨g, k, none⟩ (.int .u64 (Y : Nat))) g 23 ((S.set k Y).map vw)) := by
           have h := (HR4.out.drewN m).set k (vw Y)
           rw [map_set] at h; exact h
         have HB6 : Hid (Below w.heap.size w ((w4.drewN m).setCell ⟨g, k, none⟩ (.int .u64 (Y : Nat)))) := (below_drewN HB4.out m).setCell HGW.out _
         clear d0
         go_wp2_with fail
         generalize (w4.drewN m).setCell ⟨g, k, none⟩ (.int .u64 (Y : Nat)) = w6 at *
         have hr7 := HR6.out.words (n := size) (by rw [List.length_set, HSL.out]; exact Nat.le_refl _) (fun y hy => by
           rcases List.mem_or_eq_of_mem_set hy with hy | rfl
           · exact HSW.out y hy
           · exact u64_wf hYlt)
         rw [List.take_of_length_le (by rw [List.length_set, HSL.out]; exact Nat.le_refl _)] at hr7
         have HG2 := Lib.hid (get_may (some ⟨g, 0, none⟩) size size ad (S.set k Y) w6 hr7 (Nat.le_refl _) (Nat.le_refl _) k1 k2 k3)
         clear hr7
         refine HG2.out.mono ?_
         rintro e w7 (⟨ho, _⟩ | ⟨ho, v2, rfl, hown, hb7⟩)
         · rw [HE.out] at ho; cases ho
         · have HB7 := Lib.hid (HB6.out.trans (hb7.mono HB6.out.size))
           clear ho hown hb7
           go_wp2
           go_ret
           exact ⟨rfl, HB7.out⟩
       · have gX : ((X : Int) == 0) = false := by have := fun h => hx0 (hX0.1 h); simp; omega
         have HE : Hid (okW (S.set k Y) ad = false) := by
           unfold Hid; rw [Bool.eq_false_iff]; exact fun h => hx0 (HIF.out.1 h)
         clear HIF hx0 hX0
         go_enter Try.func5, Try.ntmps5
         go_wp2
         go_quiet (fail)
         go_wp2_with fail
         refine (awake_any _).mono ?_; rintro e w2 ⟨rfl, hb2⟩
         obtain ⟨hrt, hbb⟩ := HBX.out _ _ hb2
         have HRT := Lib.hid hrt
         have HB2 := Lib.hid hbb
         have d0 : w2.cell? ⟨w.heap.size + 1, 0, none⟩ = some (.int .u64 (t0 : Nat)) := hrt.cell 0
         clear hrt hbb hb2
         go_wp2_with fail
         refine (HP1.out w2 HB2.out).mono ?_; rintro e w3 ⟨rfl, hr3, hb3⟩
         have HR3 := Lib.hid hr3
         have HRT3 := Lib.hid (HRT.out.below hb3 HRT.out.lt)
         have HB3 := Lib.hid (HB2.out.trans (hb3.mono HB2.out.size))
         have hr5 := hr3.words (n := size) (by rw [HSL.out]; exact Nat.le_refl _) HSW.out
         rw [List.take_of_length_le (by rw [HSL.out]; exact Nat.le_refl _)] at hr5
         have HG := Lib.hid (get_may (some ⟨w2.heap.size, 0, none⟩) size size ad S w3 hr5 (Nat.le_refl _) (Nat.le_refl _) k1 k2 k3)
         clear hr3 hb3 hr5 d0
         have HGW := Lib.hid HB2.out.size
         generalize w2.heap.size = g at *
         go_wp2_with fail
         refine HG.out.mono ?_
         rintro e w4 (⟨ho, _⟩ | ⟨ho, v, rfl, hown, hb4⟩)
         · rw [HOK.out] at ho; cases ho
         rw [HNUM.out, HTAKE.out] at hown
         obtain ⟨A, cA, rfl, hr4, _⟩ := own_reads hown HL.out.2.1
         have HR4 := Lib.hid (HR3.out.below hb4 HR3.out.lt)
         have HRT4 := Lib.hid (HRT3.out.below hb4 HRT3.out.lt)
         have HB4 := Lib.hid (HB3.out.trans (hb4.mono HB3.out.size))
         rw [HTAG.out]
         have hsame := wsame_any A a0 len0 len0 cA cap0 l l w4 hr4 (HL.out.keep HB4.out) (by omega)
         rw [decide_eq_true rfl] at hsame
         have HS := Lib.hid hsame
         have d0 : w4.cell? ⟨w.heap.size + 1, 0, none⟩ = some (.int .u64 (t0 : Nat)) := HRT4.out.cell 0
         clear ho hown hr4 hb4 hsame
         go_wp2_with fail
         refine HS.out.mono ?_; rintro e w5 ⟨rfl, m, rfl⟩
         have d1 : (w4.drewN m).cell? ⟨w.heap.size + 1, 1, none⟩ = some (.int .u64 (t1 : Nat)) := HRT4.out.cell 1
         have d2 : (w4.drewN m).cell? ⟨w.heap.size + 1, 2, none⟩ = some (.int .u64 (t2 : Nat)) := HRT4.out.cell 2
         have hck : (w4.drewN m).cell? ⟨g, k, none⟩ = some (.int .u64 (c : Nat)) := by
           rw [(HR4.out.drewN m).cell, map_at (by rw [HSL.out]; exact hklt), HC.out]
         have hfk := (HR4.out.drewN m).free k
         have HR6 : Hid (Row ((w4.drewN m).setCell ⟨g, k, none⟩ (.int .u64 (Y : Nat))) g 23 ((S.set k Y).map vw)) := by
           have h := (HR4.out.drewN m).set k (vw Y)
           rw [map_set] at h; exact h
         have HB6 : Hid (Below w.heap.size w ((w4.drewN m).setCell ⟨g, k, none⟩ (.int .u64 (Y : Nat)))) := (below_drewN HB4.out m).setCell HGW.out _
         clear d0
         go_wp2_with fail
         generalize (w4.drewN m).setCell ⟨g, k, none⟩ (.int .u64 (Y : Nat)) = w6 at *
         have hr7 := HR6.out.words (n := size) (by rw [List.length_set, HSL.out]; exact Nat.le_refl _) (fun y hy => by
           rcases List.mem_or_eq_of_mem_set hy with hy | rfl
           · exact HSW.out y hy
           · exact u64_wf hYlt)
         rw [List.take_of_length_le (by rw [List.length_set, HSL.out]; exact Nat.le_refl _)] at hr7
         have HG2 := Lib.hid (get_may (some ⟨g, 0, none⟩) size size ad (S.set k Y) w6 hr7 (Nat.le_refl _) (Nat.le_refl _) k1 k2 k3)
         clear hr7
         refine HG2.out.mono ?_
         rintro e w7 (⟨ho, rfl, hb7⟩ | ⟨ho, _⟩)
         · have HB7 := Lib.hid (HB6.out.trans (hb7.mono HB6.out.size))
           clear ho hb7
           go_wp2
           go_ret
           exact ⟨rfl, HB7.out⟩
         · rw [HE.out] at ho; cases ho
  · have HP1 := Lib.hid (fun w => put_no a1_0 a1_1 t0 a0 len0 cap0 w hok)
    clear hok hl
    go_enter Try.func5, Try.ntmps5
    go_wp2
    go_quiet (fail)
    go_wp2_with fail
    refine (awake_any _).mono ?_; rintro e w2 ⟨rfl, hb2⟩
    obtain ⟨hrt, hbb⟩ := HBX.out _ _ hb2
    have HB2 := Lib.hid hbb
    have d0 : w2.cell? ⟨w.heap.size + 1, 0, none⟩ = some (.int .u64 (t0 : Nat)) := hrt.cell 0
    clear hrt hbb hb2
    go_wp2_with fail
    refine (HP1.out w2).mono ?_; rintro e w3 ⟨rfl, rfl⟩
    go_wp2
    go_ret
    exact ⟨rfl, HB2.out⟩

set_option maxRecDepth 100000 in
theorem lifted (os : Os) (started : os.Started) (H : Type) (enc : TypeId × Value → H) :
    ReturnsInHanded {} Try.checked os 5 .any (Rows.sealBackSpec.pre6 enc Try.prog Try.f5 Rows.sealBackRow.domain false) (Rows.sealBackSpec.post enc Try.prog Try.f5 false true false false) := by
  refine returnsInHanded_of_change (C := Try.checked) own started (by kernel_rfl) Try.func5
    (ChangeSpec.witness6 (enc := enc) (C := Try.checked) false ⟨#[], #[.slice none 0 0, .agg #[.int .i64 0, .int .i64 0], .agg #[.int .u64 0, .int .u64 0, .int .u64 0]], []⟩ 8 (by kernel_rfl) (by kernel_rfl) (by kernel_rfl) (by kernel_rfl)) ?_
  intro W base args ds gs before hval0 hW hcnd _
  have hval : ∀ (j : Nat) t v, Try.f5.params[j]? = some t → args[j]? = some v → Value.okWide Try.prog W .any base t v := hval0
  have hW' := hW
  obtain ⟨p, q, hA0, hV, rfl, hfz, hnd⟩ := hW
  have hA : DataW.TrodAll enc Try.prog W 0 (fun _ => true) true Try.f5.params.toList args.toList ds p := hA0
  rw [Try.params5] at hA hval
  obtain ⟨v0, vs0, d0, ds0, p0, q0, hargs, rfl, rfl, h0, r0⟩ := trodAll_cons hA
  obtain ⟨v1, vs1, d1, ds1, p1, q1, rfl, rfl, rfl, h1, r1⟩ := trodAll_cons r0
  obtain ⟨v2, vs2, d2, ds2, p2, q2, rfl, rfl, rfl, h2, r2⟩ := trodAll_cons r1
  obtain ⟨rfl, rfl, rfl⟩ := trodAll_nil r2
  obtain rfl : args = #[v0, v1, v2] := by cases args; simp_all
  obtain ⟨rfl, rfl⟩ := trodVars_none hV
  have k0 := h0
  have lt0 : ∀ x ∈ p0, x.block < W.heap.size := by obtain ⟨m, hm⟩ := k0; exact DataW.trod_lt m _ _ _ hm
  have k1 := h1
  have lt1 : ∀ x ∈ p1, x.block < W.heap.size := by obtain ⟨m, hm⟩ := k1; exact DataW.trod_lt m _ _ _ hm
  have k2 := h2
  have lt2 : ∀ x ∈ p2, x.block < W.heap.size := by obtain ⟨m, hm⟩ := k2; exact DataW.trod_lt m _ _ _ hm
  obtain ⟨a0, len0, cap0, rfl⟩ := okWide_slice Try.underlying24 (hval 0 24 v0 rfl rfl)
  obtain ⟨z0, w0⟩ : ∃ zs, IsRow .u64 W a0 len0 cap0 zs := by
    obtain ⟨fuel, hf⟩ := h0
    rcases open_ints Try.underlying24 Try.underlying23 (by kernel_rfl) hf with ⟨hcs, _⟩ | ⟨x, l, c, zs, hcs, _, hl, hm, hz, _, hcell, hwz⟩
    · simp [Value.cells] at hcs
      obtain ⟨rfl, rfl, rfl⟩ := hcs
      exact ⟨[], .inl ⟨rfl, rfl, rfl, rfl⟩⟩
    · simp [Value.cells] at hcs
      obtain ⟨rfl, rfl, rfl⟩ := hcs
      exact ⟨zs, .inr ⟨_, rfl, hl, hm, by simpa using hz, hcell, hwz⟩⟩
  obtain ⟨a1_0, a1_1, rfl, w1_0, w1_1⟩ := open_arr2 Try.underlying22 Try.underlying3 (by kernel_rfl) (by kernel_rfl) (hval 1 22 v1 rfl rfl) h1
  obtain ⟨a2_0, a2_1, a2_2, rfl, w2_0, w2_1, w2_2⟩ := open_arr3 Try.underlying34 Try.underlying23 (by kernel_rfl) (by kernel_rfl) (hval 2 34 v2 rfl rfl) h2
  clear hA0 hval0
  refine (walk a0 len0 cap0 z0 a1_0 a1_1 a2_0 a2_1 a2_2 W w0 w1_0 w1_1 w2_0 w2_1 w2_2).mono fun e W' ⟨he, bel⟩ => ?_
  subst he
  exact ⟨_, rfl, _, _, _, [], _, [], hW', trodAll_mk1 (shut_bool Try.underlying4 _), (trodAll_cons_mk (Below.trod laidOut (by kernel_rfl) (of_decide_eq_true (by kernel_rfl)) k0 bel lt0) (trodAll_cons_mk (Below.trod laidOut (by kernel_rfl) (of_decide_eq_true (by kernel_rfl)) k1 bel lt1) (trodAll_cons_mk (Below.trod laidOut (by kernel_rfl) (of_decide_eq_true (by kernel_rfl)) k2 bel lt2) trodAll_mk0))), rfl, bel.frame _, fun h => by cases h⟩

theorem over : Rows.sealBackRow.holds Try.pinned (OpenSpec.ofChange Rows.sealBackSpec) :=
  OpenClaim.holds_of_wide 5 Try.f5 rfl rfl rfl rfl rfl rfl rfl ⟨rfl, rfl, rfl, rfl, rfl⟩ rfl rfl rfl rfl rfl (by kernel_rfl) Try.func5 (by kernel_rfl)
    (of_decide_eq_true (by kernel_rfl)) (by unfold Func.isWrapper; first | (rw [if_pos (by decide +kernel)]; kernel_rfl) | (rw [if_neg (by decide +kernel)]; exact ⟨rfl, rfl⟩))
    (fun os started H enc _ => lifted os started H enc)

theorem proved : Rows.SealBackSaid := over
end Go.Proofs.Ytfihbfpdfkeppaa.sealBack
