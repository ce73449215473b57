/- What the reference's number and Decode answer. -/
import Derived.Test.YtdjmjabbjjcgiaaFormatDec
namespace Go.Proofs.Ytdjmjabbjjcgiaa
open Go.ChangeShapes Go.WideShapes Go.ChangeAt Go.RowKit

theorem ret3b {x y x' y' : Int} {b : Bool} (h1 : x = x') (h2 : y = y') : Ending.returned (.tuple #[.int .i64 x, .int .i64 y, .bool b]) = .returned (.tuple #[.int .i64 x', .int .i64 y', .bool b]) := by rw [h1, h2]

set_option maxHeartbeats 800000 in
set_option maxRecDepth 100000 in
theorem rnumber_any (a : Option Addr) (n cap : Nat) (l : List Nat) (t hi : Nat) (w : World) {B : Nat} (hl : Reads .u8 w B a n l) (hB : B ≤ w.heap.size) (hn : n ≤ 90000) (ht : t ≤ n) (hhi : hi ≤ 1073741824) :
    Calls Try.prog 25 #[.slice a n cap, .int .i64 (t : Int), .int .u64 (hi : Int)] w fun e w' =>
      e = .returned (.tuple #[.int .i64 ((num l t 0 hi).1 : Nat), .int .i64 ((num l t 0 hi).2.1 : Nat), .bool (num l t 0 hi).2.2]) ∧ ∃ m, w.drewN m = w' := by
  have hle := scan_le (l.drop t) 0 0
  rw [List.length_drop, hl.1] at hle
  have hge := scan_ge (l.drop t) 0 0
  have hbytes : ∀ c ∈ l.drop t, c < 256 := fun c hc => u8_lt (hl.2.1 c (List.mem_of_mem_drop hc))
  have h64 := scan_u64 hbytes
  have HE1 := Lib.hid (num_err (l := l) (t := t) (lo := 0) (hi := hi))
  have HE2 := Lib.hid (num_out (l := l) (t := t) (lo := 0) (hi := hi))
  have HE3 := Lib.hid (num_ok (l := l) (t := t) (lo := 0) (hi := hi))
  have hta := rtake_in a n cap l t w (hl.mono hB) (by omega) ht
  generalize scan (l.drop t) 0 0 = s at *
  obtain ⟨x, q, er⟩ := s
  simp only at hle hge h64 hta HE1 HE2 HE3
  go_enter Try.func25, Try.ntmps25
  go_wp2_with fail
  refine hta.mono ?_
  rintro e w1 ⟨rfl, m, rfl⟩
  by_cases her : er = 0
  · subst her
    have hq := hge.2 rfl
    by_cases hgt : hi < x
    · have HX := Lib.hid (HE2.out rfl (.inr hgt))
      go_wp2
      go_ret3
      rw [HX.out]
      exact ⟨ret3b rfl (by simp only; omega), m, rfl⟩
    · have HX := Lib.hid (HE3.out rfl (by omega))
      go_wp2
      go_ret3
      rw [HX.out]
      exact ⟨rfl, m, rfl⟩
  · have HX := Lib.hid (HE1.out her)
    have g : ((er : Int) != 0) = true := by simp; omega
    go_wp2
    go_ret3
    rw [HX.out]
    exact ⟨rfl, m, rfl⟩

theorem num_least_bad {l : List Nat} {t lo hi : Nat} (h : (num l t 0 hi).2.2 = false) : num l t lo hi = (0, (num l t 0 hi).2.1, false) := by
  unfold num at h ⊢
  split at h
  · rename_i h0
    split at h
    · rename_i h1
      rw [if_pos h0, if_pos (by omega), if_pos h0, if_pos h1]
    · cases h
  · rename_i h0
    rw [if_neg h0, if_neg h0]
theorem num_least_low {l : List Nat} {t lo hi : Nat} (h : (num l t 0 hi).2.2 = true) (h1 : (num l t 0 hi).1 < lo) : num l t lo hi = (0, (num l t 0 hi).2.1 - 1, false) := by
  unfold num at h h1 ⊢
  split at h
  · rename_i h0
    split at h
    · cases h
    · rename_i h2
      rw [if_pos h0, if_neg h2] at h1
      simp only at h1
      rw [if_pos h0, if_pos (by omega), if_pos h0, if_neg h2]
  · cases h
theorem num_least_ok {l : List Nat} {t lo hi : Nat} (h : (num l t 0 hi).2.2 = true) (h1 : ¬ (num l t 0 hi).1 < lo) : num l t lo hi = ((num l t 0 hi).1, (num l t 0 hi).2.1, true) := by
  unfold num at h h1 ⊢
  split at h
  · rename_i h0
    split at h
    · cases h
    · rename_i h2
      rw [if_pos h0, if_neg h2] at h1
      simp only at h1
      rw [if_pos h0, if_neg (by omega), if_pos h0, if_neg h2]
  · cases h
theorem tU_num_bad {l : List Nat} {N m k u t : Nat} {acc : List (Int × Int)} (h : (num l t 0 (m - acc.length)).2.2 = false) : tU l N m k u t acc = (acc, (num l t 0 (m - acc.length)).2.1, false) := by
  unfold tU; rw [num_least_bad h, if_neg (by simp)]
theorem tU_num_low {l : List Nat} {N m u t : Nat} {acc : List (Int × Int)} (h : (num l t 0 (m - acc.length)).2.2 = true) (h1 : (num l t 0 (m - acc.length)).1 < m - acc.length) : tU l N m 0 u t acc = (acc, (num l t 0 (m - acc.length)).2.1 - 1, false) := by
  unfold tU leastOf; rw [if_pos rfl, num_least_low h h1, if_neg (by simp)]
theorem tU_num_ok {l : List Nat} {N m k u t : Nat} {acc : List (Int × Int)} (h : (num l t 0 (m - acc.length)).2.2 = true) (h1 : k = 0 → ¬ (num l t 0 (m - acc.length)).1 < m - acc.length) :
    tU l N m k u t acc = tE l N u (num l t 0 (m - acc.length)).1 (num l t 0 (m - acc.length)).2.1 u acc := by
  unfold tU
  rw [num_least_ok h (by unfold leastOf; split <;> omega), if_pos rfl]

/-- what stands there while the reference takes a graph -/
def GStand (w0 w : World) (base gp N : Nat) (acc : List (Int × Int)) : Prop :=
  (∃ v, Row w gp 24 [.int .i64 (N : Int), v] ∧ w.ownsRow base 43 2 v acc.length (flatE acc)) ∧ Two base gp gp w0 w
theorem GStand.drewN {w0 w : World} {base gp N : Nat} {acc : List (Int × Int)} (h : GStand w0 w base gp N acc) (m : Nat) : GStand w0 (w.drewN m) base gp N acc := by
  obtain ⟨⟨v, h2, h3⟩, h4⟩ := h
  exact ⟨⟨v, h2.drewN m, h3⟩, h4.drewN m⟩
theorem GStand.push {w0 w w5 : World} {base gp N : Nat} {acc : List (Int × Int)} {o : Obj} {v v5 : Value} {e : Int × Int} (h2 : Row w gp 24 [.int .i64 (N : Int), v])
    (h3 : w.ownsRow base 43 2 v acc.length (flatE acc)) (h4 : Two base gp gp w0 w) (hg : gp < base) (hbase : base ≤ w.heap.size)
    (h5 : w5.ownsRow base 43 2 v5 (acc.length + 1) (flatE acc ++ [.int .i64 e.1, .int .i64 e.2])) (hgrow : (w.alloc o).grownBy w5 v.ownBlock) :
    Row w5 gp 24 [.int .i64 (N : Int), v] ∧ GStand w0 (w5.setCell ⟨gp, 1, none⟩ v5) base gp N (acc ++ [e]) ∧ w.heap.size ≤ w5.heap.size := by
  have hne : ∀ k, k < base → some k ≠ v.ownBlock := fun k hk he => by have := (h3.lt k he.symm).1; omega
  have r2 : Row w5 gp 24 [.int .i64 (N : Int), v] := (hgrow.block gp (h2.alloc o).lt (hne gp hg)).trans (h2.alloc o)
  have hs := hgrow.size
  have hs2 : w.heap.size + 1 ≤ w5.heap.size := by simpa using hs
  refine ⟨r2, ⟨⟨v5, r2.set 1 v5, ?_⟩, ?_⟩, by omega⟩
  · have h6 : w5.ownsRow base 43 2 v5 (acc ++ [e]).length (flatE (acc ++ [e])) := by rw [flatE_snoc, List.length_append]; exact h5
    exact own_keep2 h6 fun b hb1 _ => heap_setCell_other _ ⟨gp, 1, none⟩ b _ (by simp; omega)
  · refine Two.set (p := ⟨gp, 1, none⟩) ?_ (.inl rfl) _
    refine (h4.trans (Two.of_below ((Below.refl base w).alloc hbase o))).trans ⟨hgrow.os, hgrow.tape, hgrow.output, hgrow.size, fun k hk _ _ => ?_⟩
    exact hgrow.block k (by have : (w.alloc o).heap.size = w.heap.size + 1 := by simp
                            omega) (hne k hk)

theorem two_news {w : World} {x y x' y' : Value} {t : TypeId} : Row ((w.alloc (.cells #[x, y] t)).alloc (.cells #[x', y'] t)) w.heap.size t [x, y] ∧ Row ((w.alloc (.cells #[x, y] t)).alloc (.cells #[x', y'] t)) (w.heap.size + 1) t [x', y'] := by
  have h : Row (w.alloc (.cells #[x, y] t)) w.heap.size t [x, y] := heap_alloc_new _ _
  have h2 := heap_alloc_new (w.alloc (.cells #[x, y] t)) (.cells #[x', y'] t)
  rw [show (w.alloc (.cells #[x, y] t)).heap.size = w.heap.size + 1 by simp] at h2
  exact ⟨h.alloc _, h2⟩
theorem set_zero {w w' : World} {r : Nat} {x y : Value} (h : Below r w w') : Below r w ((w'.setCell ⟨r, 0, none⟩ x).setCell ⟨r, 1, none⟩ y) :=
  (h.setCell (p := ⟨r, 0, none⟩) (Nat.le_refl _) _).setCell (p := ⟨r, 1, none⟩) (Nat.le_refl _) _

set_option maxHeartbeats 6400000 in
set_option maxRecDepth 100000 in
theorem rdecode_any (a : Option Addr) (n cap : Nat) (l : List Nat) (w : World) {B : Nat} (hl : Reads .u8 w B a n l) (hB : B ≤ w.heap.size) (hn : n ≤ 90000) :
    Calls Try.prog 15 #[.slice a n cap] w (Decoded w l) := by
  have HWF : Hid (∀ c ∈ l, c < 256) := fun c hc => u8_lt (hl.2.1 c hc)
  have hlen := hl.1
  obtain ⟨h1, h2⟩ := two_news (w := w) (x := .int .i64 0) (y := .slice none 0 0) (x' := .int .i64 0) (y' := .slice none 0 0) (t := 24)
  have r0 := h1.cell 0
  have r1 := h1.cell 1
  have rf0 := h1.free 0
  have rf1 := h1.free 1
  have n0 := h2.cell 0
  have n1 := h2.cell 1
  have HB0 := Lib.hid (two_new w (.cells #[.int .i64 0, .slice none 0 0] 24) (.cells #[.int .i64 0, .slice none 0 0] 24))
  have HR0 := Lib.hid h1
  have HN0 := Lib.hid h2
  have HL := Lib.hid (hl.keep (HB0.out.mono hB))
  have hz0 : ((w.alloc (.cells #[.int .i64 0, .slice none 0 0] 24)).alloc (.cells #[.int .i64 0, .slice none 0 0] 24)).heap.size = w.heap.size + 2 := by simp
  have HZ := Lib.hid hz0
  have hcellb : ∀ b off u, b < B → w.cell? ⟨b, off, none⟩ = some u → ((w.alloc (.cells #[.int .i64 0, .slice none 0 0] 24)).alloc (.cells #[.int .i64 0, .slice none 0 0] 24)).cell? ⟨b, off, none⟩ = some u := fun b off u hb hc =>
    ((HB0.out.mono hB).cell (p := ⟨b, off, none⟩) hb).trans hc
  by_cases h71 : l.getD 0 0 = 71
  · have hpos : 0 < n := by
      rcases Nat.eq_zero_or_pos n with h | h
      · subst h
        rw [List.eq_nil_of_length_eq_zero hlen] at h71
        simp at h71
      · exact h
    obtain ⟨b, off, c, rfl, hb, hc, hw8, HC⟩ := hl.at_ hpos
    have hcc : c = 71 := by rw [HC.out]; exact h71
    subst hcc
    rw [Nat.add_zero] at hc
    have hb2 : b < w.heap.size := by omega
    have D1 := dec_n1 h71
    have D2 := dec_n2 h71
    have DQ := dec_q h71
    clear h71 h1 h2 hl hz0 hcellb
    go_enter Try.func15, Try.ntmps15
    go_wp2_with fail
    generalize (w.alloc (.cells #[.int .i64 0, .slice none 0 0] 24)).alloc (.cells #[.int .i64 0, .slice none 0 0] 24) = w1 at *
    have hw1 : w.heap.size + 2 ≤ w1.heap.size := by rw [HZ.out]; exact Nat.le_refl _
    have l1 := num_le l 1 0 1073741824 (by omega)
    have i1 := num_in (l := l) (t := 1) (lo := 0) (hi := 1073741824)
    have hcall := rnumber_any _ n cap l 1 1073741824 w1 HL.out (by omega) hn (by omega) (by omega)
    generalize num l 1 0 1073741824 = d1 at *
    obtain ⟨N, t1, ok1⟩ := d1
    simp only at D1 D2 DQ l1 i1 hcall
    refine hcall.mono ?_
    rintro e w2 ⟨rfl, q, rfl⟩
    have hr2 : Row (w1.drewN q) w.heap.size 24 [.int .i64 0, .slice none 0 0] := HR0.out.drewN q
    have hn2 : Row (w1.drewN q) (w.heap.size + 1) 24 [.int .i64 0, .slice none 0 0] := HN0.out.drewN q
    have hb2' := below_drewN HB0.out q
    have hl2 := HL.out.drewN q
    generalize w1.drewN q = w2 at *
    have r0 := hr2.cell 0
    have r1 := hr2.cell 1
    have rf0 := hr2.free 0
    have rf1 := hr2.free 1
    have n0 := hn2.cell 0
    have n1 := hn2.cell 1
    clear hcall
    cases ok1
    · have HD := Lib.hid (D1 rfl)
      have HBQ := Lib.hid hb2'
      clear D1 D2 DQ i1 hr2 hn2 hl2
      go_wp2
      refine bodyPost_ret (v := .tuple #[.agg #[.int .i64 0, .slice none 0 0], .int .i64 (t1 : Int), .int .i64 3]) (by simp [results, Try.results15, go_sem, r0, r1]) rfl ⟨?_, .inl ⟨by rw [HD.out], by rw [HD.out]⟩⟩
      first | exact HBQ.out | exact set_zero HBQ.out
    · have hN := (i1 rfl).2
      replace D2 := D2 rfl
      replace DQ := DQ rfl
      have l2 := num_le l t1 0 (mostE N) (by omega)
      have i2 := num_in (l := l) (t := t1) (lo := 0) (hi := mostE N)
      have hcall := rnumber_any _ n cap l t1 (mostE N) w2 hl2 (by have := hr2.lt; omega) hn (by omega) (mostE_le N)
      generalize num l t1 0 (mostE N) = d2 at *
      obtain ⟨m, t2, ok2⟩ := d2
      simp only at D2 DQ l2 i2 hcall
      have HD2 := Lib.hid D2
      have HDQ := Lib.hid DQ
      have HI2 := Lib.hid i2
      have HR2 := Lib.hid hr2
      have HN2 := Lib.hid hn2
      have HB2 := Lib.hid hb2'
      have HL2 := Lib.hid hl2
      have hml := mostE_le N
      obtain ⟨i0, hi, hy0, hy1, hy2⟩ := info_parts info_edge
      clear D1 D2 DQ i2 i1 hr2 hn2 hb2' hl2
      by_cases hN0 : N = 0
      · have hm0 : mostE N = 0 := by unfold mostE; rw [if_pos hN0]
        rw [hm0] at hcall
        have HC := Lib.hid hcall
        have g : ((N : Int) == 0) = true := by simp; omega
        have hN1 : N ≤ 0 := by omega
        clear hcall hN0 hm0
        go_wp2_with fail
        refine HC.out.mono ?_
        rintro e w3 ⟨rfl, q2, rfl⟩
        have hr3 : Row (w2.drewN q2) w.heap.size 24 [.int .i64 0, .slice none 0 0] := HR2.out.drewN q2
        have hn3 : Row (w2.drewN q2) (w.heap.size + 1) 24 [.int .i64 0, .slice none 0 0] := HN2.out.drewN q2
        have hb3 := below_drewN HB2.out q2
        have hl3 := HL2.out.drewN q2
        generalize w2.drewN q2 = w3 at *
        have r0 := hr3.cell 0
        have r1 := hr3.cell 1
        have rf0 := hr3.free 0
        have rf1 := hr3.free 1
        have n0 := hn3.cell 0
        have n1 := hn3.cell 1
        cases ok2
        · have HD := Lib.hid (HD2.out rfl)
          have HBQ := Lib.hid hb3
          clear hr3 hn3 hl3
          go_wp2
          refine bodyPost_ret (v := .tuple #[.agg #[.int .i64 0, .slice none 0 0], .int .i64 (t2 : Int), .int .i64 3]) (by simp [results, Try.results15, go_sem, r0, r1]) rfl ⟨?_, .inl ⟨by rw [HD.out], by rw [HD.out]⟩⟩
          first | exact HBQ.out | exact set_zero HBQ.out
        · have hm := (HI2.out rfl).2
          have DQ := Lib.hid (HDQ.out rfl)
          clear HDQ HD2 HI2
          have hS4 : GStand (w3.alloc (.cells #[.int .i64 (N : Int), .slice none 0 0] 24)) (w3.alloc (.cells #[.int .i64 (N : Int), .slice none 0 0] 24)) (w3.heap.size + 1) w3.heap.size N [] :=
            ⟨⟨.slice none 0 0, heap_alloc_new _ _, World.ownsRow_nil _ _ _ _⟩, Two.refl _ _ _ _⟩
          have hr4 := hr3.alloc (.cells #[.int .i64 (N : Int), .slice none 0 0] 24)
          have hn4 := hn3.alloc (.cells #[.int .i64 (N : Int), .slice none 0 0] 24)
          have hlt3 : w.heap.size + 1 < w3.heap.size := hn3.lt
          have hb4 := hb3.alloc (show w.heap.size ≤ w3.heap.size by omega) (.cells #[.int .i64 (N : Int), .slice none 0 0] 24)
          have hz4 : (w3.alloc (.cells #[.int .i64 (N : Int), .slice none 0 0] 24)).heap.size = w3.heap.size + 1 := by simp
          have hl4 := hl3.keep ((Below.refl B w3).alloc (show B ≤ w3.heap.size by omega) (.cells #[.int .i64 (N : Int), .slice none 0 0] 24))
          have HS4 := Lib.hid hS4
          have HR4 := Lib.hid hr4
          have HN4 := Lib.hid hn4
          have HB4 := Lib.hid hb4
          have HL4 := Lib.hid hl4
          have HZ4 := Lib.hid hz4
          clear hr3 hn3 hb3 hl3 hS4 hr4 hn4 hz4 hb4 hl4 r0 r1 rf0 rf1 n0 n1
          go_wp2
          generalize w3.alloc (.cells #[.int .i64 (N : Int), .slice none 0 0] 24) = w4 at *
          generalize w3.heap.size = gp at *
          have hz4 : gp + 1 ≤ w4.heap.size := by rw [HZ4.out]; exact Nat.le_refl _
          go_loopw [11, 14] (fun tv uv wr => ∃ (u t : Nat) (acc : List (Int × Int)), u ≤ N ∧ uv = .int .i64 u ∧ tv = .int .i64 t ∧ t ≤ n ∧ acc.length ≤ m ∧ w4.heap.size ≤ wr.heap.size ∧ Hid (GStand w4 wr (gp + 1) gp N acc) ∧ Hid (tV l N m (N - u) u t acc = tV l N m N 0 t2 [])) (fun _ uv _ => N - (intOf uv).toNat)
          case atStart => exact ⟨0, t2, [], by omega, rfl, rfl, by omega, by simp, Nat.le_refl _, HS4.out, by unfold Hid; rw [Nat.sub_zero]⟩
          case round =>
            obtain ⟨u, t, acc, hu, rfl, rfl, ht, ha, hz, HS, HV⟩ := hrel
            obtain ⟨⟨v, b2, b3⟩, b4⟩ := id HS.out
            obtain ⟨A, c, rfl⟩ := own_form b3
            have hrr := b4.row HR4.out (by omega) (by omega) (by omega)
            have hnn := b4.row HN4.out (by omega) (by omega) (by omega)
            have hbw := HB4.out.trans (b4.below (B := w.heap.size) (by omega) (by omega) (by omega))
            have hlw := HL4.out.keep (b4.below (B := B) (by omega) (by omega) (by omega))
            have e0 := b2.cell 0
            have e1 := b2.cell 1
            have hgw : gp < wr.heap.size := b2.lt
            have r0 := hrr.cell 0
            have r1 := hrr.cell 1
            have rf0 := hrr.free 0
            have rf1 := hrr.free 1
            have n0 := hnn.cell 0
            have n1 := hnn.cell 1
            have HBW := Lib.hid hbw
            have HLW := Lib.hid hlw
            have HOW := Lib.hid b3
            clear hrr hnn b2 b3 b4 hbw hlw
            by_cases hlt : u < N
            · omega
            · obtain rfl : u = N := by omega
              have HQ : Hid (tV l u m u 0 t2 [] = (acc, t, true)) := by
                have := HV.out
                rw [Nat.sub_self] at this
                unfold Hid; rw [← this]; rfl
              have hdec := DQ.out _ HQ.out
              simp only [true_and] at hdec
              by_cases htn : t = n
              · have g : ((t : Int) != (n : Int)) = false := by simp; omega
                rw [if_pos (by omega)] at hdec
                have HD := Lib.hid hdec
                clear hdec
                go_wp2
                refine bodyPost_ret (v := .tuple #[.agg #[.int .i64 (u : Int), .slice A acc.length c], .int .i64 0, .int .i64 0]) (by simp [results, Try.results15, go_sem, r0, r1]) rfl ⟨set_zero HBW.out, .inr ⟨u, acc, A, c, HD.out, rfl, ?_⟩⟩
                have hown : ((wr.setCell ⟨w.heap.size, 0, none⟩ (.int .i64 (u : Int))).setCell ⟨w.heap.size, 1, none⟩ (.slice A acc.length c)).ownsRow (gp + 1) 43 2 (.slice A acc.length c) acc.length (flatE acc) :=
                  own_keep2 HOW.out fun b hb1 _ => (heap_setCell_other _ ⟨w.heap.size, 1, none⟩ b _ (by simp; omega)).trans (heap_setCell_other _ ⟨w.heap.size, 0, none⟩ b _ (by simp; omega))
                obtain ⟨A2, c2, he, hrd⟩ := own_edges hown rfl (dec_edges HWF.out HD.out).2.2.2.2.2
                injection he with he _ _
                subst he
                exact hrd
              · have g : ((t : Int) != (n : Int)) = true := by simp; omega
                rw [if_neg (by omega)] at hdec
                have HD := Lib.hid hdec
                clear hdec
                go_wp2
                refine bodyPost_ret (v := .tuple #[.agg #[.int .i64 0, .slice none 0 0], .int .i64 (t : Int), .int .i64 3]) (by simp [results, Try.results15, go_sem, r0, r1]) rfl ⟨?_, .inl ⟨by rw [HD.out], by rw [HD.out]⟩⟩
                first | exact HBW.out | exact set_zero HBW.out
      · have hm0 : mostE N = 1073741824 := by unfold mostE; rw [if_neg hN0]
        rw [hm0] at hcall
        have HC := Lib.hid hcall
        have g : ((N : Int) == 0) = false := by simp; omega
        have hN1 : 0 < N := by omega
        clear hcall hN0 hm0
        go_wp2_with fail
        refine HC.out.mono ?_
        rintro e w3 ⟨rfl, q2, rfl⟩
        have hr3 : Row (w2.drewN q2) w.heap.size 24 [.int .i64 0, .slice none 0 0] := HR2.out.drewN q2
        have hn3 : Row (w2.drewN q2) (w.heap.size + 1) 24 [.int .i64 0, .slice none 0 0] := HN2.out.drewN q2
        have hb3 := below_drewN HB2.out q2
        have hl3 := HL2.out.drewN q2
        generalize w2.drewN q2 = w3 at *
        have r0 := hr3.cell 0
        have r1 := hr3.cell 1
        have rf0 := hr3.free 0
        have rf1 := hr3.free 1
        have n0 := hn3.cell 0
        have n1 := hn3.cell 1
        cases ok2
        · have HD := Lib.hid (HD2.out rfl)
          have HBQ := Lib.hid hb3
          clear hr3 hn3 hl3
          go_wp2
          refine bodyPost_ret (v := .tuple #[.agg #[.int .i64 0, .slice none 0 0], .int .i64 (t2 : Int), .int .i64 3]) (by simp [results, Try.results15, go_sem, r0, r1]) rfl ⟨?_, .inl ⟨by rw [HD.out], by rw [HD.out]⟩⟩
          first | exact HBQ.out | exact set_zero HBQ.out
        · have hm := (HI2.out rfl).2
          have DQ := Lib.hid (HDQ.out rfl)
          clear HDQ HD2 HI2
          have hS4 : GStand (w3.alloc (.cells #[.int .i64 (N : Int), .slice none 0 0] 24)) (w3.alloc (.cells #[.int .i64 (N : Int), .slice none 0 0] 24)) (w3.heap.size + 1) w3.heap.size N [] :=
            ⟨⟨.slice none 0 0, heap_alloc_new _ _, World.ownsRow_nil _ _ _ _⟩, Two.refl _ _ _ _⟩
          have hr4 := hr3.alloc (.cells #[.int .i64 (N : Int), .slice none 0 0] 24)
          have hn4 := hn3.alloc (.cells #[.int .i64 (N : Int), .slice none 0 0] 24)
          have hlt3 : w.heap.size + 1 < w3.heap.size := hn3.lt
          have hb4 := hb3.alloc (show w.heap.size ≤ w3.heap.size by omega) (.cells #[.int .i64 (N : Int), .slice none 0 0] 24)
          have hz4 : (w3.alloc (.cells #[.int .i64 (N : Int), .slice none 0 0] 24)).heap.size = w3.heap.size + 1 := by simp
          have hl4 := hl3.keep ((Below.refl B w3).alloc (show B ≤ w3.heap.size by omega) (.cells #[.int .i64 (N : Int), .slice none 0 0] 24))
          have HS4 := Lib.hid hS4
          have HR4 := Lib.hid hr4
          have HN4 := Lib.hid hn4
          have HB4 := Lib.hid hb4
          have HL4 := Lib.hid hl4
          have HZ4 := Lib.hid hz4
          clear hr3 hn3 hb3 hl3 hS4 hr4 hn4 hz4 hb4 hl4 r0 r1 rf0 rf1 n0 n1
          go_wp2
          generalize w3.alloc (.cells #[.int .i64 (N : Int), .slice none 0 0] 24) = w4 at *
          generalize w3.heap.size = gp at *
          have hz4 : gp + 1 ≤ w4.heap.size := by rw [HZ4.out]; exact Nat.le_refl _
          go_loopw [11, 14] (fun tv uv wr => ∃ (u t : Nat) (acc : List (Int × Int)), u ≤ N ∧ uv = .int .i64 u ∧ tv = .int .i64 t ∧ t ≤ n ∧ acc.length ≤ m ∧ w4.heap.size ≤ wr.heap.size ∧ Hid (GStand w4 wr (gp + 1) gp N acc) ∧ Hid (tV l N m (N - u) u t acc = tV l N m N 0 t2 [])) (fun _ uv _ => N - (intOf uv).toNat)
          case atStart => exact ⟨0, t2, [], by omega, rfl, rfl, by omega, by simp, Nat.le_refl _, HS4.out, by unfold Hid; rw [Nat.sub_zero]⟩
          case round =>
            obtain ⟨u, t, acc, hu, rfl, rfl, ht, ha, hz, HS, HV⟩ := hrel
            obtain ⟨⟨v, b2, b3⟩, b4⟩ := id HS.out
            obtain ⟨A, c, rfl⟩ := own_form b3
            have hrr := b4.row HR4.out (by omega) (by omega) (by omega)
            have hnn := b4.row HN4.out (by omega) (by omega) (by omega)
            have hbw := HB4.out.trans (b4.below (B := w.heap.size) (by omega) (by omega) (by omega))
            have hlw := HL4.out.keep (b4.below (B := B) (by omega) (by omega) (by omega))
            have e0 := b2.cell 0
            have e1 := b2.cell 1
            have hgw : gp < wr.heap.size := b2.lt
            have r0 := hrr.cell 0
            have r1 := hrr.cell 1
            have rf0 := hrr.free 0
            have rf1 := hrr.free 1
            have n0 := hnn.cell 0
            have n1 := hnn.cell 1
            have HBW := Lib.hid hbw
            have HLW := Lib.hid hlw
            have HOW := Lib.hid b3
            clear hrr hnn b2 b3 b4 hbw hlw
            by_cases hlt : u < N
            · obtain ⟨k, hk⟩ : ∃ k, N - u = k + 1 := ⟨N - u - 1, by omega⟩
              have hrest : (m : Int) - (acc.length : Int) = ((m - acc.length : Nat) : Int) := by omega
              have hcall := rnumber_any _ n cap l t (m - acc.length) wr HLW.out (by omega) hn ht (by omega)
              have hB1 := tU_num_bad (l := l) (N := N) (m := m) (k := k) (u := u) (t := t) (acc := acc)
              have hB2 := tU_num_low (l := l) (N := N) (m := m) (u := u) (t := t) (acc := acc)
              have hB3 := tU_num_ok (l := l) (N := N) (m := m) (k := k) (u := u) (t := t) (acc := acc)
              have hnl := num_le l t 0 (m - acc.length) (by omega)
              have hni := num_in (l := l) (t := t) (lo := 0) (hi := m - acc.length)
              have hng := num_ge l t 0 (m - acc.length)
              generalize num l t 0 (m - acc.length) = d at *
              obtain ⟨cnt, t3, ok3⟩ := d
              simp only at hcall hB1 hB2 hB3 hnl hni hng
              replace HV : Hid (tV l N m (k + 1) u t acc = tV l N m N 0 t2 []) := by have := HV.out; rwa [hk] at this
              have HC := Lib.hid hcall
              have HB1 := Lib.hid hB1
              have HB2 := Lib.hid hB2
              have HB3 := Lib.hid hB3
              have HNI := Lib.hid hni
              have HNG := Lib.hid hng.2
              have HREST := Lib.hid hrest
              have HK := Lib.hid hk
              have hk1 : u + k + 1 ≤ N := by omega
              have hk2 : N ≤ u + k + 1 := by omega
              clear hcall hB1 hB2 hB3 hni hng hrest hk
              go_wp2_with fail
              rw [HREST.out]
              refine HC.out.mono ?_
              rintro e w5 ⟨rfl, q3, rfl⟩
              cases ok3
              · have HD : Hid (dec l = (false, 0, [], t3)) := by
                  have h1 := HB1.out rfl
                  have h2 := tV_bad (l := l) (N := N) (m := m) (k := k) (u := u) (t := t) (acc := acc) (by rw [h1])
                  rw [h1] at h2
                  have := DQ.out _ (HV.out.symm.trans h2)
                  unfold Hid; rw [this]; simp
                have HBQ := Lib.hid (below_drewN HBW.out q3)
                go_wp2
                refine bodyPost_ret (v := .tuple #[.agg #[.int .i64 0, .slice none 0 0], .int .i64 (t3 : Int), .int .i64 3]) (by simp [results, Try.results15, go_sem, r0, r1]) rfl ⟨?_, .inl ⟨by rw [HD.out], by rw [HD.out]⟩⟩
                first | exact HBQ.out | exact set_zero HBQ.out
              · have hcnt := (HNI.out rfl).2
                have htg := HNG.out rfl
                have HSQ := Lib.hid (HS.out.drewN q3)
                have HBQ := Lib.hid (below_drewN HBW.out q3)
                by_cases hk0 : k = 0
                · have g : ((u : Int) == (N : Int) - 1) = true := by simp; omega
                  by_cases hcm : cnt < m - acc.length
                  · have g2 : ((cnt : Int) != (m : Int) - (acc.length : Int)) = true := by simp; omega
                    have hcast : (t3 : Int) - 1 = ((t3 - 1 : Nat) : Int) := by omega
                    have HD : Hid (dec l = (false, 0, [], t3 - 1)) := by
                      subst hk0
                      have h1 := HB2.out rfl hcm
                      have h2 := tV_bad (l := l) (N := N) (m := m) (k := 0) (u := u) (t := t) (acc := acc) (by rw [h1])
                      rw [h1] at h2
                      have := DQ.out _ (HV.out.symm.trans h2)
                      unfold Hid; rw [this]; simp
                    go_wp2
                    refine bodyPost_ret (v := .tuple #[.agg #[.int .i64 0, .slice none 0 0], .int .i64 (((t3 - 1 : Nat) : Int)), .int .i64 3]) (by simp [results, Try.results15, go_sem, r0, r1]) rfl ⟨?_, .inl ⟨by rw [HD.out], by rw [HD.out]⟩⟩
                    first | exact HBQ.out | exact set_zero HBQ.out
                  · have g2 : ((cnt : Int) != (m : Int) - (acc.length : Int)) = false := by simp; omega
                    have HUX : Hid (tE l N u cnt t3 u acc = tU l N m k u t acc) := (HB3.out rfl fun _ => hcm).symm
                    go_wp2
                    go_loopw [16, 18, 19] (fun bv vv iv wr => ∃ (i v' t' : Nat) (acc' : List (Int × Int)), i ≤ cnt ∧ iv = .int .i64 i ∧ vv = .int .i64 v' ∧ bv = .int .i64 t' ∧ v' < N ∧ t' ≤ n ∧ acc'.length ≤ acc.length + i ∧ acc.length + i ≤ acc'.length ∧ w4.heap.size ≤ wr.heap.size ∧ Hid (GStand w4 wr (gp + 1) gp N acc') ∧ Hid (tE l N u (cnt - i) t' v' acc' = tE l N u cnt t3 u acc)) (fun _ _ iv _ => cnt - (intOf iv).toNat)
                    case atStart => exact ⟨0, u, t3, acc, by omega, rfl, rfl, rfl, by omega, by omega, by omega, by omega, by simp; omega, HSQ.out, by unfold Hid; rw [Nat.sub_zero]⟩
                    case round =>
                      obtain ⟨i, v', t', acc', hi', rfl, rfl, rfl, hv', ht', ha', ha2, hz', HSr, HTE⟩ := hrel
                      obtain ⟨⟨vr, b2, b3⟩, b4⟩ := id HSr.out
                      obtain ⟨Ar, cr, rfl⟩ := own_form b3
                      have e0 := b2.cell 0
                      have e1 := b2.cell 1
                      have hrr := b4.row HR4.out (by omega) (by omega) (by omega)
                      have hnn := b4.row HN4.out (by omega) (by omega) (by omega)
                      have hgx : gp < wr.heap.size := b2.lt
                      have r0 := hrr.cell 0
                      have r1 := hrr.cell 1
                      have rf0 := hrr.free 0
                      have rf1 := hrr.free 1
                      have n0 := hnn.cell 0
                      have n1 := hnn.cell 1
                      have hbx := HB4.out.trans (b4.below (B := w.heap.size) (by omega) (by omega) (by omega))
                      have hlx := HL4.out.keep (b4.below (B := B) (by omega) (by omega) (by omega))
                      have HBX := Lib.hid hbx
                      have HLX := Lib.hid hlx
                      have hwx : w.heap.size + 1 < wr.heap.size := hnn.lt
                      clear b2 b3 b4 hrr hnn hbx hlx
                      by_cases hli : i < cnt
                      · have hsub : (N : Int) - 1 - (v' : Int) = ((N - 1 - v' : Nat) : Int) := by omega
                        have hcall := rnumber_any _ n cap l t' (N - 1 - v') wr HLX.out (by omega) hn ht' (by omega)
                        have hni := num_in (l := l) (t := t') (lo := 0) (hi := N - 1 - v')
                        have hnl := num_le l t' 0 (N - 1 - v') (by omega)
                        obtain ⟨j, hj⟩ : ∃ j, cnt - i = j + 1 := ⟨cnt - i - 1, by omega⟩
                        have hTB := tE_bad (l := l) (N := N) (u := u) (c := j) (t := t') (v := v') (acc := acc')
                        have hTG := tE_go (l := l) (N := N) (u := u) (c := j) (t := t') (v := v') (acc := acc')
                        have hT := HTE.out
                        rw [hj] at hT
                        generalize num l t' 0 (N - 1 - v') = dd at *
                        obtain ⟨x, t5, ok5⟩ := dd
                        simp only at hcall hni hnl hTB hTG
                        have HSUB := Lib.hid hsub
                        have HT2 := Lib.hid hT
                        have HTB := Lib.hid hTB
                        have HTG := Lib.hid hTG
                        have HNI3 := Lib.hid hni
                        have HJ := Lib.hid hj
                        have HC := Lib.hid hcall
                        clear hsub hT hTB hTG hni hj hcall HTE
                        go_wp2_with fail
                        rw [HSUB.out]
                        refine HC.out.mono ?_
                        rintro e w6 ⟨rfl, q6, rfl⟩
                        cases ok5
                        · have HD : Hid (dec l = (false, 0, [], t5)) := by
                            have h1 := HTB.out rfl
                            rw [HT2.out] at h1
                            rw [HUX.out] at h1
                            have h2 := tV_bad (l := l) (N := N) (m := m) (k := k) (u := u) (t := t) (acc := acc) (by rw [h1])
                            rw [h1] at h2
                            have := DQ.out _ (HV.out.symm.trans h2)
                            unfold Hid; rw [this]; simp
                          have HBQ := Lib.hid (below_drewN HBX.out q6)
                          go_wp2
                          refine bodyPost_ret (v := .tuple #[.agg #[.int .i64 0, .slice none 0 0], .int .i64 (t5 : Int), .int .i64 3]) (by simp [results, Try.results15, go_sem, r0, r1]) rfl ⟨?_, .inl ⟨by rw [HD.out], by rw [HD.out]⟩⟩
                          first | exact HBQ.out | exact set_zero HBQ.out
                        · have hx := (HNI3.out rfl).2
                          have HX2 : Hid (tE l N u j t5 (v' + x) (acc' ++ [((u : Int), ((v' + x : Nat) : Int))]) = tE l N u cnt t3 u acc) := by unfold Hid; rw [← HT2.out]; exact (HTG.out rfl).symm
                          have hS6 := HSr.out.drewN q6
                          have hz6 : wr.heap.size ≤ (wr.drewN q6).heap.size := Nat.le_refl _
                          generalize wr.drewN q6 = w6 at *
                          obtain ⟨⟨v3, d2, d3⟩, d4⟩ := id hS6
                          obtain ⟨A3, c3, rfl⟩ := own_form d3
                          have e0 := d2.cell 0
                          have e1 := d2.cell 1
                          have hgw3 : gp < w6.heap.size := d2.lt
                          have hPUSH := fun w5 v5 => GStand.push (w5 := w5) (v5 := v5) (o := .cells #[.int .i64 (u : Int), .int .i64 ((v' : Int) + (x : Int))] 43) (e := ((u : Int), ((v' + x : Nat) : Int))) d2 d3 d4 (by omega) (by omega)
                          have HPUSH := Lib.hid hPUSH
                          have HO3 := Lib.hid (d3.alloc (.cells #[.int .i64 (u : Int), .int .i64 ((v' : Int) + (x : Int))] 43))
                          clear hPUSH d2 d3 d4 hS6
                          go_wp2_with (with_reducible refine stopAt 129 ?_)
                          unfold Hid
                          refine wpList_append_own _ rfl _ _ 22 rfl (gp + 1) 43 i0 (.agg #[.int .i64 0, .int .i64 0]) 2 16 Try.underlying22 hi hy0 hy1 hy2 rfl (by omega) (.slice A3 acc'.length c3) acc'.length (flatE acc') rfl HO3.out ⟨w6.heap.size, 0, none⟩ 1 1 [.int .i64 (u : Int), .int .i64 ((v' : Int) + (x : Int))] rfl rfl cells2 (by simp [Value.oneCell']) (by unfold maxLen; omega) (by omega) (by simp; omega) ?_
                          intro v5 w5 hown5 hgrow5 _
                          obtain ⟨f1, f2, f3⟩ := HPUSH.out w5 v5 (by push_cast; exact hown5) hgrow5
                          obtain ⟨A5, c5, rfl⟩ := own_form hown5
                          have e1 := f1.cell 1
                          have ef := f1.free 1
                          have hgw5 : gp < w5.heap.size := f1.lt
                          have HS5 := Lib.hid f2
                          clear hown5 hgrow5 f1 f2
                          go_wp2
                          have hz5 : w5.heap.size = (w5.setCell ⟨gp, 1, none⟩ (.slice A5 (acc'.length + 1) c5)).heap.size := by simp
                          generalize w5.setCell ⟨gp, 1, none⟩ (.slice A5 (acc'.length + 1) c5) = w7 at *
                          go_roundw
                          case rel => exact ⟨i + 1, v' + x, t5, _, by omega, by go_num, by go_num, rfl, by omega, by omega, by simp; omega, by simp; omega, by omega, HS5.out, by unfold Hid; rw [show cnt - (i + 1) = j by have := HJ.out; omega]; exact HX2.out⟩
                          case measure => simp [intOf]; omega
                      · obtain rfl : i = cnt := by omega
                        have HV2 : Hid (tV l N m k (u + 1) t' acc' = tV l N m N 0 t2 []) := by
                          have h1 := HTE.out
                          rw [Nat.sub_self, HUX.out] at h1
                          have h3 : tU l N m k u t acc = (acc', t', true) := h1.symm
                          have h2 := tV_go (l := l) (N := N) (m := m) (k := k) (u := u) (t := t) (acc := acc) (by rw [h3])
                          rw [h3] at h2
                          unfold Hid; rw [← HV.out]; exact h2.symm
                        go_wp2
                        go_roundw
                        case rel => exact ⟨u + 1, t', acc', by omega, by go_num, rfl, ht', by omega, by omega, HSr.out, by unfold Hid; rw [show N - (u + 1) = k by have := HK.out; omega]; exact HV2.out⟩
                        case measure => simp [intOf]; omega
                · have g : ((u : Int) == (N : Int) - 1) = false := by simp; omega
                  have HUX : Hid (tE l N u cnt t3 u acc = tU l N m k u t acc) := (HB3.out rfl fun h => absurd h hk0).symm
                  go_wp2
                  go_loopw [16, 18, 19] (fun bv vv iv wr => ∃ (i v' t' : Nat) (acc' : List (Int × Int)), i ≤ cnt ∧ iv = .int .i64 i ∧ vv = .int .i64 v' ∧ bv = .int .i64 t' ∧ v' < N ∧ t' ≤ n ∧ acc'.length ≤ acc.length + i ∧ acc.length + i ≤ acc'.length ∧ w4.heap.size ≤ wr.heap.size ∧ Hid (GStand w4 wr (gp + 1) gp N acc') ∧ Hid (tE l N u (cnt - i) t' v' acc' = tE l N u cnt t3 u acc)) (fun _ _ iv _ => cnt - (intOf iv).toNat)
                  case atStart => exact ⟨0, u, t3, acc, by omega, rfl, rfl, rfl, by omega, by omega, by omega, by omega, by simp; omega, HSQ.out, by unfold Hid; rw [Nat.sub_zero]⟩
                  case round =>
                    obtain ⟨i, v', t', acc', hi', rfl, rfl, rfl, hv', ht', ha', ha2, hz', HSr, HTE⟩ := hrel
                    obtain ⟨⟨vr, b2, b3⟩, b4⟩ := id HSr.out
                    obtain ⟨Ar, cr, rfl⟩ := own_form b3
                    have e0 := b2.cell 0
                    have e1 := b2.cell 1
                    have hrr := b4.row HR4.out (by omega) (by omega) (by omega)
                    have hnn := b4.row HN4.out (by omega) (by omega) (by omega)
                    have hgx : gp < wr.heap.size := b2.lt
                    have r0 := hrr.cell 0
                    have r1 := hrr.cell 1
                    have rf0 := hrr.free 0
                    have rf1 := hrr.free 1
                    have n0 := hnn.cell 0
                    have n1 := hnn.cell 1
                    have hbx := HB4.out.trans (b4.below (B := w.heap.size) (by omega) (by omega) (by omega))
                    have hlx := HL4.out.keep (b4.below (B := B) (by omega) (by omega) (by omega))
                    have HBX := Lib.hid hbx
                    have HLX := Lib.hid hlx
                    have hwx : w.heap.size + 1 < wr.heap.size := hnn.lt
                    clear b2 b3 b4 hrr hnn hbx hlx
                    by_cases hli : i < cnt
                    · have hsub : (N : Int) - 1 - (v' : Int) = ((N - 1 - v' : Nat) : Int) := by omega
                      have hcall := rnumber_any _ n cap l t' (N - 1 - v') wr HLX.out (by omega) hn ht' (by omega)
                      have hni := num_in (l := l) (t := t') (lo := 0) (hi := N - 1 - v')
                      have hnl := num_le l t' 0 (N - 1 - v') (by omega)
                      obtain ⟨j, hj⟩ : ∃ j, cnt - i = j + 1 := ⟨cnt - i - 1, by omega⟩
                      have hTB := tE_bad (l := l) (N := N) (u := u) (c := j) (t := t') (v := v') (acc := acc')
                      have hTG := tE_go (l := l) (N := N) (u := u) (c := j) (t := t') (v := v') (acc := acc')
                      have hT := HTE.out
                      rw [hj] at hT
                      generalize num l t' 0 (N - 1 - v') = dd at *
                      obtain ⟨x, t5, ok5⟩ := dd
                      simp only at hcall hni hnl hTB hTG
                      have HSUB := Lib.hid hsub
                      have HT2 := Lib.hid hT
                      have HTB := Lib.hid hTB
                      have HTG := Lib.hid hTG
                      have HNI3 := Lib.hid hni
                      have HJ := Lib.hid hj
                      have HC := Lib.hid hcall
                      clear hsub hT hTB hTG hni hj hcall HTE
                      go_wp2_with fail
                      rw [HSUB.out]
                      refine HC.out.mono ?_
                      rintro e w6 ⟨rfl, q6, rfl⟩
                      cases ok5
                      · have HD : Hid (dec l = (false, 0, [], t5)) := by
                          have h1 := HTB.out rfl
                          rw [HT2.out] at h1
                          rw [HUX.out] at h1
                          have h2 := tV_bad (l := l) (N := N) (m := m) (k := k) (u := u) (t := t) (acc := acc) (by rw [h1])
                          rw [h1] at h2
                          have := DQ.out _ (HV.out.symm.trans h2)
                          unfold Hid; rw [this]; simp
                        have HBQ := Lib.hid (below_drewN HBX.out q6)
                        go_wp2
                        refine bodyPost_ret (v := .tuple #[.agg #[.int .i64 0, .slice none 0 0], .int .i64 (t5 : Int), .int .i64 3]) (by simp [results, Try.results15, go_sem, r0, r1]) rfl ⟨?_, .inl ⟨by rw [HD.out], by rw [HD.out]⟩⟩
                        first | exact HBQ.out | exact set_zero HBQ.out
                      · have hx := (HNI3.out rfl).2
                        have HX2 : Hid (tE l N u j t5 (v' + x) (acc' ++ [((u : Int), ((v' + x : Nat) : Int))]) = tE l N u cnt t3 u acc) := by unfold Hid; rw [← HT2.out]; exact (HTG.out rfl).symm
                        have hS6 := HSr.out.drewN q6
                        have hz6 : wr.heap.size ≤ (wr.drewN q6).heap.size := Nat.le_refl _
                        generalize wr.drewN q6 = w6 at *
                        obtain ⟨⟨v3, d2, d3⟩, d4⟩ := id hS6
                        obtain ⟨A3, c3, rfl⟩ := own_form d3
                        have e0 := d2.cell 0
                        have e1 := d2.cell 1
                        have hgw3 : gp < w6.heap.size := d2.lt
                        have hPUSH := fun w5 v5 => GStand.push (w5 := w5) (v5 := v5) (o := .cells #[.int .i64 (u : Int), .int .i64 ((v' : Int) + (x : Int))] 43) (e := ((u : Int), ((v' + x : Nat) : Int))) d2 d3 d4 (by omega) (by omega)
                        have HPUSH := Lib.hid hPUSH
                        have HO3 := Lib.hid (d3.alloc (.cells #[.int .i64 (u : Int), .int .i64 ((v' : Int) + (x : Int))] 43))
                        clear hPUSH d2 d3 d4 hS6
                        go_wp2_with (with_reducible refine stopAt 129 ?_)
                        unfold Hid
                        refine wpList_append_own _ rfl _ _ 22 rfl (gp + 1) 43 i0 (.agg #[.int .i64 0, .int .i64 0]) 2 16 Try.underlying22 hi hy0 hy1 hy2 rfl (by omega) (.slice A3 acc'.length c3) acc'.length (flatE acc') rfl HO3.out ⟨w6.heap.size, 0, none⟩ 1 1 [.int .i64 (u : Int), .int .i64 ((v' : Int) + (x : Int))] rfl rfl cells2 (by simp [Value.oneCell']) (by unfold maxLen; omega) (by omega) (by simp; omega) ?_
                        intro v5 w5 hown5 hgrow5 _
                        obtain ⟨f1, f2, f3⟩ := HPUSH.out w5 v5 (by push_cast; exact hown5) hgrow5
                        obtain ⟨A5, c5, rfl⟩ := own_form hown5
                        have e1 := f1.cell 1
                        have ef := f1.free 1
                        have hgw5 : gp < w5.heap.size := f1.lt
                        have HS5 := Lib.hid f2
                        clear hown5 hgrow5 f1 f2
                        go_wp2
                        have hz5 : w5.heap.size = (w5.setCell ⟨gp, 1, none⟩ (.slice A5 (acc'.length + 1) c5)).heap.size := by simp
                        generalize w5.setCell ⟨gp, 1, none⟩ (.slice A5 (acc'.length + 1) c5) = w7 at *
                        go_roundw
                        case rel => exact ⟨i + 1, v' + x, t5, _, by omega, by go_num, by go_num, rfl, by omega, by omega, by simp; omega, by simp; omega, by omega, HS5.out, by unfold Hid; rw [show cnt - (i + 1) = j by have := HJ.out; omega]; exact HX2.out⟩
                        case measure => simp [intOf]; omega
                    · obtain rfl : i = cnt := by omega
                      have HV2 : Hid (tV l N m k (u + 1) t' acc' = tV l N m N 0 t2 []) := by
                        have h1 := HTE.out
                        rw [Nat.sub_self, HUX.out] at h1
                        have h3 : tU l N m k u t acc = (acc', t', true) := h1.symm
                        have h2 := tV_go (l := l) (N := N) (m := m) (k := k) (u := u) (t := t) (acc := acc) (by rw [h3])
                        rw [h3] at h2
                        unfold Hid; rw [← HV.out]; exact h2.symm
                      go_wp2
                      go_roundw
                      case rel => exact ⟨u + 1, t', acc', by omega, by go_num, rfl, ht', by omega, by omega, HSr.out, by unfold Hid; rw [show N - (u + 1) = k by have := HK.out; omega]; exact HV2.out⟩
                      case measure => simp [intOf]; omega
            · obtain rfl : u = N := by omega
              have HQ : Hid (tV l u m u 0 t2 [] = (acc, t, true)) := by
                have := HV.out
                rw [Nat.sub_self] at this
                unfold Hid; rw [← this]; rfl
              have hdec := DQ.out _ HQ.out
              simp only [true_and] at hdec
              by_cases htn : t = n
              · have g : ((t : Int) != (n : Int)) = false := by simp; omega
                rw [if_pos (by omega)] at hdec
                have HD := Lib.hid hdec
                clear hdec
                go_wp2
                refine bodyPost_ret (v := .tuple #[.agg #[.int .i64 (u : Int), .slice A acc.length c], .int .i64 0, .int .i64 0]) (by simp [results, Try.results15, go_sem, r0, r1]) rfl ⟨set_zero HBW.out, .inr ⟨u, acc, A, c, HD.out, rfl, ?_⟩⟩
                have hown : ((wr.setCell ⟨w.heap.size, 0, none⟩ (.int .i64 (u : Int))).setCell ⟨w.heap.size, 1, none⟩ (.slice A acc.length c)).ownsRow (gp + 1) 43 2 (.slice A acc.length c) acc.length (flatE acc) :=
                  own_keep2 HOW.out fun b hb1 _ => (heap_setCell_other _ ⟨w.heap.size, 1, none⟩ b _ (by simp; omega)).trans (heap_setCell_other _ ⟨w.heap.size, 0, none⟩ b _ (by simp; omega))
                obtain ⟨A2, c2, he, hrd⟩ := own_edges hown rfl (dec_edges HWF.out HD.out).2.2.2.2.2
                injection he with he _ _
                subst he
                exact hrd
              · have g : ((t : Int) != (n : Int)) = true := by simp; omega
                rw [if_neg (by omega)] at hdec
                have HD := Lib.hid hdec
                clear hdec
                go_wp2
                refine bodyPost_ret (v := .tuple #[.agg #[.int .i64 0, .slice none 0 0], .int .i64 (t : Int), .int .i64 3]) (by simp [results, Try.results15, go_sem, r0, r1]) rfl ⟨?_, .inl ⟨by rw [HD.out], by rw [HD.out]⟩⟩
                first | exact HBW.out | exact set_zero HBW.out
  · have HX := Lib.hid (dec_71 h71)
    by_cases hpos : n = 0
    · subst hpos
      clear h1 h2 hz0 hcellb
      go_enter Try.func15, Try.ntmps15
      go_wp2
      refine bodyPost_ret (v := .tuple #[.agg #[.int .i64 0, .slice none 0 0], .int .i64 0, .int .i64 3]) (by simp [results, Try.results15, go_sem, r0, r1]) rfl ⟨?_, .inl ⟨by rw [HX.out], by rw [HX.out]; rfl⟩⟩
      first | exact HB0.out | exact set_zero HB0.out
    · obtain ⟨b, off, c, rfl, hb, hc, hw8, HC⟩ := hl.at_ (show 0 < n by omega)
      have hcc : c ≠ 71 := by rw [HC.out]; exact h71
      have g : ((c : Int) != 71) = true := by simp; omega
      rw [Nat.add_zero] at hc
      have hb2 : b < w.heap.size := by omega
      clear h1 h2 hz0 hcellb
      go_enter Try.func15, Try.ntmps15
      go_wp2
      refine bodyPost_ret (v := .tuple #[.agg #[.int .i64 0, .slice none 0 0], .int .i64 0, .int .i64 3]) (by simp [results, Try.results15, go_sem, r0, r1]) rfl ⟨?_, .inl ⟨by rw [HX.out], by rw [HX.out]; rfl⟩⟩
      first | exact HB0.out | exact set_zero HB0.out
end Go.Proofs.Ytdjmjabbjjcgiaa
