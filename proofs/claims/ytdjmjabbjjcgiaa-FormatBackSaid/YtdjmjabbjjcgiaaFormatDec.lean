/- What format.takeGraph and Decode answer. -/
import Derived.Test.YtdjmjabbjjcgiaaFormatTake
import Derived.Test.YtdjmjabbjjcgiaaGraphTurn
namespace Go.Proofs.Ytdjmjabbjjcgiaa
open Go.ChangeShapes Go.WideShapes Go.ChangeAt Go.RowKit

theorem Two.lower {base bp gp b0 : Nat} {w w1 : World} (h : Two base bp gp w w1) (h0 : b0 ≤ base) (h1 : b0 ≤ gp) : Two b0 bp bp w w1 :=
  ⟨h.os, h.tape, h.output, h.size, fun k hk h2 _ => h.block k (by omega) h2 (by omega)⟩
theorem dec_edges {l : List Nat} {N : Nat} {E : List (Int × Int)} {at_ : Nat} (hb : ∀ c ∈ l, c < 256) (h : dec l = (true, N, E, at_)) : Good N 0 E ∧ N ≤ 1073741824 ∧ E.length ≤ 1073741824 ∧ N + E.length < l.length ∧ l = enc N E ∧ ∀ x ∈ E, I64 x.1 ∧ I64 x.2 := by
  obtain ⟨M, F, h1, h2, h3, h4, h5, h6⟩ := dec_back hb (by rw [h])
  rw [h] at h1
  injection h1 with _ h1; injection h1 with e1 h1; injection h1 with e2 _
  subst e1 e2
  refine ⟨h3, h4, h5, h6, h2, fun x hx => ?_⟩
  have := h3.2 x hx
  exact ⟨I64.of (by omega) (by omega), I64.of (by omega) (by omega)⟩

theorem own_base2 {w : World} {base base' : Nat} {e : TypeId} {v : Value} {n : Nat} {xs : List Value} (h : w.ownsRow base e 2 v n xs) (hb : base' ≤ base) : w.ownsRow base' e 2 v n xs := by
  refine ⟨h.1, ?_⟩
  rcases h.2 with h0 | ⟨g, cap, cur, h1, h2, h3⟩
  · exact .inl h0
  · exact .inr ⟨g, cap, cur, h1, by omega, h3⟩
/-- what takeGraph answers, and leaves at the place -/
def Took (w : World) (bp : Nat) (l : List Nat) (e : Ending) (w' : World) : Prop :=
  ∃ (ok : Bool) (p : Nat) (N : Int) (A : Option Addr) (n c : Nat), e = .returned (.tuple #[.agg #[.int .i64 N, .slice A n c], .bool ok]) ∧ Row w' bp 3 [.int .i64 (p : Int)] ∧ Two w.heap.size bp bp w w' ∧
    (ok = true → ∃ (M : Nat) (E : List (Int × Int)), N = M ∧ dec l = (true, M, E, 0) ∧ n = E.length ∧ w'.ownsRow w.heap.size 43 2 (.slice A E.length c) E.length (flatE E)) ∧ (ok = false → dec l = (false, 0, [], p))

theorem dec_71 {l : List Nat} (h : l.getD 0 0 ≠ 71) : dec l = (false, 0, [], 0) := by unfold dec; rw [if_neg h]
theorem dec_n1 {l : List Nat} (h : l.getD 0 0 = 71) (h1 : (num l 1 0 1073741824).2.2 = false) : dec l = (false, 0, [], (num l 1 0 1073741824).2.1) := by
  unfold dec; rw [if_pos h, if_neg (by simp [h1])]
theorem dec_n2 {l : List Nat} (h : l.getD 0 0 = 71) (h1 : (num l 1 0 1073741824).2.2 = true) (h2 : (num l (num l 1 0 1073741824).2.1 0 (mostE (num l 1 0 1073741824).1)).2.2 = false) :
    dec l = (false, 0, [], (num l (num l 1 0 1073741824).2.1 0 (mostE (num l 1 0 1073741824).1)).2.1) := by
  unfold dec; rw [if_pos h, if_pos h1, if_neg (by simp [h2])]
theorem dec_q {l : List Nat} (h : l.getD 0 0 = 71) (h1 : (num l 1 0 1073741824).2.2 = true) (h2 : (num l (num l 1 0 1073741824).2.1 0 (mostE (num l 1 0 1073741824).1)).2.2 = true) :
    ∀ q, tV l (num l 1 0 1073741824).1 (num l (num l 1 0 1073741824).2.1 0 (mostE (num l 1 0 1073741824).1)).1 (num l 1 0 1073741824).1 0 (num l (num l 1 0 1073741824).2.1 0 (mostE (num l 1 0 1073741824).1)).2.1 [] = q →
      dec l = if q.2.2 = true ∧ q.2.1 = l.length then (true, (num l 1 0 1073741824).1, q.1, 0) else (false, 0, [], q.2.1) := by
  intro q hq
  subst hq
  unfold dec; rw [if_pos h, if_pos h1, if_pos h2]
theorem tV_bad {l : List Nat} {N m k u t : Nat} {acc : List (Int × Int)} (h : (tU l N m k u t acc).2.2 = false) : tV l N m (k + 1) u t acc = ((tU l N m k u t acc).1, (tU l N m k u t acc).2.1, false) := by
  rw [tV]; rw [if_neg (by simp [h])]
theorem tV_go {l : List Nat} {N m k u t : Nat} {acc : List (Int × Int)} (h : (tU l N m k u t acc).2.2 = true) : tV l N m (k + 1) u t acc = tV l N m k (u + 1) (tU l N m k u t acc).2.1 (tU l N m k u t acc).1 := by
  rw [tV]; rw [if_pos h]

theorem mostE_le (N : Nat) : mostE N ≤ 1073741824 := by unfold mostE; split <;> omega
theorem tE_len (l : List Nat) (N u : Nat) : ∀ (c t v : Nat) (acc : List (Int × Int)), (tE l N u c t v acc).1.length ≤ acc.length + c
  | 0, t, v, acc => by simp [tE]
  | c + 1, t, v, acc => by
    unfold tE
    split
    · refine Nat.le_trans (tE_len l N u c _ _ _) ?_
      simp; omega
    · simp
theorem tU_len {l : List Nat} {N m k u t : Nat} {acc : List (Int × Int)} (ha : acc.length ≤ m) : (tU l N m k u t acc).1.length ≤ m := by
  unfold tU
  split
  · rename_i h
    have h1 := num_in h
    have h2 := tE_len l N u (num l t (leastOf k (m - acc.length)) (m - acc.length)).1 (num l t (leastOf k (m - acc.length)) (m - acc.length)).2.1 u acc
    omega
  · exact ha
theorem took_end {w wz : World} {bp r : Nat} {p : Value} {x y : Value} (h1 : Row wz bp 3 [p]) (h2 : Two r bp bp w wz) (hne : bp < r) :
    Row ((wz.setCell ⟨r, 0, none⟩ x).setCell ⟨r, 1, none⟩ y) bp 3 [p] ∧ Two r bp bp w ((wz.setCell ⟨r, 0, none⟩ x).setCell ⟨r, 1, none⟩ y) :=
  ⟨(h1.far (p := ⟨r, 0, none⟩) (by simp; omega) _).far (p := ⟨r, 1, none⟩) (by simp; omega) _, (h2.set (p := ⟨r, 0, none⟩) (.inr (.inr (Nat.le_refl _))) _).set (p := ⟨r, 1, none⟩) (.inr (.inr (Nat.le_refl _))) _⟩

set_option maxHeartbeats 3200000 in
set_option maxRecDepth 100000 in
theorem takeGraph_any (a : Option Addr) (n cap : Nat) (l : List Nat) (bp : Nat) (w : World) {B : Nat} (hl : Reads .u8 w B a n l) (hn : n ≤ 90000) (hBb : B ≤ bp) (hat : Row w bp 3 [.int .i64 0]) :
    Calls Try.prog 24 #[.slice a n cap, .pointer (some ⟨bp, 0, none⟩)] w (Took w bp l) := by
  have HL := Lib.hid hl
  have hlen := hl.1
  have hbw := hat.lt
  have at0 := hat.cell 0
  have atf := hat.free 0
  have hr : Row (w.alloc (.cells #[.int .i64 0, .slice none 0 0] 24)) w.heap.size 24 [.int .i64 0, .slice none 0 0] := heap_alloc_new _ _
  have HR := Lib.hid hr
  have r0 := hr.cell 0
  have r1 := hr.cell 1
  have rf0 := hr.free 0
  have rf1 := hr.free 1
  have hBW : B ≤ w.heap.size := by omega
  by_cases h71 : l.getD 0 0 = 71
  · have hpos : 0 < n := by
      rcases Nat.eq_zero_or_pos n with h | h
      · subst h
        rw [List.eq_nil_of_length_eq_zero hlen] at h71
        simp at h71
      · exact h
    obtain ⟨b, off, c, rfl, hb, hc, hw8, HC⟩ := hl.at_ hpos
    have hcc : c = 71 := by rw [HC.out]; exact h71
    subst hcc
    have hb2 : b < w.heap.size := by omega
    rw [Nat.add_zero] at hc
    have H71 := Lib.hid h71
    clear h71 hr
    go_enter Try.func24, Try.ntmps24
    go_wp2_with fail
    have hz1 : (w.setCell ⟨bp, 0, none⟩ (.int .i64 1)).heap.size = w.heap.size := by simp
    have hw1 : Row ((w.setCell ⟨bp, 0, none⟩ (.int .i64 1)).alloc (.cells #[.int .i64 0, .slice none 0 0] 24)) bp 3 [.int .i64 ((1 : Nat) : Int)] := (hat.set 0 _).alloc _
    have hr1 : Row ((w.setCell ⟨bp, 0, none⟩ (.int .i64 1)).alloc (.cells #[.int .i64 0, .slice none 0 0] 24)) w.heap.size 24 [.int .i64 0, .slice none 0 0] := by
      have h := heap_alloc_new (w.setCell ⟨bp, 0, none⟩ (.int .i64 1)) (.cells #[.int .i64 0, .slice none 0 0] 24)
      rw [hz1] at h; exact h
    have ht1 : Two w.heap.size bp bp w ((w.setCell ⟨bp, 0, none⟩ (.int .i64 1)).alloc (.cells #[.int .i64 0, .slice none 0 0] 24)) := ((Two.refl w.heap.size bp bp w).set (p := ⟨bp, 0, none⟩) (.inl rfl) _).trans (Two.of_below ((Below.refl _ _).alloc (by rw [hz1]; exact Nat.le_refl _) _))
    generalize (w.setCell ⟨bp, 0, none⟩ (.int .i64 1)).alloc (.cells #[.int .i64 0, .slice none 0 0] 24) = w1 at *
    have D1 := dec_n1 H71.out
    have D2 := dec_n2 H71.out
    have DQ := dec_q H71.out
    have l1 := num_le l 1 0 1073741824 (by omega)
    have i1 := num_in (l := l) (t := 1) (lo := 0) (hi := 1073741824)
    have hcall := takeNumber_any _ n cap l bp 1 0 1073741824 w1 (HL.out.keep (ht1.below hBW hBb hBb)) (by have := ht1.size; omega) hn (by omega) hw1 (by omega) (by omega)
    generalize num l 1 0 1073741824 = d1 at *
    obtain ⟨N, t1, ok1⟩ := d1
    simp only at D1 D2 DQ l1 i1 hcall
    refine hcall.mono ?_
    rintro e w2 ⟨rfl, q, rfl⟩
    have hw2 : Row ((w1.drewN q).setCell ⟨bp, 0, none⟩ (.int .i64 (t1 : Int))) bp 3 [.int .i64 (t1 : Int)] := (hw1.drewN q).set 0 _
    have hr2 : Row ((w1.drewN q).setCell ⟨bp, 0, none⟩ (.int .i64 (t1 : Int))) w.heap.size 24 [.int .i64 0, .slice none 0 0] := (hr1.drewN q).far (p := ⟨bp, 0, none⟩) (by simp; omega) _
    have ht2 : Two w.heap.size bp bp w ((w1.drewN q).setCell ⟨bp, 0, none⟩ (.int .i64 (t1 : Int))) := (ht1.drewN q).set (p := ⟨bp, 0, none⟩) (.inl rfl) _
    generalize (w1.drewN q).setCell ⟨bp, 0, none⟩ (.int .i64 (t1 : Int)) = w2 at *
    have HD1 := Lib.hid D1
    clear D1
    have r0 := hr2.cell 0
    have r1 := hr2.cell 1
    have rf0 := hr2.free 0
    have rf1 := hr2.free 1
    clear hcall hw1 hr1 ht1 at0 atf
    cases ok1
    · have HD := Lib.hid (HD1.out rfl)
      have HE := Lib.hid (took_end (x := .int .i64 0) (y := .slice none 0 0) hw2 ht2 hbw)
      clear hw2 hr2 ht2 D2 DQ i1 HD1
      go_wp2
      refine bodyPost_ret (v := .tuple #[.agg #[.int .i64 0, .slice none 0 0], .bool false]) (by simp [results, Try.results24, go_sem, r0, r1]) rfl ⟨false, t1, 0, none, 0, 0, rfl, HE.out.1, HE.out.2, by simp, fun _ => HD.out⟩
    · have hN := (i1 rfl).2
      replace D2 := D2 rfl
      replace DQ := DQ rfl
      have l2 := num_le l t1 0 (mostE N) (by omega)
      have i2 := num_in (l := l) (t := t1) (lo := 0) (hi := mostE N)
      have hcall := takeNumber_any _ n cap l bp t1 0 (mostE N) w2 (HL.out.keep (ht2.below hBW hBb hBb)) (by have := ht2.size; omega) hn (by omega) hw2 (by omega) (mostE_le N)
      generalize num l t1 0 (mostE N) = d2 at *
      obtain ⟨m, t2, ok2⟩ := d2
      simp only at D2 DQ l2 i2 hcall
      have HC := Lib.hid hcall
      have HD2 := Lib.hid D2
      have HDQ := Lib.hid DQ
      clear D2 DQ
      have HW2 := Lib.hid hw2
      have HR2 := Lib.hid hr2
      have HT2 := Lib.hid ht2
      have HI2 := Lib.hid i2
      have hml := mostE_le N
      clear hcall hw2 hr2 ht2 i2 i1 HD1
      go_wp2_with fail
      refine (most_any N _).mono ?_; rintro e w3 ⟨rfl, rfl⟩
      go_wp2_with fail
      refine HC.out.mono ?_
      rintro e w3 ⟨rfl, q2, rfl⟩
      have hw3 : Row ((w2.drewN q2).setCell ⟨bp, 0, none⟩ (.int .i64 (t2 : Int))) bp 3 [.int .i64 (t2 : Int)] := (HW2.out.drewN q2).set 0 _
      have hr3 : Row ((w2.drewN q2).setCell ⟨bp, 0, none⟩ (.int .i64 (t2 : Int))) w.heap.size 24 [.int .i64 0, .slice none 0 0] := (HR2.out.drewN q2).far (p := ⟨bp, 0, none⟩) (by simp; omega) _
      have ht3 : Two w.heap.size bp bp w ((w2.drewN q2).setCell ⟨bp, 0, none⟩ (.int .i64 (t2 : Int))) := (HT2.out.drewN q2).set (p := ⟨bp, 0, none⟩) (.inl rfl) _
      generalize (w2.drewN q2).setCell ⟨bp, 0, none⟩ (.int .i64 (t2 : Int)) = w3 at *
      have r0 := hr3.cell 0
      have r1 := hr3.cell 1
      have rf0 := hr3.free 0
      have rf1 := hr3.free 1
      clear HW2 HR2 HT2 HC
      cases ok2
      · have HD := Lib.hid (HD2.out rfl)
        have HE := Lib.hid (took_end (x := .int .i64 0) (y := .slice none 0 0) hw3 ht3 hbw)
        clear hw3 hr3 ht3
        go_wp2
        refine bodyPost_ret (v := .tuple #[.agg #[.int .i64 0, .slice none 0 0], .bool false]) (by simp [results, Try.results24, go_sem, r0, r1]) rfl ⟨false, t2, 0, none, 0, 0, rfl, HE.out.1, HE.out.2, by simp, fun _ => HD.out⟩
      · have hm := (HI2.out rfl).2
        have DQ := Lib.hid (HDQ.out rfl)
        clear HDQ HD2 HI2
        have hS4 : Stand (w3.alloc (.cells #[.int .i64 (N : Int), .slice none 0 0] 24)) (w3.alloc (.cells #[.int .i64 (N : Int), .slice none 0 0] 24)) (w3.heap.size + 1) bp w3.heap.size N t2 [] :=
          ⟨hw3.alloc _, ⟨.slice none 0 0, heap_alloc_new _ _, World.ownsRow_nil _ _ _ _⟩, Two.refl _ _ _ _⟩
        have hr4 := hr3.alloc (.cells #[.int .i64 (N : Int), .slice none 0 0] 24)
        have hlt3 : w.heap.size < w3.heap.size := hr3.lt
        have ht4 : Two w.heap.size bp bp w (w3.alloc (.cells #[.int .i64 (N : Int), .slice none 0 0] 24)) := ht3.trans (Two.of_below ((Below.refl _ _).alloc (by omega) _))
        have hz4 : (w3.alloc (.cells #[.int .i64 (N : Int), .slice none 0 0] 24)).heap.size = w3.heap.size + 1 := by simp
        have hr5 := HL.out.keep (ht4.below hBW hBb hBb)
        have HS4 := Lib.hid hS4
        have HR4 := Lib.hid hr4
        have HT4 := Lib.hid ht4
        have HL4 := Lib.hid hr5
        have HZ4 := Lib.hid hz4
        clear hw3 hr3 ht3 hS4 hr4 ht4 hz4 hr5 r0 r1 rf0 rf1
        go_wp2
        generalize w3.alloc (.cells #[.int .i64 (N : Int), .slice none 0 0] 24) = w4 at *
        generalize w3.heap.size = gp at *
        have hz4 : gp + 1 ≤ w4.heap.size := by rw [HZ4.out]; exact Nat.le_refl _
        go_loopw [46] (fun iv wr => ∃ (u t : Nat) (acc : List (Int × Int)), u ≤ N ∧ iv = .int .i64 u ∧ t ≤ n ∧ acc.length ≤ m ∧ w4.heap.size ≤ wr.heap.size ∧ Hid (Stand w4 wr (gp + 1) bp gp N t acc) ∧ Hid (tV l N m (N - u) u t acc = tV l N m N 0 t2 [])) (fun iv _ => N - (intOf iv).toNat)
        case atStart => exact ⟨0, t2, [], by omega, rfl, by omega, by simp, Nat.le_refl _, HS4.out, by unfold Hid; rw [Nat.sub_zero]⟩
        case round =>
          obtain ⟨u, t, acc, hu, rfl, ht, ha, hz, HS, HV⟩ := hrel
          obtain ⟨b1, ⟨v, b2, b3⟩, b4⟩ := id HS.out
          have hrr := b4.row HR4.out (by omega) (by omega) (by omega)
          have HRR := Lib.hid hrr
          have r0 := hrr.cell 0
          have r1 := hrr.cell 1
          have rf0 := hrr.free 0
          have rf1 := hrr.free 1
          have HB1 := Lib.hid b1
          have HB4 := Lib.hid b4
          have HB2 := Lib.hid b2
          have HB3 := Lib.hid b3
          clear hrr b1 b2 b3 b4
          by_cases hlt : u < N
          · obtain ⟨k, hk⟩ : ∃ k, N - u = k + 1 := ⟨N - u - 1, by omega⟩
            have hcall := takeVertex_any _ n cap l (gp + 1) bp gp N u k t m acc w4 wr HL4.out hn hBb (by omega) (by omega) (by omega) (by omega) (by omega) HS.out hN (by omega) (by omega) ha ht
            have hT := HV.out
            rw [hk] at hT
            have hTB := tV_bad (l := l) (N := N) (m := m) (k := k) (u := u) (t := t) (acc := acc)
            have hTG := tV_go (l := l) (N := N) (m := m) (k := k) (u := u) (t := t) (acc := acc)
            have hUL := tU_le l N m k u t acc (by omega)
            have hUE := tU_len (l := l) (N := N) (k := k) (u := u) (t := t) ha
            generalize tU l N m k u t acc = d at *
            obtain ⟨acc2, t3, ok3⟩ := d
            simp only at hcall hTB hTG hUL hUE
            have HC := Lib.hid hcall
            have HT := Lib.hid hT
            have HTB := Lib.hid hTB
            have HTG := Lib.hid hTG
            have HK := Lib.hid hk
            clear hcall hT hTB hTG hk HV
            go_wp2_with fail
            refine HC.out.mono ?_
            rintro e w5 ⟨rfl, hS5, hz5⟩
            have HS5 := Lib.hid hS5
            obtain ⟨b1, ⟨v5, b2, b3⟩, b4⟩ := hS5
            have hrr := b4.row HR4.out (by omega) (by omega) (by omega)
            have r0 := hrr.cell 0
            have r1 := hrr.cell 1
            have rf0 := hrr.free 0
            have rf1 := hrr.free 1
            cases ok3
            · have HD : Hid (dec l = (false, 0, [], t3)) := by
                have := DQ.out _ (HT.out.symm.trans (HTB.out rfl))
                unfold Hid; rw [this]; simp
              have HE := Lib.hid (took_end (x := .int .i64 0) (y := .slice none 0 0) b1 (HT4.out.trans (b4.lower (by omega) (by omega))) hbw)
              clear hrr b1 b2 b3 b4
              go_wp2
              refine bodyPost_ret (v := .tuple #[.agg #[.int .i64 0, .slice none 0 0], .bool false]) (by simp [results, Try.results24, go_sem, r0, r1]) rfl ⟨false, t3, 0, none, 0, 0, rfl, HE.out.1, HE.out.2, by simp, fun _ => HD.out⟩
            · have HV2 : Hid (tV l N m k (u + 1) t3 acc2 = tV l N m N 0 t2 []) := by unfold Hid; rw [← HT.out]; exact (HTG.out rfl).symm
              clear hrr b1 b2 b3 b4 r0 r1 rf0 rf1
              go_wp2
              go_roundw
              case rel => exact ⟨u + 1, t3, acc2, by omega, by go_num, by omega, by omega, by omega, HS5.out, by unfold Hid; rw [show N - (u + 1) = k by have := HK.out; omega]; exact HV2.out⟩
              case measure => simp [intOf]; omega
          · obtain rfl : u = N := by omega
            obtain ⟨A, c, rfl⟩ := own_form HB3.out
            have e0 := HB2.out.cell 0
            have e1 := HB2.out.cell 1
            have a0 := HB1.out.cell 0
            have HQ : Hid (tV l u m u 0 t2 [] = (acc, t, true)) := by
              have := HV.out
              rw [Nat.sub_self] at this
              unfold Hid; rw [← this]; rfl
            go_wp2
            go_region
            go_wp2
            have hE := took_end (x := .int .i64 (u : Int)) (y := .slice A acc.length c) HB1.out (HT4.out.trans (HB4.out.lower (by omega) (by omega))) hbw
            have hdec := DQ.out _ HQ.out
            simp only [true_and] at hdec
            refine bodyPost_ret (v := .tuple #[.agg #[.int .i64 (u : Int), .slice A acc.length c], .bool ((t : Int) == (n : Int))]) (by simp [results, Try.results24, go_sem, r0, r1]) rfl ⟨(t : Int) == (n : Int), t, u, A, acc.length, c, rfl, hE.1, ⟨hE.2.os, hE.2.tape, hE.2.output, hE.2.size, hE.2.block⟩, fun h => ?_, fun h => ?_⟩
            · have htn : t = l.length := by simp at h; omega
              rw [if_pos htn] at hdec
              have hown : (((wr.setCell ⟨w.heap.size, 0, none⟩ (.int .i64 (u : Int))).setCell ⟨w.heap.size, 1, none⟩ (.slice A acc.length c)).drew).ownsRow (gp + 1) 43 2 (.slice A acc.length c) acc.length (flatE acc) :=
                own_keep2 HB3.out fun b hb1 _ => (heap_setCell_other _ ⟨w.heap.size, 1, none⟩ b _ (by simp; omega)).trans (heap_setCell_other _ ⟨w.heap.size, 0, none⟩ b _ (by simp; omega))
              exact ⟨u, acc, rfl, hdec, rfl, own_base2 hown (by omega)⟩
            · have htn : ¬ t = l.length := by simp at h; omega
              rw [if_neg htn] at hdec
              exact hdec
  · have HX := Lib.hid (dec_71 h71)
    by_cases hpos : n = 0
    · subst hpos
      go_enter Try.func24, Try.ntmps24
      go_wp2
      refine bodyPost_ret (v := .tuple #[.agg #[.int .i64 0, .slice none 0 0], .bool false]) (by simp [results, Try.results24, go_sem, r0, r1]) rfl ⟨false, 0, 0, none, 0, 0, rfl, hat.alloc _, Two.of_below ((Below.refl w.heap.size w).alloc (Nat.le_refl _) _), by simp, fun _ => HX.out⟩
    · obtain ⟨b, off, c, rfl, hb, hc, hw8, HC⟩ := hl.at_ (show 0 < n by omega)
      have hcc : c ≠ 71 := by rw [HC.out]; exact h71
      have g : ((c : Int) != 71) = true := by simp; omega
      have hb2 : b < w.heap.size := by omega
      rw [Nat.add_zero] at hc
      go_enter Try.func24, Try.ntmps24
      go_wp2
      refine bodyPost_ret (v := .tuple #[.agg #[.int .i64 0, .slice none 0 0], .bool false]) (by simp [results, Try.results24, go_sem, r0, r1]) rfl ⟨false, 0, 0, none, 0, 0, rfl, hat.alloc _, Two.of_below ((Below.refl w.heap.size w).alloc (Nat.le_refl _) _), by simp, fun _ => HX.out⟩

/-- what Decode answers: the graph that was read, or the wrong place -/
def Decoded (w : World) (l : List Nat) (e : Ending) (w' : World) : Prop :=
  Below w.heap.size w w' ∧ (((dec l).1 = false ∧ e = .returned (.tuple #[.agg #[.int .i64 0, .slice none 0 0], .int .i64 ((dec l).2.2.2 : Nat), .int .i64 3])) ∨
    ∃ (M : Nat) (E : List (Int × Int)) (A : Option Addr) (c : Nat), dec l = (true, M, E, 0) ∧ e = .returned (.tuple #[.agg #[.int .i64 (M : Int), .slice A E.length c], .int .i64 0, .int .i64 0]) ∧ ReadsE w' w'.heap.size A E.length E)

set_option maxHeartbeats 1600000 in
set_option maxRecDepth 100000 in
theorem decode_any (a : Option Addr) (n cap : Nat) (l : List Nat) (w : World) {B : Nat} (hl : Reads .u8 w B a n l) (hB : B ≤ w.heap.size) (hn : n ≤ 90000) :
    Calls Try.prog 14 #[.slice a n cap] w (Decoded w l) := by
  have h1 : Row (w.alloc (.cells #[.int .i64 0, .slice none 0 0] 24)) w.heap.size 24 [.int .i64 0, .slice none 0 0] := heap_alloc_new _ _
  have h2 : Row ((w.alloc (.cells #[.int .i64 0, .slice none 0 0] 24)).alloc (.cells #[.int .i64 0] 3)) (w.heap.size + 1) 3 [.int .i64 0] := by
    have h := heap_alloc_new (w.alloc (.cells #[.int .i64 0, .slice none 0 0] 24)) (.cells #[.int .i64 0] 3)
    rw [show (w.alloc (.cells #[.int .i64 0, .slice none 0 0] 24)).heap.size = w.heap.size + 1 by simp] at h
    exact h
  have HR := Lib.hid (h1.alloc (.cells #[.int .i64 0] 3))
  have HWF : Hid (∀ c ∈ l, c < 256) := fun c hc => u8_lt (hl.2.1 c hc)
  have HA := Lib.hid h2
  have HB0 := Lib.hid (two_new w (.cells #[.int .i64 0, .slice none 0 0] 24) (.cells #[.int .i64 0] 3))
  have HL := Lib.hid (hl.keep (HB0.out.mono hB))
  have HZ : Hid (((w.alloc (.cells #[.int .i64 0, .slice none 0 0] 24)).alloc (.cells #[.int .i64 0] 3)).heap.size = w.heap.size + 2) := by unfold Hid; simp
  clear h1 h2 hl
  go_enter Try.func14, Try.ntmps14
  go_wp2_with fail
  refine (takeGraph_any a n cap l (w.heap.size + 1) _ HL.out hn (by omega) HA.out).mono ?_
  rintro e w1 ⟨ok, p, N, A, m, c, rfl, hp, htwo, htrue, hfalse⟩
  rw [HZ.out] at htwo
  have hr1 := htwo.row HR.out (by omega) (by omega) (by omega)
  have hb1 : Below w.heap.size w w1 := HB0.out.trans (htwo.below (by omega) (by omega) (by omega))
  have hs1 := hp.lt
  have hb2 := hb1.alloc (show w.heap.size ≤ w1.heap.size by omega) (.cells #[.int .i64 N, .slice A m c] 24)
  have hr2 := hr1.alloc (.cells #[.int .i64 N, .slice A m c] 24)
  have hp2 := hp.alloc (.cells #[.int .i64 N, .slice A m c] 24)
  have r0 := hr2.cell 0
  have r1 := hr2.cell 1
  have rf0 := hr2.free 0
  have rf1 := hr2.free 1
  have a0 := hp2.cell 0
  have hg2 : Row (w1.alloc (.cells #[.int .i64 N, .slice A m c] 24)) w1.heap.size 24 [.int .i64 N, .slice A m c] := heap_alloc_new _ _
  have HB2 := Lib.hid hb2
  have hz2 : w.heap.size + 2 ≤ (w1.alloc (.cells #[.int .i64 N, .slice A m c] 24)).heap.size := by simp; omega
  cases ok
  · have HD := Lib.hid (hfalse rfl)
    clear htrue hfalse htwo hr1 hb1 hb2 hr2 hp2 hp
    go_wp2
    go_region
    go_wp2
    refine bodyPost_ret (v := .tuple #[.agg #[.int .i64 0, .slice none 0 0], .int .i64 (p : Int), .int .i64 3]) (by simp [results, Try.results14, go_sem, r0, r1]) rfl ⟨?_, .inl ⟨by rw [HD.out], by rw [HD.out]⟩⟩
    have hE := (HB2.out.setCell (p := ⟨w.heap.size, 0, none⟩) (Nat.le_refl _) (.int .i64 0)).setCell (p := ⟨w.heap.size, 1, none⟩) (Nat.le_refl _) (.slice none 0 0)
    exact ⟨hE.os, hE.tape, hE.output, hE.size, hE.block⟩
  · obtain ⟨M, E, rfl, hd, rfl, hrd⟩ := htrue rfl
    have HD := Lib.hid hd
    rw [HZ.out] at hrd
    have HRD := Lib.hid (own_keep2 hrd (w' := w1.alloc (.cells #[.int .i64 (M : Int), .slice A E.length c] 24)) fun b _ hb => Below.heap_alloc w1 _ b hb)
    have hne : w.heap.size ≠ w1.heap.size := by omega
    clear htrue hfalse htwo hr1 hb1 hb2 hr2 hp2 hp hrd hd
    go_wp2
    refine bodyPost_ret (v := .tuple #[.agg #[.int .i64 (M : Int), .slice A E.length c], .int .i64 0, .int .i64 0]) (by simp [results, Try.results14, go_sem, r0, r1]) rfl ⟨?_, .inr ⟨M, E, A, c, HD.out, rfl, ?_⟩⟩
    · exact (HB2.out.setCell (p := ⟨w.heap.size, 0, none⟩) (Nat.le_refl _) _).setCell (p := ⟨w.heap.size, 1, none⟩) (Nat.le_refl _) _
    · have hown : (((w1.alloc (.cells #[.int .i64 (M : Int), .slice A E.length c] 24)).setCell ⟨w.heap.size, 0, none⟩ (.int .i64 (M : Int))).setCell ⟨w.heap.size, 1, none⟩ (.slice A E.length c)).ownsRow (w.heap.size + 2) 43 2 (.slice A E.length c) E.length (flatE E) :=
        own_keep2 HRD.out fun b hb1 _ => (heap_setCell_other _ ⟨w.heap.size, 1, none⟩ b _ (by simp; omega)).trans (heap_setCell_other _ ⟨w.heap.size, 0, none⟩ b _ (by simp; omega))
      obtain ⟨A2, c2, he, hrd⟩ := own_edges hown rfl (dec_edges HWF.out HD.out).2.2.2.2.2
      injection he with he _ _
      subst he
      exact hrd
end Go.Proofs.Ytdjmjabbjjcgiaa
