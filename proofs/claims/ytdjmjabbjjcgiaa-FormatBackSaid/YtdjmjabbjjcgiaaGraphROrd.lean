/- What the reference's Order answers. -/
import Derived.Test.YtdjmjabbjjcgiaaGraphOrder
import Derived.Test.YtdjmjabbjjcgiaaGraphIns
namespace Go.Proofs.Ytdjmjabbjjcgiaa
open Go.ChangeShapes Go.WideShapes Go.ChangeAt Go.RowKit

set_option maxHeartbeats 800000 in
set_option maxRecDepth 100000 in
theorem rorder_bad (N : Int) (a : Option Addr) (n cap : Nat) (l : List (Int × Int)) (w : World) {B : Nat} (hN : I64 N) (hf : formed N l = false) (hl : ReadsE w B a n l) (hB : B ≤ w.heap.size) (hcap : n ≤ 9223372036854775807) :
    Calls Try.prog 17 #[.agg #[.int .i64 N, .slice a n cap]] w (NoGraph w) := by
  have HL0 := Lib.hid (fun o => ((hl.keep ((Below.refl _ _).alloc hB (.cells #[.int .i64 N, .slice a n cap] 24))).mono (show B ≤ w.heap.size + 1 by omega)).keep ((Below.refl _ _).alloc (by simp) o))
  have HF := Lib.hid hf
  clear hf
  go_enter Try.func17, Try.ntmps17
  go_wp2_with fail
  refine (rformed_any N a n cap l _ hN (HL0.out _) (by simp) hcap).mono ?_; rintro e w1 ⟨rfl, hb1⟩
  rw [HF.out]
  have hb1' : Below (w.heap.size + 2) _ w1 := hb1.mono (by simp)
  have hr : Row w1 (w.heap.size + 1) 24 [.int .i64 0, .slice none 0 0] := by
    refine Row.below ?_ hb1' (by omega)
    have := heap_alloc_new (w.alloc (.cells #[.int .i64 N, .slice a n cap] 24)) (.cells #[.int .i64 0, .slice none 0 0] 24)
    rw [show (w.alloc (.cells #[.int .i64 N, .slice a n cap] 24)).heap.size = w.heap.size + 1 by simp] at this
    exact this
  have c0 := hr.cell 0
  have c1 := hr.cell 1
  have f0 := hr.free 0
  have f1 := hr.free 1
  have HB := Lib.hid (((two_new w (.cells #[.int .i64 N, .slice a n cap] 24) (.cells #[.int .i64 0, .slice none 0 0] 24)).trans (hb1.mono (show w.heap.size ≤ _ by simp; omega))))
  have hsz : w.heap.size + 1 < w1.heap.size := hr.lt
  clear hb1 hb1'
  go_wp2
  refine bodyPost_ret (v := .tuple #[.agg #[.int .i64 0, .slice none 0 0], .int .i64 1]) (by simp [results, Try.results17, go_sem, c0, c1]) rfl ⟨rfl, ?_⟩
  exact (HB.out.setCell (p := ⟨w.heap.size + 1, 0, none⟩) (by simp) _).setCell (p := ⟨w.heap.size + 1, 1, none⟩) (by simp) _

/-- What is owned of edges, and isn't empty, is a row of its own. -/
theorem own_row2 {w : World} {base : Nat} {e : TypeId} {v : Value} {n : Nat} {xs : List Value} (h : w.ownsRow base e 2 v n xs) (hn : 0 < n) :
    ∃ g cap T, v = .slice (some ⟨g, 0, none⟩) n cap ∧ base ≤ g ∧ Row w g e (xs ++ T) ∧ n ≤ cap ∧ cap ≤ maxLen ∧ (xs ++ T).length = cap * 2 := by
  rcases h.2 with ⟨_, h0⟩ | ⟨g, cap, cur, rfl, hg, hh, hcap, hm, hs, ht⟩
  · omega
  · have e1 : xs ++ cur.toList.drop (n * 2) = cur.toList := by rw [← ht]; exact List.take_append_drop _ _
    refine ⟨g, cap, cur.toList.drop (n * 2), rfl, hg, ?_, hcap, hm, by rw [e1]; simpa using hs⟩
    rw [e1]; exact hh
theorem own_of_row2 {w : World} {base g cap n : Nat} {e : TypeId} {xs T : List Value} (h : Row w g e (xs ++ T)) (hb : base ≤ g) (hx : xs.length = n * 2) (hcap : n ≤ cap) (hm : cap ≤ maxLen) (hs : (xs ++ T).length = cap * 2) : w.ownsRow base e 2 (.slice (some ⟨g, 0, none⟩) n cap) n xs :=
  ⟨hx, .inr ⟨g, cap, (xs ++ T).toArray, rfl, hb, h, hcap, hm, by simpa using hs, by simp [← hx]⟩⟩
theorem own_keep2 {w w' : World} {base : Nat} {e : TypeId} {v : Value} {n : Nat} {xs : List Value} (h : w.ownsRow base e 2 v n xs) (hb : ∀ b, base ≤ b → b < w.heap.size → w'.heap[b]? = w.heap[b]?) : w'.ownsRow base e 2 v n xs := by
  refine ⟨h.1, ?_⟩
  rcases h.2 with h0 | ⟨g, cap, cur, h1, h2, h3, h4⟩
  · exact .inl h0
  · refine .inr ⟨g, cap, cur, h1, h2, ?_, h4⟩
    have hlt : g < w.heap.size := by
      rcases Nat.lt_or_ge g w.heap.size with h | h
      · exact h
      · rw [Array.getElem?_eq_none h] at h3; cases h3
    rw [hb g h2 hlt]; exact h3
theorem flat_cell {w : World} {g : Nat} {E : List (Int × Int)} {T : List Value} {t : TypeId} (h : Row w g t (flatE E ++ T)) {i : Nat} (hi : i < E.length) : w.cell? ⟨g, i * 2, none⟩ = some (.int .i64 (gE E i).1) ∧ w.cell? ⟨g, i * 2 + 1, none⟩ = some (.int .i64 (gE E i).2) := by
  have hg := flatE_get E i hi
  have hl := flatE_length E
  constructor
  · rw [h.cell, List.getElem?_append_left (by omega)]; exact hg.1
  · rw [h.cell, List.getElem?_append_left (by omega)]; exact hg.2
theorem flat_set {w : World} {g : Nat} {E : List (Int × Int)} {T : List Value} {t : TypeId} (h : Row w g t (flatE E ++ T)) {i : Nat} (hi : i < E.length) (e : Int × Int) : Row ((w.setCell ⟨g, i * 2, none⟩ (.int .i64 e.1)).setCell ⟨g, i * 2 + 1, none⟩ (.int .i64 e.2)) g t (flatE (E.set i e) ++ T) := by
  have h2 := (h.set (i * 2) (.int .i64 e.1)).set (i * 2 + 1) (.int .i64 e.2)
  have hl := flatE_length E
  rw [List.set_append_left _ _ (by omega), List.set_append_left _ _ (by simp; omega), ← flatE_set] at h2
  exact h2
theorem cells2 {w : World} {t : TypeId} {x y : Value} : ∀ j v, ([x, y] : List Value)[j]? = some v → (w.alloc (.cells #[x, y] t)).cell? ((⟨w.heap.size, 0, none⟩ : Addr).add j) = some v := by
  intro j v hj
  match j, hj with
  | 0, hj => simp at hj; subst hj; simp [Addr.add]
  | 1, hj => simp at hj; subst hj; simp [Addr.add]
theorem news22 {w : World} {o : Obj} {t : TypeId} {x y : Value} : ∀ j v, ([x, y] : List Value)[j]? = some v → ((w.alloc o).alloc (.cells #[x, y] t)).cell? ((⟨w.heap.size + 1, 0, none⟩ : Addr).add j) = some v := by
  have := cells2 (w := w.alloc o) (t := t) (x := x) (y := y)
  simpa using this
theorem cell_ad {W : World} {o : Obj} {p : Addr} {v : Value} (h : W.cell? p = some v) : (W.alloc o).drew.cell? p = some v :=
  ((((Below.refl W.heap.size W).alloc (Nat.le_refl _) o).drew).cell (block_lt_of_cell h)).trans h
theorem flatE_snoc (E : List (Int × Int)) (e : Int × Int) : flatE (E ++ [e]) = flatE E ++ [.int .i64 e.1, .int .i64 e.2] := by simp [flatE, encE]
theorem norm_lt {u v : Int} (h : v < u) : norm (u, v) = (v, u) := by unfold norm; ext <;> simp only <;> omega
theorem norm_ge {u v : Int} (h : ¬ v < u) : norm (u, v) = (u, v) := by unfold norm; ext <;> simp only <;> omega

set_option maxHeartbeats 6400000 in
set_option maxRecDepth 100000 in
theorem rorder_ok (N : Int) (a : Option Addr) (n cap : Nat) (l : List (Int × Int)) (w : World) {B : Nat} (hN : I64 N) (hf : formed N l = true) (hl : ReadsE w B a n l) (hB : B ≤ w.heap.size) :
    Calls Try.prog 17 #[.agg #[.int .i64 N, .slice a n cap]] w (Graphed w N n (order l)) := by
  obtain ⟨⟨_, _, hn1⟩, _⟩ := formed_iff.1 hf
  have hn : n ≤ 1073741824 := by rw [← hl.1]; exact hn1
  have HLEN := Lib.hid hl.1
  have HL0 := Lib.hid (fun o => ((hl.keep ((Below.refl _ _).alloc hB (.cells #[.int .i64 N, .slice a n cap] 24))).mono (show B ≤ w.heap.size + 1 by omega)).keep ((Below.refl _ _).alloc (by simp) o))
  have HF := Lib.hid hf
  have HWF : Hid (∀ x ∈ order l, I64 x.1 ∧ I64 x.2) := fun x hx => by
    obtain ⟨y, hy, rfl⟩ := List.mem_map.1 ((order_perm l).mem_iff.1 hx)
    have h := hl.2.1 y hy
    have h1 := h.1.bounds; have h2 := h.2.bounds
    exact ⟨I64.of (by unfold norm; simp only; omega) (by unfold norm; simp only; omega), I64.of (by unfold norm; simp only; omega) (by unfold norm; simp only; omega)⟩
  obtain ⟨i0, hi, hz0, hz1, hz2⟩ := info_parts info_edge
  clear hf hn1
  go_enter Try.func17, Try.ntmps17
  go_wp2_with fail
  refine (rformed_any N a n cap l _ hN (HL0.out _) (by simp) (by omega)).mono ?_; rintro e w1 ⟨rfl, hb1⟩
  rw [HF.out]
  have hb1' : Below (w.heap.size + 2) ((w.alloc (.cells #[.int .i64 N, .slice a n cap] 24)).alloc (.cells #[.int .i64 0, .slice none 0 0] 24)) w1 := hb1.mono (by simp)
  obtain ⟨c0, c1, _, _⟩ := box2b hb1'
  have hr : Row w1 (w.heap.size + 1) 24 [.int .i64 0, .slice none 0 0] := by
    refine Row.below ?_ hb1' (by omega)
    have := heap_alloc_new (w.alloc (.cells #[.int .i64 N, .slice a n cap] 24)) (.cells #[.int .i64 0, .slice none 0 0] 24)
    rw [show (w.alloc (.cells #[.int .i64 N, .slice a n cap] 24)).heap.size = w.heap.size + 1 by simp] at this
    exact this
  have HR := Lib.hid hr
  have HB1 := Lib.hid (((two_new w (.cells #[.int .i64 N, .slice a n cap] 24) (.cells #[.int .i64 0, .slice none 0 0] 24)).trans (hb1.mono (show w.heap.size ≤ _ by simp; omega))))
  have HL1 := Lib.hid ((HL0.out (.cells #[.int .i64 0, .slice none 0 0] 24)).keep (hb1'.mono (show w.heap.size + 1 ≤ w.heap.size + 2 by omega)))
  have hsz : w.heap.size + 1 < w1.heap.size := hr.lt
  clear hb1 hb1' hr HL0
  go_wp2
  obtain ⟨Bo, hBo⟩ : ∃ Bo, Bo = w1.heap.size := ⟨_, rfl⟩
  rw [← hBo] at hsz
  have HBO := Lib.hid hBo
  rw [← hBo]
  have HRO : Hid (Row (w1.alloc (.cells #[.int .i64 N, .slice none 0 0] 24)) Bo 24 [.int .i64 N, .slice none 0 0]) := by unfold Hid; rw [hBo]; exact heap_alloc_new _ _
  have HNIL : Hid ((w1.alloc (.cells #[.int .i64 N, .slice none 0 0] 24)).ownsRow (Bo + 1) 43 2 (.slice none 0 0) 0 (flatE (order (l.take 0)))) := by
    unfold Hid; rw [List.take_zero, show order [] = [] by simp [order]]; exact World.ownsRow_nil _ _ _ _
  clear hBo
  go_loopw [5] (fun iv wr => ∃ (i : Nat) (v : Value), i ≤ n ∧ iv = .int .i64 i ∧ Hid (Below Bo w1 wr) ∧ Hid (Row wr Bo 24 [.int .i64 N, v]) ∧ Hid (wr.ownsRow (Bo + 1) 43 2 v i (flatE (order (l.take i))))) (fun iv _ => n - (intOf iv).toNat)
  case atStart => exact ⟨0, .slice none 0 0, by omega, rfl, (Below.refl _ _).alloc (by have := HBO.out; omega) _, HRO.out, HNIL.out⟩
  case round =>
    obtain ⟨i, v, hi1, rfl, HBW, HO, HW⟩ := hrel
    have o0 := HO.out.cell 0
    have o1 := HO.out.cell 1
    have e0 := (HBW.out.cell (p := ⟨w.heap.size, 0, none⟩) (by simp; omega)).trans c0
    have e1 := (HBW.out.cell (p := ⟨w.heap.size, 1, none⟩) (by simp; omega)).trans c1
    have hbr : Bo < wr.heap.size := HO.out.lt
    have hwr : w.heap.size < wr.heap.size := by omega
    by_cases hlt : i < n
    · obtain ⟨b, off, u, x, rfl, hb, hu, hx, wu, wx, HEK⟩ := (HL1.out.keep (HBW.out.mono (by omega))).at_ hlt
      have hb2 : b < wr.heap.size := by omega
      have hj0 : (0 : Int) ≤ (i : Int) := by omega
      have hj1 : (i : Int) < (n : Int) := by omega
      obtain ⟨⟨p1, p2⟩, hP⟩ : ∃ P, norm (u, x) = P := ⟨_, rfl⟩
      have HP := Lib.hid hP
      go_upto_if 32 with (fail)
      go_cut [40] from 16 to 83 (fun _ wx => wx = wr.alloc (.cells #[.int .i64 p1, .int .i64 p2] 43))
      case first =>
        by_cases hsw : x < u
        · have g1 : decide (x < u) = true := by simp; omega
          rw [norm_lt hsw] at hP
          injection hP with h1 h2
          subst h1; subst h2
          rw [g1]
          go_wp2
          go_meet
          rfl
        · have g1 : decide (x < u) = false := by simp; omega
          rw [norm_ge hsw] at hP
          injection hP with h1 h2
          subst h1; subst h2
          rw [g1]
          go_wp2
          go_meet
          rfl
      case rest =>
        subst hcut
        clear hP
        go_wp2_with (with_reducible refine stopAt 42 ?_)
        unfold Hid
        refine wpList_append_own _ rfl _ _ 22 rfl (Bo + 1) 43 i0 (.agg #[.int .i64 0, .int .i64 0]) 2 16 Try.underlying22 hi hz0 hz1 hz2 rfl (by omega) v i _ rfl ((HW.out.alloc _).alloc _) ⟨wr.heap.size + 1, 0, none⟩ 1 1 [.int .i64 p1, .int .i64 p2] rfl rfl news22 (by simp [Value.oneCell']) (by unfold maxLen; omega) (by omega) (by simp; omega) ?_
        intro v' w' hown' hgrow' _
        have hrb : Row w' Bo 24 [.int .i64 N, v] := by
          have h := (HO.out.alloc (.cells #[.int .i64 p1, .int .i64 p2] 43)).alloc (.cells #[.int .i64 p1, .int .i64 p2] 43)
          exact (hgrow'.block Bo h.lt (fun e => by have := (HW.out.lt Bo e.symm).1; omega)).trans h
        have hbw : Below Bo w1 w' := by
          have hz : w1.heap.size ≤ wr.heap.size := HBW.out.size
          refine Below.grown ((HBW.out.alloc (by omega) (.cells #[.int .i64 p1, .int .i64 p2] 43)).alloc (by simp; omega) (.cells #[.int .i64 p1, .int .i64 p2] 43)) hgrow' (by simp; omega) fun k hk => by have := (HW.out.lt k hk).1; omega
        have HRB := Lib.hid hrb
        have HBB := Lib.hid hbw
        have HWW := Lib.hid hown'
        have o0' := hrb.cell 0
        have o1' := hrb.cell 1
        have of1 := hrb.free 1
        have hbw2 : Bo < w'.heap.size := hrb.lt
        obtain ⟨g, cp, T, rfl, hg, hrow, hc1, hc2, hc3⟩ := own_row2 hown' (by omega)
        have hgw : g < w'.heap.size := hrow.lt
        have HT1 := Lib.hid hc3
        have HT2 := Lib.hid hc2
        have HW5' := Lib.hid hrow
        clear hrb hbw hown' hgrow' o0 o1 e0 e1 hrow hc2 hc3 HWW
        go_upto_region 11 with (fail)
        have hr5 := HRB.out.set 1 (.slice (some ⟨g, 0, none⟩) (i + 1) cp)
        have hb5 := HBB.out.setCell (p := ⟨Bo, 1, none⟩) (Nat.le_refl _) (.slice (some ⟨g, 0, none⟩) (i + 1) cp)
        have hrow := HW5'.out.far (p := ⟨Bo, 1, none⟩) (show g ≠ Bo by omega) (.slice (some ⟨g, 0, none⟩) (i + 1) cp)
        rw [← show flatE (order (l.take i) ++ [norm (u, x)]) = flatE (order (l.take i)) ++ [.int .i64 p1, .int .i64 p2] by rw [flatE_snoc, HP.out]] at hrow
        have hT1 := HT1.out
        rw [← show flatE (order (l.take i) ++ [norm (u, x)]) = flatE (order (l.take i)) ++ [.int .i64 p1, .int .i64 p2] by rw [flatE_snoc, HP.out]] at hT1
        have HT1 := Lib.hid hT1
        generalize w'.setCell ⟨Bo, 1, none⟩ (.slice (some ⟨g, 0, none⟩) (i + 1) cp) = w5 at *
        have hTL : Hid (l.take (i + 1) = l.take i ++ [(u, x)]) := take_edge HLEN.out hlt HEK.out
        have HST : Hid (InsAt ((l.take (i + 1)).map norm) (order (l.take i) ++ [norm (u, x)]) i i) := InsAt.start (by simp; have := HLEN.out; omega) hTL.out
        have HR5 : Hid (Row w5 Bo 24 [.int .i64 N, .slice (some ⟨g, 0, none⟩) (i + 1) cp]) := hr5
        have HB5 := Lib.hid hb5
        have HW5 := Lib.hid hrow
        clear hr5 hb5 hrow hT1 HRB HBB HW5' o0' o1' of1 hbw2 HO HW HBW hTL
        generalize order (l.take i) ++ [norm (u, x)] = E0 at *
        go_wp2
        go_loopw [7] (fun kv wq => ∃ (k : Nat) (E : List (Int × Int)), k ≤ i ∧ kv = .int .i64 k ∧ Hid (Below Bo w1 wq) ∧ Hid (Row wq Bo 24 [.int .i64 N, .slice (some ⟨g, 0, none⟩) (i + 1) cp]) ∧ Hid (Row wq g 43 (flatE E ++ T)) ∧ Hid ((flatE E ++ T).length = cp * 2) ∧ Hid (InsAt ((l.take (i + 1)).map norm) E i k)) (fun kv _ => (intOf kv).toNat)
        case atStart => exact ⟨i, E0, by omega, rfl, HB5.out, HR5.out, HW5.out, HT1.out, HST.out⟩
        case round =>
          obtain ⟨k, E, hk, rfl, HBQ, HRQ, HEQ, HTQ, HIQ⟩ := hrel
          have o0 := HRQ.out.cell 0
          have o1 := HRQ.out.cell 1
          have hbq : Bo < wr.heap.size := HRQ.out.lt
          have hgq : g < wr.heap.size := HEQ.out.lt
          have hout : (k = 0 ∨ ltE (gE E k) (gE E (k - 1)) = false) → ∀ w'', Below Bo w1 w'' → Row w'' Bo 24 [.int .i64 N, .slice (some ⟨g, 0, none⟩) (i + 1) cp] → Row w'' g 43 (flatE E ++ T) → w''.ownsRow (Bo + 1) 43 2 (.slice (some ⟨g, 0, none⟩) (i + 1) cp) (i + 1) (flatE (order (l.take (i + 1)))) := fun hs w'' _ _ h3 => by
            have hE := HIQ.out.stop hk hs
            have hlen : (flatE E).length = (i + 1) * 2 := by rw [flatE_length, HIQ.out.len]
            rw [← hE]
            exact own_of_row2 h3 (by omega) hlen hc1 HT2.out HTQ.out
          have HOUT := Lib.hid hout
          clear hout
          by_cases hk0 : k = 0
          · subst hk0
            have g1 : decide ((0 : Int) < (0 : Int)) = false := by simp
            go_wp2
            go_quiet (fail)
            go_wp2
            have HF1 := Lib.hid (below_drewN HBQ.out nq)
            have HF2 := Lib.hid (HRQ.out.drewN nq)
            have HF3 := Lib.hid (HOUT.out (by first | exact .inl rfl | exact .inl trivial) (wr.drewN nq) HF1.out HF2.out (HEQ.out.drewN nq))
            go_roundw
            case rel => exact ⟨i + 1, _, by omega, by go_num, HF1.out, HF2.out, HF3.out⟩
            case measure => simp [intOf]; omega
          · obtain ⟨j, rfl⟩ : ∃ j, k = j + 1 := ⟨k - 1, by omega⟩
            have hel := HIQ.out.len
            obtain ⟨q1, q2⟩ := flat_cell HEQ.out (i := j + 1) (by omega)
            obtain ⟨q3, q4⟩ := flat_cell HEQ.out (i := j) (by omega)
            obtain ⟨⟨x1, x2⟩, hX⟩ : ∃ X, gE E (j + 1) = X := ⟨_, rfl⟩
            obtain ⟨⟨y1, y2⟩, hY⟩ : ∃ X, gE E j = X := ⟨_, rfl⟩
            rw [hX] at q1 q2
            rw [hY] at q3 q4
            have HX := Lib.hid hX
            have HY := Lib.hid hY
            simp only at q1 q2 q3 q4
            have g2 : decide ((0 : Int) < (j : Int) + 1) = true := by first | (simp; done) | (simp; omega)
            have hw1 : IntKind.i64.wrap ((j : Int) + 1 - 1) = (j : Int) := by rw [show (j : Int) + 1 - 1 = j by omega]; exact IntWalk.i64_in _ (by omega)
            have hw2 : IntKind.i64.wrap (j : Int) = (j : Int) := IntWalk.i64_in _ (by omega)
            have hj0' : (0 : Int) ≤ (j : Int) := by omega
            have hj1' : (j : Int) < (i : Int) + 1 := by omega
            have hj2' : (0 : Int) ≤ (j : Int) + 1 := by omega
            have hj3' : (j : Int) + 1 < (i : Int) + 1 := by omega
            clear hX hY hel
            go_wp2
            go_region_held3 (fun w' => w'.cell? ⟨Bo, 1, none⟩ = some (.slice (some ⟨g, 0, none⟩) (i + 1) cp) ∧ w'.cell? ⟨g, (j + 1) * 2, none⟩ = some (.int .i64 x1) ∧ w'.cell? ⟨g, (j + 1) * 2 + 1, none⟩ = some (.int .i64 x2) ∧ w'.cell? ⟨g, j * 2, none⟩ = some (.int .i64 y1) ∧ w'.cell? ⟨g, j * 2 + 1, none⟩ = some (.int .i64 y2)) (first | go_keep | (go_split_ands; refine ⟨?_, ?_, ?_, ?_, ?_⟩ <;> (first | assumption | (rw [hb3.cell (by first | (simp; done) | (simp; omega))]; assumption)))) ((go_at_call 27; refine (less_any _ _ _ _ _).mono ?_; rintro e w2 ⟨rfl, hb3⟩))
            have HB3 := Lib.hid (((below_drewN (Below.refl wr.heap.size wr) 1)).trans hb3)
            have HF1 := Lib.hid (HBQ.out.trans (HB3.out.mono (show Bo ≤ wr.heap.size by omega)))
            have HF2 := Lib.hid (HRQ.out.below HB3.out hbq)
            have HF3 := Lib.hid (HEQ.out.below HB3.out hgq)
            have hz2 : wr.heap.size ≤ w2.heap.size := HB3.out.size
            clear hb3 q1 q2 q3 q4 o0 o1
            cases hlv : ltE (x1, x2) (y1, y2) with
            | false =>
              have HF4 := Lib.hid (HOUT.out (.inr (by rw [HX.out, Nat.add_sub_cancel, HY.out]; exact hlv)) w2 HF1.out HF2.out HF3.out)
              clear hlv
              go_wp2
              go_roundw
              case rel => exact ⟨i + 1, _, by omega, by go_num, HF1.out, HF2.out, HF4.out⟩
              case measure => simp [intOf]; omega
            | true =>
              have HST2 : Hid (InsAt ((l.take (i + 1)).map norm) ((E.set (j + 1) (y1, y2)).set j (x1, x2)) i j) := by
                have h := HIQ.out.step (by omega) (by rw [HX.out, HY.out]; exact hlv)
                rw [HX.out, HY.out] at h; exact h
              have HEL : Hid (E.length = i + 1) := HIQ.out.len
              clear hlv
              obtain ⟨q1, q2⟩ := flat_cell HF3.out (i := j + 1) (by have := HEL.out; omega)
              obtain ⟨q3, q4⟩ := flat_cell HF3.out (i := j) (by have := HEL.out; omega)
              rw [HX.out] at q1 q2
              rw [HY.out] at q3 q4
              simp only at q1 q2 q3 q4
              have z0 := HF3.out.free ((j + 1) * 2)
              have z1 := HF3.out.free ((j + 1) * 2 + 1)
              have o0 := HF2.out.cell 0
              have o1 := HF2.out.cell 1
              have hb2' : Bo < w2.heap.size := by omega
              have hg2' : g < w2.heap.size := by omega
              go_wp2
              have R4g := Lib.hid (flat_set HF3.out (i := j + 1) (by have := HEL.out; omega) (y1, y2))
              have R4b := Lib.hid ((HF2.out.far (p := ⟨g, (j + 1) * 2, none⟩) (show Bo ≠ g by omega) (.int .i64 y1)).far (p := ⟨g, (j + 1) * 2 + 1, none⟩) (show Bo ≠ g by omega) (.int .i64 y2))
              have R4z : Hid (w2.heap.size = ((w2.setCell ⟨g, (j + 1) * 2, none⟩ (.int .i64 y1)).setCell ⟨g, (j + 1) * 2 + 1, none⟩ (.int .i64 y2)).heap.size) := by unfold Hid; simp
              have R4w := Lib.hid ((HF1.out.setCell (p := ⟨g, (j + 1) * 2, none⟩) (show Bo ≤ g by omega) (.int .i64 y1)).setCell (p := ⟨g, (j + 1) * 2 + 1, none⟩) (show Bo ≤ g by omega) (.int .i64 y2))
              have R4c := Lib.hid (flat_cell R4g.out (i := j) (by simp; have := HEL.out; omega))
              have R4j : Hid (gE (E.set (j + 1) (y1, y2)) j = (y1, y2)) := by unfold Hid; rw [gE_set (by have := HEL.out; omega), if_neg (by omega)]; exact HY.out
              have R4d : Hid (((w2.setCell ⟨g, (j + 1) * 2, none⟩ (.int .i64 y1)).setCell ⟨g, (j + 1) * 2 + 1, none⟩ (.int .i64 y2)).cell? ⟨g, j * 2, none⟩ = some (.int .i64 y1) ∧ ((w2.setCell ⟨g, (j + 1) * 2, none⟩ (.int .i64 y1)).setCell ⟨g, (j + 1) * 2 + 1, none⟩ (.int .i64 y2)).cell? ⟨g, j * 2 + 1, none⟩ = some (.int .i64 y2)) := by
                have h := R4c.out
                rw [R4j.out] at h; exact h
              have KA : Hid (((((w2.setCell ⟨g, (j + 1) * 2, none⟩ (.int .i64 y1)).setCell ⟨g, (j + 1) * 2 + 1, none⟩ (.int .i64 y2)).alloc (.cells #[.int .i64 x1, .int .i64 x2] 43)).drew).cell? ⟨Bo, 1, none⟩ = some (.slice (some ⟨g, 0, none⟩) (i + 1) cp)) := cell_ad (R4b.out.cell 1)
              have KB : Hid (((((w2.setCell ⟨g, (j + 1) * 2, none⟩ (.int .i64 y1)).setCell ⟨g, (j + 1) * 2 + 1, none⟩ (.int .i64 y2)).alloc (.cells #[.int .i64 x1, .int .i64 x2] 43)).drew).cell? ⟨g, j * 2, none⟩ = some (.int .i64 y1)) := cell_ad R4d.out.1
              have KC : Hid (((((w2.setCell ⟨g, (j + 1) * 2, none⟩ (.int .i64 y1)).setCell ⟨g, (j + 1) * 2 + 1, none⟩ (.int .i64 y2)).alloc (.cells #[.int .i64 x1, .int .i64 x2] 43)).drew).cell? ⟨g, j * 2 + 1, none⟩ = some (.int .i64 y2)) := cell_ad R4d.out.2
              go_region_held3 (fun w' => w'.cell? ⟨Bo, 1, none⟩ = some (.slice (some ⟨g, 0, none⟩) (i + 1) cp) ∧ w'.cell? ⟨g, j * 2, none⟩ = some (.int .i64 y1) ∧ w'.cell? ⟨g, j * 2 + 1, none⟩ = some (.int .i64 y2)) (first | exact ⟨KA.out, KB.out, KC.out⟩ | go_keep) (fail)
              clear KA KB KC
              have r4g := R4g.out
              have r4b := R4b.out
              have r4w := R4w.out
              have r4d := R4d.out
              have r4z := R4z.out
              generalize (w2.setCell ⟨g, (j + 1) * 2, none⟩ (.int .i64 y1)).setCell ⟨g, (j + 1) * 2 + 1, none⟩ (.int .i64 y2) = w4 at *
              rw [r4z]
              obtain ⟨s0, s1⟩ := r4d
              have t0 := r4g.free (j * 2)
              have t1 := r4g.free (j * 2 + 1)
              have u1 := r4b.cell 1
              have hb4 : Bo < w4.heap.size := r4b.lt
              have hg4 : g < w4.heap.size := r4g.lt
              have F5g := Lib.hid (flat_set r4g (i := j) (by simp; have := HEL.out; omega) (x1, x2))
              have F5b := Lib.hid ((r4b.far (p := ⟨g, j * 2, none⟩) (show Bo ≠ g by omega) (.int .i64 x1)).far (p := ⟨g, j * 2 + 1, none⟩) (show Bo ≠ g by omega) (.int .i64 x2))
              have F5w := Lib.hid ((r4w.setCell (p := ⟨g, j * 2, none⟩) (show Bo ≤ g by omega) (.int .i64 x1)).setCell (p := ⟨g, j * 2 + 1, none⟩) (show Bo ≤ g by omega) (.int .i64 x2))
              have F5l : Hid ((flatE ((E.set (j + 1) (y1, y2)).set j (x1, x2)) ++ T).length = cp * 2) := by
                have h := HTQ.out
                unfold Hid
                rw [List.length_append, flatE_length] at h ⊢
                simpa using h
              clear r4g r4b r4w R4g R4b R4w R4z R4d R4c HF1 HF2 HF3 q1 q2 q3 q4 z0 z1 o0 o1
              go_wp2
              have f5g := F5g.out
              have f5b := F5b.out
              have f5w := F5w.out
              generalize (w4.setCell ⟨g, j * 2, none⟩ (.int .i64 x1)).setCell ⟨g, j * 2 + 1, none⟩ (.int .i64 x2) = w6 at *
              have hz6 : Bo < w6.heap.size := f5b.lt
              have G1 := Lib.hid ((f5w.alloc (by omega) (.cells #[.int .i64 x1, .int .i64 x2] 43)).drew)
              have G2 := Lib.hid ((f5b.alloc (.cells #[.int .i64 x1, .int .i64 x2] 43)).drewN 1)
              have G3 := Lib.hid ((f5g.alloc (.cells #[.int .i64 x1, .int .i64 x2] 43)).drewN 1)
              go_roundw
              case rel => exact ⟨j, _, by omega, rfl, G1.out, G2.out, G3.out, F5l.out, HST2.out⟩
              case measure => simp [intOf]
    · obtain rfl : i = n := by omega
      have HAll : Hid (order (l.take i) = order l) := by unfold Hid; rw [List.take_of_length_le (by have := HLEN.out; omega)]
      have HRW := Lib.hid (HR.out.below HBW.out hsz)
      have HBX := Lib.hid (HB1.out.trans (HBW.out.mono (show w.heap.size ≤ Bo by omega)))
      have hown := HW.out
      rw [HAll.out] at hown
      obtain ⟨A, c, rfl, HRD, hAB⟩ : ∃ A c, v = .slice A i c ∧ Hid (ReadsE wr wr.heap.size A i (order l)) ∧ (∀ x, A = some x → Bo < x.block) := by
        rcases hown.2 with ⟨rfl, h0⟩ | ⟨g, cap', cur, rfl, hg, hh, hcap, hm, hs, ht⟩
        · subst h0
          have : order l = [] := by
            have h := order_length l
            rw [HLEN.out] at h
            exact List.eq_nil_of_length_eq_zero h
          exact ⟨none, 0, rfl, by unfold Hid; rw [this]; exact ReadsE.nil _ _ _, fun x hx => by cases hx⟩
        · refine ⟨_, _, rfl, ?_, fun x hx => by injection hx with hx; subst hx; show Bo < g; omega⟩
          have hrow : Row wr g 43 (flatE (order l) ++ cur.toList.drop (i * 2)) := by
            have e1 : flatE (order l) ++ cur.toList.drop (i * 2) = cur.toList := by rw [← ht]; exact List.take_append_drop _ _
            rw [e1]; exact hh
          have hlen : (order l).length = i := by rw [order_length]; exact HLEN.out
          refine ⟨hlen, HWF.out, fun _ => ⟨g, 0, rfl, hrow.lt, fun k hk => ?_⟩⟩
          rw [Nat.zero_add]
          exact flat_cell hrow (by omega)
      have r0 := HRW.out.cell 0
      have r1 := HRW.out.cell 1
      have f0 := HRW.out.free 0
      have f1 := HRW.out.free 1
      have hsr : w.heap.size + 1 < wr.heap.size := HRW.out.lt
      have HAB := Lib.hid hAB
      clear hown hAB
      go_wp2
      refine bodyPost_ret (v := .tuple #[.agg #[.int .i64 N, .slice A i c], .int .i64 0]) (by simp [results, Try.results17, go_sem, r0, r1]) rfl ⟨_, _, rfl, ?_, ?_⟩
      · have h := HRD.out
        refine ⟨h.1, h.2.1, fun hp => ?_⟩
        obtain ⟨b, off, rfl, hb, hc⟩ := h.2.2 hp
        have hbo := HAB.out _ rfl
        have e1 := heap_setCell_other wr ⟨w.heap.size + 1, 0, none⟩ b (.int .i64 N) (by simp only at hbo ⊢; omega)
        have e2 := heap_setCell_other (wr.setCell ⟨w.heap.size + 1, 0, none⟩ (.int .i64 N)) ⟨w.heap.size + 1, 1, none⟩ b (.slice (some ⟨b, off, none⟩) i c) (by simp only at hbo ⊢; omega)
        refine ⟨b, off, rfl, by simpa using hb, fun k hk => ⟨?_, ?_⟩⟩
        · rw [← (hc k hk).1]; unfold World.cell?; rw [e2, e1]
        · rw [← (hc k hk).2]; unfold World.cell?; rw [e2, e1]
      · exact (HBX.out.setCell (p := ⟨w.heap.size + 1, 0, none⟩) (by simp) _).setCell (p := ⟨w.heap.size + 1, 1, none⟩) (by simp) _
end Go.Proofs.Ytdjmjabbjjcgiaa
