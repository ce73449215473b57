/- sort.Search and slices.IndexFunc by the space's closures; next. -/
import Derived.Test.YtbkgpilmgllkiaaSpMem
import Derived.Deep.RegionHeld3
namespace Go.Proofs.Ytbkgpilmgllkiaa
open Go.ChangeShapes Go.WideShapes Go.ChangeAt Go.RowKit

set_option maxHeartbeats 1000000 in
set_option maxRecDepth 100000 in
theorem nclos_any (b1 b2 p n c i : Nat) (A : Option Addr) (l : List Ex) (at_ : Int) (W : World) (h1 : W.cell? ⟨b1, 0, none⟩ = some (.pointer (some ⟨p, 0, none⟩))) (h2 : W.cell? ⟨b2, 0, none⟩ = some (.int .i64 at_)) (h3 : W.cell? ⟨p, 2, none⟩ = some (.slice A n c))
    (ho : W.ownsRow 0 98 2 (.slice A n c) n (flatX l)) (hi : i < n) (hs : (xAt l i).1 + (xAt l i).2 ≤ 4000000) :
    Calls Try.prog 80 #[.int .i64 i, .pointer (some ⟨b1, 0, none⟩), .pointer (some ⟨b2, 0, none⟩)] W fun e w' => e = .returned (.bool (decide (at_ < ((xAt l i).1 + (xAt l i).2 : Nat)))) ∧ Below W.heap.size W w' := by
  obtain ⟨g, rfl, hg, hc0, hc1⟩ := own2_at ho hi
  generalize (xAt l i).1 = a at *
  generalize (xAt l i).2 = b at *
  have l1 := block_lt_of_cell h1
  have l2 := block_lt_of_cell h2
  have l3 := block_lt_of_cell h3
  obtain ⟨u, hu⟩ : ∃ u, a + b = u := ⟨_, rfl⟩
  have HE : Hid (∀ w, Calls Try.prog 65 #[.agg #[.int .i64 a, .int .i64 b]] w fun e w' => e = .returned (.int .i64 (u : Nat)) ∧ Below w.heap.size w w') := fun w => by have := end_any a b w hs; rwa [hu] at this
  rw [hu]
  have i0 : (0 : Int) ≤ (i : Int) := by omega
  have i1 : (i : Int) < (n : Int) := by omega
  clear hu hs ho
  go_enter Try.func80, Try.ntmps80
  go_wp2
  go_region_held3 (fun w' => w'.cell? ⟨b1, 0, none⟩ = some (.pointer (some ⟨p, 0, none⟩)) ∧ w'.cell? ⟨b2, 0, none⟩ = some (.int .i64 at_) ∧ w'.cell? ⟨p, 2, none⟩ = some (.slice (some ⟨g, 0, none⟩) n c) ∧ w'.cell? ⟨g, i * 2, none⟩ = some (.int .i64 a) ∧ w'.cell? ⟨g, i * 2 + 1, none⟩ = some (.int .i64 b))
    (first | go_keep | (go_split_ands; refine ⟨?_, ?_, ?_, ?_, ?_⟩ <;> (first | assumption | (rw [hb3.cell (by first | (simp; done) | (simp; omega))]; assumption)))) ((go_at_call 65; refine (HE.out _).mono ?_; rintro e w2 ⟨rfl, hb3⟩))
  have HB : Hid (Below W.heap.size W w2) := (below_drewN (Below.refl W.heap.size W) 1).trans hb3
  clear hb3
  go_wp2
  go_ret
  refine ⟨?_, HB.out⟩
  first | rfl | (simp only [gt_iff_lt])
set_option maxRecDepth 100000 in
theorem tclos_any (b1 : Nat) (a b : Nat) (n : Int) (W : World) (h1 : W.cell? ⟨b1, 0, none⟩ = some (.int .i64 n)) :
    Calls Try.prog 86 #[.agg #[.int .i64 a, .int .i64 b], .pointer (some ⟨b1, 0, none⟩)] W fun e w' => e = .returned (.bool (decide (n ≤ (b : Int)))) ∧ Below W.heap.size W w' := by
  have l1 := block_lt_of_cell h1
  have h2 : (W.alloc (.cells #[.int .i64 a, .int .i64 b] 98)).cell? ⟨b1, 0, none⟩ = some (.int .i64 n) := Lib.cell?_alloc_some _ h1
  have HB := Lib.hid ((Below.refl W.heap.size W).alloc (Nat.le_refl _) (.cells #[.int .i64 a, .int .i64 b] 98))
  go_enter Try.func86, Try.ntmps86
  go_wp2
  go_ret
  refine ⟨?_, HB.out⟩
  first | rfl | (simp only [ge_iff_le])

set_option maxHeartbeats 2000000 in
set_option maxRecDepth 100000 in
/-- sort.Search over a question that may lay blocks, and stays true once it is -/
theorem search_any (n : Nat) (q : Nat → Bool) (fs : Array Value) (w : World) (hn : n ≤ 2000000) (hmono : ∀ i j, i ≤ j → j < n → q i = true → q j = true)
    (hp : ∀ W k, k < n → Below w.heap.size w W → Calls Try.prog 80 (#[.int .i64 (k : Nat)] ++ fs) W fun e w' => e = .returned (.bool (q k)) ∧ Below w.heap.size w w') :
    Calls Try.prog 79 #[.int .i64 n, .func (.func 80) #[] fs] w fun e w' => ∃ i : Nat, e = .returned (.int .i64 i) ∧ i ≤ n ∧ (∀ k, k < i → q k = false) ∧ (i < n → q i = true) ∧ Below w.heap.size w w' := by
  have HP := Lib.hid hp
  have HM := Lib.hid hmono
  clear hp hmono
  go_enter Try.func79, Try.ntmps79
  go_wp2
  go_loopw [5, 6] (fun iv jv wr => ∃ i j : Nat, i ≤ j ∧ j ≤ n ∧ iv = .int .i64 i ∧ jv = .int .i64 j ∧ Below w.heap.size w wr ∧ Hid (∀ k, k < i → q k = false) ∧ Hid (j < n → q j = true)) (fun iv jv _ => (intOf jv).toNat - (intOf iv).toNat)
  case atStart => exact ⟨0, n, by omega, Nat.le_refl _, rfl, rfl, Below.refl _ _, fun k hk => absurd hk (by omega), fun h => absurd h (by omega)⟩
  case round =>
    obtain ⟨i, j, hij, hj, rfl, rfl, hbw, HI, HJ⟩ := hrel
    have HBW := Lib.hid hbw
    by_cases hlt : i < j
    · obtain ⟨ij, hsum⟩ : ∃ ij : Nat, ij = i + j := ⟨_, rfl⟩
      obtain ⟨h, hh⟩ : ∃ h : Nat, h = ij / 2 := ⟨_, rfl⟩
      have hhi : i ≤ h := by omega
      have hhj : h < j := by omega
      have hadd : (i : Int) + (j : Int) = (ij : Int) := by omega
      have hw1 : IntKind.i64.wrap (ij : Int) = (ij : Int) := IntWalk.i64_in _ (by omega)
      have hdiv : (ij : Int) / 2 = (h : Int) := by omega
      clear hbw hsum hh
      go_wp2_with fail
      refine (HP.out wr h (by omega) HBW.out).mono ?_
      rintro e w2 ⟨rfl, hb2⟩
      have HB2 := Lib.hid hb2
      clear hb2
      cases hq : q h with
      | true =>
        have HQ : Hid (∀ k, k < h → k < i → q k = false) := fun k _ hk => HI.out k hk
        have HQ2 : Hid (h < n → q h = true) := fun _ => hq
        clear hq
        go_wp2
        go_roundw
        case rel => exact ⟨i, h, hhi, by omega, rfl, rfl, HB2.out, HI.out, HQ2.out⟩
        case measure => simp [intOf]; omega
      | false =>
        have HQ : Hid (∀ k, k < h + 1 → q k = false) := fun k hk => by
          rcases Nat.lt_or_ge k h with h1 | h1
          · cases hk2 : q k with
            | false => rfl
            | true => have := HM.out k h (by omega) (by omega) hk2; rw [hq] at this; cases this
          · obtain rfl : k = h := by omega
            exact hq
        clear hq
        go_wp2
        go_roundw
        case rel => exact ⟨h + 1, j, by omega, hj, by go_num, rfl, HB2.out, HQ.out, HJ.out⟩
        case measure => simp [intOf]; omega
    · obtain rfl : i = j := by omega
      clear hbw
      go_wp2
      go_ret
      exact ⟨i, rfl, hj, HI.out, HJ.out, HBW.out⟩

/-- the first extent that ends behind block a -/
def nextZ (l : List Ex) (a : Int) : Nat := l.findIdx fun x => decide (a < ((x.1 + x.2 : Nat) : Int))
theorem nextZ_nat (l : List Ex) (a : Nat) : nextZ l (a : Int) = nextI l a := by
  unfold nextZ nextI
  congr 1; funext x
  rw [Bool.eq_iff_iff]; simp only [decide_eq_true_eq]; omega
theorem nextZ_neg {l : List Ex} {a : Int} (ha : a < 0) : nextZ l a = 0 := by
  refine findIdx_unique (Nat.zero_le _) (fun k hk => absurd hk (by omega)) fun _ => ?_
  simp only [decide_eq_true_eq]; omega

set_option maxHeartbeats 2000000 in
set_option maxRecDepth 100000 in
theorem spnext_any (p : Nat) (s : Sp) (G : Nat → Prop) (a : Int) (w : World) (h : Spc w G p s) : Calls Try.prog 64 #[.pointer (some ⟨p, 0, none⟩), .int .i64 a] w fun e w' => e = .returned (.int .i64 (nextZ s.fr a : Nat)) ∧ Below w.heap.size w w' := by
  obtain ⟨h0, v, hr, ho, hG⟩ := h
  obtain ⟨A, c, rfl, hnc, hcm, _⟩ := own2_form ho
  have hlen := h0.len
  have hcan := h0.2.2
  have hhi : s.first + s.blocks ≤ 4000000 := by have := h0.1; have := h0.2.1; omega
  generalize s.first + s.blocks = hi at *
  generalize s.first = lo at *
  generalize hl : s.fr = l at *
  obtain ⟨n, hn⟩ : ∃ n, l.length = n := ⟨_, rfl⟩
  rw [hn] at ho hlen hnc
  -- the world behind the two boxes
  have hB := ((Below.refl w.heap.size w).alloc (Nat.le_refl _) (.cells #[.pointer (some ⟨p, 0, none⟩)] 36)).alloc (by simp) (.cells #[.int .i64 a] 3)
  have k1 : ((w.alloc (.cells #[.pointer (some ⟨p, 0, none⟩)] 36)).alloc (.cells #[.int .i64 a] 3)).cell? ⟨w.heap.size, 0, none⟩ = some (.pointer (some ⟨p, 0, none⟩)) := by
    have h1 : Row (w.alloc (.cells #[.pointer (some ⟨p, 0, none⟩)] 36)) w.heap.size 36 [.pointer (some ⟨p, 0, none⟩)] := heap_alloc_new _ _
    exact (h1.alloc _).cell 0
  have k2 : ((w.alloc (.cells #[.pointer (some ⟨p, 0, none⟩)] 36)).alloc (.cells #[.int .i64 a] 3)).cell? ⟨w.heap.size + 1, 0, none⟩ = some (.int .i64 a) := by
    have h1 : Row ((w.alloc (.cells #[.pointer (some ⟨p, 0, none⟩)] 36)).alloc (.cells #[.int .i64 a] 3)) (w.heap.size + 1) 3 [.int .i64 a] := by
      have := heap_alloc_new (w.alloc (.cells #[.pointer (some ⟨p, 0, none⟩)] 36)) (.cells #[.int .i64 a] 3)
      rw [World.size_alloc] at this
      exact this
    exact h1.cell 0
  have k3 : ((w.alloc (.cells #[.pointer (some ⟨p, 0, none⟩)] 36)).alloc (.cells #[.int .i64 a] 3)).cell? ⟨p, 2, none⟩ = some (.slice A n c) := ((hr.alloc _).alloc _).cell 2 |>.trans (by rw [← hn, ← hl]; rfl)
  have k4 := own2_below ho hB
  generalize hW : (w.alloc (.cells #[.pointer (some ⟨p, 0, none⟩)] 36)).alloc (.cells #[.int .i64 a] 3) = W at *
  have hq : ∀ W' k, k < n → Below W.heap.size W W' → Calls Try.prog 80 (#[.int .i64 (k : Nat)] ++ #[.pointer (some ⟨w.heap.size, 0, none⟩), .pointer (some ⟨w.heap.size + 1, 0, none⟩)]) W' fun e w' => e = .returned (.bool (decide (a < ((xAt l k).1 + (xAt l k).2 : Nat)))) ∧ Below W.heap.size W w' := fun W' k hk hb => by
    refine (nclos_any w.heap.size (w.heap.size + 1) p n c k A l a W' ?_ ?_ ?_ (own2_below k4 hb) hk ?_).mono fun e w' h => ⟨h.1, hb.trans (h.2.mono hb.size)⟩
    · exact (hb.cell (block_lt_of_cell k1)).trans k1
    · exact (hb.cell (block_lt_of_cell k2)).trans k2
    · exact (hb.cell (block_lt_of_cell k3)).trans k3
    · have := hcan.getD (show k < l.length by omega); omega
  have hsea := search_any n (fun k => decide (a < ((xAt l k).1 + (xAt l k).2 : Nat))) #[.pointer (some ⟨w.heap.size, 0, none⟩), .pointer (some ⟨w.heap.size + 1, 0, none⟩)] W (by omega) (fun i j hij hj hi1 => by
      simp only [decide_eq_true_eq] at hi1 ⊢
      rcases Nat.lt_or_ge i j with h1 | h1
      · have := hcan.ends h1 (by omega); omega
      · obtain rfl : i = j := by omega
        exact hi1) hq
  have hres : Calls Try.prog 79 #[.int .i64 n, .func (.func 80) #[] #[.pointer (some ⟨w.heap.size, 0, none⟩), .pointer (some ⟨w.heap.size + 1, 0, none⟩)]] W fun e w' => e = .returned (.int .i64 (nextZ l a : Nat)) ∧ Below w.heap.size w w' := hsea.mono fun e w' h => by
    obtain ⟨i, rfl, h1, h2, h3, h4⟩ := h
    have : nextZ l a = i := findIdx_unique (by omega) h2 (fun h => h3 (by omega))
    rw [this]
    exact ⟨rfl, hB.trans (h4.mono hB.size)⟩
  have HR := Lib.hid hres
  have K1 := Lib.hid k1
  generalize nextZ l a = z at *
  subst hW
  clear hres hsea hq hcan h0 hr ho k4 hB hn k1 hl hG
  go_enter Try.func64, Try.ntmps64
  go_wp2_with fail
  refine HR.out.mono ?_
  rintro e w2 ⟨rfl, hb⟩
  have HB := Lib.hid hb
  clear hb
  go_wp2
  go_ret
  exact ⟨rfl, HB.out⟩

set_option maxHeartbeats 2000000 in
set_option maxRecDepth 100000 in
/-- slices.IndexFunc by Take's closure -/
theorem indexf_any (b1 : Nat) (m : Int) (A : Option Addr) (n c : Nat) (l : List Ex) (w : World) (h1 : w.cell? ⟨b1, 0, none⟩ = some (.int .i64 m)) (ho : w.ownsRow 0 98 2 (.slice A n c) n (flatX l)) (hl : l.length = n) (hn : n ≤ 2000000) :
    Calls Try.prog 85 #[.slice A n c, .func (.func 86) #[] #[.pointer (some ⟨b1, 0, none⟩)]] w fun e w' =>
      (∃ i : Nat, i < n ∧ (∀ k, k < i → decide (m ≤ ((xAt l k).2 : Int)) = false) ∧ decide (m ≤ ((xAt l i).2 : Int)) = true ∧ e = .returned (.int .i64 i) ∧ Below w.heap.size w w') ∨ ((∀ k, k < n → decide (m ≤ ((xAt l k).2 : Int)) = false) ∧ e = .returned (.int .i64 (-1)) ∧ Below w.heap.size w w') := by
  have HO := Lib.hid ho
  have H1 := Lib.hid h1
  have hb1 := block_lt_of_cell h1
  clear ho h1
  go_enter Try.func85, Try.ntmps85
  go_wp2
  go_loopw [5, 8] (fun _ iv wr => ∃ k : Nat, k ≤ n ∧ iv = .int .i64 k ∧ Below w.heap.size w wr ∧ Hid (∀ j, j < k → decide (m ≤ ((xAt l j).2 : Int)) = false)) (fun _ iv _ => n - (intOf iv).toNat)
  case atStart => exact ⟨0, by omega, rfl, Below.refl _ _, fun j hj => absurd hj (by omega)⟩
  case round =>
    obtain ⟨k, hk, rfl, hbw, HK⟩ := hrel
    have HBW := Lib.hid hbw
    by_cases hlt : k < n
    · obtain ⟨g, rfl, hg, hc0, hc1⟩ := own2_at (own2_below HO.out hbw) hlt
      have hclo := tclos_any b1 (xAt l k).1 (xAt l k).2 m wr ((hbw.cell hb1).trans H1.out)
      have HX : Hid (xAt l k = ((xAt l k).1, (xAt l k).2)) := rfl
      generalize (xAt l k).1 = a at *
      cases hq : decide (m ≤ ((xAt l k).2 : Int)) with
      | true =>
        rw [hq] at hclo
        have HC := Lib.hid hclo
        have HQ := Lib.hid hq
        generalize (xAt l k).2 = b at hc1 HC
        clear hbw hclo hq
        go_wp2_with fail
        refine HC.out.mono ?_
        rintro e w2 ⟨rfl, hb2⟩
        have HB2 := Lib.hid (HBW.out.trans (hb2.mono HBW.out.size))
        clear hb2
        go_wp2
        go_ret
        exact .inl ⟨k, hlt, HK.out, HQ.out, rfl, HB2.out⟩
      | false =>
        rw [hq] at hclo
        have HC := Lib.hid hclo
        have HQ : Hid (∀ j, j < k + 1 → decide (m ≤ ((xAt l j).2 : Int)) = false) := fun j hj => by
          rcases Nat.lt_or_ge j k with h1 | h1
          · exact HK.out j h1
          · obtain rfl : j = k := by omega
            exact hq
        generalize (xAt l k).2 = b at hc1 HC
        clear hbw hclo hq
        go_wp2_with fail
        refine HC.out.mono ?_
        rintro e w2 ⟨rfl, hb2⟩
        have HB2 := Lib.hid (HBW.out.trans (hb2.mono HBW.out.size))
        clear hb2
        go_wp2
        go_roundw
        case rel => exact ⟨k + 1, by omega, by go_num, HB2.out, HQ.out⟩
        case measure => simp [intOf]; omega
    · obtain rfl : k = n := by omega
      clear hbw
      go_wp2
      go_ret
      exact .inr ⟨HK.out, rfl, HBW.out⟩
end Go.Proofs.Ytbkgpilmgllkiaa
