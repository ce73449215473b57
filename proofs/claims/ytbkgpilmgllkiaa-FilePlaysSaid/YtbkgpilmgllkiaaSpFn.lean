/- What Take, Hold and Give answer, and leave. -/
import Derived.Test.YtbkgpilmgllkiaaSpCut
namespace Go.Proofs.Ytbkgpilmgllkiaa
open Go.ChangeShapes Go.WideShapes Go.ChangeAt Go.RowKit

/-- behind a call: the space as it is then -/
def Next (w : World) (G : Nat → Prop) (p : Nat) (s : Sp) (w' : World) : Prop := ∃ G', Spc w' G' p s ∧ Far G w w' ∧ ∀ k, G' k → G k ∨ w.heap.size ≤ k
theorem Next.of_below {w w' : World} {G : Nat → Prop} {p : Nat} {s : Sp} (h : Spc w G p s) (hb : Below w.heap.size w w') : Next w G p s w' := ⟨G, h.below hb, Far.of_below hb G, fun _ hk => .inl hk⟩
theorem Next.behind {w w1 w' : World} {G : Nat → Prop} {p : Nat} {s : Sp} (hb : Below w.heap.size w w1) (h : Next w1 G p s w') : Next w G p s w' := by
  obtain ⟨G', h1, h2, h3⟩ := h
  exact ⟨G', h1, (Far.of_below hb G).trans h2 fun b hb' => .inl hb', fun k hk => (h3 k hk).imp id fun h => Nat.le_trans hb.size h⟩

/-- Take's answer: the space behind it, the block, the error -/
def takeS (s : Sp) (n : Int) : Sp × Nat × Nat :=
  if n < 1 then (s, 0, 1) else if fitI s.fr n.toNat < s.fr.length then ({ s with fr := cutL s.fr (fitI s.fr n.toNat) (xAt s.fr (fitI s.fr n.toNat)).1 n.toNat }, (xAt s.fr (fitI s.fr n.toNat)).1, 0) else (s, 0, 5)
def holdS (s : Sp) (f n : Int) : Sp × Nat :=
  if n < 1 then (s, 1) else if nextZ s.fr f < s.fr.length ∧ ((xAt s.fr (nextZ s.fr f)).1 : Int) ≤ f ∧ n ≤ (((xAt s.fr (nextZ s.fr f)).1 + (xAt s.fr (nextZ s.fr f)).2 : Nat) : Int) - f then ({ s with fr := cutL s.fr (nextZ s.fr f) f.toNat n.toNat }, 0) else (s, 1)
def giveS (s : Sp) (f n : Int) : Sp × Nat :=
  if n < 1 ∨ ¬ ((s.first : Int) ≤ f ∧ n ≤ ((s.first + s.blocks : Nat) : Int) - f) ∨ (nextI s.fr f.toNat < s.fr.length ∧ (xAt s.fr (nextI s.fr f.toNat)).1 < f.toNat + n.toNat) then (s, 1) else ({ s with fr := joinL s.fr (nextI s.fr f.toNat) f.toNat n.toNat }, 0)

set_option maxHeartbeats 2000000 in
set_option maxRecDepth 100000 in
theorem take_any (p : Nat) (s : Sp) (G : Nat → Prop) (n : Int) (w : World) (h : Spc w G p s) (hn : I64 n) :
    Calls Try.prog 76 #[.pointer (some ⟨p, 0, none⟩), .int .i64 n] w fun e w' => e = .returned (.tuple #[.int .i64 ((takeS s n).2.1 : Nat), .int .i64 ((takeS s n).2.2 : Nat)]) ∧ Next w G p (takeS s n).1 w' := by
  have hB := (Below.refl w.heap.size w).alloc (Nat.le_refl _) (.cells #[.int .i64 n] 3)
  by_cases h1 : n < 1
  · have g1 : decide (n < 1) = true := by simpa using h1
    have HN : Hid (Next w G p (takeS s n).1 (w.alloc (.cells #[.int .i64 n] 3))) := by unfold Hid takeS; rw [if_pos h1]; exact Next.of_below h hB
    have e : (takeS s n).2 = (0, 1) := by unfold takeS; rw [if_pos h1]
    rw [e]
    clear h hB h1 e
    go_enter Try.func76, Try.ntmps76
    go_wp2
    go_ret2
    exact ⟨rfl, HN.out⟩
  · have g1 : decide (n < 1) = false := by simpa using h1
    obtain ⟨m, rfl⟩ : ∃ m : Nat, n = (m : Int) := ⟨n.toNat, by omega⟩
    have hm : 1 ≤ m := by omega
    have hsp := h.below hB
    obtain ⟨hok, v, hr, ho, hG⟩ := id hsp
    obtain ⟨A, c, rfl, hnc, hcm, _⟩ := own2_form ho
    have hlen := hok.len
    have c2 : (w.alloc (.cells #[.int .i64 (m : Int)] 3)).cell? ⟨p, 2, none⟩ = some (.slice A s.fr.length c) := hr.cell 2
    have k1 : (w.alloc (.cells #[.int .i64 (m : Int)] 3)).cell? ⟨w.heap.size, 0, none⟩ = some (.int .i64 (m : Int)) := by
      have r1 : Row (w.alloc (.cells #[.int .i64 (m : Int)] 3)) w.heap.size 3 [.int .i64 (m : Int)] := heap_alloc_new _ _
      exact r1.cell 0
    have hidx := indexf_any w.heap.size (m : Int) A s.fr.length c s.fr _ k1 ho rfl (by omega)
    have HSP := Lib.hid hsp
    have HB := Lib.hid hB
    have HO := Lib.hid ho
    have htoN : ((m : Int)).toNat = m := Int.toNat_natCast m
    have hpl : p < w.heap.size := by obtain ⟨_, v, hr, _⟩ := h; exact hr.lt
    obtain ⟨N, hN⟩ : ∃ N, N = s.fr.length := ⟨_, rfl⟩
    have HN := Lib.hid hN
    have HTS : takeS s (m : Int) = if fitI s.fr m < s.fr.length then ({ s with fr := cutL s.fr (fitI s.fr m) (xAt s.fr (fitI s.fr m)).1 m }, (xAt s.fr (fitI s.fr m)).1, 0) else (s, 0, 5) := by unfold takeS; rw [if_neg h1, htoN]
    by_cases hfl : fitI s.fr m < s.fr.length
    · rw [if_pos hfl] at HTS
      rw [HTS]
      dsimp only
      have hge := findIdx_at hfl
      have hidx2 := hidx.mono (R' := fun e w' => e = .returned (.int .i64 (fitI s.fr m : Nat)) ∧ Below (w.alloc (.cells #[.int .i64 (m : Int)] 3)).heap.size (w.alloc (.cells #[.int .i64 (m : Int)] 3)) w') (fun e w2 hh => by
        rcases hh with ⟨i, hi, hlow, hat, rfl, hb2⟩ | ⟨hno, rfl, hb2⟩
        · have hfit : fitI s.fr m = i := findIdx_unique (by omega) (fun k hk => by have := hlow k hk; simp only [decide_eq_false_iff_not] at this ⊢; omega) (fun _ => by simp only [decide_eq_true_eq] at hat ⊢; omega)
          rw [hfit]; exact ⟨rfl, hb2⟩
        · have h2 := hno _ hfl
          simp only [decide_eq_true_eq, decide_eq_false_iff_not] at hge h2
          unfold fitI at h2; omega)
      have hge2 : m ≤ (xAt s.fr (fitI s.fr m)).2 := by unfold fitI; simpa using hge
      generalize fitI s.fr m = i at *
      obtain ⟨a, ha⟩ : ∃ a, (xAt s.fr i).1 = a := ⟨_, rfl⟩
      have HAT : Hid (∀ W, Below (w.alloc (.cells #[.int .i64 (m : Int)] 3)).heap.size (w.alloc (.cells #[.int .i64 (m : Int)] 3)) W → ∃ g, A = some ⟨g, 0, none⟩ ∧ g < W.heap.size ∧ W.cell? ⟨g, i * 2, none⟩ = some (.int .i64 (a : Nat))) := fun W hb => by
        obtain ⟨g, h1, h2, h3, _⟩ := own2_at (own2_below HO.out hb) hfl
        rw [ha] at h3; exact ⟨g, h1, h2, h3⟩
      have HCUT : Hid (∀ w2, Below (w.alloc (.cells #[.int .i64 (m : Int)] 3)).heap.size (w.alloc (.cells #[.int .i64 (m : Int)] 3)) w2 → Calls Try.prog 87 #[.pointer (some ⟨p, 0, none⟩), .int .i64 i, .agg #[.int .i64 a, .int .i64 m]] w2 fun e w' => e = .returned (.tuple #[]) ∧ Next w G p { s with fr := cutL s.fr i a m } w') := fun w2 hb2 =>
        (cut_any p s G i a m w2 (HSP.out.below hb2) hfl (by rw [ha]; exact Nat.le_refl _) (by rw [ha]; omega) hm).mono fun e w' ⟨G', h1, h2⟩ => ⟨h1, Next.behind (HB.out.trans (hb2.mono HB.out.size)) ⟨G', h2⟩⟩
      rw [ha]
      generalize cutL s.fr i a m = R at *
      rw [← hN] at c2 hlen hidx2 hfl
      have HIDX := Lib.hid hidx2
      have gi : decide ((i : Int) < 0) = false := by simp
      have ii0 : (0 : Int) ≤ (i : Int) := by omega
      have ii1 : (i : Int) < (N : Int) := by omega
      clear hidx hidx2 hsp hok hr ho hG h h1 hB htoN hN hge hge2 ha HTS hfl
      go_enter Try.func76, Try.ntmps76
      go_wp2_with fail
      refine HIDX.out.mono ?_
      rintro e w2 ⟨rfl, hb2⟩
      obtain ⟨g, rfl, hg, hc0⟩ := HAT.out w2 hb2
      have hcut := HCUT.out w2 hb2
      have HC2 := Lib.hid hcut
      have c2' := (hb2.cell (p := ⟨p, 2, none⟩) (by simp; omega)).trans c2
      have k1' := (hb2.cell (p := ⟨w.heap.size, 0, none⟩) (by simp)).trans k1
      clear hcut hb2 HIDX HAT HCUT c2 k1 HO HSP
      go_wp2_with fail
      refine HC2.out.mono ?_
      rintro e w3 ⟨rfl, hx⟩
      have HX := Lib.hid hx
      clear hx
      go_wp2
      go_ret2
      exact ⟨rfl, HX.out⟩
    · rw [if_neg hfl] at HTS
      rw [HTS]
      dsimp only
      have hidx2 := hidx.mono (R' := fun e w' => e = .returned (.int .i64 (-1)) ∧ Next w G p s w') (fun e w2 hh => by
        rcases hh with ⟨i, hi, hlow, hat, rfl, hb2⟩ | ⟨hno, rfl, hb2⟩
        · have hfit : fitI s.fr m = i := findIdx_unique (by omega) (fun k hk => by have := hlow k hk; simp only [decide_eq_false_iff_not] at this ⊢; omega) (fun _ => by simp only [decide_eq_true_eq] at hat ⊢; omega)
          omega
        · exact ⟨rfl, Next.behind HB.out (Next.of_below HSP.out hb2)⟩)
      rw [← hN] at c2 hlen hidx2
      have HIDX := Lib.hid hidx2
      clear hidx hidx2 hsp hok hr ho hG h h1 hB htoN hN HTS hfl
      go_enter Try.func76, Try.ntmps76
      go_wp2_with fail
      refine HIDX.out.mono ?_
      rintro e w2 ⟨rfl, hx⟩
      have HX := Lib.hid hx
      clear hx HIDX
      go_wp2
      go_ret2
      exact ⟨rfl, HX.out⟩

end Go.Proofs.Ytbkgpilmgllkiaa
