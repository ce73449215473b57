/- What Give answers, and leaves. -/
import Derived.Test.YtbkgpilmgllkiaaSpFn
import Derived.Test.YtbkgpilmgllkiaaSpJoinA
namespace Go.Proofs.Ytbkgpilmgllkiaa
open Go.ChangeShapes Go.WideShapes Go.ChangeAt Go.RowKit

theorem Next.refl {w : World} {G : Nat → Prop} {p : Nat} {s : Sp} (h : Spc w G p s) : Next w G p s w := Next.of_below h (Below.refl _ _)
set_option maxHeartbeats 4000000 in
set_option maxRecDepth 100000 in
theorem give_any (p : Nat) (s : Sp) (G : Nat → Prop) (f n : Int) (w : World) (h : Spc w G p s) (hf : I64 f) (hn : I64 n) :
    Calls Try.prog 42 #[.pointer (some ⟨p, 0, none⟩), .int .i64 f, .int .i64 n] w fun e w' => e = .returned (.int .i64 ((giveS s f n).2 : Nat)) ∧ Next w G p (giveS s f n).1 w' := by
  by_cases h1 : n < 1
  · have g1 : decide (n < 1) = true := by simpa using h1
    have HTS : giveS s f n = (s, 1) := by unfold giveS; rw [if_pos (.inl h1)]
    rw [HTS]
    have HN : Hid (Next w G p s w) := Next.refl h
    clear h h1 HTS
    go_enter Try.func42, Try.ntmps42
    go_wp2
    go_ret
    exact ⟨rfl, HN.out⟩
  have g1 : decide (n < 1) = false := by simpa using h1
  obtain ⟨hok, v, hr, ho, hG⟩ := id h
  obtain ⟨A, c, rfl, hnc, hcm, _⟩ := own2_form ho
  have hlen := hok.len
  have hhi : s.first + s.blocks ≤ 2000000 := by have := hok.1; have := hok.2.1; omega
  have c0 : w.cell? ⟨p, 0, none⟩ = some (.int .i64 s.first) := hr.cell 0
  have c1 : w.cell? ⟨p, 1, none⟩ = some (.int .i64 s.blocks) := hr.cell 1
  have c2 : w.cell? ⟨p, 2, none⟩ = some (.slice A s.fr.length c) := hr.cell 2
  have hpl := hr.lt
  have HH : Hid (∀ W, Calls Try.prog 63 #[.agg #[.int .i64 s.first, .int .i64 s.blocks], .int .i64 f, .int .i64 n] W fun e w' => e = .returned (.bool (decide ((s.first : Int) ≤ f) && decide (n ≤ ((s.first + s.blocks : Nat) : Int) - f))) ∧ Below W.heap.size W w') := fun W => holds_any s.first s.blocks f n W (by omega) hf
  by_cases h2 : ¬ ((s.first : Int) ≤ f ∧ n ≤ ((s.first + s.blocks : Nat) : Int) - f)
  · have hht : (decide ((s.first : Int) ≤ f) && decide (n ≤ ((s.first + s.blocks : Nat) : Int) - f)) = false := by
      cases hq : (decide ((s.first : Int) ≤ f) && decide (n ≤ ((s.first + s.blocks : Nat) : Int) - f)) with
      | false => rfl
      | true => simp only [Bool.and_eq_true, decide_eq_true_eq] at hq; exact absurd hq h2
    have HTS : giveS s f n = (s, 1) := by unfold giveS; rw [if_pos (.inr (.inl h2))]
    rw [HTS]
    have HHT := Lib.hid hht
    have H := Lib.hid h
    generalize s.fr.length = N at *
    clear h h1 h2 HTS hht hok hr ho hG
    go_enter Try.func42, Try.ntmps42
    go_wp2_with fail
    refine (HH.out _).mono ?_
    rintro e w2 ⟨rfl, hb2⟩
    rw [HHT.out]
    have HX : Hid (Next w G p s w2) := Next.of_below H.out hb2
    clear hb2
    go_wp2
    go_ret
    exact ⟨rfl, HX.out⟩
  have h2 := Classical.not_not.1 h2
  obtain ⟨f, rfl⟩ : ∃ f' : Nat, f = (f' : Int) := ⟨f.toNat, by omega⟩
  obtain ⟨n', rfl⟩ : ∃ n' : Nat, n = (n' : Int) := ⟨n.toNat, by omega⟩
  have hht : (decide ((s.first : Int) ≤ (f : Int)) && decide ((n' : Int) ≤ ((s.first + s.blocks : Nat) : Int) - (f : Int))) = true := by simp only [Bool.and_eq_true, decide_eq_true_eq]; exact h2
  have HHT := Lib.hid hht
  have HTS : giveS s (f : Int) (n' : Int) = if nextI s.fr f < s.fr.length ∧ (xAt s.fr (nextI s.fr f)).1 < f + n' then (s, 1) else ({ s with fr := joinL s.fr (nextI s.fr f) f n' }, 0) := by
    unfold giveS
    simp only [Int.toNat_natCast]
    by_cases hq : nextI s.fr f < s.fr.length ∧ (xAt s.fr (nextI s.fr f)).1 < f + n'
    · rw [if_pos hq, if_pos (.inr (.inr hq))]
    · rw [if_neg hq, if_neg (by rintro (h3 | h3 | h3); exact h1 h3; exact h3 h2; exact hq h3)]
  have hf1 : s.first ≤ f := by omega
  have hf2 : f + n' ≤ s.first + s.blocks := by omega
  have hnn : 1 ≤ n' := by omega
  have hfn4 : f + n' ≤ 2000000 := by omega
  have hno := next_none hok.2.2 (f := f) hnn
  have hiz : nextI s.fr f ≤ s.fr.length := List.findIdx_le_length
  have HNX : Hid (∀ W, Below w.heap.size w W → Calls Try.prog 64 #[.pointer (some ⟨p, 0, none⟩), .int .i64 (f : Int)] W fun e w' => e = .returned (.int .i64 (nextI s.fr f : Nat)) ∧ Below W.heap.size W w') := fun W hb => by
    have := spnext_any p s G (f : Int) W (h.below hb)
    rw [nextZ_nat] at this
    exact this
  have HJ : Hid (¬ (nextI s.fr f < s.fr.length ∧ (xAt s.fr (nextI s.fr f)).1 < f + n') → ∀ W, Below w.heap.size w W → Calls Try.prog 66 #[.pointer (some ⟨p, 0, none⟩), .int .i64 (nextI s.fr f : Nat), .agg #[.int .i64 (f : Int), .int .i64 (n' : Int)]] W fun e w' => e = .returned (.tuple #[]) ∧ Next w G p { s with fr := joinL s.fr (nextI s.fr f) f n' } w') := fun hq W hb =>
    (join_any p s G (nextI s.fr f) f n' W (h.below hb) rfl hf1 hf2 hnn (hno.2 fun hlt => by
      rcases Nat.lt_or_ge (xAt s.fr (nextI s.fr f)).1 (f + n') with h3 | h3
      · exact absurd ⟨hlt, h3⟩ hq
      · exact h3)).mono fun e w' ⟨G', h1, h2⟩ => ⟨h1, Next.behind hb ⟨G', h2⟩⟩
  obtain ⟨u, hu⟩ : ∃ u, f + n' = u := ⟨_, rfl⟩
  have HE : Hid (∀ W, Calls Try.prog 65 #[.agg #[.int .i64 (f : Int), .int .i64 (n' : Int)]] W fun e w' => e = .returned (.int .i64 (u : Nat)) ∧ Below W.heap.size W w') := fun W => by have := end_any f n' W (by omega); rwa [hu] at this
  rw [hu] at HTS HJ
  have HAT : Hid (∀ k, k < s.fr.length → ∃ g, A = some ⟨g, 0, none⟩ ∧ g < w.heap.size ∧ w.cell? ⟨g, k * 2, none⟩ = some (.int .i64 (xAt s.fr k).1) ∧ w.cell? ⟨g, k * 2 + 1, none⟩ = some (.int .i64 (xAt s.fr k).2)) := fun k hk => own2_at ho hk
  have H := Lib.hid h
  obtain ⟨N, hN⟩ : ∃ N, N = s.fr.length := ⟨_, rfl⟩
  rw [← hN] at c2 hlen hiz HTS HJ HAT
  have HN := Lib.hid hN
  generalize joinL s.fr (nextI s.fr f) f n' = R at *
  generalize nextI s.fr f = i at *
  have hbx := fun (W : World) (hb : Below w.heap.size w W) => (hb.alloc (o := .cells #[.int .i64 (f : Int), .int .i64 (n' : Int)] 98) hb.size)
  have HBX := Lib.hid hbx
  clear h h1 h2 hht hok hr ho hG hno hu hhi hN hbx hf1 hf2
  by_cases hlt : i < N
  · obtain ⟨g, rfl, hg, hc0, hc1⟩ := HAT.out i hlt
    generalize (xAt s.fr i).1 = a at *
    have ii0 : (0 : Int) ≤ (i : Int) := by omega
    have ii1 : (i : Int) < (N : Int) := by omega
    have gi : decide ((i : Int) < (N : Int)) = true := by simp; omega
    have gi2 : decide (i < N) = true := by simp; omega
    by_cases hau : a < u
    · have ga : decide ((a : Int) < (u : Int)) = true := by simp; omega
      have ga2 : decide (a < u) = true := by simp; omega
      rw [if_pos ⟨hlt, hau⟩] at HTS
      rw [HTS]
      dsimp only
      clear HTS HJ
      go_enter Try.func42, Try.ntmps42
      go_wp2_with fail
      refine (HH.out _).mono ?_
      rintro e w2 ⟨rfl, hb2⟩
      rw [HHT.out]
      have HB2 := Lib.hid hb2
      clear hb2
      go_wp2_with fail
      refine (HNX.out _ (HBX.out _ HB2.out)).mono ?_
      rintro e w3 ⟨rfl, hb3⟩
      have hbx : Row (w2.alloc (.cells #[.int .i64 (f : Int), .int .i64 (n' : Int)] 98)) w2.heap.size 98 [.int .i64 (f : Int), .int .i64 (n' : Int)] := heap_alloc_new _ _
      have hbx3 := hbx.below hb3 (by simp)
      have HB3 := Lib.hid ((HBX.out _ HB2.out).trans (hb3.mono (HBX.out _ HB2.out).size))
      have b0 : w3.cell? ⟨w2.heap.size, 0, none⟩ = some (.int .i64 (f : Int)) := hbx3.cell 0
      have b1 : w3.cell? ⟨w2.heap.size, 1, none⟩ = some (.int .i64 (n' : Int)) := hbx3.cell 1
      have c2' := (HB3.out.cell (p := ⟨p, 2, none⟩) hpl).trans c2
      have hs2 : w2.heap.size < w3.heap.size := hbx3.lt
      have hpl3 : p < w3.heap.size := by have := HB3.out.size; omega
      have d0 := (HB3.out.cell (p := ⟨g, i * 2, none⟩) hg).trans hc0
      have hg3 : g < w3.heap.size := by have := HB3.out.size; omega
      clear hb3 hbx hbx3 HB2 HNX HH HHT c0 c1 c2 hc0 hc1
      go_wp2
      go_region_held3 (fun w' => Below w3.heap.size w3 w' ∧ w'.cell? ⟨p, 2, none⟩ = some (.slice (some ⟨g, 0, none⟩) N c) ∧ w'.cell? ⟨w2.heap.size, 0, none⟩ = some (.int .i64 (f : Int)) ∧ w'.cell? ⟨w2.heap.size, 1, none⟩ = some (.int .i64 (n' : Int)) ∧ w'.cell? ⟨g, i * 2, none⟩ = some (.int .i64 (a : Int)))
        (first
          | (exact ⟨below_drewN (Below.refl _ _) 1, c2', b0, b1, d0⟩)
          | (exact ⟨hacc, (hacc.cell hpl3).trans c2', (hacc.cell hs2).trans b0, (hacc.cell hs2).trans b1, (hacc.cell hg3).trans d0⟩))
        ((go_split_ands; go_at_call 65; (with_reducible refine (HE.out _).mono ?_); rintro e w4 ⟨rfl, hb4⟩; have hacc : Below w3.heap.size w3 w4 := Below.trans (by assumption) (Below.mono hb4 (Below.size (by assumption)))))
      have HX : Hid (Next w G p s w4) := Next.of_below H.out (HB3.out.trans (hacc.mono HB3.out.size))
      clear hacc
      go_wp2
      go_ret
      exact ⟨rfl, HX.out⟩
    · have ga : decide ((a : Int) < (u : Int)) = false := by simp; omega
      have ga2 : decide (a < u) = false := by simp; omega
      rw [if_neg (fun hh => hau hh.2)] at HTS
      rw [HTS]
      dsimp only
      have HQ : Hid (¬ (i < N ∧ a < u)) := fun hh => hau hh.2
      clear HTS
      go_enter Try.func42, Try.ntmps42
      go_wp2_with fail
      refine (HH.out _).mono ?_
      rintro e w2 ⟨rfl, hb2⟩
      rw [HHT.out]
      have HB2 := Lib.hid hb2
      clear hb2
      go_wp2_with fail
      refine (HNX.out _ (HBX.out _ HB2.out)).mono ?_
      rintro e w3 ⟨rfl, hb3⟩
      have hbx : Row (w2.alloc (.cells #[.int .i64 (f : Int), .int .i64 (n' : Int)] 98)) w2.heap.size 98 [.int .i64 (f : Int), .int .i64 (n' : Int)] := heap_alloc_new _ _
      have hbx3 := hbx.below hb3 (by simp)
      have HB3 := Lib.hid ((HBX.out _ HB2.out).trans (hb3.mono (HBX.out _ HB2.out).size))
      have b0 : w3.cell? ⟨w2.heap.size, 0, none⟩ = some (.int .i64 (f : Int)) := hbx3.cell 0
      have b1 : w3.cell? ⟨w2.heap.size, 1, none⟩ = some (.int .i64 (n' : Int)) := hbx3.cell 1
      have c2' := (HB3.out.cell (p := ⟨p, 2, none⟩) hpl).trans c2
      have hs2 : w2.heap.size < w3.heap.size := hbx3.lt
      have hpl3 : p < w3.heap.size := by have := HB3.out.size; omega
      have d0 := (HB3.out.cell (p := ⟨g, i * 2, none⟩) hg).trans hc0
      have hg3 : g < w3.heap.size := by have := HB3.out.size; omega
      clear hb3 hbx hbx3 HB2 HNX HH HHT c0 c1 c2 hc0 hc1
      go_wp2
      go_region_held3 (fun w' => Below w3.heap.size w3 w' ∧ w'.cell? ⟨p, 2, none⟩ = some (.slice (some ⟨g, 0, none⟩) N c) ∧ w'.cell? ⟨w2.heap.size, 0, none⟩ = some (.int .i64 (f : Int)) ∧ w'.cell? ⟨w2.heap.size, 1, none⟩ = some (.int .i64 (n' : Int)) ∧ w'.cell? ⟨g, i * 2, none⟩ = some (.int .i64 (a : Int)))
        (first
          | (exact ⟨below_drewN (Below.refl _ _) 1, c2', b0, b1, d0⟩)
          | (exact ⟨hacc, (hacc.cell hpl3).trans c2', (hacc.cell hs2).trans b0, (hacc.cell hs2).trans b1, (hacc.cell hg3).trans d0⟩))
        ((go_split_ands; go_at_call 65; (with_reducible refine (HE.out _).mono ?_); rintro e w4 ⟨rfl, hb4⟩; have hacc : Below w3.heap.size w3 w4 := Below.trans (by assumption) (Below.mono hb4 (Below.size (by assumption)))))
      have HJ4 := Lib.hid (HJ.out HQ.out w4 (HB3.out.trans (hacc.mono HB3.out.size)))
      have b04 := (hacc.cell (p := ⟨w2.heap.size, 0, none⟩) hs2).trans b0
      have b14 := (hacc.cell (p := ⟨w2.heap.size, 1, none⟩) hs2).trans b1
      clear hacc b0 b1 c2' d0
      go_wp2_with fail
      refine HJ4.out.mono ?_
      rintro e w5 ⟨rfl, hx⟩
      have HX := Lib.hid hx
      clear hx
      go_wp2
      go_ret
      exact ⟨rfl, HX.out⟩
  · have gi : decide ((i : Int) < (N : Int)) = false := by simp; omega
    have gi2 : decide (i < N) = false := by simp; omega
    rw [if_neg (fun hh => hlt hh.1)] at HTS
    rw [HTS]
    dsimp only
    have HQ : Hid (¬ (i < N ∧ (xAt s.fr i).1 < u)) := fun hh => hlt hh.1
    clear HTS
    go_enter Try.func42, Try.ntmps42
    go_wp2_with fail
    refine (HH.out _).mono ?_
    rintro e w2 ⟨rfl, hb2⟩
    rw [HHT.out]
    have HB2 := Lib.hid hb2
    clear hb2
    go_wp2_with fail
    refine (HNX.out _ (HBX.out _ HB2.out)).mono ?_
    rintro e w3 ⟨rfl, hb3⟩
    have hbx : Row (w2.alloc (.cells #[.int .i64 (f : Int), .int .i64 (n' : Int)] 98)) w2.heap.size 98 [.int .i64 (f : Int), .int .i64 (n' : Int)] := heap_alloc_new _ _
    have hbx3 := hbx.below hb3 (by simp)
    have HB3 := Lib.hid ((HBX.out _ HB2.out).trans (hb3.mono (HBX.out _ HB2.out).size))
    have b0 : w3.cell? ⟨w2.heap.size, 0, none⟩ = some (.int .i64 (f : Int)) := hbx3.cell 0
    have b1 : w3.cell? ⟨w2.heap.size, 1, none⟩ = some (.int .i64 (n' : Int)) := hbx3.cell 1
    have c2' := (HB3.out.cell (p := ⟨p, 2, none⟩) hpl).trans c2
    have hs2 : w2.heap.size < w3.heap.size := hbx3.lt
    have hpl3 : p < w3.heap.size := by have := HB3.out.size; omega
    clear hb3 hbx hbx3 HB2 HNX HH HHT c0 c1 c2
    go_wp2
    go_quiet (fail)
    have HJ4 := Lib.hid (HJ.out HQ.out (w3.drewN nq) (below_drewN HB3.out nq))
    go_wp2_with fail
    refine HJ4.out.mono ?_
    rintro e w5 ⟨rfl, hx⟩
    have HX := Lib.hid hx
    clear hx
    go_wp2
    go_ret
    exact ⟨rfl, HX.out⟩
end Go.Proofs.Ytbkgpilmgllkiaa
