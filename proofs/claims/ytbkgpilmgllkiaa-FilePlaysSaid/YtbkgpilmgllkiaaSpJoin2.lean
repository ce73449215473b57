/- (*Space).join, a way on the left: written by wip/tools/genjoin.py. -/
import Derived.Test.YtbkgpilmgllkiaaSpJoin
namespace Go.Proofs.Ytbkgpilmgllkiaa
open Go.ChangeShapes Go.WideShapes Go.ChangeAt Go.RowKit

set_option maxHeartbeats 16000000 in
set_option maxRecDepth 100000 in
theorem join_l2 (p : Nat) (s : Sp) (G : Nat → Prop) (i f n' : Nat) (w : World) (h : Spc w G p s) (hi : i = nextI s.fr f) (h1 : s.first ≤ f) (h2 : f + n' ≤ s.first + s.blocks) (hn : 1 ≤ n') (hno : ∀ b, f ≤ b → b < f + n' → ¬ hasB s.fr b) (hl0 : 0 < i) (hlt0 : (xAt s.fr (i - 1)).1 + (xAt s.fr (i - 1)).2 = f) :
    Calls Try.prog 66 #[.pointer (some ⟨p, 0, none⟩), .int .i64 i, .agg #[.int .i64 f, .int .i64 n']] w fun e w' => ∃ G', e = .returned (.tuple #[]) ∧ Spc w' G' p { s with fr := joinL s.fr i f n' } ∧ Far G w w' ∧ ∀ k, G' k → G k ∨ w.heap.size ≤ k := by
  obtain ⟨hok, v, hr, ho, hG⟩ := h
  have hspec := join_spec hok.2.2 hn h1 h2 hno
  rw [← hi] at hspec
  have hiN : i ≤ s.fr.length := by rw [hi]; exact List.findIdx_le_length
  clear hi hno
  have hhi : s.first + s.blocks ≤ 2000000 := by have := hok.1; have := hok.2.1; omega
  have hbnd : ∀ k, k < s.fr.length → (xAt s.fr k).1 + (xAt s.fr k).2 ≤ 2000000 := fun k hk => by have := hok.2.2.getD hk; omega
  obtain ⟨A, c, rfl, hnc, hcm, _⟩ := own2_form ho
  have hlen := hok.len
  have c2 : w.cell? ⟨p, 2, none⟩ = some (.slice A s.fr.length c) := hr.cell 2
  have hpl := hr.lt
  have hok0 := hok
  have hat : ∀ k, k < s.fr.length → ∃ g, A = some ⟨g, 0, none⟩ ∧ g < w.heap.size ∧ w.cell? ⟨g, k * 2, none⟩ = some (.int .i64 (xAt s.fr k).1) ∧ w.cell? ⟨g, k * 2 + 1, none⟩ = some (.int .i64 (xAt s.fr k).2) := fun k hk => own2_at ho hk
  have HAT := Lib.hid hat
  obtain ⟨N, hN⟩ : ∃ N, N = s.fr.length := ⟨_, rfl⟩
  have H0 : SpV w G p s (.slice A N c) := by subst hN; exact ⟨hok, hr, ho, hG⟩
  obtain ⟨R, hR⟩ : ∃ R, R = joinL s.fr i f n' := ⟨_, rfl⟩
  have HOK : Hid (({ s with fr := R } : Sp).ok) := by rw [hR]; exact ⟨hok.1, hok.2.1, hspec.1⟩
  rw [← hR]
  have HR := Lib.hid hR
  have H := Lib.hid H0
  have HN : Hid (s.fr.length = N) := hN.symm
  have HBND := Lib.hid hbnd
  rw [← hN] at c2 hlen hiN
  have hf4 : f + n' ≤ 2000000 := by omega
  have HB0 : Hid (Below w.heap.size w (w.alloc (.cells #[.int .i64 f, .int .i64 n'] 98))) := (Below.refl _ _).alloc (Nat.le_refl _) _
  clear hspec hok hr ho hG hat H0 hN hR hhi hbnd hok0 h1 h2
  obtain ⟨j, rfl⟩ : ∃ j, i = j + 1 := ⟨i - 1, by omega⟩
  obtain ⟨g0, rfl, hg0, lc0, lc1⟩ := HAT.out j (by rw [HN.out]; omega)
  have hbn0 := HBND.out j (by rw [HN.out]; omega)
  obtain ⟨a0, ha0⟩ : ∃ a0, (xAt s.fr j).1 = a0 := ⟨_, rfl⟩
  obtain ⟨b0, hb0⟩ : ∃ b0, (xAt s.fr j).2 = b0 := ⟨_, rfl⟩
  rw [ha0] at lc0
  rw [hb0] at lc1
  rw [ha0, hb0] at hbn0
  have HA0 := Lib.hid ha0
  have HB0' := Lib.hid hb0
  obtain ⟨u0, hu0⟩ : ∃ u0, a0 + b0 = u0 := ⟨_, rfl⟩
  have HE0 : Hid (∀ W, Calls Try.prog 65 #[.agg #[.int .i64 a0, .int .i64 b0]] W fun e w' => e = .returned (.int .i64 (u0 : Nat)) ∧ Below W.heap.size W w') := fun W => by have := end_any a0 b0 W (by omega); rwa [hu0] at this
  have HU0 := Lib.hid hu0
  have hboxb : Row (w.alloc (.cells #[.int .i64 f, .int .i64 n'] 98)) w.heap.size 98 [.int .i64 f, .int .i64 n'] := heap_alloc_new _ _
  have lj0 : (0 : Int) ≤ (j : Int) := by omega
  have lj1 : (j : Int) < (N : Int) := by omega
  have lw1 : IntKind.i64.wrap ((j : Int) + 1 - 1) = (j : Int) := by rw [show (j : Int) + 1 - 1 = j by omega]; exact IntWalk.i64_in _ (by omega)
  have lw2 : IntKind.i64.wrap (j : Int) = (j : Int) := IntWalk.i64_in _ (by omega)
  clear hu0 ha0 hb0
  have hlt : u0 = f := by rw [Nat.add_sub_cancel, HA0.out, HB0'.out, HU0.out] at hlt0; exact hlt0
  clear hlt0
  have lt1 : decide (u0 = f) = true := by simp; omega
  have lt2 : (u0 == f) = true := by simp; omega
  have lt3 : ((u0 : Int) == (f : Int)) = true := by simp; omega
  obtain ⟨n1, hn1⟩ : ∃ n1, n1 = b0 + n' := ⟨_, rfl⟩
  have hadd1 : (b0 : Int) + (n' : Int) = (n1 : Int) := by omega
  have hw1 : IntKind.i64.wrap (n1 : Int) = (n1 : Int) := IntWalk.i64_in _ (by have := HU0.out; omega)
  have HTL : Hid ((xAt s.fr (j + 1 - 1)).1 + (xAt s.fr (j + 1 - 1)).2 = f) := by unfold Hid; rw [Nat.add_sub_cancel, HA0.out, HB0'.out, HU0.out]; exact hlt
  have HLA : Hid ((xAt s.fr (j + 1 - 1)).1 = a0) := by unfold Hid; rw [Nat.add_sub_cancel]; exact HA0.out
  have HLB : Hid ((xAt s.fr (j + 1 - 1)).2 + n' = n1) := by unfold Hid; rw [Nat.add_sub_cancel, HB0'.out]; exact hn1.symm
  have HFE : Hid (f + n' = a0 + n1) := by unfold Hid; have := HU0.out; omega
  have hfn : a0 + n1 ≤ 2000000 := by have := HFE.out; omega
  clear hn1
  go_enter Try.func66, Try.ntmps66
  go_wp2
  generalize w.alloc (.cells #[.int .i64 f, .int .i64 n'] 98) = wb at *
  have HBb := HB0
  have c5b : wb.cell? ⟨p, 2, none⟩ = some (.slice (some ⟨g0, 0, none⟩) N c) := (H.out.2.1.below HBb.out hpl).cell 2
  have b0b : wb.cell? ⟨w.heap.size, 0, none⟩ = some (.int .i64 f) := hboxb.cell 0
  have lc0b := (HBb.out.cell (p := ⟨g0, j * 2, none⟩) hg0).trans lc0
  have lc1b := (HBb.out.cell (p := ⟨g0, j * 2 + 1, none⟩) hg0).trans lc1
  have hszb : w.heap.size < wb.heap.size := hboxb.lt
  have hplb : p < wb.heap.size := by omega
  have hg0b : g0 < wb.heap.size := by omega
  go_region_held3 (fun w' => Below wb.heap.size wb w' ∧ w'.cell? ⟨p, 2, none⟩ = some (.slice (some ⟨g0, 0, none⟩) N c) ∧ w'.cell? ⟨w.heap.size, 0, none⟩ = some (.int .i64 f) ∧ w'.cell? ⟨g0, j * 2, none⟩ = some (.int .i64 a0) ∧ w'.cell? ⟨g0, j * 2 + 1, none⟩ = some (.int .i64 b0))
    (first
      | (exact ⟨below_drewN (Below.refl _ _) 1, c5b, b0b, lc0b, lc1b⟩)
      | (exact ⟨hacc, (hacc.cell hplb).trans c5b, (hacc.cell hszb).trans b0b, (hacc.cell hg0b).trans lc0b, (hacc.cell hg0b).trans lc1b⟩))
    ((go_split_ands; go_at_call 65; (with_reducible refine (HE0.out _).mono ?_); rintro e wr2 ⟨rfl, hb3⟩; have hacc : Below wb.heap.size wb wr2 := Below.trans (by assumption) (Below.mono hb3 (Below.size (by assumption)))))
  have hbox2 := hboxb.below hacc hszb
  have HB2r := Lib.hid (HBb.out.trans (hacc.mono HBb.out.size))
  have HACC0 := Lib.hid hacc
  clear hacc
  have c5q := (HACC0.out.cell (p := ⟨p, 2, none⟩) hplb).trans c5b
  have d0q := (HACC0.out.cell (p := ⟨g0, j * 2, none⟩) hg0b).trans lc0b
  have d1q := (HACC0.out.cell (p := ⟨g0, j * 2 + 1, none⟩) hg0b).trans lc1b
  have b1q : wr2.cell? ⟨w.heap.size, 1, none⟩ = some (.int .i64 n') := hbox2.cell 1
  have b0q : wr2.cell? ⟨w.heap.size, 0, none⟩ = some (.int .i64 f) := hbox2.cell 0
  have fbq := hbox2.free 1
  have fbq0 := hbox2.free 0
  generalize wr2 = wr6 at *
  clear c5b b0b lc0b lc1b
  go_wp2
  go_region
  have hboxp : Row ((wr6.setCell ⟨w.heap.size, 0, none⟩ (.int .i64 a0)).setCell ⟨w.heap.size, 1, none⟩ (.int .i64 n1)).drew w.heap.size 98 [.int .i64 a0, .int .i64 n1] := ((hbox2.set 0 (.int .i64 a0)).set 1 (.int .i64 n1)).drewN 1
  have HBp : Hid (Below w.heap.size w ((wr6.setCell ⟨w.heap.size, 0, none⟩ (.int .i64 a0)).setCell ⟨w.heap.size, 1, none⟩ (.int .i64 n1)).drew) := below_drewN ((HB2r.out.setCell (p := ⟨w.heap.size, 0, none⟩) (Nat.le_refl _) _).setCell (p := ⟨w.heap.size, 1, none⟩) (Nat.le_refl _) _) 1
  clear c5q d0q d1q b1q b0q fbq fbq0 HACC0 hbox2 HB2r hszb hplb hg0b hboxb HBb HB0 lt1 lt2 lt3 HE0 HU0 HA0 HB0' lc0 lc1
  generalize ((wr6.setCell ⟨w.heap.size, 0, none⟩ (.int .i64 a0)).setCell ⟨w.heap.size, 1, none⟩ (.int .i64 n1)).drew = wp at *
  go_wp2
  by_cases hrN : (j + 1) < N
  · obtain ⟨g2, hA2, hg2, hd0, hd1⟩ := HAT.out ((j + 1)) (by rw [HN.out]; exact hrN)
    have hbn2 := HBND.out ((j + 1)) (by rw [HN.out]; exact hrN)
    obtain rfl : g2 = g0 := by injection hA2 with hA2; injection hA2 with hA2; exact hA2.symm
    obtain ⟨a2, ha2⟩ : ∃ a2, (xAt s.fr ((j + 1))).1 = a2 := ⟨_, rfl⟩
    obtain ⟨b2, hb2⟩ : ∃ b2, (xAt s.fr ((j + 1))).2 = b2 := ⟨_, rfl⟩
    rw [ha2] at hd0
    rw [hb2] at hd1
    rw [ha2, hb2] at hbn2
    have HA2 := Lib.hid ha2
    have HB2' := Lib.hid hb2
    obtain ⟨u2, hu2⟩ : ∃ u2, a0 + n1 = u2 := ⟨_, rfl⟩
    have HE2 : Hid (∀ W, Calls Try.prog 65 #[.agg #[.int .i64 a0, .int .i64 n1]] W fun e w' => e = .returned (.int .i64 (u2 : Nat)) ∧ Below W.heap.size W w') := fun W => by have := end_any (a0) (n1) W (by omega); rwa [hu2] at this
    have HU2 := Lib.hid hu2
    have c5p : wp.cell? ⟨p, 2, none⟩ = some (.slice (some ⟨g2, 0, none⟩) N c) := (H.out.2.1.below HBp.out hpl).cell 2
    have b0p : wp.cell? ⟨w.heap.size, 0, none⟩ = some (.int .i64 a0) := hboxp.cell 0
    have b1p : wp.cell? ⟨w.heap.size, 1, none⟩ = some (.int .i64 n1) := hboxp.cell 1
    have d0p := (HBp.out.cell (p := ⟨g2, ((j + 1)) * 2, none⟩) hg2).trans hd0
    have d1p := (HBp.out.cell (p := ⟨g2, ((j + 1)) * 2 + 1, none⟩) hg2).trans hd1
    have hszp : w.heap.size < wp.heap.size := hboxp.lt
    have hplp : p < wp.heap.size := by omega
    have hg2p : g2 < wp.heap.size := by omega
    have ri1 : ((j : Int) + 1 : Int) < (N : Int) := by omega
    have ri0 : (0 : Int) ≤ ((j : Int) + 1 : Int) := by omega
    have rg : decide (((j : Int) + 1 : Int) < (N : Int)) = true := by simp; omega
    have rgn : decide ((j + 1) < N) = true := by simp; omega
    clear hu2 ha2 hb2
    by_cases hrt : a2 = u2
    · have rt : decide (a2 = u2) = true := by simp; omega
      have rt2 : (a2 == u2) = true := by simp; omega
      have rt3 : ((a2 : Int) == (u2 : Int)) = true := by simp; omega
      obtain ⟨n2, hn2⟩ : ∃ n2, n2 = n1 + b2 := ⟨_, rfl⟩
      have hadd2 : (n1 : Int) + (b2 : Int) = (n2 : Int) := by omega
      have hw2 : IntKind.i64.wrap (n2 : Int) = (n2 : Int) := IntWalk.i64_in _ (by omega)
      have hwi : IntKind.i64.wrap (((j : Int) + 1 : Int) + 1) = ((j : Int) + 1 : Int) + 1 := IntWalk.i64_in _ (by omega)
      have HTR : Hid (touchR s.fr ((j + 1)) (f + n') = true) := touchR_t (by rw [HN.out]; exact hrN) (by rw [HA2.out]; have := HU2.out; have := HFE.out; omega)
      have HN2 := Lib.hid hn2
      clear hn2
      go_region_held3 (fun w' => Below wp.heap.size wp w' ∧ w'.cell? ⟨p, 2, none⟩ = some (.slice (some ⟨g2, 0, none⟩) N c) ∧ w'.cell? ⟨w.heap.size, 0, none⟩ = some (.int .i64 a0) ∧ w'.cell? ⟨w.heap.size, 1, none⟩ = some (.int .i64 n1) ∧ w'.cell? ⟨g2, ((j + 1)) * 2, none⟩ = some (.int .i64 a2) ∧ w'.cell? ⟨g2, ((j + 1)) * 2 + 1, none⟩ = some (.int .i64 b2))
        (first
          | (exact ⟨below_drewN (Below.refl _ _) 1, c5p, b0p, b1p, d0p, d1p⟩)
          | (exact ⟨hacc, (hacc.cell hplp).trans c5p, (hacc.cell hszp).trans b0p, (hacc.cell hszp).trans b1p, (hacc.cell hg2p).trans d0p, (hacc.cell hg2p).trans d1p⟩))
        ((go_split_ands; go_at_call 65; (with_reducible refine (HE2.out _).mono ?_); rintro e wr5 ⟨rfl, hb3⟩; have hacc : Below wp.heap.size wp wr5 := Below.trans (by assumption) (Below.mono hb3 (Below.size (by assumption)))))
      have hbox5 := hboxp.below hacc hszp
      have HB5r := Lib.hid (HBp.out.trans (hacc.mono HBp.out.size))
      have HACC := Lib.hid hacc
      clear hacc
      have c5q := (HACC.out.cell (p := ⟨p, 2, none⟩) hplp).trans c5p
      have d0q := (HACC.out.cell (p := ⟨g2, ((j + 1)) * 2, none⟩) hg2p).trans d0p
      have d1q := (HACC.out.cell (p := ⟨g2, ((j + 1)) * 2 + 1, none⟩) hg2p).trans d1p
      have b1q := (HACC.out.cell (p := ⟨w.heap.size, 1, none⟩) hszp).trans b1p
      have fbq := hbox5.free 1
      generalize wr5 = wr6 at *
      go_wp2
      go_region
      have hbox : Row (wr6.setCell ⟨w.heap.size, 1, none⟩ (.int .i64 n2)).drew w.heap.size 98 [.int .i64 a0, .int .i64 n2] := (hbox5.set 1 (.int .i64 n2)).drewN 1
      have HBq : Hid (Below w.heap.size w (wr6.setCell ⟨w.heap.size, 1, none⟩ (.int .i64 n2)).drew) := below_drewN (HB5r.out.setCell (p := ⟨w.heap.size, 1, none⟩) (Nat.le_refl _) _) 1
      clear c5q d0q d1q b1q fbq HACC HB5r hbox5
      generalize (wr6.setCell ⟨w.heap.size, 1, none⟩ (.int .i64 n2)).drew = wq at *
      go_wp2
      have HEQ : Hid (s.fr.take (j) ++ [(a0, n2)] ++ s.fr.drop ((j + 1) + 1) = R) := by
        unfold Hid; rw [HR.out]; unfold joinL; rw [touchL_t (by omega) HTL.out, HTR.out]
        dsimp only; rw [HLA.out, HLB.out, HN2.out, HB2'.out]; simp
      have hsz : w.heap.size < wq.heap.size := hbox.lt
      have c5 : wq.cell? ⟨p, 2, none⟩ = some (.slice (some ⟨g2, 0, none⟩) N c) := (H.out.2.1.below HBq.out hpl).cell 2
      have b0 : wq.cell? ⟨w.heap.size, 0, none⟩ = some (.int .i64 a0) := hbox.cell 0
      have b1 : wq.cell? ⟨w.heap.size, 1, none⟩ = some (.int .i64 n2) := hbox.cell 1
      have hplq : p < wq.heap.size := by omega
      have HB5 : ∀ W, W = wq.drew.alloc (.cells #[.int .i64 a0, .int .i64 n2] 98) → Hid (Below w.heap.size w W) := fun W e => by subst e; exact (below_drewN HBq.out 1).alloc (by have := HBq.out.size; exact this) _
      have HREP : ∀ W, W = wq.drew.alloc (.cells #[.int .i64 a0, .int .i64 n2] 98) → Hid (Calls Try.prog 81 #[.slice (some ⟨g2, 0, none⟩) N c, .int .i64 ((j : Int)), .int .i64 ((j : Int) + 1 + 1), .slice (some ⟨wq.heap.size, 0, none⟩) 1 1] W (Got W (.slice (some ⟨g2, 0, none⟩) N c) R)) := fun W e => by
        have hov := own2_below H.out.2.2.1 (HB5 W e).out
        rw [HN.out] at hov
        have hnew : Own2 W wq.heap.size 1 1 [(a0, n2)] [.int .i64 a0, .int .i64 n2] := ⟨by subst e; exact heap_alloc_new wq.drew _, rfl, Nat.le_refl _, by omega, rfl, rfl⟩
        have hrep := replace_any W (i := j) (j := (j + 1) + 1) hov hnew.own (fun k hk e2 => by have h1 := (H.out.2.2.1.lt k hk).2; (have e3 : wq.heap.size = k := by simpa [Value.ownBlock] using e2); omega) (by omega) (by omega) (by omega) (by omega)
        rw [HEQ.out] at hrep
        have ecast : ((j : Nat) : Int) = (j : Int) := by omega
        have ecast2 : (((j + 1) + 1 : Nat) : Int) = (j : Int) + 1 + 1 := by omega
        first | rw [ecast, ecast2] at hrep | rw [ecast] at hrep
        exact hrep
      have HREP := HREP _ rfl
      have HB5 := HB5 _ rfl
      have HC : Hid (∀ v' w6, Got (wq.drew.alloc (.cells #[.int .i64 a0, .int .i64 n2] 98)) (.slice (some ⟨g2, 0, none⟩) N c) R (.returned v') w6 → ∃ G', Spc (w6.setCell ⟨p, 2, none⟩ v') G' p { s with fr := R } ∧ Far G w (w6.setCell ⟨p, 2, none⟩ v') ∧ ∀ k, G' k → G k ∨ w.heap.size ≤ k) := fun v' w6 hg => spc_put H.out HB5.out hg HOK.out
      clear HTR rt rt2 rt3 ri0 ri1 rg rgn c5p b0p b1p hplp hg2p hszp d0p d1p hd0 hd1 HE2 HU2 HA2 HB2' hbn2 hg2
      have HC2 : Hid (∀ v' w6, Got (wq.drew.alloc (.cells #[.int .i64 a0, .int .i64 n2] 98)) (.slice (some ⟨g2, 0, none⟩) N c) R (.returned v') w6 → w6.cell? ⟨p, 2, none⟩ = some (.slice (some ⟨g2, 0, none⟩) N c) ∧ w6.frozen? ⟨p, 2, none⟩ = false) := fun v' w6 hg => by have := spc_stays H.out HB5.out hg; exact ⟨this.cell 2, this.free 2⟩
      go_wp2
      go_region_with (go_at_call 81; refine HREP.out.mono ?_; rintro e w6 hg; obtain ⟨v', rfl, hg1, hg2, hg3⟩ := id hg; have HX := Lib.hid (HC.out v' w6 hg); obtain ⟨c6, f6⟩ := HC2.out v' w6 hg; obtain ⟨A', c', rfl, _, _, _⟩ := own2_form hg1; clear hg hg1 hg2 hg3)
      all_goals (go_wp2; go_end0; obtain ⟨G', h1, h2, h3⟩ := HX.out; exact ⟨G', rfl, h1, h2, h3⟩)
    · have rt : decide (a2 = u2) = false := by simp; omega
      have rt2 : (a2 == u2) = false := by simp; omega
      have rt3 : ((a2 : Int) == (u2 : Int)) = false := by simp; omega
      have HTR : Hid (touchR s.fr ((j + 1)) (f + n') = false) := touchR_f fun _ => by rw [HA2.out]; have := HU2.out; have := HFE.out; omega
      go_wp2
      go_region_held3 (fun w' => Below wp.heap.size wp w' ∧ w'.cell? ⟨p, 2, none⟩ = some (.slice (some ⟨g2, 0, none⟩) N c) ∧ w'.cell? ⟨w.heap.size, 0, none⟩ = some (.int .i64 a0) ∧ w'.cell? ⟨w.heap.size, 1, none⟩ = some (.int .i64 n1) ∧ w'.cell? ⟨g2, ((j + 1)) * 2, none⟩ = some (.int .i64 a2) ∧ w'.cell? ⟨g2, ((j + 1)) * 2 + 1, none⟩ = some (.int .i64 b2))
        (first
          | (exact ⟨below_drewN (Below.refl _ _) 1, c5p, b0p, b1p, d0p, d1p⟩)
          | (exact ⟨hacc, (hacc.cell hplp).trans c5p, (hacc.cell hszp).trans b0p, (hacc.cell hszp).trans b1p, (hacc.cell hg2p).trans d0p, (hacc.cell hg2p).trans d1p⟩))
        ((go_split_ands; go_at_call 65; (with_reducible refine (HE2.out _).mono ?_); rintro e wr5 ⟨rfl, hb3⟩; have hacc : Below wp.heap.size wp wr5 := Below.trans (by assumption) (Below.mono hb3 (Below.size (by assumption)))))
      have hbox5 := hboxp.below hacc hszp
      have HB5r := Lib.hid (HBp.out.trans (hacc.mono HBp.out.size))
      have HACC := Lib.hid hacc
      clear hacc
      generalize wr5 = wq at *
      have HBq := HB5r
      have hbox := hbox5
      go_wp2
      have HEQ : Hid (s.fr.take (j) ++ [(a0, n1)] ++ s.fr.drop ((j + 1)) = R) := by
        unfold Hid; rw [HR.out]; unfold joinL; rw [touchL_t (by omega) HTL.out, HTR.out]
        dsimp only; rw [HLA.out, HLB.out]; simp
      have hsz : w.heap.size < wq.heap.size := hbox.lt
      have c5 : wq.cell? ⟨p, 2, none⟩ = some (.slice (some ⟨g2, 0, none⟩) N c) := (H.out.2.1.below HBq.out hpl).cell 2
      have b0 : wq.cell? ⟨w.heap.size, 0, none⟩ = some (.int .i64 a0) := hbox.cell 0
      have b1 : wq.cell? ⟨w.heap.size, 1, none⟩ = some (.int .i64 n1) := hbox.cell 1
      have hplq : p < wq.heap.size := by omega
      have HB5 : ∀ W, W = wq.drew.alloc (.cells #[.int .i64 a0, .int .i64 n1] 98) → Hid (Below w.heap.size w W) := fun W e => by subst e; exact (below_drewN HBq.out 1).alloc (by have := HBq.out.size; exact this) _
      have HREP : ∀ W, W = wq.drew.alloc (.cells #[.int .i64 a0, .int .i64 n1] 98) → Hid (Calls Try.prog 81 #[.slice (some ⟨g2, 0, none⟩) N c, .int .i64 ((j : Int)), .int .i64 ((j : Int) + 1), .slice (some ⟨wq.heap.size, 0, none⟩) 1 1] W (Got W (.slice (some ⟨g2, 0, none⟩) N c) R)) := fun W e => by
        have hov := own2_below H.out.2.2.1 (HB5 W e).out
        rw [HN.out] at hov
        have hnew : Own2 W wq.heap.size 1 1 [(a0, n1)] [.int .i64 a0, .int .i64 n1] := ⟨by subst e; exact heap_alloc_new wq.drew _, rfl, Nat.le_refl _, by omega, rfl, rfl⟩
        have hrep := replace_any W (i := j) (j := (j + 1)) hov hnew.own (fun k hk e2 => by have h1 := (H.out.2.2.1.lt k hk).2; (have e3 : wq.heap.size = k := by simpa [Value.ownBlock] using e2); omega) (by omega) (by omega) (by omega) (by omega)
        rw [HEQ.out] at hrep
        have ecast : ((j : Nat) : Int) = (j : Int) := by omega
        have ecast2 : (((j + 1) : Nat) : Int) = (j : Int) + 1 := by omega
        first | rw [ecast, ecast2] at hrep | rw [ecast] at hrep
        exact hrep
      have HREP := HREP _ rfl
      have HB5 := HB5 _ rfl
      have HC : Hid (∀ v' w6, Got (wq.drew.alloc (.cells #[.int .i64 a0, .int .i64 n1] 98)) (.slice (some ⟨g2, 0, none⟩) N c) R (.returned v') w6 → ∃ G', Spc (w6.setCell ⟨p, 2, none⟩ v') G' p { s with fr := R } ∧ Far G w (w6.setCell ⟨p, 2, none⟩ v') ∧ ∀ k, G' k → G k ∨ w.heap.size ≤ k) := fun v' w6 hg => spc_put H.out HB5.out hg HOK.out
      clear HTR rt rt2 rt3 ri0 ri1 rg rgn c5p b0p b1p hplp hg2p hszp d0p d1p hd0 hd1 HE2 HU2 HA2 HB2' hbn2 hg2
      have HC2 : Hid (∀ v' w6, Got (wq.drew.alloc (.cells #[.int .i64 a0, .int .i64 n1] 98)) (.slice (some ⟨g2, 0, none⟩) N c) R (.returned v') w6 → w6.cell? ⟨p, 2, none⟩ = some (.slice (some ⟨g2, 0, none⟩) N c) ∧ w6.frozen? ⟨p, 2, none⟩ = false) := fun v' w6 hg => by have := spc_stays H.out HB5.out hg; exact ⟨this.cell 2, this.free 2⟩
      go_wp2
      go_region_with (go_at_call 81; refine HREP.out.mono ?_; rintro e w6 hg; obtain ⟨v', rfl, hg1, hg2, hg3⟩ := id hg; have HX := Lib.hid (HC.out v' w6 hg); obtain ⟨c6, f6⟩ := HC2.out v' w6 hg; obtain ⟨A', c', rfl, _, _, _⟩ := own2_form hg1; clear hg hg1 hg2 hg3)
      all_goals (go_wp2; go_end0; obtain ⟨G', h1, h2, h3⟩ := HX.out; exact ⟨G', rfl, h1, h2, h3⟩)
  · have rg : decide (((j : Int) + 1 : Int) < (N : Int)) = false := by simp; omega
    have rgn : decide ((j + 1) < N) = false := by simp; omega
    have HTR : Hid (touchR s.fr ((j + 1)) (f + n') = false) := touchR_f fun hh => by rw [HN.out] at hh; omega
    have c5p : wp.cell? ⟨p, 2, none⟩ = some (.slice (some ⟨g0, 0, none⟩) N c) := (H.out.2.1.below HBp.out hpl).cell 2
    have hplp : p < wp.heap.size := by have := hboxp.lt; omega
    go_quiet (fail)
    have hbox := hboxp.drewN nq
    have HBq : Hid (Below w.heap.size w (wp.drewN nq)) := below_drewN HBp.out nq
    generalize wp.drewN nq = wq at *
    go_wp2
    have HEQ : Hid (s.fr.take (j) ++ [(a0, n1)] ++ s.fr.drop ((j + 1)) = R) := by
      unfold Hid; rw [HR.out]; unfold joinL; rw [touchL_t (by omega) HTL.out, HTR.out]
      dsimp only; rw [HLA.out, HLB.out]; simp
    have hsz : w.heap.size < wq.heap.size := hbox.lt
    have c5 : wq.cell? ⟨p, 2, none⟩ = some (.slice (some ⟨g0, 0, none⟩) N c) := (H.out.2.1.below HBq.out hpl).cell 2
    have b0 : wq.cell? ⟨w.heap.size, 0, none⟩ = some (.int .i64 a0) := hbox.cell 0
    have b1 : wq.cell? ⟨w.heap.size, 1, none⟩ = some (.int .i64 n1) := hbox.cell 1
    have hplq : p < wq.heap.size := by omega
    have HB5 : ∀ W, W = wq.drew.alloc (.cells #[.int .i64 a0, .int .i64 n1] 98) → Hid (Below w.heap.size w W) := fun W e => by subst e; exact (below_drewN HBq.out 1).alloc (by have := HBq.out.size; exact this) _
    have HREP : ∀ W, W = wq.drew.alloc (.cells #[.int .i64 a0, .int .i64 n1] 98) → Hid (Calls Try.prog 81 #[.slice (some ⟨g0, 0, none⟩) N c, .int .i64 ((j : Int)), .int .i64 ((j : Int) + 1), .slice (some ⟨wq.heap.size, 0, none⟩) 1 1] W (Got W (.slice (some ⟨g0, 0, none⟩) N c) R)) := fun W e => by
      have hov := own2_below H.out.2.2.1 (HB5 W e).out
      rw [HN.out] at hov
      have hnew : Own2 W wq.heap.size 1 1 [(a0, n1)] [.int .i64 a0, .int .i64 n1] := ⟨by subst e; exact heap_alloc_new wq.drew _, rfl, Nat.le_refl _, by omega, rfl, rfl⟩
      have hrep := replace_any W (i := j) (j := (j + 1)) hov hnew.own (fun k hk e2 => by have h1 := (H.out.2.2.1.lt k hk).2; (have e3 : wq.heap.size = k := by simpa [Value.ownBlock] using e2); omega) (by omega) (by omega) (by omega) (by omega)
      rw [HEQ.out] at hrep
      have ecast : ((j : Nat) : Int) = (j : Int) := by omega
      have ecast2 : (((j + 1) : Nat) : Int) = (j : Int) + 1 := by omega
      first | rw [ecast, ecast2] at hrep | rw [ecast] at hrep
      exact hrep
    have HREP := HREP _ rfl
    have HB5 := HB5 _ rfl
    have HC : Hid (∀ v' w6, Got (wq.drew.alloc (.cells #[.int .i64 a0, .int .i64 n1] 98)) (.slice (some ⟨g0, 0, none⟩) N c) R (.returned v') w6 → ∃ G', Spc (w6.setCell ⟨p, 2, none⟩ v') G' p { s with fr := R } ∧ Far G w (w6.setCell ⟨p, 2, none⟩ v') ∧ ∀ k, G' k → G k ∨ w.heap.size ≤ k) := fun v' w6 hg => spc_put H.out HB5.out hg HOK.out
    have HC2 : Hid (∀ v' w6, Got (wq.drew.alloc (.cells #[.int .i64 a0, .int .i64 n1] 98)) (.slice (some ⟨g0, 0, none⟩) N c) R (.returned v') w6 → w6.cell? ⟨p, 2, none⟩ = some (.slice (some ⟨g0, 0, none⟩) N c) ∧ w6.frozen? ⟨p, 2, none⟩ = false) := fun v' w6 hg => by have := spc_stays H.out HB5.out hg; exact ⟨this.cell 2, this.free 2⟩
    go_wp2
    go_region_with (go_at_call 81; refine HREP.out.mono ?_; rintro e w6 hg; obtain ⟨v', rfl, hg1, hg2, hg3⟩ := id hg; have HX := Lib.hid (HC.out v' w6 hg); obtain ⟨c6, f6⟩ := HC2.out v' w6 hg; obtain ⟨A', c', rfl, _, _, _⟩ := own2_form hg1; clear hg hg1 hg2 hg3)
    all_goals (go_wp2; go_end0; obtain ⟨G', h1, h2, h3⟩ := HX.out; exact ⟨G', rfl, h1, h2, h3⟩)
end Go.Proofs.Ytbkgpilmgllkiaa
