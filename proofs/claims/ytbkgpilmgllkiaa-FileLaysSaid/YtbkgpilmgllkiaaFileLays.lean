/-
  FileLays: whatever place, width and tuples; no condition.
-/
import Derived.Test.YtbkgpilmgllkiaaRows
import Derived.Test.YtbkgpilmgllkiaaFileBase
import Derived.WalkKit
import Derived.ProofKit
import Derived.OpenShut
import Derived.ShutString
import Derived.ChangeOld
import Derived.Below
namespace Go.Proofs.Ytbkgpilmgllkiaa.fileLays
open Go.ChangeShapes Go.WideShapes Go.ChangeAt Go.RowKit
open Go.ChangeMaps (open_string shut_string)
set_option linter.unusedVariables false

theorem own : ownKnob Try.prog.godebug = none := by kernel_rfl
theorem laidOut : laidOutB Try.prog = true := by kernel_rfl

theorem neq_file (w : World) (a b c d : Int) : (binOp .neq 30 (.agg #[.int .i64 a, .int .i64 b, .int .i64 c, .int .i64 d]) (.agg #[.int .i64 a, .int .i64 b, .int .i64 c, .int .i64 d])).run Try.prog w = .ok (.bool false) w := by
  have u3 := Try.underlying3
  have hS : Try.prog.underlying 30 = some (.struct (Try.prog.fieldsOf 30)) := by kernel_rfl
  have hp : Try.prog.stoodInHeld 30 = false := by kernel_rfl
  rw [run_neq_struct, show (10000 : Nat) = 9999 + 1 from rfl, run_equalIn_agg w 9999 30 _ _ hS hp]
  simp only [Program.fieldsOf, Try.underlying30]
  go_simp
theorem guard_file (w : World) (op : BinOp) (x y : Operand) (xs ys : Array Value) : (eqGuard op 30 x y (.agg xs) (.agg ys)).run Try.prog w = .ok () w :=
  run_eqGuard_agg w op 30 x y _ _ (by kernel_rfl)


set_option maxHeartbeats 4000000 in
set_option maxRecDepth 100000 in
theorem walk (x0 x1 x2 : Int) (a1 : Int) (a2 : Option Addr) (len2 cap2 : Nat) (l2 : List Tup) (w : World) (y0 : I64 x0) (y1 : I64 x1) (y2 : I64 x2) (w1 : (Lit.int .i64 a1).wf = true) (wr2 : ReadsT w w.heap.size a2 len2 l2) (wm2 : len2 ≤ maxLen) :
    Calls Try.prog 3 #[.agg #[.int .i64 x0, .int .i64 x1, .int .i64 x2], .int .i64 a1, .slice a2 len2 cap2] w fun e w' => e = .returned (.bool true) ∧ Below w.heap.size w w' := by
  have HAWK : Hid (∀ W, Calls Try.prog 10 #[] W fun e w' => e = .returned (.bool true) ∧ Below W.heap.size W w') := fun W => awake_any W
  have hbp : Below w.heap.size w (w.alloc (.cells #[.int .i64 x0, .int .i64 x1, .int .i64 x2] 23)) := (Below.refl _ _).alloc (Nat.le_refl _) _
  have hrp : Row (w.alloc (.cells #[.int .i64 x0, .int .i64 x1, .int .i64 x2] 23)) w.heap.size 23 [.int .i64 x0, .int .i64 x1, .int .i64 x2] := heap_alloc_new _ _
  have c0 := hrp.cell 0
  have c1 := hrp.cell 1
  have c2 := hrp.cell 2
  simp only [List.getElem?_cons_zero, List.getElem?_cons_succ] at c0 c1 c2
  have HWK := Lib.hid (work_any x0 x1 x2 (w.alloc (.cells #[.int .i64 x0, .int .i64 x1, .int .i64 x2] 23)) y0 y1 y2)
  have HBP := Lib.hid hbp
  have HRP := Lib.hid hrp
  have HLR := Lib.hid wr2
  have hlen := wr2.1
  have hm2 : len2 ≤ 9223372036854775807 := by unfold maxLen at wm2; omega
  have WM := Lib.hid wm2
  have W1 := Lib.hid w1
  clear hbp hrp y0 y1 y2 wr2 wm2 w1
  go_enter Try.func3, Try.ntmps3
  go_wp2_with fail
  refine HWK.out.mono ?_
  rintro e w2 (⟨hno, rfl, hb⟩ | ⟨hpl, p, G, rfl, hs, hG, hb⟩)
  · have HB2 := Lib.hid (HBP.out.trans (hb.mono HBP.out.size))
    clear hno hb HWK c0 c1 c2
    go_wp2_with fail
    refine (HAWK.out _).mono ?_; rintro e w3 ⟨rfl, hb⟩
    have HB3 := Lib.hid (HB2.out.trans (hb.mono HB2.out.size))
    clear hb
    go_wp2_with fail
    refine (HAWK.out _).mono ?_; rintro e w4 ⟨rfl, hb⟩
    have HB4 := Lib.hid (HB3.out.trans (hb.mono HB3.out.size))
    clear hb
    go_wp2
    go_ret
    exact ⟨rfl, HB4.out⟩
  · obtain ⟨n, rfl⟩ : ∃ n : Nat, x0 = (n : Int) := ⟨x0.toNat, by have := hpl.1.1; omega⟩
    obtain ⟨b, rfl⟩ : ∃ b : Nat, x1 = (b : Int) := ⟨x1.toNat, by have := hpl.2.1.1; omega⟩
    generalize x2 = room at *
    have hB2 : Base w p (placeF n b room) 0 [(w.heap.size, 23, [.int .i64 n, .int .i64 b, .int .i64 room])] w2 := ⟨G, hs, fun k hk => Nat.le_trans HBP.out.size (hG k hk), HBP.out.trans (hb.mono HBP.out.size), fun r hr => by
      simp only [List.mem_singleton] at hr
      subst hr
      exact ⟨HRP.out.below hb HRP.out.lt, fun hg => by have h1 := hG _ hg; have := HRP.out.lt; simp only at h1; omega, show (23 : Nat) ≠ 130 by decide⟩⟩
    have HPL := Lib.hid hpl
    have hn8 : 8 ≤ n ∧ n ≤ 256 := by have := hpl.1; omega
    have hb5 : b ≤ 5000 := by have := hpl.2.1; omega
    have hrm : room ≤ 100000 := hpl.2.2
    have HBASE := Lib.hid hB2
    clear hpl hs hG hb hB2 HWK HBP HRP c0 c1 c2
    go_wp2_with fail
    refine (HAWK.out _).mono ?_; rintro e w3 ⟨rfl, hb⟩
    have HB3 := Lib.hid (HBASE.out.below hb)
    clear hb HBASE
    by_cases h500 : len2 ≤ 500
    case neg =>
      have g5 : decide ((len2 : Int) > 500) = true := by simp; omega
      go_wp2_with fail
      refine (HAWK.out _).mono ?_; rintro e w4 ⟨rfl, hb⟩
      have HB4 := Lib.hid ((HB3.out.below hb).bel)
      clear hb
      go_wp2
      go_ret
      exact ⟨rfl, HB4.out⟩
    case pos =>
    have g5 : decide ((len2 : Int) > 500) = false := by simp; omega
    have HLAY := Lib.hid (base_lay HB3.out a1 (c := cap2) HLR.out (by omega))
    have HDZ : Hid ((placeF n b room).D.size = n) := rfl
    have HAR : Hid ((placeF n b room).A.room - (placeF n b room).A.used = room.toNat) := rfl
    have HBL : Hid (∀ W, Calls Try.prog 12 #[.int .i64 n, .int .i64 a1, .int .i64 len2] W fun e w' => e = .returned (.int .i64 (blocksR (holdsI n a1) len2 : Nat)) ∧ w' = W) := fun W => rblk2_any n a1 len2 W hn8 (by omega)
    have HHO : Hid (∀ W, Calls Try.prog 13 #[.int .i64 n, .int .i64 a1] W fun e w' => e = .returned (.int .i64 (holdsI n a1 : Nat)) ∧ w' = W) := fun W => rhol_any n a1 W hn8
    have HH254 : Hid (holdsI n a1 ≤ 254) := Nat.le_trans (holds_le _ _) (by omega)
    have HWA : Hid (WArgs (placeF n b room) a1 (l2.length : Int) ↔ holdsI n a1 ≠ 0) := ⟨fun h => h.1, fun h => ⟨h, by omega, by omega⟩⟩
    have HIN : Hid ((((placeF n b room).S.first + (placeF n b room).S.blocks : Nat) : Int) ≤ (placeF n b room).D.blocks) := placeF_range n b room (by omega)
    have HSOK := Lib.hid HB3.out.sok
    have HLEN : Hid (l2.length = len2) := hlen
    clear hlen
    go_wp2_with fail
    refine HLAY.out.mono ?_
    rintro e w4 (⟨er, rfl, hwe, hbs⟩ | ⟨t, S1, htop, ⟨rfl, hun, D', m', hD, hbs⟩ | ⟨er, D1, m', i', ws', rfl, hne, d1, d2, d3, d4, hbs⟩ | ⟨rfl, hall, D', hD, hst, hbs⟩⟩)
    · rcases hwe with ⟨rfl, hnw⟩ | ⟨rfl, hwa, hlt⟩ | ⟨rfl, hwa, hge, hnp, hnr⟩
      · have h0 : holdsI n a1 = 0 := Decidable.byContradiction fun h => hnw (HWA.out.2 h)
        have HB5 := Lib.hid (hbs.alloc 30 (by decide) #[.int .i64 0, .int .i64 0, .int .i64 0, .int .i64 0])
        obtain ⟨w5, hw5⟩ : ∃ w5, w5 = w4.alloc (.cells #[.int .i64 0, .int .i64 0, .int .i64 0, .int .i64 0] 30) := ⟨_, rfl⟩
        have c0 : (w4.alloc (.cells #[.int .i64 0, .int .i64 0, .int .i64 0, .int .i64 0] 30)).cell? ⟨w.heap.size, 0, none⟩ = some (.int .i64 n) := (HB5.out.row (r := (w.heap.size, 23, [.int .i64 n, .int .i64 b, .int .i64 room])) (by simp)).cell 0
        have HW5 := Lib.hid hw5
        rw [← hw5] at HB5
        clear hbs hw5
        unfold fileV
        go_wp2_with fail
        rw [← HW5.out]
        refine (HBL.out _).mono ?_; rintro e w6 ⟨rfl, rfl⟩
        clear HW5 c0
        have c0 : w6.cell? ⟨w.heap.size, 0, none⟩ = some (.int .i64 n) := (HB5.out.row (r := (w.heap.size, 23, [.int .i64 n, .int .i64 b, .int .i64 room])) (by simp)).cell 0
        go_wp2_with fail
        refine (HHO.out _).mono ?_; rintro e w7 ⟨rfl, hw7⟩
        subst hw7
        rw [h0]
        have HE := Lib.hid HB5.out.bel
        clear hnw HBL HHO HH254 HWA h0
        go_wp2
        go_ret
        exact ⟨rfl, HE.out⟩
      · have h0 : holdsI n a1 ≠ 0 := HWA.out.1 hwa
        rw [HAR.out, HDZ.out] at hlt
        have HB5 := Lib.hid (hbs.alloc 30 (by decide) #[.int .i64 0, .int .i64 0, .int .i64 0, .int .i64 0])
        obtain ⟨w5, hw5⟩ : ∃ w5, w5 = w4.alloc (.cells #[.int .i64 0, .int .i64 0, .int .i64 0, .int .i64 0] 30) := ⟨_, rfl⟩
        have c0 : (w4.alloc (.cells #[.int .i64 0, .int .i64 0, .int .i64 0, .int .i64 0] 30)).cell? ⟨w.heap.size, 0, none⟩ = some (.int .i64 n) := (HB5.out.row (r := (w.heap.size, 23, [.int .i64 n, .int .i64 b, .int .i64 room])) (by simp)).cell 0
        have HW5 := Lib.hid hw5
        rw [← hw5] at HB5
        clear hbs hw5
        unfold fileV
        go_wp2_with fail
        rw [← HW5.out]
        refine (HBL.out _).mono ?_; rintro e w6 ⟨rfl, rfl⟩
        clear HW5 c0
        have c0 : w6.cell? ⟨w.heap.size, 0, none⟩ = some (.int .i64 n) := (HB5.out.row (r := (w.heap.size, 23, [.int .i64 n, .int .i64 b, .int .i64 room])) (by simp)).cell 0
        go_wp2_with fail
        refine (HHO.out _).mono ?_; rintro e w7 ⟨rfl, hw7⟩
        subst hw7
        have g0 : ((holdsI n a1 : Int) == 0) = false := by simp; omega
        have g1 : decide (room < (n : Int)) = true := by simp; omega
        have HSUM : Hid (sumB (placeF n b room).S.fr = b) := newsp_sum b
        generalize holdsI n a1 = hh at *
        generalize hST : Base w p (placeF n b room) 0 [(w4.heap.size, 30, [.int .i64 0, .int .i64 0, .int .i64 0, .int .i64 0]), (w.heap.size, 23, [.int .i64 n, .int .i64 b, .int .i64 room])] = ST at *
        replace hST := Lib.hid hST
        have K0 : Hid (∀ W, ST W → W.cell? ⟨w.heap.size, 0, none⟩ = some (.int .i64 n) ∧ W.cell? ⟨w.heap.size, 1, none⟩ = some (.int .i64 b) ∧ W.cell? ⟨w.heap.size, 2, none⟩ = some (.int .i64 room)) := fun W h => by
          rw [← hST.out] at h
          have r := h.row (r := (w.heap.size, 23, [.int .i64 n, .int .i64 b, .int .i64 room])) (by simp)
          exact ⟨r.cell 0, r.cell 1, r.cell 2⟩
        have CSP : Hid (∀ W, ST W → Calls Try.prog 14 #[.pointer (some ⟨p.w, 0, none⟩)] W fun e w' => e = .returned (.pointer (some ⟨p.s, 0, none⟩)) ∧ ST w') := fun W h => by
          rw [← hST.out] at h
          rw [← hST.out]
          have := base_space h
          exact this
        have CFR : Hid (∀ W, ST W → Calls Try.prog 15 #[.pointer (some ⟨p.s, 0, none⟩)] W fun e w' => e = .returned (.int .i64 b) ∧ ST w') := fun W h => by
          rw [← hST.out] at h
          rw [← hST.out]
          have := base_free h
          rw [HSUM.out] at this
          exact this
        have KE : Hid (∀ W, ST W → Below w.heap.size w W) := fun W h => by rw [← hST.out] at h; exact h.bel
        have hb7 : ST w7 := HB5.out
        have hd : ST w7.drew := by
          have h := hb7
          rw [← hST.out] at h ⊢; exact h.below (below_drew (Below.refl _ _))
        obtain ⟨_, _, c2⟩ := K0.out _ hb7
        clear hwa hlt h0
        go_wp2
        go_region_held3 (fun W => W.cell? ⟨w.heap.size, 0, none⟩ = some (.int .i64 n) ∧ W.cell? ⟨w.heap.size, 1, none⟩ = some (.int .i64 b) ∧ W.cell? ⟨w.heap.size, 2, none⟩ = some (.int .i64 room)) (first | with_reducible exact K0.out _ (by assumption))
          (first
            | (go_at_call 14; first | ((with_reducible refine (CSP.out _ (by assumption)).mono ?_); rintro e w8 ⟨rfl, h8⟩))
            | (go_at_call 15; first | ((with_reducible refine (CFR.out _ (by assumption)).mono ?_); rintro e w9 ⟨rfl, h9⟩)))
        have HE := Lib.hid (KE.out _ h9)
        clear h8 h9 hd
        go_wp2
        go_ret
        exact ⟨rfl, HE.out⟩
      · have h0 : holdsI n a1 ≠ 0 := HWA.out.1 hwa
        rw [HAR.out, HDZ.out] at hge
        have hnb : b < blocksN (holdsI n a1) len2 := by
          apply Nat.lt_of_not_le
          intro hle
          rw [HLEN.out] at hnr
          exact hnr 0 (newsp_room hle)
        have hbr : blocksR (holdsI n a1) len2 = blocksN (holdsI n a1) len2 := by unfold blocksR; rw [if_neg h0]
        rw [hbr] at HBL
        have hnbl : blocksN (holdsI n a1) len2 ≤ 500 := Nat.le_trans (blocks_le _ _) (by omega)
        clear hnp hnr hbr
        generalize blocksN (holdsI n a1) len2 = nb at *
        have HB5 := Lib.hid (hbs.alloc 30 (by decide) #[.int .i64 0, .int .i64 0, .int .i64 0, .int .i64 0])
        obtain ⟨w5, hw5⟩ : ∃ w5, w5 = w4.alloc (.cells #[.int .i64 0, .int .i64 0, .int .i64 0, .int .i64 0] 30) := ⟨_, rfl⟩
        have c0 : (w4.alloc (.cells #[.int .i64 0, .int .i64 0, .int .i64 0, .int .i64 0] 30)).cell? ⟨w.heap.size, 0, none⟩ = some (.int .i64 n) := (HB5.out.row (r := (w.heap.size, 23, [.int .i64 n, .int .i64 b, .int .i64 room])) (by simp)).cell 0
        have HW5 := Lib.hid hw5
        rw [← hw5] at HB5
        clear hbs hw5
        unfold fileV
        go_wp2_with fail
        rw [← HW5.out]
        refine (HBL.out _).mono ?_; rintro e w6 ⟨rfl, rfl⟩
        clear HW5 c0
        have c0 : w6.cell? ⟨w.heap.size, 0, none⟩ = some (.int .i64 n) := (HB5.out.row (r := (w.heap.size, 23, [.int .i64 n, .int .i64 b, .int .i64 room])) (by simp)).cell 0
        go_wp2_with fail
        refine (HHO.out _).mono ?_; rintro e w7 ⟨rfl, hw7⟩
        subst hw7
        have g0 : ((holdsI n a1 : Int) == 0) = false := by simp; omega
        have g1 : decide (room < (n : Int)) = false := by simp; omega
        have g2 : decide ((nb : Int) > (b : Int)) = true := by simp; omega
        have g3 : decide ((b : Int) < (nb : Int)) = true := by simp; omega
        have g4 : (b : Int) < (nb : Int) := by omega
        generalize holdsI n a1 = hh at *
        generalize hST : Base w p (placeF n b room) 0 [(w4.heap.size, 30, [.int .i64 0, .int .i64 0, .int .i64 0, .int .i64 0]), (w.heap.size, 23, [.int .i64 n, .int .i64 b, .int .i64 room])] = ST at *
        replace hST := Lib.hid hST
        have K0 : Hid (∀ W, ST W → W.cell? ⟨w.heap.size, 0, none⟩ = some (.int .i64 n) ∧ W.cell? ⟨w.heap.size, 1, none⟩ = some (.int .i64 b) ∧ W.cell? ⟨w.heap.size, 2, none⟩ = some (.int .i64 room)) := fun W h => by
          rw [← hST.out] at h
          have r := h.row (r := (w.heap.size, 23, [.int .i64 n, .int .i64 b, .int .i64 room])) (by simp)
          exact ⟨r.cell 0, r.cell 1, r.cell 2⟩
        have CAR : Hid (∀ W, ST W → Calls Try.prog 16 #[.pointer (some ⟨p.w, 0, none⟩)] W fun e w' => e = .returned (.pointer (some ⟨p.a, 0, none⟩)) ∧ ST w') := fun W h => by
          rw [← hST.out] at h
          rw [← hST.out]
          have := base_arena h
          exact this
        have CUS : Hid (∀ W, ST W → Calls Try.prog 17 #[.pointer (some ⟨p.a, 0, none⟩)] W fun e w' => e = .returned (.int .i64 0) ∧ ST w') := fun W h => by
          rw [← hST.out] at h
          rw [← hST.out]
          have := base_used h
          exact this
        have KE : Hid (∀ W, ST W → Below w.heap.size w W) := fun W h => by rw [← hST.out] at h; exact h.bel
        have hb7 : ST w7 := HB5.out
        obtain ⟨_, c1, c2⟩ := K0.out _ hb7
        clear hwa hge h0
        go_wp2_with fail
        refine (CAR.out _ hb7).mono ?_; rintro e w8 ⟨rfl, h8⟩
        have H8 := Lib.hid h8
        clear h8
        go_wp2_with fail
        refine (CUS.out _ H8.out).mono ?_; rintro e w9 ⟨rfl, h9⟩
        have HE := Lib.hid (KE.out _ h9)
        clear h9
        go_wp2
        go_ret
        exact ⟨rfl, HE.out⟩
    · obtain ⟨hwa, hrr, htk, hth, htbl, htt, hf2, hqb⟩ := htop
      have HFT : Hid (t.first = 0 ∧ t.blocks ≤ b) := newsp_taken (n := b) htt
      have h0 : holdsI n a1 ≠ 0 := HWA.out.1 hwa
      rw [HAR.out, HDZ.out] at hrr
      have e1 : blocksR (holdsI n a1) len2 = t.blocks := by
        unfold blocksR; rw [if_neg h0, htbl, hth, HLEN.out]; rfl
      rw [e1] at HBL
      have e2 : t.h = holdsI n a1 := hth
      have hbb := HFT.out.2
      obtain ⟨k, hkk⟩ : ∃ k, k = t.k := ⟨_, rfl⟩
      rw [← hkk] at htk
      have hk5 : 0 < k ∧ k ≤ 5 := by
        obtain ⟨k', e3, e4, e5, _⟩ := holds_pos h0
        omega
      subst htk
      have HALL : Hid (l2.all (fitsT k) = false) := by
        obtain ⟨u, hu, hf⟩ := hun
        rw [← hkk] at hf
        unfold Hid
        rw [List.all_eq_false]
        exact ⟨u, hu, by rw [hf]; simp⟩
      have HRA := Lib.hid (fun W (h : ReadsT W W.heap.size a2 len2 l2) => rall_any a2 len2 cap2 l2 k W h hk5.2 WM.out)
      clear hun
      have g0 : ((holdsI n k : Int) == 0) = false := by simp; omega
      have g1 : decide (room < (n : Int)) = false := by simp; omega
      have g2 : decide ((t.blocks : Int) > (b : Int)) = false := by simp; omega
      have HSUM : Hid (sumB (LayE (placeF n b room) (placeF n b room).S t.b D').S.fr = b) := newsp_sum b
      have HUS : Hid ((LayE (placeF n b room) (placeF n b room).S t.b D').A.used = 0) := layE_used _ _ _ _
      have hblk : t.blocks ≤ 5000 := by omega
      clear hwa hrr h0 htbl htt hf2 hqb hth hkk e1 e2 hD
      generalize t.blocks = nb at *
      generalize holdsI n k = hh at *
      have HB5 := Lib.hid (hbs.alloc 30 (by decide) #[.int .i64 0, .int .i64 0, .int .i64 0, .int .i64 0])
      obtain ⟨w5, hw5⟩ : ∃ w5, w5 = w4.alloc (.cells #[.int .i64 0, .int .i64 0, .int .i64 0, .int .i64 0] 30) := ⟨_, rfl⟩
      have c0 : (w4.alloc (.cells #[.int .i64 0, .int .i64 0, .int .i64 0, .int .i64 0] 30)).cell? ⟨w.heap.size, 0, none⟩ = some (.int .i64 n) := (HB5.out.row (r := (w.heap.size, 23, [.int .i64 n, .int .i64 b, .int .i64 room])) (by simp)).cell 0
      have HW5 := Lib.hid hw5
      rw [← hw5] at HB5
      clear hbs hw5
      unfold fileV
      go_wp2_with fail
      rw [← HW5.out]
      refine (HBL.out _).mono ?_; rintro e w6 ⟨rfl, rfl⟩
      clear HW5 c0
      have c0 : w6.cell? ⟨w.heap.size, 0, none⟩ = some (.int .i64 n) := (HB5.out.row (r := (w.heap.size, 23, [.int .i64 n, .int .i64 b, .int .i64 room])) (by simp)).cell 0
      go_wp2_with fail
      refine (HHO.out _).mono ?_; rintro e w7 ⟨rfl, hw7⟩
      subst hw7

      generalize hST : Base w p (LayE (placeF n b room) (placeF n b room).S t.b D') (0 + l2.length + 1) [(w4.heap.size, 30, [.int .i64 0, .int .i64 0, .int .i64 0, .int .i64 0]), (w.heap.size, 23, [.int .i64 n, .int .i64 b, .int .i64 room])] = ST at *
      replace hST := Lib.hid hST
      have K0 : Hid (∀ W, ST W → W.cell? ⟨w.heap.size, 0, none⟩ = some (.int .i64 n) ∧ W.cell? ⟨w.heap.size, 1, none⟩ = some (.int .i64 b) ∧ W.cell? ⟨w.heap.size, 2, none⟩ = some (.int .i64 room)) := fun W h => by
        rw [← hST.out] at h
        have r := h.row (r := (w.heap.size, 23, [.int .i64 n, .int .i64 b, .int .i64 room])) (by simp)
        exact ⟨r.cell 0, r.cell 1, r.cell 2⟩
      have CSP : Hid (∀ W, ST W → Calls Try.prog 14 #[.pointer (some ⟨p.w, 0, none⟩)] W fun e w' => e = .returned (.pointer (some ⟨p.s, 0, none⟩)) ∧ ST w') := fun W h => by
        rw [← hST.out] at h
        rw [← hST.out]
        have := base_space h
        exact this
      have CFR : Hid (∀ W, ST W → Calls Try.prog 15 #[.pointer (some ⟨p.s, 0, none⟩)] W fun e w' => e = .returned (.int .i64 b) ∧ ST w') := fun W h => by
        rw [← hST.out] at h
        rw [← hST.out]
        have := base_free h
        rw [HSUM.out] at this
        exact this
      have CAR : Hid (∀ W, ST W → Calls Try.prog 16 #[.pointer (some ⟨p.w, 0, none⟩)] W fun e w' => e = .returned (.pointer (some ⟨p.a, 0, none⟩)) ∧ ST w') := fun W h => by
        rw [← hST.out] at h
        rw [← hST.out]
        have := base_arena h
        exact this
      have CUS : Hid (∀ W, ST W → Calls Try.prog 17 #[.pointer (some ⟨p.a, 0, none⟩)] W fun e w' => e = .returned (.int .i64 0) ∧ ST w') := fun W h => by
        rw [← hST.out] at h
        rw [← hST.out]
        have := base_used h
        rw [HUS.out] at this
        exact this
      have KE : Hid (∀ W, ST W → Below w.heap.size w W) := fun W h => by rw [← hST.out] at h; exact h.bel
      have hb7 : ST w7 := HB5.out
      have HRW := Lib.hid (HRA.out w7 ((HLR.out.keep (KE.out _ hb7)).mono (KE.out _ hb7).size))
      obtain ⟨_, c1, c2⟩ := K0.out _ hb7
      have HSB : Hid (∀ W W', ST W → Below W.heap.size W W' → ST W') := fun W W' h hb => by rw [← hST.out] at h ⊢; exact h.below hb
      clear HRA
      go_wp2_with fail
      refine HRW.out.mono ?_; rintro e w8 ⟨rfl, hb8⟩
      rw [HALL.out]
      have h8 := HSB.out _ _ hb7 hb8
      have hd : ST w8.drew := HSB.out _ _ h8 (below_drew (Below.refl _ _))
      clear hb8 hb7 c0 c1 c2
      go_wp2
      go_region_held3 (fun W => W.cell? ⟨w.heap.size, 0, none⟩ = some (.int .i64 n) ∧ W.cell? ⟨w.heap.size, 1, none⟩ = some (.int .i64 b) ∧ W.cell? ⟨w.heap.size, 2, none⟩ = some (.int .i64 room)) (first | with_reducible exact K0.out _ (by assumption))
        (first
          | (go_at_call 14; first | ((with_reducible refine (CSP.out _ (by assumption)).mono ?_); rintro e w10 ⟨rfl, h10⟩))
          | (go_at_call 15; first | ((with_reducible refine (CFR.out _ (by assumption)).mono ?_); rintro e w11 ⟨rfl, h11⟩))
          | (go_at_call 16; first | ((with_reducible refine (CAR.out _ (by assumption)).mono ?_); rintro e w12 ⟨rfl, h12⟩))
          | (go_at_call 17; first | ((with_reducible refine (CUS.out _ (by assumption)).mono ?_); rintro e w13 ⟨rfl, h13⟩)))
      have HE := Lib.hid (KE.out _ h11)
      clear h8 h10 h11 h12 h13 hd
      go_wp2
      go_ret
      exact ⟨rfl, HE.out⟩
    · have hc : Calm D1 := d1.calm (fresh_calm _ _)
      have hin := d3 (taken_range HSOK.out htop.2.2.2.2.2.1 HIN.out)
      rw [d2, write_ok hc hin d4] at hne
      exact absurd rfl hne
    · obtain ⟨hwa, hrr, htk, hth, htbl, htt, hf2, hqb⟩ := htop
      have HFT : Hid (t.first = 0 ∧ t.blocks ≤ b) := newsp_taken (n := b) htt
      have h0 : holdsI n a1 ≠ 0 := HWA.out.1 hwa
      rw [HAR.out, HDZ.out] at hrr
      have e1 : blocksR (holdsI n a1) len2 = t.blocks := by
        unfold blocksR; rw [if_neg h0, htbl, hth, HLEN.out]; rfl
      rw [e1] at HBL
      have e2 : t.h = holdsI n a1 := hth
      have hbb := HFT.out.2
      obtain ⟨k, hkk⟩ : ∃ k, k = t.k := ⟨_, rfl⟩
      rw [← hkk] at htk
      have hk5 : 0 < k ∧ k ≤ 5 := by
        obtain ⟨k', e3, e4, e5, _⟩ := holds_pos h0
        omega
      subst htk
      have HALL : Hid (l2.all (fitsT k) = true) := by
        unfold Hid
        rw [List.all_eq_true]
        intro u hu
        rw [hkk]; exact hall u hu
      have HRA := Lib.hid (fun W (h : ReadsT W W.heap.size a2 len2 l2) => rall_any a2 len2 cap2 l2 k W h hk5.2 WM.out)
      have hne0 : ¬ l2.all (fitsT k) = false := by rw [HALL.out]; simp
      have HLIST : Hid (∀ rs W, Base w p (LayE (placeF n b room) S1 t.b D') (0 + len2 + 1) rs W → Calls Try.prog 19 #[.pointer (some ⟨p.w, 0, none⟩), .agg #[.int .i64 0, .int .i64 t.blocks, .int .i64 k, .int .i64 len2]] W fun e w' => ∃ A c b2 D2, e = .returned (.tuple #[.slice A len2 c, .int .i64 0]) ∧ ReadsT w' w'.heap.size A len2 l2 ∧ Base w p (LayE (LayE (placeF n b room) S1 t.b D') S1 b2 D2) (0 + len2 + 1 + len2 + 1) rs w') := fun rs W h => by
        have hsz : (LayE (placeF n b room) S1 t.b D').D.size = n := hD.size
        have h1 := base_list h k t.h 0 t.blocks l2 hk5 (by rw [hsz]; exact e2) (by rw [e2]; omega) htbl (by rw [HLEN.out]; omega) (by omega) (by rw [HLEN.out]; omega) (by have := hst; rw [HFT.out.1, ← hkk] at this; exact this) (fun u hu => ⟨HLR.out.2.1 u hu, by rw [hkk]; exact hall u hu⟩) (by rw [layE_used, layE_room]; show D'.size ≤ _; rw [hD.size, HDZ.out, HAR.out]; exact hrr)
        rw [HLEN.out] at h1
        refine h1.mono ?_
        rintro e w' (⟨A, c, b2, D2, he, hr, hw2, _, _, hb⟩ | ⟨er, b2, m, D1, i, he, hne, hw2, e5, e6, _, hb⟩)
        · rw [HLEN.out] at he hr hb
          exact ⟨A, c, b2, D2, he, hr, hb⟩
        · have hc : Calm D1 := hw2.calm (hD.calm (fresh_calm _ _))
          have hin := e6 (by
            show ((0 + t.blocks : Nat) : Int) ≤ D'.blocks
            rw [hD.blocks]
            show ((0 + t.blocks : Nat) : Int) ≤ (b : Int)
            omega)
          rw [e5, read_ok hc hin] at hne
          exact absurd rfl hne
      have HGV : Hid ((if t.blocks = 0 then 0 else (giveS S1 (0 : Nat) t.blocks).2) = 0) := by
        have := taken_code HSOK.out htt
        rw [HFT.out.1] at this; exact this
      have HGS : Hid (giveN S1 0 t.blocks = (placeF n b room).S) := by
        have := taken_give HSOK.out htt
        rw [HFT.out.1] at this; exact this
      have HS1 : Hid (sumB S1.fr = b - t.blocks) := by
        have h1 := taken_sum htt
        have h2 : sumB (placeF n b room).S.fr = b := newsp_sum b
        rw [h2] at h1
        unfold Hid; omega
      have HPK : Hid (∀ b2 D2, (LayE (LayE (placeF n b room) S1 t.b D') S1 b2 D2).A.peak = n ∧ (LayE (LayE (placeF n b room) S1 t.b D') S1 b2 D2).A.used = 0) := fun b2 D2 => by
        have e8 : (LayE (placeF n b room) S1 t.b D').D.size = n := hD.size
        have e9 : (LayE (placeF n b room) S1 t.b D').A.used = 0 := layE_used _ _ _ _
        have e10 : (LayE (placeF n b room) S1 t.b D').A.peak = n := by
          rw [layE_peak]
          show (if 0 < 0 + n then 0 + n else 0) = n
          rw [if_pos (by omega)]; omega
        refine ⟨?_, by rw [layE_used]; exact e9⟩
        rw [layE_peak, e8, e9, e10]
        rw [if_neg (by omega)]
      rw [HLEN.out] at hbs
      unfold fileV
      rw [HFT.out.1, ← hkk, HLEN.out]
      have z0 : ((0 : Nat) : Int) = 0 := rfl
      rw [z0]
      clear z0
      have hblk : t.blocks ≤ 5000 := by omega
      have g0 : ((holdsI n k : Int) == 0) = false := by simp; omega
      have g1 : decide (room < (n : Int)) = false := by simp; omega
      have g2 : decide ((t.blocks : Int) > (b : Int)) = false := by simp; omega
      clear h0
      clear hwa hrr htbl htt hf2 hqb hth hkk e1 e2 hD hall hst
      generalize t.blocks = nb at *
      generalize holdsI n k = hh at *
      have HB5 := Lib.hid (hbs.alloc 30 (by decide) #[.int .i64 0, .int .i64 nb, .int .i64 k, .int .i64 len2])
      obtain ⟨w5, hw5⟩ : ∃ w5, w5 = w4.alloc (.cells #[.int .i64 0, .int .i64 nb, .int .i64 k, .int .i64 len2] 30) := ⟨_, rfl⟩
      have c0 : (w4.alloc (.cells #[.int .i64 0, .int .i64 nb, .int .i64 k, .int .i64 len2] 30)).cell? ⟨w.heap.size, 0, none⟩ = some (.int .i64 n) := (HB5.out.row (r := (w.heap.size, 23, [.int .i64 n, .int .i64 b, .int .i64 room])) (by simp)).cell 0
      have HW5 := Lib.hid hw5
      rw [← hw5] at HB5
      clear hbs hw5
      go_wp2_with fail
      rw [← HW5.out]
      refine (HBL.out _).mono ?_; rintro e w6 ⟨rfl, rfl⟩
      clear HW5 c0
      have c0 : w6.cell? ⟨w.heap.size, 0, none⟩ = some (.int .i64 n) := (HB5.out.row (r := (w.heap.size, 23, [.int .i64 n, .int .i64 b, .int .i64 room])) (by simp)).cell 0
      go_wp2_with fail
      refine (HHO.out _).mono ?_; rintro e w7 ⟨rfl, hw7⟩
      subst hw7
      generalize hST1 : Base w p (LayE (placeF n b room) S1 t.b D') (0 + len2 + 1) [(w4.heap.size, 30, [.int .i64 0, .int .i64 nb, .int .i64 k, .int .i64 len2]), (w.heap.size, 23, [.int .i64 n, .int .i64 b, .int .i64 room])] = ST1 at *
      replace hST1 := Lib.hid hST1
      have K1 : Hid (∀ W, ST1 W → W.cell? ⟨w.heap.size, 0, none⟩ = some (.int .i64 n) ∧ W.cell? ⟨w.heap.size, 1, none⟩ = some (.int .i64 b) ∧ W.cell? ⟨w.heap.size, 2, none⟩ = some (.int .i64 room) ∧ W.cell? ⟨w4.heap.size, 0, none⟩ = some (.int .i64 0) ∧ W.cell? ⟨w4.heap.size, 1, none⟩ = some (.int .i64 nb) ∧ W.cell? ⟨w4.heap.size, 2, none⟩ = some (.int .i64 k) ∧ W.cell? ⟨w4.heap.size, 3, none⟩ = some (.int .i64 len2)) := fun W h => by
        rw [← hST1.out] at h
        have r := h.row (r := (w.heap.size, 23, [.int .i64 n, .int .i64 b, .int .i64 room])) (by simp)
        have r2 := h.row (r := (w4.heap.size, 30, [.int .i64 0, .int .i64 nb, .int .i64 k, .int .i64 len2])) (by simp)
        exact ⟨r.cell 0, r.cell 1, r.cell 2, r2.cell 0, r2.cell 1, r2.cell 2, r2.cell 3⟩
      have KE1 : Hid (∀ W, ST1 W → Below w.heap.size w W) := fun W h => by rw [← hST1.out] at h; exact h.bel
      have hb7 : ST1 w7 := HB5.out
      have HRW := Lib.hid (HRA.out w7 ((HLR.out.keep (KE1.out _ hb7)).mono (KE1.out _ hb7).size))
      have HSB : Hid (∀ W W', ST1 W → Below W.heap.size W W' → ST1 W') := fun W W' h hb => by rw [← hST1.out] at h ⊢; exact h.below hb
      have HLI : Hid (∀ W, ST1 W → Calls Try.prog 19 #[.pointer (some ⟨p.w, 0, none⟩), .agg #[.int .i64 0, .int .i64 nb, .int .i64 k, .int .i64 len2]] W fun e w' => ∃ A c b2 D2, e = .returned (.tuple #[.slice A len2 c, .int .i64 0]) ∧ ReadsT w' w'.heap.size A len2 l2 ∧ Base w p (LayE (LayE (placeF n b room) S1 t.b D') S1 b2 D2) (0 + len2 + 1 + len2 + 1) [(w4.heap.size, 30, #[.int .i64 0, .int .i64 nb, .int .i64 k, .int .i64 len2].toList), (w.heap.size, 23, [.int .i64 n, .int .i64 b, .int .i64 room])] w') := fun W h => HLIST.out _ W (by rw [← hST1.out] at h; exact h)
      obtain ⟨_, c1, c2, _⟩ := K1.out _ hb7
      clear HLIST HRA HLAY HBL HHO HB5
      go_wp2_with fail
      refine HRW.out.mono ?_; rintro e w8 ⟨rfl, hb8⟩
      rw [HALL.out]
      have h8 := HSB.out _ _ hb7 hb8
      obtain ⟨d0, d1, d2, f0, f1, f2, f3⟩ := K1.out _ h8
      have HL8 := Lib.hid (HLI.out _ h8)
      clear hb8 hb7 h8 c0 c1 c2 HRW
      go_wp2_with fail
      refine HL8.out.mono ?_
      rintro e w9 ⟨A, cA, b2, D2, rfl, hra, hb9⟩
      have HB9 := Lib.hid hb9
      have HSM := Lib.hid (rsame_any A a2 len2 len2 cA cap2 l2 l2 w9 hra ((HLR.out.keep hb9.bel).mono hb9.size) WM.out WM.out)
      clear hb9 hra d0 d1 d2 f0 f1 f2 f3 HL8
      obtain ⟨hpk, hus⟩ := HPK.out b2 D2
      generalize hST : Base w p (LayE (LayE (placeF n b room) S1 t.b D') S1 b2 D2) (0 + len2 + 1 + len2 + 1) [(w4.heap.size, 30, [.int .i64 0, .int .i64 nb, .int .i64 k, .int .i64 len2]), (w.heap.size, 23, [.int .i64 n, .int .i64 b, .int .i64 room])] = ST at *
      replace hST := Lib.hid hST
      generalize hSU : Base w p { LayE (LayE (placeF n b room) S1 t.b D') S1 b2 D2 with S := (placeF n b room).S } (0 + len2 + 1 + len2 + 1) [(w4.heap.size, 30, [.int .i64 0, .int .i64 nb, .int .i64 k, .int .i64 len2]), (w.heap.size, 23, [.int .i64 n, .int .i64 b, .int .i64 room])] = SU at *
      replace hSU := Lib.hid hSU
      have HPU := Lib.hid hpk
      have HUS := Lib.hid hus
      have HSM0 : Hid (sumB (placeF n b room).S.fr = b) := newsp_sum b
      clear hpk hus
      obtain ⟨rs, hrs⟩ : ∃ rs, rs = b - nb := ⟨_, rfl⟩
      rw [← hrs] at HS1
      have hsb : (b : Int) - (nb : Int) = (rs : Int) := by omega
      have hrb : rs ≤ 5000 := by omega
      clear hrs
      have K0 : Hid (∀ W, ST W → W.cell? ⟨w.heap.size, 0, none⟩ = some (.int .i64 n) ∧ W.cell? ⟨w.heap.size, 1, none⟩ = some (.int .i64 b) ∧ W.cell? ⟨w.heap.size, 2, none⟩ = some (.int .i64 room) ∧ W.cell? ⟨w4.heap.size, 0, none⟩ = some (.int .i64 0) ∧ W.cell? ⟨w4.heap.size, 1, none⟩ = some (.int .i64 nb) ∧ W.cell? ⟨w4.heap.size, 2, none⟩ = some (.int .i64 k) ∧ W.cell? ⟨w4.heap.size, 3, none⟩ = some (.int .i64 len2)) := fun W h => by
        rw [← hST.out] at h
        have r := h.row (r := (w.heap.size, 23, [.int .i64 n, .int .i64 b, .int .i64 room])) (by simp)
        have r2 := h.row (r := (w4.heap.size, 30, [.int .i64 0, .int .i64 nb, .int .i64 k, .int .i64 len2])) (by simp)
        exact ⟨r.cell 0, r.cell 1, r.cell 2, r2.cell 0, r2.cell 1, r2.cell 2, r2.cell 3⟩
      have K2 : Hid (∀ W, SU W → W.cell? ⟨w.heap.size, 0, none⟩ = some (.int .i64 n) ∧ W.cell? ⟨w.heap.size, 1, none⟩ = some (.int .i64 b) ∧ W.cell? ⟨w.heap.size, 2, none⟩ = some (.int .i64 room) ∧ W.cell? ⟨w4.heap.size, 0, none⟩ = some (.int .i64 0) ∧ W.cell? ⟨w4.heap.size, 1, none⟩ = some (.int .i64 nb) ∧ W.cell? ⟨w4.heap.size, 2, none⟩ = some (.int .i64 k) ∧ W.cell? ⟨w4.heap.size, 3, none⟩ = some (.int .i64 len2)) := fun W h => by
        rw [← hSU.out] at h
        have r := h.row (r := (w.heap.size, 23, [.int .i64 n, .int .i64 b, .int .i64 room])) (by simp)
        have r2 := h.row (r := (w4.heap.size, 30, [.int .i64 0, .int .i64 nb, .int .i64 k, .int .i64 len2])) (by simp)
        exact ⟨r.cell 0, r.cell 1, r.cell 2, r2.cell 0, r2.cell 1, r2.cell 2, r2.cell 3⟩
      have KE : Hid (∀ W, SU W → Below w.heap.size w W) := fun W h => by rw [← hSU.out] at h; exact h.bel
      have CSP : Hid (∀ W, ST W → Calls Try.prog 14 #[.pointer (some ⟨p.w, 0, none⟩)] W fun e w' => e = .returned (.pointer (some ⟨p.s, 0, none⟩)) ∧ ST w') := fun W h => by
        rw [← hST.out] at h
        rw [← hST.out]
        have := base_space h
        exact this
      have CFR : Hid (∀ W, ST W → Calls Try.prog 15 #[.pointer (some ⟨p.s, 0, none⟩)] W fun e w' => e = .returned (.int .i64 rs) ∧ ST w') := fun W h => by
        rw [← hST.out] at h
        rw [← hST.out]
        have := base_free h
        rw [show sumB (LayE (LayE (placeF n b room) S1 t.b D') S1 b2 D2).S.fr = rs from HS1.out] at this
        exact this
      have CAR : Hid (∀ W, ST W → Calls Try.prog 16 #[.pointer (some ⟨p.w, 0, none⟩)] W fun e w' => e = .returned (.pointer (some ⟨p.a, 0, none⟩)) ∧ ST w') := fun W h => by
        rw [← hST.out] at h
        rw [← hST.out]
        have := base_arena h
        exact this
      have CUS : Hid (∀ W, ST W → Calls Try.prog 17 #[.pointer (some ⟨p.a, 0, none⟩)] W fun e w' => e = .returned (.int .i64 0) ∧ ST w') := fun W h => by
        rw [← hST.out] at h
        rw [← hST.out]
        have := base_used h
        rw [HUS.out] at this
        exact this
      have CPK : Hid (∀ W, ST W → Calls Try.prog 21 #[.pointer (some ⟨p.a, 0, none⟩)] W fun e w' => e = .returned (.int .i64 n) ∧ ST w') := fun W h => by
        rw [← hST.out] at h
        rw [← hST.out]
        have := base_peak h
        rw [HPU.out] at this
        exact this
      have CSP2 : Hid (∀ W, SU W → Calls Try.prog 14 #[.pointer (some ⟨p.w, 0, none⟩)] W fun e w' => e = .returned (.pointer (some ⟨p.s, 0, none⟩)) ∧ SU w') := fun W h => by
        rw [← hSU.out] at h
        rw [← hSU.out]
        have := base_space h
        exact this
      have CFR2 : Hid (∀ W, SU W → Calls Try.prog 15 #[.pointer (some ⟨p.s, 0, none⟩)] W fun e w' => e = .returned (.int .i64 b) ∧ SU w') := fun W h => by
        rw [← hSU.out] at h
        rw [← hSU.out]
        have := base_free h
        rw [show sumB ({ LayE (LayE (placeF n b room) S1 t.b D') S1 b2 D2 with S := (placeF n b room).S } : Fs).S.fr = b from HSM0.out] at this
        exact this
      have CFF : Hid (∀ W, ST W → Calls Try.prog 22 #[.pointer (some ⟨p.w, 0, none⟩), .agg #[.int .i64 0, .int .i64 nb, .int .i64 k, .int .i64 len2]] W fun e w' => e = .returned (.int .i64 0) ∧ SU w') := fun W h => by
        rw [← hST.out] at h
        rw [← hSU.out]
        have := base_ffree h 0 nb k len2 (by omega) (by omega)
        rw [show (if nb = 0 then 0 else (giveS (LayE (LayE (placeF n b room) S1 t.b D') S1 b2 D2).S (0 : Nat) nb).2) = 0 from HGV.out, show giveN (LayE (LayE (placeF n b room) S1 t.b D') S1 b2 D2).S 0 nb = (placeF n b room).S from HGS.out] at this
        exact this
      have hb9 : ST w9 := HB9.out
      obtain ⟨d0, d1, d2, f0, f1, f2, f3⟩ := K0.out _ hb9
      have hq := fun W => neq_file W 0 nb k len2
      have hg := fun W op x y xs ys => guard_file W op x y xs ys
      have HSB2 : Hid (∀ W W', ST W → Below W.heap.size W W' → ST W') := fun W W' h hb => by rw [← hST.out] at h ⊢; exact h.below hb
      clear HSB KE1 HLI K1 HB9 HGV HGS HS1 HPK HALL
      go_wp2_with fail
      refine HSM.out.mono ?_
      rintro e w10 ⟨rfl, hq10⟩
      have hb10 : Below w9.heap.size w9 w10 := by obtain ⟨q, rfl⟩ := hq10; exact below_drewN (Below.refl _ _) q
      clear hq10
      simp only [decide_true]
      have h10 := HSB2.out _ _ hb9 hb10
      have hd : ST w10.drew := HSB2.out _ _ h10 (below_drew (Below.refl _ _))
      clear hb9 h10 hb10 d0 d1 d2 f0 f1 f2 f3 hq hg HSM
      go_wp2
      have hwr : IntKind.i64.wrap (rs : Int) = (rs : Int) := IntWalk.i64_in _ (by clear hsb; omega)
      go_region_held3 (fun W => W.cell? ⟨w.heap.size, 0, none⟩ = some (.int .i64 n) ∧ W.cell? ⟨w.heap.size, 1, none⟩ = some (.int .i64 b) ∧ W.cell? ⟨w.heap.size, 2, none⟩ = some (.int .i64 room) ∧ W.cell? ⟨w4.heap.size, 0, none⟩ = some (.int .i64 0) ∧ W.cell? ⟨w4.heap.size, 1, none⟩ = some (.int .i64 nb) ∧ W.cell? ⟨w4.heap.size, 2, none⟩ = some (.int .i64 k) ∧ W.cell? ⟨w4.heap.size, 3, none⟩ = some (.int .i64 len2)) (first | with_reducible exact K0.out _ (by assumption) | with_reducible exact K2.out _ (by assumption))
        (first
          | (go_at_call 14; first | ((with_reducible refine (CSP2.out _ (by assumption)).mono ?_); rintro e w11 ⟨rfl, h11⟩) | ((with_reducible refine (CSP.out _ (by assumption)).mono ?_); rintro e w11 ⟨rfl, h11⟩))
          | (go_at_call 15; first | ((with_reducible refine (CFR2.out _ (by assumption)).mono ?_); rintro e w12 ⟨rfl, h12⟩) | ((with_reducible refine (CFR.out _ (by assumption)).mono ?_); rintro e w12 ⟨rfl, h12⟩))
          | (go_at_call 16; first | ((with_reducible refine (CAR.out _ (by assumption)).mono ?_); rintro e w13 ⟨rfl, h13⟩))
          | (go_at_call 17; first | ((with_reducible refine (CUS.out _ (by assumption)).mono ?_); rintro e w14 ⟨rfl, h14⟩))
          | (go_at_call 21; first | ((with_reducible refine (CPK.out _ (by assumption)).mono ?_); rintro e w15 ⟨rfl, h15⟩))
          | (go_at_call 22; first | ((with_reducible refine (CFF.out _ (by assumption)).mono ?_); rintro e w16 ⟨rfl, h16⟩)))
      have HE := Lib.hid (KE.out _ h12)
      clear h11 h12 h13 h14 h15 h16 hd
      go_wp2
      go_ret
      exact ⟨rfl, HE.out⟩

set_option maxRecDepth 100000 in
theorem lifted (os : Os) (started : os.Started) (H : Type) (enc : TypeId × Value → H) :
    ReturnsInHanded {} Try.checked os 3 .any (Rows.fileLaysSpec.pre6 enc Try.prog Try.f3 Rows.fileLaysRow.domain false) (Rows.fileLaysSpec.post enc Try.prog Try.f3 false true false false) := by
  refine returnsInHanded_of_change (C := Try.checked) own started (by kernel_rfl) Try.func3
    (ChangeSpec.witness6 (enc := enc) (C := Try.checked) false ⟨#[], #[.agg #[.int .i64 0, .int .i64 0, .int .i64 0], .int .i64 0, .slice none 0 0], []⟩ 8 (by kernel_rfl) (by kernel_rfl) (by kernel_rfl) (by kernel_rfl)) ?_
  intro W base args ds gs before hval0 hW hcnd _
  have hval : ∀ (j : Nat) t v, Try.f3.params[j]? = some t → args[j]? = some v → Value.okWide Try.prog W .any base t v := hval0
  have hW' := hW
  obtain ⟨p, q, hA0, hV, rfl, hfz, hnd⟩ := hW
  have hA : DataW.TrodAll enc Try.prog W 0 (fun _ => true) true Try.f3.params.toList args.toList ds p := hA0
  rw [Try.params3] at hA hval
  obtain ⟨v0, vs0, d0, ds0, p0, q0, hargs, rfl, rfl, h0, r0⟩ := trodAll_cons hA
  obtain ⟨v1, vs1, d1, ds1, p1, q1, rfl, rfl, rfl, h1, r1⟩ := trodAll_cons r0
  obtain ⟨v2, vs2, d2, ds2, p2, q2, rfl, rfl, rfl, h2, r2⟩ := trodAll_cons r1
  obtain ⟨rfl, rfl, rfl⟩ := trodAll_nil r2
  obtain rfl : args = #[v0, v1, v2] := by cases args; simp_all
  obtain ⟨rfl, rfl⟩ := trodVars_none hV
  have k0 := h0
  have lt0 : ∀ x ∈ p0, x.block < W.heap.size := by obtain ⟨m, hm⟩ := k0; exact DataW.trod_lt m _ _ _ hm
  have k1 := h1
  have lt1 : ∀ x ∈ p1, x.block < W.heap.size := by obtain ⟨m, hm⟩ := k1; exact DataW.trod_lt m _ _ _ hm
  have k2 := h2
  have lt2 : ∀ x ∈ p2, x.block < W.heap.size := by obtain ⟨m, hm⟩ := k2; exact DataW.trod_lt m _ _ _ hm
  obtain ⟨x0, x1, x2, rfl, y0, y1, y2⟩ := open_struct3 Try.underlying23 (by kernel_rfl) (by kernel_rfl) Try.underlying3 rfl rfl rfl (hval 0 23 v0 rfl rfl) h0
  obtain ⟨a1, rfl, rfl, rfl, w1⟩ := open_int Try.underlying3 (hval 1 3 v1 rfl rfl) h1
  obtain ⟨a2, len2, cap2, rfl⟩ := okWide_slice Try.underlying24 (hval 2 24 v2 rfl rfl)
  obtain ⟨l2, wr2, wm2⟩ : ∃ l2, ReadsT W W.heap.size a2 len2 l2 ∧ len2 ≤ maxLen := by
    obtain ⟨fuel2, hf2⟩ := h2
    obtain ⟨a', len', cap', l', he', hr', hm'⟩ := open_tups Try.underlying24 Try.underlying58 Try.underlying2 (by kernel_rfl) (by kernel_rfl) hf2
    injection he' with e1 e2 e3
    subst e1; subst e2
    exact ⟨l', hr', hm'⟩
  clear hA0 hval0
  refine (walk x0 x1 x2 a1 a2 len2 cap2 l2 W y0 y1 y2 w1 wr2 wm2).mono fun e W' ⟨he, bel⟩ => ?_
  subst he
  exact ⟨_, rfl, _, _, _, [], _, [], hW', trodAll_mk1 (shut_bool Try.underlying4 _), (trodAll_cons_mk (Below.trod laidOut (by kernel_rfl) (of_decide_eq_true (by kernel_rfl)) k0 bel lt0) (trodAll_cons_mk (Below.trod laidOut (by kernel_rfl) (of_decide_eq_true (by kernel_rfl)) k1 bel lt1) (trodAll_cons_mk (Below.trod laidOut (by kernel_rfl) (of_decide_eq_true (by kernel_rfl)) k2 bel lt2) trodAll_mk0))), rfl, bel.frame _, fun h => by cases h⟩

theorem over : Rows.fileLaysRow.holds Try.pinned (OpenSpec.ofChange Rows.fileLaysSpec) :=
  OpenClaim.holds_of_wide 3 Try.f3 rfl rfl rfl rfl rfl rfl rfl ⟨rfl, rfl, rfl, rfl, rfl⟩ rfl rfl rfl rfl rfl (by kernel_rfl) Try.func3 (by kernel_rfl)
    (of_decide_eq_true (by kernel_rfl)) (by unfold Func.isWrapper; first | (rw [if_pos (by decide +kernel)]; kernel_rfl) | (rw [if_neg (by decide +kernel)]; exact ⟨rfl, rfl⟩))
    (fun os started H enc _ => lifted os started H enc)

theorem proved : Rows.FileLaysSaid := over
end Go.Proofs.Ytbkgpilmgllkiaa.fileLays
