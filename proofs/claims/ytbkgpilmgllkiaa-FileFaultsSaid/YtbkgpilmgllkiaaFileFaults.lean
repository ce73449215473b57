/-
  FileFaults: whatever sizes, tuples and fault; no condition.
-/
import Derived.Test.YtbkgpilmgllkiaaRows
import Derived.Test.YtbkgpilmgllkiaaFileBase
import Derived.WalkKit
import Derived.ProofKit
import Derived.OpenShut
import Derived.ShutString
import Derived.ChangeOld
import Derived.Below
namespace Go.Proofs.Ytbkgpilmgllkiaa.fileFaults
open Go.ChangeShapes Go.WideShapes Go.ChangeAt Go.RowKit
open Go.ChangeMaps (open_string shut_string)
set_option linter.unusedVariables false

theorem own : ownKnob Try.prog.godebug = none := by kernel_rfl
theorem laidOut : laidOutB Try.prog = true := by kernel_rfl

theorem eq_file (w : World) (a b c d : Int) : (binOp .eql 30 (.agg #[.int .i64 a, .int .i64 b, .int .i64 c, .int .i64 d]) (.agg #[.int .i64 a, .int .i64 b, .int .i64 c, .int .i64 d])).run Try.prog w = .ok (.bool true) w := by
  have u3 := Try.underlying3
  have hS : Try.prog.underlying 30 = some (.struct (Try.prog.fieldsOf 30)) := by kernel_rfl
  have hp : Try.prog.stoodInHeld 30 = false := by kernel_rfl
  rw [run_eql_struct, show (10000 : Nat) = 9999 + 1 from rfl, run_equalIn_agg w 9999 30 _ _ hS hp]
  simp only [Program.fieldsOf, Try.underlying30]
  go_simp
theorem guard_file (w : World) (op : BinOp) (x y : Operand) (xs ys : Array Value) : (eqGuard op 30 x y (.agg xs) (.agg ys)).run Try.prog w = .ok () w :=
  run_eqGuard_agg w op 30 x y _ _ (by kernel_rfl)
/-- a place with a fault to come -/
def faultF (n u : Nat) : Fs := { placeF n 500 1000 with D := { (fresh n 500) with tb := true, tn := u } }


set_option maxHeartbeats 4000000 in
set_option maxRecDepth 100000 in
theorem walk (a0_0 a0_1 : Int) (a1 : Option Addr) (len1 cap1 : Nat) (l1 : List Tup) (a2 : Int) (w : World) (w0_0 : (Lit.int .u8 a0_0).wf = true) (w0_1 : (Lit.int .u8 a0_1).wf = true) (wr1 : ReadsT w w.heap.size a1 len1 l1) (wm1 : len1 ≤ maxLen) (w2 : (Lit.int .u8 a2).wf = true) :
    Calls Try.prog 5 #[.agg #[.int .u8 a0_0, .int .u8 a0_1], .slice a1 len1 cap1, .int .u8 a2] w fun e w' => e = .returned (.bool true) ∧ Below w.heap.size w w' := by
  have HAWK : Hid (∀ W, Calls Try.prog 10 #[] W fun e w' => e = .returned (.bool true) ∧ Below W.heap.size W w') := fun W => awake_any W
  obtain ⟨u0, rfl⟩ := Int.eq_ofNat_of_zero_le (show 0 ≤ a0_0 by have := bounds_u8 w0_0; omega)
  obtain ⟨u1, rfl⟩ := Int.eq_ofNat_of_zero_le (show 0 ≤ a0_1 by have := bounds_u8 w0_1; omega)
  obtain ⟨u2, rfl⟩ := Int.eq_ofNat_of_zero_le (show 0 ≤ a2 by have := bounds_u8 w2; omega)
  have b0 : u0 ≤ 255 := by have := bounds_u8 w0_0; omega
  have b1 : u1 ≤ 255 := by have := bounds_u8 w0_1; omega
  have b2 : u2 ≤ 255 := by have := bounds_u8 w2; omega
  have hb0 : Below w.heap.size w (w.alloc (.cells #[.int .u8 u0, .int .u8 u1] 64)) := (Below.refl _ _).alloc (Nat.le_refl _) _
  have hr0 : Row (w.alloc (.cells #[.int .u8 u0, .int .u8 u1] 64)) w.heap.size 64 [.int .u8 u0, .int .u8 u1] := heap_alloc_new _ _
  have c0 : (w.alloc (.cells #[.int .u8 u0, .int .u8 u1] 64)).cell? ⟨w.heap.size, 0, none⟩ = some (.int .u8 u0) := hr0.cell 0
  have c1 : (w.alloc (.cells #[.int .u8 u0, .int .u8 u1] 64)).cell? ⟨w.heap.size, 1, none⟩ = some (.int .u8 u1) := hr0.cell 1
  obtain ⟨r0, hr⟩ : ∃ r0, r0 = u0 % 60 := ⟨_, rfl⟩
  obtain ⟨r1, hrr⟩ : ∃ r1, r1 = u1 % 5 := ⟨_, rfl⟩
  have t0 : Int.tmod (u0 : Int) 60 = (r0 : Int) := by rw [hr]; rfl
  have t1 : Int.tmod (u1 : Int) 5 = (r1 : Int) := by rw [hrr]; rfl
  have m0 : (u0 : Int) % 60 = (r0 : Int) := by rw [hr]; rfl
  have m1 : (u1 : Int) % 5 = (r1 : Int) := by rw [hrr]; rfl
  have l0 : r0 < 60 := by rw [hr]; exact Nat.mod_lt _ (by omega)
  have l1' : r1 < 5 := by rw [hrr]; exact Nat.mod_lt _ (by omega)
  obtain ⟨n, hn⟩ : ∃ n, n = 8 + r0 := ⟨_, rfl⟩
  obtain ⟨k, hk⟩ : ∃ k, k = 1 + r1 := ⟨_, rfl⟩
  have s0 : (8 : Int) + (r0 : Int) = (n : Int) := by omega
  have s1 : (1 : Int) + (r1 : Int) = (k : Int) := by omega
  have n8 : 8 ≤ n ∧ n ≤ 67 := by omega
  have k5 : 0 < k ∧ k ≤ 5 := by omega
  have HB0 := Lib.hid hb0
  have HLR := Lib.hid wr1
  have HLEN : Hid (l1.length = len1) := wr1.1
  have hm2 : len1 ≤ 9223372036854775807 := by unfold maxLen at wm1; omega
  have WM := Lib.hid wm1
  have HWK : Hid (∀ W, Calls Try.prog 9 #[.agg #[.int .i64 n, .int .i64 500, .int .i64 1000]] W fun e w' => ∃ p G, e = .returned (.tuple #[.pointer (some ⟨p.w, 0, none⟩), .bool true]) ∧ Sys w' G p (placeF n 500 1000) 0 ∧ (∀ k, G k → W.heap.size ≤ k) ∧ Below W.heap.size W w') := fun W => by
    refine (work_any n 500 1000 W (I64.of (by omega) (by omega)) (I64.of (by omega) (by omega)) (I64.of (by omega) (by omega))).mono ?_
    rintro e w' (⟨hno, _⟩ | ⟨_, h⟩)
    · exact absurd ⟨⟨by omega, by omega⟩, ⟨by omega, by omega⟩, by omega⟩ hno
    · exact h
  have HHP : Hid (holdsI n k ≠ 0) := by
    unfold Hid holdsI
    rw [if_neg (by omega), Int.toNat_natCast]
    have h1 : k ≤ n - 2 := by omega
    have := (Nat.le_div_iff_mul_le k5.1).2 (show 1 * k ≤ n - 2 by omega)
    omega
  clear hr hrr hn hk wr1 wm1 hb0 hr0 w0_0 w0_1 w2
  go_enter Try.func5, Try.ntmps5
  go_wp2
  go_region
  go_wp2_with fail
  refine (HWK.out _).mono ?_
  rintro e w2 ⟨p, G, rfl, hs, hG, hb⟩
  have hB2 : Base w p (placeF n 500 1000) 0 [] w2 := ⟨G, hs, fun k hk => Nat.le_trans HB0.out.size (hG k hk), (below_drew HB0.out).trans (hb.mono HB0.out.size), fun r hr => by cases hr⟩
  have HBASE := Lib.hid hB2
  clear hs hG hb hB2 HWK c0 c1 t0 t1 m0 m1 s0 s1
  go_wp2_with fail
  refine (HAWK.out _).mono ?_; rintro e w3 ⟨rfl, hb⟩
  have HB3 := Lib.hid (HBASE.out.below hb)
  clear hb HBASE
  by_cases h200 : len1 ≤ 200
  case neg =>
    have g5 : decide ((len1 : Int) > 200) = true := by simp; omega
    go_wp2_with fail
    refine (HAWK.out _).mono ?_; rintro e w4 ⟨rfl, hb⟩
    have HB4 := Lib.hid ((HB3.out.below hb).bel)
    clear hb
    go_wp2
    go_ret
    exact ⟨rfl, HB4.out⟩
  case pos =>
  have g5 : decide ((len1 : Int) > 200) = false := by simp; omega
  have HDV := Lib.hid (base_device HB3.out)
  go_wp2_with fail
  refine HDV.out.mono ?_; rintro e w4 ⟨rfl, h4⟩
  have HFA := Lib.hid (base_fault h4 u2 (by omega))
  clear h4 HDV HB3
  go_wp2_with fail
  refine HFA.out.mono ?_; rintro e w5 ⟨rfl, h5⟩
  have HB5 : Hid (Base w p (faultF n u2) 0 [] w5) := h5
  clear h5 HFA
  have HLAY := Lib.hid (base_lay HB5.out (k : Int) (c := cap1) HLR.out (by rw [HLEN.out]; omega))
  have HSOK := Lib.hid HB5.out.sok
  have HIN : Hid ((((faultF n u2).S.first + (faultF n u2).S.blocks : Nat) : Int) ≤ (faultF n u2).D.blocks) := placeF_range n 500 1000 (by omega)
  have HAL : Hid ((faultF n u2).D.down = false ∧ (faultF n u2).D.fb = false) := ⟨rfl, rfl⟩
  have HDZ : Hid ((faultF n u2).D.size = n) := rfl
  have HSM : Hid (sumB (faultF n u2).S.fr = 500) := newsp_sum 500
  have HUS0 : Hid ((faultF n u2).A.used = 0 ∧ (faultF n u2).A.room = 1000) := ⟨rfl, rfl⟩
  have HQ : Hid (∀ W, (binOp .eql 30 (.agg #[.int .i64 0, .int .i64 0, .int .i64 0, .int .i64 0]) (.agg #[.int .i64 0, .int .i64 0, .int .i64 0, .int .i64 0])).run Try.prog W = .ok (.bool true) W) := fun W => eq_file W 0 0 0 0
  have HG : Hid (∀ W op x y xs ys, (eqGuard op 30 x y (.agg xs) (.agg ys)).run Try.prog W = .ok () W) := fun W op x y xs ys => guard_file W op x y xs ys
  have HWA : Hid (WArgs (faultF n u2) (k : Int) (l1.length : Int)) := ⟨HHP.out, by omega, by rw [HLEN.out]; omega⟩
  go_wp2_with fail
  refine HLAY.out.mono ?_
  rintro e w6 (⟨er, rfl, hwe, hbs⟩ | ⟨t, S1, htop, ⟨rfl, hun, D', m', hD, hbs⟩ | ⟨er, D1, m', i', ws', rfl, hne, d1, d2, d3, d4, hbs⟩ | ⟨rfl, hall, D', hD, hst, hbs⟩⟩)
  · exfalso
    rcases hwe with ⟨_, h1⟩ | ⟨_, _, h1⟩ | ⟨_, _, _, h1, h2⟩
    · exact h1 HWA.out
    · rw [HUS0.out.1, HUS0.out.2, HDZ.out] at h1; omega
    · refine h2 0 (newsp_room ?_)
      exact Nat.le_trans (blocks_le _ _) (by rw [Int.toNat_natCast, HLEN.out]; show len1 ≤ 500; omega)
  · clear htop hun hD
    have hus : (LayE (faultF n u2) (faultF n u2).S t.b D').A.used = 0 := by rw [layE_used]; exact HUS0.out.1
    have HUS := Lib.hid hus
    have HSS : Hid (sumB (LayE (faultF n u2) (faultF n u2).S t.b D').S.fr = 500) := HSM.out
    have HB6 := Lib.hid (hbs.alloc 30 (by decide) #[.int .i64 0, .int .i64 0, .int .i64 0, .int .i64 0])
    clear hus hbs HLAY HSM HUS0 HIN HAL HSOK
    unfold fileV
    generalize hST : Base w p (LayE (faultF n u2) (faultF n u2).S t.b D') (0 + l1.length + 1) [(w6.heap.size, 30, [.int .i64 0, .int .i64 0, .int .i64 0, .int .i64 0])] = ST at *
    replace hST := Lib.hid hST
    have K0 : Hid (∀ W, ST W → W.cell? ⟨w6.heap.size, 0, none⟩ = some (.int .i64 0) ∧ W.cell? ⟨w6.heap.size, 1, none⟩ = some (.int .i64 0) ∧ W.cell? ⟨w6.heap.size, 2, none⟩ = some (.int .i64 0) ∧ W.cell? ⟨w6.heap.size, 3, none⟩ = some (.int .i64 0)) := fun W h => by
      rw [← hST.out] at h
      have r2 := h.row (r := (w6.heap.size, 30, [.int .i64 0, .int .i64 0, .int .i64 0, .int .i64 0])) (by simp)
      exact ⟨r2.cell 0, r2.cell 1, r2.cell 2, r2.cell 3⟩
    have KE : Hid (∀ W, ST W → Below w.heap.size w W) := fun W h => by rw [← hST.out] at h; exact h.bel
    have CSP : Hid (∀ W, ST W → Calls Try.prog 14 #[.pointer (some ⟨p.w, 0, none⟩)] W fun e w' => e = .returned (.pointer (some ⟨p.s, 0, none⟩)) ∧ ST w') := fun W h => by
      rw [← hST.out] at h ⊢
      have := base_space h
      exact this
    have CFR : Hid (∀ W, ST W → Calls Try.prog 15 #[.pointer (some ⟨p.s, 0, none⟩)] W fun e w' => e = .returned (.int .i64 500) ∧ ST w') := fun W h => by
      rw [← hST.out] at h ⊢
      have := base_free h
      rw [HSS.out] at this
      exact this
    have CAR : Hid (∀ W, ST W → Calls Try.prog 16 #[.pointer (some ⟨p.w, 0, none⟩)] W fun e w' => e = .returned (.pointer (some ⟨p.a, 0, none⟩)) ∧ ST w') := fun W h => by
      rw [← hST.out] at h ⊢
      have := base_arena h
      exact this
    have CUS : Hid (∀ W, ST W → Calls Try.prog 17 #[.pointer (some ⟨p.a, 0, none⟩)] W fun e w' => e = .returned (.int .i64 0) ∧ ST w') := fun W h => by
      rw [← hST.out] at h ⊢
      have := base_used h
      rw [HUS.out] at this
      exact this
    have h7 : ST (w6.alloc (.cells #[.int .i64 0, .int .i64 0, .int .i64 0, .int .i64 0] 30)) := HB6.out
    obtain ⟨w7, hw7⟩ : ∃ w7, w7 = w6.alloc (.cells #[.int .i64 0, .int .i64 0, .int .i64 0, .int .i64 0] 30) := ⟨_, rfl⟩
    have HW7 := Lib.hid hw7
    rw [← hw7] at h7
    clear hw7
    go_wp2_with fail
    rw [← HW7.out]
    refine (CAR.out _ h7).mono ?_; rintro e w8 ⟨rfl, h8⟩
    clear h7
    go_wp2_with fail
    refine (CUS.out _ h8).mono ?_; rintro e w9 ⟨rfl, h9⟩
    clear h8
    go_wp2_with fail
    refine (CSP.out _ h9).mono ?_; rintro e w10 ⟨rfl, h10⟩
    clear h9
    have HK := Lib.hid (fun W (h : ST W) => K0.out W h)
    have hq := HQ.out
    have hg := HG.out
    go_wp2_with fail
    refine (CFR.out _ h10).mono ?_; rintro e w11 ⟨rfl, h11⟩
    obtain ⟨f0, f1, f2, f3⟩ := K0.out _ h11
    have HE := Lib.hid (KE.out _ h11)
    clear h10 h11
    go_wp2
    go_ret
    exact ⟨rfl, HE.out⟩
  · have he6 : er = 6 := by
      have hin := d3 (taken_range HSOK.out htop.2.2.2.2.2.1 HIN.out)
      rw [d2] at hne ⊢
      exact write_code (d1.alive HAL.out) hin d4 hne
    clear htop hne d1 d2 d3 d4
    subst he6
    have hus : (LayE (faultF n u2) (faultF n u2).S t.b (write D1 i' ws').2).A.used = 0 := by rw [layE_used]; exact HUS0.out.1
    have HUS := Lib.hid hus
    have HSS : Hid (sumB (LayE (faultF n u2) (faultF n u2).S t.b (write D1 i' ws').2).S.fr = 500) := HSM.out
    have HB6 := Lib.hid (hbs.alloc 30 (by decide) #[.int .i64 0, .int .i64 0, .int .i64 0, .int .i64 0])
    clear hus hbs HLAY HSM HUS0 HIN HAL HSOK
    unfold fileV
    generalize hST : Base w p (LayE (faultF n u2) (faultF n u2).S t.b (write D1 i' ws').2) (0 + l1.length + 1) [(w6.heap.size, 30, [.int .i64 0, .int .i64 0, .int .i64 0, .int .i64 0])] = ST at *
    replace hST := Lib.hid hST
    have K0 : Hid (∀ W, ST W → W.cell? ⟨w6.heap.size, 0, none⟩ = some (.int .i64 0) ∧ W.cell? ⟨w6.heap.size, 1, none⟩ = some (.int .i64 0) ∧ W.cell? ⟨w6.heap.size, 2, none⟩ = some (.int .i64 0) ∧ W.cell? ⟨w6.heap.size, 3, none⟩ = some (.int .i64 0)) := fun W h => by
      rw [← hST.out] at h
      have r2 := h.row (r := (w6.heap.size, 30, [.int .i64 0, .int .i64 0, .int .i64 0, .int .i64 0])) (by simp)
      exact ⟨r2.cell 0, r2.cell 1, r2.cell 2, r2.cell 3⟩
    have KE : Hid (∀ W, ST W → Below w.heap.size w W) := fun W h => by rw [← hST.out] at h; exact h.bel
    have CSP : Hid (∀ W, ST W → Calls Try.prog 14 #[.pointer (some ⟨p.w, 0, none⟩)] W fun e w' => e = .returned (.pointer (some ⟨p.s, 0, none⟩)) ∧ ST w') := fun W h => by
      rw [← hST.out] at h ⊢
      have := base_space h
      exact this
    have CFR : Hid (∀ W, ST W → Calls Try.prog 15 #[.pointer (some ⟨p.s, 0, none⟩)] W fun e w' => e = .returned (.int .i64 500) ∧ ST w') := fun W h => by
      rw [← hST.out] at h ⊢
      have := base_free h
      rw [HSS.out] at this
      exact this
    have CAR : Hid (∀ W, ST W → Calls Try.prog 16 #[.pointer (some ⟨p.w, 0, none⟩)] W fun e w' => e = .returned (.pointer (some ⟨p.a, 0, none⟩)) ∧ ST w') := fun W h => by
      rw [← hST.out] at h ⊢
      have := base_arena h
      exact this
    have CUS : Hid (∀ W, ST W → Calls Try.prog 17 #[.pointer (some ⟨p.a, 0, none⟩)] W fun e w' => e = .returned (.int .i64 0) ∧ ST w') := fun W h => by
      rw [← hST.out] at h ⊢
      have := base_used h
      rw [HUS.out] at this
      exact this
    have h7 : ST (w6.alloc (.cells #[.int .i64 0, .int .i64 0, .int .i64 0, .int .i64 0] 30)) := HB6.out
    obtain ⟨w7, hw7⟩ : ∃ w7, w7 = w6.alloc (.cells #[.int .i64 0, .int .i64 0, .int .i64 0, .int .i64 0] 30) := ⟨_, rfl⟩
    have HW7 := Lib.hid hw7
    rw [← hw7] at h7
    clear hw7
    go_wp2_with fail
    rw [← HW7.out]
    refine (CAR.out _ h7).mono ?_; rintro e w8 ⟨rfl, h8⟩
    clear h7
    go_wp2_with fail
    refine (CUS.out _ h8).mono ?_; rintro e w9 ⟨rfl, h9⟩
    clear h8
    go_wp2_with fail
    refine (CSP.out _ h9).mono ?_; rintro e w10 ⟨rfl, h10⟩
    clear h9
    have HK := Lib.hid (fun W (h : ST W) => K0.out W h)
    have hq := HQ.out
    have hg := HG.out
    go_wp2_with fail
    refine (CFR.out _ h10).mono ?_; rintro e w11 ⟨rfl, h11⟩
    obtain ⟨f0, f1, f2, f3⟩ := K0.out _ h11
    have HE := Lib.hid (KE.out _ h11)
    clear h10 h11
    go_wp2
    go_ret
    exact ⟨rfl, HE.out⟩
  · obtain ⟨hwa, hrr, htk, hth, htbl, htt, hf2, hqb⟩ := htop
    have htk' : t.k = k := by omega
    subst htk'
    have hsz : (LayE (faultF n u2) S1 t.b D').D.size = n := hD.size
    have hnb : t.blocks ≤ 200 := by rw [htbl]; exact Nat.le_trans (blocks_le _ _) (by rw [HLEN.out]; exact h200)
    have HACT : Hid (D'.acts = (t.blocks : Int)) := by
      unfold Hid; rw [hD.acts]; show (0 : Int) + _ = _; omega
    have HS1 : Hid (sumB S1.fr = 500 - t.blocks) := by
      have h1 := taken_sum htt
      rw [HSM.out] at h1
      unfold Hid; omega
    have HUS1 : Hid (∀ b2 D2, (LayE (LayE (faultF n u2) S1 t.b D') S1 b2 D2).A.used = 0) := fun b2 D2 => by
      rw [layE_used, layE_used]; exact HUS0.out.1
    have HLIST : Hid (∀ rs W, Base w p (LayE (faultF n u2) S1 t.b D') (0 + len1 + 1) rs W → Calls Try.prog 19 #[.pointer (some ⟨p.w, 0, none⟩), .agg #[.int .i64 t.first, .int .i64 t.blocks, .int .i64 t.k, .int .i64 len1]] W fun e w' =>
        (∃ A c b2 D2, e = .returned (.tuple #[.slice A len1 c, .int .i64 0]) ∧ ReadsT w' w'.heap.size A len1 l1 ∧ D2.acts = 2 * (t.blocks : Int) ∧ Base w p (LayE (LayE (faultF n u2) S1 t.b D') S1 b2 D2) (0 + len1 + 1 + len1 + 1) rs w') ∨
        (∃ b2 D2, e = .returned (.tuple #[.slice none 0 0, .int .i64 6]) ∧ Base w p (LayE (LayE (faultF n u2) S1 t.b D') S1 b2 D2) (0 + len1 + 1 + len1 + 1) rs w')) := fun rs W h => by
      have h1 := base_list h t.k t.h t.first t.blocks l1 (by omega) (by rw [hsz, hth, HDZ.out]) (by rw [hth]; exact Nat.pos_of_ne_zero HHP.out) htbl (by rw [HLEN.out]; omega) hf2 (by rw [HLEN.out]; omega) hst (fun u hu => ⟨HLR.out.2.1 u hu, hall u hu⟩) (by rw [hsz, layE_used, layE_room, HUS0.out.1, HUS0.out.2]; omega)
      rw [HLEN.out] at h1
      refine h1.mono ?_
      rintro e w' (⟨A, c, b2, D2, he, hr, hw2, _, _, hb⟩ | ⟨er, b2, m, D1, i, he, hne, hw2, e5, e6, _, hb⟩)
      · rw [HLEN.out] at he hr hb
        refine .inl ⟨A, c, b2, D2, he, hr, ?_, hb⟩
        have h2 : D2.acts = D'.acts + (t.blocks : Nat) := hw2.acts
        rw [h2, HACT.out]; omega
      · have hc := hw2.alive (hD.alive HAL.out)
        have hin := e6 (by
          show ((t.first + t.blocks : Nat) : Int) ≤ D'.blocks
          rw [hD.blocks]
          exact taken_range HSOK.out htt HIN.out)
        have he6 : er = 6 := by rw [e5] at hne ⊢; exact read_code hc hin hne
        rw [he6] at he
        rw [HLEN.out] at hb
        exact .inr ⟨b2, _, he, hb⟩
    rw [HLEN.out] at hbs
    unfold fileV
    rw [HLEN.out]
    clear hwa hrr htk hth htbl htt hf2 hqb hsz hst hall HLAY HAL HIN HSM
    generalize t.blocks = nb at *
    have HB6 := Lib.hid (hbs.alloc 30 (by decide) #[.int .i64 t.first, .int .i64 nb, .int .i64 t.k, .int .i64 len1])
    clear hbs
    generalize hST1 : Base w p (LayE (faultF n u2) S1 t.b D') (0 + len1 + 1) [(w6.heap.size, 30, [.int .i64 t.first, .int .i64 nb, .int .i64 t.k, .int .i64 len1])] = ST1 at *
    replace hST1 := Lib.hid hST1
    have K1 : Hid (∀ W, ST1 W → W.cell? ⟨w6.heap.size, 0, none⟩ = some (.int .i64 t.first) ∧ W.cell? ⟨w6.heap.size, 1, none⟩ = some (.int .i64 nb) ∧ W.cell? ⟨w6.heap.size, 2, none⟩ = some (.int .i64 t.k) ∧ W.cell? ⟨w6.heap.size, 3, none⟩ = some (.int .i64 len1)) := fun W h => by
      rw [← hST1.out] at h
      have r2 := h.row (r := (w6.heap.size, 30, [.int .i64 t.first, .int .i64 nb, .int .i64 t.k, .int .i64 len1])) (by simp)
      exact ⟨r2.cell 0, r2.cell 1, r2.cell 2, r2.cell 3⟩
    have h7 : ST1 (w6.alloc (.cells #[.int .i64 t.first, .int .i64 nb, .int .i64 t.k, .int .i64 len1] 30)) := HB6.out
    obtain ⟨f0, f1, f2, f3⟩ := K1.out _ h7
    obtain ⟨w7, hw7⟩ : ∃ w7, w7 = w6.alloc (.cells #[.int .i64 t.first, .int .i64 nb, .int .i64 t.k, .int .i64 len1] 30) := ⟨_, rfl⟩
    have HW7 := Lib.hid hw7
    rw [← hw7] at h7
    have HLI := Lib.hid (HLIST.out _ w7 (by rw [← hST1.out] at h7; exact h7))
    clear h7 HB6 HLIST hw7
    go_wp2_with fail
    rw [← HW7.out]
    refine HLI.out.mono ?_
    clear f0 f1 f2 f3
    rintro e w8 (⟨A, cA, b2', D2, rfl, hra, hac, hb8⟩ | ⟨b2', D2, rfl, hb8⟩)
    · have HB8 := Lib.hid hb8
      have HAC := Lib.hid hac
      have HSMM := Lib.hid (rsame_any A a1 len1 len1 cA cap1 l1 l1 w8 hra ((HLR.out.keep hb8.bel).mono hb8.size) WM.out WM.out)
      have HSMB : Hid (∀ W, Below w8.heap.size w8 W → Calls Try.prog 20 #[.slice A len1 cA, .slice a1 len1 cap1] W fun e w' => e = .returned (.bool true) ∧ Below W.heap.size W w') := fun W hb => by
        refine (rsame_any A a1 len1 len1 cA cap1 l1 l1 W ((hra.keep hb).mono hb.size) ((HLR.out.keep (hb8.bel.trans (hb.mono hb8.size))).mono (Nat.le_trans hb8.size hb.size)) WM.out WM.out).mono ?_
        rintro e w' ⟨he, q, rfl⟩
        exact ⟨by rw [he, decide_eq_true rfl], below_drewN (Below.refl _ _) q⟩
      clear hb8 hac hra HSMM
      generalize hST : Base w p (LayE (LayE (faultF n u2) S1 t.b D') S1 b2' D2) (0 + len1 + 1 + len1 + 1) [(w6.heap.size, 30, [.int .i64 t.first, .int .i64 nb, .int .i64 t.k, .int .i64 len1])] = ST at *
      replace hST := Lib.hid hST
      have K0 : Hid (∀ W, ST W → W.cell? ⟨w6.heap.size, 0, none⟩ = some (.int .i64 t.first) ∧ W.cell? ⟨w6.heap.size, 1, none⟩ = some (.int .i64 nb) ∧ W.cell? ⟨w6.heap.size, 2, none⟩ = some (.int .i64 t.k) ∧ W.cell? ⟨w6.heap.size, 3, none⟩ = some (.int .i64 len1)) := fun W h => by
        rw [← hST.out] at h
        have r2 := h.row (r := (w6.heap.size, 30, [.int .i64 t.first, .int .i64 nb, .int .i64 t.k, .int .i64 len1])) (by simp)
        exact ⟨r2.cell 0, r2.cell 1, r2.cell 2, r2.cell 3⟩
      have KE : Hid (∀ W, ST W → Below w.heap.size w W) := fun W h => by rw [← hST.out] at h; exact h.bel
      have KB : Hid (∀ W W', ST W → Below W.heap.size W W' → ST W') := fun W W' h hb => by rw [← hST.out] at h ⊢; exact h.below hb
      have CDV : Hid (∀ W, ST W → Calls Try.prog 25 #[.pointer (some ⟨p.w, 0, none⟩)] W fun e w' => e = .returned (.pointer (some ⟨p.d, 0, none⟩)) ∧ ST w') := fun W h => by
        rw [← hST.out] at h ⊢
        have := base_device h
        exact this
      have CAC : Hid (∀ W, ST W → Calls Try.prog 27 #[.pointer (some ⟨p.d, 0, none⟩)] W fun e w' => e = .returned (.int .i64 (2 * (nb : Int))) ∧ ST w') := fun W h => by
        rw [← hST.out] at h ⊢
        have := base_acts h
        rw [show (LayE (LayE (faultF n u2) S1 t.b D') S1 b2' D2).D.acts = 2 * (nb : Int) from HAC.out] at this
        exact this
      have h8 : ST w8 := HB8.out
      have hd : ST w8.drew := KB.out _ _ h8 (below_drew (Below.refl _ _))
      have HS8 := Lib.hid (HSMB.out w8.drew (below_drew (Below.refl _ _)))
      obtain ⟨z, hz⟩ : ∃ z : Int, z = 2 * (nb : Int) := ⟨_, rfl⟩
      have hz2 : (2 : Int) * (nb : Int) = z := hz.symm
      rw [← hz] at CAC
      have hzb : 0 ≤ z ∧ z ≤ 400 := by omega
      have hwz : IntKind.i64.wrap z = z := IntWalk.i64_in _ (by clear hz hz2; omega)
      clear h8 hz HB8 HSMB
      go_wp2
      go_region_held3 (fun W => W.cell? ⟨w6.heap.size, 0, none⟩ = some (.int .i64 t.first) ∧ W.cell? ⟨w6.heap.size, 1, none⟩ = some (.int .i64 nb) ∧ W.cell? ⟨w6.heap.size, 2, none⟩ = some (.int .i64 t.k) ∧ W.cell? ⟨w6.heap.size, 3, none⟩ = some (.int .i64 len1)) (first | with_reducible exact K0.out _ (by assumption))
        (first
          | (go_at_call 20; (with_reducible refine HS8.out.mono ?_); rintro e w9 ⟨rfl, hb9⟩; have h9 := KB.out _ _ hd hb9)
          | (go_at_call 25; first | ((with_reducible refine (CDV.out _ (by assumption)).mono ?_); rintro e w10 ⟨rfl, h10⟩))
          | (go_at_call 27; first | ((with_reducible refine (CAC.out _ (by assumption)).mono ?_); rintro e w11 ⟨rfl, h11⟩)))
      have HE := Lib.hid (KE.out _ h11)
      clear hd h9 h10 h11 hb9
      go_wp2
      go_ret
      exact ⟨rfl, HE.out⟩
    · have HB8 := Lib.hid hb8
      clear hb8
      have HUS := Lib.hid (HUS1.out b2' D2)
      obtain ⟨rs, hrs⟩ : ∃ rs, rs = 500 - nb := ⟨_, rfl⟩
      rw [← hrs] at HS1
      have hsb : (500 : Int) - (nb : Int) = (rs : Int) := by omega
      have hrb : rs ≤ 5000 := by omega
      clear hrs
      generalize hST : Base w p (LayE (LayE (faultF n u2) S1 t.b D') S1 b2' D2) (0 + len1 + 1 + len1 + 1) [(w6.heap.size, 30, [.int .i64 t.first, .int .i64 nb, .int .i64 t.k, .int .i64 len1])] = ST at *
      replace hST := Lib.hid hST
      have K0 : Hid (∀ W, ST W → W.cell? ⟨w6.heap.size, 0, none⟩ = some (.int .i64 t.first) ∧ W.cell? ⟨w6.heap.size, 1, none⟩ = some (.int .i64 nb) ∧ W.cell? ⟨w6.heap.size, 2, none⟩ = some (.int .i64 t.k) ∧ W.cell? ⟨w6.heap.size, 3, none⟩ = some (.int .i64 len1)) := fun W h => by
        rw [← hST.out] at h
        have r2 := h.row (r := (w6.heap.size, 30, [.int .i64 t.first, .int .i64 nb, .int .i64 t.k, .int .i64 len1])) (by simp)
        exact ⟨r2.cell 0, r2.cell 1, r2.cell 2, r2.cell 3⟩
      have KE : Hid (∀ W, ST W → Below w.heap.size w W) := fun W h => by rw [← hST.out] at h; exact h.bel
      have KB : Hid (∀ W W', ST W → Below W.heap.size W W' → ST W') := fun W W' h hb => by rw [← hST.out] at h ⊢; exact h.below hb
      have CSP : Hid (∀ W, ST W → Calls Try.prog 14 #[.pointer (some ⟨p.w, 0, none⟩)] W fun e w' => e = .returned (.pointer (some ⟨p.s, 0, none⟩)) ∧ ST w') := fun W h => by
        rw [← hST.out] at h ⊢
        have := base_space h
        exact this
      have CFR : Hid (∀ W, ST W → Calls Try.prog 15 #[.pointer (some ⟨p.s, 0, none⟩)] W fun e w' => e = .returned (.int .i64 rs) ∧ ST w') := fun W h => by
        rw [← hST.out] at h ⊢
        have := base_free h
        rw [show sumB (LayE (LayE (faultF n u2) S1 t.b D') S1 b2' D2).S.fr = rs from HS1.out] at this
        exact this
      have CAR : Hid (∀ W, ST W → Calls Try.prog 16 #[.pointer (some ⟨p.w, 0, none⟩)] W fun e w' => e = .returned (.pointer (some ⟨p.a, 0, none⟩)) ∧ ST w') := fun W h => by
        rw [← hST.out] at h ⊢
        have := base_arena h
        exact this
      have CUS : Hid (∀ W, ST W → Calls Try.prog 17 #[.pointer (some ⟨p.a, 0, none⟩)] W fun e w' => e = .returned (.int .i64 0) ∧ ST w') := fun W h => by
        rw [← hST.out] at h ⊢
        have := base_used h
        rw [HUS.out] at this
        exact this
      have h8 : ST w8 := HB8.out
      have hd : ST w8.drew := KB.out _ _ h8 (below_drew (Below.refl _ _))
      have hwr : IntKind.i64.wrap (rs : Int) = (rs : Int) := IntWalk.i64_in _ (by clear hsb; omega)
      clear h8 HB8
      go_wp2
      go_region_held3 (fun W => W.cell? ⟨w6.heap.size, 0, none⟩ = some (.int .i64 t.first) ∧ W.cell? ⟨w6.heap.size, 1, none⟩ = some (.int .i64 nb) ∧ W.cell? ⟨w6.heap.size, 2, none⟩ = some (.int .i64 t.k) ∧ W.cell? ⟨w6.heap.size, 3, none⟩ = some (.int .i64 len1)) (first | with_reducible exact K0.out _ (by assumption))
        (first
          | (go_at_call 14; first | ((with_reducible refine (CSP.out _ (by assumption)).mono ?_); rintro e w10 ⟨rfl, h10⟩))
          | (go_at_call 15; first | ((with_reducible refine (CFR.out _ (by assumption)).mono ?_); rintro e w11 ⟨rfl, h11⟩))
          | (go_at_call 16; first | ((with_reducible refine (CAR.out _ (by assumption)).mono ?_); rintro e w12 ⟨rfl, h12⟩))
          | (go_at_call 17; first | ((with_reducible refine (CUS.out _ (by assumption)).mono ?_); rintro e w13 ⟨rfl, h13⟩)))
      have HE := Lib.hid (KE.out _ h11)
      clear hd h10 h11 h12 h13
      go_wp2
      go_ret
      exact ⟨rfl, HE.out⟩

set_option maxRecDepth 100000 in
theorem lifted (os : Os) (started : os.Started) (H : Type) (enc : TypeId × Value → H) :
    ReturnsInHanded {} Try.checked os 5 .any (Rows.fileFaultsSpec.pre6 enc Try.prog Try.f5 Rows.fileFaultsRow.domain false) (Rows.fileFaultsSpec.post enc Try.prog Try.f5 false true false false) := by
  refine returnsInHanded_of_change (C := Try.checked) own started (by kernel_rfl) Try.func5
    (ChangeSpec.witness6 (enc := enc) (C := Try.checked) false ⟨#[], #[.agg #[.int .u8 0, .int .u8 0], .slice none 0 0, .int .u8 0], []⟩ 8 (by kernel_rfl) (by kernel_rfl) (by kernel_rfl) (by kernel_rfl)) ?_
  intro W base args ds gs before hval0 hW hcnd _
  have hval : ∀ (j : Nat) t v, Try.f5.params[j]? = some t → args[j]? = some v → Value.okWide Try.prog W .any base t v := hval0
  have hW' := hW
  obtain ⟨p, q, hA0, hV, rfl, hfz, hnd⟩ := hW
  have hA : DataW.TrodAll enc Try.prog W 0 (fun _ => true) true Try.f5.params.toList args.toList ds p := hA0
  rw [Try.params5] at hA hval
  obtain ⟨v0, vs0, d0, ds0, p0, q0, hargs, rfl, rfl, h0, r0⟩ := trodAll_cons hA
  obtain ⟨v1, vs1, d1, ds1, p1, q1, rfl, rfl, rfl, h1, r1⟩ := trodAll_cons r0
  obtain ⟨v2, vs2, d2, ds2, p2, q2, rfl, rfl, rfl, h2, r2⟩ := trodAll_cons r1
  obtain ⟨rfl, rfl, rfl⟩ := trodAll_nil r2
  obtain rfl : args = #[v0, v1, v2] := by cases args; simp_all
  obtain ⟨rfl, rfl⟩ := trodVars_none hV
  have k0 := h0
  have lt0 : ∀ x ∈ p0, x.block < W.heap.size := by obtain ⟨m, hm⟩ := k0; exact DataW.trod_lt m _ _ _ hm
  have k1 := h1
  have lt1 : ∀ x ∈ p1, x.block < W.heap.size := by obtain ⟨m, hm⟩ := k1; exact DataW.trod_lt m _ _ _ hm
  have k2 := h2
  have lt2 : ∀ x ∈ p2, x.block < W.heap.size := by obtain ⟨m, hm⟩ := k2; exact DataW.trod_lt m _ _ _ hm
  obtain ⟨a0_0, a0_1, rfl, w0_0, w0_1⟩ := open_arr2 Try.underlying64 Try.underlying5 (by kernel_rfl) (by kernel_rfl) (hval 0 64 v0 rfl rfl) h0
  obtain ⟨a1, len1, cap1, rfl⟩ := okWide_slice Try.underlying24 (hval 1 24 v1 rfl rfl)
  obtain ⟨l1, wr1, wm1⟩ : ∃ l, ReadsT W W.heap.size a1 len1 l ∧ len1 ≤ maxLen := by
    obtain ⟨fuel, hf⟩ := h1
    obtain ⟨a', len', cap', l', he', hr', hm'⟩ := open_tups Try.underlying24 Try.underlying58 Try.underlying2 (by kernel_rfl) (by kernel_rfl) hf
    injection he' with e1 e2 e3
    subst e1; subst e2
    exact ⟨l', hr', hm'⟩
  obtain ⟨a2, rfl, rfl, rfl, w2⟩ := open_int Try.underlying5 (hval 2 5 v2 rfl rfl) h2
  clear hA0 hval0
  refine (walk a0_0 a0_1 a1 len1 cap1 l1 a2 W w0_0 w0_1 wr1 wm1 w2).mono fun e W' ⟨he, bel⟩ => ?_
  subst he
  exact ⟨_, rfl, _, _, _, [], _, [], hW', trodAll_mk1 (shut_bool Try.underlying4 _), (trodAll_cons_mk (Below.trod laidOut (by kernel_rfl) (of_decide_eq_true (by kernel_rfl)) k0 bel lt0) (trodAll_cons_mk (Below.trod laidOut (by kernel_rfl) (of_decide_eq_true (by kernel_rfl)) k1 bel lt1) (trodAll_cons_mk (Below.trod laidOut (by kernel_rfl) (of_decide_eq_true (by kernel_rfl)) k2 bel lt2) trodAll_mk0))), rfl, bel.frame _, fun h => by cases h⟩

theorem over : Rows.fileFaultsRow.holds Try.pinned (OpenSpec.ofChange Rows.fileFaultsSpec) :=
  OpenClaim.holds_of_wide 5 Try.f5 rfl rfl rfl rfl rfl rfl rfl ⟨rfl, rfl, rfl, rfl, rfl⟩ rfl rfl rfl rfl rfl (by kernel_rfl) Try.func5 (by kernel_rfl)
    (of_decide_eq_true (by kernel_rfl)) (by unfold Func.isWrapper; first | (rw [if_pos (by decide +kernel)]; kernel_rfl) | (rw [if_neg (by decide +kernel)]; exact ⟨rfl, rfl⟩))
    (fun os started H enc _ => lifted os started H enc)

theorem proved : Rows.FileFaultsSaid := over
end Go.Proofs.Ytbkgpilmgllkiaa.fileFaults
