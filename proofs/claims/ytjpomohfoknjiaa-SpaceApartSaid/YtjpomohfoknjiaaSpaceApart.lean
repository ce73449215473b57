/-
  SpaceApart: for whatever sizes, whatever is given back; no condition.
-/
import Derived.Test.YtjpomohfoknjiaaRows
import Derived.Test.YtjpomohfoknjiaaSpBook
import Derived.WalkKit
import Derived.ProofKit
import Derived.OpenShut
import Derived.ShutString
import Derived.ChangeOld
import Derived.Below
namespace Go.Proofs.Ytjpomohfoknjiaa.spaceApart
open Go.ChangeShapes Go.WideShapes Go.ChangeAt Go.RowKit
open Go.ChangeMaps (open_string shut_string)
set_option linter.unusedVariables false

theorem own : ownKnob Try.prog.godebug = none := by kernel_rfl
theorem laidOut : laidOutB Try.prog = true := by kernel_rfl

theorem arr_info : ∃ i, Try.prog.info? 45 = some i ∧ i.zero = some (.agg (zcells (List.replicate 300 0)).toArray) ∧ i.size = 300 ∧ i.bytes = 2400 := info_parts (by kernel_rfl)
theorem arr_zero (w : World) (Z : Array Value) (hZ : Z = (zcells (List.replicate 300 0)).toArray) : (zeroValue 45).run Try.prog w = .ok (.agg Z) w := by
  obtain ⟨i, hi, hz, _⟩ := arr_info
  rw [← hZ] at hz
  simp [zeroValue, typeInfo, hi, hz]
theorem eql_ext (w : World) (u v c d : Int) : (binOp .eql 36 (.agg #[.int .i64 u, .int .i64 v]) (.agg #[.int .i64 c, .int .i64 d])).run Try.prog w = .ok (.bool (u == c && v == d)) w := by
  have u3 := Try.underlying3
  have hS : Try.prog.underlying 36 = some (.struct (Try.prog.fieldsOf 36)) := by kernel_rfl
  have hp : Try.prog.stoodInHeld 36 = false := by kernel_rfl
  rw [run_eql_struct, show (10000 : Nat) = 9999 + 1 from rfl, run_equalIn_agg w 9999 36 _ _ hS hp]
  simp only [Program.fieldsOf, Try.underlying36]
  go_simp
  by_cases h : u = c <;> by_cases h2 : v = d <;> simp [h, h2]
theorem guardq_ext (w : World) (x y : Operand) (u v c d : Int) : (eqGuard .eql 36 x y (.agg #[.int .i64 u, .int .i64 v]) (.agg #[.int .i64 c, .int .i64 d])).run Try.prog w = .ok () w :=
  run_eqGuard_agg w .eql 36 x y _ _ (by kernel_rfl)

set_option maxHeartbeats 4000000 in
set_option maxRecDepth 100000 in
theorem walk (a0 : Option Addr) (len0 cap0 : Nat) (z0 : List Int) (a1 : Option Addr) (len1 cap1 : Nat) (z1 : List Int) (w : World) (w0 : IsRow .u8 w a0 len0 cap0 z0) (w1 : IsRow .u8 w a1 len1 cap1 z1) :
    Calls Try.prog 4 #[.slice a0 len0 cap0, .slice a1 len1 cap1] w fun e w' => e = .returned (.bool true) ∧ Below w.heap.size w w' := by
  obtain ⟨z0, hz0⟩ := w0.reads u8_nonneg
  obtain ⟨z1, hz1⟩ := w1.reads u8_nonneg
  have hm0 := w0.cap
  have hm1 := w1.cap
  have HZ0 := Lib.hid hz0
  have HZ1 := Lib.hid hz1
  clear w0 w1 hz0 hz1
  go_enter Try.func4, Try.ntmps4
  go_wp2_with fail
  refine (awake_any _).mono ?_; rintro e w1 ⟨rfl, hb1⟩
  have HB1 := Lib.hid hb1
  have hs1 := hb1.size
  clear hb1
  by_cases hbig : len0 > 60
  · have g1 : decide ((len0 : Int) > 60) = true := by simp; omega
    have g2 : decide (60 < len0) = true := by simp; omega
    go_wp2_with fail
    refine (awake_any _).mono ?_; rintro e w2 ⟨rfl, hb2⟩
    have HB2 := Lib.hid (HB1.out.trans (hb2.mono hs1))
    clear hb2
    go_wp2
    go_ret
    exact ⟨rfl, HB2.out⟩
  have g1 : decide ((len0 : Int) > 60) = false := by simp; omega
  have g2 : decide (60 < len0) = false := by simp; omega
  by_cases hbig1 : len1 > 60
  · have g3 : decide ((len1 : Int) > 60) = true := by simp; omega
    have g4 : decide (60 < len1) = true := by simp; omega
    go_wp2_with fail
    refine (awake_any _).mono ?_; rintro e w2 ⟨rfl, hb2⟩
    have HB2 := Lib.hid (HB1.out.trans (hb2.mono hs1))
    clear hb2
    go_wp2
    go_ret
    exact ⟨rfl, HB2.out⟩
  have g3 : decide ((len1 : Int) > 60) = false := by simp; omega
  have g4 : decide (60 < len1) = false := by simp; omega
  have HN := Lib.hid (run_new (w0 := w) (w := w1) (f := 5) (n := 250) (by omega) (by omega) HB1.out)
  go_wp2_with fail
  refine HN.out.mono ?_
  rintro e w2 ⟨p, rfl, hr2, _⟩
  have HR2 := Lib.hid hr2
  clear hr2 HN
  obtain ⟨Z, hZ⟩ : ∃ Z, Z = (zcells (List.replicate 300 0)).toArray := ⟨_, rfl⟩
  have hz := fun w => arr_zero w Z hZ
  have hrow : Row (w2.alloc (.cells Z 45)) w2.heap.size 45 (zcells (List.replicate 300 0)) := by rw [hZ]; exact heap_alloc_new _ _
  have HROW := Lib.hid hrow
  have HR3 := Lib.hid (HR2.out.far ((Below.refl _ w2).alloc (Nat.le_refl _) (.cells Z 45)))
  have hw2 := HR2.out.base.size
  clear hZ hrow
  go_wp2
  generalize w2.alloc (.cells Z 45) = w3 at *
  obtain ⟨h, hh⟩ : ∃ h, h = w2.heap.size := ⟨_, rfl⟩
  rw [← hh] at HROW hw2 ⊢
  have HT0 : Hid (Own0 [] 300 (List.replicate 300 0)) := by
    refine ⟨by simp, fun b hb => ?_⟩
    rw [List.getD_eq_getElem?_getD, List.getElem?_replicate, if_pos hb]
    simp [cntB]
  have HK0 : Hid (Book (newSp 5 250) 5 255 []) := by
    refine ⟨rfl, rfl, by simp, fun b hb => rfl, fun b hb => ?_⟩
    rw [newSp_has] at hb
    rw [if_neg (by omega)]; rfl
  have h60 : len0 ≤ 60 := by omega
  clear hh hz hbig hbig1
  go_loopw [7, 8] (fun lv iv wr => ∃ (i N c : Nat) (A : Option Addr) (s : Sp) (L : List Ex) (T : List Int), i ≤ len0 ∧ N ≤ i ∧ iv = .int .i64 (i : Int) ∧ lv = .slice A N c ∧ Hid (L.length = N) ∧ Hid (Book s 5 255 L) ∧ Hid (Own0 L 300 T) ∧ Hid (Run w wr p s (.slice A N c) N L) ∧ Hid (Row wr h 45 (zcells T))) (fun _ iv _ => len0 - (intOf iv).toNat)
  case atStart => exact ⟨0, 0, 0, none, _, [], _, by omega, by omega, rfl, rfl, rfl, HK0.out, HT0.out, HR3.out, HROW.out⟩
  case round =>
    obtain ⟨i, N, c, A, s, L, T, hi, hNi, rfl, rfl, HL, HK, HT, HR, HW⟩ := hrel
    have hpl := HR.out.lt
    by_cases hlt : i < len0
    · have g0 : decide (i < len0) = true := by simpa using hlt
      obtain ⟨b, off, x, rfl, hbb, d0, hx, _⟩ := (HZ0.out.keep HR.out.base).at_ hlt
      have hx256 := u8_lt hx
      have hbl : b < wr.heap.size := by have := HR.out.base.size; omega
      have hj0 : (0 : Int) ≤ (i : Int) := by omega
      have hj1 : (i : Int) < (len0 : Int) := by omega
      obtain ⟨r, hr⟩ : ∃ r : Nat, r = x % 20 := ⟨_, rfl⟩
      have hmod : ((x : Int)) % 20 = (r : Int) := by omega
      have htm : ((x : Int)).tmod 20 = (r : Int) := by rw [Int.tmod_eq_emod_of_nonneg (by omega)]; omega
      have hr20 : r < 20 := by omega
      have hw8 : IntKind.u8.wrap (r : Int) = (r : Int) := by rw [IntKind.wrap_u8]; omega
      obtain ⟨n, hn⟩ : ∃ n : Nat, n = 1 + r := ⟨_, rfl⟩
      have hadd : (1 : Int) + (r : Int) = (n : Int) := by omega
      have hn1 : 1 ≤ n := by omega
      have hn2 : n ≤ 20 := by omega
      clear hr hn
      have hc := run_take HR.out (m := (n : Int)) (I64.of (by omega) (by omega))
      rcases takeS_spec HR.out.ok hn1 with ⟨s1, a, e, htk, _⟩ | ⟨e, _⟩
      · rw [e] at hc
        have HC := Lib.hid hc
        have hroom := htk.room
        have hin : ∀ b', a ≤ b' → b' < a + n → 5 ≤ b' ∧ b' < 255 ∧ T.getD b' 0 = 0 := fun b' h1 h2 => by
          have h3 := hroom b' h1 h2
          have h4 := HR.out.ok.2.2.has h3
          rw [HK.out.last, HK.out.first] at h4
          exact ⟨h4.1, h4.2, (HT.out.2 b' (by omega)).2 (HK.out.free b' h3)⟩
        have ha5 : 5 ≤ a := (hin a (Nat.le_refl _) (by omega)).1
        have ha255 : a + n ≤ 255 := by have := (hin (a + n - 1) (by omega) (by omega)).2.1; omega
        have HIN := Lib.hid hin
        have HBK : Hid (Book s1 5 255 (L ++ [(a, n)])) := HK.out.took htk HR.out.ok hn1
        have HOT : Hid (Own0 (L ++ [(a, n)]) 300 (fillZ T ((i : Int) + 1) a n)) := HT.out.took (by omega) (by omega)
        obtain ⟨ak, hak'⟩ : ∃ ak, ak = a + n := ⟨_, rfl⟩
        have hadd3 : (a : Int) + (n : Int) = (ak : Int) := by omega
        have hw3 : IntKind.i64.wrap (ak : Int) = (ak : Int) := IntWalk.i64_in _ (by omega)
        have hak2 : ak ≤ 255 := by omega
        have HAK := Lib.hid hak'
        clear hc e htk hroom hin hak'
        go_wp2_with fail
        refine HC.out.mono ?_
        rintro e w4 ⟨rfl, hr4, hk4⟩
        have HR4 := Lib.hid hr4
        have HW4 := Lib.hid (hk4 _ _ _ HW.out (by decide) (by decide))
        clear hr4 hk4 d0
        go_wp2
        generalize wr = wr1 at *
        go_loopw [12] (fun bv wl => ∃ m : Nat, m ≤ n ∧ bv = .int .i64 ((a + m : Nat) : Int) ∧ Hid (Run w wl p s1 (.slice A N c) N L) ∧ Hid (Row wl h 45 (zcells (fillZ T ((i : Int) + 1) a m)))) (fun bv _ => ak - (intOf bv).toNat)
        case atStart => exact ⟨0, Nat.zero_le _, rfl, HR4.out, HW4.out⟩
        case round =>
          obtain ⟨m, hm, rfl, HRm, HWm⟩ := hrel
          obtain ⟨bm, hbm⟩ : ∃ bm, bm = a + m := ⟨_, rfl⟩
          rw [← hbm]
          have HBM := Lib.hid hbm
          by_cases hmk : m < n
          · have hbb' : bm < ak := by have := HAK.out; omega
            have gb : decide (bm < ak) = true := by simp; omega
            have gb3 : decide (bm < 5) = false := by simp; omega
            have gb3' : decide ((bm : Int) < 5) = false := by simp; omega
            have gb4 : decide (255 ≤ bm) = false := by simp; omega
            have gb4' : decide ((bm : Int) ≥ 255) = false := by simp; omega
            have bi0 : (0 : Int) ≤ (bm : Int) := by omega
            have bi1 : (bm : Int) < 300 := by omega
            have hcell : wr.cell? ⟨h, bm, none⟩ = some (.int .i64 0) := by
              rw [HWm.out.cell, zcells_get (by rw [fillZ_length, HT.out.1]; omega), fillZ_get T _ a m (by rw [HT.out.1]; omega), if_neg (by omega), (HIN.out bm (by omega) (by have := HAK.out; omega)).2.2]
            have hfz : wr.frozen? ⟨h, bm, none⟩ = false := HWm.out.free bm
            have HR5 := Lib.hid (run_set HRm.out HWm.out (i := bm) (by decide) (by decide) hw2 (.int .i64 ((i : Int) + 1)))
            have HW5 : Hid (Row (wr.setCell ⟨h, bm, none⟩ (.int .i64 ((i : Int) + 1))) h 45 (zcells (fillZ T ((i : Int) + 1) a (m + 1)))) := by
              unfold Hid; rw [fillZ_succ, ← hbm, zcells_set]; exact HWm.out.set bm _
            clear hbm
            go_wp2
            generalize wr.setCell ⟨h, bm, none⟩ (.int .i64 ((i : Int) + 1)) = w5 at *
            go_roundw
            case rel => exact ⟨m + 1, hmk, by rw [HBM.out]; go_num, HR5.out, HW5.out⟩
            case measure => simp [intOf]; omega
          · obtain rfl : m = n := by omega
            have gb : decide (bm < ak) = false := by simp; have := HAK.out; omega
            clear hbm
            go_wp2_with (with_reducible refine stopAt 81 ?_)
            unfold Hid
            have HR6 := Lib.hid (HRm.out.far ((Below.refl _ wr).alloc (Nat.le_refl _) (.cells #[.int .i64 (a : Int), .int .i64 (m : Int)] 36)))
            have HW6 : Hid (Row (wr.alloc (.cells #[.int .i64 (a : Int), .int .i64 (m : Int)] 36)) h 45 (zcells (fillZ T ((i : Int) + 1) a m))) := HWm.out.alloc _
            refine wpList_run_push rfl _ _ rfl HR6.out rfl ⟨wr.heap.size, 0, none⟩ rfl (a, m) (newsX rfl) (by omega) ?_
            intro A' c' w5 HR7 HK7
            have HWf := Lib.hid (HK7.out _ _ _ HW6.out (by decide) (by decide))
            have HLf : Hid ((L ++ [(a, m)]).length = N + 1) := by unfold Hid; rw [List.length_append, HL.out]; rfl
            obtain ⟨N1, hN1⟩ : ∃ N1, N1 = N + 1 := ⟨_, rfl⟩
            rw [← hN1] at HR7 HLf ⊢
            have hN1i : N1 ≤ i + 1 := by omega
            generalize L ++ [(a, m)] = L1 at *
            generalize fillZ T ((i : Int) + 1) a m = T1 at *
            clear hN1 HR6 HW6 HK7 HRm HWm HR4 HW4 HC HIN HAK HK HT HR HW HBM HL gb hmod htm hw8 hadd hadd3 hw3
            clear hak2 hr20 hmk hm hn1 hn2 ha5 ha255 hNi hbl hx256
            by_cases hg : i < len1
            · have gg : decide (i < len1) = true := by simp; omega
              have gg' : decide ((i : Int) < (len1 : Int)) = true := by simp; omega
              by_cases hN0 : 0 < N1
              · have gn : decide (0 < N1) = true := by simp; omega
                have gn' : decide ((N1 : Int) > 0) = true := by simp; omega
                obtain ⟨b2, off2, y, rfl, hbb2, d2, hy, _⟩ := (HZ1.out.keep HR7.out.base).at_ hg
                have hy256 := u8_lt hy
                have hbl2 : b2 < w5.heap.size := by have := HR7.out.base.size; omega
                have gj1 : (i : Int) < (len1 : Int) := by omega
                obtain ⟨r2, hr2⟩ : ∃ r : Nat, r = y % 2 := ⟨_, rfl⟩
                have hmod2 : ((y : Int)) % 2 = (r2 : Int) := by omega
                have htm2 : ((y : Int)).tmod 2 = (r2 : Int) := by rw [Int.tmod_eq_emod_of_nonneg (by omega)]; omega
                have hr22 : r2 < 2 := by omega
                have hw82 : IntKind.u8.wrap (r2 : Int) = (r2 : Int) := by rw [IntKind.wrap_u8]; omega
                clear hr2
                by_cases hev : r2 = 0
                · have ge : ((r2 : Int) == 0) = true := by simp; omega
                  have ge' : (r2 == 0) = true := by simp; omega
                  obtain ⟨k, hk⟩ : ∃ k : Nat, k = y % N1 := ⟨_, rfl⟩
                  have hkN : k < N1 := by rw [hk]; exact Nat.mod_lt _ hN0
                  have hmod3 : ((y : Int)) % (N1 : Int) = (k : Int) := by rw [hk]; omega
                  have htm3 : ((y : Int)).tmod (N1 : Int) = (k : Int) := by rw [Int.tmod_eq_emod_of_nonneg (by omega)]; exact hmod3
                  have hN1z : ¬ ((N1 : Int) = 0) := by omega
                  have hwy : IntKind.i64.wrap (y : Int) = (y : Int) := IntWalk.i64_in _ (by omega)
                  have hwk : IntKind.i64.wrap (k : Int) = (k : Int) := IntWalk.i64_in _ (by omega)
                  obtain ⟨g, rfl, hgl, e0, e1⟩ := own2_at HR7.out.own hkN
                  have hkl : k < L1.length := by rw [HLf.out]; exact hkN
                  have hpos := HBK.out.pos _ (getD_lt hkl)
                  obtain ⟨sg, hsg, hgv⟩ := HBK.out.give (a := (xAt L1 k).1) (n := (xAt L1 k).2) HR7.out.ok hpos (fun b => cntB_at hkl b)
                  have hgl1 := hgv.lo
                  have hgl2 := hgv.hi
                  rw [HBK.out.first] at hgl1
                  rw [HBK.out.last] at hgl2
                  have HBK2 : Hid (Book sg 5 255 (swapL L1 k)) := HBK.out.gave hgv (fun b => cntB_swap hkl b) (fun x hx => HBK.out.pos x (swapL_mem hkl hx))
                  have HOT2 : Hid (Own0 (swapL L1 k) 300 (fillZ T1 0 (xAt L1 k).1 (xAt L1 k).2)) := HOT.out.gave (by omega) HBK.out.le (fun b => cntB_swap hkl b)
                  have hT1l := HOT.out.1
                  have hcg := run_give (HR7.out.drewN 1) (f := ((xAt L1 k).1 : Int)) (m := ((xAt L1 k).2 : Int)) (I64.of (by omega) (by omega)) (I64.of (by omega) (by omega))
                  rw [hsg] at hcg
                  have HX : Hid (xAt L1 k = ((xAt L1 k).1, (xAt L1 k).2)) := rfl
                  generalize (xAt L1 k).1 = a2 at *
                  generalize (xAt L1 k).2 = n2 at *
                  have HCG := Lib.hid hcg
                  obtain ⟨an, han⟩ : ∃ an, an = a2 + n2 := ⟨_, rfl⟩
                  have hadd4 : (a2 : Int) + (n2 : Int) = (an : Int) := by omega
                  have hw4 : IntKind.i64.wrap (an : Int) = (an : Int) := IntWalk.i64_in _ (by omega)
                  have hanl : an ≤ 255 := by omega
                  have ki0 : (0 : Int) ≤ (k : Int) := by omega
                  have ki1 : (k : Int) < (N1 : Int) := by omega
                  have HAN := Lib.hid han
                  clear hcg hsg hgv hk hev han
                  go_wp2
                  go_region_held3 (fun w' => w'.cell? ⟨g, k * 2, none⟩ = some (.int .i64 (a2 : Int)) ∧ w'.cell? ⟨g, k * 2 + 1, none⟩ = some (.int .i64 (n2 : Int)))
                    (first | (exact ⟨e0, e1⟩) | (exact run_cells hr6 HX.out hkN))
                    ((go_split_ands; go_at_call 12; refine HCG.out.mono ?_; rintro e w6 ⟨rfl, hr6, hk6⟩))
                  have HR8 := Lib.hid hr6
                  have HW8 := Lib.hid (hk6 _ _ _ (HWf.out.drewN 1) (by decide) (by decide))
                  clear hr6 hk6 e0 e1 d2
                  obtain ⟨e0, e1⟩ := run_cells HR8.out HX.out hkN
                  go_wp2
                  go_loopw [14] (fun bv wl => ∃ m : Nat, m ≤ n2 ∧ bv = .int .i64 ((a2 + m : Nat) : Int) ∧ Hid (Run w wl p sg (.slice (some ⟨g, 0, none⟩) N1 c') N1 L1) ∧ Hid (Row wl h 45 (zcells (fillZ T1 0 a2 m)))) (fun bv _ => an - (intOf bv).toNat)
                  case atStart => exact ⟨0, Nat.zero_le _, rfl, HR8.out, HW8.out⟩
                  case round =>
                    clear e0 e1
                    obtain ⟨m2, hm2, rfl, HRm, HWm⟩ := hrel
                    obtain ⟨bm, hbm⟩ : ∃ bm, bm = a2 + m2 := ⟨_, rfl⟩
                    rw [← hbm]
                    have HBM := Lib.hid hbm
                    obtain ⟨e0, e1⟩ := run_cells HRm.out HX.out hkN
                    by_cases hmk : m2 < n2
                    · have hbb' : bm < an := by have := HAN.out; omega
                      have gb : decide (bm < an) = true := by simp; omega
                      have bi0 : (0 : Int) ≤ (bm : Int) := by omega
                      have bi1 : (bm : Int) < 300 := by omega
                      have hcell : wr.drew.cell? ⟨h, bm, none⟩ = some (.int .i64 ((fillZ T1 0 a2 m2).getD bm 0)) := by
                        have : wr.cell? ⟨h, bm, none⟩ = some (.int .i64 ((fillZ T1 0 a2 m2).getD bm 0)) := by rw [HWm.out.cell, zcells_get (by rw [fillZ_length, hT1l]; omega)]
                        exact this
                      have hfz : wr.drew.frozen? ⟨h, bm, none⟩ = false := HWm.out.free bm
                      have HR9' : Hid (Run w (wr.setCell ⟨h, bm, none⟩ (.int .i64 0)).drew p sg (.slice (some ⟨g, 0, none⟩) N1 c') N1 L1) := (run_set HRm.out HWm.out (i := bm) (by decide) (by decide) hw2 (.int .i64 0)).drewN 1
                      have HW9 : Hid (Row (wr.setCell ⟨h, bm, none⟩ (.int .i64 0)).drew h 45 (zcells (fillZ T1 0 a2 (m2 + 1)))) := by
                        unfold Hid; rw [fillZ_succ, ← hbm, zcells_set]; exact (HWm.out.set bm _).drewN 1
                      generalize (fillZ T1 0 a2 m2).getD bm 0 = tv at hcell
                      clear hbm
                      go_wp2
                      go_region
                      go_wp2
                      generalize (wr.setCell ⟨h, bm, none⟩ (.int .i64 0)).drew = w7 at *
                      go_roundw
                      case rel => exact ⟨m2 + 1, hmk, by rw [HBM.out]; go_num, HR9'.out, HW9.out⟩
                      case measure => simp [intOf]; omega
                    · obtain rfl : m2 = n2 := by omega
                      have gb : decide (bm < an) = false := by simp; have := HAN.out; omega
                      obtain ⟨q, hq⟩ : ∃ q, N1 = q + 1 := ⟨N1 - 1, by omega⟩
                      have hsubq : (N1 : Int) - 1 = (q : Int) := by omega
                      have hwq : IntKind.i64.wrap (q : Int) = (q : Int) := IntWalk.i64_in _ (by omega)
                      have hqN : q < N1 := by omega
                      have q0 : (0 : Int) ≤ (q : Int) := by omega
                      have q1 : (q : Int) < (N1 : Int) := by omega
                      have HQ := Lib.hid hq
                      obtain ⟨a3, n3, hx3⟩ : ∃ a3 n3, xAt L1 q = (a3, n3) := ⟨_, _, rfl⟩
                      have hdr : Run w wr.drew p sg (.slice (some ⟨g, 0, none⟩) N1 c') N1 L1 := HRm.out.drewN 1
                      obtain ⟨p0, p1⟩ := run_cells hdr hx3 hqN
                      obtain ⟨p0', p1'⟩ := run_cells HRm.out hx3 hqN
                      obtain ⟨hput, hkput, f0, f1⟩ := run_put HRm.out hkN (a3, n3)
                      have f0' : wr.drew.frozen? ⟨g, k * 2, none⟩ = false := f0
                      have f1' : wr.drew.frozen? ⟨g, k * 2 + 1, none⟩ = false := f1
                      have hsw : (L1.set k (a3, n3)).take q = swapL L1 k := by unfold swapL; rw [HLf.out, hq, Nat.add_sub_cancel, hx3]
                      have hrl := run_less hput (show q ≤ N1 by omega)
                      rw [hsw] at hrl
                      have HRL : Hid (Run w ((wr.setCell ⟨g, k * 2, none⟩ (.int .i64 (a3 : Int))).setCell ⟨g, k * 2 + 1, none⟩ (.int .i64 (n3 : Int))).drew p sg (.slice (some ⟨g, 0, none⟩) q c') q (swapL L1 k)) := hrl.drewN 1
                      have HWL : Hid (Row ((wr.setCell ⟨g, k * 2, none⟩ (.int .i64 (a3 : Int))).setCell ⟨g, k * 2 + 1, none⟩ (.int .i64 (n3 : Int))).drew h 45 (zcells (fillZ T1 0 a2 m2))) := (hkput _ _ _ HWm.out (by decide) (by decide)).drewN 1
                      have HSL : Hid ((swapL L1 k).length = q) := by unfold Hid; rw [swapL_length, HLf.out]; omega
                      have hqi : q ≤ i + 1 := by omega
                      have e0' : wr.drew.cell? ⟨g, k * 2, none⟩ = some (.int .i64 (a2 : Int)) := e0
                      have e1' : wr.drew.cell? ⟨g, k * 2 + 1, none⟩ = some (.int .i64 (m2 : Int)) := e1
                      have c1'' : N1 ≤ c' := by obtain ⟨A9, c9, e9, h9, _⟩ := own2_form HRm.out.own; injection e9 with _ _ e9; omega
                      obtain ⟨i0, hi0, _, hz, _⟩ := ext_info
                      have hhd := fun w' kk => run_head (P := Try.prog) w' 29 36 i0 Try.underlying29 hi0 (some ⟨g, 0, none⟩) N1 c' q (by omega) kk (q : Int) rfl
                      clear hbm hq hx3 hput hkput hsw hrl hi0 hz hdr
                      go_wp2
                      go_region
                      go_wp2
                      generalize ((wr.setCell ⟨g, k * 2, none⟩ (.int .i64 (a3 : Int))).setCell ⟨g, k * 2 + 1, none⟩ (.int .i64 (n3 : Int))).drew = w7 at *
                      go_roundw
                      case rel => exact ⟨i + 1, q, c', _, sg, _, _, by omega, hqi, by go_num, rfl, HSL.out, HBK2.out, HOT2.out, HRL.out, HWL.out⟩
                      case measure => simp [intOf]; omega
                · have ge : ((r2 : Int) == 0) = false := by simp; omega
                  have ge' : (r2 == 0) = false := by simp; omega
                  clear hev
                  go_wp2
                  go_roundw
                  case rel => exact ⟨i + 1, N1, c', A', s1, L1, T1, by omega, hN1i, by go_num, rfl, HLf.out, HBK.out, HOT.out, HR7.out, HWf.out⟩
                  case measure => simp [intOf]; omega
              · have gn : decide (0 < N1) = false := by simp; omega
                have gn' : decide ((N1 : Int) > 0) = false := by simp; omega
                go_wp2
                go_roundw
                case rel => exact ⟨i + 1, N1, c', A', s1, L1, T1, by omega, hN1i, by go_num, rfl, HLf.out, HBK.out, HOT.out, HR7.out, HWf.out⟩
                case measure => simp [intOf]; omega
            · have gg : decide (i < len1) = false := by simp; omega
              have gg' : decide ((i : Int) < (len1 : Int)) = false := by simp; omega
              go_wp2
              go_roundw
              case rel => exact ⟨i + 1, N1, c', A', s1, L1, T1, by omega, hN1i, by go_num, rfl, HLf.out, HBK.out, HOT.out, HR7.out, HWf.out⟩
              case measure => simp [intOf]; omega
      · rw [e] at hc
        have HC := Lib.hid hc
        have HBK : Hid (Book s 5 255 L) := HK.out
        have HOT : Hid (Own0 L 300 T) := HT.out
        clear hc e
        go_wp2_with fail
        refine HC.out.mono ?_
        rintro e w5 ⟨rfl, hr4, hk4⟩
        have HR7 := Lib.hid hr4
        have HWf := Lib.hid (hk4 _ _ _ HW.out (by decide) (by decide))
        have HLf := HL
        have hN1i : N ≤ i + 1 := by omega
        clear hr4 hk4 d0 HC HK HT HR HW HL hmod htm hw8 hadd hr20 hn1 hn2 hNi hbl hx256
        by_cases hg : i < len1
        · have gg : decide (i < len1) = true := by simp; omega
          have gg' : decide ((i : Int) < (len1 : Int)) = true := by simp; omega
          by_cases hN0 : 0 < N
          · have gn : decide (0 < N) = true := by simp; omega
            have gn' : decide ((N : Int) > 0) = true := by simp; omega
            obtain ⟨b2, off2, y, rfl, hbb2, d2, hy, _⟩ := (HZ1.out.keep HR7.out.base).at_ hg
            have hy256 := u8_lt hy
            have hbl2 : b2 < w5.heap.size := by have := HR7.out.base.size; omega
            have gj1 : (i : Int) < (len1 : Int) := by omega
            obtain ⟨r2, hr2⟩ : ∃ r : Nat, r = y % 2 := ⟨_, rfl⟩
            have hmod2 : ((y : Int)) % 2 = (r2 : Int) := by omega
            have htm2 : ((y : Int)).tmod 2 = (r2 : Int) := by rw [Int.tmod_eq_emod_of_nonneg (by omega)]; omega
            have hr22 : r2 < 2 := by omega
            have hw82 : IntKind.u8.wrap (r2 : Int) = (r2 : Int) := by rw [IntKind.wrap_u8]; omega
            clear hr2
            by_cases hev : r2 = 0
            · have ge : ((r2 : Int) == 0) = true := by simp; omega
              have ge' : (r2 == 0) = true := by simp; omega
              obtain ⟨k, hk⟩ : ∃ k : Nat, k = y % N := ⟨_, rfl⟩
              have hkN : k < N := by rw [hk]; exact Nat.mod_lt _ hN0
              have hmod3 : ((y : Int)) % (N : Int) = (k : Int) := by rw [hk]; omega
              have htm3 : ((y : Int)).tmod (N : Int) = (k : Int) := by rw [Int.tmod_eq_emod_of_nonneg (by omega)]; exact hmod3
              have hN1z : ¬ ((N : Int) = 0) := by omega
              have hwy : IntKind.i64.wrap (y : Int) = (y : Int) := IntWalk.i64_in _ (by omega)
              have hwk : IntKind.i64.wrap (k : Int) = (k : Int) := IntWalk.i64_in _ (by omega)
              obtain ⟨g, rfl, hgl, e0, e1⟩ := own2_at HR7.out.own hkN
              have hkl : k < L.length := by rw [HLf.out]; exact hkN
              have hpos := HBK.out.pos _ (getD_lt hkl)
              obtain ⟨sg, hsg, hgv⟩ := HBK.out.give (a := (xAt L k).1) (n := (xAt L k).2) HR7.out.ok hpos (fun b => cntB_at hkl b)
              have hgl1 := hgv.lo
              have hgl2 := hgv.hi
              rw [HBK.out.first] at hgl1
              rw [HBK.out.last] at hgl2
              have HBK2 : Hid (Book sg 5 255 (swapL L k)) := HBK.out.gave hgv (fun b => cntB_swap hkl b) (fun x hx => HBK.out.pos x (swapL_mem hkl hx))
              have HOT2 : Hid (Own0 (swapL L k) 300 (fillZ T 0 (xAt L k).1 (xAt L k).2)) := HOT.out.gave (by omega) HBK.out.le (fun b => cntB_swap hkl b)
              have hT1l := HOT.out.1
              have hcg := run_give (HR7.out.drewN 1) (f := ((xAt L k).1 : Int)) (m := ((xAt L k).2 : Int)) (I64.of (by omega) (by omega)) (I64.of (by omega) (by omega))
              rw [hsg] at hcg
              have HX : Hid (xAt L k = ((xAt L k).1, (xAt L k).2)) := rfl
              generalize (xAt L k).1 = a2 at *
              generalize (xAt L k).2 = n2 at *
              have HCG := Lib.hid hcg
              obtain ⟨an, han⟩ : ∃ an, an = a2 + n2 := ⟨_, rfl⟩
              have hadd4 : (a2 : Int) + (n2 : Int) = (an : Int) := by omega
              have hw4 : IntKind.i64.wrap (an : Int) = (an : Int) := IntWalk.i64_in _ (by omega)
              have hanl : an ≤ 255 := by omega
              have ki0 : (0 : Int) ≤ (k : Int) := by omega
              have ki1 : (k : Int) < (N : Int) := by omega
              have HAN := Lib.hid han
              clear hcg hsg hgv hk hev han
              go_wp2
              go_region_held3 (fun w' => w'.cell? ⟨g, k * 2, none⟩ = some (.int .i64 (a2 : Int)) ∧ w'.cell? ⟨g, k * 2 + 1, none⟩ = some (.int .i64 (n2 : Int)))
                (first | (exact ⟨e0, e1⟩) | (exact run_cells hr6 HX.out hkN))
                ((go_split_ands; go_at_call 12; refine HCG.out.mono ?_; rintro e w6 ⟨rfl, hr6, hk6⟩))
              have HR8 := Lib.hid hr6
              have HW8 := Lib.hid (hk6 _ _ _ (HWf.out.drewN 1) (by decide) (by decide))
              clear hr6 hk6 e0 e1 d2
              obtain ⟨e0, e1⟩ := run_cells HR8.out HX.out hkN
              go_wp2
              go_loopw [14] (fun bv wl => ∃ m : Nat, m ≤ n2 ∧ bv = .int .i64 ((a2 + m : Nat) : Int) ∧ Hid (Run w wl p sg (.slice (some ⟨g, 0, none⟩) N c) N L) ∧ Hid (Row wl h 45 (zcells (fillZ T 0 a2 m)))) (fun bv _ => an - (intOf bv).toNat)
              case atStart => exact ⟨0, Nat.zero_le _, rfl, HR8.out, HW8.out⟩
              case round =>
                clear e0 e1
                obtain ⟨m2, hm2, rfl, HRm, HWm⟩ := hrel
                obtain ⟨bm, hbm⟩ : ∃ bm, bm = a2 + m2 := ⟨_, rfl⟩
                rw [← hbm]
                have HBM := Lib.hid hbm
                obtain ⟨e0, e1⟩ := run_cells HRm.out HX.out hkN
                by_cases hmk : m2 < n2
                · have hbb' : bm < an := by have := HAN.out; omega
                  have gb : decide (bm < an) = true := by simp; omega
                  have bi0 : (0 : Int) ≤ (bm : Int) := by omega
                  have bi1 : (bm : Int) < 300 := by omega
                  have hcell : wr.drew.cell? ⟨h, bm, none⟩ = some (.int .i64 ((fillZ T 0 a2 m2).getD bm 0)) := by
                    have : wr.cell? ⟨h, bm, none⟩ = some (.int .i64 ((fillZ T 0 a2 m2).getD bm 0)) := by rw [HWm.out.cell, zcells_get (by rw [fillZ_length, hT1l]; omega)]
                    exact this
                  have hfz : wr.drew.frozen? ⟨h, bm, none⟩ = false := HWm.out.free bm
                  have HR9' : Hid (Run w (wr.setCell ⟨h, bm, none⟩ (.int .i64 0)).drew p sg (.slice (some ⟨g, 0, none⟩) N c) N L) := (run_set HRm.out HWm.out (i := bm) (by decide) (by decide) hw2 (.int .i64 0)).drewN 1
                  have HW9 : Hid (Row (wr.setCell ⟨h, bm, none⟩ (.int .i64 0)).drew h 45 (zcells (fillZ T 0 a2 (m2 + 1)))) := by
                    unfold Hid; rw [fillZ_succ, ← hbm, zcells_set]; exact (HWm.out.set bm _).drewN 1
                  generalize (fillZ T 0 a2 m2).getD bm 0 = tv at hcell
                  clear hbm
                  go_wp2
                  go_region
                  go_wp2
                  generalize (wr.setCell ⟨h, bm, none⟩ (.int .i64 0)).drew = w7 at *
                  go_roundw
                  case rel => exact ⟨m2 + 1, hmk, by rw [HBM.out]; go_num, HR9'.out, HW9.out⟩
                  case measure => simp [intOf]; omega
                · obtain rfl : m2 = n2 := by omega
                  have gb : decide (bm < an) = false := by simp; have := HAN.out; omega
                  obtain ⟨q, hq⟩ : ∃ q, N = q + 1 := ⟨N - 1, by omega⟩
                  have hsubq : (N : Int) - 1 = (q : Int) := by omega
                  have hwq : IntKind.i64.wrap (q : Int) = (q : Int) := IntWalk.i64_in _ (by omega)
                  have hqN : q < N := by omega
                  have q0 : (0 : Int) ≤ (q : Int) := by omega
                  have q1 : (q : Int) < (N : Int) := by omega
                  have HQ := Lib.hid hq
                  obtain ⟨a3, n3, hx3⟩ : ∃ a3 n3, xAt L q = (a3, n3) := ⟨_, _, rfl⟩
                  have hdr : Run w wr.drew p sg (.slice (some ⟨g, 0, none⟩) N c) N L := HRm.out.drewN 1
                  obtain ⟨p0, p1⟩ := run_cells hdr hx3 hqN
                  obtain ⟨p0', p1'⟩ := run_cells HRm.out hx3 hqN
                  obtain ⟨hput, hkput, f0, f1⟩ := run_put HRm.out hkN (a3, n3)
                  have f0' : wr.drew.frozen? ⟨g, k * 2, none⟩ = false := f0
                  have f1' : wr.drew.frozen? ⟨g, k * 2 + 1, none⟩ = false := f1
                  have hsw : (L.set k (a3, n3)).take q = swapL L k := by unfold swapL; rw [HLf.out, hq, Nat.add_sub_cancel, hx3]
                  have hrl := run_less hput (show q ≤ N by omega)
                  rw [hsw] at hrl
                  have HRL : Hid (Run w ((wr.setCell ⟨g, k * 2, none⟩ (.int .i64 (a3 : Int))).setCell ⟨g, k * 2 + 1, none⟩ (.int .i64 (n3 : Int))).drew p sg (.slice (some ⟨g, 0, none⟩) q c) q (swapL L k)) := hrl.drewN 1
                  have HWL : Hid (Row ((wr.setCell ⟨g, k * 2, none⟩ (.int .i64 (a3 : Int))).setCell ⟨g, k * 2 + 1, none⟩ (.int .i64 (n3 : Int))).drew h 45 (zcells (fillZ T 0 a2 m2))) := (hkput _ _ _ HWm.out (by decide) (by decide)).drewN 1
                  have HSL : Hid ((swapL L k).length = q) := by unfold Hid; rw [swapL_length, HLf.out]; omega
                  have hqi : q ≤ i + 1 := by omega
                  have e0' : wr.drew.cell? ⟨g, k * 2, none⟩ = some (.int .i64 (a2 : Int)) := e0
                  have e1' : wr.drew.cell? ⟨g, k * 2 + 1, none⟩ = some (.int .i64 (m2 : Int)) := e1
                  have c1'' : N ≤ c := by obtain ⟨A9, c9, e9, h9, _⟩ := own2_form HRm.out.own; injection e9 with _ _ e9; omega
                  obtain ⟨i0, hi0, _, hz, _⟩ := ext_info
                  have hhd := fun w' kk => run_head (P := Try.prog) w' 29 36 i0 Try.underlying29 hi0 (some ⟨g, 0, none⟩) N c q (by omega) kk (q : Int) rfl
                  clear hbm hq hx3 hput hkput hsw hrl hi0 hz hdr
                  go_wp2
                  go_region
                  go_wp2
                  generalize ((wr.setCell ⟨g, k * 2, none⟩ (.int .i64 (a3 : Int))).setCell ⟨g, k * 2 + 1, none⟩ (.int .i64 (n3 : Int))).drew = w7 at *
                  go_roundw
                  case rel => exact ⟨i + 1, q, c, _, sg, _, _, by omega, hqi, by go_num, rfl, HSL.out, HBK2.out, HOT2.out, HRL.out, HWL.out⟩
                  case measure => simp [intOf]; omega
            · have ge : ((r2 : Int) == 0) = false := by simp; omega
              have ge' : (r2 == 0) = false := by simp; omega
              clear hev
              go_wp2
              go_roundw
              case rel => exact ⟨i + 1, N, c, A, s, L, T, by omega, hN1i, by go_num, rfl, HLf.out, HBK.out, HOT.out, HR7.out, HWf.out⟩
              case measure => simp [intOf]; omega
          · have gn : decide (0 < N) = false := by simp; omega
            have gn' : decide ((N : Int) > 0) = false := by simp; omega
            go_wp2
            go_roundw
            case rel => exact ⟨i + 1, N, c, A, s, L, T, by omega, hN1i, by go_num, rfl, HLf.out, HBK.out, HOT.out, HR7.out, HWf.out⟩
            case measure => simp [intOf]; omega
        · have gg : decide (i < len1) = false := by simp; omega
          have gg' : decide ((i : Int) < (len1 : Int)) = false := by simp; omega
          go_wp2
          go_roundw
          case rel => exact ⟨i + 1, N, c, A, s, L, T, by omega, hN1i, by go_num, rfl, HLf.out, HBK.out, HOT.out, HR7.out, HWf.out⟩
          case measure => simp [intOf]; omega
    · obtain rfl : i = len0 := by omega
      have g0 : decide (i < i) = false := by simp
      clear hlt hi
      have hN60 : N ≤ 60 := by omega
      go_wp2
      generalize wr = wo at *
      go_loopw [15] (fun iv wl => ∃ (j : Nat) (s : Sp), j ≤ N ∧ iv = .int .i64 (j : Int) ∧ Hid (Book s 5 255 (L.drop j)) ∧ Hid (Run w wl p s (.slice A N c) N L)) (fun iv _ => N - (intOf iv).toNat)
      case atStart => exact ⟨0, s, Nat.zero_le _, rfl, HK.out, HR.out⟩
      case round =>
        clear HK HR HT HW HB1 HR2 HZ0 HZ1
        obtain ⟨j, s, hj, rfl, HK, HR⟩ := hrel
        by_cases hjN : j < N
        · have gj : decide (j < N) = true := by simp; omega
          obtain ⟨g, rfl, hgl, e0, e1⟩ := own2_at HR.out.own hjN
          have hkl : j < L.length := by rw [HL.out]; exact hjN
          have hdr : L.drop j = xAt L j :: L.drop (j + 1) := by rw [List.drop_eq_getElem_cons hkl, xAt_eq hkl]
          have hK := HK.out
          rw [hdr] at hK
          have hpos := hK.pos _ List.mem_cons_self
          obtain ⟨sg, hsg, hgv⟩ := hK.give (a := (xAt L j).1) (n := (xAt L j).2) HR.out.ok hpos (fun b => by rw [cntB_cons]; exact Nat.le_add_right _ _)
          have hgl1 := hgv.lo
          have hgl2 := hgv.hi
          rw [hK.first] at hgl1
          rw [hK.last] at hgl2
          have HBK2 : Hid (Book sg 5 255 (L.drop (j + 1))) := hK.gave hgv (fun b => by rw [cntB_cons]; exact Nat.add_comm _ _) (fun x hx => hK.pos x (List.mem_cons_of_mem _ hx))
          have hcg := run_give (HR.out.drewN 1) (f := ((xAt L j).1 : Int)) (m := ((xAt L j).2 : Int)) (I64.of (by omega) (by omega)) (I64.of (by omega) (by omega))
          rw [hsg] at hcg
          have HX : Hid (xAt L j = ((xAt L j).1, (xAt L j).2)) := rfl
          generalize (xAt L j).1 = a2 at *
          generalize (xAt L j).2 = n2 at *
          have HCG := Lib.hid hcg
          have ki0 : (0 : Int) ≤ (j : Int) := by omega
          have ki1 : (j : Int) < (N : Int) := by omega
          clear hcg hsg hgv hdr hK
          go_wp2
          go_region_held3 (fun w' => w'.cell? ⟨g, j * 2, none⟩ = some (.int .i64 (a2 : Int)) ∧ w'.cell? ⟨g, j * 2 + 1, none⟩ = some (.int .i64 (n2 : Int)))
            (first | (exact ⟨e0, e1⟩) | (exact run_cells hr6 HX.out hjN))
            ((go_split_ands; go_at_call 12; refine HCG.out.mono ?_; rintro e w6 ⟨rfl, hr6, hk6⟩))
          have HR8 := Lib.hid hr6
          clear hr6 hk6 e0 e1
          go_wp2
          go_roundw
          case rel => exact ⟨j + 1, sg, by omega, by go_num, HBK2.out, HR8.out⟩
          case measure => simp [intOf]; omega
        · obtain rfl : j = N := by omega
          have gj : decide (j < j) = false := by simp
          have hK := HK.out
          rw [List.drop_of_length_le (by rw [HL.out]; exact Nat.le_refl _)] at hK
          have hfr := hK.all HR.out.ok (by omega)
          have hex := run_extents HR.out
          have HFREE : Hid (∀ W, Run w W p s (.slice A j c) j L → Calls Try.prog 16 #[.pointer (some ⟨p, 0, none⟩)] W fun e w' => e = .returned (.int .i64 250) ∧ Below W.heap.size W w') := fun W hr => by
            have := run_free hr
            rw [hfr] at this; exact this
          rw [hfr] at hex
          have HEX := Lib.hid hex
          have HFR : Hid (xAt s.fr 0 = (5, 250)) := by unfold Hid; rw [hfr]; rfl
          have HFL : Hid (s.fr.length = 1) := by unfold Hid; rw [hfr]; rfl
          clear hex hfr hK
          go_wp2_with fail
          refine HEX.out.mono ?_
          rintro e w5 ⟨A5, c5, rfl, hr5, hr5', _⟩
          have HR5 := Lib.hid hr5
          have HR5' := Lib.hid hr5'
          clear hr5 hr5'
          go_wp2_with fail
          refine (HFREE.out _ HR5.out).mono ?_
          rintro e w6 ⟨rfl, hb6⟩
          have HR6 := Lib.hid (HR5'.out.far hb6)
          clear hb6
          obtain ⟨g, rfl, hgl, e0, e1⟩ := own2_at HR6.out.own (i := 0) (by decide)
          have HB6 := Lib.hid HR6.out.base
          have hq := fun W => eql_ext W 5 250 5 250
          have hgd := fun W x y => guardq_ext W x y 5 250 5 250
          have e0' : w6.cell? ⟨g, 0, none⟩ = some (.int .i64 5) := e0
          have e1' : w6.cell? ⟨g, 1, none⟩ = some (.int .i64 250) := e1
          clear e0 e1
          go_wp2
          go_ret
          exact ⟨by simp, HB6.out⟩

set_option maxRecDepth 100000 in
theorem lifted (os : Os) (started : os.Started) (H : Type) (enc : TypeId × Value → H) :
    ReturnsInHanded {} Try.checked os 4 .any (Rows.spaceApartSpec.pre6 enc Try.prog Try.f4 Rows.spaceApartRow.domain false) (Rows.spaceApartSpec.post enc Try.prog Try.f4 false true false false) := by
  refine returnsInHanded_of_change (C := Try.checked) own started (by kernel_rfl) Try.func4
    (ChangeSpec.witness6 (enc := enc) (C := Try.checked) false ⟨#[], #[.slice none 0 0, .slice none 0 0], []⟩ 8 (by kernel_rfl) (by kernel_rfl) (by kernel_rfl) (by kernel_rfl)) ?_
  intro W base args ds gs before hval0 hW hcnd _
  have hval : ∀ (j : Nat) t v, Try.f4.params[j]? = some t → args[j]? = some v → Value.okWide Try.prog W .any base t v := hval0
  have hW' := hW
  obtain ⟨p, q, hA0, hV, rfl, hfz, hnd⟩ := hW
  have hA : DataW.TrodAll enc Try.prog W 0 (fun _ => true) true Try.f4.params.toList args.toList ds p := hA0
  rw [Try.params4] at hA hval
  obtain ⟨v0, vs0, d0, ds0, p0, q0, hargs, rfl, rfl, h0, r0⟩ := trodAll_cons hA
  obtain ⟨v1, vs1, d1, ds1, p1, q1, rfl, rfl, rfl, h1, r1⟩ := trodAll_cons r0
  obtain ⟨rfl, rfl, rfl⟩ := trodAll_nil r1
  obtain rfl : args = #[v0, v1] := by cases args; simp_all
  obtain ⟨rfl, rfl⟩ := trodVars_none hV
  have k0 := h0
  have lt0 : ∀ x ∈ p0, x.block < W.heap.size := by obtain ⟨m, hm⟩ := k0; exact DataW.trod_lt m _ _ _ hm
  have k1 := h1
  have lt1 : ∀ x ∈ p1, x.block < W.heap.size := by obtain ⟨m, hm⟩ := k1; exact DataW.trod_lt m _ _ _ hm
  obtain ⟨a0, len0, cap0, rfl⟩ := okWide_slice Try.underlying44 (hval 0 44 v0 rfl rfl)
  obtain ⟨z0, w0⟩ : ∃ zs, IsRow .u8 W a0 len0 cap0 zs := by
    obtain ⟨fuel, hf⟩ := h0
    rcases open_ints Try.underlying44 Try.underlying5 (by kernel_rfl) hf with ⟨hcs, _⟩ | ⟨x, l, c, zs, hcs, _, hl, hm, hz, _, hcell, hwz⟩
    · simp [Value.cells] at hcs
      obtain ⟨rfl, rfl, rfl⟩ := hcs
      exact ⟨[], .inl ⟨rfl, rfl, rfl, rfl⟩⟩
    · simp [Value.cells] at hcs
      obtain ⟨rfl, rfl, rfl⟩ := hcs
      exact ⟨zs, .inr ⟨_, rfl, hl, hm, by simpa using hz, hcell, hwz⟩⟩
  obtain ⟨a1, len1, cap1, rfl⟩ := okWide_slice Try.underlying44 (hval 1 44 v1 rfl rfl)
  obtain ⟨z1, w1⟩ : ∃ zs, IsRow .u8 W a1 len1 cap1 zs := by
    obtain ⟨fuel, hf⟩ := h1
    rcases open_ints Try.underlying44 Try.underlying5 (by kernel_rfl) hf with ⟨hcs, _⟩ | ⟨x, l, c, zs, hcs, _, hl, hm, hz, _, hcell, hwz⟩
    · simp [Value.cells] at hcs
      obtain ⟨rfl, rfl, rfl⟩ := hcs
      exact ⟨[], .inl ⟨rfl, rfl, rfl, rfl⟩⟩
    · simp [Value.cells] at hcs
      obtain ⟨rfl, rfl, rfl⟩ := hcs
      exact ⟨zs, .inr ⟨_, rfl, hl, hm, by simpa using hz, hcell, hwz⟩⟩
  clear hA0 hval0
  refine (walk a0 len0 cap0 z0 a1 len1 cap1 z1 W w0 w1).mono fun e W' ⟨he, bel⟩ => ?_
  subst he
  exact ⟨_, rfl, _, _, _, [], _, [], hW', trodAll_mk1 (shut_bool Try.underlying4 _), (trodAll_cons_mk (Below.trod laidOut (by kernel_rfl) (of_decide_eq_true (by kernel_rfl)) k0 bel lt0) (trodAll_cons_mk (Below.trod laidOut (by kernel_rfl) (of_decide_eq_true (by kernel_rfl)) k1 bel lt1) trodAll_mk0)), rfl, bel.frame _, fun h => by cases h⟩

theorem over : Rows.spaceApartRow.holds Try.pinned (OpenSpec.ofChange Rows.spaceApartSpec) :=
  OpenClaim.holds_of_wide 4 Try.f4 rfl rfl rfl rfl rfl rfl rfl ⟨rfl, rfl, rfl, rfl, rfl⟩ rfl rfl rfl rfl rfl (by kernel_rfl) Try.func4 (by kernel_rfl)
    (of_decide_eq_true (by kernel_rfl)) (by unfold Func.isWrapper; first | (rw [if_pos (by decide +kernel)]; kernel_rfl) | (rw [if_neg (by decide +kernel)]; exact ⟨rfl, rfl⟩))
    (fun os started H enc _ => lifted os started H enc)

theorem proved : Rows.SpaceApartSaid := over
end Go.Proofs.Ytjpomohfoknjiaa.spaceApart
