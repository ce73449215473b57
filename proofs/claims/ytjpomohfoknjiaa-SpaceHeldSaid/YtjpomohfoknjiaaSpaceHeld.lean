/-
  SpaceHeld: for whatever is held, whatever is taken then; no condition.
-/
import Derived.Test.YtjpomohfoknjiaaRows
import Derived.Test.YtjpomohfoknjiaaSpTab
import Derived.WalkKit
import Derived.ProofKit
import Derived.OpenShut
import Derived.ShutString
import Derived.ChangeOld
import Derived.Below
namespace Go.Proofs.Ytjpomohfoknjiaa.spaceHeld
open Go.ChangeShapes Go.WideShapes Go.ChangeAt Go.RowKit
open Go.ChangeMaps (open_string shut_string)
set_option linter.unusedVariables false

theorem own : ownKnob Try.prog.godebug = none := by kernel_rfl
theorem laidOut : laidOutB Try.prog = true := by kernel_rfl

theorem arr_info : ∃ i, Try.prog.info? 49 = some i ∧ i.zero = some (.agg (bcells (List.replicate 210 false)).toArray) ∧ i.size = 210 ∧ i.bytes = 210 := info_parts (by kernel_rfl)
theorem arr_zero (w : World) (Z : Array Value) (hZ : Z = (bcells (List.replicate 210 false)).toArray) : (zeroValue 49).run Try.prog w = .ok (.agg Z) w := by
  subst hZ
  obtain ⟨i, hi, hz, _⟩ := arr_info
  simp [zeroValue, typeInfo, hi, hz]
/-- what one step of a fill leaves -/
theorem fillT_succ (l : List Bool) (a n : Nat) : fillT l a (n + 1) = (fillT l a n).set (a + n) true := rfl

set_option maxHeartbeats 4000000 in
set_option maxRecDepth 100000 in
theorem walk (a0 : Option Addr) (len0 cap0 : Nat) (l0 : List (Nat × Nat)) (a1 : Int) (w : World) (wr0 : ReadsP w w.heap.size a0 len0 l0) (wm0 : len0 ≤ maxLen) (w1 : (Lit.int .u8 a1).wf = true) :
    Calls Try.prog 6 #[.slice a0 len0 cap0, .int .u8 a1] w fun e w' => e = .returned (.bool true) ∧ Below w.heap.size w w' := by
  have hm0 : len0 ≤ 9223372036854775807 := by unfold maxLen at wm0; omega
  have HZ0 := Lib.hid wr0
  obtain ⟨c1, rfl⟩ : ∃ c : Nat, a1 = (c : Int) := ⟨a1.toNat, by have := u8_nonneg a1 w1; omega⟩
  have hc1 := u8_lt w1
  clear wm0 wr0 w1
  go_enter Try.func6, Try.ntmps6
  go_wp2_with fail
  refine (awake_any _).mono ?_; rintro e w1 ⟨rfl, hb1⟩
  have HB1 := Lib.hid hb1
  have hs1 := hb1.size
  clear hb1
  by_cases hbig : len0 > 30
  · have g1 : decide ((len0 : Int) > 30) = true := by simp; omega
    have g2 : decide (30 < len0) = true := by simp; omega
    go_wp2_with fail
    refine (awake_any _).mono ?_; rintro e w2 ⟨rfl, hb2⟩
    have HB2 := Lib.hid (HB1.out.trans (hb2.mono hs1))
    clear hb2
    go_wp2
    go_ret
    exact ⟨rfl, HB2.out⟩
  have g1 : decide ((len0 : Int) > 30) = false := by simp; omega
  have g2 : decide (30 < len0) = false := by simp; omega
  have HN := Lib.hid (run_new (w0 := w) (w := w1) (f := 3) (n := 200) (by omega) (by omega) HB1.out)
  go_wp2_with fail
  refine HN.out.mono ?_
  rintro e w2 ⟨p, rfl, hr2, _⟩
  have HR2 := Lib.hid hr2
  clear hr2 HN
  obtain ⟨Z, hZ⟩ : ∃ Z, Z = (bcells (List.replicate 210 false)).toArray := ⟨_, rfl⟩
  have hz := fun w => arr_zero w Z hZ
  have hrow : Row (w2.alloc (.cells Z 49)) w2.heap.size 49 (bcells (List.replicate 210 false)) := by rw [hZ]; exact heap_alloc_new _ _
  have HROW := Lib.hid hrow
  have HR3 := Lib.hid (HR2.out.far ((Below.refl _ w2).alloc (Nat.le_refl _) (.cells Z 49)))
  have hw2 := HR2.out.base.size
  clear hZ hrow
  go_wp2
  generalize w2.alloc (.cells Z 49) = w3 at *
  obtain ⟨h, hh⟩ : ∃ h, h = w2.heap.size := ⟨_, rfl⟩
  rw [← hh] at HROW hw2 ⊢
  have HT0 : Hid (Tab (newSp 3 200) 3 203 210 (List.replicate 210 false)) := by
    refine ⟨by simp, rfl, rfl, fun b hb => ?_⟩
    rw [newSp_has, List.getD_eq_getElem?_getD, List.getElem?_replicate, if_pos hb]
    simp; omega
  clear hh hz
  go_loopw [7, 8] (fun cv iv wr => ∃ (i : Nat) (s : Sp) (T : List Bool) (c : Nat), i ≤ len0 ∧ iv = .int .i64 (i : Int) ∧ cv = .int .i64 (c : Int) ∧ c + sumB s.fr = 200 ∧ Hid (Tab s 3 203 210 T) ∧ Hid (Run w wr p s (.slice none 0 0) 0 []) ∧ Hid (Row wr h 49 (bcells T))) (fun _ iv _ => len0 - (intOf iv).toNat)
  case atStart => exact ⟨0, _, _, 0, by omega, rfl, rfl, rfl, HT0.out, HR3.out, HROW.out⟩
  case round =>
    obtain ⟨i, s, T, c, hi, rfl, rfl, hcs, HT, HR, HW⟩ := hrel
    have hpl := HR.out.lt
    by_cases hlt : i < len0
    · have g0 : decide (i < len0) = true := by simpa using hlt
      obtain ⟨b, off, x, y, rfl, hbb, d0, d1, hx, hy⟩ := (HZ0.out.keep HR.out.base).at_ hlt
      have hbl : b < wr.heap.size := by have := HR.out.base.size; omega
      have hj0 : (0 : Int) ≤ (i : Int) := by omega
      have hj1 : (i : Int) < (len0 : Int) := by omega
      obtain ⟨r1, hr1⟩ : ∃ r : Nat, r = x % 200 := ⟨_, rfl⟩
      have hmod1 : ((x : Int)) % 200 = (r1 : Int) := by omega
      have htm1 : ((x : Int)).tmod 200 = (r1 : Int) := by rw [Int.tmod_eq_emod_of_nonneg (by omega)]; omega
      have hr1' : r1 < 200 := by omega
      have hw1 : IntKind.i64.wrap (r1 : Int) = (r1 : Int) := IntWalk.i64_in _ (by omega)
      obtain ⟨r2, hr2⟩ : ∃ r : Nat, r = y % 12 := ⟨_, rfl⟩
      have hmod2 : ((y : Int)) % 12 = (r2 : Int) := by omega
      have htm2 : ((y : Int)).tmod 12 = (r2 : Int) := by rw [Int.tmod_eq_emod_of_nonneg (by omega)]; omega
      have hr2' : r2 < 12 := by omega
      have hw2' : IntKind.u8.wrap (r2 : Int) = (r2 : Int) := by rw [IntKind.wrap_u8]; omega
      have hwx : IntKind.i64.wrap (x : Int) = (x : Int) := IntWalk.i64_in _ (by omega)
      obtain ⟨f, hf⟩ : ∃ f : Nat, f = 3 + r1 := ⟨_, rfl⟩
      obtain ⟨k, hk⟩ : ∃ k : Nat, k = 1 + r2 := ⟨_, rfl⟩
      have hadd1 : (3 : Int) + (r1 : Int) = (f : Int) := by omega
      have hadd2 : (1 : Int) + (r2 : Int) = (k : Int) := by omega
      have hf1 : 3 ≤ f := by omega
      have hf2 : f < 203 := by omega
      have hk1 : 1 ≤ k := by omega
      have hk2 : k ≤ 12 := by omega
      clear hr1 hr2 hf hk
      obtain ⟨fk, hfk⟩ : ∃ fk : Nat, fk = f + k := ⟨_, rfl⟩
      have hadd3 : (f : Int) + (k : Int) = (fk : Int) := by omega
      have hw3 : IntKind.i64.wrap (fk : Int) = (fk : Int) := IntWalk.i64_in _ (by omega)
      have hfk1 : f ≤ fk := by omega
      have hfk2 : fk ≤ 215 := by omega
      have HFK := Lib.hid hfk
      clear hfk
      go_wp2
      go_region
      have HR' := Lib.hid (HR.out.drewN 1)
      have HW' : Hid (Row wr.drew h 49 (bcells T)) := HW.out.drewN 1
      have HX' : Hid (Run w wr.drew p s (.slice none 0 0) 0 []) := HR'.out
      clear HR HW HR' d0 d1
      generalize wr.drew = wo at *
      go_wp2
      go_loopw [11, 12] (fun tv bv wl => ∃ (b' : Nat) (t : Bool), f ≤ b' ∧ b' ≤ fk ∧ tv = .bool t ∧ bv = .int .i64 (b' : Int) ∧ wl = wo ∧ Hid (t = true ↔ fk ≤ 203 ∧ ∀ j, f ≤ j → j < b' → T.getD j false = false)) (fun _ bv _ => fk - (intOf bv).toNat)
      case atStart => exact ⟨f, decide ((fk : Int) ≤ 203), Nat.le_refl _, hfk1, rfl, rfl, by trivial, by unfold Hid; rw [decide_eq_true_eq]; exact ⟨fun h => ⟨by omega, fun j h1 h2 => by omega⟩, fun h => by omega⟩⟩
      case round =>
        obtain ⟨b', t, hb1, hb2, rfl, rfl, rfl, HTT⟩ := hrel
        cases t with
        | false =>
          have hnr : ¬ roomB s f k := fun hroom => by
            have h1 := (HT.out.room HX'.out.ok hk1 (by omega) hf1).1 hroom
            have h2 := HTT.out
            have : false = true := h2.2 ⟨by have := HFK.out; omega, fun j hj hj2 => h1.2 j hj (by have := HFK.out; omega)⟩
            cases this
          have hsp : holdS s (f : Int) (k : Int) = (s, 1) := by
            rcases holdS_spec HX'.out.ok (f : Int) (k : Int) with ⟨s', a, m, ha, hm, h1, e, ht⟩ | ⟨e, _⟩
            · have ha : f = a := by omega
              have hm : k = m := by omega
              subst ha; subst hm
              exact absurd ht.room hnr
            · exact e
          have hc := run_hold HX'.out (f := (f : Int)) (m := (k : Int)) (I64.of (by omega) (by omega)) (I64.of (by omega) (by omega))
          rw [hsp] at hc
          have HC := Lib.hid hc
          clear hc hsp hnr
          by_cases hbf : b' < fk
          · have gb : decide (b' < fk) = true := by simp; omega
            go_wp2_with fail
            refine HC.out.mono ?_
            rintro e w4 ⟨rfl, hr4, hk4⟩
            have HR4 := Lib.hid hr4
            have HW4 := Lib.hid (hk4 _ _ _ HW'.out (by decide) (by decide))
            clear hr4 hk4
            go_wp2
            go_loopw [7, 13] (fun cv bv wl => cv = .int .i64 (c : Int) ∧ bv = .int .i64 (f : Int) ∧ wl = w4) (fun _ _ _ => 0)
            case atStart => exact ⟨rfl, rfl, by trivial⟩
            case round =>
              obtain ⟨rfl, rfl, rfl⟩ := hrel
              go_wp2
              go_roundw
              case rel => exact ⟨i + 1, s, T, c, by omega, by go_num, rfl, hcs, HT.out, HR4.out, HW4.out⟩
              case measure => simp [intOf]; omega
          · have gb : decide (b' < fk) = false := by simp; omega
            go_wp2_with fail
            refine HC.out.mono ?_
            rintro e w4 ⟨rfl, hr4, hk4⟩
            have HR4 := Lib.hid hr4
            have HW4 := Lib.hid (hk4 _ _ _ HW'.out (by decide) (by decide))
            clear hr4 hk4
            go_wp2
            go_loopw [7, 13] (fun cv bv wl => cv = .int .i64 (c : Int) ∧ bv = .int .i64 (f : Int) ∧ wl = w4) (fun _ _ _ => 0)
            case atStart => exact ⟨rfl, rfl, by trivial⟩
            case round =>
              obtain ⟨rfl, rfl, rfl⟩ := hrel
              go_wp2
              go_roundw
              case rel => exact ⟨i + 1, s, T, c, by omega, by go_num, rfl, hcs, HT.out, HR4.out, HW4.out⟩
              case measure => simp [intOf]; omega
        | true =>
          have h203 : fk ≤ 203 := (HTT.out.1 rfl).1
          by_cases hbf : b' < fk
          · have gb : decide (b' < fk) = true := by simp; omega
            have hcell : wr.cell? ⟨h, b', none⟩ = some (.bool (T.getD b' false)) := by rw [HW'.out.cell, bcells_get (by rw [HT.out.1]; omega)]
            have bi0 : (0 : Int) ≤ (b' : Int) := by omega
            have bi1 : (b' : Int) < 210 := by omega
            have HTN : Hid ((!T.getD b' false) = true ↔ fk ≤ 203 ∧ ∀ j, f ≤ j → j < b' + 1 → T.getD j false = false) := by
              unfold Hid
              have h2 := (HTT.out.1 rfl).2
              constructor
              · intro h3
                refine ⟨h203, fun j h4 h5 => ?_⟩
                rcases Nat.lt_or_ge j b' with h6 | h6
                · exact h2 j h4 h6
                · obtain rfl : j = b' := by omega
                  simpa using h3
              · intro h3
                rw [h3.2 b' hb1 (by omega)]; rfl
            generalize T.getD b' false = tb at hcell HTN
            go_wp2
            go_roundw
            case rel => exact ⟨b' + 1, !tb, by omega, by omega, rfl, by go_num, by trivial, HTN.out⟩
            case measure => simp [intOf]; omega
          · obtain rfl : b' = fk := by omega
            have gb : decide (b' < b') = false := by simp
            have hroom : roomB s f k := (HT.out.room HX'.out.ok hk1 (by omega) hf1).2 ⟨by have := HFK.out; omega, fun j h1 h2 => (HTT.out.1 rfl).2 j h1 (by have := HFK.out; omega)⟩
            obtain ⟨s', hsp, htk⟩ : ∃ s', holdS s (f : Int) (k : Int) = (s', 0) ∧ Took s s' f k := by
              rcases holdS_spec HX'.out.ok (f : Int) (k : Int) with ⟨s', a, m, ha, hm, h1, e, ht⟩ | ⟨e, hn⟩
              · have ha : f = a := by omega
                have hm : k = m := by omega
                subst ha; subst hm
                exact ⟨s', e, ht⟩
              · exact absurd hroom (hn f k rfl rfl hk1)
            have hc := run_hold HX'.out (f := (f : Int)) (m := (k : Int)) (I64.of (by omega) (by omega)) (I64.of (by omega) (by omega))
            rw [hsp] at hc
            have HC := Lib.hid hc
            have HTK := Lib.hid htk
            have HTF := Lib.hid (HT.out.took (l' := fillT T f k) htk HX'.out.ok (fillT_length _ _ _) (fillT_get T f k (by rw [HT.out.1]; have := HFK.out; omega)))
            have hsum := htk.sum
            clear hc hsp hroom htk
            go_wp2_with fail
            refine HC.out.mono ?_
            rintro e w4 ⟨rfl, hr4, hk4⟩
            have HR4 := Lib.hid hr4
            have HW4 := Lib.hid (hk4 _ _ _ HW'.out (by decide) (by decide))
            clear hr4 hk4
            go_wp2
            go_loopw [7, 13] (fun cv bv wl => ∃ m : Nat, m ≤ k ∧ cv = .int .i64 ((c + m : Nat) : Int) ∧ bv = .int .i64 ((f + m : Nat) : Int) ∧ Hid (Run w wl p s' (.slice none 0 0) 0 []) ∧ Hid (Row wl h 49 (bcells (fillT T f m)))) (fun _ bv _ => b' - (intOf bv).toNat)
            case atStart => exact ⟨0, Nat.zero_le _, rfl, rfl, HR4.out, HW4.out⟩
            case round =>
              obtain ⟨m, hm, rfl, rfl, HRm, HWm⟩ := hrel
              obtain ⟨bm, hbm⟩ : ∃ bm, bm = f + m := ⟨_, rfl⟩
              obtain ⟨cm, hcm⟩ : ∃ cm, cm = c + m := ⟨_, rfl⟩
              rw [← hbm, ← hcm]
              have HBM := Lib.hid hbm
              have HCM := Lib.hid hcm
              by_cases hmk : m < k
              · have gb : decide (bm < b') = true := by simp; have := HFK.out; omega
                have bi0 : (0 : Int) ≤ (bm : Int) := by omega
                have bi1 : (bm : Int) < 210 := by have := HFK.out; omega
                have hcell : wr.cell? ⟨h, bm, none⟩ = some (.bool ((fillT T f m).getD bm false)) := by rw [HWm.out.cell, bcells_get (by rw [fillT_length, HT.out.1]; omega)]
                have hfz : wr.frozen? ⟨h, bm, none⟩ = false := HWm.out.free bm
                have HR5 := Lib.hid (run_set HRm.out HWm.out (i := bm) (by decide) (by decide) hw2 (.bool true))
                have HW5 : Hid (Row (wr.setCell ⟨h, bm, none⟩ (.bool true)) h 49 (bcells (fillT T f (m + 1)))) := by
                  unfold Hid; rw [fillT_succ, ← hbm, bcells_set]; exact HWm.out.set bm _
                have hcb : cm ≤ 1000 := by omega
                have hbb : bm < b' := by have := HFK.out; omega
                clear hbm hcm
                go_wp2
                generalize wr.setCell ⟨h, bm, none⟩ (.bool true) = w5 at *
                go_roundw
                case rel => exact ⟨m + 1, hmk, by rw [HCM.out]; go_num, by rw [HBM.out]; go_num, HR5.out, HW5.out⟩
                case measure => simp [intOf]; omega
              · obtain rfl : m = k := by omega
                have gb : decide (bm < b') = false := by simp; have := HFK.out; omega
                have hcs' : cm + sumB s'.fr = 200 := by omega
                clear hbm hcm
                go_wp2
                go_roundw
                case rel => exact ⟨i + 1, s', _, cm, by omega, by go_num, rfl, hcs', HTF.out, HRm.out, HWm.out⟩
                case measure => simp [intOf]; omega
    · obtain rfl : i = len0 := by omega
      have g0 : decide (i < i) = false := by simp
      obtain ⟨r, hr⟩ : ∃ r : Nat, r = c1 % 5 := ⟨_, rfl⟩
      have hmod : ((c1 : Int)) % 5 = (r : Int) := by omega
      have htm : ((c1 : Int)).tmod 5 = (r : Int) := by rw [Int.tmod_eq_emod_of_nonneg (by omega)]; omega
      have hr5 : r < 5 := by omega
      have hw8 : IntKind.u8.wrap (r : Int) = (r : Int) := by rw [IntKind.wrap_u8]; omega
      obtain ⟨k, hk⟩ : ∃ k : Nat, k = 1 + r := ⟨_, rfl⟩
      have hadd : (1 : Int) + (r : Int) = (k : Int) := by omega
      have hk1 : 1 ≤ k := by omega
      have hk2 : k ≤ 5 := by omega
      have hsum0 : sumB s.fr ≤ 200 := by omega
      clear hr hk hlt hi HZ0
      go_wp2
      generalize wr = wo at *
      go_loopw [7, 15] (fun cv iv wl => ∃ (j : Nat) (s : Sp) (T : List Bool) (c : Nat), j + sumB s.fr ≤ 200 ∧ iv = .int .i64 (j : Int) ∧ cv = .int .i64 (c : Int) ∧ c + sumB s.fr = 200 ∧ Hid (Tab s 3 203 210 T) ∧ Hid (Run w wl p s (.slice none 0 0) 0 []) ∧ Hid (Row wl h 49 (bcells T))) (fun _ iv _ => 300 - (intOf iv).toNat)
      case atStart => exact ⟨0, s, T, c, by omega, rfl, rfl, hcs, HT.out, HR.out, HW.out⟩
      case round =>
        clear HT HR HW hcs hsum0
        obtain ⟨j, s, T, c, hj, rfl, rfl, hcs, HT, HR, HW⟩ := hrel
        have gj : decide ((j : Int) < 300) = true := by simp; omega
        have gj2 : decide (j < 300) = true := by simp; omega
        have hc := run_take HR.out (m := (k : Int)) (I64.of (by omega) (by omega))
        rcases takeS_spec HR.out.ok hk1 with ⟨s', a, e, htk, _⟩ | ⟨e, hno⟩
        · rw [e] at hc
          have HC := Lib.hid hc
          have hrm := (HT.out.room HR.out.ok hk1 (by omega) (by have := HR.out.ok.2.2.has (htk.room a (Nat.le_refl _) (by omega)); rw [HT.out.2.1] at this; exact this.1)).1 htk.room
          have ha3 : 3 ≤ a := by have := HR.out.ok.2.2.has (htk.room a (Nat.le_refl _) (by omega)); rw [HT.out.2.1] at this; exact this.1
          have HRM := Lib.hid hrm
          have hak := hrm.1
          have hsum := htk.sum
          have HTF := Lib.hid (HT.out.took (l' := fillT T a k) htk HR.out.ok (fillT_length _ _ _) (fillT_get T a k (by rw [HT.out.1]; omega)))
          obtain ⟨ak, hak'⟩ : ∃ ak, ak = a + k := ⟨_, rfl⟩
          have hadd3 : (a : Int) + (k : Int) = (ak : Int) := by omega
          have hw3 : IntKind.i64.wrap (ak : Int) = (ak : Int) := IntWalk.i64_in _ (by omega)
          have hak2 : ak ≤ 203 := by omega
          have HAK := Lib.hid hak'
          clear hc e hrm htk hak'
          go_wp2_with fail
          refine HC.out.mono ?_
          rintro e w4 ⟨rfl, hr4, hk4⟩
          have HR4 := Lib.hid hr4
          have HW4 := Lib.hid (hk4 _ _ _ HW.out (by decide) (by decide))
          clear hr4 hk4
          go_wp2
          generalize wr = wr1 at *
          go_loopw [7, 18] (fun cv bv wl => ∃ m : Nat, m ≤ k ∧ cv = .int .i64 ((c + m : Nat) : Int) ∧ bv = .int .i64 ((a + m : Nat) : Int) ∧ Hid (Run w wl p s' (.slice none 0 0) 0 []) ∧ Hid (Row wl h 49 (bcells (fillT T a m)))) (fun _ bv _ => ak - (intOf bv).toNat)
          case atStart => exact ⟨0, Nat.zero_le _, rfl, rfl, HR4.out, HW4.out⟩
          case round =>
            obtain ⟨m, hm, rfl, rfl, HRm, HWm⟩ := hrel
            obtain ⟨bm, hbm⟩ : ∃ bm, bm = a + m := ⟨_, rfl⟩
            obtain ⟨cm, hcm⟩ : ∃ cm, cm = c + m := ⟨_, rfl⟩
            rw [← hbm, ← hcm]
            have HBM := Lib.hid hbm
            have HCM := Lib.hid hcm
            by_cases hmk : m < k
            · have hbb : bm < ak := by have := HAK.out; omega
              have gb : decide (bm < ak) = true := by simp; omega
              have gb3 : decide (bm < 3) = false := by simp; omega
              have gb3' : decide ((bm : Int) < 3) = false := by simp; omega
              have gb4 : decide (203 ≤ bm) = false := by simp; omega
              have gb4' : decide ((bm : Int) ≥ 203) = false := by simp; omega
              have bi0 : (0 : Int) ≤ (bm : Int) := by omega
              have bi1 : (bm : Int) < 210 := by omega
              have hcell : wr.cell? ⟨h, bm, none⟩ = some (.bool false) := by
                rw [HWm.out.cell, bcells_get (by rw [fillT_length, HT.out.1]; omega), fillT_get T a m (by rw [HT.out.1]; omega), if_neg (by omega), HRM.out.2 bm (by omega) (by omega)]
              have hfz : wr.frozen? ⟨h, bm, none⟩ = false := HWm.out.free bm
              have HR5 := Lib.hid (run_set HRm.out HWm.out (i := bm) (by decide) (by decide) hw2 (.bool true))
              have HW5 : Hid (Row (wr.setCell ⟨h, bm, none⟩ (.bool true)) h 49 (bcells (fillT T a (m + 1)))) := by
                unfold Hid; rw [fillT_succ, ← hbm, bcells_set]; exact HWm.out.set bm _
              have hcb : cm ≤ 1000 := by omega
              clear hbm hcm
              go_wp2
              generalize wr.setCell ⟨h, bm, none⟩ (.bool true) = w5 at *
              go_roundw
              case rel => exact ⟨m + 1, hmk, by rw [HCM.out]; go_num, by rw [HBM.out]; go_num, HR5.out, HW5.out⟩
              case measure => simp [intOf]; omega
            · obtain rfl : m = k := by omega
              have gb : decide (bm < ak) = false := by simp; have := HAK.out; omega
              have hcs' : cm + sumB s'.fr = 200 := by omega
              have hj' : j + 1 + sumB s'.fr ≤ 200 := by omega
              clear hbm hcm
              go_wp2
              go_roundw
              case rel => exact ⟨j + 1, s', _, cm, hj', by go_num, rfl, hcs', HTF.out, HRm.out, HWm.out⟩
              case measure => simp [intOf]; omega
        · rw [e] at hc
          have HC := Lib.hid hc
          have HNO := Lib.hid hno
          clear hc e hno
          go_wp2_with fail
          refine HC.out.mono ?_
          rintro e w4 ⟨rfl, hr4, hk4⟩
          have HR4 := Lib.hid hr4
          have HW4 := Lib.hid (hk4 _ _ _ HW.out (by decide) (by decide))
          clear hr4 hk4
          go_wp2
          generalize wr = wr1 at *
          go_loopw [19, 20] (fun qv bv wl => ∃ q b' : Nat, 3 ≤ b' ∧ b' ≤ 203 ∧ q + 3 ≤ b' ∧ q < k ∧ qv = .int .i64 (q : Int) ∧ bv = .int .i64 (b' : Int) ∧ wl = w4 ∧ Hid (∀ x, b' ≤ x + q → x < b' → T.getD x false = false)) (fun _ bv _ => 203 - (intOf bv).toNat)
          case atStart => exact ⟨0, 3, by omega, by omega, by omega, by omega, rfl, rfl, by trivial, fun x h1 h2 => by omega⟩
          case round =>
            obtain ⟨q, b', hb1, hb2, hqb, hqk, rfl, rfl, rfl, HQ⟩ := hrel
            by_cases hlt : b' < 203
            · have gb : decide (b' < 203) = true := by simp; omega
              have gb' : decide ((b' : Int) < 203) = true := by simp; omega
              have bi0 : (0 : Int) ≤ (b' : Int) := by omega
              have bi1 : (b' : Int) < 210 := by omega
              have hcell : wr.cell? ⟨h, b', none⟩ = some (.bool (T.getD b' false)) := by rw [HW4.out.cell, bcells_get (by rw [HT.out.1]; omega)]
              cases htb : T.getD b' false with
              | true =>
                rw [htb] at hcell
                have gk : decide (k ≤ 0) = false := by simp; omega
                have gk' : decide ((0 : Int) ≥ (k : Int)) = false := by simp; omega
                have HQ2 : Hid (∀ x, b' + 1 ≤ x + 0 → x < b' + 1 → T.getD x false = false) := fun x h1 h2 => by omega
                clear htb
                go_wp2
                go_roundw
                case rel => exact ⟨0, b' + 1, by omega, by omega, by omega, by omega, rfl, by go_num, by trivial, HQ2.out⟩
                case measure => simp [intOf]; omega
              | false =>
                rw [htb] at hcell
                have hfr : ∀ x, b' + 1 ≤ x + (q + 1) → x < b' + 1 → T.getD x false = false := fun x h1 h2 => by
                  rcases Nat.lt_or_ge x b' with h3 | h3
                  · exact HQ.out x (by omega) h3
                  · obtain rfl : x = b' := by omega
                    exact htb
                have hq1 : q + 1 < k := by
                  rcases Nat.lt_or_ge (q + 1) k with h1 | h1
                  · exact h1
                  · exact absurd ((HT.out.room HR.out.ok hk1 (by omega) (show 3 ≤ b' + 1 - k by omega)).2 ⟨by omega, fun x h2 h3 => hfr x (by omega) (by omega)⟩) (HNO.out _)
                have gk : decide (k ≤ q + 1) = false := by simp; omega
                have gk' : decide ((q : Int) + 1 ≥ (k : Int)) = false := by simp; omega
                have gk'' : decide ((k : Int) ≤ (q : Int) + 1) = false := by simp; omega
                have HQ2 := Lib.hid hfr
                clear htb hfr
                go_wp2
                go_roundw
                case rel => exact ⟨q + 1, b' + 1, by omega, by omega, by omega, hq1, by go_num, by go_num, by trivial, HQ2.out⟩
                case measure => simp [intOf]; omega
            · obtain rfl : b' = 203 := by omega
              have hfin : (200 : Int) - (c : Int) = ((sumB s.fr : Nat) : Int) := by omega
              have hfw : IntKind.i64.wrap ((sumB s.fr : Nat) : Int) = ((sumB s.fr : Nat) : Int) := IntWalk.i64_in _ (by omega)
              have hfree := run_free HR4.out
              generalize sumB s.fr = sm at *
              have HF := Lib.hid hfree
              clear hfree
              go_wp2_with fail
              refine HF.out.mono ?_
              rintro e w5 ⟨rfl, hb5⟩
              have HB5 := Lib.hid (HR4.out.base.trans (hb5.mono HR4.out.base.size))
              clear hb5
              go_wp2
              go_ret
              exact ⟨by simp, HB5.out⟩

set_option maxRecDepth 100000 in
theorem lifted (os : Os) (started : os.Started) (H : Type) (enc : TypeId × Value → H) :
    ReturnsInHanded {} Try.checked os 6 .any (Rows.spaceHeldSpec.pre6 enc Try.prog Try.f6 Rows.spaceHeldRow.domain false) (Rows.spaceHeldSpec.post enc Try.prog Try.f6 false true false false) := by
  refine returnsInHanded_of_change (C := Try.checked) own started (by kernel_rfl) Try.func6
    (ChangeSpec.witness6 (enc := enc) (C := Try.checked) false ⟨#[], #[.slice none 0 0, .int .u8 0], []⟩ 8 (by kernel_rfl) (by kernel_rfl) (by kernel_rfl) (by kernel_rfl)) ?_
  intro W base args ds gs before hval0 hW hcnd _
  have hval : ∀ (j : Nat) t v, Try.f6.params[j]? = some t → args[j]? = some v → Value.okWide Try.prog W .any base t v := hval0
  have hW' := hW
  obtain ⟨p, q, hA0, hV, rfl, hfz, hnd⟩ := hW
  have hA : DataW.TrodAll enc Try.prog W 0 (fun _ => true) true Try.f6.params.toList args.toList ds p := hA0
  rw [Try.params6] at hA hval
  obtain ⟨v0, vs0, d0, ds0, p0, q0, hargs, rfl, rfl, h0, r0⟩ := trodAll_cons hA
  obtain ⟨v1, vs1, d1, ds1, p1, q1, rfl, rfl, rfl, h1, r1⟩ := trodAll_cons r0
  obtain ⟨rfl, rfl, rfl⟩ := trodAll_nil r1
  obtain rfl : args = #[v0, v1] := by cases args; simp_all
  obtain ⟨rfl, rfl⟩ := trodVars_none hV
  have k0 := h0
  have lt0 : ∀ x ∈ p0, x.block < W.heap.size := by obtain ⟨m, hm⟩ := k0; exact DataW.trod_lt m _ _ _ hm
  have k1 := h1
  have lt1 : ∀ x ∈ p1, x.block < W.heap.size := by obtain ⟨m, hm⟩ := k1; exact DataW.trod_lt m _ _ _ hm
  obtain ⟨a0, len0, cap0, rfl⟩ := okWide_slice Try.underlying48 (hval 0 48 v0 rfl rfl)
  obtain ⟨l0, wr0, wm0⟩ : ∃ l0, ReadsP W W.heap.size a0 len0 l0 ∧ len0 ≤ maxLen := by
    obtain ⟨fuel0, hf0⟩ := h0
    obtain ⟨a', len', cap', l', he', hr', hm'⟩ := open_pairs8 Try.underlying48 Try.underlying50 (by kernel_rfl) (by kernel_rfl) Try.underlying5 hf0
    injection he' with e1 e2 e3
    subst e1; subst e2
    exact ⟨l', hr', hm'⟩
  obtain ⟨a1, rfl, rfl, rfl, w1⟩ := open_int Try.underlying5 (hval 1 5 v1 rfl rfl) h1
  clear hA0 hval0
  refine (walk a0 len0 cap0 l0 a1 W wr0 wm0 w1).mono fun e W' ⟨he, bel⟩ => ?_
  subst he
  exact ⟨_, rfl, _, _, _, [], _, [], hW', trodAll_mk1 (shut_bool Try.underlying4 _), (trodAll_cons_mk (Below.trod laidOut (by kernel_rfl) (of_decide_eq_true (by kernel_rfl)) k0 bel lt0) (trodAll_cons_mk (Below.trod laidOut (by kernel_rfl) (of_decide_eq_true (by kernel_rfl)) k1 bel lt1) trodAll_mk0)), rfl, bel.frame _, fun h => by cases h⟩

theorem over : Rows.spaceHeldRow.holds Try.pinned (OpenSpec.ofChange Rows.spaceHeldSpec) :=
  OpenClaim.holds_of_wide 6 Try.f6 rfl rfl rfl rfl rfl rfl rfl ⟨rfl, rfl, rfl, rfl, rfl⟩ rfl rfl rfl rfl rfl (by kernel_rfl) Try.func6 (by kernel_rfl)
    (of_decide_eq_true (by kernel_rfl)) (by unfold Func.isWrapper; first | (rw [if_pos (by decide +kernel)]; kernel_rfl) | (rw [if_neg (by decide +kernel)]; exact ⟨rfl, rfl⟩))
    (fun os started H enc _ => lifted os started H enc)

theorem proved : Rows.SpaceHeldSaid := over
end Go.Proofs.Ytjpomohfoknjiaa.spaceHeld
