/-
  FormatBack: for whatever graph and bytes; no condition.
-/
import Derived.Test.YtdjmjabbjjcgiaaRows
import Derived.Test.YtdjmjabbjjcgiaaFormatDec
import Derived.Test.YtdjmjabbjjcgiaaFormatAwake
import Derived.Test.YtdjmjabbjjcgiaaGraphROrd
import Derived.Test.YtdjmjabbjjcgiaaRput
import Derived.WalkKit
import Derived.ProofKit
import Derived.OpenShut
import Derived.ShutString
import Derived.ChangeOld
import Derived.Below
namespace Go.Proofs.Ytdjmjabbjjcgiaa.formatBack
open Go.ChangeShapes Go.WideShapes Go.ChangeAt Go.RowKit
open Go.ChangeMaps (open_string shut_string)
set_option linter.unusedVariables false

theorem own : ownKnob Try.prog.godebug = none := by kernel_rfl
theorem laidOut : laidOutB Try.prog = true := by kernel_rfl

theorem same_self (N : Int) (l : List (Int × Int)) : sameG N l N l = true := by rw [sameG_eq]; unfold eqL; simp

set_option maxHeartbeats 3200000 in
set_option maxRecDepth 100000 in
theorem walk (N0 : Int) (a0 : Option Addr) (len0 cap0 : Nat) (l0 : List (Int × Int)) (a1 : Option Addr) (len1 cap1 : Nat) (z1 : List Int) (w : World) (wN0 : I64 N0) (wr0 : ReadsE w w.heap.size a0 len0 l0) (wc0 : len0 ≤ cap0 ∧ cap0 ≤ maxLen) (w1 : IsRow .u8 w a1 len1 cap1 z1) :
    Calls Try.prog 5 #[.agg #[.int .i64 N0, .slice a0 len0 cap0], .slice a1 len1 cap1] w fun e w' => e = .returned (.bool true) ∧ Below w.heap.size w w' := by
  have hm0 : len0 ≤ 9223372036854775807 := by have := wc0.2; unfold maxLen at this; omega
  clear wc0
  obtain ⟨lb, hlb0⟩ := w1.reads u8_nonneg
  clear w1
  go_enter Try.func5, Try.ntmps5
  go_wp2_with fail
  refine (awake_any _).mono ?_; rintro e w1 ⟨rfl, hb1⟩
  have HB1 := Lib.hid (hb1.mono (show w.heap.size + 1 ≤ _ by simp))
  obtain ⟨c0, c1⟩ := box2 HB1.out
  clear hb1
  have hsz : w.heap.size < w1.heap.size := by have := HB1.out.size; simp at this; omega
  go_wp2_with fail
  refine (few_any N0 a0 len0 cap0 500 300 _).mono ?_; rintro e w2 ⟨rfl, hb2⟩
  have HB2 := Lib.hid (HB1.out.trans (hb2.mono (show w.heap.size + 1 ≤ w1.heap.size by omega)))
  obtain ⟨c0, c1⟩ := box2 HB2.out
  have hsz2 : w.heap.size < w2.heap.size := by have := HB2.out.size; simp at this; omega
  have HW2 := Lib.hid (((Below.refl w.heap.size w).alloc (Nat.le_refl _) _).trans (HB2.out.mono (show w.heap.size ≤ _ by omega)))
  have HR2 := Lib.hid (wr0.keep HW2.out)
  clear hb2
  have HLB2 := Lib.hid ((hlb0.keep HW2.out).mono HW2.out.size)
  by_cases hbig : N0 ≤ ((500 : Nat) : Int) ∧ len0 ≤ 300
  · have g1 : (decide (N0 ≤ ((500 : Nat) : Int)) && decide (len0 ≤ 300)) = true := by simp; omega
    rw [g1]
    clear g1
    by_cases hb3000 : 3000 < len1
    · have g2 : decide (3000 < len1) = true := by simp; omega
      go_wp2_with fail
      refine (awake_any _).mono ?_; rintro e w3 ⟨rfl, hb3⟩
      have HB3 := Lib.hid (HW2.out.trans (hb3.mono (show w.heap.size ≤ w2.heap.size by omega)))
      clear hb3
      go_wp2
      go_ret
      exact ⟨rfl, HB3.out⟩
    · have g2 : decide (3000 < len1) = false := by simp; omega
      have hl1 : len1 ≤ 3000 := by omega
      by_cases hf : formed N0 l0 = true
      · have hN := (formed_iff.1 hf).1
        obtain ⟨M, rfl⟩ := Int.eq_ofNat_of_zero_le hN.1
        have hM : M ≤ 500 := by omega
        have hl : len0 ≤ 300 := hbig.2
        have HF := Lib.hid hf
        have HOL : Hid ((order l0).length = len0) := by unfold Hid; rw [order_length]; exact HR2.out.1
        have HG := Lib.hid (good_order hf)
        clear hf hN hbig
        go_wp2_with fail
        refine (rorder_ok M a0 len0 cap0 l0 w2 wN0 HF.out HR2.out (by omega)).mono ?_; rintro e w3 ⟨A3, k3, rfl, hr3, hb3⟩
        have HB3 := Lib.hid (HB2.out.trans (hb3.mono (show w.heap.size + 1 ≤ w2.heap.size by omega)))
        have HR3 := Lib.hid (HR2.out.keep (hb3.mono (by omega)))
        have HLB3 := Lib.hid ((HLB2.out.keep hb3).mono hb3.size)
        have hs3 : w.heap.size < w3.heap.size := by have := HB3.out.size; simp at this; omega
        have HB4 := Lib.hid (HB3.out.alloc (by omega) (.cells #[.int .i64 (M : Int), .slice A3 len0 k3] 24))
        have HX4 := Lib.hid (hr3.keep ((Below.refl w3.heap.size w3).alloc (Nat.le_refl _) (.cells #[.int .i64 (M : Int), .slice A3 len0 k3] 24)))
        have HR4 := Lib.hid (HR3.out.keep ((Below.refl w.heap.size w3).alloc (by omega) (.cells #[.int .i64 (M : Int), .slice A3 len0 k3] 24)))
        have HLB4 := Lib.hid ((HLB3.out.keep ((Below.refl w3.heap.size w3).alloc (Nat.le_refl _) (.cells #[.int .i64 (M : Int), .slice A3 len0 k3] 24))).mono (show w3.heap.size ≤ (w3.alloc (.cells #[.int .i64 (M : Int), .slice A3 len0 k3] 24)).heap.size by simp))
        have ho4 : Row (w3.alloc (.cells #[.int .i64 (M : Int), .slice A3 len0 k3] 24)) w3.heap.size 24 [.int .i64 (M : Int), .slice A3 len0 k3] := heap_alloc_new _ _
        have HO4 := Lib.hid ho4
        have hz4 : (w3.alloc (.cells #[.int .i64 (M : Int), .slice A3 len0 k3] 24)).heap.size = w3.heap.size + 1 := by simp
        have HZ4 := Lib.hid hz4
        have d0 := HB3.out
        obtain ⟨c0, c1⟩ := box2 HB3.out
        clear hb3 hr3 ho4 hz4 d0
        go_wp2_with fail
        refine (encode_ok M a0 len0 cap0 l0 _ HF.out HR4.out (by rw [HZ4.out]; omega) (by omega)).mono ?_; rintro e w5 ⟨v5, rfl, ho5, hb5⟩
        obtain ⟨A5, k5, rfl, hr5, _⟩ := own_reads ho5 (fun x hx => u8_wf (enc_byte _ _ _ hx))
        have HEL := Lib.hid (enc_len (N := M) (by omega) (by rw [HOL.out]; omega) HG.out)
        have hn1 : (enc M (order l0)).length ≤ 40021 := by have := HEL.out; rw [HOL.out] at this; omega
        have HDEC : Hid (dec (enc M (order l0)) = (true, M, order l0, 0)) := dec_enc HG.out (by omega) (by rw [HOL.out]; omega)
        have HX5 := Lib.hid hr5
        have HO5 := Lib.hid (HO4.out.below hb5 (by rw [HZ4.out]; omega))
        have HB5 := Lib.hid (HB4.out.trans (hb5.mono (by rw [HZ4.out]; omega)))
        have HY5 := Lib.hid (HX4.out.keep (hb5.mono (by rw [HZ4.out]; omega)))
        have HLB5 := Lib.hid ((HLB4.out.keep hb5).mono hb5.size)
        have hs5 : w3.heap.size < w5.heap.size := HO5.out.lt
        clear ho5 hb5 hr5 HEL
        go_wp2_with fail
        refine (decode_any A5 _ k5 _ w5 HX5.out (Nat.le_refl _) (by omega)).mono ?_; rintro e w6 ⟨hb6, h6⟩
        rcases h6 with ⟨hf6, rfl⟩ | ⟨M6, E6, A6, c6, ht6, rfl, hr6⟩
        · exfalso
          rw [HDEC.out] at hf6
          cases hf6
        · have hh := HDEC.out.symm.trans ht6
          injection hh with _ hh; injection hh with e1 hh; injection hh with e2 _
          subst e1
          subst e2
          have HB6 := Lib.hid (HB5.out.trans (hb6.mono (by omega)))
          have HO6 := Lib.hid (HO5.out.below hb6 hs5)
          have HY6 := Lib.hid (HY5.out.keep (hb6.mono (by omega)))
          have HLB6 := Lib.hid ((HLB5.out.keep hb6).mono hb6.size)
          have HX6 := Lib.hid hr6
          have hs6 : w3.heap.size < w6.heap.size := HO6.out.lt
          have HA7 := Lib.hid ((Below.refl w6.heap.size w6).alloc (Nat.le_refl _) (.cells #[.int .i64 (M : Int), .slice A6 (order l0).length c6] 24))
          have hg7 : Row (w6.alloc (.cells #[.int .i64 (M : Int), .slice A6 (order l0).length c6] 24)) w6.heap.size 24 [.int .i64 (M : Int), .slice A6 (order l0).length c6] := heap_alloc_new _ _
          have h0 := hg7.cell 0
          have h1 := hg7.cell 1
          have o7 := HO6.out.alloc (.cells #[.int .i64 (M : Int), .slice A6 (order l0).length c6] 24)
          have o0 := o7.cell 0
          have o1 := o7.cell 1
          have hz7 : (w6.alloc (.cells #[.int .i64 (M : Int), .slice A6 (order l0).length c6] 24)).heap.size = w6.heap.size + 1 := by simp
          have HZ7 := Lib.hid hz7
          have HB7 := Lib.hid (HB6.out.trans (HA7.out.mono (show w.heap.size + 1 ≤ w6.heap.size by omega)))
          have HLB7 := Lib.hid ((HLB6.out.keep HA7.out).mono (show w6.heap.size ≤ (w6.alloc (.cells #[.int .i64 (M : Int), .slice A6 (order l0).length c6] 24)).heap.size by rw [HZ7.out]; omega))
          clear hg7 o7 hz7 hb6 hr6 ht6
          go_wp2_with fail
          refine (rsame_any M A6 (order l0).length c6 (order l0) M A3 len0 k3 (order l0) _ (HX6.out.keep HA7.out) (HY6.out.keep (HA7.out.mono (by omega))) (by rw [HZ7.out]; omega) (by rw [HZ7.out]; omega) (by rw [HOL.out]; omega) hm0).mono ?_; rintro e w8 ⟨rfl, hb8⟩
          rw [same_self]
          have HB8 := Lib.hid (((Below.refl w.heap.size w).alloc (Nat.le_refl _) _).trans ((HB7.out.trans (hb8.mono (by rw [HZ7.out]; omega))).mono (show w.heap.size ≤ w.heap.size + 1 by omega)))
          have HLB8 := Lib.hid ((HLB7.out.keep hb8).mono hb8.size)
          clear hb8
          go_wp2_with fail
          refine (decode_any a1 len1 cap1 lb w8 HLB8.out (Nat.le_refl _) (by omega)).mono ?_; rintro e wd ⟨hbd, hd⟩
          have HBD := Lib.hid (HB8.out.trans (hbd.mono HB8.out.size))
          have HLD := Lib.hid ((HLB8.out.keep hbd).mono hbd.size)
          have hwd := HBD.out.size
          clear hbd
          rcases hd with ⟨_, rfl⟩ | ⟨M2, E2, A2, c2, ht, rfl, hr2⟩
          · generalize (dec lb).2.2.2 = p
            have HB6 := Lib.hid (HBD.out.alloc hwd (.cells #[.int .i64 0, .slice none 0 0] 24))
            have hg : Row (wd.alloc (.cells #[.int .i64 0, .slice none 0 0] 24)) wd.heap.size 24 [.int .i64 0, .slice none 0 0] := heap_alloc_new _ _
            have g0 := hg.cell 0
            have g1 := hg.cell 1
            clear hg
            go_wp2
            go_ret
            exact ⟨rfl, HB6.out⟩
          · have HT := Lib.hid ht
            obtain ⟨hgd, hM2, hE2, hlen2, henc, _⟩ := dec_edges (fun c hc => u8_lt (HLD.out.2.1 c hc)) ht
            have hlb := HLD.out.1
            have hM3 : M2 + E2.length ≤ 3000 := by omega
            have hlb3 : lb.length ≤ 3000 := by omega
            clear hlb hlen2
            have HORD : Hid (order E2 = E2) := hgd.order
            have HFD : Hid (formed ((M2 : Nat) : Int) E2 = true) := hgd.formed hM2 hE2
            have HENC : Hid (lb = enc M2 E2) := henc
            have HR2' := Lib.hid (hr2.keep ((Below.refl wd.heap.size wd).alloc (Nat.le_refl _) (.cells #[.int .i64 (M2 : Int), .slice A2 E2.length c2] 24)))
            have HB6 := Lib.hid (HBD.out.alloc hwd (.cells #[.int .i64 (M2 : Int), .slice A2 E2.length c2] 24))
            have HL6 := Lib.hid ((HLD.out.keep ((Below.refl wd.heap.size wd).alloc (Nat.le_refl _) (.cells #[.int .i64 (M2 : Int), .slice A2 E2.length c2] 24))).mono (show wd.heap.size ≤ (wd.alloc (.cells #[.int .i64 (M2 : Int), .slice A2 E2.length c2] 24)).heap.size by simp))
            have hg : Row (wd.alloc (.cells #[.int .i64 (M2 : Int), .slice A2 E2.length c2] 24)) wd.heap.size 24 [.int .i64 (M2 : Int), .slice A2 E2.length c2] := heap_alloc_new _ _
            have g0 := hg.cell 0
            have g1 := hg.cell 1
            have hz6 : (wd.alloc (.cells #[.int .i64 (M2 : Int), .slice A2 E2.length c2] 24)).heap.size = wd.heap.size + 1 := by simp
            have HZ6 := Lib.hid hz6
            clear hg ht hgd hr2 henc hz6
            go_wp2_with fail
            refine (encode_ok M2 A2 E2.length c2 E2 _ HFD.out HR2'.out (by rw [HZ6.out]; omega) (by omega)).mono ?_; rintro e we ⟨ve, rfl, hoe, hbe⟩
            have HBE := Lib.hid (HB6.out.trans (hbe.mono (by rw [HZ6.out]; omega)))
            have HLE := Lib.hid ((HL6.out.keep hbe).mono hbe.size)
            rw [HORD.out, ← HENC.out] at hoe
            obtain ⟨Ae, ce, rfl, hre, _⟩ := own_reads hoe (fun x hx => (HLE.out.2.1 x hx))
            have HRE := Lib.hid hre
            clear hoe hbe hre
            go_wp2_with fail
            refine (bsame_any a1 Ae _ _ cap1 ce _ _ we HLE.out HRE.out (by omega)).mono ?_; rintro e wf ⟨rfl, q, rfl⟩
            have hdd : decide (lb = lb) = true := by simp
            rw [hdd]
            clear hdd
            go_wp2
            go_ret
            exact ⟨rfl, below_drewN HBE.out _⟩
      · have HF : Hid (formed N0 l0 = false) := by unfold Hid; simpa using hf
        clear hf
        go_wp2_with fail
        refine (rorder_bad N0 a0 len0 cap0 l0 w2 wN0 HF.out HR2.out (by omega) hm0).mono ?_; rintro e w3 ⟨rfl, hb3⟩
        have HB3 := Lib.hid (HB2.out.trans (hb3.mono (show w.heap.size + 1 ≤ w2.heap.size by omega)))
        have hs3 : w.heap.size < w3.heap.size := by have := HB3.out.size; simp at this; omega
        have HA4 := Lib.hid ((Below.refl w3.heap.size w3).alloc (Nat.le_refl _) (.cells #[.int .i64 0, .slice none 0 0] 24))
        have hz4 : (w3.alloc (.cells #[.int .i64 0, .slice none 0 0] 24)).heap.size = w3.heap.size + 1 := by simp
        have HZ4 := Lib.hid hz4
        have HB4 := Lib.hid (HB3.out.trans (HA4.out.mono (show w.heap.size + 1 ≤ w3.heap.size by omega)))
        have HR4 := Lib.hid ((HR2.out.keep (hb3.mono (by omega))).keep (HA4.out.mono (show w.heap.size ≤ w3.heap.size by omega)))
        have HLB4 := Lib.hid ((((HLB2.out.keep hb3).mono hb3.size).keep HA4.out).mono (show w3.heap.size ≤ (w3.alloc (.cells #[.int .i64 0, .slice none 0 0] 24)).heap.size by rw [HZ4.out]; omega))
        obtain ⟨c0, c1⟩ := box2 HB3.out
        clear hb3 hz4
        go_wp2_with fail
        refine (encode_bad N0 a0 len0 cap0 l0 _ wN0 HF.out HR4.out (by rw [HZ4.out]; omega) hm0).mono ?_; rintro e w5 ⟨rfl, hb5⟩
        have HB5 := Lib.hid (((Below.refl w.heap.size w).alloc (Nat.le_refl _) _).trans ((HB4.out.trans (hb5.mono (by rw [HZ4.out]; omega))).mono (show w.heap.size ≤ w.heap.size + 1 by omega)))
        have HLB5 := Lib.hid ((HLB4.out.keep hb5).mono hb5.size)
        clear hb5
        go_wp2_with fail
        refine (decode_any a1 len1 cap1 lb w5 HLB5.out (Nat.le_refl _) (by omega)).mono ?_; rintro e wd ⟨hbd, hd⟩
        have HBD := Lib.hid (HB5.out.trans (hbd.mono HB5.out.size))
        have HLD := Lib.hid ((HLB5.out.keep hbd).mono hbd.size)
        have hwd := HBD.out.size
        clear hbd
        rcases hd with ⟨_, rfl⟩ | ⟨M2, E2, A2, c2, ht, rfl, hr2⟩
        · generalize (dec lb).2.2.2 = p
          have HB6 := Lib.hid (HBD.out.alloc hwd (.cells #[.int .i64 0, .slice none 0 0] 24))
          have hg : Row (wd.alloc (.cells #[.int .i64 0, .slice none 0 0] 24)) wd.heap.size 24 [.int .i64 0, .slice none 0 0] := heap_alloc_new _ _
          have g0 := hg.cell 0
          have g1 := hg.cell 1
          clear hg
          go_wp2
          go_ret
          exact ⟨rfl, HB6.out⟩
        · have HT := Lib.hid ht
          obtain ⟨hgd, hM2, hE2, hlen2, henc, _⟩ := dec_edges (fun c hc => u8_lt (HLD.out.2.1 c hc)) ht
          have hlb := HLD.out.1
          have hM3 : M2 + E2.length ≤ 3000 := by omega
          have hlb3 : lb.length ≤ 3000 := by omega
          clear hlb hlen2
          have HORD : Hid (order E2 = E2) := hgd.order
          have HFD : Hid (formed ((M2 : Nat) : Int) E2 = true) := hgd.formed hM2 hE2
          have HENC : Hid (lb = enc M2 E2) := henc
          have HR2' := Lib.hid (hr2.keep ((Below.refl wd.heap.size wd).alloc (Nat.le_refl _) (.cells #[.int .i64 (M2 : Int), .slice A2 E2.length c2] 24)))
          have HB6 := Lib.hid (HBD.out.alloc hwd (.cells #[.int .i64 (M2 : Int), .slice A2 E2.length c2] 24))
          have HL6 := Lib.hid ((HLD.out.keep ((Below.refl wd.heap.size wd).alloc (Nat.le_refl _) (.cells #[.int .i64 (M2 : Int), .slice A2 E2.length c2] 24))).mono (show wd.heap.size ≤ (wd.alloc (.cells #[.int .i64 (M2 : Int), .slice A2 E2.length c2] 24)).heap.size by simp))
          have hg : Row (wd.alloc (.cells #[.int .i64 (M2 : Int), .slice A2 E2.length c2] 24)) wd.heap.size 24 [.int .i64 (M2 : Int), .slice A2 E2.length c2] := heap_alloc_new _ _
          have g0 := hg.cell 0
          have g1 := hg.cell 1
          have hz6 : (wd.alloc (.cells #[.int .i64 (M2 : Int), .slice A2 E2.length c2] 24)).heap.size = wd.heap.size + 1 := by simp
          have HZ6 := Lib.hid hz6
          clear hg ht hgd hr2 henc hz6
          go_wp2_with fail
          refine (encode_ok M2 A2 E2.length c2 E2 _ HFD.out HR2'.out (by rw [HZ6.out]; omega) (by omega)).mono ?_; rintro e we ⟨ve, rfl, hoe, hbe⟩
          have HBE := Lib.hid (HB6.out.trans (hbe.mono (by rw [HZ6.out]; omega)))
          have HLE := Lib.hid ((HL6.out.keep hbe).mono hbe.size)
          rw [HORD.out, ← HENC.out] at hoe
          obtain ⟨Ae, ce, rfl, hre, _⟩ := own_reads hoe (fun x hx => (HLE.out.2.1 x hx))
          have HRE := Lib.hid hre
          clear hoe hbe hre
          go_wp2_with fail
          refine (bsame_any a1 Ae _ _ cap1 ce _ _ we HLE.out HRE.out (by omega)).mono ?_; rintro e wf ⟨rfl, q, rfl⟩
          have hdd : decide (lb = lb) = true := by simp
          rw [hdd]
          clear hdd
          go_wp2
          go_ret
          exact ⟨rfl, below_drewN HBE.out _⟩
  · have g1 : (decide (N0 ≤ ((500 : Nat) : Int)) && decide (len0 ≤ 300)) = false := by rw [Bool.eq_false_iff]; simp; omega
    rw [g1]
    clear g1
    go_wp2_with fail
    refine (awake_any _).mono ?_; rintro e w3 ⟨rfl, hb3⟩
    have HB3 := Lib.hid (HB2.out.trans (hb3.mono (show w.heap.size + 1 ≤ w2.heap.size by omega)))
    clear hb3
    go_wp2
    go_ret
    exact ⟨rfl, ((Below.refl w.heap.size w).alloc (Nat.le_refl _) _).trans (HB3.out.mono (by omega))⟩

set_option maxRecDepth 100000 in
theorem lifted (os : Os) (started : os.Started) (H : Type) (enc : TypeId × Value → H) :
    ReturnsInHanded {} Try.checked os 5 .any (Rows.formatBackSpec.pre6 enc Try.prog Try.f5 Rows.formatBackRow.domain false) (Rows.formatBackSpec.post enc Try.prog Try.f5 false true false false) := by
  refine returnsInHanded_of_change (C := Try.checked) own started (by kernel_rfl) Try.func5
    (ChangeSpec.witness6 (enc := enc) (C := Try.checked) false ⟨#[], #[.agg #[.int .i64 0, .slice none 0 0], .slice none 0 0], []⟩ 8 (by kernel_rfl) (by kernel_rfl) (by kernel_rfl) (by kernel_rfl)) ?_
  intro W base args ds gs before hval0 hW hcnd _
  have hval : ∀ (j : Nat) t v, Try.f5.params[j]? = some t → args[j]? = some v → Value.okWide Try.prog W .any base t v := hval0
  have hW' := hW
  obtain ⟨p, q, hA0, hV, rfl, hfz, hnd⟩ := hW
  have hA : DataW.TrodAll enc Try.prog W 0 (fun _ => true) true Try.f5.params.toList args.toList ds p := hA0
  rw [Try.params5] at hA hval
  obtain ⟨v0, vs0, d0, ds0, p0, q0, hargs, rfl, rfl, h0, r0⟩ := trodAll_cons hA
  obtain ⟨v1, vs1, d1, ds1, p1, q1, rfl, rfl, rfl, h1, r1⟩ := trodAll_cons r0
  obtain ⟨rfl, rfl, rfl⟩ := trodAll_nil r1
  obtain rfl : args = #[v0, v1] := by cases args; simp_all
  obtain ⟨rfl, rfl⟩ := trodVars_none hV
  have k0 := h0
  have lt0 : ∀ x ∈ p0, x.block < W.heap.size := by obtain ⟨m, hm⟩ := k0; exact DataW.trod_lt m _ _ _ hm
  have k1 := h1
  have lt1 : ∀ x ∈ p1, x.block < W.heap.size := by obtain ⟨m, hm⟩ := k1; exact DataW.trod_lt m _ _ _ hm
  obtain ⟨N0, a0, len0, cap0, l0, rfl, wN0, wr0, wc0⟩ := open_graph Try.underlying24 (by kernel_rfl) (by kernel_rfl) rfl rfl Try.underlying22 Try.underlying43 (by kernel_rfl) (by kernel_rfl) Try.underlying3 rfl rfl (hval 0 24 v0 rfl rfl) h0
  obtain ⟨a1, len1, cap1, rfl⟩ := okWide_slice Try.underlying27 (hval 1 27 v1 rfl rfl)
  obtain ⟨z1, w1⟩ : ∃ zs, IsRow .u8 W a1 len1 cap1 zs := by
    obtain ⟨fuel, hf⟩ := h1
    rcases open_ints Try.underlying27 Try.underlying5 (by kernel_rfl) hf with ⟨hcs, _⟩ | ⟨x, l, c, zs, hcs, _, hl, hm, hz, _, hcell, hwz⟩
    · simp [Value.cells] at hcs
      obtain ⟨rfl, rfl, rfl⟩ := hcs
      exact ⟨[], .inl ⟨rfl, rfl, rfl, rfl⟩⟩
    · simp [Value.cells] at hcs
      obtain ⟨rfl, rfl, rfl⟩ := hcs
      exact ⟨zs, .inr ⟨_, rfl, hl, hm, by simpa using hz, hcell, hwz⟩⟩
  clear hA0 hval0
  refine (walk N0 a0 len0 cap0 l0 a1 len1 cap1 z1 W wN0 wr0 wc0 w1).mono fun e W' ⟨he, bel⟩ => ?_
  subst he
  exact ⟨_, rfl, _, _, _, [], _, [], hW', trodAll_mk1 (shut_bool Try.underlying4 _), (trodAll_cons_mk (Below.trod laidOut (by kernel_rfl) (of_decide_eq_true (by kernel_rfl)) k0 bel lt0) (trodAll_cons_mk (Below.trod laidOut (by kernel_rfl) (of_decide_eq_true (by kernel_rfl)) k1 bel lt1) trodAll_mk0)), rfl, bel.frame _, fun h => by cases h⟩

theorem over : Rows.formatBackRow.holds Try.pinned (OpenSpec.ofChange Rows.formatBackSpec) :=
  OpenClaim.holds_of_wide 5 Try.f5 rfl rfl rfl rfl rfl rfl rfl ⟨rfl, rfl, rfl, rfl, rfl⟩ rfl rfl rfl rfl rfl (by kernel_rfl) Try.func5 (by kernel_rfl)
    (of_decide_eq_true (by kernel_rfl)) (by unfold Func.isWrapper; first | (rw [if_pos (by decide +kernel)]; kernel_rfl) | (rw [if_neg (by decide +kernel)]; exact ⟨rfl, rfl⟩))
    (fun os started H enc _ => lifted os started H enc)

theorem proved : Rows.FormatBackSaid := over
end Go.Proofs.Ytdjmjabbjjcgiaa.formatBack
