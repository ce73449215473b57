/- What the reference's Encode answers. -/
import Derived.Test.YtdjmjabbjjcgiaaFormatEnc
import Derived.Test.YtdjmjabbjjcgiaaRput
import Derived.Test.YtdjmjabbjjcgiaaGraphROrd
namespace Go.Proofs.Ytdjmjabbjjcgiaa
open Go.ChangeShapes Go.WideShapes Go.ChangeAt Go.RowKit

def cnt (l : List (Int × Int)) (u : Int) : Nat := (l.filter fun e => decide (e.1 = u)).length
theorem cnt_append (l m : List (Int × Int)) (u : Int) : cnt (l ++ m) u = cnt l u + cnt m u := by unfold cnt; simp
theorem cnt_none {l : List (Int × Int)} {u : Int} (h : ∀ e ∈ l, e.1 ≠ u) : cnt l u = 0 := by
  unfold cnt
  rw [List.filter_eq_nil_iff.2 (by simpa using h)]; rfl
theorem cnt_all {l : List (Int × Int)} {u : Int} (h : ∀ e ∈ l, e.1 = u) : cnt l u = l.length := by
  unfold cnt
  rw [List.filter_eq_self.2 (by simpa using h)]
theorem cnt_snoc (l : List (Int × Int)) (e : Int × Int) (u : Int) : cnt (l ++ [e]) u = cnt l u + if e.1 = u then 1 else 0 := by
  rw [cnt_append]
  congr 1
  unfold cnt
  by_cases h : e.1 = u
  · rw [if_pos h, List.filter_cons_of_pos (by simpa using h)]; rfl
  · rw [if_neg h, List.filter_cons_of_neg (by simpa using h)]; rfl
theorem cnt_lead {N : Nat} {u : Int} {E : List (Int × Int)} {k : Nat} (h : Good N u (E.drop k)) (h0 : ∀ e ∈ E.take k, e.1 < u) : cnt E u = lead (E.drop k) u := by
  have h1 : E = E.take k ++ ((E.drop k).take (lead (E.drop k) u) ++ (E.drop k).drop (lead (E.drop k) u)) := by rw [List.take_append_drop, List.take_append_drop]
  have h2 := lead_le (E.drop k) u
  have h3 : cnt (E.take k) u = 0 := cnt_none fun e he => by have := h0 e he; omega
  have h4 : cnt ((E.drop k).take (lead (E.drop k) u)) u = lead (E.drop k) u := by
    rw [cnt_all fun e he => (h.first.mem e he).1, List.length_take]; omega
  have h5 : cnt ((E.drop k).drop (lead (E.drop k) u)) u = 0 := cnt_none fun e he => by have := h.rest.2 e he; omega
  have h6 := congrArg (fun l => cnt l u) h1
  simp only [cnt_append] at h6
  omega
theorem cnt_le (l : List (Int × Int)) (u : Int) : cnt l u ≤ l.length := List.length_filter_le _ _

/-- the bytes are answered, beside OK -/
def REncB (w : World) (L : List Nat) (e : Ending) (w' : World) : Prop := ∃ A c, e = .returned (.tuple #[.slice A L.length c, .int .i64 0]) ∧ Reads .u8 w' w'.heap.size A L.length L ∧ Below w.heap.size w w'

set_option maxHeartbeats 800000 in
set_option maxRecDepth 100000 in
theorem rencode_bad (N : Int) (a : Option Addr) (n cap : Nat) (l : List (Int × Int)) (w : World) {B : Nat} (hN : I64 N) (hf : formed N l = false) (hl : ReadsE w B a n l) (hB : B ≤ w.heap.size) (hcap : n ≤ 9223372036854775807) :
    Calls Try.prog 12 #[.agg #[.int .i64 N, .slice a n cap]] w fun e w' => e = .returned (.tuple #[.slice none 0 0, .int .i64 1]) ∧ Below w.heap.size w w' := by
  have HL0 := Lib.hid ((hl.keep ((Below.refl _ _).alloc hB (.cells #[.int .i64 N, .slice a n cap] 24))).mono (show B ≤ w.heap.size + 1 by omega))
  go_enter Try.func12, Try.ntmps12
  go_wp2_with fail
  refine (rorder_bad N a n cap l _ hN hf HL0.out (by simp) hcap).mono ?_; rintro e w1 ⟨rfl, hb1⟩
  have HB := Lib.hid ((((Below.refl _ _).alloc (Nat.le_refl _) _).trans (hb1.mono (show w.heap.size ≤ _ by simp))).alloc (o := .cells #[.int .i64 0, .slice none 0 0] 24) (by have := hb1.size; simp at this; omega))
  clear hb1
  go_wp2
  go_ret2
  exact ⟨rfl, HB.out⟩

set_option maxHeartbeats 3200000 in
set_option maxRecDepth 100000 in
theorem rencode_ok (N : Nat) (a : Option Addr) (n cap : Nat) (l : List (Int × Int)) (w : World) {B : Nat} (hf : formed N l = true) (hl : ReadsE w B a n l) (hB : B ≤ w.heap.size) (hNn : N + n ≤ 4000) :
    Calls Try.prog 12 #[.agg #[.int .i64 (N : Int), .slice a n cap]] w (REncB w (enc N (order l))) := by
  have HLEN := Lib.hid hl.1
  have HN : Hid (I64 (N : Int)) := I64.of (by omega) (by omega)
  have HL0 := Lib.hid ((hl.keep ((Below.refl _ _).alloc hB (.cells #[.int .i64 (N : Int), .slice a n cap] 24))).mono (show B ≤ w.heap.size + 1 by omega))
  have HF := Lib.hid hf
  have HG := Lib.hid (good_order hf)
  have HOL : Hid ((order l).length = n) := by unfold Hid; rw [order_length]; exact hl.1
  have HEL := Lib.hid (enc_len (by omega) (by rw [HOL.out]; omega) (good_order hf))
  clear hf
  go_enter Try.func12, Try.ntmps12
  go_wp2_with fail
  refine (rorder_ok N a n cap l _ HN.out HF.out HL0.out (by simp)).mono ?_; rintro e w1 ⟨A, c, rfl, hr1, hb1⟩
  have HR1 := Lib.hid hr1
  have HB1 := Lib.hid (((Below.refl _ _).alloc (Nat.le_refl _) _).trans (hb1.mono (show w.heap.size ≤ _ by simp)))
  have hs1 : w.heap.size < w1.heap.size := by have := hb1.size; simp at this; omega
  clear hr1 hb1 hl
  have hg2 : Row (w1.alloc (.cells #[.int .i64 (N : Int), .slice A n c] 24)) w1.heap.size 24 [.int .i64 (N : Int), .slice A n c] := heap_alloc_new _ _
  have hr71 := alloc_reads (k := .u8) (w1.alloc (.cells #[.int .i64 (N : Int), .slice A n c] 24)) 5 #[.int .u8 71] [71] rfl (by intro x hx; simp at hx; subst hx; decide)
  rw [show (w1.alloc (.cells #[.int .i64 (N : Int), .slice A n c] 24)).heap.size = w1.heap.size + 1 by simp] at hr71
  have HG2 := Lib.hid (hg2.alloc (.cells #[.int .u8 71] 5))
  have H71 := Lib.hid hr71
  have hNu : U64 N := by unfold U64; omega
  have hnu : U64 n := by unfold U64; omega
  have hvN := vs_le hNu
  have hvn := vs_le hnu
  have HB2 : Hid (Below (w1.heap.size + 1) (w1.alloc (.cells #[.int .i64 (N : Int), .slice A n c] 24)) ((w1.alloc (.cells #[.int .i64 (N : Int), .slice A n c] 24)).alloc (.cells #[.int .u8 71] 5))) := (Below.refl _ _).alloc (by simp) _
  clear hg2 hr71
  go_wp2_with fail
  refine (rput_any _ 1 1 [71] N _ (H71.out.mono (by simp)) (by omega) hNu).mono ?_
  rintro e w3 ⟨A3, c3, rfl, hr3, hb3⟩
  have hb3' := HB2.out.trans (hb3.mono (show w1.heap.size + 1 ≤ _ by simp))
  have HG3 := Lib.hid (HG2.out.below hb3 (by simp; omega))
  have HB3 := Lib.hid hb3'
  have HR3 := Lib.hid hr3
  have c0 := HG3.out.cell 0
  have c1 := HG3.out.cell 1
  have hs3 : w1.heap.size < w3.heap.size := HG3.out.lt
  clear hb3 hb3' hr3 HG2 HB2
  go_wp2_with fail
  refine (rput_any A3 (1 + vs N) c3 ([71] ++ uv N) n _ HR3.out (by omega) hnu).mono ?_
  rintro e w5 ⟨A5, c5, rfl, hr5, hb5⟩
  have HG5 := Lib.hid (HG3.out.below hb5 (by omega))
  have HB5 := Lib.hid (HB3.out.trans (hb5.mono (show w1.heap.size + 1 ≤ _ by omega)))
  have HR5 := Lib.hid hr5
  have c0 := HG5.out.cell 0
  have c1 := HG5.out.cell 1
  have hs5 : w1.heap.size < w5.heap.size := HG5.out.lt
  have HE5 : Hid (ReadsE w5 w1.heap.size A n (order l)) := HR1.out.keep (((Below.refl _ _).alloc (Nat.le_refl _) _).trans (HB5.out.mono (by omega)))
  have HDONE : Hid ([71] ++ uv N ++ uv n ++ encV N 0 (order l) = enc N (order l)) := by
    unfold Hid enc; rw [HOL.out]; simp
  clear hr5 hb5 HG3 HB3 HR3
  generalize order l = E at *
  go_wp2
  go_loopw [6, 7, 8] (fun bv av uw wr => ∃ (u at_ m c : Nat) (A : Option Addr) (L : List Nat), u ≤ N ∧ uw = .int .i64 u ∧ at_ ≤ n ∧ av = .int .i64 at_ ∧ bv = .slice A m c ∧ m ≤ 40021 ∧ Hid (Below w5.heap.size w5 wr) ∧ w5.heap.size ≤ wr.heap.size ∧ Hid (Reads .u8 wr wr.heap.size A m L) ∧ Hid (L ++ encV (N - u) u (E.drop at_) = enc N E ∧ Good N u (E.drop at_) ∧ ∀ e ∈ E.take at_, e.1 < u)) (fun _ _ uw _ => N - (intOf uw).toNat)
  case atStart => exact ⟨0, 0, _, c5, A5, _, by omega, rfl, by omega, rfl, rfl, by omega, Below.refl _ _, Nat.le_refl _, HR5.out, by rw [Nat.sub_zero, List.drop_zero]; exact HDONE.out, by simpa using HG.out, by simp⟩
  case round =>
    obtain ⟨u, at_, m, c', A', L, hu, rfl, hat, rfl, rfl, hm, HBW, hsz, HRD, HI⟩ := hrel
    have c0 := (HG5.out.below HBW.out hs5).cell 0
    have c1 := (HG5.out.below HBW.out hs5).cell 1
    have hgw : w1.heap.size < wr.heap.size := by omega
    have HEW := Lib.hid (HE5.out.keep (HBW.out.mono (show w1.heap.size ≤ w5.heap.size by omega)))
    by_cases hlt : u < N
    · go_wp2
      go_loop [9, 10] (fun mv jv => ∃ m j : Nat, at_ ≤ j ∧ j ≤ n ∧ jv = .int .i64 j ∧ mv = .int .i64 m ∧ m ≤ j ∧ Hid (m = cnt (E.take j) u)) (fun _ jv => n - (intOf jv).toNat)
      case atStart => exact ⟨0, at_, Nat.le_refl _, hat, rfl, rfl, by omega, by unfold Hid; rw [cnt_none fun e he => by have := HI.out.2.2 e he; omega]⟩
      case round =>
        obtain ⟨k, j, hj1, hj2, rfl, rfl, hkj, HK⟩ := hrel
        by_cases hjn : j < n
        · obtain ⟨b, off, x, y, rfl, hb, hx, hy, wx, wy, HE⟩ := HEW.out.at_ hjn
          have hbw : b < wr.heap.size := by omega
          have bx := wx.bounds
          have HT := Lib.hid (take_edge HOL.out hjn HE.out)
          by_cases hxu : x = (u : Int)
          · have g1 : (x == (u : Int)) = true := by simp; omega
            have HV : Hid (k + 1 = cnt (E.take (j + 1)) u) := by unfold Hid; rw [HT.out, cnt_snoc, ← HK.out, if_pos hxu]
            clear hxu
            go_wp2
            go_round
            case rel => exact ⟨k + 1, j + 1, by omega, by omega, by go_num, by go_num, by omega, HV.out⟩
            case measure => simp [intOf]; omega
          · have g1 : (x == (u : Int)) = false := by simp; omega
            have HV : Hid (k = cnt (E.take (j + 1)) u) := by unfold Hid; rw [HT.out, cnt_snoc, ← HK.out, if_neg hxu]; rfl
            clear hxu
            go_wp2
            go_round
            case rel => exact ⟨k, j + 1, by omega, by omega, by go_num, rfl, by omega, HV.out⟩
            case measure => simp [intOf]; omega
        · have e0 : n = j := by omega
          subst e0
          have HC : Hid (k = lead (E.drop at_) u) := by
            have := HK.out
            rw [List.take_of_length_le (by have := HOL.out; omega)] at this
            unfold Hid; rw [this]
            exact cnt_lead HI.out.2.1 HI.out.2.2
          have hkle : at_ + k ≤ n := by
            have h1 := lead_le (E.drop at_) u
            rw [List.length_drop, HOL.out, ← HC.out] at h1
            omega
          obtain ⟨q, hq⟩ : ∃ q, N - u = q + 1 := ⟨N - u - 1, by omega⟩
          have HQ := Lib.hid hq
          have HENC : Hid (L ++ (uv k ++ (diffs u ((E.drop at_).take k) ++ encV q (u + 1) ((E.drop at_).drop k))) = enc N E) := by
            have h := HI.out.1
            rw [hq] at h
            simp only [encV] at h
            rw [← HC.out] at h
            exact h
          have HRIS : Hid (Ris N u u ((E.drop at_).take k)) := by have h := HI.out.2.1.first; rw [← HC.out] at h; exact h
          have hku : U64 k := by unfold U64; omega
          have hvk := vs_le hku
          have HLM := Lib.hid HRD.out.1
          clear hq
          go_wp2_with fail
          refine (rput_any A' m c' L k _ HRD.out (by omega) hku).mono ?_
          rintro e w6 ⟨A6, c6, rfl, hr6, hb6⟩
          have hz6 := hb6.size
          have HB6 := Lib.hid (HBW.out.trans (hb6.mono hsz))
          have HR6 := Lib.hid hr6
          clear hr6 hb6
          go_wp2
          go_loopw [6, 11] (fun bv iv wx => ∃ (i m p c : Nat) (A : Option Addr) (L2 : List Nat), at_ ≤ i ∧ i ≤ at_ + k ∧ iv = .int .i64 i ∧ bv = .slice A m c ∧ p < N ∧ Hid (Below w5.heap.size w5 wx) ∧ w6.heap.size ≤ wx.heap.size ∧ Hid (Reads .u8 wx wx.heap.size A m L2) ∧ Hid (L2 ++ diffs p (((E.drop at_).take k).drop (i - at_)) = L ++ uv k ++ diffs u ((E.drop at_).take k)) ∧ Hid (Ris N u p (((E.drop at_).take k).drop (i - at_))) ∧ Hid (i = at_ → p = u) ∧ Hid (at_ < i → (E.getD (i - 1) (0, 0)).2 = (p : Int))) (fun _ iv _ => at_ + k - (intOf iv).toNat)
          case atStart => exact ⟨at_, _, u, c6, A6, _, Nat.le_refl _, by omega, rfl, rfl, hlt, HB6.out, Nat.le_refl _, HR6.out, by unfold Hid; rw [Nat.sub_self, List.drop_zero], by unfold Hid; rw [Nat.sub_self, List.drop_zero]; exact HRIS.out, fun _ => rfl, fun h => absurd h (by omega)⟩
          case round =>
            obtain ⟨i, m2, p, c2, A2, L2, hi1, hi2, rfl, rfl, hpN, HBX, hszx, HRX, HDX, HRISX, HP1, HP2⟩ := hrel
            have c0 := (HG5.out.below HBX.out hs5).cell 0
            have c1 := (HG5.out.below HBX.out hs5).cell 1
            have hgx : w1.heap.size < wr.heap.size := by omega
            have HEX := Lib.hid (HE5.out.keep (HBX.out.mono (show w1.heap.size ≤ w5.heap.size by omega)))
            have hL2 : L2.length ≤ 40021 := by
              have h1 := congrArg List.length HDX.out
              have h2 := congrArg List.length HENC.out
              have h3 := HEL.out
              have h4 := HOL.out
              simp only [List.length_append] at h1 h2
              omega
            have hm2 : m2 ≤ 40021 := by have := HRX.out.1; omega
            by_cases hin : i < at_ + k
            · obtain ⟨b, off, x, y, rfl, hb, hx, hy, wx', wy', HE⟩ := HEX.out.at_ (show i < n by omega)
              have hbw : b < wr.heap.size := by omega
              have hdrop : ((E.drop at_).take k).drop (i - at_) = (x, y) :: ((E.drop at_).take k).drop (i + 1 - at_) := by
                have hlen : i - at_ < ((E.drop at_).take k).length := by rw [List.length_take, List.length_drop, HOL.out]; omega
                rw [List.drop_eq_getElem_cons hlen, show i - at_ + 1 = i + 1 - at_ by omega]
                congr 1
                rw [List.getElem_take, List.getElem_drop]
                have := HE.out
                rw [List.getD_eq_getElem?_getD, List.getElem?_eq_getElem (by rw [HOL.out]; omega)] at this
                simp only [Option.getD_some] at this
                simp only [show at_ + (i - at_) = i by omega]
                exact this
              have hris := HRISX.out
              have hdx := HDX.out
              rw [hdrop] at hris hdx
              obtain ⟨r1, r2, r3, r4⟩ := hris
              simp only at r1 r2 r3 r4
              obtain ⟨Y, rfl⟩ := Int.eq_ofNat_of_zero_le (show 0 ≤ y by omega)
              have hpY : p ≤ Y := by omega
              have hYN : Y < N := by omega
              have HSUB : Hid ((Y : Int) - (p : Int) = ((Y - p : Nat) : Int)) := by unfold Hid; omega
              have hyu : U64 (Y - p) := by unfold U64; omega
              have hvy := vs_le hyu
              have HYU := Lib.hid hyu
              have HR4 := Lib.hid r4
              have HD2 : Hid (L2 ++ uv (Y - p) ++ diffs (Y : Int) (((E.drop at_).take k).drop (i + 1 - at_)) = L ++ uv k ++ diffs u ((E.drop at_).take k)) := by
                unfold Hid
                rw [← hdx]
                simp only [diffs]
                rw [HSUB.out, Int.toNat_natCast, List.append_assoc]
              have HEY : Hid ((E.getD i (0, 0)).2 = (Y : Int)) := by unfold Hid; rw [HE.out]
              clear hdx hdrop r4 hyu r1 r2 r3
              by_cases hia : i = at_
              · obtain rfl : p = u := HP1.out hia
                have g : decide ((at_ : Int) < (i : Int)) = false := by simp; omega
                have hle : i ≤ at_ := by omega
                clear hia
                go_wp2_with fail
                rw [HSUB.out]
                refine (rput_any A2 m2 c2 L2 (Y - p) _ HRX.out (by omega) HYU.out).mono ?_
                rintro e w7 ⟨A7, c7, rfl, hr7, hb7⟩
                have hz7 := hb7.size
                have HB7 := Lib.hid (HBX.out.trans (hb7.mono (show w5.heap.size ≤ wr.heap.size by omega)))
                have HR7 := Lib.hid hr7
                clear hr7 hb7
                go_wp2
                go_roundw
                case rel => exact ⟨i + 1, _, Y, c7, A7, _, by omega, by omega, by go_num, rfl, hYN, HB7.out, by omega, HR7.out, HD2.out, HR4.out, fun h => absurd h (by omega), fun _ => by rw [Nat.add_sub_cancel]; exact HEY.out⟩
                case measure => simp [intOf]; omega
              · obtain ⟨i', rfl⟩ : ∃ i', i = i' + 1 := ⟨i - 1, by omega⟩
                obtain ⟨b', off', x', y', hbe, hbb, hx', hy', wxx, wyy, HE'⟩ := HEX.out.at_ (show i' < n by omega)
                injection hbe with hbe; injection hbe with e1 e2; subst e1; subst e2
                obtain rfl : y' = (p : Int) := by
                  have := HP2.out (by omega)
                  rw [Nat.add_sub_cancel, HE'.out] at this
                  exact this
                have g : decide ((at_ : Int) < (i' : Int) + 1) = true := by simp; omega
                have hj0 : (0 : Int) ≤ (i' : Int) := by omega
                have hlt2 : at_ < i' + 1 := by omega
                have hj1 : (i' : Int) < (n : Int) := by omega
                go_wp2_with fail
                rw [HSUB.out]
                refine (rput_any A2 m2 c2 L2 (Y - p) _ HRX.out (by omega) HYU.out).mono ?_
                rintro e w7 ⟨A7, c7, rfl, hr7, hb7⟩
                have hz7 := hb7.size
                have HB7 := Lib.hid (HBX.out.trans (hb7.mono (show w5.heap.size ≤ wr.heap.size by omega)))
                have HR7 := Lib.hid hr7
                clear hr7 hb7
                go_wp2
                go_roundw
                case rel => exact ⟨i' + 2, _, Y, c7, A7, _, by omega, by omega, by go_num, rfl, hYN, HB7.out, by omega, HR7.out, HD2.out, HR4.out, fun h => absurd h (by omega), fun _ => HEY.out⟩
                case measure => simp [intOf]; omega
            · obtain rfl : i = at_ + k := by omega
              have hnil : ((E.drop at_).take k).drop (at_ + k - at_) = [] := List.drop_eq_nil_of_le (by rw [List.length_take]; omega)
              have HFIN : Hid (L2 ++ encV (N - (u + 1)) (u + 1) (E.drop (at_ + k)) = enc N E ∧ Good N ((u + 1 : Nat) : Int) (E.drop (at_ + k)) ∧ ∀ e ∈ E.take (at_ + k), e.1 < ((u + 1 : Nat) : Int)) := by
                have h1 := HDX.out
                rw [hnil] at h1
                simp only [diffs, List.append_nil] at h1
                have hg := HI.out.2.1
                refine ⟨?_, ?_, fun e he => ?_⟩
                · rw [show N - (u + 1) = q by have := HQ.out; omega, h1, ← HENC.out, ← List.drop_drop]
                  simp
                · have := hg.rest
                  rw [← HC.out, List.drop_drop] at this
                  push_cast; exact this
                · rw [List.take_add] at he
                  rcases List.mem_append.1 he with he | he
                  · have := HI.out.2.2 e he; push_cast; omega
                  · have := (HRIS.out.mem e he).1; push_cast; omega
              clear hnil
              go_wp2
              go_roundw
              case rel => exact ⟨u + 1, at_ + k, m2, c2, A2, L2, by omega, by go_num, by omega, by go_num, rfl, hm2, HBX.out, by omega, HRX.out, HFIN.out⟩
              case measure => simp [intOf]; omega
    · obtain rfl : u = N := by omega
      have hL : L = enc u E := by
        have h := HI.out.1
        rw [Nat.sub_self] at h
        simpa [encV] using h
      have hml := HRD.out.1
      have HX : Hid (Reads .u8 wr wr.heap.size A' (enc u E).length (enc u E)) := by
        have h := HRD.out
        rw [hL] at h
        rw [← h.1] at h
        exact h
      have HML : Hid (m = (enc u E).length) := by unfold Hid; rw [← hml, hL]
      have HBX : Hid (Below w.heap.size w wr) := HB1.out.trans (((Below.refl _ _).alloc (show w.heap.size ≤ w1.heap.size by omega) _).trans ((HB5.out.mono (by omega)).trans (HBW.out.mono (by omega))))
      clear hL hml
      go_wp2
      go_ret2
      rw [HML.out]
      exact ⟨A', c', rfl, HX.out, HBX.out⟩
end Go.Proofs.Ytdjmjabbjjcgiaa
