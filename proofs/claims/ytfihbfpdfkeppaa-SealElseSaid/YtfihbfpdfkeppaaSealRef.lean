/- What the reference's Same, Put and Get answer. -/
import Derived.Test.YtfihbfpdfkeppaaSealGet
import Derived.Test.YtfihbfpdfkeppaaCrcRef
namespace Go.Proofs.Ytfihbfpdfkeppaa
open Go.ChangeShapes Go.WideShapes Go.ChangeAt Go.RowKit

theorem take_ne {l m : List Nat} {i x y : Nat} (hx : x = l.getD i 0) (hy : y = m.getD i 0) (h : x ≠ y) : l ≠ m := by
  intro e; subst e; exact h (hx.trans hy.symm)
theorem take_more {l m : List Nat} {i n x : Nat} (hl : l.length = n) (hm : m.length = n) (hi : i < n) (hx : x = l.getD i 0) (hy : x = m.getD i 0) (h : l.take i = m.take i) : l.take (i + 1) = m.take (i + 1) := by
  rw [List.take_succ_eq_append_getElem (by omega), List.take_succ_eq_append_getElem (by omega), h]
  congr 2
  rw [List.getD_eq_getElem?_getD, List.getElem?_eq_getElem (by omega)] at hx hy
  exact hx.symm.trans hy
set_option maxRecDepth 100000 in
theorem wsame_any (a1 a2 : Option Addr) (n1 n2 c1 c2 : Nat) (l1 l2 : List Nat) (w : World) {B1 B2 : Nat} (h1 : Reads .u64 w B1 a1 n1 l1) (h2 : Reads .u64 w B2 a2 n2 l2) (hn : n1 ≤ 1000000) :
    Calls Try.prog 11 #[.slice a1 n1 c1, .slice a2 n2 c2] w fun e w' => e = .returned (.bool (decide (l1 = l2))) ∧ ∃ m, w' = w.drewN m := by
  by_cases hlen : n1 = n2
  · subst hlen
    have HL1 := Lib.hid h1.1
    have HL2 := Lib.hid h2.1
    go_enter Try.func11, Try.ntmps11
    go_wp2
    go_loopw [5] (fun iv wr => ∃ i : Nat, i ≤ n1 ∧ iv = .int .i64 (i : Int) ∧ (∃ m, wr = w.drewN m) ∧ Hid (l1.take i = l2.take i)) (fun iv _ => n1 - (intOf iv).toNat)
    case atStart => exact ⟨0, by omega, rfl, ⟨0, rfl⟩, by unfold Hid; simp⟩
    case round =>
      obtain ⟨i, hi, rfl, ⟨m, rfl⟩, HT⟩ := hrel
      by_cases hlt : i < n1
      · obtain ⟨b1, o1, x, rfl, hb1, d1, wx, hx⟩ := h1.at_ hlt
        obtain ⟨b2, o2, y, rfl, hb2, d2, wy, hy⟩ := h2.at_ hlt
        have hj0 : (0 : Int) ≤ (i : Int) := by omega
        have hj1 : (i : Int) < (n1 : Int) := by omega
        have d1' : ∀ q, (w.drewN q).cell? ⟨b1, o1 + i, none⟩ = some (.int .u64 (x : Nat)) := fun _ => d1
        have d2' : ∀ q, (w.drewN q).cell? ⟨b2, o2 + i, none⟩ = some (.int .u64 (y : Nat)) := fun _ => d2
        by_cases e : x = y
        · subst e
          have HT2 : Hid (l1.take (i + 1) = l2.take (i + 1)) := take_more HL1.out HL2.out hlt hx.out hy.out HT.out
          go_wp2
          go_quiet (fail)
          go_wp2
          go_roundw
          case rel => exact ⟨i + 1, by omega, by go_num, ⟨_, rfl⟩, HT2.out⟩
          case measure => simp [intOf]; omega
        · have g : ((x : Int) != (y : Int)) = true := by simp; omega
          have HNE : Hid (decide (l1 = l2) = false) := by
            unfold Hid; rw [decide_eq_false_iff_not]; exact take_ne hx.out hy.out e
          clear e
          go_wp2
          go_quiet (fail)
          go_wp2
          go_ret
          exact ⟨ret_bool HNE.out.symm, _, World.drewN_drewN _ _ _⟩
      · have HE : Hid (decide (l1 = l2) = true) := by
          unfold Hid; rw [decide_eq_true_eq]
          have h := HT.out
          rwa [List.take_of_length_le (by have := HL1.out; omega), List.take_of_length_le (by have := HL2.out; omega)] at h
        go_wp2
        go_ret
        exact ⟨ret_bool HE.out.symm, m, rfl⟩
  · have HNE : Hid (decide (l1 = l2) = false) := by
      unfold Hid; rw [decide_eq_false_iff_not]; intro e; exact hlen (by rw [← h1.1, ← h2.1, e])
    have g : ((n1 : Int) != (n2 : Int)) = true := by simp; omega
    clear hlen
    go_enter Try.func11, Try.ntmps11
    go_wp2
    go_ret
    exact ⟨ret_bool HNE.out.symm, 0, rfl⟩

theorem own1_below {w w' : World} {base s : Nat} {e : TypeId} {v : Value} {n : Nat} {xs : List Value} (h : w.ownsRow base e s v n xs) (hb : Below w.heap.size w w') : w'.ownsRow base e s v n xs := by
  obtain ⟨h1, h2⟩ := h
  refine ⟨h1, ?_⟩
  rcases h2 with h2 | ⟨g, cap, cur, rfl, hg, hh, r⟩
  · exact .inl h2
  · exact .inr ⟨g, cap, cur, rfl, hg, (hb.block g (lt_of_some hh)).trans hh, r⟩

def vlen (v : Value) : Nat := match v with | .slice _ m _ => m | _ => 0
theorem own1_form {w : World} {base s : Nat} {e : TypeId} {v : Value} {n : Nat} {xs : List Value} (h : w.ownsRow base e s v n xs) : ∃ A c, v = .slice A n c := by
  rcases h.2 with ⟨rfl, rfl⟩ | ⟨g, cap, cur, rfl, _⟩
  · exact ⟨none, 0, rfl⟩
  · exact ⟨_, _, rfl⟩

set_option maxHeartbeats 3200000 in
set_option maxRecDepth 100000 in
theorem rput_ok (size ad tag : Nat) (a : Option Addr) (n c : Nat) (l : List Nat) (w : World) {B : Nat} (hl : Reads .u64 w B a n l) (h8 : 8 ≤ size) (h256 : size ≤ 256) (had : ad ≤ 9223372036854775807) (ht : tag < 18446744073709551616) (hn : n ≤ size - 2) :
    Calls Try.prog 10 #[.int .i64 size, .int .i64 ad, .int .u64 tag, .slice a n c] w fun e w' => ∃ v, e = .returned (.tuple #[v, .int .i64 0]) ∧ w'.ownsRow w.heap.size 23 1 v size ((sealW size ad tag l).map vw) ∧ Below w.heap.size w w' := by
  obtain ⟨i0, hi, hz0, hz1, hz2⟩ := info_parts infoW
  have hlen := hl.1
  have hu : U64s l := fun x hx => u64_lt (hl.2.1 x hx)
  obtain ⟨s1, hs1⟩ : ∃ s1, s1 = size - 1 := ⟨_, rfl⟩
  obtain ⟨s2, hs2⟩ : ∃ s2, s2 = size - 2 := ⟨_, rfl⟩
  obtain ⟨num, hnum⟩ : ∃ num, num = n + 1 := ⟨_, rfl⟩
  have b1 : s1 + 1 ≤ size ∧ size ≤ s1 + 1 := by omega
  have b2 : s2 + 2 ≤ size ∧ size ≤ s2 + 2 := by omega
  have b3 : num ≤ n + 1 ∧ n + 1 ≤ num := by omega
  have hsub2 : (size : Int) - 2 = (s2 : Int) := by omega
  have hadd : (n : Int) + 1 = (num : Int) := by omega
  have HSEAL : Hid (sealW size ad tag l = frontW size tag l ++ [lastW (frontW size tag l) num ad]) := by
    unfold Hid sealW; rw [hlen, hnum]
  have HF : Hid (frontW size tag l = l ++ List.replicate (s2 - n) 0 ++ [tag]) := by
    unfold Hid frontW; rw [hlen, hs2]
  have HFU := Lib.hid (front_u64 (size := size) hu ht)
  have HFL := Lib.hid ((front_len (tag := tag) (pl := l) (size := size) (by omega) (by omega)).trans hs1.symm)
  have HL := Lib.hid hl
  have HLL := Lib.hid hlen
  have HMUL : Hid ((num : Int) * 4294967296 + ((sm (frontW size tag l ++ [num, ad]) : Nat) : Int) = ((lastW (frontW size tag l) num ad : Nat) : Int)) := by
    unfold Hid lastW; simp
  have hsmlt := sm_lt (frontW size tag l ++ [num, ad])
  have hw64 : IntKind.u64.wrap ((sm (frontW size tag l ++ [num, ad]) : Nat) : Int) = ((sm (frontW size tag l ++ [num, ad]) : Nat) : Int) := IntWalk.u64_in _ (by omega)
  rw [HSEAL.out]
  generalize frontW size tag l = F at *
  generalize hZE : lastW F num ad = z at *
  generalize hSV : sm (F ++ [num, ad]) = sv at *
  have HSV := Lib.hid hSV
  clear hSV
  have HFX := HF
  clear hs1 hs2 hnum hlen hl hu HSEAL hZE
  have g1 : decide ((size : Int) < 8) = false := by simp; omega
  have g2 : decide ((size : Int) > 256) = false := by simp; omega
  have g3 : decide ((ad : Int) < 0) = false := by simp
  have g4 : decide ((n : Int) > (s2 : Int)) = false := by simp; omega
  go_enter Try.func10, Try.ntmps10
  go_wp2_with (with_reducible refine stopAt 31 ?_)
  unfold Hid
  refine wpList_append_list _ rfl _ _ 24 rfl w.heap.size 23 i0 (.int .u64 0) 8 Try.underlying24 hi hz0 hz1 hz2 rfl _ 0 [] rfl (World.ownsRow_nil _ _ _ _) a n c (l.map vw) rfl (by have := HLL.out; simpa using this) HL.out.source cells_int (by omega) (by omega) (Nat.le_refl _) ?_
  intro v1 w1 hown1 hb1
  rw [Nat.zero_add, List.nil_append] at hown1
  have HO1 := Lib.hid hown1
  have HB1 := Lib.hid hb1
  clear hown1 hb1
  go_wp2
  go_loopw [10] (fun v wr => ∃ k : Nat, n ≤ k ∧ k ≤ s2 ∧ Hid (wr.ownsRow w.heap.size 23 1 v k ((l ++ List.replicate (k - n) 0).map vw)) ∧ Hid (Below w.heap.size w wr)) (fun v _ => s2 - vlen v)
  case atStart => exact ⟨n, Nat.le_refl _, by omega, by unfold Hid; rw [Nat.sub_self]; simpa using HO1.out, HB1.out⟩
  case round =>
    obtain ⟨k, hk1, hk2, HO, HB⟩ := hrel
    obtain ⟨A, cA, rfl⟩ := own1_form HO.out
    have hbw := HB.out.size
    by_cases hlt : k < s2
    · have HNX : Hid ((l ++ List.replicate (k - n) 0).map vw ++ [.int .u64 0] = (l ++ List.replicate (k + 1 - n) 0).map vw) := by
        unfold Hid
        rw [show k + 1 - n = k - n + 1 by omega, List.replicate_succ', ← List.append_assoc, List.map_append (l₂ := [0])]; rfl
      go_wp2_with (with_reducible refine stopAt 39 ?_)
      unfold Hid
      refine wpList_append_list _ rfl _ _ 24 rfl w.heap.size 23 i0 (.int .u64 0) 8 Try.underlying24 hi hz0 hz1 hz2 rfl (.slice A k cA) k ((l ++ List.replicate (k - n) 0).map vw) rfl (HO.out.alloc _) _ 1 1 [.int .u64 0] rfl rfl (fun _ => ⟨_, rfl, cells1⟩) (by simp; rfl) (by omega) (by omega) (by simp; omega) ?_
      intro v2 w2 hown2 hb2
      rw [HNX.out] at hown2
      have HO2 := Lib.hid hown2
      have HB2 : Hid (Below w.heap.size w w2) := HB.out.trans (((Below.refl _ wr).alloc hbw (.cells #[.int .u64 0] 23)).trans hb2)
      clear hown2 hb2
      obtain ⟨A2, c2, rfl⟩ := own1_form HO2.out
      go_wp2
      go_roundw
      case rel => exact ⟨k + 1, by omega, by omega, HO2.out, HB2.out⟩
      case measure => simp [vlen]; omega
    · obtain rfl : k = s2 := by omega
      have HF1 : Hid ((l ++ List.replicate (k - n) 0).map vw ++ [.int .u64 tag] = F.map vw) := by
        unfold Hid; rw [HF.out, List.map_append (l₂ := [tag])]; rfl
      go_wp2_with (with_reducible refine stopAt 43 ?_)
      unfold Hid
      refine wpList_append_list _ rfl _ _ 24 rfl w.heap.size 23 i0 (.int .u64 0) 8 Try.underlying24 hi hz0 hz1 hz2 rfl (.slice A k cA) k ((l ++ List.replicate (k - n) 0).map vw) rfl (HO.out.alloc _) _ 1 1 [.int .u64 tag] rfl rfl (fun _ => ⟨_, rfl, cells1⟩) (by simp; rfl) (by omega) (by omega) (by simp; omega) ?_
      intro v3 w3 hown3 hb3
      rw [HF1.out, show k + 1 = s1 by omega] at hown3
      have HO3 := Lib.hid hown3
      have HB3 : Hid (Below w.heap.size w w3) := HB.out.trans (((Below.refl _ wr).alloc hbw (.cells #[.int .u64 (tag : Nat)] 23)).trans hb3)
      have hbw3 := HB3.out.size
      clear hown3 hb3
      obtain ⟨A3, c3, e3, hr3, _⟩ := own_reads HO3.out (fun x hx => u64_wf (HFU.out x hx))
      subst e3
      have HR3 := Lib.hid hr3
      clear hr3
      go_wp2_with (with_reducible refine stopAt 46 ?_)
      unfold Hid
      refine wpList_append_list _ rfl _ _ 24 rfl w3.heap.size 23 i0 (.int .u64 0) 8 Try.underlying24 hi hz0 hz1 hz2 rfl _ 0 [] rfl (World.ownsRow_nil _ _ _ _) A3 s1 c3 (F.map vw) rfl (by have := HFL.out; simpa using this) HR3.out.source cells_int (by omega) (by omega) (Nat.le_refl _) ?_
      intro v4 w4 hown4 hb4
      rw [Nat.zero_add, List.nil_append] at hown4
      have HO4 := Lib.hid hown4
      have HB4 : Hid (Below w3.heap.size w3 w4) := hb4
      have hbw4 := hb4.size
      clear hown4 hb4
      go_wp2_with (with_reducible refine stopAt 53 ?_)
      unfold Hid
      refine wpList_append_list _ rfl _ _ 24 rfl w3.heap.size 23 i0 (.int .u64 0) 8 Try.underlying24 hi hz0 hz1 hz2 rfl v4 s1 (F.map vw) rfl (HO4.out.alloc _) _ 1 1 [.int .u64 num] rfl rfl (fun _ => ⟨_, rfl, cells1⟩) (by simp; rfl) (by omega) (by omega) (by simp; omega) ?_
      intro v5 w5 hown5 hb5
      have HO5 := Lib.hid hown5
      have HB5 : Hid (Below w3.heap.size w3 w5) := HB4.out.trans (((Below.refl _ w4).alloc hbw4 (.cells #[.int .u64 (num : Nat)] 23)).trans hb5)
      have hbw5 := HB5.out.size
      clear hown5 hb5
      go_wp2_with (with_reducible refine stopAt 58 ?_)
      unfold Hid
      refine wpList_append_list _ rfl _ _ 24 rfl w3.heap.size 23 i0 (.int .u64 0) 8 Try.underlying24 hi hz0 hz1 hz2 rfl v5 (s1 + 1) (F.map vw ++ [.int .u64 num]) rfl (HO5.out.alloc _) _ 1 1 [.int .u64 ad] rfl rfl (fun _ => ⟨_, rfl, cells1⟩) (by simp; rfl) (by omega) (by omega) (by simp; omega) ?_
      intro v6 w6 hown6 hb6
      have hmap : F.map vw ++ [.int .u64 (num : Nat)] ++ [.int .u64 (ad : Nat)] = (F ++ [num, ad]).map vw := by rw [List.map_append, List.append_assoc]; rfl
      rw [hmap] at hown6
      have HB6 : Hid (Below w3.heap.size w3 w6) := HB5.out.trans (((Below.refl _ w5).alloc hbw5 (.cells #[.int .u64 (ad : Nat)] 23)).trans hb6)
      obtain ⟨A6, c6, e6, hr6, _⟩ := own_reads hown6 (fun x hx => by
        rcases List.mem_append.1 hx with hx | hx
        · exact u64_wf (HFU.out x hx)
        · simp at hx; exact u64_wf (by omega))
      subst e6
      have HR6 := Lib.hid hr6
      have HO7 : Hid (w6.ownsRow w.heap.size 23 1 (.slice A3 s1 c3) s1 (F.map vw)) := own1_below HO3.out HB6.out
      have hbw6 := HB6.out.size
      clear hown6 hb6 hr6 hmap HO5 HO4 HR3 HB5 HB4
      go_wp2_with fail
      refine (rsum_any A6 (s1 + 1 + 1) c6 (F ++ [num, ad]) w6 HR6.out (by omega)).mono ?_; rintro e w7 ⟨rfl, rfl⟩
      rw [HSV.out]
      go_wp2_with (with_reducible refine stopAt 70 ?_)
      unfold Hid
      refine wpList_append_list _ rfl _ _ 24 rfl w.heap.size 23 i0 (.int .u64 0) 8 Try.underlying24 hi hz0 hz1 hz2 rfl (.slice A3 s1 c3) s1 (F.map vw) rfl (HO7.out.alloc _) _ 1 1 [.int .u64 ((num : Int) * 4294967296 + (sv : Int))] rfl rfl (fun _ => ⟨_, rfl, cells1⟩) (by simp; rfl) (by omega) (by omega) (by simp; omega) ?_
      intro v8 w8 hown8 hb8
      have hmap : F.map vw ++ [.int .u64 (z : Nat)] = (F ++ [z]).map vw := by rw [List.map_append]; rfl
      rw [HMUL.out, hmap, show s1 + 1 = size by omega] at hown8
      have HO8 := Lib.hid hown8
      have HB8 : Hid (Below w.heap.size w w8) := HB3.out.trans ((HB6.out.mono hbw3).trans (((Below.refl _ w6).alloc (by omega) (.cells #[.int .u64 ((num : Int) * 4294967296 + (sv : Int))] 23)).trans hb8))
      clear hown8 hb8 hmap
      go_wp2
      go_ret2
      exact ⟨v8, rfl, HO8.out, HB8.out⟩
set_option maxHeartbeats 1600000 in
set_option maxRecDepth 100000 in
theorem rput_no (size ad : Int) (tag : Nat) (a : Option Addr) (n c : Nat) (w : World) (hno : ¬ (8 ≤ size ∧ size ≤ 256 ∧ 0 ≤ ad ∧ (n : Int) ≤ size - 2)) :
    Calls Try.prog 10 #[.int .i64 size, .int .i64 ad, .int .u64 tag, .slice a n c] w fun e w' => e = .returned (.tuple #[.slice none 0 0, .int .i64 1]) ∧ w = w' := by
  by_cases h1 : size < 8
  · have g1 : decide (size < 8) = true := by simpa using h1
    clear hno
    go_enter Try.func10, Try.ntmps10
    go_wp2
    go_ret2
    exact ⟨rfl, rfl⟩
  have g1 : decide (size < 8) = false := by simpa using h1
  by_cases h2 : size > 256
  · have g2 : decide (size > 256) = true := by simpa using h2
    clear hno
    go_enter Try.func10, Try.ntmps10
    go_wp2
    go_ret2
    exact ⟨rfl, rfl⟩
  have g2 : decide (size > 256) = false := by simpa using h2
  by_cases h3 : ad < 0
  · have g3 : decide (ad < 0) = true := by simpa using h3
    clear hno
    go_enter Try.func10, Try.ntmps10
    go_wp2
    go_ret2
    exact ⟨rfl, rfl⟩
  have g3 : decide (ad < 0) = false := by simpa using h3
  obtain ⟨s2, hs2⟩ : ∃ s2, s2 = size - 2 := ⟨_, rfl⟩
  have hsub2 : size - 2 = s2 := by omega
  have hb : 6 ≤ s2 ∧ s2 ≤ 254 := by omega
  have g4 : decide ((n : Int) > s2) = true := by simp; omega
  clear hs2 hno h1 h2 h3
  go_enter Try.func10, Try.ntmps10
  go_wp2
  go_ret2
  exact ⟨rfl, rfl⟩

set_option maxHeartbeats 1600000 in
set_option maxRecDepth 100000 in
theorem rget_arg (a : Option Addr) (n c : Nat) (ad : Int) (w : World) (h : mayW n ad = false) :
    Calls Try.prog 13 #[.slice a n c, .int .i64 ad] w fun e w' => e = .returned (.tuple #[.slice none 0 0, .int .u64 0, .int .i64 1]) ∧ w = w' := by
  have hno : ¬ (8 ≤ n ∧ n ≤ 256 ∧ 0 ≤ ad) := by
    rintro ⟨h1, h2, h3⟩
    unfold mayW at h; simp at h; omega
  clear h
  by_cases h1 : (n : Int) < 8
  · have g1 : decide ((n : Int) < 8) = true := by simpa using h1
    clear hno
    go_enter Try.func13, Try.ntmps13
    go_wp2
    go_ret3
    exact ⟨rfl, rfl⟩
  have g1 : decide ((n : Int) < 8) = false := by simpa using h1
  by_cases h2 : (n : Int) > 256
  · have g2 : decide ((n : Int) > 256) = true := by simpa using h2
    clear hno
    go_enter Try.func13, Try.ntmps13
    go_wp2
    go_ret3
    exact ⟨rfl, rfl⟩
  have g2 : decide ((n : Int) > 256) = false := by simpa using h2
  have g3 : decide (ad < 0) = true := by simp; omega
  clear hno h1 h2
  go_enter Try.func13, Try.ntmps13
  go_wp2
  go_ret3
  exact ⟨rfl, rfl⟩

set_option maxHeartbeats 3200000 in
set_option maxRecDepth 100000 in
theorem rget_may (a : Option Addr) (n c ad : Nat) (l : List Nat) (w : World) {B : Nat} (hl : Reads .u64 w B a n l) (hB : B ≤ w.heap.size) (hc : n ≤ c) (h8 : 8 ≤ n) (h256 : n ≤ 256) (had : ad ≤ 9223372036854775807) :
    Calls Try.prog 13 #[.slice a n c, .int .i64 ad] w fun e w' => (okW l ad = false ∧ e = .returned (.tuple #[.slice none 0 0, .int .u64 0, .int .i64 6]) ∧ Below w.heap.size w w') ∨
      (okW l ad = true ∧ e = .returned (.tuple #[.slice a (numW l - 1) c, .int .u64 (tagW l), .int .i64 0]) ∧ Below w.heap.size w w') := by
  obtain ⟨i0, hi, hz0, hz1, hz2⟩ := info_parts infoW
  have hlen := hl.1
  obtain ⟨b, o, rfl, hbB, hcell⟩ := hl.2.2 (by omega)
  obtain ⟨s1, hs1⟩ : ∃ s1, s1 = n - 1 := ⟨_, rfl⟩
  obtain ⟨s2, hs2⟩ : ∃ s2, s2 = n - 2 := ⟨_, rfl⟩
  obtain ⟨num, hnum⟩ : ∃ num, num = numW l := ⟨_, rfl⟩
  obtain ⟨tag, htag⟩ : ∃ tag, tag = tagW l := ⟨_, rfl⟩
  obtain ⟨z, hz⟩ : ∃ z, z = l.getD s1 0 := ⟨_, rfl⟩
  have c1 : w.cell? ⟨b, o + s1, none⟩ = some (.int .u64 (z : Nat)) := by rw [hz]; exact hcell s1 (by omega)
  have c2 : w.cell? ⟨b, o + s2, none⟩ = some (.int .u64 (tag : Nat)) := by
    rw [htag]; unfold tagW; rw [hlen, ← hs2]; exact hcell s2 (by omega)
  have hnz : num = z / 4294967296 := by rw [hnum, hz]; unfold numW; rw [hlen, hs1]
  have hzlt : z < 18446744073709551616 := by
    rw [hz]; exact u64_lt (hl.2.1 _ (by rw [List.getD_eq_getElem?_getD, List.getElem?_eq_getElem (by omega)]; exact List.getElem_mem _))
  have htlt : tag < 18446744073709551616 := by
    rw [htag]; unfold tagW; exact u64_lt (hl.2.1 _ (by rw [List.getD_eq_getElem?_getD, List.getElem?_eq_getElem (by omega)]; exact List.getElem_mem _))
  have hdiv : (z : Int) / 4294967296 = (num : Int) := by omega
  have hnlt : num < 4294967296 := by omega
  have b1 : s1 + 1 ≤ n ∧ n ≤ s1 + 1 := by omega
  have b2 : s2 + 2 ≤ n ∧ n ≤ s2 + 2 := by omega
  have hsub1 : (n : Int) - 1 = (s1 : Int) := by omega
  have hsub2 : (n : Int) - 2 = (s2 : Int) := by omega
  have i10 : (0 : Int) ≤ (s1 : Int) := by omega
  have i11 : (s1 : Int) < (n : Int) := by omega
  have i20 : (0 : Int) ≤ (s2 : Int) := by omega
  have i21 : (s2 : Int) < (n : Int) := by omega
  have e1 : decide ((n : Int) < 8) = false := by simp; omega
  have e2 : decide ((n : Int) > 256) = false := by simp; omega
  have e3 : decide ((ad : Int) < 0) = false := by simp
  have HL := Lib.hid hl
  have HLL := Lib.hid hlen
  have HB := Lib.hid hB
  rw [← htag, ← hnum]
  have HNUM := Lib.hid hnum
  have HTAG := Lib.hid htag
  have HS1 := Lib.hid hs1
  clear hcell hlen hl hs1 hs2 hnum htag hz hnz
  by_cases h1 : num < 1
  · have HNO : Hid (okW l ad = false) := by
      unfold Hid okW; rw [← HNUM.out]; simp; omega
    have g1 : decide ((num : Int) < 1) = true := by simp; omega
    go_enter Try.func13, Try.ntmps13
    go_wp2
    go_ret3
    exact .inl ⟨HNO.out, rfl, Below.refl _ _⟩
  have g1 : decide ((num : Int) < 1) = false := by simp; omega
  by_cases h2 : s1 < num
  · have HNO : Hid (okW l ad = false) := by
      unfold Hid okW; rw [← HNUM.out, HLL.out, ← HS1.out]; simp; omega
    have g2 : decide ((num : Int) > (s1 : Int)) = true := by simp; omega
    go_enter Try.func13, Try.ntmps13
    go_wp2
    go_ret3
    exact .inl ⟨HNO.out, rfl, Below.refl _ _⟩
  have g2 : decide ((num : Int) > (s1 : Int)) = false := by simp; omega
  obtain ⟨p, hp⟩ : ∃ p, p = num - 1 := ⟨_, rfl⟩
  have bp : p + 1 ≤ num ∧ num ≤ p + 1 := by omega
  have hsubp : (num : Int) - 1 = (p : Int) := by omega
  have HOK : Hid (okW l ad = decide (sealW n ad tag (l.take p) = l)) := by
    unfold Hid okW
    rw [← HNUM.out, ← HTAG.out, HLL.out, ← hp]
    have h3 : decide (1 ≤ num) = true := by simp; omega
    have h4 : decide (num ≤ n - 1) = true := by simp; omega
    rw [h3, h4, Bool.true_and, Bool.true_and]
    exact decide_eq_decide.2 eq_comm
  have k1 := fun W => run_head (P := Try.prog) W 24 23 i0 Try.underlying24 hi (some ⟨b, o, none⟩) n c p (by omega) .i64 (p : Int) rfl
  have HPR := Lib.hid (HL.out.take (m := p) (by omega))
  rw [← hp]
  clear hp
  have hput := rput_ok n ad tag (some ⟨b, o, none⟩) p c (l.take p) w HPR.out h8 h256 had htlt (by omega)
  have HPUT := Lib.hid hput
  have hpu : ∀ x ∈ sealW n ad tag (l.take p), (Lit.int .u64 (x : Nat)).wf = true := fun x hx => u64_wf (seal_u64 (fun y hy => u64_lt (HPR.out.2.1 y hy)) htlt (by rw [HPR.out.1]; omega) x hx)
  have HPU := Lib.hid hpu
  clear hput hpu
  generalize sealW n ad tag (l.take p) = S at *
  cases hd : decide (S = l) with
  | true =>
    rw [hd] at HOK
    go_enter Try.func13, Try.ntmps13
    go_wp2_with fail
    refine HPUT.out.mono ?_; rintro e w1 ⟨v, rfl, hown, hb⟩
    obtain ⟨A1, cc1, rfl, hr1, _⟩ := own_reads hown HPU.out
    have HS := Lib.hid (wsame_any A1 (some ⟨b, o, none⟩) n n cc1 c S l w1 hr1 (HL.out.keep (hb.mono HB.out)) (by omega))
    rw [hd] at HS
    have HB1 := Lib.hid hb
    have c2' : w1.cell? ⟨b, o + s2, none⟩ = some (.int .u64 (tag : Nat)) := (hb.cell (p := ⟨b, o + s2, none⟩) (Nat.lt_of_lt_of_le hbB HB.out)).trans c2
    clear hown hr1 hb hd
    go_wp2_with fail
    refine HS.out.mono ?_; rintro e w2 ⟨rfl, m, rfl⟩
    have c2'' : ∀ q, (w1.drewN q).cell? ⟨b, o + s2, none⟩ = some (.int .u64 (tag : Nat)) := fun _ => c2'
    go_wp2
    go_quiet (fail)
    go_wp2
    go_ret3
    exact .inr ⟨HOK.out, rfl, below_drewN (below_drewN HB1.out _) _⟩
  | false =>
    rw [hd] at HOK
    go_enter Try.func13, Try.ntmps13
    go_wp2_with fail
    refine HPUT.out.mono ?_; rintro e w1 ⟨v, rfl, hown, hb⟩
    obtain ⟨A1, cc1, rfl, hr1, _⟩ := own_reads hown HPU.out
    have HS := Lib.hid (wsame_any A1 (some ⟨b, o, none⟩) n n cc1 c S l w1 hr1 (HL.out.keep (hb.mono HB.out)) (by omega))
    rw [hd] at HS
    have HB1 := Lib.hid hb
    clear hown hr1 hb hd
    go_wp2_with fail
    refine HS.out.mono ?_; rintro e w2 ⟨rfl, m, rfl⟩
    go_wp2
    go_ret3
    exact .inl ⟨HOK.out, rfl, below_drewN HB1.out _⟩
end Go.Proofs.Ytfihbfpdfkeppaa
