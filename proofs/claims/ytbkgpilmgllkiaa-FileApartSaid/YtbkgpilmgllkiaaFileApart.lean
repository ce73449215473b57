/-
  FileApart: whatever tuples and turns; no condition.
-/
import Derived.Test.YtbkgpilmgllkiaaRows
import Derived.Test.YtbkgpilmgllkiaaFileTrioA
import Derived.WalkKit
import Derived.ProofKit
import Derived.OpenShut
import Derived.ShutString
import Derived.ChangeOld
import Derived.Below
namespace Go.Proofs.Ytbkgpilmgllkiaa.fileApart
open Go.ChangeShapes Go.WideShapes Go.ChangeAt Go.RowKit
open Go.ChangeMaps (open_string shut_string)
set_option linter.unusedVariables false

theorem own : ownKnob Try.prog.godebug = none := by kernel_rfl
theorem laidOut : laidOutB Try.prog = true := by kernel_rfl

def nilV : Nat → Value := fun _ => .slice none 0 0
/-- m writers are made -/
def L1 (w : World) (p : Wp) (len xa pa m : Nat) (W : World) : Prop :=
  ∃ F C X T G, Trio w p F 0 0 m len xa pa C X T nilV (fun _ => []) G W ∧ (∀ k, k < m → (T k).l = []) ∧ (∀ b, m * blocksN 2 len ≤ b → b < 900 → hasB F.S.fr b) ∧ C.length = 3 ∧ ∀ k, k < m → C[k]? = some (.pointer (some ⟨X k, 0, none⟩))
theorem l1_write {w W : World} {p : Wp} {len xa pa m : Nat} (h : L1 w p len xa pa m W) (hm : m < 3) (hl : len ≤ 300) : Calls Try.prog 34 #[.pointer (some ⟨p.w, 0, none⟩), .int .i64 3, .int .i64 len] W fun e w' => ∃ x, e = .returned (.tuple #[.pointer (some ⟨x, 0, none⟩), .int .i64 0]) ∧ (∃ v, w'.cell? ⟨xa, m, none⟩ = some v) ∧ w'.frozen? ⟨xa, m, none⟩ = false ∧ L1 w p len xa pa (m + 1) (w'.setCell ⟨xa, m, none⟩ (.pointer (some ⟨x, 0, none⟩))) := by
  obtain ⟨F, C, X, T, G, h1, h2, h3, h4, h5⟩ := h
  refine (trio_write h1 hm hl h3).mono ?_
  rintro e w' ⟨x, t, F', G', he, htl, hfr, k1⟩
  have hx := k1.xrow.1
  refine ⟨x, he, ⟨_, (hx.cell m).trans (List.getElem?_eq_getElem (by omega))⟩, hx.free m, F', C.set m (.pointer (some ⟨x, 0, none⟩)), _, _, G', k1.setx m _, fun k hk => ?_, hfr, by rw [List.length_set]; exact h4, fun k hk => ?_⟩
  · by_cases hkm : k = m
    · simp only [if_pos hkm]; exact htl
    · simp only [if_neg hkm]; exact h2 k (by omega)
  · by_cases hkm : k = m
    · subst hkm
      rw [List.getElem?_set, if_pos rfl, if_pos (by omega), if_pos rfl]
    · rw [List.getElem?_set, if_neg (fun e => hkm e.symm), if_neg hkm]; exact h5 k (by omega)
/-- i turns were taken -/
def L2 (w : World) (p : Wp) (len xa pa i : Nat) (F : Fs) (n : Nat) (C : List Value) (X : Nat → Nat) (T : Nat → Wt) (V : Nat → Value) (Q : Nat → List Tup) (G : Nat → Prop) (W : World) : Prop :=
  n ≤ i ∧ Trio w p F n 0 3 len xa pa C X T V Q G W ∧ C.length = 3 ∧ (∀ k, k < 3 → C[k]? = some (.pointer (some ⟨X k, 0, none⟩))) ∧ ∀ k, k < 3 → Q k = (T k).l ∧ (T k).l.length ≤ i
/-- lo writers are closed -/
def L3 (w : World) (p : Wp) (len xa pa lo : Nat) (F : Fs) (n : Nat) (C : List Value) (X : Nat → Nat) (T : Nat → Wt) (V : Nat → Value) (Q : Nat → List Tup) (G : Nat → Prop) (W : World) : Prop :=
  n ≤ 300 + lo * 400 ∧ Trio w p F n lo 3 len xa pa C X T V Q G W ∧ C.length = 3 ∧ (∀ k, k < 3 → C[k]? = some (.pointer (some ⟨X k, 0, none⟩))) ∧ ∀ k, lo ≤ k → k < 3 → Q k = (T k).l ∧ (T k).l.length ≤ 300


set_option maxHeartbeats 4000000 in
set_option maxRecDepth 100000 in
theorem walk (a0 : Option Addr) (len0 cap0 : Nat) (l0 : List Tup) (a1 : Option Addr) (len1 cap1 : Nat) (z1 : List Int) (w : World) (wr0 : ReadsT w w.heap.size a0 len0 l0) (wm0 : len0 ≤ maxLen) (w1 : IsRow .u8 w a1 len1 cap1 z1) :
    Calls Try.prog 8 #[.slice a0 len0 cap0, .slice a1 len1 cap1] w fun e w' => e = .returned (.bool true) ∧ Below w.heap.size w w' := by
  have HAWK : Hid (∀ W, Calls Try.prog 10 #[] W fun e w' => e = .returned (.bool true) ∧ Below W.heap.size W w') := fun W => awake_any W
  have HLR := Lib.hid wr0
  have HLEN : Hid (l0.length = len0) := wr0.1
  have hm2 : len0 ≤ 9223372036854775807 := by unfold maxLen at wm0; omega
  have WM := Lib.hid wm0
  have HWK : Hid (∀ W, Calls Try.prog 9 #[.agg #[.int .i64 9, .int .i64 900, .int .i64 900]] W fun e w' => ∃ p G, e = .returned (.tuple #[.pointer (some ⟨p.w, 0, none⟩), .bool true]) ∧ Sys w' G p (placeF 9 900 900) 0 ∧ (∀ k, G k → W.heap.size ≤ k) ∧ Below W.heap.size W w') := fun W => by
    refine (work_any 9 900 900 W (I64.of (by omega) (by omega)) (I64.of (by omega) (by omega)) (I64.of (by omega) (by omega))).mono ?_
    rintro e w' (⟨hno, _⟩ | ⟨_, h⟩)
    · exact absurd ⟨⟨by omega, by omega⟩, ⟨by omega, by omega⟩, by omega⟩ hno
    · exact h
  obtain ⟨lt, HTR, htl, hlu⟩ : ∃ lt : List Nat, Hid (Reads .u8 w w.heap.size a1 len1 lt) ∧ lt.length = len1 ∧ Hid (∀ z ∈ lt, z ≤ 255) := by
    obtain ⟨lt, hl⟩ := IsRow.reads w1 u8_nonneg
    refine ⟨lt, hl, hl.1, fun z hz => ?_⟩
    have := bounds_u8 (hl.2.1 z hz); omega
  have hm3 : len1 ≤ 9223372036854775807 := by have := IsRow.cap w1; omega
  clear wr0 wm0 w1
  go_enter Try.func8, Try.ntmps8
  go_wp2_with fail
  refine (HWK.out _).mono ?_
  rintro e w2 ⟨p, G, rfl, hs, hG, hb⟩
  have hB2 : Base w p (placeF 9 900 900) 0 [] w2 := ⟨G, hs, hG, hb, fun r hr => by cases hr⟩
  have HBASE := Lib.hid hB2
  clear hs hG hb hB2 HWK
  go_wp2_with fail
  refine (HAWK.out _).mono ?_; rintro e w3 ⟨rfl, hb⟩
  have HB3 := Lib.hid (HBASE.out.below hb)
  clear hb HBASE
  by_cases h300 : len0 ≤ 300
  case neg =>
    have g5 : decide ((len0 : Int) > 300) = true := by simp; omega
    go_wp2_with fail
    refine (HAWK.out _).mono ?_; rintro e w4 ⟨rfl, hb⟩
    have HB4 := Lib.hid ((HB3.out.below hb).bel)
    clear hb
    go_wp2
    go_ret
    exact ⟨rfl, HB4.out⟩
  case pos =>
  have g5 : decide ((len0 : Int) > 300) = false := by simp; omega
  by_cases h301 : len1 ≤ 300
  case neg =>
    have g6 : decide ((len1 : Int) > 300) = true := by simp; omega
    go_wp2_with fail
    refine (HAWK.out _).mono ?_; rintro e w4 ⟨rfl, hb⟩
    have HB4 := Lib.hid ((HB3.out.below hb).bel)
    clear hb
    go_wp2
    go_ret
    exact ⟨rfl, HB4.out⟩
  case pos =>
  have g6 : decide ((len1 : Int) > 300) = false := by simp; omega
  have HRA : Hid (Calls Try.prog 18 #[.slice a0 len0 cap0, .int .i64 3] w3 fun e w' => e = .returned (.bool (l0.all (fitsT 3))) ∧ Below w3.heap.size w3 w') := rall_any a0 len0 cap0 l0 3 w3 ((HLR.out.keep HB3.out.bel).mono HB3.out.size) (by omega) WM.out
  have HALL : Hid (l0.all (fitsT 3) = true → ∀ u ∈ l0, fitsT 3 u = true) := fun h => List.all_eq_true.1 h
  generalize l0.all (fitsT 3) = al at *
  go_wp2_with fail
  refine HRA.out.mono ?_; rintro e w4 ⟨rfl, hb⟩
  have HB4 := Lib.hid (HB3.out.below hb)
  clear hb HB3 HRA
  cases al
  case false =>
    go_wp2_with fail
    refine (HAWK.out _).mono ?_; rintro e w5 ⟨rfl, hb⟩
    have HB5 := Lib.hid ((HB4.out.below hb).bel)
    clear hb
    go_wp2
    go_ret
    exact ⟨rfl, HB5.out⟩
  case true =>
  have HFIT : Hid (∀ u ∈ l0, fitsT 3 u = true) := HALL.out (by trivial)
  clear HALL HAWK
  have HX0 : Hid (∃ G, Trio w p (placeF 9 900 900) 0 0 0 len0 w4.heap.size (w4.heap.size + 1) [.pointer none, .pointer none, .pointer none] (fun _ => 0) (fun _ => ⟨0, 0, 0, 0, 0, 0, 0, []⟩) (fun _ => .slice none 0 0) (fun _ => []) G ((w4.alloc (.cells #[.pointer none, .pointer none, .pointer none] 88)).alloc (.cells #[.slice none 0 0, .slice none 0 0, .slice none 0 0] 89))) := by
    obtain ⟨G, h1, h2, h3, _⟩ := HB4.out
    have b1 : Below w4.heap.size w4 (w4.alloc (.cells #[.pointer none, .pointer none, .pointer none] 88)) := (Below.refl _ _).alloc (Nat.le_refl _) _
    have b2 : Below w4.heap.size w4 ((w4.alloc (.cells #[.pointer none, .pointer none, .pointer none] 88)).alloc (.cells #[.slice none 0 0, .slice none 0 0, .slice none 0 0] 89)) := b1.alloc b1.size _
    have e1 : (w4.alloc (.cells #[.pointer none, .pointer none, .pointer none] 88)).heap.size = w4.heap.size + 1 := by simp
    have r1 : Row (w4.alloc (.cells #[.pointer none, .pointer none, .pointer none] 88)) w4.heap.size 88 [.pointer none, .pointer none, .pointer none] := heap_alloc_new _ _
    have r2 : Row ((w4.alloc (.cells #[.pointer none, .pointer none, .pointer none] 88)).alloc (.cells #[.slice none 0 0, .slice none 0 0, .slice none 0 0] 89)) (w4.alloc (.cells #[.pointer none, .pointer none, .pointer none] 88)).heap.size 89 [.slice none 0 0, .slice none 0 0, .slice none 0 0] := heap_alloc_new _ _
    rw [e1] at r2
    exact ⟨G, h1.below b2, h2, h3.trans (b2.mono h3.size), fresh_calm _ _, rfl, rfl, rfl, rfl, ⟨r1.alloc _, fun hg => Nat.lt_irrefl _ (h1.lt hg), h3.size⟩, ⟨r2, fun hg => by have := h1.lt hg; omega, by have := h3.size; omega⟩, fun k _ => ⟨ownT_nil _ _ _, fun q hq => by cases hq⟩, fun j k _ _ _ q hq => (by cases hq), fun k h1 h2 => by omega, fun k h1 h2 => by omega, fun j k h1 h2 => by omega⟩
  have HL1 : Hid (L1 w p len0 w4.heap.size (w4.heap.size + 1) 0 ((w4.alloc (.cells #[.pointer none, .pointer none, .pointer none] 88)).alloc (.cells #[.slice none 0 0, .slice none 0 0, .slice none 0 0] 89))) := by
    obtain ⟨G, h⟩ := HX0.out
    exact ⟨_, _, _, _, G, h, fun k hk => absurd hk (Nat.not_lt_zero k), fun b _ hb => newsp_room (m := 900) (n := 900) (Nat.le_refl _) b (Nat.zero_le _) (by omega), rfl, fun k hk => absurd hk (Nat.not_lt_zero k)⟩
  clear HX0 HB4
  go_wp2_with fail
  generalize (w4.alloc (.cells #[.pointer none, .pointer none, .pointer none] 88)).alloc (.cells #[.slice none 0 0, .slice none 0 0, .slice none 0 0] 89) = w5 at *
  go_loopw [9] (fun iv wr => ∃ m : Nat, m ≤ 3 ∧ iv = .int .i64 (m : Int) ∧ Hid (L1 w p len0 w4.heap.size (w4.heap.size + 1) m wr)) (fun iv _ => 3 - (intOf iv).toNat)
  case atStart => exact ⟨0, by omega, rfl, HL1.out⟩
  case round =>
    obtain ⟨m, hm, rfl, HL⟩ := hrel
    by_cases hlt : m < 3
    · have HW := Lib.hid (l1_write HL.out hlt h300)
      have g0 : decide ((m : Int) < 3) = true := by simp; omega
      have i0 : (0 : Int) ≤ (m : Int) := by omega
      have i1 : (m : Int) < 3 := by omega
      clear HL
      go_wp2_with fail
      refine HW.out.mono ?_
      rintro e w6 ⟨x, rfl, ⟨v, c0⟩, f0, hl⟩
      have HL6 := Lib.hid hl
      clear hl HW
      go_wp2
      go_roundw
      case rel => exact ⟨m + 1, by omega, by go_num, HL6.out⟩
      case measure => simp [intOf]; omega
    · obtain rfl : m = 3 := by omega
      have e3 : ((3 : Nat) : Int) = 3 := rfl
      rw [e3]
      clear e3
      have HL2 : Hid (∃ F n C X T V Q G, L2 w p len0 w4.heap.size (w4.heap.size + 1) 0 F n C X T V Q G wr) := by
        obtain ⟨F, C, X, T, G, h1, h2, h3, h4, h5⟩ := HL.out
        exact ⟨F, 0, C, X, T, nilV, fun _ => [], G, Nat.le_refl _, h1, h4, h5, fun k hk => ⟨(h2 k hk).symm, by rw [h2 k hk]; simp⟩⟩
      clear HL HL1
      go_wp2_with fail
      generalize wr = wo at *
      go_loopw [12] (fun iv wr => ∃ i : Nat, i ≤ len0 ∧ iv = .int .i64 (i : Int) ∧ Hid (∃ F n C X T V Q G, L2 w p len0 w4.heap.size (w4.heap.size + 1) i F n C X T V Q G wr)) (fun iv _ => len0 - (intOf iv).toNat)
      case atStart => exact ⟨0, Nat.zero_le _, rfl, HL2.out⟩
      case round =>
        obtain ⟨i, hi, rfl, HL⟩ := hrel
        by_cases hgo : i < len0 ∧ i < len1
        · obtain ⟨hlt, hlt1⟩ := hgo
          have g1 : decide ((i : Int) < (len0 : Int)) = true := by simp; omega
          have g2 : decide ((i : Int) < (len1 : Int)) = true := by simp; omega
          have i0 : (0 : Int) ≤ (i : Int) := by omega
          have i1 : (i : Int) < (len0 : Int) := by omega
          have i2 : (i : Int) < (len1 : Int) := by omega
          obtain ⟨F, n, C, X, T, V, Q, G, hn, htr, hC3, hCk, hQ⟩ := HL.out
          have hbw := htr.bel
          obtain ⟨bb, off, tu, rfl, hbl, q0, q1, q2, q3, q4, hto, ht⟩ := HLR.out.at_ hlt
          obtain ⟨ub, uo, uu, rfl, hub, u0, uw, hux⟩ := HTR.out.at_ hlt1
          have hlen : l0.length = len0 := HLEN.out
          have hu255 : uu ≤ 255 := by have := bounds_u8 uw; omega
          obtain ⟨k, hk⟩ : ∃ k, k = uu % 3 := ⟨_, rfl⟩
          have hk3 : k < 3 := by rw [hk]; exact Nat.mod_lt _ (by omega)
          have tk : Int.tmod (uu : Int) 3 = (k : Int) := by rw [hk]; rfl
          have mk : (uu : Int) % 3 = (k : Int) := by rw [hk]; rfl
          have k0 : (0 : Int) ≤ (k : Int) := by omega
          have k1 : (k : Int) < 3 := by omega
          have cu : wr.cell? ⟨ub, uo + i, none⟩ = some (.int .u8 (uu : Nat)) := (hbw.cell (p := ⟨ub, _, none⟩) hub).trans u0
          have HCL : Hid (∀ W, Below w.heap.size w W → (W.cell? ⟨bb, off + i * 5, none⟩ = some (.int .i64 tu.a) ∧ W.cell? ⟨bb, off + i * 5 + 1, none⟩ = some (.int .i64 tu.b) ∧ W.cell? ⟨bb, off + i * 5 + 2, none⟩ = some (.int .i64 tu.c) ∧ W.cell? ⟨bb, off + i * 5 + 3, none⟩ = some (.int .i64 tu.d) ∧ W.cell? ⟨bb, off + i * 5 + 4, none⟩ = some (.int .i64 tu.e))) := fun W hb => ⟨(hb.cell (p := ⟨bb, _, none⟩) hbl).trans q0, (hb.cell (p := ⟨bb, _, none⟩) hbl).trans q1, (hb.cell (p := ⟨bb, _, none⟩) hbl).trans q2, (hb.cell (p := ⟨bb, _, none⟩) hbl).trans q3, (hb.cell (p := ⟨bb, _, none⟩) hbl).trans q4⟩
          have KX : Hid (∀ F n T V Q G W, Trio w p F n 0 3 len0 w4.heap.size (w4.heap.size + 1) C X T V Q G W → W.cell? ⟨w4.heap.size, k, none⟩ = some (.pointer (some ⟨X k, 0, none⟩))) := fun F n T V Q G W h => (h.xrow.1.cell k).trans (hCk k hk3)
          have KP : Hid (∀ F n T G W, Trio w p F n 0 3 len0 w4.heap.size (w4.heap.size + 1) C X T V Q G W → W.cell? ⟨w4.heap.size + 1, k, none⟩ = some (V k) ∧ W.frozen? ⟨w4.heap.size + 1, k, none⟩ = false) := fun F n T G W h => ⟨by
            rw [h.prow.1.cell k]
            match k, hk3 with
            | 0, _ => rfl
            | 1, _ => rfl
            | 2, _ => rfl, h.prow.1.free k⟩
          have HPU := Lib.hid (trio_put (htr.below (below_drew (Below.refl _ _))) (by omega) (Nat.zero_le k) hk3 hto (HFIT.out tu (List.mem_of_getElem? ht.out)) (by have := (hQ k hk3).2; omega))
          have HQ := Lib.hid hQ
          have HCK := Lib.hid hCk
          have x1 := KX.out _ _ _ _ _ _ wr.drew (htr.below (below_drew (Below.refl _ _)))
          obtain ⟨y0, y1, y2, y3, y4⟩ := HCL.out wr.drew (below_drew hbw)
          have HI : Hid (∀ k, k < 3 → (T k).l.length ≤ i) := fun k hk => (hQ k hk).2
          have HTO := Lib.hid hto
          obtain ⟨ta, tb, tc, td, te⟩ := tu
          simp only at HPU HCL y0 y1 y2 y3 y4
          clear hk q0 q1 q2 q3 q4 hbl hto ht htr HL hQ hCk hux u0 hbw hub uw
          go_wp2
          go_region_held3 (fun W => W.cell? ⟨w4.heap.size, k, none⟩ = some (.pointer (some ⟨X k, 0, none⟩)) ∧ W.cell? ⟨bb, off + i * 5, none⟩ = some (.int .i64 ta) ∧ W.cell? ⟨bb, off + i * 5 + 1, none⟩ = some (.int .i64 tb) ∧ W.cell? ⟨bb, off + i * 5 + 2, none⟩ = some (.int .i64 tc) ∧ W.cell? ⟨bb, off + i * 5 + 3, none⟩ = some (.int .i64 td) ∧ W.cell? ⟨bb, off + i * 5 + 4, none⟩ = some (.int .i64 te)) (first | with_reducible exact ⟨x1, y0, y1, y2, y3, y4⟩ | with_reducible exact ⟨x6, l6⟩)
            (first
              | (go_at_call 36; (with_reducible refine HPU.out.mono ?_); rintro e w6 ⟨rfl, F', G', htr6⟩; have x6 := KX.out _ _ _ _ _ _ w6 htr6; have l6 := HCL.out w6 htr6.bel))
          have HT6 := Lib.hid htr6
          obtain ⟨p0, pf⟩ := KP.out _ _ _ _ w6 htr6
          clear htr6 x6 l6 x1 y0 y1 y2 y3 y4 HPU cu tk mk
          have hbc : Below w6.heap.size w6 (w6.alloc (.cells #[.int .i64 ta, .int .i64 tb, .int .i64 tc, .int .i64 td, .int .i64 te] 58)) := (Below.refl _ _).alloc (Nat.le_refl _) _
          have o1 : (w6.alloc (.cells #[.int .i64 ta, .int .i64 tb, .int .i64 tc, .int .i64 td, .int .i64 te] 58)).drew.ownsRow w.heap.size 58 5 (V k) (Q k).length (flatV (Q k)) := ownT_keep (HT6.out.own k hk3).1 (below_drew hbc)
          have o2 : (w6.drew.alloc (.cells #[.int .i64 ta, .int .i64 tb, .int .i64 tc, .int .i64 td, .int .i64 te] 58)).ownsRow w.heap.size 58 5 (V k) (Q k).length (flatV (Q k)) := ownT_keep (HT6.out.own k hk3).1 ((below_drew (Below.refl _ _)).alloc (Nat.le_refl _) _)
          obtain ⟨it, hi0, hz0, hz1, hz2⟩ := info_parts infoT
          have hnq : (Q k).length ≤ 300 := by have h1 := (HQ.out k hk3).1; have h2 := HI.out k hk3; rw [h1]; omega
          obtain ⟨l0', l1', l2', l3', l4'⟩ := HCL.out w6.drew (below_drew HT6.out.bel)
          obtain ⟨p1, pf1⟩ := KP.out _ _ _ _ w6.drew (HT6.out.below (below_drew (Below.refl _ _)))
          have hb1 : Below w6.heap.size w6 (w6.alloc (.cells #[.int .i64 ta, .int .i64 tb, .int .i64 tc, .int .i64 td, .int .i64 te] 58)).drew := below_drew hbc
          have hb2 : Below w6.heap.size w6 (w6.drew.alloc (.cells #[.int .i64 ta, .int .i64 tb, .int .i64 tc, .int .i64 td, .int .i64 te] 58)) := (below_drew (Below.refl _ _)).alloc (Nat.le_refl _) _
          have HPUSH : Hid (∀ W, Below w6.heap.size w6 W → W.heap.size = w6.heap.size + 1 → ∀ gg cap w7, w7.ownsRow w.heap.size 58 5 (.slice (some ⟨gg, 0, none⟩) ((Q k).length + 1) cap) ((Q k).length + 1) (flatV (Q k) ++ [.int .i64 ta, .int .i64 tb, .int .i64 tc, .int .i64 td, .int .i64 te]) → W.grownBy w7 (V k).ownBlock → ((V k).ownBlock = some gg ∨ gg = w6.heap.size + 1) →
              (w7.cell? ⟨w4.heap.size + 1, k, none⟩ = some (V k) ∧ w7.frozen? ⟨w4.heap.size + 1, k, none⟩ = false) ∧ ∃ F' n' C' X' T' V' Q' G', L2 w p len0 w4.heap.size (w4.heap.size + 1) (i + 1) F' n' C' X' T' V' Q' G' (w7.setCell ⟨w4.heap.size + 1, k, none⟩ (.slice (some ⟨gg, 0, none⟩) ((Q k).length + 1) cap))) := by
            intro W hbW hszW gg cap w7 hown hgrow hat
            have htW := HT6.out.below hbW
            have hf7 : Far (fun q => (V k).ownBlock = some q) W w7 := (Far.refl _ W).grown hgrow fun q hq => .inl hq
            have hpr : Row w7 (w4.heap.size + 1) 89 [V 0, V 1, V 2] := hf7.row htW.prow.1 fun hq => by
              obtain ⟨⟨cs', hr'⟩, _⟩ := ownT_row (htW.own k hk3).1 hq
              exact absurd (hr'.typed htW.prow.1) (by decide)
            refine ⟨⟨?_, hpr.free k⟩, ?_⟩
            · rw [hpr.cell k]
              match k, hk3 with
              | 0, _ => rfl
              | 1, _ => rfl
              | 2, _ => rfl
            · have hps := htW.push hk3 (t := ⟨ta, tb, tc, td, te⟩) (v' := .slice (some ⟨gg, 0, none⟩) ((Q k).length + 1) cap) (by rw [flatV_snoc]; exact hown) hf7 (by
                rcases hat with h1 | h1
                · exact .inl h1.symm
                · exact .inr (by rw [h1, hszW]; rfl))
              refine ⟨_, _, _, _, _, _, _, _, ⟨Nat.succ_le_succ hn, hps, hC3, HCK.out, fun j hj => ?_⟩⟩
              by_cases hjk : j = k
              · subst hjk
                simp only [if_true]
                refine ⟨by rw [(HQ.out j hj).1]; rfl, ?_⟩
                rw [snoc_len]; exact Nat.succ_le_succ (HI.out j hj)
              · simp only [if_neg hjk]
                exact ⟨(HQ.out j hj).1, Nat.le_succ_of_le (HI.out j hj)⟩
          obtain ⟨p2, _⟩ := KP.out _ _ _ _ _ (HT6.out.below hb1)
          obtain ⟨p3, _⟩ := KP.out _ _ _ _ _ (HT6.out.below hb2)
          clear hbc
          go_wp2
          go_region_law ((refine step_append_lies _ rfl _ _ 24 rfl w.heap.size 58 it _ 5 40 Try.underlying24 hi0 hz0 hz1 hz2 rfl (by decide) (V k) (Q k).length (flatV (Q k)) (by rfl) (by first | exact o1 | exact o2) ⟨w6.heap.size, 0, none⟩ 1 1 [.int .i64 ta, .int .i64 tb, .int .i64 tc, .int .i64 td, .int .i64 te] (by rfl) (by rfl) (World.news_of_block (cs := #[.int .i64 ta, .int .i64 tb, .int .i64 tc, .int .i64 td, .int .i64 te]) (t := 58) (fr := (0, 0)) (heap_alloc_new w6 _)) (by simp [Value.oneCell']) (by omega) (by unfold maxLen; omega) (by omega) (by have := HT6.out.bel.size; simp; omega) (w6.heap.size + 1) (by simp) ?_; intro gg cap w7 hown hgrow hat hlt; have q7 := HPUSH.out _ (by first | exact hb1 | exact hb2) (by simp) gg cap w7 hown hgrow hat; have q8 := q7.1.1; have q9 := q7.1.2; have q10 := Lib.hid q7.2; clear q7 hown hgrow hat))
          all_goals
            clear q8 q9 p0 pf p1 pf1 p2 p3 o1 o2 l0' l1' l2' l3' l4' hb1 hb2
            go_wp2
            go_roundw
            case rel => exact ⟨i + 1, by omega, by go_num, q10.out⟩
            case measure => simp [intOf]; omega
        · have HL3 : Hid (∃ F n C X T V Q G, L3 w p len0 w4.heap.size (w4.heap.size + 1) 0 F n C X T V Q G wr) := by
            obtain ⟨F, n, C, X, T, V, Q, G, hn, htr, hC3, hCk, hQ⟩ := HL.out
            exact ⟨F, n, C, X, T, V, Q, G, by omega, htr, hC3, hCk, fun k _ hk => ⟨(hQ k hk).1, by have := (hQ k hk).2; omega⟩⟩
          clear HL HL2
          by_cases h0 : i < len0
          all_goals
            first
              | (have g1 : decide ((i : Int) < (len0 : Int)) = true := by simp; omega
                 have g2 : decide ((i : Int) < (len1 : Int)) = false := by simp; omega)
              | (have g1 : decide ((i : Int) < (len0 : Int)) = false := by simp; omega)
            go_wp2_with fail
            try rw [show decide (i < len1) = false from by simp; omega]
            generalize wr = wo2 at *
            go_loopw [14] (fun iv wr => ∃ lo : Nat, lo ≤ 3 ∧ iv = .int .i64 (lo : Int) ∧ Hid (∃ F n C X T V Q G, L3 w p len0 w4.heap.size (w4.heap.size + 1) lo F n C X T V Q G wr)) (fun iv _ => 3 - (intOf iv).toNat)
            case atStart => exact ⟨0, Nat.zero_le _, rfl, HL3.out⟩
            case round =>
              obtain ⟨lo, hlo, rfl, HL⟩ := hrel
              obtain ⟨F, n, C, X, T, V, Q, G, hn, htr, hC3, hCk, hQ⟩ := HL.out
              by_cases hlt : lo < 3
              · have g3 : decide ((lo : Int) < 3) = true := by simp; omega
                have k0 : (0 : Int) ≤ (lo : Int) := by omega
                have k1 : (lo : Int) < 3 := by omega
                obtain ⟨hq1, hq2⟩ := hQ lo (Nat.le_refl _) hlt
                obtain ⟨e1, e2, e3, e4, e5⟩ := htr.num lo (Nat.le_refl _) hlt
                have hwk := htr.wok lo (Nat.le_refl _) hlt
                have cx : wr.cell? ⟨w4.heap.size, lo, none⟩ = some (.pointer (some ⟨X lo, 0, none⟩)) := (htr.xrow.1.cell lo).trans (hCk lo hlt)
                have hfi : firstOf (T lo) ≤ (T lo).first := by unfold firstOf; split <;> omega
                have hbl : blocksN 2 (T lo).l.length ≤ (T lo).blocks := by
                  have h1 := hwk.ok.blocks.1
                  rw [e2] at h1
                  rw [h1]
                  exact blocks_mono (by omega) hwk.ok.bound.2
                have hall : ∀ u ∈ (T lo).l, TupOk u ∧ fitsT 3 u = true := fun u hu => by
                  have := hwk.fit u hu
                  rw [e1] at this; exact this
                have HCLO : Hid (Calls Try.prog 35 #[.pointer (some ⟨X lo, 0, none⟩)] wr fun e w' => e = .returned (.tuple #[.agg #[.int .i64 (firstOf (T lo)), .int .i64 (blocksN 2 (T lo).l.length), .int .i64 3, .int .i64 (T lo).l.length], .int .i64 0]) ∧
                    (∀ W, Below w'.heap.size w' W → Calls Try.prog 19 #[.pointer (some ⟨p.w, 0, none⟩), .agg #[.int .i64 (firstOf (T lo)), .int .i64 (blocksN 2 (T lo).l.length), .int .i64 3, .int .i64 (T lo).l.length]] W fun e w'' => ∃ A c, e = .returned (.tuple #[.slice A (T lo).l.length c, .int .i64 0]) ∧ ReadsT w'' w''.heap.size A (T lo).l.length (T lo).l ∧ ∃ F n G, n ≤ 300 + (lo + 1) * 400 ∧ Trio w p F n (lo + 1) 3 len0 w4.heap.size (w4.heap.size + 1) C X T V Q G w'')) := by
                  refine (trio_close htr (by omega) hlt).mono ?_
                  rintro e w' ⟨he, F', G', hst, h2⟩
                  refine ⟨he, fun W hb => ?_⟩
                  refine (trio_list (h2.below hb) (firstOf (T lo)) (T lo).l (by omega) (by omega) (by omega) (by omega) hst hall (by omega)).mono ?_
                  rintro e w'' ⟨A, c, he, hr, F2, G2, h3⟩
                  exact ⟨A, c, he, hr, F2, _, G2, by omega, h3⟩
                have HTR : Hid (Q lo = (T lo).l ∧ ∀ u ∈ Q lo, TupOk u) := ⟨hq1, fun u hu => (hall u (hq1 ▸ hu)).1⟩
                have HKEEP : Hid (∀ F n G W, n ≤ 300 + (lo + 1) * 400 → Trio w p F n (lo + 1) 3 len0 w4.heap.size (w4.heap.size + 1) C X T V Q G W → ∃ F n C X T V Q G, L3 w p len0 w4.heap.size (w4.heap.size + 1) (lo + 1) F n C X T V Q G W) := fun F n G W h1 h2 => ⟨F, n, C, X, T, V, Q, G, h1, h2, hC3, hCk, fun k hk1 hk2 => hQ k (by omega) hk2⟩
                have HSAME : Hid (∀ F n G W A c, Trio w p F n (lo + 1) 3 len0 w4.heap.size (w4.heap.size + 1) C X T V Q G W → ReadsT W W.heap.size A (T lo).l.length (T lo).l → ∃ A' c', W.cell? ⟨w4.heap.size + 1, lo, none⟩ = some (.slice A' (T lo).l.length c') ∧ Calls Try.prog 20 #[.slice A (T lo).l.length c, .slice A' (T lo).l.length c'] W fun e w' => e = .returned (.bool true) ∧ Below W.heap.size W w') := by
                  intro F n G W A c h1 h2
                  obtain ⟨ho, _⟩ := h1.own lo hlt
                  obtain ⟨A', c', hV, hr', _⟩ := ownT_reads ho (fun u hu => (hall u (hq1 ▸ hu)).1)
                  rw [hq1] at hV hr'
                  refine ⟨A', c', ?_, ?_⟩
                  · rw [h1.prow.1.cell lo, ← hV]
                    match lo, hlt with
                    | 0, _ => rfl
                    | 1, _ => rfl
                    | 2, _ => rfl
                  · refine (rsame_any A A' _ _ c c' (T lo).l (T lo).l W h2 hr' (by unfold maxLen; omega) (by unfold maxLen; omega)).mono ?_
                    rintro e w' ⟨he, q, rfl⟩
                    exact ⟨by rw [he, decide_eq_true rfl], below_drewN (Below.refl _ _) q⟩
                have hcb : (T lo).l.length ≤ 300 := hq2
                clear hfi hbl hall hwk e1 e2 e3 e4 e5 hq1 hq2 htr hQ hCk HL HTR
                generalize firstOf (T lo) = f0 at *
                generalize blocksN 2 (T lo).l.length = nb at *
                generalize (T lo).l = lq at *
                generalize lq.length = cnt at *
                go_wp2_with fail
                refine HCLO.out.mono ?_
                rintro e w6 ⟨rfl, hli⟩
                have hrf : Row (w6.alloc (.cells #[.int .i64 f0, .int .i64 nb, .int .i64 3, .int .i64 cnt] 30)) w6.heap.size 30 [.int .i64 f0, .int .i64 nb, .int .i64 3, .int .i64 cnt] := heap_alloc_new _ _
                have r0 := hrf.cell 0
                have r1 := hrf.cell 1
                have r2 := hrf.cell 2
                have r3 := hrf.cell 3
                simp only [List.getElem?_cons_zero, List.getElem?_cons_succ] at r0 r1 r2 r3
                have HLI := Lib.hid (hli (w6.alloc (.cells #[.int .i64 f0, .int .i64 nb, .int .i64 3, .int .i64 cnt] 30)) ((Below.refl _ _).alloc (Nat.le_refl _) _))
                clear hli hrf HCLO cx
                go_wp2_with fail
                refine HLI.out.mono ?_
                rintro e w8 ⟨A, cA, rfl, hrd, F2, n2, G2, hn2, htr8⟩
                obtain ⟨A', c', cp, hsm⟩ := HSAME.out F2 n2 G2 w8 A cA htr8 hrd
                have HSM := Lib.hid hsm
                have HT8 := Lib.hid htr8
                have HN2 := Lib.hid hn2
                clear hrd htr8 hsm hn2 r0 r1 r2 r3 HLI HSAME
                go_wp2_with fail
                refine HSM.out.mono ?_
                rintro e w10 ⟨rfl, hb⟩
                have HL9 := Lib.hid (HKEEP.out F2 n2 G2 w10 HN2.out (HT8.out.below hb))
                clear hb HSM HKEEP HT8 cp
                go_wp2
                go_roundw
                case rel => exact ⟨lo + 1, by omega, by go_num, HL9.out⟩
                case measure => simp [intOf]; omega
              · obtain rfl : lo = 3 := by omega
                have e3 : ((3 : Nat) : Int) = 3 := rfl
                rw [e3]
                clear e3
                have hus : F.A.used = 0 := by rw [htr.used]
                have HAR : Hid (Calls Try.prog 16 #[.pointer (some ⟨p.w, 0, none⟩)] wr fun e w' => e = .returned (.pointer (some ⟨p.a, 0, none⟩)) ∧ w' = wr) := warn_any htr.sys.row
                have HUS : Hid (Calls Try.prog 17 #[.pointer (some ⟨p.a, 0, none⟩)] wr fun e w' => e = .returned (.int .i64 0) ∧ w' = wr) := by
                  have h := htr.sys.used_any
                  rw [hus] at h; exact h
                have HE := Lib.hid htr.bel
                clear htr hus HL hQ hCk
                go_wp2_with fail
                refine HAR.out.mono ?_; rintro e w20 ⟨rfl, hw20⟩
                subst hw20
                go_wp2_with fail
                refine HUS.out.mono ?_; rintro e w21 ⟨rfl, hw21⟩
                subst hw21
                go_wp2
                go_ret
                exact ⟨rfl, HE.out⟩

set_option maxRecDepth 100000 in
theorem lifted (os : Os) (started : os.Started) (H : Type) (enc : TypeId × Value → H) :
    ReturnsInHanded {} Try.checked os 8 .any (Rows.fileApartSpec.pre6 enc Try.prog Try.f8 Rows.fileApartRow.domain false) (Rows.fileApartSpec.post enc Try.prog Try.f8 false true false false) := by
  refine returnsInHanded_of_change (C := Try.checked) own started (by kernel_rfl) Try.func8
    (ChangeSpec.witness6 (enc := enc) (C := Try.checked) false ⟨#[], #[.slice none 0 0, .slice none 0 0], []⟩ 8 (by kernel_rfl) (by kernel_rfl) (by kernel_rfl) (by kernel_rfl)) ?_
  intro W base args ds gs before hval0 hW hcnd _
  have hval : ∀ (j : Nat) t v, Try.f8.params[j]? = some t → args[j]? = some v → Value.okWide Try.prog W .any base t v := hval0
  have hW' := hW
  obtain ⟨p, q, hA0, hV, rfl, hfz, hnd⟩ := hW
  have hA : DataW.TrodAll enc Try.prog W 0 (fun _ => true) true Try.f8.params.toList args.toList ds p := hA0
  rw [Try.params8] at hA hval
  obtain ⟨v0, vs0, d0, ds0, p0, q0, hargs, rfl, rfl, h0, r0⟩ := trodAll_cons hA
  obtain ⟨v1, vs1, d1, ds1, p1, q1, rfl, rfl, rfl, h1, r1⟩ := trodAll_cons r0
  obtain ⟨rfl, rfl, rfl⟩ := trodAll_nil r1
  obtain rfl : args = #[v0, v1] := by cases args; simp_all
  obtain ⟨rfl, rfl⟩ := trodVars_none hV
  have k0 := h0
  have lt0 : ∀ x ∈ p0, x.block < W.heap.size := by obtain ⟨m, hm⟩ := k0; exact DataW.trod_lt m _ _ _ hm
  have k1 := h1
  have lt1 : ∀ x ∈ p1, x.block < W.heap.size := by obtain ⟨m, hm⟩ := k1; exact DataW.trod_lt m _ _ _ hm
  obtain ⟨a0, len0, cap0, rfl⟩ := okWide_slice Try.underlying24 (hval 0 24 v0 rfl rfl)
  obtain ⟨l0, wr0, wm0⟩ : ∃ l, ReadsT W W.heap.size a0 len0 l ∧ len0 ≤ maxLen := by
    obtain ⟨fuel, hf⟩ := h0
    obtain ⟨a', len', cap', l', he', hr', hm'⟩ := open_tups Try.underlying24 Try.underlying58 Try.underlying2 (by kernel_rfl) (by kernel_rfl) hf
    injection he' with e1 e2 e3
    subst e1; subst e2
    exact ⟨l', hr', hm'⟩
  obtain ⟨a1, len1, cap1, rfl⟩ := okWide_slice Try.underlying87 (hval 1 87 v1 rfl rfl)
  obtain ⟨z1, w1⟩ : ∃ zs, IsRow .u8 W a1 len1 cap1 zs := by
    obtain ⟨fuel, hf⟩ := h1
    rcases open_ints Try.underlying87 Try.underlying5 (by kernel_rfl) hf with ⟨hcs, _⟩ | ⟨x, l, c, zs, hcs, _, hl, hm, hz, _, hcell, hwz⟩
    · simp [Value.cells] at hcs
      obtain ⟨rfl, rfl, rfl⟩ := hcs
      exact ⟨[], .inl ⟨rfl, rfl, rfl, rfl⟩⟩
    · simp [Value.cells] at hcs
      obtain ⟨rfl, rfl, rfl⟩ := hcs
      exact ⟨zs, .inr ⟨_, rfl, hl, hm, by simpa using hz, hcell, hwz⟩⟩
  clear hA0 hval0
  refine (walk a0 len0 cap0 l0 a1 len1 cap1 z1 W wr0 wm0 w1).mono fun e W' ⟨he, bel⟩ => ?_
  subst he
  exact ⟨_, rfl, _, _, _, [], _, [], hW', trodAll_mk1 (shut_bool Try.underlying4 _), (trodAll_cons_mk (Below.trod laidOut (by kernel_rfl) (of_decide_eq_true (by kernel_rfl)) k0 bel lt0) (trodAll_cons_mk (Below.trod laidOut (by kernel_rfl) (of_decide_eq_true (by kernel_rfl)) k1 bel lt1) trodAll_mk0)), rfl, bel.frame _, fun h => by cases h⟩

theorem over : Rows.fileApartRow.holds Try.pinned (OpenSpec.ofChange Rows.fileApartSpec) :=
  OpenClaim.holds_of_wide 8 Try.f8 rfl rfl rfl rfl rfl rfl rfl ⟨rfl, rfl, rfl, rfl, rfl⟩ rfl rfl rfl rfl rfl (by kernel_rfl) Try.func8 (by kernel_rfl)
    (of_decide_eq_true (by kernel_rfl)) (by unfold Func.isWrapper; first | (rw [if_pos (by decide +kernel)]; kernel_rfl) | (rw [if_neg (by decide +kernel)]; exact ⟨rfl, rfl⟩))
    (fun os started H enc _ => lifted os started H enc)

theorem proved : Rows.FileApartSaid := over
end Go.Proofs.Ytbkgpilmgllkiaa.fileApart
