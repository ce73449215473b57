/- The reference's space: what its calls answer, and leave. -/
import Derived.Test.YtjpomohfoknjiaaSpBook
namespace Go.Proofs.Ytjpomohfoknjiaa
open Go.ChangeShapes Go.WideShapes Go.ChangeAt Go.RowKit

/-- block q is the reference's space: lo its first block, T of each whether it is taken, in row g -/
structure RSp (w : World) (q g lo : Nat) (T : List Bool) : Prop where
  row : Row w q 56 [.int .i64 lo, .slice (some ⟨g, 0, none⟩) T.length T.length]
  bits : Row w g 4 (bcells T)
  lo : lo ≤ 1000000
  len : T.length ≤ 1000000
theorem RSp.keep {w w' : World} {q g lo : Nat} {T : List Bool} (h : RSp w q g lo T) (hk : KeepT w w') : RSp w' q g lo T := ⟨hk _ _ _ h.row (by decide) (by decide), hk _ _ _ h.bits (by decide) (by decide), h.lo, h.len⟩
theorem RSp.drewN {w : World} {q g lo : Nat} {T : List Bool} (h : RSp w q g lo T) (m : Nat) : RSp (w.drewN m) q g lo T := ⟨h.row.drewN m, h.bits.drewN m, h.lo, h.len⟩
/-- a row of bools turned: the space beside it stays -/
theorem Run.bits {w0 w w' : World} {p : Nat} {s : Sp} {v : Value} {n g : Nat} {l : List Ex} {cs : List Value} (h : Run w0 w p s v n l) (hr : Row w g 4 cs) (hg : w0.heap.size ≤ g) (hf : Far (fun k => k = g) w w') : Run w0 w' p s v n l := by
  obtain ⟨G, g1, g2, g3, g4, g5⟩ := h
  have hnG : ¬ G g := g1.types hr (by decide) (by decide)
  have hnv : ∀ k, v.ownBlock = some k → ¬ k = g := fun k hk e => by
    subst e
    obtain ⟨ds, hd⟩ := own2_row g2 hk
    unfold Row at hr hd; rw [hr] at hd; injection hd with hd; injection hd with _ hd; exact absurd hd (by decide)
  exact ⟨G, g1.far hf fun k hk e => hnG (e ▸ hk), own2_far g2 hf hnv, g3, g4, g5.trans (hf.below g5.size fun k hk => hk ▸ hg)⟩

/-- all n from place k on are there, and are as t says -/
def AllP (T : List Bool) (k n : Int) (t : Bool) : Prop := 1 ≤ n ∧ 0 ≤ k ∧ k + n ≤ (T.length : Int) ∧ ∀ i : Nat, k ≤ i → (i : Int) < k + n → T.getD i false = t
def fillV (T : List Bool) (v : Bool) (a : Nat) : Nat → List Bool
  | 0 => T
  | n + 1 => (fillV T v a n).set (a + n) v
theorem fillV_length (T : List Bool) (v : Bool) (a : Nat) : ∀ n, (fillV T v a n).length = T.length
  | 0 => rfl
  | n + 1 => by rw [fillV, List.length_set, fillV_length T v a n]
theorem fillV_get (T : List Bool) (v : Bool) (a : Nat) : ∀ n, a + n ≤ T.length → ∀ b, (fillV T v a n).getD b false = if a ≤ b ∧ b < a + n then v else T.getD b false
  | 0, _, b => by rw [if_neg (by omega)]; rfl
  | n + 1, h, b => by
    rw [fillV, getD_set (by rw [fillV_length]; omega), fillV_get T v a n (by omega) b]
    by_cases h1 : b = a + n
    · rw [if_pos h1, if_pos (by omega)]
    · rw [if_neg h1]
      by_cases h2 : a ≤ b ∧ b < a + n
      · rw [if_pos h2, if_pos (by omega)]
      · rw [if_neg h2, if_neg (by omega)]
theorem fillV_succ (T : List Bool) (v : Bool) (a n : Nat) : fillV T v a (n + 1) = (fillV T v a n).set (a + n) v := rfl

def placeZ (lo : Nat) (f : Int) : Int := if f < lo ∨ f > 3000000 then -1 else f - lo
set_option maxRecDepth 100000 in
theorem place_any (w : World) (q g lo : Nat) (T : List Bool) (f : Int) (h : RSp w q g lo T) (hf : I64 f) : Calls Try.prog 30 #[.pointer (some ⟨q, 0, none⟩), .int .i64 f] w fun e w' => e = .returned (.int .i64 (placeZ lo f)) ∧ w' = w := by
  have c0 : w.cell? ⟨q, 0, none⟩ = some (.int .i64 lo) := h.row.cell 0
  have hb := hf.bounds
  have hlo := h.lo
  unfold placeZ
  clear h
  by_cases h1 : f < lo
  · have g1 : decide (f < (lo : Int)) = true := by simpa using h1
    rw [if_pos (.inl h1)]
    clear h1
    go_enter Try.func30, Try.ntmps30
    go_wp2
    go_ret
    exact ⟨rfl, rfl⟩
  have g1 : decide (f < (lo : Int)) = false := by simpa using h1
  by_cases h2 : f > 3000000
  · have g2 : decide (f > 3000000) = true := by simpa using h2
    rw [if_pos (.inr h2)]
    clear h1 h2
    go_enter Try.func30, Try.ntmps30
    go_wp2
    go_ret
    exact ⟨rfl, rfl⟩
  have g2 : decide (f > 3000000) = false := by simpa using h2
  rw [if_neg (fun h => h.elim h1 h2)]
  have hw : IntKind.i64.wrap (f - (lo : Int)) = f - (lo : Int) := IntWalk.i64_in _ (by omega)
  clear h1 h2
  go_enter Try.func30, Try.ntmps30
  go_wp2
  go_ret
  exact ⟨rfl, rfl⟩

set_option maxHeartbeats 2000000 in
set_option maxRecDepth 100000 in
theorem all_any (w : World) (q g lo : Nat) (T : List Bool) (k n : Int) (t : Bool) (h : RSp w q g lo T) (hk : I64 k) (hn : I64 n) :
    Calls Try.prog 24 #[.pointer (some ⟨q, 0, none⟩), .int .i64 k, .int .i64 n, .bool t] w fun e w' => ∃ r : Bool, e = .returned (.bool r) ∧ (r = true ↔ AllP T k n t) ∧ w' = w := by
  have c1 : w.cell? ⟨q, 1, none⟩ = some (.slice (some ⟨g, 0, none⟩) T.length T.length) := h.row.cell 1
  have hbk := hk.bounds
  have hbn := hn.bounds
  have hlen := h.len
  have HR := Lib.hid h.bits
  obtain ⟨L, hL⟩ : ∃ L, L = T.length := ⟨_, rfl⟩
  rw [← hL] at c1 hlen
  have HL := Lib.hid hL
  clear h hL
  by_cases hbad : n < 1 ∨ k < 0 ∨ (L : Int) < k ∨ (L : Int) - k < n
  · have HN : Hid (¬ AllP T k n t) := fun ⟨h1, h2, h3, _⟩ => by rw [← HL.out] at h3; omega
    by_cases b1 : n < 1
    · have g1 : decide (n < 1) = true := by simpa using b1
      clear hbad b1
      go_enter Try.func24, Try.ntmps24
      go_wp2
      go_ret
      exact ⟨false, rfl, ⟨(fun h => nomatch h), fun h => absurd h HN.out⟩, rfl⟩
    have g1 : decide (n < 1) = false := by simpa using b1
    by_cases b2 : k < 0
    · have g2 : decide (k < 0) = true := by simpa using b2
      clear hbad b1 b2
      go_enter Try.func24, Try.ntmps24
      go_wp2
      go_ret
      exact ⟨false, rfl, ⟨(fun h => nomatch h), fun h => absurd h HN.out⟩, rfl⟩
    have g2 : decide (k < 0) = false := by simpa using b2
    by_cases b3 : (L : Int) < k
    · have g3 : decide ((L : Int) < k) = true := by simpa using b3
      clear hbad b1 b2 b3
      go_enter Try.func24, Try.ntmps24
      go_wp2
      go_ret
      exact ⟨false, rfl, ⟨(fun h => nomatch h), fun h => absurd h HN.out⟩, rfl⟩
    have g3 : decide ((L : Int) < k) = false := by simpa using b3
    have hw : IntKind.i64.wrap ((L : Int) - k) = (L : Int) - k := IntWalk.i64_in _ (by omega)
    have g4 : decide ((L : Int) - k < n) = true := by simp; omega
    clear hbad b1 b2 b3
    go_enter Try.func24, Try.ntmps24
    go_wp2
    go_ret
    exact ⟨false, rfl, ⟨(fun h => nomatch h), fun h => absurd h HN.out⟩, rfl⟩
  · have g1 : decide (n < 1) = false := by simp; omega
    have g2 : decide (k < 0) = false := by simp; omega
    have g3 : decide ((L : Int) < k) = false := by simp; omega
    have hw : IntKind.i64.wrap ((L : Int) - k) = (L : Int) - k := IntWalk.i64_in _ (by omega)
    have g4 : decide ((L : Int) - k < n) = false := by simp; omega
    obtain ⟨k, rfl⟩ : ∃ k' : Nat, k = (k' : Int) := ⟨k.toNat, by omega⟩
    obtain ⟨n, rfl⟩ : ∃ n' : Nat, n = (n' : Int) := ⟨n.toNat, by omega⟩
    obtain ⟨u, hu⟩ : ∃ u, u = k + n := ⟨_, rfl⟩
    have hadd : (k : Int) + (n : Int) = (u : Int) := by omega
    have hwu : IntKind.i64.wrap (u : Int) = (u : Int) := IntWalk.i64_in _ (by omega)
    have huL : u ≤ L := by omega
    have hku : k ≤ u := by omega
    have HN1 : Hid (1 ≤ n) := by unfold Hid; omega
    have HU := Lib.hid hu
    clear hbad hu
    go_enter Try.func24, Try.ntmps24
    go_wp2
    go_loopw [9] (fun iv wl => ∃ j : Nat, k ≤ j ∧ j ≤ u ∧ iv = .int .i64 (j : Int) ∧ wl = w ∧ Hid (∀ x, k ≤ x → x < j → T.getD x false = t)) (fun iv _ => u - (intOf iv).toNat)
    case atStart => exact ⟨k, Nat.le_refl _, hku, rfl, by trivial, fun x h1 h2 => by omega⟩
    case round =>
      obtain ⟨j, hj1, hj2, rfl, rfl, HJ⟩ := hrel
      by_cases hlt : j < u
      · have gj : decide (j < u) = true := by simp; omega
        have hcell : wr.cell? ⟨g, j, none⟩ = some (.bool (T.getD j false)) := by rw [HR.out.cell, bcells_get (by rw [← HL.out]; omega)]
        have j0 : (0 : Int) ≤ (j : Int) := by omega
        have j1 : (j : Int) < (L : Int) := by omega
        cases htb : T.getD j false <;> cases t <;> rw [htb] at hcell
        · have HJ2 : Hid (∀ x, k ≤ x → x < j + 1 → T.getD x false = false) := fun x h1 h2 => by
            rcases Nat.lt_or_ge x j with h3 | h3
            · exact HJ.out x h1 h3
            · obtain rfl : x = j := by omega
              exact htb
          clear htb
          go_wp2
          go_roundw
          case rel => exact ⟨j + 1, by omega, by omega, by go_num, by trivial, HJ2.out⟩
          case measure => simp [intOf]; omega
        · have HN : Hid (¬ AllP T k n true) := fun ⟨_, _, _, h4⟩ => by have := h4 j (by omega) (by have := HU.out; omega); rw [htb] at this; cases this
          clear htb
          go_wp2
          go_ret
          exact ⟨false, rfl, ⟨(fun h => nomatch h), fun h => absurd h HN.out⟩, rfl⟩
        · have HN : Hid (¬ AllP T k n false) := fun ⟨_, _, _, h4⟩ => by have := h4 j (by omega) (by have := HU.out; omega); rw [htb] at this; cases this
          clear htb
          go_wp2
          go_ret
          exact ⟨false, rfl, ⟨(fun h => nomatch h), fun h => absurd h HN.out⟩, rfl⟩
        · have HJ2 : Hid (∀ x, k ≤ x → x < j + 1 → T.getD x false = true) := fun x h1 h2 => by
            rcases Nat.lt_or_ge x j with h3 | h3
            · exact HJ.out x h1 h3
            · obtain rfl : x = j := by omega
              exact htb
          clear htb
          go_wp2
          go_roundw
          case rel => exact ⟨j + 1, by omega, by omega, by go_num, by trivial, HJ2.out⟩
          case measure => simp [intOf]; omega
      · obtain rfl : j = u := by omega
        have gj : decide (j < j) = false := by simp
        have HY : Hid (AllP T k n t) := ⟨by have := HN1.out; omega, by omega, by rw [← HL.out]; omega, fun x h1 h2 => HJ.out x (by omega) (by have := HU.out; omega)⟩
        go_wp2
        go_ret
        exact ⟨true, rfl, ⟨fun _ => HY.out, fun _ => rfl⟩, rfl⟩

set_option maxHeartbeats 2000000 in
set_option maxRecDepth 100000 in
theorem set_any (w : World) (q g lo : Nat) (T : List Bool) (k n : Nat) (t : Bool) (h : RSp w q g lo T) (hk : k + n ≤ T.length) :
    Calls Try.prog 25 #[.pointer (some ⟨q, 0, none⟩), .int .i64 k, .int .i64 n, .bool t] w fun e w' => e = .returned (.tuple #[]) ∧ RSp w' q g lo (fillV T t k n) ∧ Far (fun b => b = g) w w' := by
  have hne : q ≠ g := fun e => by
    have h1 := h.row; have h2 := h.bits
    subst e; unfold Row at h1 h2; rw [h1] at h2; injection h2 with h2; injection h2 with _ h2; exact absurd h2 (by decide)
  have hlen := h.len
  obtain ⟨L, hL⟩ : ∃ L, L = T.length := ⟨_, rfl⟩
  have H := Lib.hid h
  have HL := Lib.hid hL
  obtain ⟨u, hu⟩ : ∃ u, u = k + n := ⟨_, rfl⟩
  rw [← hL] at hlen hk
  have hadd : (k : Int) + (n : Int) = (u : Int) := by omega
  have hwu : IntKind.i64.wrap (u : Int) = (u : Int) := IntWalk.i64_in _ (by omega)
  have huL : u ≤ L := by omega
  have hku : k ≤ u := by omega
  have HU := Lib.hid hu
  have HEND : Hid (∀ w', Row w' g 4 (bcells (fillV T t k n)) → Far (fun b => b = g) w w' → RSp w' q g lo (fillV T t k n)) := fun w' h1 h2 => ⟨by rw [fillV_length]; exact h2.row H.out.row hne, h1, H.out.lo, by rw [fillV_length]; exact H.out.len⟩
  have HCELL : Hid (∀ w', Far (fun b => b = g) w w' → w'.cell? ⟨q, 1, none⟩ = some (.slice (some ⟨g, 0, none⟩) L L)) := fun w' hf => by rw [HL.out]; exact (hf.row H.out.row hne).cell 1
  clear h hL hu
  go_enter Try.func25, Try.ntmps25
  go_wp2
  go_loopw [8] (fun iv wl => ∃ m : Nat, m ≤ n ∧ iv = .int .i64 ((k + m : Nat) : Int) ∧ Hid (Row wl g 4 (bcells (fillV T t k m))) ∧ Hid (Far (fun b => b = g) w wl)) (fun iv _ => u - (intOf iv).toNat)
  case atStart => exact ⟨0, Nat.zero_le _, rfl, H.out.bits, Far.refl _ _⟩
  case round =>
    obtain ⟨m, hm, rfl, HW, HF⟩ := hrel
    obtain ⟨bm, hbm⟩ : ∃ bm, bm = k + m := ⟨_, rfl⟩
    rw [← hbm]
    have HBM := Lib.hid hbm
    have c1 := HCELL.out wr HF.out
    by_cases hmk : m < n
    · have hbb : bm < u := by have := HU.out; omega
      have gb : decide (bm < u) = true := by simp; omega
      have bi0 : (0 : Int) ≤ (bm : Int) := by omega
      have bi1 : (bm : Int) < (L : Int) := by omega
      have hcell : wr.cell? ⟨g, bm, none⟩ = some (.bool ((fillV T t k m).getD bm false)) := by rw [HW.out.cell, bcells_get (by rw [fillV_length, ← HL.out]; omega)]
      have hfz : wr.frozen? ⟨g, bm, none⟩ = false := HW.out.free bm
      have HW5 : Hid (Row (wr.setCell ⟨g, bm, none⟩ (.bool t)) g 4 (bcells (fillV T t k (m + 1)))) := by
        unfold Hid; rw [fillV_succ, ← hbm, bcells_set]; exact HW.out.set bm _
      have HF5 : Hid (Far (fun b => b = g) w (wr.setCell ⟨g, bm, none⟩ (.bool t))) := HF.out.set (p := ⟨g, bm, none⟩) (.inl rfl) _
      generalize (fillV T t k m).getD bm false = tv at hcell
      clear hbm
      go_wp2
      generalize wr.setCell ⟨g, bm, none⟩ (.bool t) = w5 at *
      go_roundw
      case rel => exact ⟨m + 1, hmk, by rw [HBM.out]; go_num, HW5.out, HF5.out⟩
      case measure => simp [intOf]; omega
    · obtain rfl : m = n := by omega
      have gb : decide (bm < u) = false := by simp; have := HU.out; omega
      clear hbm
      go_wp2
      go_end0
      exact ⟨rfl, HEND.out _ HW.out HF.out, HF.out⟩

theorem AllP.bounds {T : List Bool} {k n : Int} {t : Bool} (h : AllP T k n t) : ∃ a m : Nat, k = (a : Int) ∧ n = (m : Int) ∧ 1 ≤ m ∧ a + m ≤ T.length := by
  obtain ⟨h1, h2, h3, _⟩ := h
  exact ⟨k.toNat, n.toNat, by omega, by omega, by omega, by omega⟩

set_option maxHeartbeats 2000000 in
set_option maxRecDepth 100000 in
theorem rtake_any (w : World) (q g lo : Nat) (T : List Bool) (n : Int) (h : RSp w q g lo T) (hn : I64 n) :
    Calls Try.prog 11 #[.pointer (some ⟨q, 0, none⟩), .int .i64 n] w fun e w' =>
      (∃ k m : Nat, n = (m : Int) ∧ k + m ≤ T.length ∧ AllP T k n false ∧ (∀ j : Nat, j < k → ¬ AllP T j n false) ∧ e = .returned (.tuple #[.int .i64 ((lo + k : Nat) : Int), .int .i64 0]) ∧ RSp w' q g lo (fillV T true k m) ∧ Far (fun b => b = g) w w') ∨
      ((∀ j : Nat, ¬ AllP T j n false) ∧ e = .returned (.tuple #[.int .i64 0, .int .i64 (if n < 1 then 1 else 5)]) ∧ w' = w) := by
  by_cases h1 : n < 1
  · have g1 : decide (n < 1) = true := by simpa using h1
    have HN : Hid (∀ j : Nat, ¬ AllP T j n false) := fun j hj => by have := hj.1; omega
    rw [if_pos h1]
    clear h1 h
    go_enter Try.func11, Try.ntmps11
    go_wp2
    go_ret2
    exact .inr ⟨HN.out, rfl, rfl⟩
  have g1 : decide (n < 1) = false := by simpa using h1
  rw [if_neg h1]
  have c0 : w.cell? ⟨q, 0, none⟩ = some (.int .i64 lo) := h.row.cell 0
  have c1 : w.cell? ⟨q, 1, none⟩ = some (.slice (some ⟨g, 0, none⟩) T.length T.length) := h.row.cell 1
  have hlen := h.len
  have hlo := h.lo
  obtain ⟨L, hL⟩ : ∃ L, L = T.length := ⟨_, rfl⟩
  have H := Lib.hid h
  have HL := Lib.hid hL
  have HALL : Hid (∀ j : Nat, j < L → Calls Try.prog 24 #[.pointer (some ⟨q, 0, none⟩), .int .i64 j, .int .i64 n, .bool false] w fun e w' => ∃ r : Bool, e = .returned (.bool r) ∧ (r = true ↔ AllP T j n false) ∧ w' = w) := fun j hj => all_any w q g lo T j n false h (I64.of (by omega) (by omega)) hn
  have HBIG : Hid (∀ j : Nat, L ≤ j → ¬ AllP T j n false) := fun j hj hp => by have := hp.2.2.1; have := hp.1; omega
  rw [← hL] at c1 hlen
  clear h hL h1
  go_enter Try.func11, Try.ntmps11
  go_wp2
  go_loopw [6] (fun iv wl => ∃ j : Nat, j ≤ L ∧ iv = .int .i64 (j : Int) ∧ wl = w ∧ Hid (∀ x : Nat, x < j → ¬ AllP T x n false)) (fun iv _ => L - (intOf iv).toNat)
  case atStart => exact ⟨0, Nat.zero_le _, rfl, by trivial, fun x hx => by omega⟩
  case round =>
    obtain ⟨j, hj, rfl, rfl, HJ⟩ := hrel
    by_cases hlt : j < L
    · have gj : decide (j < L) = true := by simp; omega
      go_wp2_with fail
      refine (HALL.out j hlt).mono ?_
      rintro e w2 ⟨r, rfl, hr, rfl⟩
      cases r with
      | true =>
        have hp := hr.1 rfl
        obtain ⟨a, m, ha, hm, hm1, ham⟩ := hp.bounds
        have hja : j = a := by omega
        subst hja
        subst hm
        have hs := set_any w2 q g lo T j m true H.out ham
        have HS := Lib.hid hs
        have HP := Lib.hid hp
        obtain ⟨u, hu⟩ : ∃ u, u = lo + j := ⟨_, rfl⟩
        have hadd : (lo : Int) + (j : Int) = (u : Int) := by omega
        have hwu : IntKind.i64.wrap (u : Int) = (u : Int) := IntWalk.i64_in _ (by omega)
        have HU := Lib.hid hu
        have HAM := Lib.hid ham
        clear hr hp hs hu ha ham
        go_wp2_with fail
        refine HS.out.mono ?_
        rintro e w3 ⟨rfl, hr3, hf3⟩
        have HR3 := Lib.hid hr3
        have HF3 := Lib.hid hf3
        have c03 : w3.cell? ⟨q, 0, none⟩ = some (.int .i64 lo) := hr3.row.cell 0
        clear hr3 hf3
        go_wp2
        go_ret2
        exact .inl ⟨j, m, rfl, HAM.out, HP.out, HJ.out, (by rw [← HU.out]; rfl), HR3.out, HF3.out⟩
      | false =>
        have HJ2 : Hid (∀ x : Nat, x < j + 1 → ¬ AllP T x n false) := fun x hx => by
          rcases Nat.lt_or_ge x j with h3 | h3
          · exact HJ.out x h3
          · obtain rfl : x = j := by omega
            exact fun hp => by have := hr.2 hp; cases this
        clear hr
        go_wp2
        go_roundw
        case rel => exact ⟨j + 1, by omega, by go_num, by trivial, HJ2.out⟩
        case measure => simp [intOf]; omega
    · obtain rfl : j = L := by omega
      have gj : decide (j < j) = false := by simp
      have HN : Hid (∀ x : Nat, ¬ AllP T x n false) := fun x => by
        rcases Nat.lt_or_ge x j with h3 | h3
        · exact HJ.out x h3
        · exact HBIG.out x h3
      go_wp2
      go_ret2
      exact .inr ⟨HN.out, rfl, rfl⟩

set_option maxHeartbeats 2000000 in
set_option maxRecDepth 100000 in
theorem rhold_any (w : World) (q g lo : Nat) (T : List Bool) (f n : Int) (h : RSp w q g lo T) (hf : I64 f) (hn : I64 n) :
    Calls Try.prog 15 #[.pointer (some ⟨q, 0, none⟩), .int .i64 f, .int .i64 n] w fun e w' =>
      (∃ k m : Nat, placeZ lo f = (k : Int) ∧ n = (m : Int) ∧ AllP T k n false ∧ e = .returned (.int .i64 0) ∧ RSp w' q g lo (fillV T true k m) ∧ Far (fun b => b = g) w w') ∨ (¬ AllP T (placeZ lo f) n false ∧ e = .returned (.int .i64 1) ∧ w' = w) := by
  have hb := hf.bounds
  have hlo := h.lo
  have hz : I64 (placeZ lo f) := by unfold placeZ; split <;> exact I64.of (by omega) (by omega)
  have HPL := Lib.hid (place_any w q g lo T f h hf)
  have HALL := Lib.hid (all_any w q g lo T (placeZ lo f) n false h hz hn)
  have H := Lib.hid h
  generalize placeZ lo f = z at *
  clear h
  go_enter Try.func15, Try.ntmps15
  go_wp2_with fail
  refine HPL.out.mono ?_
  rintro e w2 ⟨rfl, rfl⟩
  go_wp2_with fail
  refine HALL.out.mono ?_
  rintro e w3 ⟨r, rfl, hr, rfl⟩
  cases r with
  | true =>
    have hp := hr.1 rfl
    obtain ⟨a, m, rfl, rfl, hm1, ham⟩ := hp.bounds
    have HS := Lib.hid (set_any w3 q g lo T a m true H.out ham)
    have HP := Lib.hid hp
    clear hr hp
    go_wp2_with fail
    refine HS.out.mono ?_
    rintro e w4 ⟨rfl, hr3, hf3⟩
    have HR3 := Lib.hid hr3
    have HF3 := Lib.hid hf3
    clear hr3 hf3
    go_wp2
    go_ret
    exact .inl ⟨a, m, rfl, rfl, HP.out, rfl, HR3.out, HF3.out⟩
  | false =>
    have HN : Hid (¬ AllP T z n false) := fun hp => by have := hr.2 hp; cases this
    clear hr
    go_wp2
    go_ret
    exact .inr ⟨HN.out, rfl, rfl⟩
set_option maxHeartbeats 2000000 in
set_option maxRecDepth 100000 in
theorem rgive_any (w : World) (q g lo : Nat) (T : List Bool) (f n : Int) (h : RSp w q g lo T) (hf : I64 f) (hn : I64 n) :
    Calls Try.prog 13 #[.pointer (some ⟨q, 0, none⟩), .int .i64 f, .int .i64 n] w fun e w' =>
      (∃ k m : Nat, placeZ lo f = (k : Int) ∧ n = (m : Int) ∧ AllP T k n true ∧ e = .returned (.int .i64 0) ∧ RSp w' q g lo (fillV T false k m) ∧ Far (fun b => b = g) w w') ∨ (¬ AllP T (placeZ lo f) n true ∧ e = .returned (.int .i64 1) ∧ w' = w) := by
  have hb := hf.bounds
  have hlo := h.lo
  have hz : I64 (placeZ lo f) := by unfold placeZ; split <;> exact I64.of (by omega) (by omega)
  have HPL := Lib.hid (place_any w q g lo T f h hf)
  have HALL := Lib.hid (all_any w q g lo T (placeZ lo f) n true h hz hn)
  have H := Lib.hid h
  generalize placeZ lo f = z at *
  clear h
  go_enter Try.func13, Try.ntmps13
  go_wp2_with fail
  refine HPL.out.mono ?_
  rintro e w2 ⟨rfl, rfl⟩
  go_wp2_with fail
  refine HALL.out.mono ?_
  rintro e w3 ⟨r, rfl, hr, rfl⟩
  cases r with
  | true =>
    have hp := hr.1 rfl
    obtain ⟨a, m, rfl, rfl, hm1, ham⟩ := hp.bounds
    have HS := Lib.hid (set_any w3 q g lo T a m false H.out ham)
    have HP := Lib.hid hp
    clear hr hp
    go_wp2_with fail
    refine HS.out.mono ?_
    rintro e w4 ⟨rfl, hr3, hf3⟩
    have HR3 := Lib.hid hr3
    have HF3 := Lib.hid hf3
    clear hr3 hf3
    go_wp2
    go_ret
    exact .inl ⟨a, m, rfl, rfl, HP.out, rfl, HR3.out, HF3.out⟩
  | false =>
    have HN : Hid (¬ AllP T z n true) := fun hp => by have := hr.2 hp; cases this
    clear hr
    go_wp2
    go_ret
    exact .inr ⟨HN.out, rfl, rfl⟩
end Go.Proofs.Ytjpomohfoknjiaa
