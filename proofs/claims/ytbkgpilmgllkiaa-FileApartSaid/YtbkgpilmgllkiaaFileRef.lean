/- What the reference of layer 10 answers. -/
import Derived.Test.YtbkgpilmgllkiaaFileTup
import Derived.Test.YtbkgpilmgllkiaaFileSmall
import Derived.BigQuiet
namespace Go.Proofs.Ytbkgpilmgllkiaa
open Go.ChangeShapes Go.WideShapes Go.ChangeAt Go.RowKit

instance tupDec : DecidableEq Tup := fun a b => decidable_of_iff (a.cols = b.cols) ⟨fun h => Tup.ext_cols h, fun h => h ▸ rfl⟩
theorem neq_tup (w : World) (a b c d e a' b' c' d' e' : Int) : (binOp .neq 58 (.agg #[.int .i64 a, .int .i64 b, .int .i64 c, .int .i64 d, .int .i64 e]) (.agg #[.int .i64 a', .int .i64 b', .int .i64 c', .int .i64 d', .int .i64 e'])).run Try.prog w = .ok (.bool (!(a == a' && (b == b' && (c == c' && (d == d' && e == e')))))) w := by
  have h := eq_tup w a b c d e a' b' c' d' e'
  rw [run_eql_struct] at h
  rw [run_neq_struct]
  generalize (Op.equalIn 10000 58 (.agg #[.int .i64 a, .int .i64 b, .int .i64 c, .int .i64 d, .int .i64 e]) (.agg #[.int .i64 a', .int .i64 b', .int .i64 c', .int .i64 d', .int .i64 e'])).run Try.prog w = R at h ⊢
  generalize (a == a' && (b == b' && (c == c' && (d == d' && e == e')))) = X at h ⊢
  cases R with
  | ok b w' => simp [Result.andThen] at h ⊢; obtain ⟨rfl, rfl⟩ := h; exact ⟨rfl, rfl⟩
  | _ => simp [Result.andThen] at h
/-- tuples alike, as the walk says it -/
theorem tup_eq (t u : Tup) : (t.a == u.a && (t.b == u.b && (t.c == u.c && (t.d == u.d && t.e == u.e)))) = decide (t = u) := by
  obtain ⟨a, b, c, d, e⟩ := t
  obtain ⟨a', b', c', d', e'⟩ := u
  simp only [Tup.mk.injEq]
  by_cases h1 : a = a' <;> by_cases h2 : b = b' <;> by_cases h3 : c = c' <;> by_cases h4 : d = d' <;> by_cases h5 : e = e' <;> simp [h1, h2, h3, h4, h5]
/-- the most that fit -/
theorem holds_least {size k n : Nat} (hk : 0 < k) (h : n * k ≤ size - 2) : n ≤ (size - 2) / k := (Nat.le_div_iff_mul_le hk).2 h
set_option maxRecDepth 100000 in
theorem rhol_any (size : Nat) (width : Int) (w : World) (hs : 8 ≤ size ∧ size ≤ 256) : Calls Try.prog 13 #[.int .i64 size, .int .i64 width] w fun e w' => e = .returned (.int .i64 (holdsI size width : Nat)) ∧ w' = w := by
  by_cases h1 : width < 1 ∨ 5 < width
  · have e0 : holdsI size width = 0 := by unfold holdsI; rw [if_pos h1]
    rw [e0]
    by_cases h2 : width < 1
    · have g1 : decide (width < 1) = true := by simpa using h2
      go_enter Try.func13, Try.ntmps13
      go_wp2
      go_ret
      exact ⟨rfl, rfl⟩
    · have g1 : decide (width < 1) = false := by simpa using h2
      have g2 : decide (width > 5) = true := by simp; omega
      go_enter Try.func13, Try.ntmps13
      go_wp2
      go_ret
      exact ⟨rfl, rfl⟩
  · obtain ⟨k, rfl⟩ : ∃ k : Nat, width = (k : Int) := ⟨width.toNat, by omega⟩
    have hk : 0 < k ∧ k ≤ 5 := by omega
    have g1 : decide ((k : Int) < 1) = false := by simp; omega
    have g2 : decide ((k : Int) > 5) = false := by simp; omega
    have he : holdsI size k = (size - 2) / k := by unfold holdsI; rw [if_neg h1]; rfl
    rw [he]
    obtain ⟨s2, hs2⟩ : ∃ s2, s2 = size - 2 := ⟨_, rfl⟩
    have hs2' : (size : Int) - 2 = (s2 : Int) := by omega
    have hs3 : s2 ≤ 254 := by omega
    rw [← hs2]
    have HQ : Hid (s2 / k * k ≤ s2 ∧ ∀ n, n * k ≤ s2 → n ≤ s2 / k) := ⟨Nat.div_mul_le_self _ _, fun n h => (Nat.le_div_iff_mul_le hk.1).2 h⟩
    generalize hqq : s2 / k = q at *
    have hq254 : q ≤ 254 := by
      have h := HQ.out.1
      have := Nat.mul_le_mul_left q hk.1
      omega
    clear he hs2 h1 hqq
    go_enter Try.func13, Try.ntmps13
    go_wp2
    go_loopw [5] (fun iv wr => ∃ n : Nat, n ≤ q ∧ iv = .int .i64 (n : Int) ∧ wr = w) (fun iv _ => q - (intOf iv).toNat)
    case atStart => exact ⟨0, Nat.zero_le _, rfl, rfl⟩
    case round =>
      obtain ⟨n, hn, rfl, rfl⟩ := hrel
      obtain ⟨n1, hn1⟩ : ∃ n1, n1 = n + 1 := ⟨_, rfl⟩
      have hn2 : (n : Int) + 1 = (n1 : Int) := by omega
      obtain ⟨mm, hmm⟩ : ∃ mm, mm = n1 * k := ⟨_, rfl⟩
      have hmul : (n1 : Int) * (k : Int) = (mm : Int) := by rw [hmm]; exact (Int.natCast_mul n1 k).symm
      have hmb : mm ≤ 2000 := by
        rw [hmm, hn1]
        have := Nat.mul_le_mul (show n + 1 ≤ 255 by omega) hk.2
        omega
      have hnl : n < n1 ∧ n1 ≤ n + 1 := by omega
      clear hn1
      by_cases hlt : n < q
      · have hle : mm ≤ s2 := by
          have h2 := HQ.out.1
          have := Nat.mul_le_mul_right k (show n1 ≤ q by omega)
          omega
        have g3 : decide ((mm : Int) ≤ (s2 : Int)) = true := by simp; omega
        clear hmm
        go_wp2
        go_roundw
        case rel => exact ⟨n1, by omega, by trivial, by trivial⟩
        case measure => simp [intOf]; omega
      · have hgt : ¬ mm ≤ s2 := fun h => by
          have := HQ.out.2 n1 (by omega)
          omega
        have g3 : decide ((mm : Int) ≤ (s2 : Int)) = false := by simp; omega
        obtain rfl : n = q := by omega
        clear hmm
        go_wp2
        go_ret
        exact ⟨rfl, rfl⟩
/-- how many blocks, as the reference counts them -/
def blocksR (h c : Nat) : Nat := if h = 0 then 0 else blocksN h c
set_option maxRecDepth 100000 in
theorem rblk2_any (size : Nat) (width : Int) (c : Nat) (w : World) (hs : 8 ≤ size ∧ size ≤ 256) (hc : c ≤ 1000000) : Calls Try.prog 12 #[.int .i64 size, .int .i64 width, .int .i64 c] w fun e w' => e = .returned (.int .i64 (blocksR (holdsI size width) c : Nat)) ∧ w' = w := by
  have HH := Lib.hid (rhol_any size width w hs)
  have hb : holdsI size width ≤ 254 := Nat.le_trans (holds_le _ _) (by omega)
  generalize holdsI size width = h at *
  by_cases h0 : h = 0
  · subst h0
    go_enter Try.func12, Try.ntmps12
    go_wp2_with fail
    refine HH.out.mono ?_; rintro e w1 ⟨rfl, rfl⟩
    go_wp2
    go_loopw [8] (fun iv wr => iv = .int .i64 0 ∧ wr = w1) (fun iv _ => 0)
    case atStart => exact ⟨rfl, rfl⟩
    case round =>
      obtain ⟨rfl, rfl⟩ := hrel
      go_wp2
      go_ret
      exact ⟨rfl, rfl⟩
  · have he : blocksR h c = blocksN h c := by unfold blocksR; rw [if_neg h0]
    have hh : 0 < h := by omega
    have HQ : Hid (c ≤ blocksN h c * h ∧ ∀ n, c ≤ n * h → blocksN h c ≤ n) := ⟨blocks_mul hh, fun n hn => blocks_least hh hn⟩
    have hle : blocksN h c ≤ 1000000 := Nat.le_trans (blocks_le _ _) hc
    rw [he]
    generalize blocksN h c = q at *
    have g1 : decide ((h : Int) > 0) = true := by simp; omega
    clear he h0
    go_enter Try.func12, Try.ntmps12
    go_wp2_with fail
    refine HH.out.mono ?_; rintro e w1 ⟨rfl, rfl⟩
    clear HH
    go_wp2
    go_loopw [8] (fun iv wr => ∃ n : Nat, n ≤ q ∧ iv = .int .i64 (n : Int) ∧ wr = w1) (fun iv _ => q - (intOf iv).toNat)
    case atStart => exact ⟨0, Nat.zero_le _, rfl, rfl⟩
    case round =>
      obtain ⟨n, hn, rfl, rfl⟩ := hrel
      obtain ⟨mm, hmm⟩ : ∃ mm, mm = n * h := ⟨_, rfl⟩
      have hmul : (n : Int) * (h : Int) = (mm : Int) := by rw [hmm]; exact (Int.natCast_mul n h).symm
      have hmb : mm ≤ 254000000 := by
        have := Nat.mul_le_mul (show n ≤ 1000000 by omega) hb
        omega
      by_cases hlt : n < q
      · have hgt : ¬ c ≤ mm := fun h2 => by
          have := HQ.out.2 n (by omega)
          omega
        have g3 : decide ((mm : Int) < (c : Int)) = true := by simp; omega
        clear hmm
        go_wp2
        go_roundw
        case rel => exact ⟨n + 1, by omega, by go_num, by trivial⟩
        case measure => simp [intOf]; omega
      · obtain rfl : n = q := by omega
        have hgt : c ≤ mm := by have := HQ.out.1; omega
        have g3 : decide ((mm : Int) < (c : Int)) = false := by simp; omega
        clear hmm
        go_wp2
        go_ret
        exact ⟨rfl, rfl⟩
/-- the column i -/
def colN (t : Tup) (i : Nat) : Int := if i = 0 then t.a else if i = 1 then t.b else if i = 2 then t.c else if i = 3 then t.d else t.e
theorem fits_iff (k : Nat) (t : Tup) : fitsT k t = true ↔ ∀ i, k ≤ i → i < 5 → colN t i = 0 := by
  obtain ⟨a, b, c, d, e⟩ := t
  unfold fitsT Tup.cols
  constructor
  · intro h i hk hi
    have h1 := List.all_eq_true.1 h
    have hm : ([a, b, c, d, e] : List Int)[i]? = some (colN ⟨a, b, c, d, e⟩ i) := by
      match i, hi with
      | 0, _ => rfl
      | 1, _ => rfl
      | 2, _ => rfl
      | 3, _ => rfl
      | 4, _ => rfl
      | i + 5, hi => omega
    have h2 : ([a, b, c, d, e].drop k)[i - k]? = some (colN ⟨a, b, c, d, e⟩ i) := by rw [List.getElem?_drop, show k + (i - k) = i by omega]; exact hm
    simpa using h1 _ (List.mem_of_getElem? h2)
  · intro h
    rw [List.all_eq_true]
    intro x hx
    obtain ⟨j, hj⟩ := List.getElem?_of_mem hx
    rw [List.getElem?_drop] at hj
    have hj5 : k + j < 5 := (List.getElem?_eq_some_iff.1 hj).1
    have h3 := h (k + j) (by omega) hj5
    generalize k + j = i at hj hj5 h3
    match i, hj5 with
    | 0, _ => simp at hj; subst hj; simpa [colN] using h3
    | 1, _ => simp at hj; subst hj; simpa [colN] using h3
    | 2, _ => simp at hj; subst hj; simpa [colN] using h3
    | 3, _ => simp at hj; subst hj; simpa [colN] using h3
    | 4, _ => simp at hj; subst hj; simpa [colN] using h3
    | i + 5, hi => omega
set_option maxHeartbeats 1000000 in
set_option maxRecDepth 100000 in
theorem rfit_any (t : Tup) (k : Nat) (w : World) (_hk : k ≤ 5) : Calls Try.prog 41 #[.agg #[.int .i64 t.a, .int .i64 t.b, .int .i64 t.c, .int .i64 t.d, .int .i64 t.e], .int .i64 k] w fun e w' => e = .returned (.bool (fitsT k t)) ∧ Below w.heap.size w w' := by
  have hr : Row (w.alloc (.cells #[.int .i64 t.a, .int .i64 t.b, .int .i64 t.c, .int .i64 t.d, .int .i64 t.e] 58)) w.heap.size 58 [.int .i64 t.a, .int .i64 t.b, .int .i64 t.c, .int .i64 t.d, .int .i64 t.e] := heap_alloc_new _ _
  have HR : Hid (∀ i, i < 5 → (w.alloc (.cells #[.int .i64 t.a, .int .i64 t.b, .int .i64 t.c, .int .i64 t.d, .int .i64 t.e] 58)).cell? ⟨w.heap.size, i, none⟩ = some (.int .i64 (colN t i))) := fun i hi => by
    rw [hr.cell i]
    match i, hi with
    | 0, _ => rfl
    | 1, _ => rfl
    | 2, _ => rfl
    | 3, _ => rfl
    | 4, _ => rfl
    | i + 5, hi => omega
  have HB : Hid (Below w.heap.size w (w.alloc (.cells #[.int .i64 t.a, .int .i64 t.b, .int .i64 t.c, .int .i64 t.d, .int .i64 t.e] 58))) := (Below.refl w.heap.size w).alloc (Nat.le_refl _) _
  have HF : Hid ((∀ i, k ≤ i → i < 5 → colN t i = 0) ↔ fitsT k t = true) := (fits_iff k t).symm
  generalize fitsT k t = ft at *
  clear hr
  obtain ⟨W, hW⟩ : ∃ W, W = w.alloc (.cells #[.int .i64 t.a, .int .i64 t.b, .int .i64 t.c, .int .i64 t.d, .int .i64 t.e] 58) := ⟨_, rfl⟩
  have HW := Lib.hid hW
  rw [← hW] at HR HB
  clear hW
  go_enter Try.func41, Try.ntmps41
  go_wp2
  rw [← HW.out]
  go_loopw [5] (fun iv wr => ∃ i : Nat, i ≤ 5 ∧ iv = .int .i64 (i : Int) ∧ wr = W ∧ Hid (∀ j, k ≤ j → j < i → colN t j = 0)) (fun iv _ => 5 - (intOf iv).toNat)
  case atStart => exact ⟨0, Nat.zero_le _, rfl, by trivial, fun j _ hj => absurd hj (Nat.not_lt_zero _)⟩
  case round =>
    obtain ⟨i, hi, rfl, rfl, HZ⟩ := hrel
    by_cases hlt : i < 5
    · have hc := HR.out i hlt
      generalize hz : colN t i = z at hc
      have HZI := Lib.hid hz
      clear hz
      have g0 : decide ((i : Int) < 5) = true := by simp; omega
      have i0 : (0 : Int) ≤ (i : Int) := by omega
      have i5 : (i : Int) < 5 := by omega
      by_cases hki : k ≤ i
      · have g1 : decide ((i : Int) ≥ (k : Int)) = true := by simp; omega
        by_cases hz0 : z = 0
        · have g2 : (z != 0) = false := by simpa using hz0
          have HZ2 : Hid (∀ j, k ≤ j → j < i + 1 → colN t j = 0) := fun j h1 h2 => by
            by_cases h3 : j = i
            · subst h3; rw [HZI.out]; exact hz0
            · exact HZ.out j h1 (by omega)
          clear hz0
          go_wp2
          go_roundw
          case rel => exact ⟨i + 1, by omega, by go_num, by trivial, HZ2.out⟩
          case measure => simp [intOf]; omega
        · have g2 : (z != 0) = true := by simpa using hz0
          have HFF : Hid (ft = false) := by
            unfold Hid
            cases ft
            · rfl
            · exact absurd ((HF.out.2 rfl) i hki hlt) (by rw [HZI.out]; exact hz0)
          clear hz0
          go_wp2
          go_ret
          rw [HFF.out]
          exact ⟨rfl, HB.out⟩
      · have g1 : decide ((i : Int) ≥ (k : Int)) = false := by simp; omega
        have HZ2 : Hid (∀ j, k ≤ j → j < i + 1 → colN t j = 0) := fun j h1 h2 => HZ.out j h1 (by omega)
        go_wp2
        go_roundw
        case rel => exact ⟨i + 1, by omega, by go_num, by trivial, HZ2.out⟩
        case measure => simp [intOf]; omega
    · obtain rfl : i = 5 := by omega
      have HFF : Hid (ft = true) := HF.out.1 HZ.out
      go_wp2
      go_ret
      rw [HFF.out]
      exact ⟨rfl, HB.out⟩
set_option maxHeartbeats 1000000 in
set_option maxRecDepth 100000 in
theorem rall_any (A : Option Addr) (m c : Nat) (l : List Tup) (k : Nat) (w : World) (h : ReadsT w w.heap.size A m l) (hk : k ≤ 5) (hm : m ≤ maxLen) : Calls Try.prog 18 #[.slice A m c, .int .i64 k] w fun e w' => e = .returned (.bool (l.all (fitsT k))) ∧ Below w.heap.size w w' := by
  have hlen := h.1
  have HR := Lib.hid h
  have HA : Hid ((∀ u ∈ l, fitsT k u = true) ↔ l.all (fitsT k) = true) := List.all_eq_true.symm
  have hmm : m ≤ 9223372036854775807 := by unfold maxLen at hm; omega
  have HL := Lib.hid hlen
  generalize l.all (fitsT k) = al at *
  clear h hlen hm
  go_enter Try.func18, Try.ntmps18
  go_wp2
  go_loopw [5] (fun iv wr => ∃ i : Nat, i ≤ m ∧ iv = .int .i64 (i : Int) ∧ Hid (Below w.heap.size w wr) ∧ Hid (∀ u ∈ l.take i, fitsT k u = true)) (fun iv _ => m - (intOf iv).toNat)
  case atStart => exact ⟨0, Nat.zero_le _, rfl, Below.refl _ _, fun u hu => by simp at hu⟩
  case round =>
    obtain ⟨i, hi, rfl, HB, HT⟩ := hrel
    by_cases hlt : i < m
    · obtain ⟨b, off, t, rfl, hbl, q0, q1, q2, q3, q4, _, ht⟩ := (HR.out.keep HB.out).at_ hlt
      have HF := Lib.hid (rfit_any t k wr hk)
      have i0 : (0 : Int) ≤ (i : Int) := by omega
      have i1 : (i : Int) < (m : Int) := by omega
      have g0 : decide ((i : Int) < (m : Int)) = true := by simp; omega
      have HTK : Hid (fitsT k t = true → ∀ u ∈ l.take (i + 1), fitsT k u = true) := fun hf u hu => by
        rw [List.take_add_one, ht.out] at hu
        rcases List.mem_append.1 hu with hu | hu
        · exact HT.out u hu
        · simp at hu; subst hu; exact hf
      have HNO : Hid (fitsT k t = false → al = false) := fun hf => by
        cases al
        · rfl
        · have := HA.out.2 rfl t (List.mem_of_getElem? ht.out)
          rw [hf] at this; cases this
      generalize fitsT k t = ft at *
      obtain ⟨ta, tb, tc, td, te⟩ := t
      simp only at q0 q1 q2 q3 q4 HF
      cases ft
      · go_wp2_with fail
        refine HF.out.mono ?_; rintro e w5 ⟨rfl, hb⟩
        have HB5 := Lib.hid (HB.out.trans (hb.mono HB.out.size))
        clear hb
        go_wp2
        go_ret
        rw [HNO.out (by trivial)]
        exact ⟨rfl, HB5.out⟩
      · go_wp2_with fail
        refine HF.out.mono ?_; rintro e w5 ⟨rfl, hb⟩
        have HB5 := Lib.hid (HB.out.trans (hb.mono HB.out.size))
        clear hb
        go_wp2
        go_roundw
        case rel => exact ⟨i + 1, by omega, by go_num, HB5.out, HTK.out (by trivial)⟩
        case measure => simp [intOf]; omega
    · obtain rfl : i = m := by omega
      have g0 : decide ((i : Int) < (i : Int)) = false := by simp
      have HAL : Hid (al = true) := HA.out.1 fun u hu => HT.out u (by rw [List.take_of_length_le (by rw [HL.out]; exact Nat.le_refl _)]; exact hu)
      go_wp2
      go_ret
      rw [HAL.out]
      exact ⟨rfl, HB.out⟩
theorem tups_ne {l l' : List Tup} {i : Nat} {t t' : Tup} (h : l[i]? = some t) (h' : l'[i]? = some t') (hne : t ≠ t') : l ≠ l' := fun e => by
  rw [e, h'] at h; injection h with h; exact hne h.symm
set_option maxHeartbeats 1000000 in
set_option maxRecDepth 100000 in
theorem rsame_any (A A' : Option Addr) (m m' c c' : Nat) (l l' : List Tup) (w : World) (h : ReadsT w w.heap.size A m l) (h' : ReadsT w w.heap.size A' m' l') (hm : m ≤ maxLen) (hm' : m' ≤ maxLen) : Calls Try.prog 20 #[.slice A m c, .slice A' m' c'] w fun e w' => e = .returned (.bool (decide (l = l'))) ∧ ∃ q, w' = w.drewN q := by
  have hlen := h.1
  have hlen' := h'.1
  have hmm : m ≤ 9223372036854775807 := by unfold maxLen at hm; omega
  have hmm' : m' ≤ 9223372036854775807 := by unfold maxLen at hm'; omega
  by_cases hne : m = m'
  · subst hne
    have HR := Lib.hid h
    have HR' := Lib.hid h'
    have HL := Lib.hid hlen
    have HL' := Lib.hid hlen'
    have g9 : ((m : Int) != (m : Int)) = false := by simp
    clear h h' hlen hlen' hm hm'
    go_enter Try.func20, Try.ntmps20
    go_wp2
    go_loopw [5] (fun iv wr => ∃ i : Nat, i ≤ m ∧ iv = .int .i64 (i : Int) ∧ (∃ q, wr = w.drewN q) ∧ Hid (l.take i = l'.take i)) (fun iv _ => m - (intOf iv).toNat)
    case atStart => exact ⟨0, Nat.zero_le _, rfl, ⟨0, rfl⟩, by simp [Hid]⟩
    case round =>
      obtain ⟨i, hi, rfl, ⟨q0, rfl⟩, HT⟩ := hrel
      by_cases hlt : i < m
      · obtain ⟨b, off, t, rfl, hbl, d0, d1, d2, d3, d4, _, ht⟩ := HR.out.at_ hlt
        obtain ⟨b', off', t', rfl, hbl', s0, s1, s2, s3, s4, _, ht'⟩ := HR'.out.at_ hlt
        have i0 : (0 : Int) ≤ (i : Int) := by omega
        have i1 : (i : Int) < (m : Int) := by omega
        have g0 : decide ((i : Int) < (m : Int)) = true := by simp; omega
        have heq := tup_eq t t'
        have HTK : Hid (t = t' → l.take (i + 1) = l'.take (i + 1)) := fun hf => by
          rw [List.take_add_one, List.take_add_one, HT.out, ht.out, ht'.out, hf]
        have HNO : Hid (t ≠ t' → l ≠ l') := tups_ne ht.out ht'.out
        generalize hbq : decide (t = t') = bq at heq
        have HBQ := Lib.hid hbq
        obtain ⟨ta, tb, tc, td, te⟩ := t
        obtain ⟨ua, ub, uc, ud, ue⟩ := t'
        simp only at d0 d1 d2 d3 d4 s0 s1 s2 s3 s4 heq
        have d0' : ∀ q, (w.drewN q).cell? ⟨b, off + i * 5, none⟩ = some (.int .i64 ta) := fun _ => d0
        have d1' : ∀ q, (w.drewN q).cell? ⟨b, off + i * 5 + 1, none⟩ = some (.int .i64 tb) := fun _ => d1
        have d2' : ∀ q, (w.drewN q).cell? ⟨b, off + i * 5 + 2, none⟩ = some (.int .i64 tc) := fun _ => d2
        have d3' : ∀ q, (w.drewN q).cell? ⟨b, off + i * 5 + 3, none⟩ = some (.int .i64 td) := fun _ => d3
        have d4' : ∀ q, (w.drewN q).cell? ⟨b, off + i * 5 + 4, none⟩ = some (.int .i64 te) := fun _ => d4
        have f0' : ∀ q, (w.drewN q).cell? ⟨b', off' + i * 5, none⟩ = some (.int .i64 ua) := fun _ => s0
        have f1' : ∀ q, (w.drewN q).cell? ⟨b', off' + i * 5 + 1, none⟩ = some (.int .i64 ub) := fun _ => s1
        have f2' : ∀ q, (w.drewN q).cell? ⟨b', off' + i * 5 + 2, none⟩ = some (.int .i64 uc) := fun _ => s2
        have f3' : ∀ q, (w.drewN q).cell? ⟨b', off' + i * 5 + 3, none⟩ = some (.int .i64 ud) := fun _ => s3
        have f4' : ∀ q, (w.drewN q).cell? ⟨b', off' + i * 5 + 4, none⟩ = some (.int .i64 ue) := fun _ => s4
        have hq := fun W => neq_tup W ta tb tc td te ua ub uc ud ue
        simp only [heq] at hq
        have hg := fun W x y => guard_tup W .neq x y #[.int .i64 ta, .int .i64 tb, .int .i64 tc, .int .i64 td, .int .i64 te] #[.int .i64 ua, .int .i64 ub, .int .i64 uc, .int .i64 ud, .int .i64 ue]
        clear heq hbq ht ht'
        cases bq
        · have HNE : Hid (decide (l = l') = false) := by
            unfold Hid
            rw [decide_eq_false_iff_not]
            exact HNO.out (of_decide_eq_false HBQ.out)
          clear HBQ HNO HTK
          go_wp2
          go_quiet (fail)
          go_wp2
          go_ret
          exact ⟨ret_bool HNE.out.symm, _, World.drewN_drewN _ _ _⟩
        · have HT2 := Lib.hid (HTK.out (of_decide_eq_true HBQ.out))
          clear HBQ HNO HTK
          go_wp2
          go_quiet (fail)
          go_wp2
          go_roundw
          case rel => exact ⟨i + 1, by omega, by go_num, ⟨_, rfl⟩, HT2.out⟩
          case measure => simp [intOf]; omega
      · obtain rfl : i = m := by omega
        have HE : Hid (decide (l = l') = true) := by
          have h := HT.out
          rw [List.take_of_length_le (by have := HL.out; omega), List.take_of_length_le (by have := HL'.out; omega)] at h
          exact decide_eq_true h
        have g0 : decide ((i : Int) < (i : Int)) = false := by simp
        go_wp2
        go_ret
        exact ⟨ret_bool HE.out.symm, q0, rfl⟩
  · have HNE : Hid (decide (l = l') = false) := by
      unfold Hid
      rw [decide_eq_false_iff_not]
      intro e; exact hne (by rw [← hlen, ← hlen', e])
    have g9 : ((m : Int) != (m' : Int)) = true := by simpa using fun h : (m : Int) = (m' : Int) => hne (by omega)
    clear h h' hlen hlen' hm hm' hne
    go_enter Try.func20, Try.ntmps20
    go_wp2
    go_ret
    exact ⟨ret_bool HNE.out.symm, 0, rfl⟩
end Go.Proofs.Ytbkgpilmgllkiaa
