/- The reference's New, Free and Extents. -/
import Derived.Test.YtjpomohfoknjiaaSpRef
namespace Go.Proofs.Ytjpomohfoknjiaa
open Go.ChangeShapes Go.WideShapes Go.ChangeAt Go.RowKit

set_option maxHeartbeats 1000000 in
set_option maxRecDepth 100000 in
theorem rnew_none (f n : Int) (w : World) (h : ¬ (0 ≤ f ∧ f ≤ 1000000 ∧ 0 ≤ n ∧ n ≤ 1000000)) : Calls Try.prog 9 #[.int .i64 f, .int .i64 n] w fun e w' => e = .returned (.pointer none) ∧ w' = w := by
  by_cases h1 : f < 0
  · have g1 : decide (f < 0) = true := by simpa using h1
    clear h
    go_enter Try.func9, Try.ntmps9
    go_wp2
    go_ret
    exact ⟨rfl, rfl⟩
  have g1 : decide (f < 0) = false := by simpa using h1
  by_cases h2 : f > 1000000
  · have g2 : decide (f > 1000000) = true := by simpa using h2
    clear h h1
    go_enter Try.func9, Try.ntmps9
    go_wp2
    go_ret
    exact ⟨rfl, rfl⟩
  have g2 : decide (f > 1000000) = false := by simpa using h2
  by_cases h3 : n < 0
  · have g3 : decide (n < 0) = true := by simpa using h3
    clear h h1 h2
    go_enter Try.func9, Try.ntmps9
    go_wp2
    go_ret
    exact ⟨rfl, rfl⟩
  have g3 : decide (n < 0) = false := by simpa using h3
  have g4 : decide (n > 1000000) = true := by simp; omega
  clear h h1 h2 h3
  go_enter Try.func9, Try.ntmps9
  go_wp2
  go_ret
  exact ⟨rfl, rfl⟩
theorem rb_info : ∃ i, Try.prog.info? 4 = some i ∧ i.zero = some (.bool false) ∧ i.size = 1 ∧ i.bytes = 1 := info_parts (by kernel_rfl)
set_option maxHeartbeats 1000000 in
set_option maxRecDepth 100000 in
theorem rnew_any (f n : Nat) (w : World) (hf : f ≤ 1000000) (hn : n ≤ 1000000) : Calls Try.prog 9 #[.int .i64 f, .int .i64 n] w fun e w' => ∃ q g, e = .returned (.pointer (some ⟨q, 0, none⟩)) ∧ RSp w' q g f (List.replicate n false) ∧ w.heap.size ≤ q ∧ w.heap.size ≤ g ∧ Below w.heap.size w w' := by
  obtain ⟨i0, hi0, hz0, hz1, hzb⟩ := rb_info
  have g1 : decide ((f : Int) < 0) = false := by simp
  have g2 : decide ((f : Int) > 1000000) = false := by simp; omega
  have g3 : decide ((n : Int) < 0) = false := by simp
  have g4 : decide ((n : Int) > 1000000) = false := by simp; omega
  go_enter Try.func9, Try.ntmps9
  go_wp2_with (with_reducible refine stopAt 21 ?_)
  unfold Hid
  refine wpList_make_row w rfl _ _ 54 rfl 4 i0 (.bool false) Try.underlying54 hi0 hz0 hz1 rfl .i64 .i64 _ _ n rfl rfl rfl rfl (by rw [hzb]; omega) (by omega) ?_
  intro w2 hr2 hb2 hs2
  have hr3 : Row (w2.alloc (.cells #[.int .i64 f, .slice (some ⟨w.heap.size, 0, none⟩) n n] 56)) w2.heap.size 56 [.int .i64 f, .slice (some ⟨w.heap.size, 0, none⟩) n n] := heap_alloc_new _ _
  have HX : Hid (RSp (w2.alloc (.cells #[.int .i64 f, .slice (some ⟨w.heap.size, 0, none⟩) n n] 56)) w2.heap.size w.heap.size f (List.replicate n false)) :=
    ⟨by rw [List.length_replicate]; exact hr3, by unfold bcells; rw [List.map_replicate]; exact hr2.alloc _, hf, by rw [List.length_replicate]; exact hn⟩
  have HB : Hid (Below w.heap.size w (w2.alloc (.cells #[.int .i64 f, .slice (some ⟨w.heap.size, 0, none⟩) n n] 56))) := hb2.alloc hb2.size _
  have hs2' : w.heap.size ≤ w2.heap.size := hb2.size
  clear hr2 hb2 hs2 hr3 hi0 hz0 hz1
  go_wp2
  go_ret
  exact ⟨_, _, rfl, HX.out, hs2', Nat.le_refl _, HB.out⟩

/-- how many of the first k are not taken -/
def cntF (T : List Bool) : Nat → Nat
  | 0 => 0
  | k + 1 => cntF T k + (if T.getD k false = false then 1 else 0)
theorem cntF_le (T : List Bool) : ∀ k, cntF T k ≤ k
  | 0 => Nat.le_refl _
  | k + 1 => by have := cntF_le T k; unfold cntF; split <;> omega
set_option maxHeartbeats 1600000 in
set_option maxRecDepth 100000 in
theorem rfree_any (w : World) (q g lo : Nat) (T : List Bool) (h : RSp w q g lo T) : Calls Try.prog 17 #[.pointer (some ⟨q, 0, none⟩)] w fun e w' => e = .returned (.int .i64 (cntF T T.length : Nat)) ∧ w' = w := by
  have c1 : w.cell? ⟨q, 1, none⟩ = some (.slice (some ⟨g, 0, none⟩) T.length T.length) := h.row.cell 1
  have hlen := h.len
  have HR := Lib.hid h.bits
  obtain ⟨L, hL⟩ : ∃ L, L = T.length := ⟨_, rfl⟩
  rw [← hL] at c1 hlen ⊢
  have HL := Lib.hid hL
  clear h hL
  go_enter Try.func17, Try.ntmps17
  go_wp2
  go_loopw [3, 4] (fun cv iv wl => ∃ j : Nat, j ≤ L ∧ iv = .int .i64 (j : Int) ∧ cv = .int .i64 (cntF T j : Nat) ∧ wl = w) (fun _ iv _ => L - (intOf iv).toNat)
  case atStart => exact ⟨0, Nat.zero_le _, rfl, rfl, by trivial⟩
  case round =>
    obtain ⟨j, hj, rfl, rfl, rfl⟩ := hrel
    have hle := cntF_le T j
    by_cases hlt : j < L
    · have gj : decide (j < L) = true := by simp; omega
      have hcell : wr.cell? ⟨g, j, none⟩ = some (.bool (T.getD j false)) := by rw [HR.out.cell, bcells_get (by rw [← HL.out]; omega)]
      have j0 : (0 : Int) ≤ (j : Int) := by omega
      have j1 : (j : Int) < (L : Int) := by omega
      cases htb : T.getD j false with
      | true =>
        rw [htb] at hcell
        have HC : Hid (cntF T (j + 1) = cntF T j) := by unfold Hid; rw [cntF, htb]; rfl
        clear htb
        go_wp2
        go_roundw
        case rel => exact ⟨j + 1, by omega, by go_num, by rw [HC.out], by trivial⟩
        case measure => simp [intOf]; omega
      | false =>
        rw [htb] at hcell
        have HC : Hid (cntF T (j + 1) = cntF T j + 1) := by unfold Hid; rw [cntF, htb]; rfl
        generalize cntF T j = cj at *
        clear htb
        go_wp2
        go_roundw
        case rel => exact ⟨j + 1, by omega, by go_num, by rw [HC.out]; go_num, by trivial⟩
        case measure => simp [intOf]; omega
    · obtain rfl : j = L := by omega
      have gj : decide (j < j) = false := by simp
      go_wp2
      go_ret
      exact ⟨rfl, rfl⟩

/-! ### the runs of blocks that aren't taken -/
theorem Canon.up {hi hi' : Nat} (h : hi ≤ hi') : ∀ {l : List Ex} {lo : Nat}, Canon hi lo l → Canon hi' lo l
  | [], _, _ => trivial
  | _ :: _, _, hc => ⟨hc.1, hc.2.1, by have := hc.2.2.1; omega, Canon.up h hc.2.2.2⟩
/-- the runs among the first k blocks -/
structure Runs (lo k : Nat) (T : List Bool) (O : List Ex) : Prop where
  canon : Canon (lo + k) lo O
  has : ∀ b, hasB O b ↔ lo ≤ b ∧ b < lo + k ∧ T.getD (b - lo) false = false
section
variable {lo k : Nat} {T : List Bool} {O : List Ex}
theorem Runs.skip (h : Runs lo k T O) (ht : T.getD k false = true) : Runs lo (k + 1) T O := by
  refine ⟨h.canon.up (by omega), fun b => ?_⟩
  rw [h.has b]
  constructor
  · rintro ⟨h1, h2, h3⟩; exact ⟨h1, by omega, h3⟩
  · rintro ⟨h1, h2, h3⟩
    refine ⟨h1, ?_, h3⟩
    rcases Nat.lt_or_ge b (lo + k) with h4 | h4
    · exact h4
    · have : b - lo = k := by omega
      rw [this, ht] at h3; cases h3
theorem last_split (hn : 0 < O.length) : O = O.take (O.length - 1) ++ [xAt O (O.length - 1)] := by
  have h1 := split_at (show O.length - 1 < O.length by omega)
  rw [List.drop_eq_nil_of_le (by omega)] at h1
  exact h1
theorem Runs.push (h : Runs lo k T O) (ht : T.getD k false = false) (hne : 0 < O.length → (xAt O (O.length - 1)).1 + (xAt O (O.length - 1)).2 ≠ lo + k) : Runs lo (k + 1) T (O ++ [(lo + k, 1)]) := by
  refine ⟨canon_mid.2 ⟨h.canon.up (by omega), fun y hy => ?_, by simp, by simp, by simp; omega, trivial⟩, fun b => ?_⟩
  · obtain ⟨j, hj, rfl⟩ := List.getElem_of_mem hy
    have h1 := h.canon.getD hj
    rw [xAt_eq hj] at h1
    have h2 := hne (by omega)
    rcases Nat.lt_or_ge j (O.length - 1) with h3 | h3
    · have h4 := h.canon.ends h3 (by omega)
      have h5 := h.canon.getD (show O.length - 1 < O.length by omega)
      rw [xAt_eq hj] at h4; simp; omega
    · obtain rfl : j = O.length - 1 := by omega
      rw [xAt_eq hj] at h2; simp; omega
  · rw [hasB_append, h.has b]
    have e1 : hasB [(lo + k, 1)] b ↔ b = lo + k := by simp [hasB]; omega
    rw [e1]
    constructor
    · rintro (⟨h1, h2, h3⟩ | rfl)
      · exact ⟨h1, by omega, h3⟩
      · exact ⟨by omega, by omega, by rw [show lo + k - lo = k by omega]; exact ht⟩
    · rintro ⟨h1, h2, h3⟩
      rcases Nat.lt_or_ge b (lo + k) with h4 | h4
      · exact .inl ⟨h1, h4, h3⟩
      · exact .inr (by omega)
theorem Runs.grow (h : Runs lo k T O) (ht : T.getD k false = false) (hn : 0 < O.length) (he : (xAt O (O.length - 1)).1 + (xAt O (O.length - 1)).2 = lo + k) : Runs lo (k + 1) T (O.set (O.length - 1) ((xAt O (O.length - 1)).1, (xAt O (O.length - 1)).2 + 1)) := by
  have h1 := last_split hn
  have h2 : O.set (O.length - 1) ((xAt O (O.length - 1)).1, (xAt O (O.length - 1)).2 + 1) = O.take (O.length - 1) ++ [((xAt O (O.length - 1)).1, (xAt O (O.length - 1)).2 + 1)] := by
    rw [List.set_eq_take_append_cons_drop, if_pos (by omega), List.drop_eq_nil_of_le (by omega)]
  rw [h2]
  obtain ⟨c, hh⟩ := h
  generalize xAt O (O.length - 1) = x at *
  generalize O.take (O.length - 1) = A at *
  subst h1
  obtain ⟨c1, c2, c3, c4, c5, c6⟩ := canon_mid.1 c
  refine ⟨canon_mid.2 ⟨c1.up (by omega), c2, c3, by simp, by simp; omega, trivial⟩, fun b => ?_⟩
  have h3 := hh b
  rw [hasB_append] at h3 ⊢
  have e1 : hasB [(x.1, x.2 + 1)] b ↔ hasB [x] b ∨ b = lo + k := by simp [hasB]; omega
  rw [e1]
  constructor
  · rintro (h4 | h4 | h4)
    · have := h3.1 (.inl h4); exact ⟨this.1, by omega, this.2.2⟩
    · have := h3.1 (.inr h4); exact ⟨this.1, by omega, this.2.2⟩
    · subst h4; exact ⟨by omega, by omega, by rw [show lo + k - lo = k by omega]; exact ht⟩
  · rintro ⟨h4, h5, h6⟩
    rcases Nat.lt_or_ge b (lo + k) with h7 | h7
    · rcases h3.2 ⟨h4, h7, h6⟩ with h8 | h8
      · exact .inl h8
      · exact .inr (.inl h8)
    · exact .inr (.inr (by omega))
end
theorem rext_info : ∃ i, Try.prog.info? 64 = some i ∧ i.zero = some (.agg #[.int .i64 0, .int .i64 0]) ∧ i.size = 2 ∧ i.bytes = 16 := info_parts (by kernel_rfl)
theorem rown_form {w : World} {B : Nat} {v : Value} {n : Nat} {xs : List Value} (h : w.ownsRow B 64 2 v n xs) : ∃ A c, v = .slice A n c ∧ n ≤ c := by
  rcases h.2 with ⟨rfl, rfl⟩ | ⟨g, cap, cur, rfl, _, _, hc, _⟩
  · exact ⟨none, 0, rfl, Nat.le_refl _⟩
  · exact ⟨_, _, rfl, hc⟩
theorem rown_at {w : World} {B n c : Nat} {A : Option Addr} {O : List Ex} (h : w.ownsRow B 64 2 (.slice A n c) n (flatX O)) (hl : O.length = n) {i : Nat} (hi : i < n) :
    ∃ g, A = some ⟨g, 0, none⟩ ∧ B ≤ g ∧ g < w.heap.size ∧ w.cell? ⟨g, i * 2, none⟩ = some (.int .i64 (xAt O i).1) ∧ w.cell? ⟨g, i * 2 + 1, none⟩ = some (.int .i64 (xAt O i).2) ∧ w.frozen? ⟨g, i * 2 + 1, none⟩ = false := by
  rcases id h.2 with ⟨_, h0⟩ | ⟨g, cap, cur, e, hg, hh, r⟩
  · omega
  · injection e with e1 e2 e3
    subst e1; subst e3
    have hx := flatX_get O i (by omega)
    refine ⟨g, rfl, hg, (Array.getElem?_eq_some_iff.1 hh).1, ?_, ?_, h.frozenAt _⟩
    · rw [h.cellAt _ (by omega)]; exact hx.1
    · rw [h.cellAt _ (by omega)]; exact hx.2
theorem flatX_set2 (l : List Ex) : ∀ (i : Nat) (e : Nat), i < l.length → (flatX l).set (i * 2 + 1) (.int .i64 e) = flatX (l.set i ((xAt l i).1, e)) := by
  induction l with
  | nil => intro i e h; simp at h
  | cons x l ih =>
    intro i e h
    cases i with
    | zero => rfl
    | succ i =>
      have h2 := ih i e (by simpa using h)
      have e1 : (i + 1) * 2 + 1 = i * 2 + 1 + 2 := by omega
      rw [e1, List.set_cons_succ]
      show _ = encX x ++ flatX (l.set i ((xAt l i).1, e))
      rw [← h2]
      rfl

set_option maxHeartbeats 4000000 in
set_option maxRecDepth 100000 in
theorem rextents_any (w : World) (q g lo : Nat) (T : List Bool) (h : RSp w q g lo T) : Calls Try.prog 20 #[.pointer (some ⟨q, 0, none⟩)] w fun e w' => ∃ (A : Option Addr) (c : Nat) (O : List Ex), e = .returned (.slice A O.length c) ∧ w'.ownsRow w.heap.size 64 2 (.slice A O.length c) O.length (flatX O) ∧ Runs lo T.length T O ∧ Below w.heap.size w w' := by
  have c0 : w.cell? ⟨q, 0, none⟩ = some (.int .i64 lo) := h.row.cell 0
  have c1 : w.cell? ⟨q, 1, none⟩ = some (.slice (some ⟨g, 0, none⟩) T.length T.length) := h.row.cell 1
  have hql := h.row.lt
  have hgl := h.bits.lt
  have hlen := h.len
  have hlo := h.lo
  have HR := Lib.hid h.bits
  obtain ⟨i0, hi0, hz0, hz, hzb⟩ := rext_info
  have HI0 := Lib.hid hi0
  obtain ⟨L, hL⟩ : ∃ L, L = T.length := ⟨_, rfl⟩
  rw [← hL] at c1 hlen
  have HL := Lib.hid hL
  have H0 : Hid (Runs lo 0 T []) := ⟨trivial, fun b => ⟨fun h => absurd h (hasB_nil b), fun h => by omega⟩⟩
  have HC0 := Lib.hid c0
  have HC1 := Lib.hid c1
  clear h hL hi0 c0 c1
  go_enter Try.func20, Try.ntmps20
  go_wp2
  go_loopw [3, 4] (fun ov iv wl => ∃ (j : Nat) (O : List Ex) (A : Option Addr) (c n : Nat), j ≤ L ∧ iv = .int .i64 (j : Int) ∧ ov = .slice A n c ∧ n ≤ j ∧ Hid (O.length = n) ∧ Hid (wl.ownsRow w.heap.size 64 2 (.slice A n c) n (flatX O)) ∧ Hid (Runs lo j T O) ∧ Hid (Below w.heap.size w wl)) (fun _ iv _ => L - (intOf iv).toNat)
  case atStart => exact ⟨0, [], none, 0, 0, Nat.zero_le _, rfl, rfl, Nat.le_refl _, rfl, World.ownsRow_nil _ _ _ _, H0.out, Below.refl _ _⟩
  case round =>
    obtain ⟨j, O, A, c, n, hj, rfl, rfl, hnj, HN, HO, HRU, HB⟩ := hrel
    have c1 := (HB.out.cell (p := ⟨q, 1, none⟩) hql).trans HC1.out
    have c0 := (HB.out.cell (p := ⟨q, 0, none⟩) hql).trans HC0.out
    have hqr : q < wr.heap.size := by have := HB.out.size; omega
    by_cases hlt : j < L
    · have gj : decide (j < L) = true := by simp; omega
      have hcell : wr.cell? ⟨g, j, none⟩ = some (.bool (T.getD j false)) := (HB.out.cell (p := ⟨g, j, none⟩) hgl).trans (by rw [HR.out.cell, bcells_get (by rw [← HL.out]; omega)])
      have j0 : (0 : Int) ≤ (j : Int) := by omega
      have j1 : (j : Int) < (L : Int) := by omega
      cases htb : T.getD j false with
      | true =>
        rw [htb] at hcell
        have HS := Lib.hid (HRU.out.skip htb)
        clear htb
        go_wp2
        go_roundw
        case rel => exact ⟨j + 1, O, A, c, n, by omega, by go_num, rfl, by omega, HN.out, HO.out, HS.out, HB.out⟩
        case measure => simp [intOf]; omega
      | false =>
        rw [htb] at hcell
        have HTB := Lib.hid htb
        obtain ⟨z, hz'⟩ : ∃ z, z = lo + j := ⟨_, rfl⟩
        have haddz : (lo : Int) + (j : Int) = (z : Int) := by omega
        have hwz : IntKind.i64.wrap (z : Int) = (z : Int) := IntWalk.i64_in _ (by omega)
        have HZ := Lib.hid hz'
        clear htb hz'
        by_cases hn0 : n = 0
        · have gn : decide ((n : Int) > 0) = false := by simp; omega
          have gn2 : decide (0 < n) = false := by simp; omega
          have HP : Hid (Runs lo (j + 1) T (O ++ [(z, 1)])) := by rw [HZ.out]; exact HRU.out.push HTB.out (fun h => by rw [HN.out] at h; omega)

          go_wp2
          go_quiet (fail)
          go_wp2_with (with_reducible refine stopAt 66 ?_)
          unfold Hid
          have HO3 : Hid (((wr.drewN nq).alloc (.cells #[.int .i64 (z : Int), .int .i64 1] 64)).ownsRow w.heap.size 64 2 (.slice A n c) n (flatX O)) := HO.out.alloc _
          have HB3 : Hid (Below w.heap.size w ((wr.drewN nq).alloc (.cells #[.int .i64 (z : Int), .int .i64 1] 64))) := (below_drewN HB.out _).alloc HB.out.size _
          have hbs : w.heap.size ≤ ((wr.drewN nq).alloc (.cells #[.int .i64 (z : Int), .int .i64 1] 64)).heap.size := HB3.out.size
          refine wpList_append_own_at _ rfl _ _ 41 rfl w.heap.size 64 i0 _ 2 16 Try.underlying41 HI0.out hz0 hz hzb rfl (by decide) _ n (flatX O) rfl HO3.out ⟨wr.heap.size, 0, none⟩ 1 1 (flatX [(z, 1)]) rfl rfl (newsX rfl) flatX_one (by unfold maxLen; omega) (by omega) hbs ?_
          intro v' w5 ho5 hg5 _ _
          rw [← flatX_append] at ho5
          obtain ⟨A', c', rfl, _⟩ := rown_form ho5
          have HO5 := Lib.hid ho5
          have HB5 : Hid (Below w.heap.size w w5) := HB3.out.grown hg5 hbs fun k hk => (HO3.out.lt k hk).1
          have HN5 : Hid ((O ++ [(z, 1)]).length = n + 1) := by unfold Hid; rw [List.length_append, HN.out]; rfl
          obtain ⟨n2, hn2⟩ : ∃ n2, n2 = n + 1 := ⟨_, rfl⟩
          rw [← hn2] at HO5 HN5 ⊢
          have hn2j : n2 ≤ j + 1 := by omega
          clear ho5 hg5 hn2
          go_wp2
          go_roundw
          case rel => exact ⟨j + 1, _, A', c', n2, by omega, by go_num, rfl, hn2j, HN5.out, HO5.out, HP.out, HB5.out⟩
          case measure => simp [intOf]; omega
        · obtain ⟨m, hm⟩ : ∃ m, n = m + 1 := ⟨n - 1, by omega⟩
          have gn : decide ((n : Int) > 0) = true := by simp; omega
          have gn2 : decide (0 < n) = true := by simp; omega
          have hsubm : (n : Int) - 1 = (m : Int) := by omega
          have hwm : IntKind.i64.wrap (m : Int) = (m : Int) := IntWalk.i64_in _ (by omega)
          have m0 : (0 : Int) ≤ (m : Int) := by omega
          have m1 : (m : Int) < (n : Int) := by omega
          obtain ⟨g0, rfl, hg0, hg0l, e0, e1, f1⟩ := rown_at HO.out HN.out (show m < n by omega)
          have hlast : O.length - 1 = m := by rw [HN.out]; omega
          have hbn := HRU.out.canon.getD (show m < O.length by rw [HN.out]; omega)
          obtain ⟨a, ha⟩ : ∃ a, (xAt O m).1 = a := ⟨_, rfl⟩
          obtain ⟨b, hb⟩ : ∃ b, (xAt O m).2 = b := ⟨_, rfl⟩
          rw [ha] at e0
          rw [hb] at e1
          rw [ha, hb] at hbn
          obtain ⟨u, hu⟩ : ∃ u, u = a + b := ⟨_, rfl⟩
          have haddu : (a : Int) + (b : Int) = (u : Int) := by omega
          have hwu : IntKind.i64.wrap (u : Int) = (u : Int) := IntWalk.i64_in _ (by omega)
          have hbb : b ≤ 2000000 := by omega
          have HA := Lib.hid ha
          have HBb := Lib.hid hb
          have HLA := Lib.hid hlast
          have HU := Lib.hid hu
          have hMN : Hid (m < n) := by unfold Hid; omega
          clear ha hb hlast hu hbn hm
          by_cases huz : u = z
          · have gu : ((u : Int) == (z : Int)) = true := by simp; omega
            have gu2 : (u == z) = true := by simp; omega
            have HG : Hid (Runs lo (j + 1) T (O.set m (a, b + 1))) := by
              have := HRU.out.grow HTB.out (by rw [HN.out]; omega) (by rw [HLA.out, HA.out, HBb.out]; have := HU.out; have := HZ.out; omega)
              rw [HLA.out, HA.out, HBb.out] at this; exact this
            have hst := (World.ownsRow.stored HO.out (m * 2 + 1) (.int .i64 ((b + 1 : Nat) : Int)))
            rw [flatX_set2 O m (b + 1) (by rw [HN.out]; exact hMN.out), HA.out] at hst
            have hbadd : (b : Int) + 1 = ((b + 1 : Nat) : Int) := by omega
            have HO2 : Hid ((wr.setCell ⟨g0, m * 2 + 1, none⟩ (.int .i64 ((b : Int) + 1))).drew.ownsRow w.heap.size 64 2 (.slice (some ⟨g0, 0, none⟩) n c) n (flatX (O.set m (a, b + 1)))) := by rw [hbadd]; exact hst.1
            have HB2 : Hid (Below w.heap.size w (wr.setCell ⟨g0, m * 2 + 1, none⟩ (.int .i64 ((b : Int) + 1))).drew) := below_drewN (HB.out.setCell (p := ⟨g0, m * 2 + 1, none⟩) hg0 _) 1
            have HN2 : Hid ((O.set m (a, b + 1)).length = n) := by unfold Hid; rw [List.length_set]; exact HN.out
            clear hst huz hbadd
            go_wp2
            go_region
            go_wp2
            generalize (wr.setCell ⟨g0, m * 2 + 1, none⟩ (.int .i64 ((b : Int) + 1))).drew = w5 at *
            go_roundw
            case rel => exact ⟨j + 1, _, _, c, n, by omega, by go_num, rfl, by omega, HN2.out, HO2.out, HG.out, HB2.out⟩
            case measure => simp [intOf]; omega
          · have gu : ((u : Int) == (z : Int)) = false := by simp; omega
            have gu2 : (u == z) = false := by simp; omega
            have HP : Hid (Runs lo (j + 1) T (O ++ [(z, 1)])) := by
              have := HRU.out.push HTB.out (fun _ => by rw [HLA.out, HA.out, HBb.out]; have := HU.out; have := HZ.out; omega)
              rw [← HZ.out] at this; exact this
            clear huz
            go_wp2
            go_region
            go_wp2_with (with_reducible refine stopAt 66 ?_)
            unfold Hid
            have HO3 : Hid (((wr.drew).alloc (.cells #[.int .i64 (z : Int), .int .i64 1] 64)).ownsRow w.heap.size 64 2 (.slice (some ⟨g0, 0, none⟩) n c) n (flatX O)) := HO.out.alloc _
            have HB3 : Hid (Below w.heap.size w ((wr.drew).alloc (.cells #[.int .i64 (z : Int), .int .i64 1] 64))) := (below_drewN HB.out _).alloc HB.out.size _
            have hbs : w.heap.size ≤ ((wr.drew).alloc (.cells #[.int .i64 (z : Int), .int .i64 1] 64)).heap.size := HB3.out.size
            refine wpList_append_own_at _ rfl _ _ 41 rfl w.heap.size 64 i0 _ 2 16 Try.underlying41 HI0.out hz0 hz hzb rfl (by decide) _ n (flatX O) rfl HO3.out ⟨wr.heap.size, 0, none⟩ 1 1 (flatX [(z, 1)]) rfl rfl (newsX rfl) flatX_one (by unfold maxLen; omega) (by omega) hbs ?_
            intro v' w5 ho5 hg5 _ _
            rw [← flatX_append] at ho5
            obtain ⟨A', c', rfl, _⟩ := rown_form ho5
            have HO5 := Lib.hid ho5
            have HB5 : Hid (Below w.heap.size w w5) := HB3.out.grown hg5 hbs fun k hk => (HO3.out.lt k hk).1
            have HN5 : Hid ((O ++ [(z, 1)]).length = n + 1) := by unfold Hid; rw [List.length_append, HN.out]; rfl
            obtain ⟨n2, hn2⟩ : ∃ n2, n2 = n + 1 := ⟨_, rfl⟩
            rw [← hn2] at HO5 HN5 ⊢
            have hn2j : n2 ≤ j + 1 := by omega
            clear ho5 hg5 hn2
            go_wp2
            go_roundw
            case rel => exact ⟨j + 1, _, A', c', n2, by omega, by go_num, rfl, hn2j, HN5.out, HO5.out, HP.out, HB5.out⟩
            case measure => simp [intOf]; omega
    · obtain rfl : j = L := by omega
      have gj : decide (j < j) = false := by simp
      have HF : Hid (Runs lo T.length T O) := by unfold Hid; rw [← HL.out]; exact HRU.out
      obtain rfl : O.length = n := HN.out
      go_wp2
      go_ret
      exact ⟨A, c, O, rfl, HO.out, HF.out, HB.out⟩
end Go.Proofs.Ytjpomohfoknjiaa
