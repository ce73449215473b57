/- What the reference's arena answers: the sizes of all grants, and which of them stand. -/
import Derived.Test.YtohhneeliaankaaArLaw
namespace Go.Proofs.Ytohhneeliaankaa
open Go.ChangeShapes Go.WideShapes Go.ChangeAt Go.RowKit

theorem stOf_append : ∀ l m, stOf (l ++ m) = stOf l ++ stOf m
  | [], _ => rfl
  | g :: l, m => by
    show (if g.2.2 then (g.1, g.2.1) :: stOf (l ++ m) else stOf (l ++ m)) = (if g.2.2 then (g.1, g.2.1) :: stOf l else stOf l) ++ stOf m
    rw [stOf_append l m]; split <;> rfl
theorem total_append : ∀ l m, total (l ++ m) = total l + total m
  | [], m => by show total m = 0 + total m; omega
  | q :: l, m => by show q.2 + total (l ++ m) = q.2 + total l + total m; rw [total_append l m]; omega
/-- the words of those that stand -/
def sumOf (l : List (Nat × Nat × Bool)) : Nat := total (stOf l)
theorem sumOf_take (l : List (Nat × Nat × Bool)) {i b n : Nat} {t : Bool} (h : l[i]? = some (b, n, t)) : sumOf (l.take (i + 1)) = sumOf (l.take i) + if t then n else 0 := by
  unfold sumOf
  rw [List.take_add_one, h, stOf_append, total_append]
  congr 1
  cases t <;> rfl
theorem sumOf_take_le (l : List (Nat × Nat × Bool)) (i : Nat) : sumOf (l.take i) ≤ sumOf l := by
  have h : sumOf l = sumOf (l.take i) + sumOf (l.drop i) := by
    unfold sumOf
    rw [← total_append, ← stOf_append, List.take_append_drop]
  omega

def RT (t : TypeId) : Prop := t = 47 ∨ t = 3 ∨ t = 4
def sizes (l : List (Nat × Nat × Bool)) : List Value := l.map fun g => .int .i64 (g.2.1 : Int)
def stands (l : List (Nat × Nat × Bool)) : List Value := l.map fun g => .bool g.2.2
/-- block r is the reference's arena of this room and peak, with the grants l -/
def RAr (B : Nat) (w : World) (r room peak : Nat) (l : List (Nat × Nat × Bool)) : Prop :=
  ∃ vs vt, Row w r 47 [.int .i64 (room : Int), .int .i64 (peak : Int), vs, vt] ∧ w.ownsRow B 3 1 vs l.length (sizes l) ∧ w.ownsRow B 4 1 vt l.length (stands l) ∧ B ≤ r ∧ (sumOf l ≤ room ∧ peak ≤ room ∧ room ≤ 9223372036854775807)
section
variable {B : Nat} {w w' : World} {r room peak : Nat} {l : List (Nat × Nat × Bool)}
theorem RAr.kept {T : TypeId → Prop} (h : RAr B w r room peak l) (hk : Kept (rowsOf T) w w') (h1 : ¬ T 47) (h2 : ¬ T 3) (h3 : ¬ T 4) : RAr B w' r room peak l := by
  obtain ⟨vs, vt, k1, k2, k3, k4⟩ := h
  exact ⟨vs, vt, hk.row k1 h1, ownsRow_kept hk k2 h2, ownsRow_kept hk k3 h3, k4⟩
theorem RAr.below (h : RAr B w r room peak l) (hb : Below w.heap.size w w') : RAr B w' r room peak l := h.kept (T := fun _ => False) (Kept.of_below hb _) id id id
theorem RAr.drewN (h : RAr B w r room peak l) (m : Nat) : RAr B (w.drewN m) r room peak l := h.below (below_drewN (Below.refl _ _) _)
theorem RAr.rows (h : RAr B w r room peak l) (hf : ∀ k t cs, RT t → Row w k t cs → Row w' k t cs) : RAr B w' r room peak l := by
  have ho : ∀ {e : TypeId} {v : Value} {n : Nat} {xs : List Value}, RT e → w.ownsRow B e 1 v n xs → w'.ownsRow B e 1 v n xs := by
    intro e v n xs he hown
    obtain ⟨h1, h2⟩ := hown
    refine ⟨h1, ?_⟩
    rcases h2 with h2 | ⟨g, cap, cur, rfl, hg, hh, q⟩
    · exact .inl h2
    · have hr : Row w g e cur.toList := by unfold Row; simpa using hh
      have := hf g e _ he hr
      exact .inr ⟨g, cap, cur, rfl, hg, by unfold Row at this; simpa using this, q⟩
  obtain ⟨vs, vt, k1, k2, k3, k4⟩ := h
  exact ⟨vs, vt, hf _ _ _ (.inl rfl) k1, ho (.inr (.inl rfl)) k2, ho (.inr (.inr rfl)) k3, k4⟩
end

section
variable {w w' : World} {G : Nat → Prop} {p : Nat} {s : Ar} {T : TypeId → Prop}
theorem Arn.kept (h : Arn w G p s) (hk : Kept (rowsOf T) w w') (h1 : ¬ T 56) (h2 : ¬ T 42) : Arn w' G p s := by
  obtain ⟨h0, ⟨m, hr, hst, hGo⟩, hp, hG, hb⟩ := h
  refine ⟨h0, ⟨m, hk.row hr h1, ?_, hGo⟩, hp, fun k hx => Nat.lt_of_lt_of_le (hG k hx) hk.size, fun q hq => ?_⟩
  · rcases hst with h | ⟨b, rfl, ⟨es, clock, hm, he⟩, hg⟩
    · exact .inl h
    · exact .inr ⟨b, rfl, ⟨es, clock, hk.block b _ hm (fun ⟨_, _, e, _⟩ => by cases e), he⟩, hg⟩
  · obtain ⟨v, hv⟩ := hb q hq
    exact ⟨v, hk.row hv h2⟩
theorem Run.kept {B : Nat} {w0 : World} {av : Value} {gs os : List (Nat × Nat × Bool)} (h : Run B w0 w G p s av gs os) (hk : Kept (rowsOf T) w w') (h1 : ¬ T 56) (h2 : ¬ T 42) (h3 : ¬ T 31) (hb : Below B w w') : Run B w0 w' G p s av gs os :=
  ⟨h.1.keep (h.arn.kept hk h1 h2) fun _ _ hr => hk.row hr h2, h.2.1.keep fun _ _ hr => hk.row hr h3, h.2.2.1, h.2.2.2.1, h.bel.trans hb⟩
theorem Run.used {B : Nat} {w0 : World} {av : Value} {gs os : List (Nat × Nat × Bool)} (h : Run B w0 w G p s av gs os) : s.used = sumOf gs := by
  have h1 := h.arn.sound.used
  rw [h.play.2.1] at h1; exact h1
end
theorem rnew_any (B : Nat) (room : Int) (w : World) (hB : B ≤ w.heap.size) (h1 : -9223372036854775808 ≤ room) (h2 : room ≤ 9223372036854775807) :
    Calls Try.prog 9 #[.int .i64 room] w fun e w' => e = .returned (.pointer (some ⟨w.heap.size, 0, none⟩)) ∧ RAr B w' w.heap.size room.toNat 0 [] ∧ Below w.heap.size w w' := by
  have hend : ∀ n : Nat, n ≤ 9223372036854775807 → RAr B (w.alloc (.cells #[.int .i64 (n : Int), .int .i64 0, .slice none 0 0, .slice none 0 0] 47)) w.heap.size n 0 [] := fun n hn =>
    ⟨_, _, heap_alloc_new _ _, World.ownsRow_nil _ _ _ _, World.ownsRow_nil _ _ _ _, hB, Nat.zero_le _, Nat.zero_le _, hn⟩
  have HEND := Lib.hid hend
  have HB := fun o => Lib.hid ((Below.refl _ w).alloc (Nat.le_refl _) o)
  clear hend
  by_cases h : room < 0
  · have g : decide (room < 0) = true := by simpa using h
    go_enter Try.func9, Try.ntmps9
    go_wp2
    go_ret
    have e : room.toNat = 0 := by omega
    rw [e]
    exact ⟨rfl, HEND.out 0 (by omega), (HB _).out⟩
  · have g : decide (room < 0) = false := by simpa using h
    go_enter Try.func9, Try.ntmps9
    go_wp2
    go_ret
    have e : room = (room.toNat : Int) := by omega
    have hh := HEND.out room.toNat (by omega)
    rw [← e] at hh
    exact ⟨rfl, hh, (HB _).out⟩
set_option maxRecDepth 100000 in
theorem rused_any (B r room peak : Nat) (l : List (Nat × Nat × Bool)) (w : World) (h : RAr B w r room peak l) :
    Calls Try.prog 16 #[.pointer (some ⟨r, 0, none⟩)] w fun e w' => e = .returned (.int .i64 (sumOf l : Nat)) ∧ w' = w := by
  obtain ⟨vs, vt, hr, hs, ht, _, hsum, hpk, hroom⟩ := h
  have c2 : w.cell? ⟨r, 2, none⟩ = some vs := hr.cell 2
  have c3 : w.cell? ⟨r, 3, none⟩ = some vt := hr.cell 3
  obtain ⟨A, c, rfl, hc⟩ := own_form hs
  obtain ⟨A2, c', rfl, hc'⟩ := own_form ht
  have HS := Lib.hid hs
  have HT := Lib.hid ht
  have HSUM := Lib.hid hsum
  obtain ⟨L, hL⟩ : ∃ L, l.length = L := ⟨_, rfl⟩
  have HL := Lib.hid hL
  rw [hL] at c2 c3 hc hc'
  have hL63 : L ≤ 9223372036854775807 := by
    have := hs.2
    rcases this with ⟨_, h0⟩ | ⟨g, cap, cur, hv, _, _, hcap, hm, _⟩
    · omega
    · unfold maxLen at hm; omega
  clear hr hs ht hsum hpk hL
  go_enter Try.func16, Try.ntmps16
  go_wp2
  go_loopw [3, 4] (fun nv iv wr => ∃ i s : Nat, i ≤ L ∧ iv = .int .i64 (i : Int) ∧ nv = .int .i64 (s : Int) ∧ Hid (s = sumOf (l.take i)) ∧ wr = w) (fun _ iv _ => L - (intOf iv).toNat)
  case atStart => exact ⟨0, 0, by omega, rfl, rfl, rfl, by trivial⟩
  case round =>
    obtain ⟨i, s, hi, rfl, rfl, HSI, rfl⟩ := hrel
    by_cases hlt : i < L
    · have g0 : decide (i < L) = true := by simpa using hlt
      have hl := HL.out
      obtain ⟨⟨b, n, t⟩, hq⟩ : ∃ q, l[i]? = some q := ⟨_, List.getElem?_eq_getElem (by omega)⟩
      obtain ⟨gs, cs, es, hcs⟩ := own_cells HS.out (by omega)
      obtain ⟨gt, ct, et, hct⟩ := own_cells HT.out (by omega)
      injection es with es1 es2 es3
      injection et with et1 et2 et3
      have d1 : wr.cell? ⟨gs, i, none⟩ = some (.int .i64 (n : Int)) := by rw [hcs i (by omega)]; unfold sizes; rw [List.getElem?_map, hq]; rfl
      have d2 : wr.cell? ⟨gt, i, none⟩ = some (.bool t) := by rw [hct i (by omega)]; unfold stands; rw [List.getElem?_map, hq]; rfl
      have hstep := sumOf_take l hq
      have hle := sumOf_take_le l (i + 1)
      have hsi := HSI.out
      have hsum := HSUM.out
      have hj0 : (0 : Int) ≤ (i : Int) := by omega
      have hj1 : (i : Int) < (L : Int) := by omega
      subst es1 et1 es3 et3
      clear hl es2 et2 hcs hct hq
      cases t
      · rw [if_neg (by decide)] at hstep
        have HST : Hid (s = sumOf (l.take (i + 1))) := by unfold Hid; omega
        clear hstep hle hsi hsum
        go_wp2
        go_roundw
        case rel => exact ⟨i + 1, s, by omega, by go_num, rfl, HST.out, by trivial⟩
        case measure => simp [intOf]; omega
      · rw [if_pos rfl] at hstep
        obtain ⟨u, hu⟩ : ∃ u, s + n = u := ⟨_, rfl⟩
        have HST : Hid (u = sumOf (l.take (i + 1))) := by unfold Hid; omega
        have hadd : (s : Int) + (n : Int) = (u : Int) := by omega
        have h1 : (-9223372036854775808 : Int) ≤ (u : Int) := by omega
        have h2 : (u : Int) ≤ 9223372036854775807 := by omega
        clear hstep hle hsi hsum hu
        go_wp2
        go_roundw
        case rel => exact ⟨i + 1, u, by omega, by go_num, by go_num, HST.out, by trivial⟩
        case measure => simp [intOf]; omega
    · have g0 : decide (i < L) = false := by simpa using hlt
      have hsi := HSI.out
      rw [List.take_of_length_le (by have := HL.out; omega)] at hsi
      have HSS := Lib.hid hsi
      clear hsi HSI
      go_wp2
      go_ret
      exact ⟨by rw [HSS.out]; rfl, rfl⟩
theorem rused_q {B r room peak : Nat} {l : List (Nat × Nat × Bool)} {w : World} (h : RAr B w r room peak l) (q : Nat) :
    Calls Try.prog 16 #[.pointer (some ⟨r, 0, none⟩)] (w.drewN q) fun e w' => e = .returned (.int .i64 (sumOf l : Nat)) ∧ ∃ k, w' = w.drewN k :=
  Calls.quiet_of_same ((rused_any B r room peak l _ (h.drewN q)).mono fun _ _ h => h)

theorem rgrant_no (B r room peak : Nat) (l : List (Nat × Nat × Bool)) (n : Int) (w : World) (h : RAr B w r room peak l) (hn : n < 0 ∨ ((room - sumOf l : Nat) : Int) < n) :
    Calls Try.prog 11 #[.pointer (some ⟨r, 0, none⟩), .int .i64 n] w fun e w' => e = .returned (.tuple #[.int .i64 (-1), .int .i64 (if n < 0 then 1 else 7)]) ∧ ∃ m, w' = w.drewN m := by
  obtain ⟨vs, vt, hr, _, _, _, hsum, hpk, hroom⟩ := id h
  have c0 : w.cell? ⟨r, 0, none⟩ = some (.int .i64 (room : Int)) := hr.cell 0
  have HQ := Lib.hid (rused_q h)
  by_cases h1 : n < 0
  · rw [if_pos h1]
    have g1 : decide (n < 0) = true := by simpa using h1
    clear hn
    go_enter Try.func11, Try.ntmps11
    go_wp2
    go_ret2
    exact ⟨rfl, 0, rfl⟩
  · rw [if_neg h1]
    have g1 : decide (n < 0) = false := by simpa using h1
    obtain ⟨us, hus⟩ : ∃ x, sumOf l = x := ⟨_, rfl⟩
    obtain ⟨le, hle⟩ : ∃ x, room - us = x := ⟨_, rfl⟩
    have hsub : (room : Int) - (us : Int) = (le : Int) := by omega
    have x1 : (-9223372036854775808 : Int) ≤ (le : Int) := by omega
    have x2 : (le : Int) ≤ 9223372036854775807 := by omega
    have g2 : decide (n > (le : Int)) = true := by simp; omega
    rw [hus] at HQ
    clear hn hus hle h1 hr hsum hpk hroom
    go_enter Try.func11, Try.ntmps11
    go_wp2
    go_quiet (with_reducible first | exact HQ.out _)
    go_wp2
    go_ret2
    exact ⟨rfl, _, rfl⟩
theorem infoI : (Try.prog.info? 3).map (fun i => (i.zero, i.size, i.bytes)) = some (some (.int .i64 0), 1, 8) := by kernel_rfl
theorem infoB : (Try.prog.info? 4).map (fun i => (i.zero, i.size, i.bytes)) = some (some (.bool false), 1, 1) := by kernel_rfl
set_option maxHeartbeats 1600000 in
set_option maxRecDepth 100000 in
theorem rgrant_any (B r room peak : Nat) (l : List (Nat × Nat × Bool)) (b n : Nat) (w : World) (h : RAr B w r room peak l) (hB : B ≤ w.heap.size) (hn : n ≤ room - sumOf l) (hl : l.length ≤ 1000) :
    Calls Try.prog 11 #[.pointer (some ⟨r, 0, none⟩), .int .i64 (n : Int)] w fun e w' => e = .returned (.tuple #[.int .i64 (l.length : Int), .int .i64 0]) ∧
      RAr B w' r room (if peak < sumOf l + n then sumOf l + n else peak) (l ++ [(b, n, true)]) ∧ Kept (rowsOf RT) w w' ∧ Below B w w' := by
  obtain ⟨vs, vt, hr, hs, ht, hBr, hsum, hpk, hroom⟩ := id h
  have c0 : w.cell? ⟨r, 0, none⟩ = some (.int .i64 (room : Int)) := hr.cell 0
  have HQ := Lib.hid (rused_q h)
  have g1 : decide ((n : Int) < 0) = false := by simp
  obtain ⟨us, hus⟩ : ∃ x, sumOf l = x := ⟨_, rfl⟩
  obtain ⟨le, hle⟩ : ∃ x, room - us = x := ⟨_, rfl⟩
  have hsub : (room : Int) - (us : Int) = (le : Int) := by omega
  have x1 : (-9223372036854775808 : Int) ≤ (le : Int) := by omega
  have x2 : (le : Int) ≤ 9223372036854775807 := by omega
  have g2 : decide (le < n) = false := by simp; omega
  rw [hus] at HQ
  obtain ⟨A, c, rfl, hc⟩ := own_form hs
  obtain ⟨A2, c', rfl, hc'⟩ := own_form ht
  obtain ⟨L, hL⟩ : ∃ L, l.length = L := ⟨_, rfl⟩
  obtain ⟨u2, hu2⟩ : ∃ x, us + n = x := ⟨_, rfl⟩
  have HU2' := Lib.hid hu2
  have hnew : sumOf (l ++ [(b, n, true)]) = us + n := by unfold sumOf at hus ⊢; rw [stOf_snoc, total_snoc, hus]
  have HS := Lib.hid hs
  have HT := Lib.hid ht
  have HL := Lib.hid hL
  have HR := Lib.hid hr
  have HNEW := Lib.hid hnew
  have HLE : Hid (us + n ≤ room) := by unfold Hid; omega
  have HP := Lib.hid hpk
  have HRO := Lib.hid hroom
  obtain ⟨i0, hi0, hz0, hz1, hz2⟩ := info_parts infoI
  obtain ⟨j0, hj0, hy0, hy1, hy2⟩ := info_parts infoB
  rw [hL] at hl hc hc'
  rw [hus, hL, hu2]
  clear hs ht hL hr hnew hus hle hn hsum hpk hroom h hu2
  go_enter Try.func11, Try.ntmps11
  go_wp2
  go_quiet (with_reducible first | exact HQ.out _)
  -- what is known of the world behind the draw
  have hsn := ownsRow_kept (T := fun _ => False) (Kept.of_below (below_drewN (Below.refl _ w) nq) _) HS.out id
  have htn := ownsRow_kept (T := fun _ => False) (Kept.of_below (below_drewN (Below.refl _ w) nq) _) HT.out id
  have hkn : Kept (rowsOf RT) w (w.drewN nq) := (Kept.refl _ w).drewN nq
  have hbn : Below B w (w.drewN nq) := below_drewN (Below.refl _ w) nq
  have hrn := HR.out.drewN nq
  have hzn : w.heap.size ≤ (w.drewN nq).heap.size := Nat.le_refl _
  generalize w.drewN nq = w1 at *
  rw [HL.out] at hsn htn hrn
  have c2 : w1.cell? ⟨r, 2, none⟩ = some (.slice A L c) := hrn.cell 2
  have hr1 : r < w1.heap.size := hrn.lt
  have a1 := ownsRow_kept (T := fun _ => False) (Kept.of_below ((Below.refl _ w1).alloc (Nat.le_refl _) (.cells #[.int .i64 (n : Int)] 3)) _) hsn id
  have a2 := ownsRow_kept (T := fun _ => False) (Kept.of_below ((Below.refl _ w1).alloc (Nat.le_refl _) (.cells #[.int .i64 (n : Int)] 3)) _) htn id
  have a3 : Row (w1.alloc (.cells #[.int .i64 (n : Int)] 3)) w1.heap.size 3 [.int .i64 (n : Int)] := heap_alloc_new _ _
  have a4 := hrn.alloc (.cells #[.int .i64 (n : Int)] 3)
  have a5 := hkn.trans (Kept.of_below ((Below.refl _ w1).alloc (Nat.le_refl _) (.cells #[.int .i64 (n : Int)] 3)) _)
  have a6 : Below B w (w1.alloc (.cells #[.int .i64 (n : Int)] 3)) := hbn.alloc (by omega) _
  have a7 : B ≤ (w1.alloc (.cells #[.int .i64 (n : Int)] 3)).heap.size := by have := a6.size; omega
  have A1 := Lib.hid a1
  have A2' := Lib.hid a2
  have A3 := Lib.hid (a3.cell 0)
  have A4 := Lib.hid a4
  have A5 := Lib.hid a5
  have A6 := Lib.hid a6
  have A7 := Lib.hid a7
  clear a1 a2 a3 a4 a5 a6 a7 hsn htn hrn hkn hbn HS HT HR c0 hzn
  go_wp2_with (with_reducible refine stopAt 24 ?_)
  unfold Hid
  refine wpList_append_list3 _ rfl _ _ 44 rfl B 3 i0 (.int .i64 0) 8 Try.underlying44 hi0 hz0 hz1 hz2 rfl _ L _ rfl A1.out _ 1 _ [.int .i64 (n : Int)] rfl rfl (fun _ => ⟨_, rfl, fun j u hj => ?_⟩) (fun u hu => ?_) (by unfold maxLen; omega) (by omega) A7.out ?_
  · match j, hj with
    | 0, hj => simp at hj; subst hj; rw [add_row]; exact A3.out
  · have : u = .int .i64 (n : Int) := by simpa using hu
    subst this; rfl
  intro v2 w2 o2 b2 f2
  have k2 : Kept (rowsOf RT) w w2 := A5.out.append A1.out (.inr (.inl rfl)) b2 f2
  have k2' := (Kept.refl (rowsOf fun t => t = 3) _).append A1.out rfl b2 f2
  have r2 := k2'.row A4.out (by decide)
  have t2 := ownsRow_kept k2' A2'.out (by decide)
  have b2' := A6.out.trans b2
  have K2 := Lib.hid (k2.set (p := ⟨r, 2, none⟩) r2 (.inl rfl) v2)
  have R2 := Lib.hid (r2.set 2 v2)
  have T2 := Lib.hid (ownsRow_set t2 (p := ⟨r, 2, none⟩) r2 (by decide) v2)
  have O2 := Lib.hid (ownsRow_set o2 (p := ⟨r, 2, none⟩) r2 (by decide) v2)
  have B2 := Lib.hid (b2'.setCell (p := ⟨r, 2, none⟩) hBr v2)
  have fr2 := r2.free 2
  have e2 : w2.cell? ⟨r, 2, none⟩ = some (.slice A L c) := r2.cell 2
  have e3 : w2.cell? ⟨r, 3, none⟩ = some (.slice A2 L c') := r2.cell 3
  obtain ⟨A4', c4, rfl, hc4⟩ := own_form o2
  have hz2' := b2'.size
  clear o2 b2 f2 k2 k2' r2 t2 b2' A1 A2' A3 A4 A5 A6 A7 hi0 hz0 hz1 hz2 c2
  go_wp2_with (with_reducible refine stopAt 33 ?_)
  have hzw : (w2.setCell ⟨r, 2, none⟩ (.slice A4' (L + 1) c4)).heap.size = w2.heap.size := by simp
  generalize w2.setCell ⟨r, 2, none⟩ (.slice A4' (L + 1) c4) = w3 at *
  have ba := (Below.refl _ w3).alloc (Nat.le_refl _) (.cells #[.bool true] 4)
  have A1 := Lib.hid (ownsRow_kept (T := fun _ => False) (Kept.of_below ba _) T2.out id)
  have A2' := Lib.hid (ownsRow_kept (T := fun _ => False) (Kept.of_below ba _) O2.out id)
  have a3 : Row (w3.alloc (.cells #[.bool true] 4)) w3.heap.size 4 [.bool true] := heap_alloc_new _ _
  have a3c := a3.cell 0
  rw [hzw] at a3c
  have A3 := Lib.hid a3c
  have A4 := Lib.hid (R2.out.alloc (.cells #[.bool true] 4))
  have A5 := Lib.hid (K2.out.trans (Kept.of_below ba _))
  have A6 : Hid (Below B w (w3.alloc (.cells #[.bool true] 4))) := B2.out.alloc (by omega) _
  have A7 : Hid (B ≤ (w3.alloc (.cells #[.bool true] 4)).heap.size) := by have := A6.out.size; unfold Hid; omega
  clear a3 a3c ba K2 R2 T2 O2 B2 fr2 e2 e3
  unfold Hid
  refine wpList_append_list3 _ rfl _ _ 45 rfl B 4 j0 (.bool false) 1 Try.underlying45 hj0 hy0 hy1 hy2 rfl _ L _ rfl A1.out _ 1 _ [.bool true] rfl rfl (fun _ => ⟨_, rfl, fun j u hj => ?_⟩) (fun u hu => ?_) (by unfold maxLen; omega) (by omega) A7.out ?_
  · match j, hj with
    | 0, hj => simp at hj; subst hj; rw [add_row]; exact A3.out
  · have : u = .bool true := by simpa using hu
    subst this; rfl
  intro v4 w4 o4 b4 f4
  have k4 : Kept (rowsOf RT) w w4 := A5.out.append A1.out (.inr (.inr rfl)) b4 f4
  have k4' := (Kept.refl (rowsOf fun t => t = 4) _).append A1.out rfl b4 f4
  have r4 := k4'.row A4.out (by decide)
  have t4 := ownsRow_kept k4' A2'.out (by decide)
  have b4' := A6.out.trans b4
  have K5 := Lib.hid (k4.set (p := ⟨r, 3, none⟩) r4 (.inl rfl) v4)
  have r5 := r4.set 3 v4
  have s5 := ownsRow_set t4 (p := ⟨r, 3, none⟩) r4 (by decide) v4
  have t5 := ownsRow_set o4 (p := ⟨r, 3, none⟩) r4 (by decide) v4
  have B5 := Lib.hid (b4'.setCell (p := ⟨r, 3, none⟩) hBr v4)
  have fr3 := r4.free 3
  have e3 : w4.cell? ⟨r, 3, none⟩ = some (.slice A2 L c') := r4.cell 3
  obtain ⟨A6', c6, rfl, hc6⟩ := own_form o4
  have hu2 := HU2'.out
  have hR5 : RAr B (w4.setCell ⟨r, 3, none⟩ (.slice A6' (L + 1) c6)) r room peak (l ++ [(b, n, true)]) := by
    refine ⟨.slice A4' (L + 1) c4, .slice A6' (L + 1) c6, r5, ?_, ?_, hBr, by rw [HNEW.out]; exact HLE.out, HP.out, HRO.out⟩
    · have e : (l ++ [(b, n, true)]).length = L + 1 := by simp [HL.out]
      rw [e]; unfold sizes; rw [List.map_append]; exact s5
    · have e : (l ++ [(b, n, true)]).length = L + 1 := by simp [HL.out]
      rw [e]; unfold stands; rw [List.map_append]; exact t5
  have R5 := Lib.hid hR5
  have HR5 := Lib.hid r5
  have HNEW2 : Hid (sumOf (l ++ [(b, n, true)]) = u2) := HNEW.out.trans hu2
  have HLE2 : Hid (u2 ≤ room) := by have := HLE.out; unfold Hid; omega
  have hx3 : (-9223372036854775808 : Int) ≤ (u2 : Int) := by omega
  clear o4 b4 f4 k4 k4' r4 t4 b4' A1 A2' A3 A4 A5 A6 A7 hR5 r5 s5 t5 hj0 hy0 hy1 hy2 hu2 HQ hsub x1 x2 g2
  go_wp2
  clear e3 fr3
  generalize w4.setCell ⟨r, 3, none⟩ (.slice A6' (L + 1) c6) = w5 at *
  have HQ2 := Lib.hid fun q => rused_q R5.out q
  have HU2 := Lib.hid (rused_any B r room peak _ w5 R5.out)
  rw [HNEW2.out] at HQ2 HU2
  have e1 : w5.cell? ⟨r, 1, none⟩ = some (.int .i64 (peak : Int)) := HR5.out.cell 1
  have e2 : w5.cell? ⟨r, 2, none⟩ = some (.slice A4' (L + 1) c4) := HR5.out.cell 2
  have fr1 := HR5.out.free 1
  have hL1 : (((L + 1 : Nat) : Int)) - 1 = (L : Int) := by omega
  by_cases hpk : peak < u2
  · have g : decide (peak < u2) = true := by simpa using hpk
    go_quiet (with_reducible first | exact HQ2.out _)
    obtain ⟨q, hq⟩ : ∃ q, q = nq := ⟨_, rfl⟩
    have hu3 := rused_any B r room peak _ (w5.drewN nq) (R5.out.drewN nq)
    rw [HNEW2.out] at hu3
    have r6 := HR5.out.drewN nq
    have k6 := K5.out.drewN nq
    have b6 := below_drewN B5.out nq
    have a6 := R5.out.drewN nq
    have e1' : (w5.drewN nq).cell? ⟨r, 1, none⟩ = some (.int .i64 (peak : Int)) := e1
    have e2' : (w5.drewN nq).cell? ⟨r, 2, none⟩ = some (.slice A4' (L + 1) c4) := e2
    have fr1' : (w5.drewN nq).frozen? ⟨r, 1, none⟩ = false := fr1
    generalize w5.drewN nq = w6 at *
    have r7 := r6.set 1 (.int .i64 (u2 : Int))
    have k7 := k6.set (p := ⟨r, 1, none⟩) r6 (.inl rfl) (.int .i64 (u2 : Int))
    have b7 := b6.setCell (p := ⟨r, 1, none⟩) hBr (.int .i64 (u2 : Int))
    have a7 : RAr B (w6.setCell ⟨r, 1, none⟩ (.int .i64 (u2 : Int))) r room u2 (l ++ [(b, n, true)]) := by
      obtain ⟨vs, vt, k1, k2, k3, k4, k5, _, k6⟩ := a6
      have e : vs = .slice A4' (L + 1) c4 ∧ vt = .slice A6' (L + 1) c6 := by
        unfold Row at k1 r6; rw [k1] at r6; injection r6 with r6; injection r6 with r6; simpa using r6
      exact ⟨vs, vt, by rw [e.1, e.2]; exact r7, ownsRow_set k2 (p := ⟨r, 1, none⟩) k1 (by decide) _, ownsRow_set k3 (p := ⟨r, 1, none⟩) k1 (by decide) _, k4, k5, HLE2.out, k6⟩
    have HA7 := Lib.hid a7
    have HK7 := Lib.hid k7
    have HB7 := Lib.hid b7
    clear r6 k6 b6 a6 r7 k7 b7 a7 e1 e2 fr1
    go_wp2_with fail
    refine hu3.mono ?_; rintro e w8 ⟨rfl, rfl⟩
    go_wp2
    go_ret2
    exact ⟨rfl, HA7.out, HK7.out, HB7.out⟩
  · have g : decide (peak < u2) = false := by simpa using hpk
    go_quiet (with_reducible first | exact HQ2.out _)
    go_wp2
    go_ret2
    exact ⟨rfl, R5.out.drewN _, K5.out.drewN _, below_drewN B5.out _⟩
theorem stOf_set_le : ∀ (l : List (Nat × Nat × Bool)) (k b n : Nat), total (stOf (l.set k (b, n, false))) ≤ total (stOf l)
  | [], _, _, _ => Nat.le_refl _
  | g :: l, 0, b, n => by
    show total (stOf l) ≤ total (if g.2.2 then (g.1, g.2.1) :: stOf l else stOf l)
    split
    · show total (stOf l) ≤ g.2.1 + total (stOf l); omega
    · exact Nat.le_refl _
  | g :: l, k + 1, b, n => by
    have ih := stOf_set_le l k b n
    show total (if g.2.2 then (g.1, g.2.1) :: stOf (l.set k (b, n, false)) else stOf (l.set k (b, n, false))) ≤ total (if g.2.2 then (g.1, g.2.1) :: stOf l else stOf l)
    split
    · show g.2.1 + _ ≤ g.2.1 + _; omega
    · exact ih
theorem rrelease_any (B r room peak : Nat) (l : List (Nat × Nat × Bool)) (k b n : Nat) (t : Bool) (w : World) (h : RAr B w r room peak l) (hk : l[k]? = some (b, n, t)) :
    Calls Try.prog 14 #[.pointer (some ⟨r, 0, none⟩), .int .i64 (k : Int)] w fun e w' => e = .returned (.bool t) ∧
      RAr B w' r room peak (l.set k (b, n, false)) ∧ Kept (rowsOf RT) w w' ∧ Below B w w' := by
  obtain ⟨vs, vt, hr, hs, ht, hBr, hsum, hpk, hroom⟩ := id h
  have hkl := (List.getElem?_eq_some_iff.1 hk).1
  have c2 : w.cell? ⟨r, 2, none⟩ = some vs := hr.cell 2
  have c3 : w.cell? ⟨r, 3, none⟩ = some vt := hr.cell 3
  obtain ⟨A, c, rfl, hc⟩ := own_form hs
  obtain ⟨g, ct, cs, rfl, hBg, hrg, hcell, hfr, hst⟩ := own_store ht hkl (.bool false)
  have d1 : w.cell? ⟨g, k, none⟩ = some (.bool t) := by rw [hcell]; unfold stands; rw [List.getElem?_map, hk]; rfl
  have g1 : decide ((k : Int) < 0) = false := by simp
  have g2 : decide (l.length ≤ k) = false := by simp; omega
  have g3 : decide (k ≥ l.length) = false := by simp; omega
  have hj0 : (0 : Int) ≤ (k : Int) := by omega
  have hj1 : (k : Int) < (l.length : Int) := by omega
  have hsz : sizes (l.set k (b, n, false)) = sizes l := by
    unfold sizes; rw [List.map_set]
    apply List.ext_getElem?; intro j; rw [List.getElem?_set]
    by_cases hj : k = j
    · subst hj; rw [if_pos rfl, if_pos (by simpa using hkl), List.getElem?_map, hk]; rfl
    · rw [if_neg hj]
  have hsd : stands (l.set k (b, n, false)) = (stands l).set k (.bool false) := by unfold stands; rw [List.map_set]
  have hrg' : (4 : TypeId) ≠ 47 := by decide
  have hle : sumOf (l.set k (b, n, false)) ≤ room := by
    refine Nat.le_trans ?_ hsum
    unfold sumOf
    exact stOf_set_le l k b n
  have hend : RAr B (w.setCell ⟨g, k, none⟩ (.bool false)) r room peak (l.set k (b, n, false)) := by
    refine ⟨.slice A l.length c, .slice (some ⟨g, 0, none⟩) l.length ct, hr.far (p := ⟨g, k, none⟩) (fun e => ?_) _, ?_, ?_, hBr, hle, hpk, hroom⟩
    · have e' : r = g := e
      subst e'; exact absurd (hrg.typed hr) (by decide)
    · rw [List.length_set, hsz]; exact ownsRow_set hs (p := ⟨g, k, none⟩) hrg (by decide) _
    · rw [List.length_set, hsd]; exact hst
  have HEND := Lib.hid hend
  have HK : Hid (Kept (rowsOf RT) w (w.setCell ⟨g, k, none⟩ (.bool false))) := (Kept.refl _ w).set (p := ⟨g, k, none⟩) hrg (.inr (.inr rfl)) _
  have HB : Hid (Below B w (w.setCell ⟨g, k, none⟩ (.bool false))) := (Below.refl B w).setCell (p := ⟨g, k, none⟩) hBg _
  have HW := Lib.hid h
  have HKK := Lib.hid hk
  clear hr hs ht hsum hpk hroom hc hrg hcell hst hsz hsd hle hend h hk
  cases t
  · go_enter Try.func14, Try.ntmps14
    go_wp2
    go_ret
    rw [set_same l HKK.out]
    exact ⟨rfl, HW.out, Kept.refl _ _, Below.refl _ _⟩
  · go_enter Try.func14, Try.ntmps14
    go_wp2
    go_ret
    exact ⟨rfl, HEND.out, HK.out, HB.out⟩
end Go.Proofs.Ytohhneeliaankaa
