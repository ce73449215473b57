/- slices.Replace of extents, what comes in their place lying elsewhere. -/
import Derived.Test.YtbkgpilmgllkiaaSpIns
namespace Go.Proofs.Ytbkgpilmgllkiaa
open Go.ChangeShapes Go.WideShapes Go.ChangeAt Go.RowKit

set_option maxHeartbeats 2000000 in
set_option maxRecDepth 100000 in
/-- nothing is taken away -/
theorem replace_none (w : World) {v u : Value} {n m i : Nat} {l M : List Ex} (h : w.ownsRow 0 98 2 v n (flatX l)) (hv : w.ownsRow 0 98 2 u m (flatX M)) (hne : ∀ k, v.ownBlock = some k → u.ownBlock ≠ some k) (hi : i ≤ n) (hm : 0 < m) (hbig : n + m ≤ 4000000) :
    Calls Try.prog 81 #[v, .int .i64 i, .int .i64 i, u] w (Got w v (l.take i ++ M ++ l.drop i)) := by
  obtain ⟨i0, hi0, hz0, hz, hzb⟩ := ext_info
  have hins := insert_any w h hv hne hi hm hbig
  obtain ⟨R, hR⟩ : ∃ R, R = l.take i ++ M ++ l.drop i := ⟨_, rfl⟩
  rw [← hR] at hins ⊢
  obtain ⟨A, c, rfl, hnc, hcm, hl⟩ := own2_form h
  obtain ⟨B, d, rfl, hmd, hdm, hlM⟩ := own2_form hv
  have hs1 := fun w' k k' => run_mid (P := Try.prog) w' 99 98 i0 Try.underlying99 hi0 hz A n c i i (Nat.le_refl _) (by omega) k k' (i : Int) (i : Int) rfl rfl
  have HINS := Lib.hid hins
  clear h hv hR hl hlM hi0 hins
  go_enter Try.func81, Try.ntmps81
  go_wp2_with fail
  refine HINS.out.mono ?_
  rintro e w2 ⟨v', rfl, ho, hf, hk⟩
  obtain ⟨A', c', rfl, _, _, _⟩ := own2_form ho
  have HG : Hid (Got w (.slice A n c) R (.returned (.slice A' R.length c')) w2) := ⟨_, rfl, ho, hf, hk⟩
  clear ho hf hk
  go_wp2
  go_ret
  exact HG.out

set_option maxHeartbeats 2000000 in
set_option maxRecDepth 100000 in
/-- all from i on is taken away; there is room -/
theorem replace_end_room (w : World) {g cap n m d i : Nat} {l M : List Ex} {cur : List Value} {B : Option Addr} (h : Own2 w g cap n l cur) (hv : w.ownsRow 0 98 2 (.slice B m d) m (flatX M)) (hi : i < n) (hroom : i + m ≤ cap) :
    Calls Try.prog 81 #[.slice (some ⟨g, 0, none⟩) n cap, .int .i64 i, .int .i64 n, .slice B m d] w (Got w (.slice (some ⟨g, 0, none⟩) n cap) (l.take i ++ M)) := by
  obtain ⟨i0, hi0, hz0, hz, hzb⟩ := ext_info
  obtain ⟨R, hR⟩ : ∃ R, R = l.take i ++ M := ⟨_, rfl⟩
  rw [← hR]
  obtain ⟨tot, htot⟩ : ∃ t : Nat, t = i + m := ⟨_, rfl⟩
  have hcap := h.max
  have hnc := h.le
  have hlen := h.len
  have hsz := h.size
  have hlM : M.length = m := by obtain ⟨_, _, _, _, _, h1⟩ := own2_form hv; exact h1
  have hfl : (flatX M).length = m * 2 := by rw [flatX_length, hlM]
  have hg1 : ¬ ((i : Int) = (n : Int)) := by omega
  have hs1 := fun w' k k' => run_mid (P := Try.prog) w' 99 98 i0 Try.underlying99 hi0 hz (some ⟨g, 0, none⟩) n cap i n (by omega) (by omega) k k' (i : Int) (n : Int) rfl rfl
  have hs2 := fun w' k => run_head (P := Try.prog) w' 99 98 i0 Try.underlying99 hi0 (some ⟨g, 0, none⟩) n cap i (by omega) k (i : Int) rfl
  have hfit : i * 2 + (flatX M).length ≤ cur.length := by rw [hfl, hsz]; omega
  have hown : ∀ (W : World) (c1 : List Value), Row W g 98 c1 → c1.length = (splice cur (i * 2) (flatX M)).length → c1.take (tot * 2) = (splice cur (i * 2) (flatX M)).take (tot * 2) → Own2 W g cap tot R c1 := fun W c1 h1 h2 h3 => by
    refine ⟨h1, by rw [h2, splice_length _ _ _ hfit, hsz], by omega, hcap, ?_, by rw [hR, List.length_append, List.length_take, hlen, hlM]; omega⟩
    rw [h3, hR, flatX_append, flatX_take, ← h.cells, List.take_take, Nat.min_eq_left (by omega)]
    unfold splice
    rw [← List.append_assoc, List.take_append_of_le_length (by rw [List.length_append, List.length_take, hfl]; omega)]
    exact List.take_of_length_le (by rw [List.length_append, List.length_take, hfl]; omega)
  have HO := Lib.hid hown
  have HSRC : Hid (0 < m → ∃ ad, B = some ad ∧ ∀ j v, (flatX M)[j]? = some v → w.cell? (ad.add j) = some v) := own2_src hv
  have HFL := Lib.hid hfl
  have HFIT := Lib.hid hfit
  have H := Lib.hid h
  have HI0 := Lib.hid hi0
  have HT := Lib.hid htot
  have HSP : Hid ((splice cur (i * 2) (flatX M)).length = cap * 2) := (splice_length _ _ _ hfit).trans hsz
  by_cases hlt : tot < n
  · have hg2 : decide ((tot : Int) < (n : Int)) = true := by simp; omega
    have hg3 : decide (tot < n) = true := by simp; omega
    have hs3 := fun w' k => run_tail (P := Try.prog) w' 99 98 i0 Try.underlying99 hi0 hz (some ⟨g, 0, none⟩) n cap tot (by omega) k (tot : Int) rfl
    have ht3 := tailA_lt (g := g) (off := 0) (i := tot) (cap := cap) (sz := 2) (by omega)
    rw [Nat.zero_add] at ht3
    rw [ht3] at hs3
    clear hown hsz hlen hlM hfl hR hi0 h hv hfit ht3 htot
    go_enter Try.func81, Try.ntmps81
    go_wp2_with (with_reducible refine stopAt 34 ?_)
    unfold Hid
    refine wpList_append_row_room rfl _ _ 99 rfl 98 i0 Try.underlying99 HI0.out hz g i cap rfl cur H.out.row B m d rfl (flatX M) HFL.out HSRC.out flatX_one hroom HFIT.out ?_
    rw [← HT.out]
    intro w2 hr2 hf2
    go_wp2_with (with_reducible refine stopClear ?_)
    unfold Hid
    refine wpList_clear_rows rfl _ 99 rfl 98 _ (sz := 2) Try.underlying99 ext_zero rfl (by decide) (some ⟨g, tot * 2, none⟩) (n - tot) (cap - tot) rfl g (tot * 2) _ 98 hr2.out (fun _ => rfl) (by have := HSP.out; omega) ?_
    intro w3 c3 hr3 hl3 ht3 hf3
    have HOWN := Lib.hid (HO.out w3 c3 hr3 hl3 ht3)
    have HF := Lib.hid (hf2.out.trans hf3 fun b hb => .inl hb)
    clear hr3 hl3 ht3 hf3 hr2 hf2
    go_wp2
    go_ret
    exact HOWN.out.got (HF.out.mono fun b hb => by rw [hb]; rfl) (.inl rfl)
  · have hg2 : decide ((tot : Int) < (n : Int)) = false := by simp; omega
    have hg3 : decide (tot < n) = false := by simp; omega
    clear hown hsz hlen hlM hfl hR hi0 h hv hfit htot
    go_enter Try.func81, Try.ntmps81
    go_wp2_with (with_reducible refine stopAt 34 ?_)
    unfold Hid
    refine wpList_append_row_room rfl _ _ 99 rfl 98 i0 Try.underlying99 HI0.out hz g i cap rfl cur H.out.row B m d rfl (flatX M) HFL.out HSRC.out flatX_one hroom HFIT.out ?_
    rw [← HT.out]
    intro w2 hr2 hf2
    go_wp2
    go_ret
    exact (HO.out w2 _ hr2.out rfl rfl).got (hf2.out.mono fun b hb => by rw [hb]; rfl) (.inl rfl)

set_option maxHeartbeats 2000000 in
set_option maxRecDepth 100000 in
/-- all from i on is taken away; there is no room -/
theorem replace_end_grow (w : World) {g cap n m d i : Nat} {l M : List Ex} {cur : List Value} {B : Option Addr} (h : Own2 w g cap n l cur) (hv : w.ownsRow 0 98 2 (.slice B m d) m (flatX M)) (hi : i < n) (hroom : cap < i + m) (hbig : n + m ≤ 4000000) :
    Calls Try.prog 81 #[.slice (some ⟨g, 0, none⟩) n cap, .int .i64 i, .int .i64 n, .slice B m d] w (Got w (.slice (some ⟨g, 0, none⟩) n cap) (l.take i ++ M)) := by
  obtain ⟨i0, hi0, hz0, hz, hzb⟩ := ext_info
  obtain ⟨R, hR⟩ : ∃ R, R = l.take i ++ M := ⟨_, rfl⟩
  rw [← hR]
  obtain ⟨tot, htot⟩ : ∃ t : Nat, t = i + m := ⟨_, rfl⟩
  have hcap := h.max
  have hnc := h.le
  have hlM : M.length = m := by obtain ⟨_, _, _, _, _, h1⟩ := own2_form hv; exact h1
  have hfl : (flatX M).length = m * 2 := by rw [flatX_length, hlM]
  have hg1 : ¬ ((i : Int) = (n : Int)) := by omega
  have hg2 : decide ((tot : Int) < (n : Int)) = false := by simp; omega
  have hg3 : decide (tot < n) = false := by simp; omega
  have hs1 := fun w' k k' => run_mid (P := Try.prog) w' 99 98 i0 Try.underlying99 hi0 hz (some ⟨g, 0, none⟩) n cap i n (by omega) (by omega) k k' (i : Int) (n : Int) rfl rfl
  have hs2 := fun w' k => run_head (P := Try.prog) w' 99 98 i0 Try.underlying99 hi0 (some ⟨g, 0, none⟩) n cap i (by omega) k (i : Int) rfl
  obtain ⟨ad, rfl, hsrc⟩ := own2_src hv (by omega)
  have hpre : Own2 w g cap i (l.take i) cur := ⟨h.row, h.size, by omega, hcap, by rw [flatX_take, ← h.cells, List.take_take, Nat.min_eq_left (by omega)], by rw [List.length_take, h.len]; omega⟩
  have HP := Lib.hid hpre.own
  have HSRC := Lib.hid hsrc
  have HFL := Lib.hid hfl
  have HI0 := Lib.hid hi0
  have HT := Lib.hid htot
  have HR := Lib.hid hR
  clear hlM hfl hR hi0 h hv htot hpre hsrc
  go_enter Try.func81, Try.ntmps81
  go_wp2_with (with_reducible refine stopAt 34 ?_)
  unfold Hid
  refine wpList_append_own_at w rfl _ _ 99 rfl 0 98 i0 _ 2 16 Try.underlying99 HI0.out hz0 hz hzb rfl (by decide) _ i (flatX (l.take i)) rfl HP.out ad m d (flatX M) rfl HFL.out HSRC.out flatX_one (by unfold maxLen; omega) (by omega) (Nat.zero_le _) ?_
  rw [← HT.out]
  intro v' w' ho hgr _ hat
  have HO := Lib.hid ho
  have HG := Lib.hid hgr
  have HA := Lib.hid hat
  obtain ⟨A', c', rfl, _, _⟩ : ∃ A' c', v' = .slice A' tot c' ∧ tot ≤ c' ∧ c' ≤ 9223372036854775807 := by
    rw [← flatX_append] at ho
    obtain ⟨A', c', h1, h2, h3, _⟩ := own2_form ho
    exact ⟨A', c', h1, h2, h3⟩
  clear ho hgr hat
  go_wp2
  go_ret
  have ho := HO.out
  rw [← flatX_append, ← HR.out] at ho
  exact got_at ho ((Far.refl _ w).grown HG.out fun k hk => .inl hk) HA.out

set_option maxHeartbeats 4000000 in
set_option maxRecDepth 100000 in
/-- some in the middle are taken away, and no more come -/
theorem replace_fit (w : World) {g cap n m d i j : Nat} {l M : List Ex} {cur : List Value} {B : Option Addr} (h : Own2 w g cap n l cur) (hv : w.ownsRow 0 98 2 (.slice B m d) m (flatX M)) (hij : i < j) (hj : j < n) (hm : i + m ≤ j) (hbig : n + m ≤ 4000000) :
    Calls Try.prog 81 #[.slice (some ⟨g, 0, none⟩) n cap, .int .i64 i, .int .i64 j, .slice B m d] w (Got w (.slice (some ⟨g, 0, none⟩) n cap) (l.take i ++ M ++ l.drop j)) := by
  obtain ⟨i0, hi0, hz0, hz, hzb⟩ := ext_info
  obtain ⟨R, hR⟩ : ∃ R, R = l.take i ++ M ++ l.drop j := ⟨_, rfl⟩
  rw [← hR]
  obtain ⟨r, hr⟩ : ∃ t : Nat, t = n - j := ⟨_, rfl⟩
  obtain ⟨im, him⟩ : ∃ t : Nat, t = i + m := ⟨_, rfl⟩
  obtain ⟨tot, htot⟩ : ∃ t : Nat, t = im + r := ⟨_, rfl⟩
  have hcap := h.max
  have hnc := h.le
  have hlen := h.len
  have hsz := h.size
  have hlM : M.length = m := by obtain ⟨_, _, _, _, _, h1⟩ := own2_form hv; exact h1
  have hfl : (flatX M).length = m * 2 := by rw [flatX_length, hlM]
  have hdl : (flatX (l.drop j)).length = r * 2 := by rw [flatX_length, List.length_drop, hlen, hr]
  have hadd1 : (i : Int) + (m : Int) = (im : Int) := by omega
  have hadd2 : (im : Int) + (r : Int) = (tot : Int) := by omega
  have hw1 : IntKind.i64.wrap (im : Int) = (im : Int) := IntWalk.i64_in _ (by omega)
  have hw2 : IntKind.i64.wrap (tot : Int) = (tot : Int) := IntWalk.i64_in _ (by omega)
  have hg1 : ¬ ((i : Int) = (j : Int)) := by omega
  have hg2 : ¬ ((j : Int) = (n : Int)) := by omega
  have hs1 := fun w' k k' => run_mid (P := Try.prog) w' 99 98 i0 Try.underlying99 hi0 hz (some ⟨g, 0, none⟩) n cap i j (by omega) (by omega) k k' (i : Int) (j : Int) rfl rfl
  have hs2 := fun w' k => run_head (P := Try.prog) w' 99 98 i0 Try.underlying99 hi0 (some ⟨g, 0, none⟩) n cap i (by omega) k (i : Int) rfl
  have hs3 := fun w' k => run_tail (P := Try.prog) w' 99 98 i0 Try.underlying99 hi0 hz (some ⟨g, 0, none⟩) n cap j (by omega) k (j : Int) rfl
  have ht3 := tailA_lt (g := g) (off := 0) (i := j) (cap := cap) (sz := 2) (by omega)
  rw [Nat.zero_add] at ht3
  rw [ht3, ← hr] at hs3
  have hsrc2 : ∀ k v, (flatX (l.drop j))[k]? = some v → cur[j * 2 + k]? = some v := h.src j
  have hs4 := fun w' k => run_head (P := Try.prog) w' 99 98 i0 Try.underlying99 hi0 (some ⟨g, 0, none⟩) n cap tot (by omega) k (tot : Int) rfl
  have hs5 := fun w' k => run_tail (P := Try.prog) w' 99 98 i0 Try.underlying99 hi0 hz (some ⟨g, 0, none⟩) tot cap i (by omega) k (i : Int) rfl
  have ht5 := tailA_lt (g := g) (off := 0) (i := i) (cap := cap) (sz := 2) (by omega)
  have hs6 := fun w' k => run_tail (P := Try.prog) w' 99 98 i0 Try.underlying99 hi0 hz (some ⟨g, 0, none⟩) tot cap im (by omega) k (im : Int) rfl
  have ht6 := tailA_lt (g := g) (off := 0) (i := im) (cap := cap) (sz := 2) (by omega)
  rw [Nat.zero_add] at ht5 ht6
  rw [ht5] at hs5
  rw [ht6] at hs6
  have hc4 : (flatX M).length = Nat.min m (tot - i) * 2 := by rw [hfl]; simp only [Nat.min_def]; split <;> omega
  have hc1 : (flatX (l.drop j)).length = Nat.min r (tot - im) * 2 := by rw [hdl]; simp only [Nat.min_def]; split <;> omega
  have hti : cur.take (i * 2) = flatX (l.take i) := by rw [flatX_take, ← h.cells, List.take_take, Nat.min_eq_left (by omega)]
  have hRl : R.length = tot := by rw [hR, List.length_append, List.length_append, List.length_take, List.length_drop, hlen, hlM]; omega
  have hf1 : i * 2 + (flatX M).length ≤ cur.length := by rw [hfl, hsz]; omega
  have hf2 : im * 2 + (flatX (l.drop j)).length ≤ cur.length := by rw [hdl, hsz]; omega
  have hg3 : decide ((tot : Int) > (cap : Int)) = false := by simp; omega
  have hg6 : decide (cap < tot) = false := by simp; omega
  have hg7 : decide ((cap : Int) < (tot : Int)) = false := by simp; omega
  have hg4 : decide ((im : Int) ≤ (j : Int)) = true := by simp; omega
  have hg5 : decide (im ≤ j) = true := by simp; omega
  have hs7 := fun w' k => run_tail (P := Try.prog) w' 99 98 i0 Try.underlying99 hi0 hz (some ⟨g, 0, none⟩) n cap tot (by omega) k (tot : Int) rfl
  have hown : ∀ (W : World) (c1 : List Value), Row W g 98 c1 → c1.length = (splice (splice cur (i * 2) (flatX M)) (im * 2) (flatX (l.drop j))).length → c1.take (tot * 2) = (splice (splice cur (i * 2) (flatX M)) (im * 2) (flatX (l.drop j))).take (tot * 2) → Own2 W g cap tot R c1 := fun W c1 h1 h2 h3 => by
    refine ⟨h1, by rw [h2, splice_length _ _ _ (by rw [splice_length _ _ _ hf1]; exact hf2), splice_length _ _ _ hf1, hsz], by omega, hcap, ?_, hRl⟩
    rw [h3, take_splice2 cur (flatX M) (flatX (l.drop j)) (i * 2) (im * 2) (tot * 2) (by rw [hfl]; omega) (by rw [hdl]; omega) (by rw [hsz]; omega), hti, hR, flatX_append, flatX_append]
  have hsrc3 : ∀ k v, (flatX (l.drop j))[k]? = some v → (splice cur (i * 2) (flatX M))[j * 2 + k]? = some v := fun k v hk => by
    rw [splice_get_out _ _ _ hf1 (by rw [hfl]; omega)]; exact hsrc2 k v hk
  have HO := Lib.hid hown
  have HSRC : Hid (0 < m → ∃ ad, B = some ad ∧ ∀ j v, (flatX M)[j]? = some v → w.cell? (ad.add j) = some v) := own2_src hv
  have HSRC3 := Lib.hid hsrc3
  have C1 := Lib.hid hc1
  have C4 := Lib.hid hc4
  have F1 := Lib.hid hf1
  have F2 : Hid (im * 2 + (flatX (l.drop j)).length ≤ (splice cur (i * 2) (flatX M)).length) := by unfold Hid; rw [splice_length _ _ _ hf1]; exact hf2
  have FS1 : Hid ((splice (splice cur (i * 2) (flatX M)) (im * 2) (flatX (l.drop j))).length = cap * 2) := by unfold Hid; rw [splice_length _ _ _ F2.out, splice_length _ _ _ hf1, hsz]
  have FL := Lib.hid hfl
  have H := Lib.hid h
  have HT : Hid (tot ≤ n ∧ n ≤ cap) := by unfold Hid; omega
  clear hown hsrc3 hc1 hc4 hf1 hf2 hfl hdl hR hlM hlen hsz hti hRl hi0 h hv hr him htot ht3 ht5 ht6 hsrc2
  go_enter Try.func81, Try.ntmps81
  go_wp2
  go_region
  go_wp2_with (with_reducible refine stopAt 97 ?_)
  unfold Hid
  refine wpList_copy_rows rfl _ _ 99 99 rfl 98 Try.underlying99 ext_size (by decide) (some ⟨g, i * 2, none⟩) B (tot - i) (cap - i) m d rfl rfl g (i * 2) _ 98 H.out.row (flatX M) C4.out (fun h0 => ⟨rfl, HSRC.out (by have := FL.out; omega)⟩) F1.out flatX_one ?_
  intro w2 hr2 hf2
  have c2 : ∀ k v, (flatX (l.drop j))[k]? = some v → w2.drew.cell? ((⟨g, j * 2, none⟩ : Addr).add k) = some v := fun k v hk => by
    rw [Addr.add_lit]; exact (hr2.out.cell _).trans (HSRC3.out k v hk)
  have C2 := Lib.hid c2
  clear c2
  go_wp2
  go_region_law (refine step_copy_rows rfl _ _ 99 99 rfl 98 Try.underlying99 ext_size (by decide) (some ⟨g, im * 2, none⟩) (some ⟨g, j * 2, none⟩) (tot - im) (cap - im) r (cap - j) (by simp [Act.eval, Act.put]) (by simp [Act.eval, Act.put]) g (im * 2) _ 98 hr2.out (flatX (l.drop j)) C1.out (fun _ => ⟨rfl, _, rfl, C2.out⟩) F2.out flatX_one ?_; intro w3 hr3 hf3)
  go_wp2_with (with_reducible refine stopClear ?_)
  unfold Hid
  refine wpList_clear_rows rfl _ 99 rfl 98 _ (sz := 2) Try.underlying99 ext_zero rfl (by decide) (tailA (some ⟨g, 0, none⟩) tot cap 2) (n - tot) (cap - tot) rfl g (tot * 2) _ 98 hr3.out (fun h0 => by rw [tailA_lt (by have := HT.out; omega), Nat.zero_add]) (by have := FS1.out; have := HT.out; omega) ?_
  intro w4 c4 hr4 hl4 ht4 hf4
  have HOWN := Lib.hid (HO.out w4 c4 hr4 hl4 ht4)
  have HF := Lib.hid (((Far.drew (Far.refl (fun b => b = g) w)).trans (hf2.out.drew) fun b hb => .inl hb).trans (hf3.out.trans hf4 fun b hb => .inl hb) fun b hb => .inl hb)
  clear hr4 hl4 ht4 hf4 hr3 hf3 hr2 hf2
  go_wp2
  go_ret
  exact HOWN.out.got (HF.out.mono fun b hb => by rw [hb]; rfl) (.inl rfl)

set_option maxHeartbeats 4000000 in
set_option maxRecDepth 100000 in
/-- some in the middle are taken away, more come, there is room -/
theorem replace_wide (w : World) {g cap n m d i j gv : Nat} {l M : List Ex} {cur curv : List Value} (h : Own2 w g cap n l cur) (hv2 : Own2 w gv d m M curv) (hne : g ≠ gv) (hij : i < j) (hj : j < n) (hm : j < i + m) (hroom : i + m + (n - j) ≤ cap) (hbig : n + m ≤ 4000000) :
    Calls Try.prog 81 #[.slice (some ⟨g, 0, none⟩) n cap, .int .i64 i, .int .i64 j, .slice (some ⟨gv, 0, none⟩) m d] w (Got w (.slice (some ⟨g, 0, none⟩) n cap) (l.take i ++ M ++ l.drop j)) := by
  have hv := hv2.own
  obtain ⟨i0, hi0, hz0, hz, hzb⟩ := ext_info
  obtain ⟨R, hR⟩ : ∃ R, R = l.take i ++ M ++ l.drop j := ⟨_, rfl⟩
  rw [← hR]
  obtain ⟨r, hr⟩ : ∃ t : Nat, t = n - j := ⟨_, rfl⟩
  obtain ⟨im, him⟩ : ∃ t : Nat, t = i + m := ⟨_, rfl⟩
  obtain ⟨tot, htot⟩ : ∃ t : Nat, t = im + r := ⟨_, rfl⟩
  have hcap := h.max
  have hnc := h.le
  have hlen := h.len
  have hsz := h.size
  have hlM : M.length = m := by obtain ⟨_, _, _, _, _, h1⟩ := own2_form hv; exact h1
  have hfl : (flatX M).length = m * 2 := by rw [flatX_length, hlM]
  have hdl : (flatX (l.drop j)).length = r * 2 := by rw [flatX_length, List.length_drop, hlen, hr]
  have hadd1 : (i : Int) + (m : Int) = (im : Int) := by omega
  have hadd2 : (im : Int) + (r : Int) = (tot : Int) := by omega
  have hw1 : IntKind.i64.wrap (im : Int) = (im : Int) := IntWalk.i64_in _ (by omega)
  have hw2 : IntKind.i64.wrap (tot : Int) = (tot : Int) := IntWalk.i64_in _ (by omega)
  have hg1 : ¬ ((i : Int) = (j : Int)) := by omega
  have hg2 : ¬ ((j : Int) = (n : Int)) := by omega
  have hs1 := fun w' k k' => run_mid (P := Try.prog) w' 99 98 i0 Try.underlying99 hi0 hz (some ⟨g, 0, none⟩) n cap i j (by omega) (by omega) k k' (i : Int) (j : Int) rfl rfl
  have hs2 := fun w' k => run_head (P := Try.prog) w' 99 98 i0 Try.underlying99 hi0 (some ⟨g, 0, none⟩) n cap i (by omega) k (i : Int) rfl
  have hs3 := fun w' k => run_tail (P := Try.prog) w' 99 98 i0 Try.underlying99 hi0 hz (some ⟨g, 0, none⟩) n cap j (by omega) k (j : Int) rfl
  have ht3 := tailA_lt (g := g) (off := 0) (i := j) (cap := cap) (sz := 2) (by omega)
  rw [Nat.zero_add] at ht3
  rw [ht3, ← hr] at hs3
  have hsrc2 : ∀ k v, (flatX (l.drop j))[k]? = some v → cur[j * 2 + k]? = some v := h.src j
  have hs4 := fun w' k => run_head (P := Try.prog) w' 99 98 i0 Try.underlying99 hi0 (some ⟨g, 0, none⟩) n cap tot (by omega) k (tot : Int) rfl
  have hs5 := fun w' k => run_tail (P := Try.prog) w' 99 98 i0 Try.underlying99 hi0 hz (some ⟨g, 0, none⟩) tot cap i (by omega) k (i : Int) rfl
  have ht5 := tailA_lt (g := g) (off := 0) (i := i) (cap := cap) (sz := 2) (by omega)
  have hs6 := fun w' k => run_tail (P := Try.prog) w' 99 98 i0 Try.underlying99 hi0 hz (some ⟨g, 0, none⟩) tot cap im (by omega) k (im : Int) rfl
  have ht6 := tailA_lt (g := g) (off := 0) (i := im) (cap := cap) (sz := 2) (by omega)
  rw [Nat.zero_add] at ht5 ht6
  rw [ht5] at hs5
  rw [ht6] at hs6
  have hc4 : (flatX M).length = Nat.min m (tot - i) * 2 := by rw [hfl]; simp only [Nat.min_def]; split <;> omega
  have hc1 : (flatX (l.drop j)).length = Nat.min r (tot - im) * 2 := by rw [hdl]; simp only [Nat.min_def]; split <;> omega
  have hti : cur.take (i * 2) = flatX (l.take i) := by rw [flatX_take, ← h.cells, List.take_take, Nat.min_eq_left (by omega)]
  have hRl : R.length = tot := by rw [hR, List.length_append, List.length_append, List.length_take, List.length_drop, hlen, hlM]; omega
  have hf1 : i * 2 + (flatX M).length ≤ cur.length := by rw [hfl, hsz]; omega
  have hf2 : im * 2 + (flatX (l.drop j)).length ≤ cur.length := by rw [hdl, hsz]; omega
  have hg3 : decide ((tot : Int) > (cap : Int)) = false := by simp; omega
  have hg6 : decide (cap < tot) = false := by simp; omega
  have hg7 : decide ((cap : Int) < (tot : Int)) = false := by simp; omega
  have hg4 : decide ((im : Int) ≤ (j : Int)) = false := by simp; omega
  have hg5 : decide (im ≤ j) = false := by simp; omega
  have hov : ∀ (W : World), W = w.drew → ∀ lb cb, (callFunc 89 #[.slice (some ⟨g, im * 2, none⟩) lb cb, .slice (some ⟨gv, 0, none⟩) m d]).run Try.prog W = .ok (.value (.bool false)) W := fun W e lb cb => by
    subst e
    exact over_apart w.drew ⟨g, im * 2, none⟩ ⟨gv, 0, none⟩ lb cb m d hne _ _ _ _ (show w.shape? g = _ from h.shape) (show w.shape? gv = _ from hv2.shape) (by have := hv2.le; omega) (h.row.free _) (h.row.free _)
  have hov := hov _ rfl
  have hf3 : i * 2 + (flatX M).length ≤ (splice cur (im * 2) (flatX (l.drop j))).length := by rw [splice_length _ _ _ hf2]; exact hf1
  have hown : ∀ (W : World), Row W g 98 (splice (splice cur (im * 2) (flatX (l.drop j))) (i * 2) (flatX M)) → Own2 W g cap tot R (splice (splice cur (im * 2) (flatX (l.drop j))) (i * 2) (flatX M)) := fun W h1 => by
    refine ⟨h1, by rw [splice_length _ _ _ hf3, splice_length _ _ _ hf2, hsz], by omega, hcap, ?_, hRl⟩
    rw [take_splice2r cur (flatX M) (flatX (l.drop j)) (i * 2) (im * 2) (tot * 2) (by rw [hfl]; omega) (by rw [hdl]; omega) (by rw [hsz]; omega), hti, hR, flatX_append, flatX_append]
  obtain ⟨ad, had, hsrc⟩ := own2_src hv (by omega)
  injection had with had; subst had
  have HO := Lib.hid hown
  have HSRC := Lib.hid hsrc
  have HSRC2 := Lib.hid hsrc2
  have C1 := Lib.hid hc1
  have C4 := Lib.hid hc4
  have F2 := Lib.hid hf2
  have F3 := Lib.hid hf3
  have H := Lib.hid h
  have hvl := hv2.row.lt
  have HNE := Lib.hid hne
  clear hown hsrc hc1 hc4 hf1 hf2 hf3 hfl hdl hR hlM hlen hsz hti hRl hi0 h hv hv2 hr him htot ht3 ht5 ht6 hne
  have c2 : ∀ k v, (flatX (l.drop j))[k]? = some v → w.drew.drew.cell? ((⟨g, j * 2, none⟩ : Addr).add k) = some v := fun k v hk => by
    rw [Addr.add_lit]; exact (H.out.row.cell _).trans (HSRC2.out k v hk)
  have C2 := Lib.hid c2
  clear c2 hsrc2
  go_enter Try.func81, Try.ntmps81
  go_wp2
  go_region
  go_wp2_with (simp only [hov])
  go_region_law (refine step_copy_rows rfl _ _ 99 99 rfl 98 Try.underlying99 ext_size (by decide) (some ⟨g, im * 2, none⟩) (some ⟨g, j * 2, none⟩) (tot - im) (cap - im) r (cap - j) (by simp [Act.eval, Act.put]) (by simp [Act.eval, Act.put]) g (im * 2) _ 98 H.out.row (flatX (l.drop j)) C1.out (fun _ => ⟨rfl, _, rfl, C2.out⟩) F2.out flatX_one ?_; intro w2 hr2 hf2)
  have c5 : ∀ k v, (flatX M)[k]? = some v → w2.cell? ((⟨gv, 0, none⟩ : Addr).add k) = some v := fun k v hk => by
    have h5 := HSRC.out k v hk
    rw [Addr.add_lit] at h5 ⊢
    exact (World.cell?_of_block (w := w.drew.drew) (hf2.out.block gv hvl (fun e => HNE.out e.symm))).trans h5
  have C5 := Lib.hid c5
  clear c5
  go_wp2_with (with_reducible refine stopAt 135 ?_)
  unfold Hid
  refine wpList_copy_rows rfl _ _ 99 99 rfl 98 Try.underlying99 ext_size (by decide) (some ⟨g, i * 2, none⟩) (some ⟨gv, 0, none⟩) (tot - i) (cap - i) m d rfl rfl g (i * 2) _ 98 hr2.out (flatX M) C4.out (fun h0 => ⟨rfl, _, rfl, C5.out⟩) F3.out flatX_one ?_
  intro w3 hr3 hf3
  have HOWN := Lib.hid (HO.out w3 hr3.out)
  have HF := Lib.hid (((Far.drew (Far.drew (Far.refl (fun b => b = g) w))).trans hf2.out fun b hb => .inl hb).trans hf3.out fun b hb => .inl hb)
  clear hr3 hf3 hr2 hf2
  go_wp2
  go_ret
  exact HOWN.out.got (HF.out.mono fun b hb => by rw [hb]; rfl) (.inl rfl)

set_option maxHeartbeats 4000000 in
set_option maxRecDepth 100000 in
/-- some in the middle are taken away, more come, there is no room -/
theorem replace_grow (w : World) {g cap n m d i j : Nat} {l M : List Ex} {cur : List Value} {B : Option Addr} (h : Own2 w g cap n l cur) (hv : w.ownsRow 0 98 2 (.slice B m d) m (flatX M)) (hij : i < j) (hj : j < n) (hroom : cap < i + m + (n - j)) (hbig : n + m ≤ 4000000) :
    Calls Try.prog 81 #[.slice (some ⟨g, 0, none⟩) n cap, .int .i64 i, .int .i64 j, .slice B m d] w (Got w (.slice (some ⟨g, 0, none⟩) n cap) (l.take i ++ M ++ l.drop j)) := by
  obtain ⟨i0, hi0, hz0, hz, hzb⟩ := ext_info
  obtain ⟨R, hR⟩ : ∃ R, R = l.take i ++ M ++ l.drop j := ⟨_, rfl⟩
  rw [← hR]
  obtain ⟨r, hr⟩ : ∃ t : Nat, t = n - j := ⟨_, rfl⟩
  obtain ⟨im, him⟩ : ∃ t : Nat, t = i + m := ⟨_, rfl⟩
  obtain ⟨tot, htot⟩ : ∃ t : Nat, t = im + r := ⟨_, rfl⟩
  have hcap := h.max
  have hnc := h.le
  have hlen := h.len
  have hsz := h.size
  have hlM : M.length = m := by obtain ⟨_, _, _, _, _, h1⟩ := own2_form hv; exact h1
  have hfl : (flatX M).length = m * 2 := by rw [flatX_length, hlM]
  have hdl : (flatX (l.drop j)).length = r * 2 := by rw [flatX_length, List.length_drop, hlen, hr]
  have hadd1 : (i : Int) + (m : Int) = (im : Int) := by omega
  have hadd2 : (im : Int) + (r : Int) = (tot : Int) := by omega
  have hw1 : IntKind.i64.wrap (im : Int) = (im : Int) := IntWalk.i64_in _ (by omega)
  have hw2 : IntKind.i64.wrap (tot : Int) = (tot : Int) := IntWalk.i64_in _ (by omega)
  have hg1 : ¬ ((i : Int) = (j : Int)) := by omega
  have hg2 : ¬ ((j : Int) = (n : Int)) := by omega
  have hs1 := fun w' k k' => run_mid (P := Try.prog) w' 99 98 i0 Try.underlying99 hi0 hz (some ⟨g, 0, none⟩) n cap i j (by omega) (by omega) k k' (i : Int) (j : Int) rfl rfl
  have hs2 := fun w' k => run_head (P := Try.prog) w' 99 98 i0 Try.underlying99 hi0 (some ⟨g, 0, none⟩) n cap i (by omega) k (i : Int) rfl
  have hs3 := fun w' k => run_tail (P := Try.prog) w' 99 98 i0 Try.underlying99 hi0 hz (some ⟨g, 0, none⟩) n cap j (by omega) k (j : Int) rfl
  have ht3 := tailA_lt (g := g) (off := 0) (i := j) (cap := cap) (sz := 2) (by omega)
  rw [Nat.zero_add] at ht3
  rw [ht3, ← hr] at hs3
  have hsrc2 : ∀ k v, (flatX (l.drop j))[k]? = some v → cur[j * 2 + k]? = some v := h.src j
  obtain ⟨q, hq⟩ : ∃ t : Nat, t = tot - i := ⟨_, rfl⟩
  have hsub : (tot : Int) - (i : Int) = (q : Int) := by omega
  have hw3 : IntKind.i64.wrap (q : Int) = (q : Int) := IntWalk.i64_in _ (by omega)
  have hg3 : decide ((tot : Int) > (cap : Int)) = true := by simp; omega
  have hg6 : decide (cap < tot) = true := by simp; omega
  have hg7 : decide ((cap : Int) < (tot : Int)) = true := by simp; omega
  have hs5 := fun b C w' k => run_tail (P := Try.prog) w' 99 98 i0 Try.underlying99 hi0 hz (some ⟨b, 0, none⟩) tot C i (by omega) k (i : Int) rfl
  have hs6 := fun b C w' k => run_tail (P := Try.prog) w' 99 98 i0 Try.underlying99 hi0 hz (some ⟨b, 0, none⟩) tot C im (by omega) k (im : Int) rfl
  have hc4 : (flatX M).length = Nat.min m (tot - i) * 2 := by rw [hfl]; simp only [Nat.min_def]; split <;> omega
  have hc1 : (flatX (l.drop j)).length = Nat.min r (tot - im) * 2 := by rw [hdl]; simp only [Nat.min_def]; split <;> omega
  have hti : cur.take (i * 2) = flatX (l.take i) := by rw [flatX_take, ← h.cells, List.take_take, Nat.min_eq_left (by omega)]
  have htl : (flatX (l.take i)).length = i * 2 := by rw [flatX_length, List.length_take, hlen]; omega
  have hRl : R.length = tot := by rw [hR, List.length_append, List.length_append, List.length_take, List.length_drop, hlen, hlM]; omega
  have hc0 : ∀ k v, (flatX (l.take i))[k]? = some v → w.cell? ((⟨g, 0, none⟩ : Addr).add k) = some v := fun k v hk => by
    rw [Addr.add_lit, Nat.zero_add, h.row.cell]
    rw [← hti, List.getElem?_take] at hk
    split at hk
    · exact hk
    · cases hk
  have hc2 : ∀ k v, (flatX (l.drop j))[k]? = some v → w.cell? ((⟨g, j * 2, none⟩ : Addr).add k) = some v := fun k v hk => by
    rw [Addr.add_lit]; exact (h.row.cell _).trans (hsrc2 k v hk)
  have hc6 : ∀ C (c0 : List Value), tot ≤ C → c0.length = C * 2 → i * 2 + (flatX M).length ≤ c0.length ∧ im * 2 + (flatX (l.drop j)).length ≤ (splice c0 (i * 2) (flatX M)).length := fun C c0 h1 h2 => by
    have h3 : i * 2 + (flatX M).length ≤ c0.length := by rw [hfl, h2]; omega
    exact ⟨h3, by rw [splice_length _ _ _ h3, hdl, h2]; omega⟩
  have hc7 : ∀ C (c0 : List Value), tot ≤ C → C ≤ maxLen → c0.length = C * 2 → c0.take (i * 2) = flatX (l.take i) → ∀ b (W : World), Row W b 98 (splice (splice c0 (i * 2) (flatX M)) (im * 2) (flatX (l.drop j))) → Own2 W b C tot R (splice (splice c0 (i * 2) (flatX M)) (im * 2) (flatX (l.drop j))) := fun C c0 h1 hm h2 h3 b W hrw => by
    refine ⟨hrw, ?_, h1, by unfold maxLen at hm; omega, ?_, hRl⟩
    · rw [splice_length _ _ _ (hc6 C c0 h1 h2).2, splice_length _ _ _ (hc6 C c0 h1 h2).1, h2]
    · rw [take_splice2 c0 (flatX M) (flatX (l.drop j)) (i * 2) (im * 2) (tot * 2) (by rw [hfl]; omega) (by rw [hdl]; omega) (by rw [h2]; omega), h3, hR, flatX_append, flatX_append]
  obtain ⟨ad, rfl, hsrc⟩ := own2_src hv (by omega)
  have hadl : ad.block < w.heap.size := by
    have hml : 0 < (flatX M).length := by rw [hfl]; omega
    have h1 := hsrc 0 _ (List.getElem?_eq_getElem hml)
    have h2 := block_lt_of_cell h1
    simpa [Addr.add] using h2
  have C0 := Lib.hid hc0
  have C1 := Lib.hid hc1
  have C2 := Lib.hid hc2
  have C4 := Lib.hid hc4
  have C5 := Lib.hid hsrc
  have C6 := Lib.hid hc6
  have C7 := Lib.hid hc7
  have CT := Lib.hid htl
  have CI : Hid (i < im ∧ im < tot ∧ i + q = tot ∧ 0 < q ∧ tot ≤ 4000000 ∧ cap < tot) := by unfold Hid; omega
  have HI0 := Lib.hid hi0
  have hgl := h.row.lt
  have had := fun (ad : Addr) k => show (ad.add k).block = ad.block by unfold Addr.add; split <;> rfl
  have HAD := Lib.hid had
  clear hc0 hc1 hc2 hc4 hc6 hc7 hti htl hR hRl h hv htot him hlen hsz ht3 hq hsrc hsrc2 hfl hdl hlM hr had
  go_enter Try.func81, Try.ntmps81
  go_wp2
  go_region
  go_wp2_with (with_reducible refine stopAt 67 ?_)
  unfold Hid
  refine wpList_append_zeros_grow rfl _ _ 99 3 rfl 98 i0 _ .i64 .i64 Try.underlying99 Try.underlying3 HI0.out hz0 hz (by decide) hzb rfl (some ⟨g, 0, none⟩) i cap rfl (flatX (l.take i)) CT.out (fun e => by cases e) (fun ad e => by injection e with e; subst e; exact C0.out) q (q : Int) rfl rfl CI.out.2.2.2.1 (by have := CI.out; omega) (by unfold maxLen; have := CI.out; omega) (by have := CI.out; omega) ?_
  rw [CI.out.2.2.1]
  intro w2 C c0 hC1 hC2 hc0 hct hr2 hs2' hb2
  have ht3 := tailA_lt (g := w.heap.size) (off := 0) (i := im) (cap := C) (sz := 2) (by have := CI.out; omega)
  have ht4 := tailA_lt (g := w.heap.size) (off := 0) (i := i) (cap := C) (sz := 2) (by have := CI.out; omega)
  rw [Nat.zero_add] at ht3 ht4
  have hs6' := hs6 w.heap.size C
  have hs5' := hs5 w.heap.size C
  rw [ht3] at hs6'
  rw [ht4] at hs5'
  have D0 := Lib.hid (hC1)
  have D1 := Lib.hid hC2
  have D2 := Lib.hid hc0
  have D3 := Lib.hid hct
  have D4 := Lib.hid hr2
  have D6 := Lib.hid (show Below w.heap.size w w2 from ⟨hb2.os, hb2.tape, hb2.output, hb2.size, hb2.block⟩)
  have c5 : ∀ j v, (flatX M)[j]? = some v → w2.cell? (ad.add j) = some v := fun j v hj => by
    rw [D6.out.cell (by rw [HAD.out]; exact hadl)]; exact C5.out j v hj
  have C5' := Lib.hid c5
  have c2 : ∀ k v, (flatX (l.drop j))[k]? = some v → w2.cell? ((⟨g, j * 2, none⟩ : Addr).add k) = some v := fun j v hj => by
    rw [D6.out.cell (by rw [Addr.add_lit]; exact hgl)]; exact C2.out j v hj
  have C2' := Lib.hid c2
  clear hC1 hC2 hc0 hct hr2 hb2 c5 c2 ht3 ht4 hs6 hs5 hs2'
  go_wp2_with (with_reducible refine stopAt 72 ?_)
  unfold Hid
  refine wpList_copy_rows rfl _ _ 99 99 rfl 98 Try.underlying99 ext_size (by decide) (some ⟨w.heap.size, i * 2, none⟩) (some ad) (tot - i) (C - i) m d rfl rfl w.heap.size (i * 2) _ 98 D4.out (flatX M) C4.out (fun _ => ⟨rfl, _, rfl, C5'.out⟩) (C6.out C c0 D0.out D2.out).1 flatX_one ?_
  intro w3 hr3 hf3
  have c2 : ∀ k v, (flatX (l.drop j))[k]? = some v → w3.drew.cell? ((⟨g, j * 2, none⟩ : Addr).add k) = some v := fun k v hk => by
    have h5 := C2'.out k v hk
    rw [Addr.add_lit] at h5 ⊢
    exact (World.cell?_of_block (hf3.out.block g (by have := D6.out.size; omega) (by omega))).trans h5
  have C2'' := Lib.hid c2
  clear c2
  go_wp2
  go_region_law (refine step_copy_rows rfl _ _ 99 99 rfl 98 Try.underlying99 ext_size (by decide) (some ⟨w.heap.size, im * 2, none⟩) (some ⟨g, j * 2, none⟩) (tot - im) (C - im) r (cap - j) (by simp [Act.eval, Act.put]) (by simp [Act.eval, Act.put]) w.heap.size (im * 2) _ 98 hr3.out (flatX (l.drop j)) C1.out (fun _ => ⟨rfl, _, rfl, C2''.out⟩) (C6.out C c0 D0.out D2.out).2 flatX_one ?_; intro w4 hr4 hf4)
  go_wp2
  go_ret
  have own := C7.out C c0 D0.out D1.out D2.out D3.out _ _ hr4.out
  exact own.got ((Far.of_below D6.out _).trans ((hf3.out.drew).trans hf4.out fun b hb => .inl hb) fun b hb => .inr (by omega)) (.inr (Nat.le_refl _))

/-- slices.Replace by what lies elsewhere -/
theorem replace_any (w : World) {v u : Value} {n m i j : Nat} {l M : List Ex} (h : w.ownsRow 0 98 2 v n (flatX l)) (hv : w.ownsRow 0 98 2 u m (flatX M)) (hne : ∀ k, v.ownBlock = some k → u.ownBlock ≠ some k) (hij : i ≤ j) (hj : j ≤ n) (hm : i = j → 0 < m) (hbig : n + m ≤ 4000000) :
    Calls Try.prog 81 #[v, .int .i64 i, .int .i64 j, u] w (Got w v (l.take i ++ M ++ l.drop j)) := by
  by_cases e : i = j
  · subst e
    exact replace_none w h hv hne hj (hm rfl) hbig
  have hl : l.length = n := by obtain ⟨_, _, _, _, _, h1⟩ := own2_form h; exact h1
  rcases own2_of h with ⟨_, h0, _⟩ | ⟨g, cap, cur, rfl, h1⟩
  · omega
  obtain ⟨B, d, rfl, hmd, hdm, hlM⟩ := own2_form hv
  by_cases e2 : j = n
  · subst e2
    rw [List.drop_of_length_le (by omega), List.append_nil]
    rcases Nat.lt_or_ge cap (i + m) with h3 | h3
    · exact replace_end_grow w h1 hv (by omega) h3 hbig
    · exact replace_end_room w h1 hv (by omega) h3
  · rcases Nat.lt_or_ge cap (i + m + (n - j)) with h3 | h3
    · exact replace_grow w h1 hv (by omega) (by omega) h3 hbig
    · rcases Nat.lt_or_ge j (i + m) with h4 | h4
      · rcases own2_of hv with ⟨_, h0, _⟩ | ⟨gv, cv, curv, e3, h2⟩
        · omega
        · injection e3 with e3 e4 e5
          subst e3 e5
          exact replace_wide w h1 h2 (fun e => hne g rfl (by rw [e]; rfl)) (by omega) (by omega) h4 h3 hbig
      · exact replace_fit w h1 hv (by omega) (by omega) h4 hbig
end Go.Proofs.Ytbkgpilmgllkiaa
