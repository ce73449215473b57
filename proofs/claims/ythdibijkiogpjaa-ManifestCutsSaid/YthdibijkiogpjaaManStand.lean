/- What standing answers. -/
import Derived.Test.YthdibijkiogpjaaManEq
namespace Go.Proofs.Ythdibijkiogpjaa
open Go.ChangeShapes Go.WideShapes Go.ChangeAt Go.RowKit

theorem flatp_snoc (ps : List (List Nat × Nat)) {i : Nat} (hi : i < ps.length) : (ps.take (i + 1)).flatMap (·.1) = (ps.take i).flatMap (·.1) ++ (ps.getD i nop).1 := by
  rw [List.take_add_one, List.getElem?_eq_getElem hi, Option.toList_some, List.flatMap_append, List.getD_eq_getElem?_getD, List.getElem?_eq_getElem hi]; simp
/-- what stands, once it is known how it goes on -/
theorem stand_no1 {ps : List (List Nat × Nat)} {s size : Nat} (h : ¬ (GenP (ps.getD 0 nop).2 ∧ (ps.getD 0 nop).2 % 2 = s)) : standE ps s size = ([], 0) := by unfold standE; rw [if_neg h]
theorem stand_no2 {ps : List (List Nat × Nat)} {s size : Nat} (h : ¬ FormedP (entsE (ps.flatMap (·.1)))) : standE ps s size = ([], 0) := by
  unfold standE; rw [if_neg h]; split <;> rfl
theorem stand_no3 {ps : List (List Nat × Nat)} {s size i : Nat} (hi : i < ps.length) (h : ¬ ((ps.getD i nop).2 = (ps.getD 0 nop).2 ∧ (ps.getD i nop).1 = partE (size - 2) i (wordsE (ps.getD 0 nop).2 (entsE (ps.flatMap (·.1)))))) : standE ps s size = ([], 0) := by
  unfold standE; split
  · split
    · rw [if_neg fun h2 => h (h2 i hi)]
    · rfl
  · rfl
theorem stand_yes {ps : List (List Nat × Nat)} {s size : Nat} (h1 : GenP (ps.getD 0 nop).2 ∧ (ps.getD 0 nop).2 % 2 = s) (h2 : FormedP (entsE (ps.flatMap (·.1)))) (h3 : ∀ i, i < ps.length → (ps.getD i nop).2 = (ps.getD 0 nop).2 ∧ (ps.getD i nop).1 = partE (size - 2) i (wordsE (ps.getD 0 nop).2 (entsE (ps.flatMap (·.1))))) : standE ps s size = (entsE (ps.flatMap (·.1)), (ps.getD 0 nop).2) := by
  unfold standE; rw [if_pos h1, if_pos h2, if_pos h3]

theorem own_form2 {w : World} {base : Nat} {e : TypeId} {n s : Nat} {v : Value} {xs : List Value} (h : w.ownsRow base e s v n xs) : ∃ A c, v = .slice A n c ∧ n ≤ c ∧ c ≤ maxLen := by
  rcases h.2 with ⟨rfl, h0⟩ | ⟨g, cap, cur, rfl, _, _, hcap, hm, _⟩
  · exact ⟨none, 0, by rw [h0], by omega, by unfold maxLen; omega⟩
  · exact ⟨_, _, rfl, hcap, hm⟩
theorem ownN_base {w : World} {B B' : Nat} {e : TypeId} {s n : Nat} {v : Value} {xs : List Value} (h : w.ownsRow B e s v n xs) (hB : B' ≤ B) : w.ownsRow B' e s v n xs := by
  obtain ⟨h1, h2⟩ := h
  refine ⟨h1, ?_⟩
  rcases h2 with h2 | ⟨g, cap, cur, h3, h4, r⟩
  · exact .inl h2
  · exact .inr ⟨g, cap, cur, h3, Nat.le_trans hB h4, r⟩
set_option maxHeartbeats 8000000 in
set_option maxRecDepth 100000 in
theorem standing_any (g k sl size : Nat) (ps : List (List Nat × Nat)) (w : World) (h : PartsIn w g k ps) (hk : 0 < k ∧ k ≤ 11) (h8 : 8 ≤ size) (h256 : size ≤ 256) (hsl : sl ≤ 1) :
    Calls Try.prog 30 #[.slice (some ⟨g, 0, none⟩) k k, .int .i64 sl, .int .i64 size] w fun e w' => ∃ v, e = .returned (.tuple #[v, .int .u64 ((standE ps sl size).2 : Nat)]) ∧ w'.ownsRow w.heap.size 54 5 v (standE ps sl size).1.length (flatN (standE ps sl size).1) ∧ Below w.heap.size w w' := by
  obtain ⟨i0, hi0, hz0, hz1, hz2⟩ := info_parts infoU
  have HP := Lib.hid h
  have HL : Hid (ps.length = k) := by obtain ⟨_, _, h2, _⟩ := h; exact h2
  obtain ⟨A0, m0, cc0, t0, _, ct0, _, HT0, ht0, _⟩ := h.at_ hk.1
  rw [Nat.zero_mul, Nat.zero_add] at ct0
  clear h
  have HNIL : ∀ W : World, Hid (standE ps sl size = ([], 0)) → Below w.heap.size w W → ∃ v, Ending.returned (Value.tuple #[.slice none 0 0, .int .u64 0]) = Ending.returned (.tuple #[v, .int .u64 ((standE ps sl size).2 : Nat)]) ∧ W.ownsRow w.heap.size 54 5 v (standE ps sl size).1.length (flatN (standE ps sl size).1) ∧ Below w.heap.size w W := by
    intro W h hb
    rw [h.out]
    exact ⟨_, rfl, World.ownsRow_nil _ _ _ _, hb⟩
  have HNIL := Lib.hid HNIL
  have HGE := Lib.hid (fun w => isgen_any t0 w)
  have hsw : IntKind.u64.wrap (sl : Int) = (sl : Int) := IntWalk.u64_in _ (by omega)
  have hk0 := hk.1
  have hk11 := hk.2
  clear hk
  by_cases hg : GenP t0
  · rw [decide_eq_true hg] at HGE
    by_cases hs : t0 % 2 = sl
    · have gne : (((t0 : Int) % 2) != (sl : Int)) = false := by simp; omega
      have H1 : Hid (GenP (ps.getD 0 nop).2 ∧ (ps.getD 0 nop).2 % 2 = sl) := by
        unfold Hid; rw [← HT0.out]; exact ⟨hg, hs⟩
      have htl : t0 ≤ 4611686018427387904 := hg.2
      clear hs
      go_enter Try.func30, Try.ntmps30
      go_wp2_with fail
      refine (HGE.out _).mono ?_; rintro e w1 ⟨rfl, rfl⟩
      go_wp2
      go_loopw [31, 9] (fun iv dv wr => ∃ i m : Nat, i ≤ k ∧ iv = .int .i64 (i : Int) ∧ m ≤ 254 * i ∧ Hid (Below w.heap.size w wr) ∧ Hid (((ps.take i).flatMap (·.1)).length = m) ∧ Hid (∀ x ∈ (ps.take i).flatMap (·.1), x < 18446744073709551616) ∧ Hid (wr.ownsRow w.heap.size 38 1 dv m (((ps.take i).flatMap (·.1)).map vw))) (fun iv _ _ => k - (intOf iv).toNat)
      case atStart => exact ⟨0, 0, by omega, rfl, by omega, Below.refl _ _, rfl, fun x hx => by simp at hx, World.ownsRow_nil _ _ _ _⟩
      case round =>
        obtain ⟨i, m, hi, rfl, hm, HBW, HML, HU, HO⟩ := hrel
        by_cases hlt : i < k
        · have hj0 : (0 : Int) ≤ (i : Int) := by omega
          have hj1 : (i : Int) < (k : Int) := by omega
          have hszw := HBW.out.size
          obtain ⟨A, mm, cc, t, c0, c1, hrd, HT, htl2, hmc, hcm, h254⟩ := (HP.out.below HBW.out).at_ hlt
          have HSN := Lib.hid (flatp_snoc ps (show i < ps.length by rw [HL.out]; exact hlt))
          have hr : Row (wr.alloc (.cells #[.slice A mm cc, .int .u64 (t : Int)] 90)) wr.heap.size 90 [.slice A mm cc, .int .u64 (t : Int)] := heap_alloc_new _ _
          have d0 : (wr.alloc (.cells #[.slice A mm cc, .int .u64 (t : Int)] 90)).cell? ⟨wr.heap.size, 0, none⟩ = some (.slice A mm cc) := hr.cell 0
          have HB2 : Hid (Below w.heap.size w (wr.alloc (.cells #[.slice A mm cc, .int .u64 (t : Int)] 90))) := HBW.out.alloc HBW.out.size _
          have HRD := Lib.hid (hrd.keep ((Below.refl _ wr).alloc (Nat.le_refl _) (.cells #[.slice A mm cc, .int .u64 (t : Int)] 90)))
          have HO2 := Lib.hid (HO.out.alloc (.cells #[.slice A mm cc, .int .u64 (t : Int)] 90))
          clear hr hrd
          go_wp2_with (with_reducible refine stopAt 38 ?_)
          unfold Hid
          have hsz2 : w.heap.size ≤ (wr.alloc (.cells #[.slice A mm cc, .int .u64 (t : Int)] 90)).heap.size := by simp; omega
          refine wpList_append_list _ rfl _ _ 47 rfl w.heap.size 38 i0 (.int .u64 0) 8 Try.underlying47 hi0 hz0 hz1 hz2 rfl u9 m _ rfl HO2.out A mm cc ((ps.getD i nop).1.map vw) rfl (by rw [List.length_map]; exact HRD.out.1) HRD.out.source cells_int (by omega) (by omega) hsz2 ?_
          intro v5 w5 hown5 hb5
          have HO5 : Hid (w5.ownsRow w.heap.size 38 1 v5 (m + mm) (((ps.take (i + 1)).flatMap (·.1)).map vw)) := by
            unfold Hid; rw [HSN.out, List.map_append]; exact hown5
          have HB5 := Lib.hid (HB2.out.trans hb5)
          have HU5 : Hid (∀ x ∈ (ps.take (i + 1)).flatMap (·.1), x < 18446744073709551616) := by
            intro x hx
            rw [HSN.out] at hx
            rcases List.mem_append.1 hx with hx | hx
            · exact HU.out x hx
            · exact u64_lt (HRD.out.2.1 x hx)
          have HML5 : Hid (((ps.take (i + 1)).flatMap (·.1)).length = m + mm) := by
            unfold Hid; rw [HSN.out, List.length_append, HML.out, HRD.out.1]
          clear hown5 hb5
          go_wp2
          go_roundw
          case rel => exact ⟨i + 1, m + mm, by omega, by go_num, by omega, HB5.out, HML5.out, HU5.out, HO5.out⟩
          case measure => simp [intOf]; omega
        · obtain rfl : i = k := by omega
          have hall : (ps.take i).flatMap (·.1) = ps.flatMap (·.1) := by rw [List.take_of_length_le (by rw [HL.out]; exact Nat.le_refl _)]
          rw [hall] at HML HU HO
          obtain ⟨A, cc, rfl, hrd, _⟩ := own_reads (k := .u64) HO.out (fun x hx => u64_wf (HU.out x hx))
          obtain ⟨A', cc', e1, hcc⟩ := own_form2 HO.out
          injection e1 with e1 e2 e3
          subst e1; subst e3
          have HRD := Lib.hid hrd
          clear hrd hall
          go_wp2_with fail
          refine (entsof_any A m cc _ wr HRD.out (Nat.le_refl _) (by omega) hcc).mono ?_
          rintro e w2 ⟨v2, rfl, hown2, hb2⟩
          have HB2 := Lib.hid (HBW.out.trans (hb2.mono HBW.out.size))
          obtain ⟨A2, c2, rfl, hrd2, hl2, hc2, hn2⟩ := ownN_reads hown2 (ents_ok _)
          have HO2 := Lib.hid hown2
          have HRN2 := Lib.hid hrd2
          have hel : (entsE (ps.flatMap (·.1))).length ≤ maxLen := Nat.le_trans hn2 hc2
          have HSW := HBW.out.size
          have HSW2 := hb2.size
          clear hown2 hb2 hrd2 hl2
          generalize hES : entsE (ps.flatMap (·.1)) = es at *
          go_wp2_with fail
          refine (formed_any A2 es.length c2 es w2 HRN2.out (Nat.le_refl _) hel).mono ?_
          rintro e w3 ⟨rfl, hb3⟩
          have HB3 := Lib.hid (HB2.out.trans (hb3.mono HB2.out.size))
          have HO3 := Lib.hid (own_keep HO2.out hb3)
          have HRN3 := Lib.hid (HRN2.out.keep hb3)
          have HSW3 := hb3.size
          clear hb3
          by_cases hf : FormedP es
          · rw [decide_eq_true hf]
            have hlen12 := hf.1
            have HF := Lib.hid hf
            clear hf
            go_wp2_with fail
            refine (wordsof_any t0 A2 es.length c2 es w3 HRN3.out HSW3 (by omega) HF.out).mono ?_
            rintro e w4 ⟨gg, cq, cs, rfl, hgg, hrow, hcq, hcqm, hrw, hb4⟩
            have HB4 := Lib.hid (HB3.out.trans (hb4.mono HB3.out.size))
            have HO4 := Lib.hid (own_keep HO3.out hb4)
            have HRW := Lib.hid hrw
            clear hrow hb4 hrw
            go_wp2
            go_loopw [50] (fun iv wr => ∃ q : Nat, q ≤ i ∧ iv = .int .i64 (q : Int) ∧ Hid (Below w4.heap.size w4 wr) ∧ Hid (∀ j, j < q → (ps.getD j nop).2 = t0 ∧ (ps.getD j nop).1 = partE (size - 2) j (wordsE t0 es))) (fun iv _ => i - (intOf iv).toNat)
            case atStart => exact ⟨0, by omega, rfl, Below.refl _ _, fun j hj => absurd hj (by omega)⟩
            case round =>
              obtain ⟨q, hq, rfl, HBQ, HALL⟩ := hrel
              have HBW2 : Hid (Below w.heap.size w wr) := HB4.out.trans (HBQ.out.mono HB4.out.size)
              have hszq := HBQ.out.size
              by_cases hqk : q < i
              · have hq0 : (0 : Int) ≤ (q : Int) := by omega
                have hq1 : (q : Int) < (i : Int) := by omega
                obtain ⟨Ap, mp, cp, t, c0, c1, hrp, HT, htl2, hmc, hcm, h254⟩ := (HP.out.below HBW2.out).at_ hqk
                obtain ⟨Aq, mq, cq2, hx1, hx2, hx3⟩ := payof_det gg (2 + es.length * 5) cq q size (wordsE t0 es) (by rw [words_len]) hcq hcqm h8 h256 (by omega)
                have hr : Row (wr.alloc (.cells #[.slice Ap mp cp, .int .u64 (t : Int)] 90)) wr.heap.size 90 [.slice Ap mp cp, .int .u64 (t : Int)] := heap_alloc_new _ _
                have d0 : (wr.alloc (.cells #[.slice Ap mp cp, .int .u64 (t : Int)] 90)).cell? ⟨wr.heap.size, 0, none⟩ = some (.slice Ap mp cp) := hr.cell 0
                have d1 : (wr.alloc (.cells #[.slice Ap mp cp, .int .u64 (t : Int)] 90)).cell? ⟨wr.heap.size, 1, none⟩ = some (.int .u64 (t : Int)) := hr.cell 1
                have hba : Below wr.heap.size wr (wr.alloc (.cells #[.slice Ap mp cp, .int .u64 (t : Int)] 90)) := (Below.refl _ wr).alloc (Nat.le_refl _) _
                have HBA : Hid (Below w4.heap.size w4 (wr.alloc (.cells #[.slice Ap mp cp, .int .u64 (t : Int)] 90))) := HBQ.out.alloc hszq _
                have HRP := Lib.hid (hrp.keep hba)
                have HRQ := Lib.hid (hx1 _ _ ((HRW.out.keep HBQ.out).keep (hba.mono hszq)))
                have HX3 : Hid (∀ j, Calls Try.prog 38 #[.slice (some ⟨gg, 0, none⟩) (2 + es.length * 5) cq, .int .i64 q, .int .i64 size] ((wr.alloc (.cells #[.slice Ap mp cp, .int .u64 (t : Int)] 90)).drewN j) fun e w' => e = .returned (.slice Aq mq cq2) ∧ ∃ m, w' = (wr.alloc (.cells #[.slice Ap mp cp, .int .u64 (t : Int)] 90)).drewN m) := fun j => (hx3 _).mono fun e w' h => ⟨h.1, j, h.2.symm⟩
                have hmp : mp ≤ 1000000 := by omega
                have HX4 : Hid (∀ j, Calls Try.prog 48 #[.slice Ap mp cp, .slice Aq mq cq2] ((wr.alloc (.cells #[.slice Ap mp cp, .int .u64 (t : Int)] 90)).drewN j) fun e w' => e = .returned (.bool (decide ((ps.getD q nop).1 = partE (size - 2) q (wordsE t0 es)))) ∧ ∃ m, w' = (wr.alloc (.cells #[.slice Ap mp cp, .int .u64 (t : Int)] 90)).drewN m) := fun j => (weq_any Ap Aq mp mq cp cq2 _ _ _ (HRP.out.drewN j) (HRQ.out.drewN j) hmp).mono fun e w' h => ⟨h.1, by obtain ⟨m, hm⟩ := h.2; exact ⟨j + m, by rw [hm, World.drewN_drewN]⟩⟩
                clear hr hrp hx1 hx3 hba
                by_cases ht : t = t0
                · have gt : ((t : Int) != (t0 : Int)) = false := by simp; omega
                  by_cases hpe : (ps.getD q nop).1 = partE (size - 2) q (wordsE t0 es)
                  · rw [decide_eq_true hpe] at HX4
                    have HALL2 : Hid (∀ j, j < q + 1 → (ps.getD j nop).2 = t0 ∧ (ps.getD j nop).1 = partE (size - 2) j (wordsE t0 es)) := by
                      intro j hj
                      by_cases e : j = q
                      · subst e; exact ⟨by rw [← HT.out]; exact ht, hpe⟩
                      · exact HALL.out j (by omega)
                    clear hpe ht
                    go_wp2
                    go_quiet (with_reducible first | exact HX3.out _ | exact HX4.out _)
                    go_wp2
                    go_roundw
                    case rel => exact ⟨q + 1, by omega, by go_num, below_drewN HBA.out _, HALL2.out⟩
                    case measure => simp [intOf]; omega
                  · rw [decide_eq_false hpe] at HX4
                    have HS : Hid (standE ps sl size = ([], 0)) := stand_no3 (i := q) (by rw [HL.out]; exact hqk) (by rw [hES, ← HT0.out]; exact fun h => hpe h.2)
                    clear hpe ht
                    go_wp2
                    go_quiet (with_reducible first | exact HX3.out _ | exact HX4.out _)
                    go_wp2
                    go_ret2
                    exact HNIL.out _ HS (HB4.out.trans ((below_drewN HBA.out _).mono HB4.out.size))
                · have gt : ((t : Int) != (t0 : Int)) = true := by simp; omega
                  have HS : Hid (standE ps sl size = ([], 0)) := stand_no3 (i := q) (by rw [HL.out]; exact hqk) (by rw [← HT0.out, ← HT.out]; exact fun h => ht h.1)
                  clear ht
                  go_wp2
                  go_quiet (with_reducible first | exact HX3.out _ | exact HX4.out _)
                  go_wp2
                  go_ret2
                  exact HNIL.out _ HS (HB4.out.trans ((below_drewN HBA.out _).mono HB4.out.size))
              · obtain rfl : q = i := by omega
                have HS : Hid (standE ps sl size = (es, t0)) := by
                  have h := stand_yes (size := size) H1.out (by rw [hES]; exact HF.out) (by rw [hES, ← HT0.out, HL.out]; exact HALL.out)
                  rw [hES, ← HT0.out] at h; exact h
                have HO5 := Lib.hid (own_keep HO4.out HBQ.out)
                go_wp2
                go_ret2
                rw [HS.out]
                exact ⟨_, rfl, ownN_base HO5.out HBW.out.size, HBW2.out⟩
          · rw [decide_eq_false hf]
            have HS : Hid (standE ps sl size = ([], 0)) := stand_no2 (by rw [hES]; exact hf)
            clear hf
            go_wp2
            go_ret2
            exact HNIL.out _ HS HB3.out
    · have gne : (((t0 : Int) % 2) != (sl : Int)) = true := by simp; omega
      have HS : Hid (standE ps sl size = ([], 0)) := stand_no1 (by rw [← HT0.out]; exact fun h => hs h.2)
      have htl : t0 ≤ 4611686018427387904 := hg.2
      clear hs
      go_enter Try.func30, Try.ntmps30
      go_wp2_with fail
      refine (HGE.out _).mono ?_; rintro e w1 ⟨rfl, rfl⟩
      go_wp2
      go_ret2
      exact HNIL.out _ HS (Below.refl _ _)
  · rw [decide_eq_false hg] at HGE
    have HS : Hid (standE ps sl size = ([], 0)) := stand_no1 (by rw [← HT0.out]; exact fun h => hg h.1)
    clear hg
    go_enter Try.func30, Try.ntmps30
    go_wp2_with fail
    refine (HGE.out _).mono ?_; rintro e w1 ⟨rfl, rfl⟩
    go_wp2
    go_ret2
    exact HNIL.out _ HS (Below.refl _ _)
end Go.Proofs.Ythdibijkiogpjaa
