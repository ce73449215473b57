/- The reference's Sort. -/
import Derived.Test.YtoimpiimlekakaaTupSrt
import Derived.Deep.AppendLies
namespace Go.Proofs.Ytoimpiimlekakaa
open Go.ChangeShapes Go.WideShapes Go.ChangeAt Go.RowKit

theorem flatV_set : ∀ (l : List Tup) (i : Nat) (t : Tup), i < l.length → (((((flatV l).set (i * 5) (.int .i64 t.a)).set (i * 5 + 1) (.int .i64 t.b)).set (i * 5 + 2) (.int .i64 t.c)).set (i * 5 + 3) (.int .i64 t.d)).set (i * 5 + 4) (.int .i64 t.e) = flatV (l.set i t)
  | [], i, t, h => by simp at h
  | e :: l, 0, t, _ => by simp [flatV, tupC]
  | e :: l, i + 1, t, h => by
    have ih := flatV_set l i t (by simpa using h)
    have hc : flatV (e :: l) = tupC e ++ flatV l := rfl
    have h5 : (tupC e).length = 5 := rfl
    rw [List.set_cons_succ]
    have hc2 : flatV (e :: l.set i t) = tupC e ++ flatV (l.set i t) := rfl
    rw [hc, hc2, ← ih]
    rw [List.set_append_right _ _ (by rw [h5]; omega), List.set_append_right _ _ (by rw [h5]; omega), List.set_append_right _ _ (by rw [h5]; omega), List.set_append_right _ _ (by rw [h5]; omega), List.set_append_right _ _ (by rw [h5]; omega), h5]
    rw [show (i + 1) * 5 - 5 = i * 5 by omega, show (i + 1) * 5 + 1 - 5 = i * 5 + 1 by omega, show (i + 1) * 5 + 2 - 5 = i * 5 + 2 by omega, show (i + 1) * 5 + 3 - 5 = i * 5 + 3 by omega, show (i + 1) * 5 + 4 - 5 = i * 5 + 4 by omega]
/-- a tuple is stored into a row of the call's own -/
theorem ownT_store {w : World} {base g n cap : Nat} {l : List Tup} (h : w.ownsRow base 23 5 (.slice (some ⟨g, 0, none⟩) n cap) n (flatV l)) {i : Nat} (hi : i < l.length) (t : Tup) :
    (((((w.setCell ⟨g, i * 5, none⟩ (.int .i64 t.a)).setCell ⟨g, i * 5 + 1, none⟩ (.int .i64 t.b)).setCell ⟨g, i * 5 + 2, none⟩ (.int .i64 t.c)).setCell ⟨g, i * 5 + 3, none⟩ (.int .i64 t.d)).setCell ⟨g, i * 5 + 4, none⟩ (.int .i64 t.e)).ownsRow base 23 5 (.slice (some ⟨g, 0, none⟩) n cap) n (flatV (l.set i t)) := by
  have h1 := (World.ownsRow.stored h (i * 5) (.int .i64 t.a)).1
  have h2 := (World.ownsRow.stored h1 (i * 5 + 1) (.int .i64 t.b)).1
  have h3 := (World.ownsRow.stored h2 (i * 5 + 2) (.int .i64 t.c)).1
  have h4 := (World.ownsRow.stored h3 (i * 5 + 3) (.int .i64 t.d)).1
  have h5 := (World.ownsRow.stored h4 (i * 5 + 4) (.int .i64 t.e)).1
  rw [flatV_set l i t hi] at h5
  exact h5
theorem below_set5 {B : Nat} {a w : World} (h : Below B a w) {g : Nat} (hg : B ≤ g) (j : Nat) (v0 v1 v2 v3 v4 : Value) : Below B a (((((w.setCell ⟨g, j, none⟩ v0).setCell ⟨g, j + 1, none⟩ v1).setCell ⟨g, j + 2, none⟩ v2).setCell ⟨g, j + 3, none⟩ v3).setCell ⟨g, j + 4, none⟩ v4) :=
  ((((h.setCell (p := ⟨g, j, none⟩) hg v0).setCell (p := ⟨g, j + 1, none⟩) hg v1).setCell (p := ⟨g, j + 2, none⟩) hg v2).setCell (p := ⟨g, j + 3, none⟩) hg v3).setCell (p := ⟨g, j + 4, none⟩) hg v4
/-- what is shifted behind place j -/
def shf (out : List Tup) (t : Tup) (j : Nat) : List Tup := out.take j ++ (if j = out.length then t else out.getD j tup0) :: out.drop j
theorem shf_len (out : List Tup) (t : Tup) {j : Nat} (hj : j ≤ out.length) : (shf out t j).length = out.length + 1 := by
  unfold shf; rw [List.length_append, List.length_cons, List.length_take, List.length_drop]; omega
theorem shf_get (out : List Tup) (t : Tup) {j : Nat} (hj : j ≤ out.length) (q : Nat) : (shf out t j)[q]? = if q < j then out[q]? else if q = j then some (if j = out.length then t else out.getD j tup0) else out[q - 1]? := by
  unfold shf
  have hl : (out.take j).length = j := by rw [List.length_take]; omega
  by_cases h1 : q < j
  · rw [if_pos h1, List.getElem?_append_left (by omega), List.getElem?_take, if_pos h1]
  · rw [if_neg h1, List.getElem?_append_right (by omega), hl]
    by_cases h2 : q = j
    · rw [if_pos h2, h2, Nat.sub_self]; rfl
    · rw [if_neg h2, show q - j = (q - j - 1) + 1 by omega, List.getElem?_cons_succ, List.getElem?_drop, show j + (q - j - 1) = q - 1 by omega]
theorem shf_top (out : List Tup) (t : Tup) : shf out t out.length = out ++ [t] := by
  unfold shf; rw [if_pos rfl, List.take_length, List.drop_length]
theorem shf_step (out : List Tup) (t : Tup) {p : Nat} (hp : p < out.length) : (shf out t (p + 1)).set (p + 1) (out.getD p tup0) = shf out t p := by
  refine List.ext_getElem? fun q => ?_
  have hg : out[p]? = some (out.getD p tup0) := by rw [List.getD_eq_getElem?_getD, List.getElem?_eq_getElem hp]; rfl
  rw [List.getElem?_set, shf_len out t (by omega), shf_get out t (by omega), shf_get out t (by omega)]
  by_cases h1 : p + 1 = q
  · rw [if_pos h1, if_pos (by omega), if_neg (by omega), if_neg (by omega), ← h1, show p + 1 - 1 = p by omega, hg]
  · rw [if_neg h1]
    by_cases h2 : q < p
    · rw [if_pos (by omega), if_pos h2]
    · rw [if_neg h2]
      by_cases h3 : q = p
      · rw [if_pos (by omega), if_pos h3, if_neg (by omega), h3, hg]
      · rw [if_neg (by omega), if_neg (by omega), if_neg h3]
theorem shf_end (out : List Tup) (t : Tup) {k : Nat} (hk : k ≤ out.length) : (shf out t k).set k t = out.take k ++ t :: out.drop k := by
  unfold shf
  have hl : (out.take k).length = k := by rw [List.length_take]; omega
  rw [List.set_append_right _ _ (by omega), hl, Nat.sub_self, List.set_cons_zero]
theorem shf_below (out : List Tup) (t : Tup) {p : Nat} (hp : p < out.length) : (shf out t (p + 1)).getD p tup0 = out.getD p tup0 := by
  rw [List.getD_eq_getElem?_getD, shf_get out t (by omega), if_pos (by omega), ← List.getD_eq_getElem?_getD]
theorem sortB_snoc (o : Tup) (t : Tup) : ∀ (l out : List Tup), sortB o out (l ++ [t]) = insB o (sortB o out l) t
  | [], _ => rfl
  | x :: l, out => sortB_snoc o t l (insB o out x)
theorem ownT_base {w : World} {b b' : Nat} {e : TypeId} {z n : Nat} {v : Value} {xs : List Value} (h : w.ownsRow b e z v n xs) (hb : b' ≤ b) : w.ownsRow b' e z v n xs := by
  obtain ⟨h1, h2⟩ := h
  refine ⟨h1, ?_⟩
  rcases h2 with h2 | ⟨g, cap, cur, hv, hg, r⟩
  · exact .inl h2
  · exact .inr ⟨g, cap, cur, hv, Nat.le_trans hb hg, r⟩
/-- once: of those that are alike the first one alone -/
def insO (o : Tup) (out : List Tup) (t : Tup) : List Tup := if 0 < posB (fun y => decide (cmpT o t y < 0)) out out.length ∧ cmpT o t (out.getD (posB (fun y => decide (cmpT o t y < 0)) out out.length - 1) tup0) = 0 then out else insB o out t
def sortO (o : Tup) : List Tup → List Tup → List Tup
  | out, [] => out
  | out, t :: l => sortO o (insO o out t) l
theorem sortO_snoc (o : Tup) (t : Tup) : ∀ (l out : List Tup), sortO o out (l ++ [t]) = insO o (sortO o out l) t
  | [], _ => rfl
  | x :: l, out => sortO_snoc o t l (insO o out x)
def lessB (o t : Tup) : Tup → Bool := fun y => decide (cmpT o t y < 0)
theorem insB_eq (o : Tup) (out : List Tup) (t : Tup) : insB o out t = out.take (posB (lessB o t) out out.length) ++ t :: out.drop (posB (lessB o t) out out.length) := rfl
theorem ownT_cell {w : World} {base g n cap : Nat} {l : List Tup} (h : w.ownsRow base 23 5 (.slice (some ⟨g, 0, none⟩) n cap) n (flatV l)) {i : Nat} (hi : i < l.length) {j : Nat} {u : Value} (hu : (tupC (l.getD i tup0))[j]? = some u) : w.cell? ⟨g, i * 5 + j, none⟩ = some u := by
  have hn : n = l.length := by have := h.1; rw [flatV_len] at this; omega
  have hj : j < 5 := (List.getElem?_eq_some_iff.1 hu).1
  exact (World.ownsRow.cellAt h (i * 5 + j) (by rw [hn]; omega)).trans (flatV_at l i hi j u hu)
set_option maxHeartbeats 4000000 in
set_option maxRecDepth 100000 in
theorem rsort_any {w : World} (o : Tup) {A0 : Option Addr} {n c0 : Nat} {l : List Tup} (hl : ReadsT w w.heap.size A0 n l) (hn : n ≤ 1000000) : Calls Try.prog 17 #[.slice A0 n c0, .agg #[.int .i64 o.a, .int .i64 o.b, .int .i64 o.c, .int .i64 o.d, .int .i64 o.e], .bool false] w fun e w' => ∃ v m, e = .returned v ∧ w'.ownsRow w.heap.size 23 5 v m (flatV (sortB o [] l)) ∧ m ≤ n ∧ (∀ u ∈ sortB o [] l, TupOk u) ∧ Below w.heap.size w w' := by
  have hr : Row (w.alloc (.cells #[.int .i64 o.a, .int .i64 o.b, .int .i64 o.c, .int .i64 o.d, .int .i64 o.e] 26)) w.heap.size 26 (arrV o) := heap_alloc_new _ _
  have hb0 : Below w.heap.size w (w.alloc (.cells #[.int .i64 o.a, .int .i64 o.b, .int .i64 o.c, .int .i64 o.d, .int .i64 o.e] 26)) := (Below.refl _ _).alloc (Nat.le_refl _) _
  have hsz : (w.alloc (.cells #[.int .i64 o.a, .int .i64 o.b, .int .i64 o.c, .int .i64 o.d, .int .i64 o.e] 26)).heap.size = w.heap.size + 1 := by simp
  have KB : Hid (∀ W, Below (w.heap.size + 1) (w.alloc (.cells #[.int .i64 o.a, .int .i64 o.b, .int .i64 o.c, .int .i64 o.d, .int .i64 o.e] 26)) W → Below w.heap.size w W) := fun W hb => hb0.trans (hb.mono (by omega))
  have KO : Hid (∀ W, Below (w.heap.size + 1) (w.alloc (.cells #[.int .i64 o.a, .int .i64 o.b, .int .i64 o.c, .int .i64 o.d, .int .i64 o.e] 26)) W → Row W w.heap.size 26 (arrV o)) := fun W hb => hr.below hb (by omega)
  have HSZ := Lib.hid (Nat.le_of_eq hsz.symm)
  have HLR := Lib.hid hl
  have HLEN : Hid (l.length = n) := hl.1
  have HTO : Hid (∀ u ∈ l, TupOk u) := hl.2.1
  clear hr hb0 hsz hl
  go_enter Try.func17, Try.ntmps17
  go_upto_region 1 with (fail)
  generalize w.alloc (.cells #[.int .i64 o.a, .int .i64 o.b, .int .i64 o.c, .int .i64 o.d, .int .i64 o.e] 26) = W1 at *
  go_wp2_with fail
  go_loopw [7, 8] (fun ov iv wr => ∃ (i m c : Nat) (A : Option Addr) (out : List Tup), i ≤ n ∧ m ≤ i ∧ iv = .int .i64 (i : Int) ∧ ov = .slice A m c ∧ Hid (Below (w.heap.size + 1) W1 wr) ∧ Hid (wr.ownsRow (w.heap.size + 1) 23 5 (.slice A m c) m (flatV out)) ∧ Hid (∀ u ∈ out, TupOk u) ∧ Hid (out = sortB o [] (l.take i)) ∧ Hid (out.length = m)) (fun _ iv _ => n - (intOf iv).toNat)
  case atStart => exact ⟨0, 0, 0, none, [], by omega, by omega, rfl, rfl, Below.refl _ _, ⟨rfl, .inl ⟨rfl, rfl⟩⟩, (fun u hu => by cases hu), rfl, rfl⟩
  case round =>
    obtain ⟨i, m, c, A, out, hi, hmi, rfl, rfl, HW, HO, HTU, HS, HM⟩ := hrel
    by_cases hlt : i < n
    · have g1 : decide ((i : Int) < (n : Int)) = true := by simp; omega
      have i0 : (0 : Int) ≤ (i : Int) := by omega
      have i1 : (i : Int) < (n : Int) := by omega
      obtain ⟨bb, off, t, rfl, hbb, qx0, qx1, qx2, qx3, qx4, hto, ht⟩ := HLR.out.at_ hlt
      have Hto := Lib.hid hto
      have Hti : Hid (l.take (i + 1) = l.take i ++ [t]) := by unfold Hid; rw [List.take_add_one, ht.out]; rfl
      obtain ⟨ta, tb, tc, td, te⟩ := t
      simp only at qx0 qx1 qx2 qx3 qx4
      have KL : Hid (∀ W, Below (w.heap.size + 1) W1 W → W.cell? ⟨bb, off + i * 5, none⟩ = some (.int .i64 ta) ∧ W.cell? ⟨bb, off + i * 5 + 1, none⟩ = some (.int .i64 tb) ∧ W.cell? ⟨bb, off + i * 5 + 2, none⟩ = some (.int .i64 tc) ∧ W.cell? ⟨bb, off + i * 5 + 3, none⟩ = some (.int .i64 td) ∧ W.cell? ⟨bb, off + i * 5 + 4, none⟩ = some (.int .i64 te) ∧ W.cell? ⟨w.heap.size, 0, none⟩ = some (.int .i64 o.a) ∧ W.cell? ⟨w.heap.size, 1, none⟩ = some (.int .i64 o.b) ∧ W.cell? ⟨w.heap.size, 2, none⟩ = some (.int .i64 o.c) ∧ W.cell? ⟨w.heap.size, 3, none⟩ = some (.int .i64 o.d) ∧ W.cell? ⟨w.heap.size, 4, none⟩ = some (.int .i64 o.e)) := fun W hb => by
        have h := KB.out W hb
        have hr := KO.out W hb
        exact ⟨(h.cell (p := ⟨bb, _, none⟩) hbb).trans qx0, (h.cell (p := ⟨bb, _, none⟩) hbb).trans qx1, (h.cell (p := ⟨bb, _, none⟩) hbb).trans qx2, (h.cell (p := ⟨bb, _, none⟩) hbb).trans qx3, (h.cell (p := ⟨bb, _, none⟩) hbb).trans qx4, hr.cell 0, hr.cell 1, hr.cell 2, hr.cell 3, hr.cell 4⟩
      clear qx0 qx1 qx2 qx3 qx4 hbb hto ht
      go_wp2_with fail
      go_loopw [9] (fun kv wr => ∃ k : Nat, k ≤ m ∧ kv = .int .i64 (k : Int) ∧ Hid (Below (w.heap.size + 1) W1 wr) ∧ Hid (wr.ownsRow (w.heap.size + 1) 23 5 (.slice A m c) m (flatV out)) ∧ Hid (posB (lessB o ⟨ta, tb, tc, td, te⟩) out k = posB (lessB o ⟨ta, tb, tc, td, te⟩) out m)) (fun kv _ => (intOf kv).toNat)
      case atStart => exact ⟨m, Nat.le_refl _, rfl, HW.out, HO.out, rfl⟩
      case round =>
        obtain ⟨k, hk, rfl, HWK, HOK, HP⟩ := hrel
        clear HW HO
        by_cases hk0 : k = 0
        · have HK0 : Hid (k = posB (lessB o ⟨ta, tb, tc, td, te⟩) out m) := by
            have := HP.out
            rw [hk0] at this ⊢
            exact this
          have gk : decide ((k : Int) > 0) = false := by simp; omega
          have gk2 : decide (0 < k) = false := by simp; omega
          have HX : Hid (∀ q, Below (w.heap.size + 1) W1 (wr.drewN q) ∧ (wr.drewN q).ownsRow (w.heap.size + 1) 23 5 (.slice A m c) m (flatV out)) := fun q => ⟨below_dN HWK.out q, ownT_keep HOK.out (below_dN (Below.refl _ _) q)⟩
          clear HP HWK HOK hk0
          go_wp2
          go_quiet (fail)
          have HB2 := Lib.hid (HX.out nq).1
          have HO2 := Lib.hid (HX.out nq).2
          clear HX
          generalize wr.drewN nq = w2 at *
          go_wp2
          go_quiet (fail)
          have HB3 := Lib.hid (below_dN HB2.out nq)
          have HO3 := Lib.hid (ownT_keep HO2.out (below_dN (Below.refl _ _) nq))
          generalize w2.drewN nq = w3 at *
          clear HB2 HO2
          obtain ⟨y0, y1, y2, y3, y4, -, -, -, -, -⟩ := KL.out _ HB3.out
          obtain ⟨it, hi0, hz0, hz1, hz2⟩ := info_parts infoT
          have hbase : w.heap.size + 1 ≤ w3.heap.size := Nat.le_trans HSZ.out HB3.out.size
          go_wp2_with (with_reducible refine stopAt 62 ?_)
          unfold Hid
          refine wpList_append_lies _ rfl _ _ 35 rfl (w.heap.size + 1) 23 it _ 5 40 Try.underlying35 hi0 hz0 hz1 hz2 rfl (by decide) _ m (flatV out) (by rfl) (ownT_keep HO3.out ((Below.refl _ _).alloc (Nat.le_refl _) _)) ⟨w3.heap.size, 0, none⟩ 1 1 (tupC ⟨ta, tb, tc, td, te⟩) (by rfl) (by rfl) (World.news_of_block (cs := #[.int .i64 ta, .int .i64 tb, .int .i64 tc, .int .i64 td, .int .i64 te]) (t := 23) (fr := (0, 0)) (heap_alloc_new w3 _)) (by simp [tupC, Value.oneCell']) (by omega) (by unfold maxLen; omega) (by omega) (by simp; omega) _ rfl ?_
          intro g5 cap5 w4 hown hgr hat _
          rw [← flatV_snoc] at hown
          have hgo : ∀ q, (Value.slice _ m c).ownBlock = some q → w.heap.size + 1 ≤ q := fun q hq => (HO3.out.lt q hq).1
          have HB4 : Hid (Below (w.heap.size + 1) W1 w4) := (HB3.out.alloc hbase _).grown hgr (by simp; omega) hgo
          have HO4 : Hid (w4.ownsRow (w.heap.size + 1) 23 5 (.slice (some ⟨g5, 0, none⟩) (m + 1) cap5) (m + 1) (flatV (shf out ⟨ta, tb, tc, td, te⟩ m))) := by
            have := HM.out
            subst this
            rw [shf_top]; exact hown
          have hg5 : w.heap.size + 1 ≤ g5 := (HO4.out.lt g5 rfl).1
          have Hg5 := Lib.hid hg5
          generalize hm1 : m + 1 = m1 at *
          have Hm1 := Lib.hid hm1
          have hsub1 : (m1 : Int) - 1 = (m : Int) := by omega
          have hwr1 : IntKind.i64.wrap (m : Int) = (m : Int) := by rw [IntKind.wrap_i64]; omega
          clear hown hgr hat hgo hbase y0 y1 y2 y3 y4 HB3 HO3 hg5 hm1
          go_wp2_with fail
          go_loopw [10] (fun jv wr => ∃ j : Nat, k ≤ j ∧ j ≤ m ∧ jv = .int .i64 (j : Int) ∧ Hid (Below (w.heap.size + 1) W1 wr) ∧ Hid (wr.ownsRow (w.heap.size + 1) 23 5 (.slice (some ⟨g5, 0, none⟩) m1 cap5) m1 (flatV (shf out ⟨ta, tb, tc, td, te⟩ j)))) (fun jv _ => (intOf jv).toNat)
          case atStart => exact ⟨m, hk, Nat.le_refl _, (by first | rfl | go_num), HB4.out, HO4.out⟩
          case round =>
            obtain ⟨j, hkj, hjm, rfl, HBJ, HOJ⟩ := hrel
            clear hsub1 hwr1 HB4 HO4
            have hml : out.length = m := HM.out
            have hjl : j < (shf out ⟨ta, tb, tc, td, te⟩ j).length := by rw [shf_len out _ (by omega)]; omega
            obtain ⟨v, hv⟩ : ∃ v, v = (shf out ⟨ta, tb, tc, td, te⟩ j).getD j tup0 := ⟨_, rfl⟩
            have d0 : wr.cell? ⟨g5, j * 5, none⟩ = some (.int .i64 v.a) := ownT_cell HOJ.out hjl (j := 0) (by rw [← hv]; rfl)
            have d1 : wr.cell? ⟨g5, j * 5 + 1, none⟩ = some (.int .i64 v.b) := ownT_cell HOJ.out hjl (j := 1) (by rw [← hv]; rfl)
            have d2 : wr.cell? ⟨g5, j * 5 + 2, none⟩ = some (.int .i64 v.c) := ownT_cell HOJ.out hjl (j := 2) (by rw [← hv]; rfl)
            have d3 : wr.cell? ⟨g5, j * 5 + 3, none⟩ = some (.int .i64 v.d) := ownT_cell HOJ.out hjl (j := 3) (by rw [← hv]; rfl)
            have d4 : wr.cell? ⟨g5, j * 5 + 4, none⟩ = some (.int .i64 v.e) := ownT_cell HOJ.out hjl (j := 4) (by rw [← hv]; rfl)
            have f0 := World.ownsRow.frozenAt HOJ.out (j * 5)
            have f1 := World.ownsRow.frozenAt HOJ.out (j * 5 + 1)
            have f2 := World.ownsRow.frozenAt HOJ.out (j * 5 + 2)
            have f3 := World.ownsRow.frozenAt HOJ.out (j * 5 + 3)
            have f4 := World.ownsRow.frozenAt HOJ.out (j * 5 + 4)
            have j0 : (0 : Int) ≤ (j : Int) := by omega
            have j1 : (j : Int) < (m1 : Int) := by have := Hm1.out; omega
            by_cases hj : k < j
            · have gj : decide ((j : Int) > (k : Int)) = true := by simp; omega
              have gj2 : decide (k < j) = true := by simp; omega
              obtain ⟨p3, hp3⟩ : ∃ p3, p3 + 1 = j := ⟨j - 1, by omega⟩
              have Hp3 := Lib.hid hp3
              have hsub3 : (j : Int) - 1 = (p3 : Int) := by omega
              have hwr3 : IntKind.i64.wrap (p3 : Int) = (p3 : Int) := by rw [IntKind.wrap_i64]; omega
              have p30 : (0 : Int) ≤ (p3 : Int) := by omega
              have p31 : (p3 : Int) < (m1 : Int) := by have := Hm1.out; omega
              obtain ⟨u, hu⟩ : ∃ u, u = out.getD p3 tup0 := ⟨_, rfl⟩
              have hu2 : (shf out ⟨ta, tb, tc, td, te⟩ j).getD p3 tup0 = u := by rw [hu, ← hp3]; exact shf_below out _ (by omega)
              have hpl : p3 < (shf out ⟨ta, tb, tc, td, te⟩ j).length := by omega
              have c0 : wr.cell? ⟨g5, p3 * 5, none⟩ = some (.int .i64 u.a) := ownT_cell HOJ.out hpl (j := 0) (by rw [hu2]; rfl)
              have c1 : wr.cell? ⟨g5, p3 * 5 + 1, none⟩ = some (.int .i64 u.b) := ownT_cell HOJ.out hpl (j := 1) (by rw [hu2]; rfl)
              have c2 : wr.cell? ⟨g5, p3 * 5 + 2, none⟩ = some (.int .i64 u.c) := ownT_cell HOJ.out hpl (j := 2) (by rw [hu2]; rfl)
              have c3 : wr.cell? ⟨g5, p3 * 5 + 3, none⟩ = some (.int .i64 u.d) := ownT_cell HOJ.out hpl (j := 3) (by rw [hu2]; rfl)
              have c4 : wr.cell? ⟨g5, p3 * 5 + 4, none⟩ = some (.int .i64 u.e) := ownT_cell HOJ.out hpl (j := 4) (by rw [hu2]; rfl)
              have HON : Hid ((((((wr.setCell ⟨g5, j * 5, none⟩ (.int .i64 u.a)).setCell ⟨g5, j * 5 + 1, none⟩ (.int .i64 u.b)).setCell ⟨g5, j * 5 + 2, none⟩ (.int .i64 u.c)).setCell ⟨g5, j * 5 + 3, none⟩ (.int .i64 u.d)).setCell ⟨g5, j * 5 + 4, none⟩ (.int .i64 u.e)).ownsRow (w.heap.size + 1) 23 5 (.slice (some ⟨g5, 0, none⟩) m1 cap5) m1 (flatV (shf out ⟨ta, tb, tc, td, te⟩ p3))) := by
                have h := ownT_store HOJ.out hjl u
                have e : (shf out ⟨ta, tb, tc, td, te⟩ j).set j u = shf out ⟨ta, tb, tc, td, te⟩ p3 := by rw [hu, ← hp3]; exact shf_step out _ (by omega)
                rw [e] at h
                exact h
              have HBN : Hid (Below (w.heap.size + 1) W1 (((((wr.setCell ⟨g5, j * 5, none⟩ (.int .i64 u.a)).setCell ⟨g5, j * 5 + 1, none⟩ (.int .i64 u.b)).setCell ⟨g5, j * 5 + 2, none⟩ (.int .i64 u.c)).setCell ⟨g5, j * 5 + 3, none⟩ (.int .i64 u.d)).setCell ⟨g5, j * 5 + 4, none⟩ (.int .i64 u.e))) := below_set5 HBJ.out Hg5.out _ _ _ _ _ _
              clear HOJ HBJ hu hu2 hpl hjl hv hml hp3
              go_wp2
              go_roundw
              case rel => exact ⟨p3, by have := Hp3.out; omega, by have := Hp3.out; omega, (by first | rfl | go_num), HBN.out, HON.out⟩
              case measure => have := Hp3.out; simp [intOf]; omega
            · have hjk : j = k := by omega
              subst hjk
              have gj : decide ((j : Int) > (j : Int)) = false := by simp
              have gj2 : decide (j < j) = false := by simp
              obtain ⟨y0, y1, y2, y3, y4, -, -, -, -, -⟩ := KL.out _ HBJ.out
              have HON : Hid ((((((wr.setCell ⟨g5, j * 5, none⟩ (.int .i64 ta)).setCell ⟨g5, j * 5 + 1, none⟩ (.int .i64 tb)).setCell ⟨g5, j * 5 + 2, none⟩ (.int .i64 tc)).setCell ⟨g5, j * 5 + 3, none⟩ (.int .i64 td)).setCell ⟨g5, j * 5 + 4, none⟩ (.int .i64 te)).ownsRow (w.heap.size + 1) 23 5 (.slice (some ⟨g5, 0, none⟩) m1 cap5) m1 (flatV (insB o out ⟨ta, tb, tc, td, te⟩))) := by
                have h := ownT_store HOJ.out hjl ⟨ta, tb, tc, td, te⟩
                have e : (shf out ⟨ta, tb, tc, td, te⟩ j).set j ⟨ta, tb, tc, td, te⟩ = insB o out ⟨ta, tb, tc, td, te⟩ := by
                  rw [shf_end out _ (by omega), insB_eq, hml, ← HK0.out]
                rw [e] at h
                exact h
              have HBN : Hid (Below (w.heap.size + 1) W1 (((((wr.setCell ⟨g5, j * 5, none⟩ (.int .i64 ta)).setCell ⟨g5, j * 5 + 1, none⟩ (.int .i64 tb)).setCell ⟨g5, j * 5 + 2, none⟩ (.int .i64 tc)).setCell ⟨g5, j * 5 + 3, none⟩ (.int .i64 td)).setCell ⟨g5, j * 5 + 4, none⟩ (.int .i64 te))) := below_set5 HBJ.out Hg5.out _ _ _ _ _ _
              have HSN : Hid (insB o out ⟨ta, tb, tc, td, te⟩ = sortB o [] (l.take (i + 1))) := by
                unfold Hid
                rw [Hti.out, sortB_snoc, ← HS.out]
              have HTN : Hid (∀ u ∈ insB o out ⟨ta, tb, tc, td, te⟩, TupOk u) := by
                intro u hu
                rw [insB_eq] at hu
                rcases List.mem_append.1 hu with hu | hu
                · exact HTU.out u (List.mem_of_mem_take hu)
                · rcases List.mem_cons.1 hu with rfl | hu
                  · exact Hto.out
                  · exact HTU.out u (List.mem_of_mem_drop hu)
              have HMN : Hid ((insB o out ⟨ta, tb, tc, td, te⟩).length = m1) := by unfold Hid; rw [insB_len, hml]; exact Hm1.out
              clear HOJ HBJ hjl hv hml HS HTU HK0
              go_wp2
              go_roundw
              case rel => exact ⟨i + 1, m1, cap5, _, insB o out ⟨ta, tb, tc, td, te⟩, by omega, by have := Hm1.out; omega, by go_num, rfl, HBN.out, HON.out, HTN.out, HSN.out, HMN.out⟩
              case measure => simp [intOf]; omega
        · obtain ⟨p, hp⟩ : ∃ p, p + 1 = k := ⟨k - 1, by omega⟩
          have Hp := Lib.hid hp
          have gk : decide ((k : Int) > 0) = true := by simp; omega
          have gk2 : decide (0 < k) = true := by simp; omega
          have hsub : (k : Int) - 1 = (p : Int) := by omega
          have hwr : IntKind.i64.wrap (p : Int) = (p : Int) := by rw [IntKind.wrap_i64]; omega
          have p0 : (0 : Int) ≤ (p : Int) := by omega
          have p1 : (p : Int) < (m : Int) := by omega
          obtain ⟨g, cap, hA, _, _⟩ := HOK.out.form (by omega)
          injection hA with hA1 hA2 hA3
          subst hA1 hA3
          obtain ⟨y, hy⟩ : ∃ y, y = out.getD p tup0 := ⟨_, rfl⟩
          have HY := Lib.hid hy
          have hpl : p < out.length := by have := HM.out; omega
          have KY : Hid (∀ W : World, W.ownsRow (w.heap.size + 1) 23 5 (.slice (some ⟨g, 0, none⟩) m c) m (flatV out) → W.cell? ⟨g, p * 5, none⟩ = some (.int .i64 y.a) ∧ W.cell? ⟨g, p * 5 + 1, none⟩ = some (.int .i64 y.b) ∧ W.cell? ⟨g, p * 5 + 2, none⟩ = some (.int .i64 y.c) ∧ W.cell? ⟨g, p * 5 + 3, none⟩ = some (.int .i64 y.d) ∧ W.cell? ⟨g, p * 5 + 4, none⟩ = some (.int .i64 y.e)) := fun W h =>
            ⟨ownT_cell h hpl (j := 0) (by rw [← hy]; rfl), ownT_cell h hpl (j := 1) (by rw [← hy]; rfl), ownT_cell h hpl (j := 2) (by rw [← hy]; rfl), ownT_cell h hpl (j := 3) (by rw [← hy]; rfl), ownT_cell h hpl (j := 4) (by rw [← hy]; rfl)⟩
          clear hy hp hpl
          obtain ⟨ya, yb, yc, yd, ye⟩ := y
          simp only at KY
          have KS : Hid (∀ W, Below (w.heap.size + 1) W1 W → W.ownsRow (w.heap.size + 1) 23 5 (.slice (some ⟨g, 0, none⟩) m c) m (flatV out) → W.cell? ⟨bb, off + i * 5, none⟩ = some (.int .i64 ta) ∧ W.cell? ⟨bb, off + i * 5 + 1, none⟩ = some (.int .i64 tb) ∧ W.cell? ⟨bb, off + i * 5 + 2, none⟩ = some (.int .i64 tc) ∧ W.cell? ⟨bb, off + i * 5 + 3, none⟩ = some (.int .i64 td) ∧ W.cell? ⟨bb, off + i * 5 + 4, none⟩ = some (.int .i64 te) ∧ W.cell? ⟨g, p * 5, none⟩ = some (.int .i64 ya) ∧ W.cell? ⟨g, p * 5 + 1, none⟩ = some (.int .i64 yb) ∧ W.cell? ⟨g, p * 5 + 2, none⟩ = some (.int .i64 yc) ∧ W.cell? ⟨g, p * 5 + 3, none⟩ = some (.int .i64 yd) ∧ W.cell? ⟨g, p * 5 + 4, none⟩ = some (.int .i64 ye) ∧ W.cell? ⟨w.heap.size, 0, none⟩ = some (.int .i64 o.a) ∧ W.cell? ⟨w.heap.size, 1, none⟩ = some (.int .i64 o.b) ∧ W.cell? ⟨w.heap.size, 2, none⟩ = some (.int .i64 o.c) ∧ W.cell? ⟨w.heap.size, 3, none⟩ = some (.int .i64 o.d) ∧ W.cell? ⟨w.heap.size, 4, none⟩ = some (.int .i64 o.e)) := fun W h1 h2 => by
            obtain ⟨a0, a1, a2, a3, a4, b0, b1, b2, b3, b4⟩ := KL.out W h1
            obtain ⟨c0, c1, c2, c3, c4⟩ := KY.out W h2
            exact ⟨a0, a1, a2, a3, a4, c0, c1, c2, c3, c4, b0, b1, b2, b3, b4⟩
          have hbd : Below (w.heap.size + 1) W1 wr.drew := ⟨HWK.out.os, HWK.out.tape, HWK.out.output, HWK.out.size, HWK.out.block⟩
          have hod : wr.drew.ownsRow (w.heap.size + 1) 23 5 (.slice (some ⟨g, 0, none⟩) m c) m (flatV out) := HOK.out
          have HF : Hid (Calls Try.prog 12 #[.agg #[.int .i64 ta, .int .i64 tb, .int .i64 tc, .int .i64 td, .int .i64 te], .agg #[.int .i64 ya, .int .i64 yb, .int .i64 yc, .int .i64 yd, .int .i64 ye], .agg #[.int .i64 o.a, .int .i64 o.b, .int .i64 o.c, .int .i64 o.d, .int .i64 o.e]] wr.drew fun e w' => e = .returned (.int .i64 (cmpT o ⟨ta, tb, tc, td, te⟩ ⟨ya, yb, yc, yd, ye⟩)) ∧ Below (w.heap.size + 1) W1 w' ∧ w'.ownsRow (w.heap.size + 1) 23 5 (.slice (some ⟨g, 0, none⟩) m c) m (flatV out)) := by
            refine (rcmp_any o ⟨ta, tb, tc, td, te⟩ ⟨ya, yb, yc, yd, ye⟩ wr.drew).mono ?_
            rintro e w' ⟨he, hb⟩
            exact ⟨he, hbd.trans (hb.mono (Nat.le_trans HSZ.out hbd.size)), ownT_keep hod hb⟩
          have HCM : Hid (lessB o ⟨ta, tb, tc, td, te⟩ (out.getD p tup0) = decide (cmpT o ⟨ta, tb, tc, td, te⟩ ⟨ya, yb, yc, yd, ye⟩ < 0)) := by unfold Hid; rw [← HY.out]; rfl
          obtain ⟨y0, y1, y2, y3, y4, y5, y6, y7, y8, y9, y10, y11, y12, y13, y14⟩ := KS.out _ hbd hod
          generalize cmpT o ⟨ta, tb, tc, td, te⟩ ⟨ya, yb, yc, yd, ye⟩ = cm at *
          clear hbd hod HWK HOK HY
          go_wp2
          go_region_held3 (fun W => W.cell? ⟨bb, off + i * 5, none⟩ = some (.int .i64 ta) ∧ W.cell? ⟨bb, off + i * 5 + 1, none⟩ = some (.int .i64 tb) ∧ W.cell? ⟨bb, off + i * 5 + 2, none⟩ = some (.int .i64 tc) ∧ W.cell? ⟨bb, off + i * 5 + 3, none⟩ = some (.int .i64 td) ∧ W.cell? ⟨bb, off + i * 5 + 4, none⟩ = some (.int .i64 te) ∧ W.cell? ⟨g, p * 5, none⟩ = some (.int .i64 ya) ∧ W.cell? ⟨g, p * 5 + 1, none⟩ = some (.int .i64 yb) ∧ W.cell? ⟨g, p * 5 + 2, none⟩ = some (.int .i64 yc) ∧ W.cell? ⟨g, p * 5 + 3, none⟩ = some (.int .i64 yd) ∧ W.cell? ⟨g, p * 5 + 4, none⟩ = some (.int .i64 ye) ∧ W.cell? ⟨w.heap.size, 0, none⟩ = some (.int .i64 o.a) ∧ W.cell? ⟨w.heap.size, 1, none⟩ = some (.int .i64 o.b) ∧ W.cell? ⟨w.heap.size, 2, none⟩ = some (.int .i64 o.c) ∧ W.cell? ⟨w.heap.size, 3, none⟩ = some (.int .i64 o.d) ∧ W.cell? ⟨w.heap.size, 4, none⟩ = some (.int .i64 o.e)) (first | with_reducible exact ⟨y0, y1, y2, y3, y4, y5, y6, y7, y8, y9, y10, y11, y12, y13, y14⟩ | with_reducible exact q2)
            (first
              | (go_at_call 12; (with_reducible refine HF.out.mono ?_); rintro e w2 ⟨rfl, h2, h3⟩; have q2 := KS.out _ h2 h3))
          have HB2 := Lib.hid h2
          have HO2 := Lib.hid h3
          clear hwr p0 p1 h2 h3 q2 HF y0 y1 y2 y3 y4 y5 y6 y7 y8 y9 y10 y11 y12 y13 y14 KS KY
          by_cases hc : cm < 0
          · have HP2 : Hid (posB (lessB o ⟨ta, tb, tc, td, te⟩) out p = posB (lessB o ⟨ta, tb, tc, td, te⟩) out m) := by
              have h1 := HP.out
              rw [← Hp.out, posB, if_pos (by rw [HCM.out]; exact decide_eq_true hc)] at h1
              exact h1
            have gc : decide (cm < 0) = true := by simpa using hc
            clear HP HCM
            go_wp2
            go_roundw
            case rel => exact ⟨p, by have := Hp.out; omega, (by first | rfl | go_num), HB2.out, HO2.out, HP2.out⟩
            case measure => have := Hp.out; simp [intOf]; omega
          · have HK0 : Hid (k = posB (lessB o ⟨ta, tb, tc, td, te⟩) out m) := by
              have h1 := HP.out
              rw [← Hp.out, posB, if_neg (by rw [HCM.out]; simpa using hc)] at h1
              unfold Hid
              rw [← Hp.out]; exact h1
            have gc : decide (cm < 0) = false := by simpa using hc
            have hc2 : 0 ≤ cm := by omega
            clear HP HCM hsub
            go_wp2
            go_quiet (fail)
            have HB3 := Lib.hid (below_dN HB2.out nq)
            have HO3 := Lib.hid (ownT_keep HO2.out (below_dN (Below.refl _ _) nq))
            generalize w2.drewN nq = w3 at *
            clear HB2 HO2
            obtain ⟨y0, y1, y2, y3, y4, -, -, -, -, -⟩ := KL.out _ HB3.out
            obtain ⟨it, hi0, hz0, hz1, hz2⟩ := info_parts infoT
            have hbase : w.heap.size + 1 ≤ w3.heap.size := Nat.le_trans HSZ.out HB3.out.size
            go_wp2_with (with_reducible refine stopAt 62 ?_)
            unfold Hid
            refine wpList_append_lies _ rfl _ _ 35 rfl (w.heap.size + 1) 23 it _ 5 40 Try.underlying35 hi0 hz0 hz1 hz2 rfl (by decide) _ m (flatV out) (by rfl) (ownT_keep HO3.out ((Below.refl _ _).alloc (Nat.le_refl _) _)) ⟨w3.heap.size, 0, none⟩ 1 1 (tupC ⟨ta, tb, tc, td, te⟩) (by rfl) (by rfl) (World.news_of_block (cs := #[.int .i64 ta, .int .i64 tb, .int .i64 tc, .int .i64 td, .int .i64 te]) (t := 23) (fr := (0, 0)) (heap_alloc_new w3 _)) (by simp [tupC, Value.oneCell']) (by omega) (by unfold maxLen; omega) (by omega) (by simp; omega) _ rfl ?_
            intro g5 cap5 w4 hown hgr hat _
            rw [← flatV_snoc] at hown
            have hgo : ∀ q, (Value.slice _ m c).ownBlock = some q → w.heap.size + 1 ≤ q := fun q hq => (HO3.out.lt q hq).1
            have HB4 : Hid (Below (w.heap.size + 1) W1 w4) := (HB3.out.alloc hbase _).grown hgr (by simp; omega) hgo
            have HO4 : Hid (w4.ownsRow (w.heap.size + 1) 23 5 (.slice (some ⟨g5, 0, none⟩) (m + 1) cap5) (m + 1) (flatV (shf out ⟨ta, tb, tc, td, te⟩ m))) := by
              have := HM.out
              subst this
              rw [shf_top]; exact hown
            have hg5 : w.heap.size + 1 ≤ g5 := (HO4.out.lt g5 rfl).1
            have Hg5 := Lib.hid hg5
            generalize hm1 : m + 1 = m1 at *
            have Hm1 := Lib.hid hm1
            have hsub1 : (m1 : Int) - 1 = (m : Int) := by omega
            have hwr1 : IntKind.i64.wrap (m : Int) = (m : Int) := by rw [IntKind.wrap_i64]; omega
            clear hown hgr hat hgo hbase y0 y1 y2 y3 y4 HB3 HO3 hg5 hm1
            go_wp2_with fail
            go_loopw [10] (fun jv wr => ∃ j : Nat, k ≤ j ∧ j ≤ m ∧ jv = .int .i64 (j : Int) ∧ Hid (Below (w.heap.size + 1) W1 wr) ∧ Hid (wr.ownsRow (w.heap.size + 1) 23 5 (.slice (some ⟨g5, 0, none⟩) m1 cap5) m1 (flatV (shf out ⟨ta, tb, tc, td, te⟩ j)))) (fun jv _ => (intOf jv).toNat)
            case atStart => exact ⟨m, hk, Nat.le_refl _, (by first | rfl | go_num), HB4.out, HO4.out⟩
            case round =>
              obtain ⟨j, hkj, hjm, rfl, HBJ, HOJ⟩ := hrel
              clear hsub1 hwr1 HB4 HO4
              have hml : out.length = m := HM.out
              have hjl : j < (shf out ⟨ta, tb, tc, td, te⟩ j).length := by rw [shf_len out _ (by omega)]; omega
              obtain ⟨v, hv⟩ : ∃ v, v = (shf out ⟨ta, tb, tc, td, te⟩ j).getD j tup0 := ⟨_, rfl⟩
              have d0 : wr.cell? ⟨g5, j * 5, none⟩ = some (.int .i64 v.a) := ownT_cell HOJ.out hjl (j := 0) (by rw [← hv]; rfl)
              have d1 : wr.cell? ⟨g5, j * 5 + 1, none⟩ = some (.int .i64 v.b) := ownT_cell HOJ.out hjl (j := 1) (by rw [← hv]; rfl)
              have d2 : wr.cell? ⟨g5, j * 5 + 2, none⟩ = some (.int .i64 v.c) := ownT_cell HOJ.out hjl (j := 2) (by rw [← hv]; rfl)
              have d3 : wr.cell? ⟨g5, j * 5 + 3, none⟩ = some (.int .i64 v.d) := ownT_cell HOJ.out hjl (j := 3) (by rw [← hv]; rfl)
              have d4 : wr.cell? ⟨g5, j * 5 + 4, none⟩ = some (.int .i64 v.e) := ownT_cell HOJ.out hjl (j := 4) (by rw [← hv]; rfl)
              have f0 := World.ownsRow.frozenAt HOJ.out (j * 5)
              have f1 := World.ownsRow.frozenAt HOJ.out (j * 5 + 1)
              have f2 := World.ownsRow.frozenAt HOJ.out (j * 5 + 2)
              have f3 := World.ownsRow.frozenAt HOJ.out (j * 5 + 3)
              have f4 := World.ownsRow.frozenAt HOJ.out (j * 5 + 4)
              have j0 : (0 : Int) ≤ (j : Int) := by omega
              have j1 : (j : Int) < (m1 : Int) := by have := Hm1.out; omega
              by_cases hj : k < j
              · have gj : decide ((j : Int) > (k : Int)) = true := by simp; omega
                have gj2 : decide (k < j) = true := by simp; omega
                obtain ⟨p3, hp3⟩ : ∃ p3, p3 + 1 = j := ⟨j - 1, by omega⟩
                have Hp3 := Lib.hid hp3
                have hsub3 : (j : Int) - 1 = (p3 : Int) := by omega
                have hwr3 : IntKind.i64.wrap (p3 : Int) = (p3 : Int) := by rw [IntKind.wrap_i64]; omega
                have p30 : (0 : Int) ≤ (p3 : Int) := by omega
                have p31 : (p3 : Int) < (m1 : Int) := by have := Hm1.out; omega
                obtain ⟨u, hu⟩ : ∃ u, u = out.getD p3 tup0 := ⟨_, rfl⟩
                have hu2 : (shf out ⟨ta, tb, tc, td, te⟩ j).getD p3 tup0 = u := by rw [hu, ← hp3]; exact shf_below out _ (by omega)
                have hpl : p3 < (shf out ⟨ta, tb, tc, td, te⟩ j).length := by omega
                have c0 : wr.cell? ⟨g5, p3 * 5, none⟩ = some (.int .i64 u.a) := ownT_cell HOJ.out hpl (j := 0) (by rw [hu2]; rfl)
                have c1 : wr.cell? ⟨g5, p3 * 5 + 1, none⟩ = some (.int .i64 u.b) := ownT_cell HOJ.out hpl (j := 1) (by rw [hu2]; rfl)
                have c2 : wr.cell? ⟨g5, p3 * 5 + 2, none⟩ = some (.int .i64 u.c) := ownT_cell HOJ.out hpl (j := 2) (by rw [hu2]; rfl)
                have c3 : wr.cell? ⟨g5, p3 * 5 + 3, none⟩ = some (.int .i64 u.d) := ownT_cell HOJ.out hpl (j := 3) (by rw [hu2]; rfl)
                have c4 : wr.cell? ⟨g5, p3 * 5 + 4, none⟩ = some (.int .i64 u.e) := ownT_cell HOJ.out hpl (j := 4) (by rw [hu2]; rfl)
                have HON : Hid ((((((wr.setCell ⟨g5, j * 5, none⟩ (.int .i64 u.a)).setCell ⟨g5, j * 5 + 1, none⟩ (.int .i64 u.b)).setCell ⟨g5, j * 5 + 2, none⟩ (.int .i64 u.c)).setCell ⟨g5, j * 5 + 3, none⟩ (.int .i64 u.d)).setCell ⟨g5, j * 5 + 4, none⟩ (.int .i64 u.e)).ownsRow (w.heap.size + 1) 23 5 (.slice (some ⟨g5, 0, none⟩) m1 cap5) m1 (flatV (shf out ⟨ta, tb, tc, td, te⟩ p3))) := by
                  have h := ownT_store HOJ.out hjl u
                  have e : (shf out ⟨ta, tb, tc, td, te⟩ j).set j u = shf out ⟨ta, tb, tc, td, te⟩ p3 := by rw [hu, ← hp3]; exact shf_step out _ (by omega)
                  rw [e] at h
                  exact h
                have HBN : Hid (Below (w.heap.size + 1) W1 (((((wr.setCell ⟨g5, j * 5, none⟩ (.int .i64 u.a)).setCell ⟨g5, j * 5 + 1, none⟩ (.int .i64 u.b)).setCell ⟨g5, j * 5 + 2, none⟩ (.int .i64 u.c)).setCell ⟨g5, j * 5 + 3, none⟩ (.int .i64 u.d)).setCell ⟨g5, j * 5 + 4, none⟩ (.int .i64 u.e))) := below_set5 HBJ.out Hg5.out _ _ _ _ _ _
                clear HOJ HBJ hu hu2 hpl hjl hv hml hp3
                go_wp2
                go_roundw
                case rel => exact ⟨p3, by have := Hp3.out; omega, by have := Hp3.out; omega, (by first | rfl | go_num), HBN.out, HON.out⟩
                case measure => have := Hp3.out; simp [intOf]; omega
              · have hjk : j = k := by omega
                subst hjk
                have gj : decide ((j : Int) > (j : Int)) = false := by simp
                have gj2 : decide (j < j) = false := by simp
                obtain ⟨y0, y1, y2, y3, y4, -, -, -, -, -⟩ := KL.out _ HBJ.out
                have HON : Hid ((((((wr.setCell ⟨g5, j * 5, none⟩ (.int .i64 ta)).setCell ⟨g5, j * 5 + 1, none⟩ (.int .i64 tb)).setCell ⟨g5, j * 5 + 2, none⟩ (.int .i64 tc)).setCell ⟨g5, j * 5 + 3, none⟩ (.int .i64 td)).setCell ⟨g5, j * 5 + 4, none⟩ (.int .i64 te)).ownsRow (w.heap.size + 1) 23 5 (.slice (some ⟨g5, 0, none⟩) m1 cap5) m1 (flatV (insB o out ⟨ta, tb, tc, td, te⟩))) := by
                  have h := ownT_store HOJ.out hjl ⟨ta, tb, tc, td, te⟩
                  have e : (shf out ⟨ta, tb, tc, td, te⟩ j).set j ⟨ta, tb, tc, td, te⟩ = insB o out ⟨ta, tb, tc, td, te⟩ := by
                    rw [shf_end out _ (by omega), insB_eq, hml, ← HK0.out]
                  rw [e] at h
                  exact h
                have HBN : Hid (Below (w.heap.size + 1) W1 (((((wr.setCell ⟨g5, j * 5, none⟩ (.int .i64 ta)).setCell ⟨g5, j * 5 + 1, none⟩ (.int .i64 tb)).setCell ⟨g5, j * 5 + 2, none⟩ (.int .i64 tc)).setCell ⟨g5, j * 5 + 3, none⟩ (.int .i64 td)).setCell ⟨g5, j * 5 + 4, none⟩ (.int .i64 te))) := below_set5 HBJ.out Hg5.out _ _ _ _ _ _
                have HSN : Hid (insB o out ⟨ta, tb, tc, td, te⟩ = sortB o [] (l.take (i + 1))) := by
                  unfold Hid
                  rw [Hti.out, sortB_snoc, ← HS.out]
                have HTN : Hid (∀ u ∈ insB o out ⟨ta, tb, tc, td, te⟩, TupOk u) := by
                  intro u hu
                  rw [insB_eq] at hu
                  rcases List.mem_append.1 hu with hu | hu
                  · exact HTU.out u (List.mem_of_mem_take hu)
                  · rcases List.mem_cons.1 hu with rfl | hu
                    · exact Hto.out
                    · exact HTU.out u (List.mem_of_mem_drop hu)
                have HMN : Hid ((insB o out ⟨ta, tb, tc, td, te⟩).length = m1) := by unfold Hid; rw [insB_len, hml]; exact Hm1.out
                clear HOJ HBJ hjl hv hml HS HTU HK0
                go_wp2
                go_roundw
                case rel => exact ⟨i + 1, m1, cap5, _, insB o out ⟨ta, tb, tc, td, te⟩, by omega, by have := Hm1.out; omega, by go_num, rfl, HBN.out, HON.out, HTN.out, HSN.out, HMN.out⟩
                case measure => simp [intOf]; omega
    · obtain rfl : i = n := by omega
      have g1 : decide ((i : Int) < (i : Int)) = false := by simp
      have HE : Hid (∃ v m', (Value.slice A m c) = v ∧ wr.ownsRow w.heap.size 23 5 v m' (flatV (sortB o [] l)) ∧ m' ≤ i ∧ (∀ u ∈ sortB o [] l, TupOk u) ∧ Below w.heap.size w wr) := by
        have h1 := HS.out
        rw [List.take_of_length_le (by have := HLEN.out; omega)] at h1
        refine ⟨_, m, rfl, ?_, hmi, by rw [← h1]; exact HTU.out, KB.out _ HW.out⟩
        rw [← h1]
        exact ownT_base HO.out (by omega)
      clear HS HTU HO HW
      go_wp2
      go_ret
      obtain ⟨v, m', rfl, e2⟩ := HE.out
      exact ⟨_, m', rfl, e2⟩
set_option maxHeartbeats 4000000 in
set_option maxRecDepth 100000 in
theorem rsort_once {w : World} (o : Tup) {A0 : Option Addr} {n c0 : Nat} {l : List Tup} (hl : ReadsT w w.heap.size A0 n l) (hn : n ≤ 1000000) : Calls Try.prog 17 #[.slice A0 n c0, .agg #[.int .i64 o.a, .int .i64 o.b, .int .i64 o.c, .int .i64 o.d, .int .i64 o.e], .bool true] w fun e w' => ∃ v m, e = .returned v ∧ w'.ownsRow w.heap.size 23 5 v m (flatV (sortO o [] l)) ∧ m ≤ n ∧ (∀ u ∈ sortO o [] l, TupOk u) ∧ Below w.heap.size w w' := by
  have hr : Row (w.alloc (.cells #[.int .i64 o.a, .int .i64 o.b, .int .i64 o.c, .int .i64 o.d, .int .i64 o.e] 26)) w.heap.size 26 (arrV o) := heap_alloc_new _ _
  have hb0 : Below w.heap.size w (w.alloc (.cells #[.int .i64 o.a, .int .i64 o.b, .int .i64 o.c, .int .i64 o.d, .int .i64 o.e] 26)) := (Below.refl _ _).alloc (Nat.le_refl _) _
  have hsz : (w.alloc (.cells #[.int .i64 o.a, .int .i64 o.b, .int .i64 o.c, .int .i64 o.d, .int .i64 o.e] 26)).heap.size = w.heap.size + 1 := by simp
  have KB : Hid (∀ W, Below (w.heap.size + 1) (w.alloc (.cells #[.int .i64 o.a, .int .i64 o.b, .int .i64 o.c, .int .i64 o.d, .int .i64 o.e] 26)) W → Below w.heap.size w W) := fun W hb => hb0.trans (hb.mono (by omega))
  have KO : Hid (∀ W, Below (w.heap.size + 1) (w.alloc (.cells #[.int .i64 o.a, .int .i64 o.b, .int .i64 o.c, .int .i64 o.d, .int .i64 o.e] 26)) W → Row W w.heap.size 26 (arrV o)) := fun W hb => hr.below hb (by omega)
  have HSZ := Lib.hid (Nat.le_of_eq hsz.symm)
  have HLR := Lib.hid hl
  have HLEN : Hid (l.length = n) := hl.1
  have HTO : Hid (∀ u ∈ l, TupOk u) := hl.2.1
  clear hr hb0 hsz hl
  go_enter Try.func17, Try.ntmps17
  go_upto_region 1 with (fail)
  generalize w.alloc (.cells #[.int .i64 o.a, .int .i64 o.b, .int .i64 o.c, .int .i64 o.d, .int .i64 o.e] 26) = W1 at *
  go_wp2_with fail
  go_loopw [7, 8] (fun ov iv wr => ∃ (i m c : Nat) (A : Option Addr) (out : List Tup), i ≤ n ∧ m ≤ i ∧ iv = .int .i64 (i : Int) ∧ ov = .slice A m c ∧ Hid (Below (w.heap.size + 1) W1 wr) ∧ Hid (wr.ownsRow (w.heap.size + 1) 23 5 (.slice A m c) m (flatV out)) ∧ Hid (∀ u ∈ out, TupOk u) ∧ Hid (out = sortO o [] (l.take i)) ∧ Hid (out.length = m)) (fun _ iv _ => n - (intOf iv).toNat)
  case atStart => exact ⟨0, 0, 0, none, [], by omega, by omega, rfl, rfl, Below.refl _ _, ⟨rfl, .inl ⟨rfl, rfl⟩⟩, (fun u hu => by cases hu), rfl, rfl⟩
  case round =>
    obtain ⟨i, m, c, A, out, hi, hmi, rfl, rfl, HW, HO, HTU, HS, HM⟩ := hrel
    by_cases hlt : i < n
    · have g1 : decide ((i : Int) < (n : Int)) = true := by simp; omega
      have i0 : (0 : Int) ≤ (i : Int) := by omega
      have i1 : (i : Int) < (n : Int) := by omega
      obtain ⟨bb, off, t, rfl, hbb, qx0, qx1, qx2, qx3, qx4, hto, ht⟩ := HLR.out.at_ hlt
      have Hto := Lib.hid hto
      have Hti : Hid (l.take (i + 1) = l.take i ++ [t]) := by unfold Hid; rw [List.take_add_one, ht.out]; rfl
      obtain ⟨ta, tb, tc, td, te⟩ := t
      simp only at qx0 qx1 qx2 qx3 qx4
      have KL : Hid (∀ W, Below (w.heap.size + 1) W1 W → W.cell? ⟨bb, off + i * 5, none⟩ = some (.int .i64 ta) ∧ W.cell? ⟨bb, off + i * 5 + 1, none⟩ = some (.int .i64 tb) ∧ W.cell? ⟨bb, off + i * 5 + 2, none⟩ = some (.int .i64 tc) ∧ W.cell? ⟨bb, off + i * 5 + 3, none⟩ = some (.int .i64 td) ∧ W.cell? ⟨bb, off + i * 5 + 4, none⟩ = some (.int .i64 te) ∧ W.cell? ⟨w.heap.size, 0, none⟩ = some (.int .i64 o.a) ∧ W.cell? ⟨w.heap.size, 1, none⟩ = some (.int .i64 o.b) ∧ W.cell? ⟨w.heap.size, 2, none⟩ = some (.int .i64 o.c) ∧ W.cell? ⟨w.heap.size, 3, none⟩ = some (.int .i64 o.d) ∧ W.cell? ⟨w.heap.size, 4, none⟩ = some (.int .i64 o.e)) := fun W hb => by
        have h := KB.out W hb
        have hr := KO.out W hb
        exact ⟨(h.cell (p := ⟨bb, _, none⟩) hbb).trans qx0, (h.cell (p := ⟨bb, _, none⟩) hbb).trans qx1, (h.cell (p := ⟨bb, _, none⟩) hbb).trans qx2, (h.cell (p := ⟨bb, _, none⟩) hbb).trans qx3, (h.cell (p := ⟨bb, _, none⟩) hbb).trans qx4, hr.cell 0, hr.cell 1, hr.cell 2, hr.cell 3, hr.cell 4⟩
      clear qx0 qx1 qx2 qx3 qx4 hbb hto ht
      go_wp2_with fail
      go_loopw [9] (fun kv wr => ∃ k : Nat, k ≤ m ∧ kv = .int .i64 (k : Int) ∧ Hid (Below (w.heap.size + 1) W1 wr) ∧ Hid (wr.ownsRow (w.heap.size + 1) 23 5 (.slice A m c) m (flatV out)) ∧ Hid (posB (lessB o ⟨ta, tb, tc, td, te⟩) out k = posB (lessB o ⟨ta, tb, tc, td, te⟩) out m)) (fun kv _ => (intOf kv).toNat)
      case atStart => exact ⟨m, Nat.le_refl _, rfl, HW.out, HO.out, rfl⟩
      case round =>
        obtain ⟨k, hk, rfl, HWK, HOK, HP⟩ := hrel
        clear HW HO
        by_cases hk0 : k = 0
        · have HK0 : Hid (k = posB (lessB o ⟨ta, tb, tc, td, te⟩) out m) := by
            have := HP.out
            rw [hk0] at this ⊢
            exact this
          have gk : decide ((k : Int) > 0) = false := by simp; omega
          have gk2 : decide (0 < k) = false := by simp; omega
          have HX : Hid (∀ q, Below (w.heap.size + 1) W1 (wr.drewN q) ∧ (wr.drewN q).ownsRow (w.heap.size + 1) 23 5 (.slice A m c) m (flatV out)) := fun q => ⟨below_dN HWK.out q, ownT_keep HOK.out (below_dN (Below.refl _ _) q)⟩
          have Hk00 := Lib.hid hk0
          clear HP HWK HOK hk0
          go_wp2
          go_quiet (fail)
          have HB2 := Lib.hid (HX.out nq).1
          have HO2 := Lib.hid (HX.out nq).2
          clear HX
          have HNE : Hid (insO o out ⟨ta, tb, tc, td, te⟩ = insB o out ⟨ta, tb, tc, td, te⟩) := by
            unfold Hid
            rw [insO, if_neg]
            rintro ⟨h, _⟩
            rw [HM.out] at h
            have h : 0 < posB (lessB o _) out m := h
            rw [← HK0.out] at h
            have := Hk00.out; omega
          generalize wr.drewN nq = w2 at *
          go_wp2
          go_quiet (fail)
          have HB3 := Lib.hid (below_dN HB2.out nq)
          have HO3 := Lib.hid (ownT_keep HO2.out (below_dN (Below.refl _ _) nq))
          generalize w2.drewN nq = w3 at *
          clear HB2 HO2
          obtain ⟨y0, y1, y2, y3, y4, -, -, -, -, -⟩ := KL.out _ HB3.out
          obtain ⟨it, hi0, hz0, hz1, hz2⟩ := info_parts infoT
          have hbase : w.heap.size + 1 ≤ w3.heap.size := Nat.le_trans HSZ.out HB3.out.size
          go_wp2_with (with_reducible refine stopAt 62 ?_)
          unfold Hid
          refine wpList_append_lies _ rfl _ _ 35 rfl (w.heap.size + 1) 23 it _ 5 40 Try.underlying35 hi0 hz0 hz1 hz2 rfl (by decide) _ m (flatV out) (by rfl) (ownT_keep HO3.out ((Below.refl _ _).alloc (Nat.le_refl _) _)) ⟨w3.heap.size, 0, none⟩ 1 1 (tupC ⟨ta, tb, tc, td, te⟩) (by rfl) (by rfl) (World.news_of_block (cs := #[.int .i64 ta, .int .i64 tb, .int .i64 tc, .int .i64 td, .int .i64 te]) (t := 23) (fr := (0, 0)) (heap_alloc_new w3 _)) (by simp [tupC, Value.oneCell']) (by omega) (by unfold maxLen; omega) (by omega) (by simp; omega) _ rfl ?_
          intro g5 cap5 w4 hown hgr hat _
          rw [← flatV_snoc] at hown
          have hgo : ∀ q, (Value.slice _ m c).ownBlock = some q → w.heap.size + 1 ≤ q := fun q hq => (HO3.out.lt q hq).1
          have HB4 : Hid (Below (w.heap.size + 1) W1 w4) := (HB3.out.alloc hbase _).grown hgr (by simp; omega) hgo
          have HO4 : Hid (w4.ownsRow (w.heap.size + 1) 23 5 (.slice (some ⟨g5, 0, none⟩) (m + 1) cap5) (m + 1) (flatV (shf out ⟨ta, tb, tc, td, te⟩ m))) := by
            have := HM.out
            subst this
            rw [shf_top]; exact hown
          have hg5 : w.heap.size + 1 ≤ g5 := (HO4.out.lt g5 rfl).1
          have Hg5 := Lib.hid hg5
          generalize hm1 : m + 1 = m1 at *
          have Hm1 := Lib.hid hm1
          have hsub1 : (m1 : Int) - 1 = (m : Int) := by omega
          have hwr1 : IntKind.i64.wrap (m : Int) = (m : Int) := by rw [IntKind.wrap_i64]; omega
          clear hown hgr hat hgo hbase y0 y1 y2 y3 y4 HB3 HO3 hg5 hm1
          go_wp2_with fail
          go_loopw [10] (fun jv wr => ∃ j : Nat, k ≤ j ∧ j ≤ m ∧ jv = .int .i64 (j : Int) ∧ Hid (Below (w.heap.size + 1) W1 wr) ∧ Hid (wr.ownsRow (w.heap.size + 1) 23 5 (.slice (some ⟨g5, 0, none⟩) m1 cap5) m1 (flatV (shf out ⟨ta, tb, tc, td, te⟩ j)))) (fun jv _ => (intOf jv).toNat)
          case atStart => exact ⟨m, hk, Nat.le_refl _, (by first | rfl | go_num), HB4.out, HO4.out⟩
          case round =>
            obtain ⟨j, hkj, hjm, rfl, HBJ, HOJ⟩ := hrel
            clear hsub1 hwr1 HB4 HO4
            have hml : out.length = m := HM.out
            have hjl : j < (shf out ⟨ta, tb, tc, td, te⟩ j).length := by rw [shf_len out _ (by omega)]; omega
            obtain ⟨v, hv⟩ : ∃ v, v = (shf out ⟨ta, tb, tc, td, te⟩ j).getD j tup0 := ⟨_, rfl⟩
            have d0 : wr.cell? ⟨g5, j * 5, none⟩ = some (.int .i64 v.a) := ownT_cell HOJ.out hjl (j := 0) (by rw [← hv]; rfl)
            have d1 : wr.cell? ⟨g5, j * 5 + 1, none⟩ = some (.int .i64 v.b) := ownT_cell HOJ.out hjl (j := 1) (by rw [← hv]; rfl)
            have d2 : wr.cell? ⟨g5, j * 5 + 2, none⟩ = some (.int .i64 v.c) := ownT_cell HOJ.out hjl (j := 2) (by rw [← hv]; rfl)
            have d3 : wr.cell? ⟨g5, j * 5 + 3, none⟩ = some (.int .i64 v.d) := ownT_cell HOJ.out hjl (j := 3) (by rw [← hv]; rfl)
            have d4 : wr.cell? ⟨g5, j * 5 + 4, none⟩ = some (.int .i64 v.e) := ownT_cell HOJ.out hjl (j := 4) (by rw [← hv]; rfl)
            have f0 := World.ownsRow.frozenAt HOJ.out (j * 5)
            have f1 := World.ownsRow.frozenAt HOJ.out (j * 5 + 1)
            have f2 := World.ownsRow.frozenAt HOJ.out (j * 5 + 2)
            have f3 := World.ownsRow.frozenAt HOJ.out (j * 5 + 3)
            have f4 := World.ownsRow.frozenAt HOJ.out (j * 5 + 4)
            have j0 : (0 : Int) ≤ (j : Int) := by omega
            have j1 : (j : Int) < (m1 : Int) := by have := Hm1.out; omega
            by_cases hj : k < j
            · have gj : decide ((j : Int) > (k : Int)) = true := by simp; omega
              have gj2 : decide (k < j) = true := by simp; omega
              obtain ⟨p3, hp3⟩ : ∃ p3, p3 + 1 = j := ⟨j - 1, by omega⟩
              have Hp3 := Lib.hid hp3
              have hsub3 : (j : Int) - 1 = (p3 : Int) := by omega
              have hwr3 : IntKind.i64.wrap (p3 : Int) = (p3 : Int) := by rw [IntKind.wrap_i64]; omega
              have p30 : (0 : Int) ≤ (p3 : Int) := by omega
              have p31 : (p3 : Int) < (m1 : Int) := by have := Hm1.out; omega
              obtain ⟨u, hu⟩ : ∃ u, u = out.getD p3 tup0 := ⟨_, rfl⟩
              have hu2 : (shf out ⟨ta, tb, tc, td, te⟩ j).getD p3 tup0 = u := by rw [hu, ← hp3]; exact shf_below out _ (by omega)
              have hpl : p3 < (shf out ⟨ta, tb, tc, td, te⟩ j).length := by omega
              have c0 : wr.cell? ⟨g5, p3 * 5, none⟩ = some (.int .i64 u.a) := ownT_cell HOJ.out hpl (j := 0) (by rw [hu2]; rfl)
              have c1 : wr.cell? ⟨g5, p3 * 5 + 1, none⟩ = some (.int .i64 u.b) := ownT_cell HOJ.out hpl (j := 1) (by rw [hu2]; rfl)
              have c2 : wr.cell? ⟨g5, p3 * 5 + 2, none⟩ = some (.int .i64 u.c) := ownT_cell HOJ.out hpl (j := 2) (by rw [hu2]; rfl)
              have c3 : wr.cell? ⟨g5, p3 * 5 + 3, none⟩ = some (.int .i64 u.d) := ownT_cell HOJ.out hpl (j := 3) (by rw [hu2]; rfl)
              have c4 : wr.cell? ⟨g5, p3 * 5 + 4, none⟩ = some (.int .i64 u.e) := ownT_cell HOJ.out hpl (j := 4) (by rw [hu2]; rfl)
              have HON : Hid ((((((wr.setCell ⟨g5, j * 5, none⟩ (.int .i64 u.a)).setCell ⟨g5, j * 5 + 1, none⟩ (.int .i64 u.b)).setCell ⟨g5, j * 5 + 2, none⟩ (.int .i64 u.c)).setCell ⟨g5, j * 5 + 3, none⟩ (.int .i64 u.d)).setCell ⟨g5, j * 5 + 4, none⟩ (.int .i64 u.e)).ownsRow (w.heap.size + 1) 23 5 (.slice (some ⟨g5, 0, none⟩) m1 cap5) m1 (flatV (shf out ⟨ta, tb, tc, td, te⟩ p3))) := by
                have h := ownT_store HOJ.out hjl u
                have e : (shf out ⟨ta, tb, tc, td, te⟩ j).set j u = shf out ⟨ta, tb, tc, td, te⟩ p3 := by rw [hu, ← hp3]; exact shf_step out _ (by omega)
                rw [e] at h
                exact h
              have HBN : Hid (Below (w.heap.size + 1) W1 (((((wr.setCell ⟨g5, j * 5, none⟩ (.int .i64 u.a)).setCell ⟨g5, j * 5 + 1, none⟩ (.int .i64 u.b)).setCell ⟨g5, j * 5 + 2, none⟩ (.int .i64 u.c)).setCell ⟨g5, j * 5 + 3, none⟩ (.int .i64 u.d)).setCell ⟨g5, j * 5 + 4, none⟩ (.int .i64 u.e))) := below_set5 HBJ.out Hg5.out _ _ _ _ _ _
              clear HOJ HBJ hu hu2 hpl hjl hv hml hp3
              go_wp2
              go_roundw
              case rel => exact ⟨p3, by have := Hp3.out; omega, by have := Hp3.out; omega, (by first | rfl | go_num), HBN.out, HON.out⟩
              case measure => have := Hp3.out; simp [intOf]; omega
            · have hjk : j = k := by omega
              subst hjk
              have gj : decide ((j : Int) > (j : Int)) = false := by simp
              have gj2 : decide (j < j) = false := by simp
              obtain ⟨y0, y1, y2, y3, y4, -, -, -, -, -⟩ := KL.out _ HBJ.out
              have HON : Hid ((((((wr.setCell ⟨g5, j * 5, none⟩ (.int .i64 ta)).setCell ⟨g5, j * 5 + 1, none⟩ (.int .i64 tb)).setCell ⟨g5, j * 5 + 2, none⟩ (.int .i64 tc)).setCell ⟨g5, j * 5 + 3, none⟩ (.int .i64 td)).setCell ⟨g5, j * 5 + 4, none⟩ (.int .i64 te)).ownsRow (w.heap.size + 1) 23 5 (.slice (some ⟨g5, 0, none⟩) m1 cap5) m1 (flatV (insB o out ⟨ta, tb, tc, td, te⟩))) := by
                have h := ownT_store HOJ.out hjl ⟨ta, tb, tc, td, te⟩
                have e : (shf out ⟨ta, tb, tc, td, te⟩ j).set j ⟨ta, tb, tc, td, te⟩ = insB o out ⟨ta, tb, tc, td, te⟩ := by
                  rw [shf_end out _ (by omega), insB_eq, hml, ← HK0.out]
                rw [e] at h
                exact h
              have HBN : Hid (Below (w.heap.size + 1) W1 (((((wr.setCell ⟨g5, j * 5, none⟩ (.int .i64 ta)).setCell ⟨g5, j * 5 + 1, none⟩ (.int .i64 tb)).setCell ⟨g5, j * 5 + 2, none⟩ (.int .i64 tc)).setCell ⟨g5, j * 5 + 3, none⟩ (.int .i64 td)).setCell ⟨g5, j * 5 + 4, none⟩ (.int .i64 te))) := below_set5 HBJ.out Hg5.out _ _ _ _ _ _
              have HSN : Hid (insB o out ⟨ta, tb, tc, td, te⟩ = sortO o [] (l.take (i + 1))) := by
                unfold Hid
                rw [Hti.out, sortO_snoc, ← HS.out, HNE.out]
              have HTN : Hid (∀ u ∈ insB o out ⟨ta, tb, tc, td, te⟩, TupOk u) := by
                intro u hu
                rw [insB_eq] at hu
                rcases List.mem_append.1 hu with hu | hu
                · exact HTU.out u (List.mem_of_mem_take hu)
                · rcases List.mem_cons.1 hu with rfl | hu
                  · exact Hto.out
                  · exact HTU.out u (List.mem_of_mem_drop hu)
              have HMN : Hid ((insB o out ⟨ta, tb, tc, td, te⟩).length = m1) := by unfold Hid; rw [insB_len, hml]; exact Hm1.out
              clear HOJ HBJ hjl hv hml HS HTU HK0
              go_wp2
              go_roundw
              case rel => exact ⟨i + 1, m1, cap5, _, insB o out ⟨ta, tb, tc, td, te⟩, by omega, by have := Hm1.out; omega, by go_num, rfl, HBN.out, HON.out, HTN.out, HSN.out, HMN.out⟩
              case measure => simp [intOf]; omega
        · obtain ⟨p, hp⟩ : ∃ p, p + 1 = k := ⟨k - 1, by omega⟩
          have Hp := Lib.hid hp
          have gk : decide ((k : Int) > 0) = true := by simp; omega
          have gk2 : decide (0 < k) = true := by simp; omega
          have hsub : (k : Int) - 1 = (p : Int) := by omega
          have hwr : IntKind.i64.wrap (p : Int) = (p : Int) := by rw [IntKind.wrap_i64]; omega
          have p0 : (0 : Int) ≤ (p : Int) := by omega
          have p1 : (p : Int) < (m : Int) := by omega
          obtain ⟨g, cap, hA, _, _⟩ := HOK.out.form (by omega)
          injection hA with hA1 hA2 hA3
          subst hA1 hA3
          obtain ⟨y, hy⟩ : ∃ y, y = out.getD p tup0 := ⟨_, rfl⟩
          have HY := Lib.hid hy
          have hpl : p < out.length := by have := HM.out; omega
          have KY : Hid (∀ W : World, W.ownsRow (w.heap.size + 1) 23 5 (.slice (some ⟨g, 0, none⟩) m c) m (flatV out) → W.cell? ⟨g, p * 5, none⟩ = some (.int .i64 y.a) ∧ W.cell? ⟨g, p * 5 + 1, none⟩ = some (.int .i64 y.b) ∧ W.cell? ⟨g, p * 5 + 2, none⟩ = some (.int .i64 y.c) ∧ W.cell? ⟨g, p * 5 + 3, none⟩ = some (.int .i64 y.d) ∧ W.cell? ⟨g, p * 5 + 4, none⟩ = some (.int .i64 y.e)) := fun W h =>
            ⟨ownT_cell h hpl (j := 0) (by rw [← hy]; rfl), ownT_cell h hpl (j := 1) (by rw [← hy]; rfl), ownT_cell h hpl (j := 2) (by rw [← hy]; rfl), ownT_cell h hpl (j := 3) (by rw [← hy]; rfl), ownT_cell h hpl (j := 4) (by rw [← hy]; rfl)⟩
          clear hy hp hpl
          obtain ⟨ya, yb, yc, yd, ye⟩ := y
          simp only at KY
          have KS : Hid (∀ W, Below (w.heap.size + 1) W1 W → W.ownsRow (w.heap.size + 1) 23 5 (.slice (some ⟨g, 0, none⟩) m c) m (flatV out) → W.cell? ⟨bb, off + i * 5, none⟩ = some (.int .i64 ta) ∧ W.cell? ⟨bb, off + i * 5 + 1, none⟩ = some (.int .i64 tb) ∧ W.cell? ⟨bb, off + i * 5 + 2, none⟩ = some (.int .i64 tc) ∧ W.cell? ⟨bb, off + i * 5 + 3, none⟩ = some (.int .i64 td) ∧ W.cell? ⟨bb, off + i * 5 + 4, none⟩ = some (.int .i64 te) ∧ W.cell? ⟨g, p * 5, none⟩ = some (.int .i64 ya) ∧ W.cell? ⟨g, p * 5 + 1, none⟩ = some (.int .i64 yb) ∧ W.cell? ⟨g, p * 5 + 2, none⟩ = some (.int .i64 yc) ∧ W.cell? ⟨g, p * 5 + 3, none⟩ = some (.int .i64 yd) ∧ W.cell? ⟨g, p * 5 + 4, none⟩ = some (.int .i64 ye) ∧ W.cell? ⟨w.heap.size, 0, none⟩ = some (.int .i64 o.a) ∧ W.cell? ⟨w.heap.size, 1, none⟩ = some (.int .i64 o.b) ∧ W.cell? ⟨w.heap.size, 2, none⟩ = some (.int .i64 o.c) ∧ W.cell? ⟨w.heap.size, 3, none⟩ = some (.int .i64 o.d) ∧ W.cell? ⟨w.heap.size, 4, none⟩ = some (.int .i64 o.e)) := fun W h1 h2 => by
            obtain ⟨a0, a1, a2, a3, a4, b0, b1, b2, b3, b4⟩ := KL.out W h1
            obtain ⟨c0, c1, c2, c3, c4⟩ := KY.out W h2
            exact ⟨a0, a1, a2, a3, a4, c0, c1, c2, c3, c4, b0, b1, b2, b3, b4⟩
          have hbd : Below (w.heap.size + 1) W1 wr.drew := ⟨HWK.out.os, HWK.out.tape, HWK.out.output, HWK.out.size, HWK.out.block⟩
          have hod : wr.drew.ownsRow (w.heap.size + 1) 23 5 (.slice (some ⟨g, 0, none⟩) m c) m (flatV out) := HOK.out
          have HFA : Hid (∀ W : World, Below (w.heap.size + 1) W1 W → W.ownsRow (w.heap.size + 1) 23 5 (.slice (some ⟨g, 0, none⟩) m c) m (flatV out) → Calls Try.prog 12 #[.agg #[.int .i64 ta, .int .i64 tb, .int .i64 tc, .int .i64 td, .int .i64 te], .agg #[.int .i64 ya, .int .i64 yb, .int .i64 yc, .int .i64 yd, .int .i64 ye], .agg #[.int .i64 o.a, .int .i64 o.b, .int .i64 o.c, .int .i64 o.d, .int .i64 o.e]] W fun e w' => e = .returned (.int .i64 (cmpT o ⟨ta, tb, tc, td, te⟩ ⟨ya, yb, yc, yd, ye⟩)) ∧ Below (w.heap.size + 1) W1 w' ∧ w'.ownsRow (w.heap.size + 1) 23 5 (.slice (some ⟨g, 0, none⟩) m c) m (flatV out)) := fun W hW hO => by
            refine (rcmp_any o ⟨ta, tb, tc, td, te⟩ ⟨ya, yb, yc, yd, ye⟩ W).mono ?_
            rintro e w' ⟨he, hb⟩
            exact ⟨he, hW.trans (hb.mono (Nat.le_trans HSZ.out hW.size)), ownT_keep hO hb⟩
          have HF := Lib.hid (HFA.out _ hbd hod)
          have HYC : Hid (cmpT o ⟨ta, tb, tc, td, te⟩ (out.getD p tup0) = cmpT o ⟨ta, tb, tc, td, te⟩ ⟨ya, yb, yc, yd, ye⟩) := by unfold Hid; rw [← HY.out]
          have HCM : Hid (lessB o ⟨ta, tb, tc, td, te⟩ (out.getD p tup0) = decide (cmpT o ⟨ta, tb, tc, td, te⟩ ⟨ya, yb, yc, yd, ye⟩ < 0)) := by unfold Hid; rw [← HY.out]; rfl
          obtain ⟨y0, y1, y2, y3, y4, y5, y6, y7, y8, y9, y10, y11, y12, y13, y14⟩ := KS.out _ hbd hod
          generalize cmpT o ⟨ta, tb, tc, td, te⟩ ⟨ya, yb, yc, yd, ye⟩ = cm at *
          clear hbd hod HWK HOK HY
          go_wp2
          go_region_held3 (fun W => W.cell? ⟨bb, off + i * 5, none⟩ = some (.int .i64 ta) ∧ W.cell? ⟨bb, off + i * 5 + 1, none⟩ = some (.int .i64 tb) ∧ W.cell? ⟨bb, off + i * 5 + 2, none⟩ = some (.int .i64 tc) ∧ W.cell? ⟨bb, off + i * 5 + 3, none⟩ = some (.int .i64 td) ∧ W.cell? ⟨bb, off + i * 5 + 4, none⟩ = some (.int .i64 te) ∧ W.cell? ⟨g, p * 5, none⟩ = some (.int .i64 ya) ∧ W.cell? ⟨g, p * 5 + 1, none⟩ = some (.int .i64 yb) ∧ W.cell? ⟨g, p * 5 + 2, none⟩ = some (.int .i64 yc) ∧ W.cell? ⟨g, p * 5 + 3, none⟩ = some (.int .i64 yd) ∧ W.cell? ⟨g, p * 5 + 4, none⟩ = some (.int .i64 ye) ∧ W.cell? ⟨w.heap.size, 0, none⟩ = some (.int .i64 o.a) ∧ W.cell? ⟨w.heap.size, 1, none⟩ = some (.int .i64 o.b) ∧ W.cell? ⟨w.heap.size, 2, none⟩ = some (.int .i64 o.c) ∧ W.cell? ⟨w.heap.size, 3, none⟩ = some (.int .i64 o.d) ∧ W.cell? ⟨w.heap.size, 4, none⟩ = some (.int .i64 o.e)) (first | with_reducible exact ⟨y0, y1, y2, y3, y4, y5, y6, y7, y8, y9, y10, y11, y12, y13, y14⟩ | with_reducible exact q2)
            (first
              | (go_at_call 12; (with_reducible refine HF.out.mono ?_); rintro e w2 ⟨rfl, h2, h3⟩; have q2 := KS.out _ h2 h3))
          have HB2 := Lib.hid h2
          have HO2 := Lib.hid h3
          clear h2 h3 q2 HF y0 y1 y2 y3 y4 y5 y6 y7 y8 y9 y10 y11 y12 y13 y14 KY
          by_cases hc : cm < 0
          · have HP2 : Hid (posB (lessB o ⟨ta, tb, tc, td, te⟩) out p = posB (lessB o ⟨ta, tb, tc, td, te⟩) out m) := by
              have h1 := HP.out
              rw [← Hp.out, posB, if_pos (by rw [HCM.out]; exact decide_eq_true hc)] at h1
              exact h1
            have gc : decide (cm < 0) = true := by simpa using hc
            clear HP HCM HFA KS HYC hwr p0 p1
            go_wp2
            go_roundw
            case rel => exact ⟨p, by have := Hp.out; omega, (by first | rfl | go_num), HB2.out, HO2.out, HP2.out⟩
            case measure => have := Hp.out; simp [intOf]; omega
          · have HK0 : Hid (k = posB (lessB o ⟨ta, tb, tc, td, te⟩) out m) := by
              have h1 := HP.out
              rw [← Hp.out, posB, if_neg (by rw [HCM.out]; simpa using hc)] at h1
              unfold Hid
              rw [← Hp.out]; exact h1
            have gc : decide (cm < 0) = false := by simpa using hc
            have hc2 : 0 ≤ cm := by omega
            clear HP HCM
            have hbd := below_dN HB2.out 1
            have hod := ownT_keep HO2.out (below_dN (Below.refl _ _) 1)
            have hbd : Below (w.heap.size + 1) W1 w2.drew := ⟨HB2.out.os, HB2.out.tape, HB2.out.output, HB2.out.size, HB2.out.block⟩
            have hod : w2.drew.ownsRow (w.heap.size + 1) 23 5 (.slice (some ⟨g, 0, none⟩) m c) m (flatV out) := HO2.out
            have HF2 := Lib.hid (HFA.out _ hbd hod)
            obtain ⟨y0, y1, y2, y3, y4, y5, y6, y7, y8, y9, y10, y11, y12, y13, y14⟩ := KS.out _ hbd hod
            clear hbd hod HFA HB2 HO2
            go_wp2
            go_region_held3 (fun W => W.cell? ⟨bb, off + i * 5, none⟩ = some (.int .i64 ta) ∧ W.cell? ⟨bb, off + i * 5 + 1, none⟩ = some (.int .i64 tb) ∧ W.cell? ⟨bb, off + i * 5 + 2, none⟩ = some (.int .i64 tc) ∧ W.cell? ⟨bb, off + i * 5 + 3, none⟩ = some (.int .i64 td) ∧ W.cell? ⟨bb, off + i * 5 + 4, none⟩ = some (.int .i64 te) ∧ W.cell? ⟨g, p * 5, none⟩ = some (.int .i64 ya) ∧ W.cell? ⟨g, p * 5 + 1, none⟩ = some (.int .i64 yb) ∧ W.cell? ⟨g, p * 5 + 2, none⟩ = some (.int .i64 yc) ∧ W.cell? ⟨g, p * 5 + 3, none⟩ = some (.int .i64 yd) ∧ W.cell? ⟨g, p * 5 + 4, none⟩ = some (.int .i64 ye) ∧ W.cell? ⟨w.heap.size, 0, none⟩ = some (.int .i64 o.a) ∧ W.cell? ⟨w.heap.size, 1, none⟩ = some (.int .i64 o.b) ∧ W.cell? ⟨w.heap.size, 2, none⟩ = some (.int .i64 o.c) ∧ W.cell? ⟨w.heap.size, 3, none⟩ = some (.int .i64 o.d) ∧ W.cell? ⟨w.heap.size, 4, none⟩ = some (.int .i64 o.e)) (first | with_reducible exact ⟨y0, y1, y2, y3, y4, y5, y6, y7, y8, y9, y10, y11, y12, y13, y14⟩ | with_reducible exact q2)
              (first
                | (go_at_call 12; (with_reducible refine HF2.out.mono ?_); rintro e w3 ⟨rfl, h2, h3⟩; have q2 := KS.out _ h2 h3))
            have HB3 := Lib.hid h2
            have HO3 := Lib.hid h3
            clear hsub hwr p0 p1 h2 h3 q2 HF2 y0 y1 y2 y3 y4 y5 y6 y7 y8 y9 y10 y11 y12 y13 y14 KS
            by_cases hz : cm = 0
            · have HSN : Hid (out = sortO o [] (l.take (i + 1))) := by
                unfold Hid
                rw [Hti.out, sortO_snoc, ← HS.out, insO, if_pos]
                refine ⟨?_, ?_⟩
                · rw [HM.out]; show 0 < posB (lessB o _) out m; rw [← HK0.out, ← Hp.out]; omega
                · rw [HM.out]; show cmpT o _ (out.getD (posB (lessB o _) out m - 1) tup0) = 0; rw [← HK0.out, ← Hp.out, show p + 1 - 1 = p by omega, HYC.out, hz]
              have gz : (cm == 0) = true := by simpa using hz
              have gz' : decide (cm = 0) = true := by simpa using hz
              clear hc hc2 gc HYC HS HK0 hz
              go_wp2
              all_goals first
                | (exfalso; omega)
                | (go_roundw
                   case rel => exact ⟨i + 1, m, c, _, out, by omega, by omega, by go_num, rfl, HB3.out, HO3.out, HTU.out, HSN.out, HM.out⟩
                   case measure => simp [intOf]; omega)
            · have HNE : Hid (insO o out ⟨ta, tb, tc, td, te⟩ = insB o out ⟨ta, tb, tc, td, te⟩) := by
                unfold Hid
                rw [insO, if_neg]
                rintro ⟨_, h⟩
                rw [HM.out] at h
                have h : cmpT o _ (out.getD (posB (lessB o _) out m - 1) tup0) = 0 := h
                rw [← HK0.out, ← Hp.out, show p + 1 - 1 = p by omega, HYC.out] at h
                exact hz h
              have gz : (cm == 0) = false := by simpa using hz
              have gz' : decide (cm = 0) = false := by simpa using hz
              clear hc hc2 gc HYC hz
              obtain ⟨y0, y1, y2, y3, y4, -, -, -, -, -⟩ := KL.out _ HB3.out
              obtain ⟨it, hi0, hz0, hz1, hz2⟩ := info_parts infoT
              have hbase : w.heap.size + 1 ≤ w3.heap.size := Nat.le_trans HSZ.out HB3.out.size
              go_wp2_with (with_reducible refine stopAt 62 ?_)
              unfold Hid
              refine wpList_append_lies _ rfl _ _ 35 rfl (w.heap.size + 1) 23 it _ 5 40 Try.underlying35 hi0 hz0 hz1 hz2 rfl (by decide) _ m (flatV out) (by rfl) (ownT_keep HO3.out ((Below.refl _ _).alloc (Nat.le_refl _) _)) ⟨w3.heap.size, 0, none⟩ 1 1 (tupC ⟨ta, tb, tc, td, te⟩) (by rfl) (by rfl) (World.news_of_block (cs := #[.int .i64 ta, .int .i64 tb, .int .i64 tc, .int .i64 td, .int .i64 te]) (t := 23) (fr := (0, 0)) (heap_alloc_new w3 _)) (by simp [tupC, Value.oneCell']) (by omega) (by unfold maxLen; omega) (by omega) (by simp; omega) _ rfl ?_
              intro g5 cap5 w4 hown hgr hat _
              rw [← flatV_snoc] at hown
              have hgo : ∀ q, (Value.slice _ m c).ownBlock = some q → w.heap.size + 1 ≤ q := fun q hq => (HO3.out.lt q hq).1
              have HB4 : Hid (Below (w.heap.size + 1) W1 w4) := (HB3.out.alloc hbase _).grown hgr (by simp; omega) hgo
              have HO4 : Hid (w4.ownsRow (w.heap.size + 1) 23 5 (.slice (some ⟨g5, 0, none⟩) (m + 1) cap5) (m + 1) (flatV (shf out ⟨ta, tb, tc, td, te⟩ m))) := by
                have := HM.out
                subst this
                rw [shf_top]; exact hown
              have hg5 : w.heap.size + 1 ≤ g5 := (HO4.out.lt g5 rfl).1
              have Hg5 := Lib.hid hg5
              generalize hm1 : m + 1 = m1 at *
              have Hm1 := Lib.hid hm1
              have hsub1 : (m1 : Int) - 1 = (m : Int) := by omega
              have hwr1 : IntKind.i64.wrap (m : Int) = (m : Int) := by rw [IntKind.wrap_i64]; omega
              clear hown hgr hat hgo hbase y0 y1 y2 y3 y4 HB3 HO3 hg5 hm1
              go_wp2_with fail
              go_loopw [10] (fun jv wr => ∃ j : Nat, k ≤ j ∧ j ≤ m ∧ jv = .int .i64 (j : Int) ∧ Hid (Below (w.heap.size + 1) W1 wr) ∧ Hid (wr.ownsRow (w.heap.size + 1) 23 5 (.slice (some ⟨g5, 0, none⟩) m1 cap5) m1 (flatV (shf out ⟨ta, tb, tc, td, te⟩ j)))) (fun jv _ => (intOf jv).toNat)
              case atStart => exact ⟨m, hk, Nat.le_refl _, (by first | rfl | go_num), HB4.out, HO4.out⟩
              case round =>
                obtain ⟨j, hkj, hjm, rfl, HBJ, HOJ⟩ := hrel
                clear hsub1 hwr1 HB4 HO4
                have hml : out.length = m := HM.out
                have hjl : j < (shf out ⟨ta, tb, tc, td, te⟩ j).length := by rw [shf_len out _ (by omega)]; omega
                obtain ⟨v, hv⟩ : ∃ v, v = (shf out ⟨ta, tb, tc, td, te⟩ j).getD j tup0 := ⟨_, rfl⟩
                have d0 : wr.cell? ⟨g5, j * 5, none⟩ = some (.int .i64 v.a) := ownT_cell HOJ.out hjl (j := 0) (by rw [← hv]; rfl)
                have d1 : wr.cell? ⟨g5, j * 5 + 1, none⟩ = some (.int .i64 v.b) := ownT_cell HOJ.out hjl (j := 1) (by rw [← hv]; rfl)
                have d2 : wr.cell? ⟨g5, j * 5 + 2, none⟩ = some (.int .i64 v.c) := ownT_cell HOJ.out hjl (j := 2) (by rw [← hv]; rfl)
                have d3 : wr.cell? ⟨g5, j * 5 + 3, none⟩ = some (.int .i64 v.d) := ownT_cell HOJ.out hjl (j := 3) (by rw [← hv]; rfl)
                have d4 : wr.cell? ⟨g5, j * 5 + 4, none⟩ = some (.int .i64 v.e) := ownT_cell HOJ.out hjl (j := 4) (by rw [← hv]; rfl)
                have f0 := World.ownsRow.frozenAt HOJ.out (j * 5)
                have f1 := World.ownsRow.frozenAt HOJ.out (j * 5 + 1)
                have f2 := World.ownsRow.frozenAt HOJ.out (j * 5 + 2)
                have f3 := World.ownsRow.frozenAt HOJ.out (j * 5 + 3)
                have f4 := World.ownsRow.frozenAt HOJ.out (j * 5 + 4)
                have j0 : (0 : Int) ≤ (j : Int) := by omega
                have j1 : (j : Int) < (m1 : Int) := by have := Hm1.out; omega
                by_cases hj : k < j
                · have gj : decide ((j : Int) > (k : Int)) = true := by simp; omega
                  have gj2 : decide (k < j) = true := by simp; omega
                  obtain ⟨p3, hp3⟩ : ∃ p3, p3 + 1 = j := ⟨j - 1, by omega⟩
                  have Hp3 := Lib.hid hp3
                  have hsub3 : (j : Int) - 1 = (p3 : Int) := by omega
                  have hwr3 : IntKind.i64.wrap (p3 : Int) = (p3 : Int) := by rw [IntKind.wrap_i64]; omega
                  have p30 : (0 : Int) ≤ (p3 : Int) := by omega
                  have p31 : (p3 : Int) < (m1 : Int) := by have := Hm1.out; omega
                  obtain ⟨u, hu⟩ : ∃ u, u = out.getD p3 tup0 := ⟨_, rfl⟩
                  have hu2 : (shf out ⟨ta, tb, tc, td, te⟩ j).getD p3 tup0 = u := by rw [hu, ← hp3]; exact shf_below out _ (by omega)
                  have hpl : p3 < (shf out ⟨ta, tb, tc, td, te⟩ j).length := by omega
                  have c0 : wr.cell? ⟨g5, p3 * 5, none⟩ = some (.int .i64 u.a) := ownT_cell HOJ.out hpl (j := 0) (by rw [hu2]; rfl)
                  have c1 : wr.cell? ⟨g5, p3 * 5 + 1, none⟩ = some (.int .i64 u.b) := ownT_cell HOJ.out hpl (j := 1) (by rw [hu2]; rfl)
                  have c2 : wr.cell? ⟨g5, p3 * 5 + 2, none⟩ = some (.int .i64 u.c) := ownT_cell HOJ.out hpl (j := 2) (by rw [hu2]; rfl)
                  have c3 : wr.cell? ⟨g5, p3 * 5 + 3, none⟩ = some (.int .i64 u.d) := ownT_cell HOJ.out hpl (j := 3) (by rw [hu2]; rfl)
                  have c4 : wr.cell? ⟨g5, p3 * 5 + 4, none⟩ = some (.int .i64 u.e) := ownT_cell HOJ.out hpl (j := 4) (by rw [hu2]; rfl)
                  have HON : Hid ((((((wr.setCell ⟨g5, j * 5, none⟩ (.int .i64 u.a)).setCell ⟨g5, j * 5 + 1, none⟩ (.int .i64 u.b)).setCell ⟨g5, j * 5 + 2, none⟩ (.int .i64 u.c)).setCell ⟨g5, j * 5 + 3, none⟩ (.int .i64 u.d)).setCell ⟨g5, j * 5 + 4, none⟩ (.int .i64 u.e)).ownsRow (w.heap.size + 1) 23 5 (.slice (some ⟨g5, 0, none⟩) m1 cap5) m1 (flatV (shf out ⟨ta, tb, tc, td, te⟩ p3))) := by
                    have h := ownT_store HOJ.out hjl u
                    have e : (shf out ⟨ta, tb, tc, td, te⟩ j).set j u = shf out ⟨ta, tb, tc, td, te⟩ p3 := by rw [hu, ← hp3]; exact shf_step out _ (by omega)
                    rw [e] at h
                    exact h
                  have HBN : Hid (Below (w.heap.size + 1) W1 (((((wr.setCell ⟨g5, j * 5, none⟩ (.int .i64 u.a)).setCell ⟨g5, j * 5 + 1, none⟩ (.int .i64 u.b)).setCell ⟨g5, j * 5 + 2, none⟩ (.int .i64 u.c)).setCell ⟨g5, j * 5 + 3, none⟩ (.int .i64 u.d)).setCell ⟨g5, j * 5 + 4, none⟩ (.int .i64 u.e))) := below_set5 HBJ.out Hg5.out _ _ _ _ _ _
                  clear HOJ HBJ hu hu2 hpl hjl hv hml hp3
                  go_wp2
                  go_roundw
                  case rel => exact ⟨p3, by have := Hp3.out; omega, by have := Hp3.out; omega, (by first | rfl | go_num), HBN.out, HON.out⟩
                  case measure => have := Hp3.out; simp [intOf]; omega
                · have hjk : j = k := by omega
                  subst hjk
                  have gj : decide ((j : Int) > (j : Int)) = false := by simp
                  have gj2 : decide (j < j) = false := by simp
                  obtain ⟨y0, y1, y2, y3, y4, -, -, -, -, -⟩ := KL.out _ HBJ.out
                  have HON : Hid ((((((wr.setCell ⟨g5, j * 5, none⟩ (.int .i64 ta)).setCell ⟨g5, j * 5 + 1, none⟩ (.int .i64 tb)).setCell ⟨g5, j * 5 + 2, none⟩ (.int .i64 tc)).setCell ⟨g5, j * 5 + 3, none⟩ (.int .i64 td)).setCell ⟨g5, j * 5 + 4, none⟩ (.int .i64 te)).ownsRow (w.heap.size + 1) 23 5 (.slice (some ⟨g5, 0, none⟩) m1 cap5) m1 (flatV (insB o out ⟨ta, tb, tc, td, te⟩))) := by
                    have h := ownT_store HOJ.out hjl ⟨ta, tb, tc, td, te⟩
                    have e : (shf out ⟨ta, tb, tc, td, te⟩ j).set j ⟨ta, tb, tc, td, te⟩ = insB o out ⟨ta, tb, tc, td, te⟩ := by
                      rw [shf_end out _ (by omega), insB_eq, hml, ← HK0.out]
                    rw [e] at h
                    exact h
                  have HBN : Hid (Below (w.heap.size + 1) W1 (((((wr.setCell ⟨g5, j * 5, none⟩ (.int .i64 ta)).setCell ⟨g5, j * 5 + 1, none⟩ (.int .i64 tb)).setCell ⟨g5, j * 5 + 2, none⟩ (.int .i64 tc)).setCell ⟨g5, j * 5 + 3, none⟩ (.int .i64 td)).setCell ⟨g5, j * 5 + 4, none⟩ (.int .i64 te))) := below_set5 HBJ.out Hg5.out _ _ _ _ _ _
                  have HSN : Hid (insB o out ⟨ta, tb, tc, td, te⟩ = sortO o [] (l.take (i + 1))) := by
                    unfold Hid
                    rw [Hti.out, sortO_snoc, ← HS.out, HNE.out]
                  have HTN : Hid (∀ u ∈ insB o out ⟨ta, tb, tc, td, te⟩, TupOk u) := by
                    intro u hu
                    rw [insB_eq] at hu
                    rcases List.mem_append.1 hu with hu | hu
                    · exact HTU.out u (List.mem_of_mem_take hu)
                    · rcases List.mem_cons.1 hu with rfl | hu
                      · exact Hto.out
                      · exact HTU.out u (List.mem_of_mem_drop hu)
                  have HMN : Hid ((insB o out ⟨ta, tb, tc, td, te⟩).length = m1) := by unfold Hid; rw [insB_len, hml]; exact Hm1.out
                  clear HOJ HBJ hjl hv hml HS HTU HK0
                  go_wp2
                  go_roundw
                  case rel => exact ⟨i + 1, m1, cap5, _, insB o out ⟨ta, tb, tc, td, te⟩, by omega, by have := Hm1.out; omega, by go_num, rfl, HBN.out, HON.out, HTN.out, HSN.out, HMN.out⟩
                  case measure => simp [intOf]; omega
    · obtain rfl : i = n := by omega
      have g1 : decide ((i : Int) < (i : Int)) = false := by simp
      have HE : Hid (∃ v m', (Value.slice A m c) = v ∧ wr.ownsRow w.heap.size 23 5 v m' (flatV (sortO o [] l)) ∧ m' ≤ i ∧ (∀ u ∈ sortO o [] l, TupOk u) ∧ Below w.heap.size w wr) := by
        have h1 := HS.out
        rw [List.take_of_length_le (by have := HLEN.out; omega)] at h1
        refine ⟨_, m, rfl, ?_, hmi, by rw [← h1]; exact HTU.out, KB.out _ HW.out⟩
        rw [← h1]
        exact ownT_base HO.out (by omega)
      clear HS HTU HO HW
      go_wp2
      go_ret
      obtain ⟨v, m', rfl, e2⟩ := HE.out
      exact ⟨_, m', rfl, e2⟩
end Go.Proofs.Ytoimpiimlekakaa
