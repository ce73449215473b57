/- What graph.Order answers. -/
import Derived.Test.YtdjmjabbjjcgiaaSortSlice
import Derived.Test.YtdjmjabbjjcgiaaGraphSame
import Derived.Test.YtdjmjabbjjcgiaaGraphCnt
namespace Go.Proofs.Ytdjmjabbjjcgiaa
open Go.ChangeShapes Go.WideShapes Go.ChangeAt Go.RowKit
open Go.Sort (PermIn)

/-- a graph of n edges, those of l, is answered, beside OK; what was there stays -/
def Graphed (w : World) (N : Int) (n : Nat) (l : List (Int × Int)) (e : Ending) (w' : World) : Prop :=
  ∃ A c, e = .returned (.tuple #[.agg #[.int .i64 N, .slice A n c], .int .i64 0]) ∧ ReadsE w' w'.heap.size A n l ∧ Below w.heap.size w w'
/-- besides, the slice's room is told -/
def GraphedC (w : World) (N : Int) (n : Nat) (l : List (Int × Int)) (e : Ending) (w' : World) : Prop :=
  ∃ A c, e = .returned (.tuple #[.agg #[.int .i64 N, .slice A n c], .int .i64 0]) ∧ ReadsE w' w'.heap.size A n l ∧ Below w.heap.size w w' ∧ n ≤ c ∧ c ≤ 1073741824
theorem GraphedC.graphed {w w' : World} {N : Int} {n : Nat} {l : List (Int × Int)} {e : Ending} (h : GraphedC w N n l e w') : Graphed w N n l e w' := by
  obtain ⟨A, c, h1, h2, h3, _⟩ := h; exact ⟨A, c, h1, h2, h3⟩
def NoGraph (w : World) (e : Ending) (w' : World) : Prop :=
  e = .returned (.tuple #[.agg #[.int .i64 0, .slice none 0 0], .int .i64 1]) ∧ Below w.heap.size w w'

set_option maxHeartbeats 800000 in
set_option maxRecDepth 100000 in
theorem order_bad (N : Int) (a : Option Addr) (n cap : Nat) (l : List (Int × Int)) (w : World) {B : Nat} (hN : I64 N) (hf : formed N l = false) (hl : ReadsE w B a n l) (hB : B ≤ w.heap.size) (hcap : n ≤ 9223372036854775807) :
    Calls Try.prog 18 #[.agg #[.int .i64 N, .slice a n cap]] w (NoGraph w) := by
  have HL0 := Lib.hid (fun o => ((hl.keep ((Below.refl _ _).alloc hB (.cells #[.int .i64 N, .slice a n cap] 24))).mono (show B ≤ w.heap.size + 1 by omega)).keep ((Below.refl _ _).alloc (by simp) o))
  have HF := Lib.hid hf
  clear hf
  go_enter Try.func18, Try.ntmps18
  go_wp2_with fail
  refine (formed_any N a n cap l _ hN (HL0.out _) (by simp) hcap).mono ?_; rintro e w1 ⟨rfl, hb1⟩
  rw [HF.out]
  have hb1' : Below (w.heap.size + 2) _ w1 := hb1.mono (by simp)
  have hr : Row w1 (w.heap.size + 1) 24 [.int .i64 0, .slice none 0 0] := by
    refine Row.below ?_ hb1' (by omega)
    have := heap_alloc_new (w.alloc (.cells #[.int .i64 N, .slice a n cap] 24)) (.cells #[.int .i64 0, .slice none 0 0] 24)
    rw [show (w.alloc (.cells #[.int .i64 N, .slice a n cap] 24)).heap.size = w.heap.size + 1 by simp] at this
    exact this
  have c0 := hr.cell 0
  have c1 := hr.cell 1
  have f0 := hr.free 0
  have f1 := hr.free 1
  have HB := Lib.hid (((two_new w (.cells #[.int .i64 N, .slice a n cap] 24) (.cells #[.int .i64 0, .slice none 0 0] 24)).trans (hb1.mono (show w.heap.size ≤ _ by simp; omega))))
  have hsz : w.heap.size + 1 < w1.heap.size := hr.lt
  clear hb1 hb1'
  go_wp2
  refine bodyPost_ret (v := .tuple #[.agg #[.int .i64 0, .slice none 0 0], .int .i64 1]) (by simp [results, Try.results18, go_sem, c0, c1]) rfl ⟨rfl, ?_⟩
  exact (HB.out.setCell (p := ⟨w.heap.size + 1, 0, none⟩) (by simp) _).setCell (p := ⟨w.heap.size + 1, 1, none⟩) (by simp) _

theorem toList_madeCells_two (z : Value) (n : Nat) : (madeCells #[z, z] (n * 2)).toList = List.replicate (n * 2) z := by
  refine List.ext_getElem? fun j => ?_
  by_cases hj : j < n * 2
  · rcases Nat.mod_two_eq_zero_or_one j with h | h <;> simp [madeCells, hj, h]
  · simp [madeCells, hj]
/-- 'make([]T, n)', T of two cells alike: a new block of 2 n of them. -/
theorem wpList_make_row2 {P : Program} (w : World) {ops : Array Oper} {rest : List Oper} {o : Oper} {a : Act} {Q : Exit → Act → World → Prop}
    (hg : o.guard = none) (l c : Operand) (t : TypeId) (hop : o.op = Op.makeSlice t l c)
    (e : TypeId) (i : TypeInfo) (z u : Value) (h1 : P.underlying t = some (.slice e)) (h2 : P.info? e = some i) (h3 : i.zero = some z) (h4 : i.size = 2) (h5 : z.cells = #[u, u])
    (kl kc : IntKind) (L C : Int) (n : Nat) (hl : a.eval l = .int kl L) (hc : a.eval c = .int kc C) (hL : L = (n : Int)) (hC : C = (n : Int)) (b2 : i.bytes * n ≤ 281474976710656) (b3 : n ≤ 9223372036854775807)
    (hK : ∀ w', Row w' w.heap.size e (List.replicate (n * 2) u) → Below w.heap.size w w' → w'.heap.size = w.heap.size + 1 → wpList P ops Q rest (a.put o.dst (.slice (some ⟨w.heap.size, 0, none⟩) n n)) w') :
    wpList P ops Q (o :: rest) a w := by
  refine wpList_plain hg fun K hK' => ?_
  have hb' : (i.bytes : Int) * (n : Int) ≤ 281474976710656 := by
    have h : ((i.bytes * n : Nat) : Int) ≤ 281474976710656 := by omega
    rwa [Int.natCast_mul] at h
  have hrun := run_make (P := P) w t e i z h1 h2 h3 kl kc n n (by omega) (Int.le_refl _) hb' (by omega)
  subst hL
  subst hC
  simp only [Int.toNat_natCast] at hrun
  unfold Oper.wp
  simp [execOp, hop, hl, hc, hrun, Result.andThen]
  refine hK' _ _ (hK _ ?_ ((Below.refl _ _).alloc (Nat.le_refl _) _) (by simp))
  show _ = _
  rw [heap_alloc_new, h4, h5]
  congr 2
  exact Array.toList_inj.1 (by rw [toList_madeCells_two])
theorem ReadsE.far {w : World} {B g n : Nat} {l : List (Int × Int)} (h : ReadsE w B (some ⟨g, 0, none⟩) n l) {b o : Nat} (hne : g ≠ b) (v : Value) : ReadsE (w.setCell ⟨b, o, none⟩ v) B (some ⟨g, 0, none⟩) n l := by
  refine ⟨h.1, h.2.1, fun hn => ?_⟩
  obtain ⟨b', off, he, hb, hc⟩ := h.2.2 hn
  injection he with he; injection he with e1 e2; subst e1; subst e2
  have hh := heap_setCell_other w ⟨b, o, none⟩ g v (by exact hne)
  refine ⟨g, 0, rfl, hb, fun i hi => ⟨?_, ?_⟩⟩
  · rw [← (hc i hi).1]; unfold World.cell?; rw [hh]
  · rw [← (hc i hi).2]; unfold World.cell?; rw [hh]
theorem info_edge : (Try.prog.info? 43).map (fun i => (i.zero, i.size, i.bytes)) = some (some (.agg #[.int .i64 0, .int .i64 0]), 2, 16) := by kernel_rfl
/-- what the loop has made of l -/
def Made (l : List (Int × Int)) (n k : Nat) : List (Int × Int) := (l.map norm).take k ++ List.replicate (n - k) (0, 0)
theorem made_length {l : List (Int × Int)} {n k : Nat} (hl : l.length = n) (hk : k ≤ n) : (Made l n k).length = n := by unfold Made; simp; omega
theorem made_step {l : List (Int × Int)} {n k : Nat} {e : Int × Int} (hl : l.length = n) (hk : k < n) (he : l.getD k (0, 0) = e) : (Made l n k).set k (norm e) = Made l n (k + 1) := by
  have hm : (l.map norm).take (k + 1) = (l.map norm).take k ++ [norm e] := by
    rw [List.take_succ_eq_append_getElem (by simp; omega), List.getElem_map]
    rw [List.getD_eq_getElem?_getD, List.getElem?_eq_getElem (by omega)] at he
    simp only [Option.getD_some] at he
    rw [he]
  unfold Made
  rw [hm, List.set_append_right _ _ (by simp; omega)]
  have e1 : k - ((l.map norm).take k).length = 0 := by simp; omega
  obtain ⟨m, hm2⟩ : ∃ m, n - k = m + 1 := ⟨n - k - 1, by omega⟩
  rw [e1, hm2, List.replicate_succ, List.set_cons_zero, show n - (k + 1) = m by omega, List.append_assoc]
  rfl
theorem made_all {l : List (Int × Int)} {n : Nat} (hl : l.length = n) : Made l n n = l.map norm := by
  unfold Made; rw [List.take_of_length_le (by simp; omega), Nat.sub_self]; simp
theorem made_cell {l : List (Int × Int)} {n k : Nat} (hl : l.length = n) (hk : k < n) : ∃ u v : Value, (flatE (Made l n k))[k * 2]? = some u ∧ (flatE (Made l n k))[k * 2 + 1]? = some v := by
  have h := flatE_get (Made l n k) k (by rw [made_length hl (by omega)]; exact hk)
  exact ⟨_, _, h.1, h.2⟩

set_option maxHeartbeats 3200000 in
set_option maxRecDepth 100000 in
theorem order_okC (N : Int) (a : Option Addr) (n cap : Nat) (l : List (Int × Int)) (w : World) {B : Nat} (hN : I64 N) (hf : formed N l = true) (hl : ReadsE w B a n l) (hB : B ≤ w.heap.size) :
    Calls Try.prog 18 #[.agg #[.int .i64 N, .slice a n cap]] w (GraphedC w N n (order l)) := by
  obtain ⟨⟨_, _, hn1⟩, _⟩ := formed_iff.1 hf
  have hn : n ≤ 1073741824 := by rw [← hl.1]; exact hn1
  have HLEN := Lib.hid hl.1
  have HL0 := Lib.hid (fun o => ((hl.keep ((Below.refl _ _).alloc hB (.cells #[.int .i64 N, .slice a n cap] 24))).mono (show B ≤ w.heap.size + 1 by omega)).keep ((Below.refl _ _).alloc (by simp) o))
  have HF := Lib.hid hf
  have HWF : Hid (∀ x ∈ l.map norm, I64 x.1 ∧ I64 x.2) := fun x hx => by
    obtain ⟨y, hy, rfl⟩ := List.mem_map.1 hx
    have h := hl.2.1 y hy
    have h1 := h.1.bounds; have h2 := h.2.bounds
    exact ⟨I64.of (by unfold norm; simp only; omega) (by unfold norm; simp only; omega), I64.of (by unfold norm; simp only; omega) (by unfold norm; simp only; omega)⟩
  obtain ⟨i0, hi, hz0, hz1, hz2⟩ := info_parts info_edge
  clear hf hn1
  go_enter Try.func18, Try.ntmps18
  go_wp2_with fail
  refine (formed_any N a n cap l _ hN (HL0.out _) (by simp) (by omega)).mono ?_; rintro e w1 ⟨rfl, hb1⟩
  rw [HF.out]
  have hb1' : Below (w.heap.size + 2) ((w.alloc (.cells #[.int .i64 N, .slice a n cap] 24)).alloc (.cells #[.int .i64 0, .slice none 0 0] 24)) w1 := hb1.mono (by simp)
  obtain ⟨c0, c1, _, _⟩ := box2b hb1'
  have hr : Row w1 (w.heap.size + 1) 24 [.int .i64 0, .slice none 0 0] := by
    refine Row.below ?_ hb1' (by omega)
    have := heap_alloc_new (w.alloc (.cells #[.int .i64 N, .slice a n cap] 24)) (.cells #[.int .i64 0, .slice none 0 0] 24)
    rw [show (w.alloc (.cells #[.int .i64 N, .slice a n cap] 24)).heap.size = w.heap.size + 1 by simp] at this
    exact this
  have HR := Lib.hid hr
  have HB1 := Lib.hid (((two_new w (.cells #[.int .i64 N, .slice a n cap] 24) (.cells #[.int .i64 0, .slice none 0 0] 24)).trans (hb1.mono (show w.heap.size ≤ _ by simp; omega))))
  have HL1 := Lib.hid ((HL0.out (.cells #[.int .i64 0, .slice none 0 0] 24)).keep (hb1'.mono (show w.heap.size + 1 ≤ w.heap.size + 2 by omega)))
  have hsz : w.heap.size + 1 < w1.heap.size := hr.lt
  clear hb1 hb1' hr HL0
  go_wp2_with (with_reducible refine stopAt 14 ?_)
  unfold Hid
  refine wpList_make_row2 _ rfl _ _ 22 rfl 43 i0 (.agg #[.int .i64 0, .int .i64 0]) (.int .i64 0) Try.underlying22 hi hz0 hz1 rfl .i64 .i64 n n n rfl rfl rfl rfl (by rw [hz2]; omega) (by omega) ?_
  intro w2 hrow hb2 hs2
  have HROW : Hid (Row w2 w1.heap.size 43 (flatE (Made l n 0))) := by
    unfold Hid Made; rw [List.take_zero, List.nil_append, Nat.sub_zero, flatE_zero]; exact hrow
  have HB2 := Lib.hid hb2
  have d0 := (hb2.cell (p := ⟨w.heap.size, 0, none⟩) (by simp; omega)).trans c0
  have d1 := (hb2.cell (p := ⟨w.heap.size, 1, none⟩) (by simp; omega)).trans c1
  have hz2' : w1.heap.size < w2.heap.size := by omega
  have HS2 := Lib.hid hs2
  have HW1 : Hid (w1.heap.size = w1.heap.size) := rfl
  clear hrow hb2 hs2
  obtain ⟨g, hg⟩ : ∃ g, g = w1.heap.size := ⟨_, rfl⟩
  rw [← hg]
  have HG := Lib.hid hg
  rw [← hg] at HROW hsz hz2' HS2
  have HRL : Hid (Row (w2.alloc (.cells #[.slice (some ⟨g, 0, none⟩) n n] 22)) w2.heap.size 22 [.slice (some ⟨g, 0, none⟩) n n]) := heap_alloc_new _ _
  clear hg HW1
  have hw2 : w.heap.size < w2.heap.size := by omega
  go_wp2
  go_loopw [18] (fun iv wr => ∃ k : Nat, k ≤ n ∧ iv = .int .i64 k ∧ Hid (Below g w1 wr) ∧ w2.heap.size < wr.heap.size ∧ Hid (Row wr w2.heap.size 22 [.slice (some ⟨g, 0, none⟩) n n]) ∧ Hid (Row wr g 43 (flatE (Made l n k)))) (fun iv _ => n - (intOf iv).toNat)
  case atStart => exact ⟨0, by omega, rfl, by have h := HB2.out; rw [← HG.out] at h; exact h.alloc (by omega) _, by simp, HRL.out, HROW.out.alloc _⟩
  case round =>
    obtain ⟨k, hk, rfl, HBW, hzr, HLV, HE⟩ := hrel
    have hlv := HLV.out.cell 0
    have e0 := (HBW.out.cell (p := ⟨w.heap.size, 0, none⟩) (by simp; omega)).trans c0
    have e1 := (HBW.out.cell (p := ⟨w.heap.size, 1, none⟩) (by simp; omega)).trans c1
    have hgr : g < wr.heap.size := by omega
    have hwr : w.heap.size < wr.heap.size := by omega
    by_cases hlt : k < n
    · obtain ⟨b, off, u, v, rfl, hb, hu, hv, wu, wv, HEK⟩ := (HL1.out.keep (HBW.out.mono (by omega))).at_ hlt
      have hb2 : b < wr.heap.size := by omega
      obtain ⟨q0, q1, hq0, hq1⟩ := made_cell HLEN.out hlt
      have k0 := (HE.out.cell (k * 2)).trans hq0
      have k1 := (HE.out.cell (k * 2 + 1)).trans hq1
      have f0 := HE.out.free (k * 2)
      have f1 := HE.out.free (k * 2 + 1)
      have hj0 : (0 : Int) ≤ (k : Int) := by omega
      have hj1 : (k : Int) < (n : Int) := by omega
      have hset : ∀ x y : Int, norm (u, v) = (x, y) → Row ((wr.setCell ⟨g, k * 2, none⟩ (.int .i64 x)).setCell ⟨g, k * 2 + 1, none⟩ (.int .i64 y)) g 43 (flatE (Made l n (k + 1))) := fun x y hxy => by
        have h := (HE.out.set (k * 2) (.int .i64 x)).set (k * 2 + 1) (.int .i64 y)
        rw [← made_step HLEN.out hlt HEK.out, hxy, flatE_set]; exact h
      have HSET := Lib.hid hset
      have hfin : ∀ x y : Int, Below g w1 ((wr.setCell ⟨g, k * 2, none⟩ (.int .i64 x)).setCell ⟨g, k * 2 + 1, none⟩ (.int .i64 y)) ∧ ((wr.setCell ⟨g, k * 2, none⟩ (.int .i64 x)).setCell ⟨g, k * 2 + 1, none⟩ (.int .i64 y)).heap.size = wr.heap.size ∧ Row ((wr.setCell ⟨g, k * 2, none⟩ (.int .i64 x)).setCell ⟨g, k * 2 + 1, none⟩ (.int .i64 y)) w2.heap.size 22 [.slice (some ⟨g, 0, none⟩) n n] := fun x y =>
        ⟨(HBW.out.setCell (p := ⟨g, k * 2, none⟩) (Nat.le_refl _) _).setCell (p := ⟨g, k * 2 + 1, none⟩) (Nat.le_refl _) _, by simp, (HLV.out.far (p := ⟨g, k * 2, none⟩) (by simp; omega) _).far (p := ⟨g, k * 2 + 1, none⟩) (by simp; omega) _⟩
      have HFIN := Lib.hid hfin
      clear hq0 hq1 hset hfin
      go_wp2
      have hs4 := HSET.out (min u v) (max u v) rfl
      obtain ⟨hb4, hz4, hl4⟩ := HFIN.out (min u v) (max u v)
      generalize (wr.setCell ⟨g, k * 2, none⟩ (.int .i64 (min u v))).setCell ⟨g, k * 2 + 1, none⟩ (.int .i64 (max u v)) = w4 at *
      have HB4 := Lib.hid (hb4.alloc (show g ≤ w4.heap.size by omega) (.cells #[.int .i64 u, .int .i64 v] 43))
      have HS4 := Lib.hid (hs4.alloc (.cells #[.int .i64 u, .int .i64 v] 43))
      have HL4 := Lib.hid (hl4.alloc (.cells #[.int .i64 u, .int .i64 v] 43))
      go_roundw
      case rel => exact ⟨k + 1, by omega, by go_num, HB4.out, by simp; omega, HL4.out, HS4.out⟩
      case measure => simp [intOf]; omega
    · obtain rfl : k = n := by omega
      have HM : Hid (Row wr g 43 (flatE (l.map norm))) := by unfold Hid; rw [← made_all HLEN.out]; exact HE.out
      have HRW := Lib.hid (HR.out.below HBW.out hsz)
      have HBX := Lib.hid (HB1.out.trans (HBW.out.mono (show w.heap.size ≤ g by omega)))
      clear HE
      go_wp2_with fail
      refine (slice_any g k w2.heap.size k (l.map norm) wr (by simpa using HLEN.out) HWF.out HM.out hlv (by omega) hn).mono ?_; rintro e w5 ⟨rfl, hs5⟩
      obtain ⟨⟨l', hp, hso, hrd⟩, hbt⟩ := hs5
      obtain rfl : l' = order l := order_one hp hso
      have HRD := Lib.hid hrd
      have HR5 := Lib.hid (hbt.row (by omega) HRW.out)
      have HB5 := Lib.hid (hbt.below HBX.out (by omega) (by omega))
      have m0 := hbt.cell (p := ⟨w.heap.size, 0, none⟩) (by simp; omega) (by simp; omega) e0
      have m1 := hbt.cell (p := ⟨w2.heap.size, 0, none⟩) (by simp; omega) (by simp; omega) hlv
      have r0 := HR5.out.cell 0
      have r1 := HR5.out.cell 1
      have f0 := HR5.out.free 0
      have f1 := HR5.out.free 1
      have hsz5 : w.heap.size + 1 < w5.heap.size := HR5.out.lt
      clear hp hso hrd hbt
      go_wp2
      refine bodyPost_ret (v := .tuple #[.agg #[.int .i64 N, .slice (some ⟨g, 0, none⟩) k k], .int .i64 0]) (by simp [results, Try.results18, go_sem, r0, r1]) rfl ⟨_, _, rfl, ?_, ?_, Nat.le_refl _, hn⟩
      · have h := (HRD.out.far (b := w.heap.size + 1) (o := 0) (by omega) (.int .i64 N)).far (b := w.heap.size + 1) (o := 1) (by omega) (.slice (some ⟨g, 0, none⟩) k k)
        simpa using h
      · exact (HB5.out.setCell (p := ⟨w.heap.size + 1, 0, none⟩) (by simp) _).setCell (p := ⟨w.heap.size + 1, 1, none⟩) (by simp) _
theorem order_ok (N : Int) (a : Option Addr) (n cap : Nat) (l : List (Int × Int)) (w : World) {B : Nat} (hN : I64 N) (hf : formed N l = true) (hl : ReadsE w B a n l) (hB : B ≤ w.heap.size) :
    Calls Try.prog 18 #[.agg #[.int .i64 N, .slice a n cap]] w (Graphed w N n (order l)) := (order_okC N a n cap l w hN hf hl hB).mono fun _ _ h => h.graphed
end Go.Proofs.Ytdjmjabbjjcgiaa
