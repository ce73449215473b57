/- What format.putNumber, leaving, putVertex and room answer. -/
import Derived.Test.YtdjmjabbjjcgiaaFormatMath
import Derived.Test.YtdjmjabbjjcgiaaPut
import Derived.Test.YtdjmjabbjjcgiaaGraphCnt
namespace Go.Proofs.Ytdjmjabbjjcgiaa
open Go.ChangeShapes Go.WideShapes Go.ChangeAt Go.RowKit

/-- v is a slice of the call's own (from block base on) that holds the bytes L -/
def OwnB (w : World) (base : Nat) (v : Value) (L : List Nat) : Prop := w.ownsRow base 5 1 v L.length (L.map f8)
theorem OwnB.keep {w w' : World} {base : Nat} {v : Value} {L : List Nat} (h : OwnB w base v L) (hb : Below w.heap.size w w') : OwnB w' base v L := own_keep h hb
/-- bytes are answered, in memory of the call's own -/
def PutB (w : World) (base : Nat) (L : List Nat) (e : Ending) (w' : World) : Prop := ∃ v, e = .returned v ∧ OwnB w' base v L ∧ Below base w w'
/-- besides, no block but the row's own has changed -/
def PutF (w : World) (base : Nat) (v : Value) (L : List Nat) (e : Ending) (w' : World) : Prop := ∃ v', e = .returned v' ∧ OwnB w' base v' L ∧ Below base w w' ∧ ∀ k, k < w.heap.size → some k ≠ v.ownBlock → w'.heap[k]? = w.heap[k]?

set_option maxHeartbeats 800000 in
set_option maxRecDepth 100000 in
theorem putNumber_any (base : Nat) (v : Value) (L : List Nat) (x : Nat) (w : World) (hown : OwnB w base v L) (hbase : base ≤ w.heap.size) (hL : L.length ≤ 90000) (hx : x ≤ 9223372036854775807) :
    Calls Try.prog 20 #[v, .int .i64 (x : Int)] w (PutF w base v (L ++ uv x)) := by
  obtain ⟨i0, hi, hz0, hz1, hz2⟩ := info_parts info5
  have hxu : U64 x := by unfold U64; omega
  have hv := vs_le hxu
  have HO := Lib.hid hown
  clear hown
  go_enter Try.func20, Try.ntmps20
  go_wp2_with fail
  refine (put_any none 0 0 [] x w ⟨rfl, by simp, fun h => absurd h (by omega)⟩ (by omega) hxu).mono ?_
  rintro e w1 ⟨g, rfl, hg, hr, hb⟩
  rw [Nat.zero_add, List.nil_append] at hr
  have HR := Lib.hid hr
  have HB := Lib.hid hb
  have HO1 := Lib.hid (HO.out.keep hb)
  have hs := hb.size
  clear hr hb
  go_wp2_with (with_reducible refine stopAt 9 ?_)
  unfold Hid
  refine wpList_append_list3 _ rfl _ _ 27 rfl base 5 i0 (.int .u8 0) 1 Try.underlying27 hi hz0 hz1 hz2 rfl v L.length (L.map f8) rfl HO1.out _ (vs x) _ ((uv x).map f8) rfl (by simp [vs]) HR.out.source cells_int (by unfold maxLen; omega) (by omega) (by omega) ?_
  intro v2 w2 hown2 hb2 hfar
  have HO2 : Hid (OwnB w2 base v2 (L ++ uv x)) := by
    unfold Hid OwnB
    rw [List.map_append, List.length_append]
    exact hown2
  have HB2 := Lib.hid ((HB.out.mono hbase).trans hb2)
  have HF : Hid (∀ k, k < w.heap.size → some k ≠ v.ownBlock → w2.heap[k]? = w.heap[k]?) := fun k hk hn => (hfar k (by omega) hn).trans (HB.out.block k hk)
  clear hown2 hb2 hfar
  go_wp2
  go_ret
  exact ⟨_, rfl, HO2.out, HB2.out, HF.out⟩

theorem lead_at {l : List (Int × Int)} {u : Int} {k : Nat} (hk : k ≤ l.length) (h : ∀ i, i < k → (l.getD i (0, 0)).1 = u) (hs : k = l.length ∨ (l.getD k (0, 0)).1 ≠ u) : lead l u = k := by
  have h1 : ∀ e ∈ l.take k, e.1 = u := fun e he => by
    obtain ⟨i, hi, rfl⟩ := List.getElem_of_mem he
    have hi' : i < k := by simp at hi; omega
    have := h i hi'
    rw [List.getD_eq_getElem?_getD, List.getElem?_eq_getElem (by omega)] at this
    rw [List.getElem_take]; exact this
  have h2 : l = l.take k ++ l.drop k := (List.take_append_drop k l).symm
  unfold lead
  rw [h2, List.takeWhile_append_of_pos (by simpa using h1)]
  have h3 : (l.drop k).takeWhile (fun e => decide (e.1 = u)) = [] := by
    rcases hd : l.drop k with _ | ⟨x, r⟩
    · rfl
    · have hlt : k < l.length := by
        rcases Nat.lt_or_ge k l.length with hlt | hge
        · exact hlt
        · rw [List.drop_eq_nil_of_le hge] at hd; cases hd
      rw [List.drop_eq_getElem_cons hlt] at hd
      injection hd with hd1 _
      rcases hs with hs | hs
      · omega
      · rw [List.getD_eq_getElem?_getD, List.getElem?_eq_getElem hlt] at hs
        rw [List.takeWhile_cons_of_neg]
        rw [← hd1]; simpa using hs
  rw [h3]; simp; omega

set_option maxHeartbeats 800000 in
set_option maxRecDepth 100000 in
theorem leaving_any (a : Option Addr) (n cap : Nat) (l : List (Int × Int)) (u : Int) (w : World) {B : Nat} (hl : ReadsE w B a n l) (hcap : n ≤ 9223372036854775807) :
    Calls Try.prog 21 #[.slice a n cap, .int .i64 u] w fun e w' => e = .returned (.int .i64 (lead l u : Nat)) ∧ w' = w := by
  have HLEN := Lib.hid hl.1
  go_enter Try.func21, Try.ntmps21
  go_wp2
  go_loop [5] (fun nv => ∃ k : Nat, k ≤ n ∧ nv = .int .i64 k ∧ Hid (∀ i, i < k → (l.getD i (0, 0)).1 = u)) (fun nv => n - (intOf nv).toNat)
  case atStart => exact ⟨0, by omega, rfl, fun i hi => absurd hi (by omega)⟩
  case round =>
    obtain ⟨k, hk, rfl, HK⟩ := hrel
    by_cases hlt : k < n
    · obtain ⟨b, off, c, v, rfl, hb, hu, hv, wu, wv, HE⟩ := hl.at_ hlt
      by_cases hcu : c = u
      · have g : (c == u) = true := by simp; omega
        have HS : Hid ((l.getD k (0, 0)).1 = u) := by unfold Hid; rw [HE.out]; exact hcu
        clear hcu
        go_wp2
        go_round
        case rel => exact ⟨k + 1, by omega, by go_num, up_snoc HK.out HS.out⟩
        case measure => simp [intOf]; omega
      · have g : (c == u) = false := by simp; omega
        have HX : Hid (lead l u = k) := lead_at (by have := HLEN.out; omega) HK.out (.inr (by rw [HE.out]; exact hcu))
        clear hcu
        go_wp2
        go_ret
        exact ⟨ret_int (by rw [HX.out]), rfl⟩
    · obtain rfl : k = n := by omega
      have HX : Hid (lead l u = k) := lead_at (by have := HLEN.out; omega) HK.out (.inl HLEN.out.symm)
      go_wp2
      go_ret
      exact ⟨ret_int (by rw [HX.out]), rfl⟩

set_option maxHeartbeats 1600000 in
set_option maxRecDepth 100000 in
theorem putVertex_any (base : Nat) (v : Value) (L : List Nat) (N u : Nat) (a : Option Addr) (n cap : Nat) (l : List (Int × Int)) (w : World) {B : Nat} (hl : ReadsE w B a n l) (hB : B ≤ base) (hown : OwnB w base v L) (hbase : base ≤ w.heap.size) (hL : L.length + 10 * n + 10 ≤ 90000)
    (hN : N ≤ 1073741824) (hu : u < N) (hr : Ris N u u l) :
    Calls Try.prog 22 #[v, .int .i64 (u : Int), .slice a n cap] w (PutB w base (L ++ (uv n ++ diffs u l))) := by
  have HLEN := Lib.hid hl.1
  have HL0 := Lib.hid hl
  have HRIS := Lib.hid hr
  have HBASE : Hid (base ≤ base) := Nat.le_refl _
  have hn10 := vs_le (x := n) (by unfold U64; omega)
  have HV0 : Hid ((uv n).length = vs n) := rfl
  clear hr hl
  go_enter Try.func22, Try.ntmps22
  go_wp2_with fail
  refine (putNumber_any base v L n w hown hbase (by omega) (by omega)).mono ?_
  rintro e w1 ⟨v1, rfl, ho1, hb1, _⟩
  have HO1 := Lib.hid ho1
  have HB1 := Lib.hid hb1
  have hs1 := hb1.size
  clear ho1 hb1 hown
  go_wp2
  go_loopw [0, 7, 17] (fun bv pv iv wr => ∃ k p : Nat, k ≤ n ∧ iv = .int .i64 k ∧ pv = .int .i64 p ∧ p < N ∧ Hid (Below base w1 wr) ∧ w1.heap.size ≤ wr.heap.size ∧ Hid (∃ done, done.length ≤ 10 * k ∧ OwnB wr base bv (L ++ uv n ++ done) ∧ done ++ diffs p (l.drop k) = diffs u l ∧ Ris N u p (l.drop k))) (fun _ _ iv _ => n - (intOf iv).toNat)
  case atStart => exact ⟨0, u, by omega, rfl, rfl, hu, Below.refl _ _, Nat.le_refl _, [], by simp, by simpa using HO1.out, by simp, by simpa using HRIS.out⟩
  case round =>
    obtain ⟨k, p, hk, rfl, rfl, hp, HBW, hsz, HD⟩ := hrel
    by_cases hlt : k < n
    · obtain ⟨b, off, c, d, rfl, hb, hcc, hd, wc, wd, HE⟩ := ((HL0.out.keep (HB1.out.mono hB)).keep (HBW.out.mono hB)).at_ hlt
      have hb2 : b < wr.heap.size := by omega
      obtain ⟨done, hd1, hd2, hd3, hd4⟩ := HD.out
      have hkl : k < l.length := by have := HLEN.out; omega
      have hdrop : l.drop k = (c, d) :: l.drop (k + 1) := by
        rw [List.drop_eq_getElem_cons hkl]
        have := HE.out
        rw [List.getD_eq_getElem?_getD, List.getElem?_eq_getElem hkl] at this
        simp only [Option.getD_some] at this
        rw [this]
      rw [hdrop] at hd3 hd4
      obtain ⟨r1, r2, r3, r4⟩ := hd4
      simp only at r1 r2 r3 r4
      obtain ⟨V, rfl⟩ := Int.eq_ofNat_of_zero_le (show 0 ≤ d by omega)
      have hV : V < N := by omega
      have hpV : p ≤ V := by omega
      have hsub : (V : Int) - (p : Int) = ((V - p : Nat) : Int) := by omega
      have HSUB := Lib.hid hsub
      have HD3 := Lib.hid hd3
      have HD4 := Lib.hid r4
      have hvp := vs_le (x := V - p) (by unfold U64; omega)
      have HO2 := Lib.hid (hd2.keep ((Below.refl _ _).alloc (Nat.le_refl _) (.cells #[.int .i64 c, .int .i64 (V : Int)] 43)))
      have HBW2 := Lib.hid (HBW.out.alloc (show base ≤ wr.heap.size by omega) (.cells #[.int .i64 c, .int .i64 (V : Int)] 43))
      have HVP : Hid ((uv (V - p)).length = vs (V - p)) := rfl
      have HLN : Hid ((L ++ uv n ++ done).length = L.length + vs n + done.length) := by unfold Hid; simp [vs]; omega
      have HLT := Lib.hid hd2.lt
      clear hd2 hd3 r4 HD hsub r1 r2 r3 hdrop
      go_wp2_with fail
      rw [HSUB.out]
      refine (putNumber_any base _ _ (V - p) _ HO2.out (by simp; omega) (by rw [HLN.out]; omega) (by omega)).mono ?_
      rintro e w3 ⟨v3, rfl, ho3, hb3, hf3⟩
      have hx3 : Row w3 wr.heap.size 43 [.int .i64 c, .int .i64 (V : Int)] := by
        refine (hf3 wr.heap.size (by simp) fun h => ?_).trans (heap_alloc_new _ _)
        have := (HLT.out _ h.symm).2
        omega
      have cx := hx3.cell 1
      have HO3 := Lib.hid ho3
      have HB3 := Lib.hid (HBW2.out.trans hb3)
      have hs3 : wr.heap.size < w3.heap.size := by have := hb3.size; simp at this; omega
      clear ho3 hb3 hf3 hx3
      go_wp2
      go_roundw
      case rel =>
        refine ⟨k + 1, V, by omega, by go_num, rfl, hV, HB3.out, by omega, done ++ uv (V - p), ?_, ?_, ?_, HD4.out⟩
        · rw [List.length_append, HVP.out]; omega
        · rw [← List.append_assoc]; exact HO3.out
        · have h := HD3.out
          simp only [diffs] at h
          rw [HSUB.out, Int.toNat_natCast] at h
          rw [List.append_assoc]; exact h
      case measure => simp [intOf]; omega
    · obtain rfl : k = n := by omega
      have HX : Hid (OwnB wr base u0 (L ++ (uv k ++ diffs u l))) := by
        obtain ⟨done, _, h2, h3, _⟩ := HD.out
        rw [List.drop_eq_nil_of_le (by have := HLEN.out; omega)] at h3
        simp only [diffs, List.append_nil] at h3
        rw [h3, List.append_assoc] at h2
        exact h2
      go_wp2
      go_ret
      exact ⟨_, rfl, HX.out, HB1.out.trans HBW.out⟩

/-- 'make([]T, 0, c)', T of one cell: an own row of nothing, with room for c. -/
theorem wpList_make_room {P : Program} (w : World) {ops : Array Oper} {rest : List Oper} {o : Oper} {a : Act} {Q : Exit → Act → World → Prop}
    (hg : o.guard = none) (l c : Operand) (t : TypeId) (hop : o.op = Op.makeSlice t l c)
    (e : TypeId) (i : TypeInfo) (z : Value) (h1 : P.underlying t = some (.slice e)) (h2 : P.info? e = some i) (h3 : i.zero = some z) (h4 : i.size = 1) (h5 : z.cells = #[z])
    (kl kc : IntKind) (C : Int) (n : Nat) (hl : a.eval l = .int kl 0) (hc : a.eval c = .int kc C) (hC : C = (n : Int)) (b2 : i.bytes * n ≤ 281474976710656) (b3 : n ≤ maxLen)
    (hK : ∀ v w', w'.ownsRow w.heap.size e 1 v 0 [] → Below w.heap.size w w' → wpList P ops Q rest (a.put o.dst v) w') :
    wpList P ops Q (o :: rest) a w := by
  refine wpList_plain hg fun K hK' => ?_
  have hb' : (i.bytes : Int) * (n : Int) ≤ 281474976710656 := by
    have h : ((i.bytes * n : Nat) : Int) ≤ 281474976710656 := by omega
    rwa [Int.natCast_mul] at h
  have hrun := run_make (P := P) w t e i z h1 h2 h3 kl kc 0 n (by omega) (by omega) hb' (by unfold maxLen at b3; omega)
  subst hC
  simp only [Int.toNat_natCast, Int.toNat_zero] at hrun
  unfold Oper.wp
  simp [execOp, hop, hl, hc, hrun, Result.andThen]
  refine hK' _ _ (hK _ _ ⟨rfl, .inr ⟨w.heap.size, n, madeCells z.cells (n * i.size), rfl, Nat.le_refl _, heap_alloc_new _ _, by omega, b3, ?_, by simp⟩⟩ ((Below.refl _ _).alloc (Nat.le_refl _) _))
  rw [h4, h5]
  have := congrArg List.length (toList_madeCells_one z (n * 1))
  simpa using this

theorem size_q (x : Nat) (hx : U64 x) (w : World) : ∀ q, Calls Try.prog 32 #[.int .u64 x] (w.drewN q) fun e w'' => e = .returned (.int .i64 (vs x)) ∧ ∃ m, w'' = w.drewN m := fun _ =>
  Calls.quiet_of_same ((size_any x hx _).mono fun _ _ h => ⟨h.1, h.2.symm⟩)

set_option maxHeartbeats 800000 in
set_option maxRecDepth 100000 in
theorem room_any (N : Nat) (a : Option Addr) (n cap : Nat) (w : World) (hN : N ≤ 1073741824) (hn : n ≤ 1073741824) :
    Calls Try.prog 19 #[.agg #[.int .i64 (N : Int), .slice a n cap]] w (PutB w w.heap.size []) := by
  obtain ⟨i0, hi, hz0, hz1, hz2⟩ := info_parts info5
  have hNu : U64 N := by unfold U64; omega
  have hnu : U64 n := by unfold U64; omega
  have h1 := vs_le hNu
  have h2 := vs_le hnu
  have HQ1 := Lib.hid (fun w => size_q N hNu w)
  have HQ2 := Lib.hid (fun w => size_q n hnu w)
  go_enter Try.func19, Try.ntmps19
  go_wp2
  go_quiet (with_reducible first | exact HQ1.out _ _ | exact HQ2.out _ _)
  go_wp2_with (with_reducible refine stopAt 23 ?_)
  unfold Hid
  refine wpList_make_room _ rfl _ _ 27 rfl 5 i0 (.int .u8 0) Try.underlying27 hi hz0 hz1 rfl .i64 .i64 _ (1 + vs N + vs n + N + n) rfl rfl (by push_cast; omega) (by rw [hz2]; omega) (by unfold maxLen; omega) ?_
  intro v w2 hown hb
  have HO : Hid (OwnB w2 w.heap.size v []) := own_base hown (by simp)
  have HB := Lib.hid ((below_drewN ((Below.refl w.heap.size w).alloc (Nat.le_refl _) (.cells #[.int .i64 (N : Int), .slice a n cap] 24)) nq).trans (hb.mono (by simp)))
  clear hown hb
  go_wp2
  go_ret
  exact ⟨_, rfl, HO.out, HB.out⟩
end Go.Proofs.Ytdjmjabbjjcgiaa
