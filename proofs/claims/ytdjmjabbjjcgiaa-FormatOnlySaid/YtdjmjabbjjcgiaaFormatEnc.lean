/- What format.Encode answers. -/
import Derived.Test.YtdjmjabbjjcgiaaFormatPut
import Derived.Test.YtdjmjabbjjcgiaaGraphOrder
namespace Go.Proofs.Ytdjmjabbjjcgiaa
open Go.ChangeShapes Go.WideShapes Go.ChangeAt Go.RowKit

theorem ReadsE.take {w : World} {B : Nat} {a : Option Addr} {n m : Nat} {l : List (Int × Int)} (h : ReadsE w B a n l) (hm : m ≤ n) : ReadsE w B a m (l.take m) := by
  obtain ⟨hl, hw, hc⟩ := h
  refine ⟨by simp; omega, fun x hx => hw x (List.mem_of_mem_take hx), fun hpos => ?_⟩
  obtain ⟨b, off, rfl, hb, hc⟩ := hc (by omega)
  refine ⟨b, off, rfl, hb, fun i hi => ?_⟩
  have := hc i (by omega)
  simp only [List.getD_eq_getElem?_getD, List.getElem?_take, if_pos hi] at this ⊢
  exact this
theorem edges_info : ∃ i, Try.prog.info? 43 = some i ∧ i.size = 2 := by
  have h : (Try.prog.info? 43).map (·.size) = some 2 := by kernel_rfl
  rcases hi : Try.prog.info? 43 with _ | i
  · rw [hi] at h; cases h
  · rw [hi] at h; simp at h; exact ⟨i, rfl, h⟩
/-- 'x[k:]' of a slice of edges -/
theorem ReadsE.tail {w : World} {B : Nat} {a : Option Addr} {n cap k : Nat} {l : List (Int × Int)} (h : ReadsE w B a n l) (hk : k ≤ n) (hc : n ≤ cap) :
    ∃ A, (∀ w' (kl : IntKind), (Instr.slice 22 (.slice a n cap) (some (.int kl (k : Int))) none none).run Try.prog w' = .ok (.slice A (n - k) (cap - k)) w') ∧ ReadsE w B A (n - k) (l.drop k) := by
  obtain ⟨i0, hi, hs⟩ := edges_info
  have he : Try.prog.elem 22 = 43 := by simp [Program.elem, Try.underlying22]
  refine ⟨if cap = k then a else a.map (·.add (k * 2)), fun w' kl => ?_, ?_⟩
  · rw [run_slice_l w' 22 a n cap (by rw [he]; exact Try.underlying22) kl k (by omega) (by omega)]
    simp [he, sizeOf, typeInfo, hi, hs, sliced]
  · obtain ⟨hl, hw, hcc⟩ := h
    refine ⟨by simp; omega, fun x hx => hw x (List.mem_of_mem_drop hx), fun hpos => ?_⟩
    obtain ⟨b, off, rfl, hb, hcc⟩ := hcc (by omega)
    refine ⟨b, off + k * 2, by rw [if_neg (by omega)]; simp [Addr.add], hb, fun i hi => ?_⟩
    have := hcc (k + i) (by omega)
    rw [show off + k * 2 + i * 2 = off + (k + i) * 2 by omega]
    simp only [List.getD_eq_getElem?_getD, List.getElem?_drop] at this ⊢
    exact this
theorem run_head_edges (w : World) (a : Option Addr) (len cap j : Nat) (hj : j ≤ cap) (kh : IntKind) : (Instr.slice 22 (.slice a len cap) none (some (.int kh (j : Int))) none).run Try.prog w = .ok (.slice a j cap) w := by
  obtain ⟨i0, hi, _⟩ := edges_info
  exact run_head w 22 43 i0 Try.underlying22 hi a len cap j hj kh _ rfl

/-- the bytes are answered, beside OK, in memory of the call's own -/
def EncB (w : World) (L : List Nat) (e : Ending) (w' : World) : Prop := ∃ v, e = .returned (.tuple #[v, .int .i64 0]) ∧ OwnB w' w.heap.size v L ∧ Below w.heap.size w w'

set_option maxHeartbeats 800000 in
set_option maxRecDepth 100000 in
theorem encode_bad (N : Int) (a : Option Addr) (n cap : Nat) (l : List (Int × Int)) (w : World) {B : Nat} (hN : I64 N) (hf : formed N l = false) (hl : ReadsE w B a n l) (hB : B ≤ w.heap.size) (hcap : n ≤ 9223372036854775807) :
    Calls Try.prog 11 #[.agg #[.int .i64 N, .slice a n cap]] w fun e w' => e = .returned (.tuple #[.slice none 0 0, .int .i64 1]) ∧ Below w.heap.size w w' := by
  have HL0 := Lib.hid ((hl.keep ((Below.refl _ _).alloc hB (.cells #[.int .i64 N, .slice a n cap] 24))).mono (show B ≤ w.heap.size + 1 by omega))
  go_enter Try.func11, Try.ntmps11
  go_wp2_with fail
  refine (order_bad N a n cap l _ hN hf HL0.out (by simp) hcap).mono ?_; rintro e w1 ⟨rfl, hb1⟩
  have HB := Lib.hid ((((Below.refl _ _).alloc (Nat.le_refl _) _).trans (hb1.mono (show w.heap.size ≤ _ by simp))).alloc (o := .cells #[.int .i64 0, .slice none 0 0] 24) (by have := hb1.size; simp at this; omega))
  clear hb1
  go_wp2
  go_ret2
  exact ⟨rfl, HB.out⟩

set_option maxHeartbeats 3200000 in
set_option maxRecDepth 100000 in
theorem encode_ok (N : Nat) (a : Option Addr) (n cap : Nat) (l : List (Int × Int)) (w : World) {B : Nat} (hf : formed N l = true) (hl : ReadsE w B a n l) (hB : B ≤ w.heap.size) (hNn : N + n ≤ 4000) :
    Calls Try.prog 11 #[.agg #[.int .i64 (N : Int), .slice a n cap]] w (EncB w (enc N (order l))) := by
  have HLEN := Lib.hid hl.1
  have HN : Hid (I64 (N : Int)) := I64.of (by omega) (by omega)
  have HL0 := Lib.hid ((hl.keep ((Below.refl _ _).alloc hB (.cells #[.int .i64 (N : Int), .slice a n cap] 24))).mono (show B ≤ w.heap.size + 1 by omega))
  have HF := Lib.hid hf
  have HG := Lib.hid (good_order hf)
  have HOL : Hid ((order l).length = n) := by unfold Hid; rw [order_length]; exact hl.1
  have HEL := Lib.hid (enc_len (by omega) (by rw [HOL.out]; omega) (good_order hf))
  obtain ⟨i0, hi, hz0, hz1, hz2⟩ := info_parts info5
  clear hf
  go_enter Try.func11, Try.ntmps11
  go_wp2_with fail
  refine (order_okC N a n cap l _ HN.out HF.out HL0.out (by simp)).mono ?_; rintro e w1 ⟨A, c, rfl, hr1, hb1, hc1, hc2⟩
  have HR1 := Lib.hid hr1
  have HB1 := Lib.hid (((Below.refl _ _).alloc (Nat.le_refl _) _).trans (hb1.mono (show w.heap.size ≤ _ by simp)))
  have hs1 : w.heap.size < w1.heap.size := by have := hb1.size; simp at this; omega
  clear hr1 hb1 hl
  go_wp2_with fail
  refine (room_any N A n c _ (by omega) (by omega)).mono ?_
  rintro e w2 ⟨v2, rfl, ho2, hb2⟩
  have hg2 : Row w2 w1.heap.size 24 [.int .i64 (N : Int), .slice A n c] := Row.below (heap_alloc_new _ _) hb2 (by simp)
  have c0 := hg2.cell 0
  have c1 := hg2.cell 1
  have HO2 : Hid (OwnB w2 (w1.heap.size + 1) v2 []) := by unfold Hid; simpa using ho2
  have HB2 : Hid (Below (w1.heap.size + 1) (w1.alloc (.cells #[.int .i64 (N : Int), .slice A n c] 24)) w2) := by unfold Hid; simpa using hb2
  have hs2 : w1.heap.size < w2.heap.size := hg2.lt
  have HG2 := Lib.hid hg2
  clear ho2 hb2 hg2
  obtain ⟨base, hbase⟩ : ∃ b, b = w1.heap.size + 1 := ⟨_, rfl⟩
  rw [← hbase] at HO2 HB2
  go_wp2_with (with_reducible refine stopAt 21 ?_)
  unfold Hid
  refine wpList_append_list _ rfl _ _ 27 rfl base 5 i0 (.int .u8 0) 1 Try.underlying27 hi hz0 hz1 hz2 rfl v2 0 [] rfl (HO2.out.keep ((Below.refl _ _).alloc (Nat.le_refl _) _)) _ 1 1 [.int .u8 71] rfl rfl (fun _ => ⟨_, rfl, cells1⟩) (by simp; rfl) (by omega) (by omega) (by simp; omega) ?_
  intro v3 w3 hown3 hb3
  have HO3 : Hid (OwnB w3 base v3 [71]) := hown3
  have hb3' : Below base w2 w3 := ((Below.refl _ _).alloc (by omega) _).trans hb3
  have HG3 := Lib.hid (HG2.out.below hb3' (by omega))
  have HB3 := Lib.hid (HB2.out.trans hb3')
  have c0 := HG3.out.cell 0
  have c1 := HG3.out.cell 1
  have hs3 : w2.heap.size ≤ w3.heap.size := hb3'.size
  clear hown3 hb3 hb3'
  go_wp2_with fail
  refine (putNumber_any base v3 [71] N w3 HO3.out (by omega) (by simp) (by omega)).mono ?_
  rintro e w4 ⟨v4, rfl, ho4, hb4, _⟩
  have HO4 := Lib.hid ho4
  have HG4 := Lib.hid (HG3.out.below hb4 (by omega))
  have HB4 := Lib.hid (HB3.out.trans hb4)
  have c0 := HG4.out.cell 0
  have c1 := HG4.out.cell 1
  have hs4 : w3.heap.size ≤ w4.heap.size := hb4.size
  have hvN := vs_le (x := N) (by unfold U64; omega)
  clear ho4 hb4
  go_wp2_with fail
  refine (putNumber_any base v4 ([71] ++ uv N) n w4 HO4.out (by omega) (by unfold vs at hvN; simp; omega) (by omega)).mono ?_
  rintro e w5 ⟨v5, rfl, ho5, hb5, _⟩
  have HO5 := Lib.hid ho5
  have HG5 := Lib.hid (HG4.out.below hb5 (by omega))
  have HB5 := Lib.hid (HB4.out.trans hb5)
  have c0 := HG5.out.cell 0
  have c1 := HG5.out.cell 1
  have hs5 : w4.heap.size ≤ w5.heap.size := hb5.size
  have HR5 : Hid (ReadsE w5 base A n (order l)) := by
    have h0 : Below w1.heap.size w1 w5 := ((Below.refl _ _).alloc (Nat.le_refl _) _).trans (HB5.out.mono (by omega))
    exact (HR1.out.keep h0).mono (by omega)
  clear ho5 hb5
  have HDONE : Hid ([71] ++ uv N ++ uv n ++ encV N 0 (order l) = enc N (order l)) := by
    unfold Hid enc; rw [HOL.out]; simp
  go_wp2
  go_loopw [6, 7, 35] (fun bv rv iv wr => ∃ (u m c : Nat) (A : Option Addr) (E : List (Int × Int)), u ≤ N ∧ iv = .int .i64 u ∧ rv = .slice A m c ∧ m ≤ n ∧ m ≤ c ∧ c ≤ 1073741824 ∧ Hid (Below base w5 wr) ∧ w5.heap.size ≤ wr.heap.size ∧ Hid (ReadsE w5 base A m E) ∧ Hid (Good N u E) ∧ Hid (∃ done, OwnB wr base bv done ∧ done ++ encV (N - u) u E = enc N (order l))) (fun _ _ iv _ => N - (intOf iv).toNat)
  case atStart => exact ⟨0, n, c, A, order l, by omega, rfl, rfl, Nat.le_refl _, hc1, hc2, Below.refl _ _, Nat.le_refl _, HR5.out, by unfold Hid; simpa using HG.out, _, HO5.out, by simpa using HDONE.out⟩
  case round =>
    obtain ⟨u, m, c', A', E, hu, rfl, rfl, hm, hmc, hcc, HBW, hsz, HRE, HGE, HD⟩ := hrel
    have c0 := (HG5.out.below HBW.out (by omega)).cell 0
    have c1 := (HG5.out.below HBW.out (by omega)).cell 1
    by_cases hlt : u < N
    · have HRW := Lib.hid (HRE.out.keep HBW.out)
      have hlead : lead E u ≤ m := by have := lead_le E u; have := HRE.out.1; omega
      obtain ⟨At, ht, hrt⟩ := HRE.out.tail hlead hmc
      have HT := Lib.hid ht
      have HRT := Lib.hid hrt
      have hh := fun w' kh => run_head_edges w' A' m c' (lead E u) (by omega) kh
      have HH := Lib.hid hh
      have HEN : Hid (enc N (order l) = enc N (order l)) := rfl
      obtain ⟨done, hd1, hd2⟩ := HD.out
      obtain ⟨j, hj⟩ : ∃ j, N - u = j + 1 := ⟨N - u - 1, by omega⟩
      rw [hj] at hd2
      simp only [encV] at hd2
      have hdl : done.length ≤ 40021 := by
        have := HEL.out
        rw [← hd2, HOL.out, List.length_append] at this
        omega
      have HD1 := Lib.hid hd1
      have HD2 := Lib.hid hd2
      have HJ := Lib.hid hj
      clear hd1 hd2 ht hrt hh HD hj
      go_wp2_with fail
      refine (leaving_any A' m c' E u _ HRW.out (by omega)).mono ?_; rintro e w6 ⟨rfl, rfl⟩
      have hh := HH.out
      have ht := HT.out
      go_wp2_with fail
      refine (putVertex_any base _ done N u A' (lead E u) c' (E.take (lead E u)) _ (HRW.out.take hlead) (Nat.le_refl _) HD1.out (by omega) (by omega) (by omega) hlt HGE.out.first).mono ?_
      rintro e w7 ⟨v7, rfl, ho7, hb7⟩
      have HO7 := Lib.hid ho7
      have HB7 := Lib.hid (HBW.out.trans hb7)
      have hs7 := hb7.size
      clear ho7 hb7
      go_wp2
      go_roundw
      case rel =>
        refine ⟨u + 1, m - lead E u, c' - lead E u, At, E.drop (lead E u), by omega, by go_num, rfl, by omega, by omega, by omega, HB7.out, by omega, HRT.out, by unfold Hid; push_cast; exact HGE.out.rest, _, HO7.out, ?_⟩
        have h1 := HD2.out
        rw [show N - (u + 1) = j by have := HJ.out; omega, ← h1]
        simp
      case measure => simp [intOf]; omega
    · obtain rfl : u = N := by omega
      have HX : Hid (OwnB wr w.heap.size u6 (enc u (order l))) := by
        obtain ⟨done, h2, h3⟩ := HD.out
        rw [Nat.sub_self] at h3
        simp only [encV, List.append_nil] at h3
        rw [h3] at h2
        exact own_base h2 (by omega)
      have HBX : Hid (Below w.heap.size w wr) := HB1.out.trans (((Below.refl _ _).alloc (show w.heap.size ≤ w1.heap.size by omega) _).trans ((HB5.out.trans HBW.out).mono (by omega)))
      go_wp2
      go_ret2
      exact ⟨_, rfl, HX.out, HBX.out⟩
end Go.Proofs.Ytdjmjabbjjcgiaa
