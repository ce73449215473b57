/- What varint.Put makes: a new block that reads as the bytes handed in and the number's; for slices of at most 100000 bytes. -/
import Derived.Test.YtdjmjabbjjcgiaaSize
namespace Go.Proofs.Ytdjmjabbjjcgiaa
open Go.ChangeShapes Go.WideShapes Go.ChangeAt Go.RowKit

theorem info5 : (Try.prog.info? 5).map (fun i => (i.zero, i.size, i.bytes)) = some (some (.int .u8 0), 1, 1) := by kernel_rfl
theorem size5 : (Try.prog.info? 5).map (·.size) = some 1 := by kernel_rfl

def f8 (c : Nat) : Value := .int .u8 c
/-- what the loop of Put has laid: the first k cells of the row are the first k bytes of L -/
def Laid (w : World) (g N k : Nat) (L : List Nat) : Prop := ∃ cs, Row w g 5 cs ∧ cs.length = N ∧ ∀ i, i < k → cs[i]? = some (f8 (L.getD i 0))

theorem Laid.at_ {w : World} {g N k : Nat} {L : List Nat} (h : Laid w g N k L) {j : Nat} (hj : j < N) : ∃ v, w.cell? ⟨g, j, none⟩ = some v ∧ w.frozen? ⟨g, j, none⟩ = false := by
  obtain ⟨cs, hr, hl, _⟩ := h
  exact ⟨cs[j], by rw [hr.cell, List.getElem?_eq_getElem (by omega)], hr.free j⟩
theorem Laid.put {w : World} {g N k : Nat} {L : List Nat} (h : Laid w g N k L) (hk : k < N) {u : Value} (hu : u = f8 (L.getD k 0)) : Laid (w.setCell ⟨g, k, none⟩ u) g N (k + 1) L := by
  obtain ⟨cs, hr, hl, hc⟩ := h
  refine ⟨_, hr.set k u, by simpa using hl, fun i hi => ?_⟩
  rw [List.getElem?_set]
  by_cases e : k = i
  · subst e; simp [hu]; omega
  · rw [if_neg e]; exact hc i (by omega)
theorem Laid.reads {w : World} {g N : Nat} {L : List Nat} (h : Laid w g N N L) (hN : L.length = N) (hL : ∀ x ∈ L, x < 256) : Reads .u8 w w.heap.size (some ⟨g, 0, none⟩) N L := by
  obtain ⟨cs, hr, hl, hc⟩ := h
  exact hr.reads hN (fun x hx => u8_wf (hL x hx)) hc hr.lt

theorem drop_at {L r : List Nat} {k c : Nat} (h : L.drop k = c :: r) : L.getD k 0 = c ∧ L.drop (k + 1) = r := by
  have h1 : k < L.length := by
    rcases Nat.lt_or_ge k L.length with hlt | hge
    · exact hlt
    · rw [List.drop_eq_nil_of_le hge] at h; cases h
  rw [List.drop_eq_getElem_cons h1] at h
  injection h with h2 h3
  refine ⟨?_, h3⟩
  rw [List.getD_eq_getElem?_getD, List.getElem?_eq_getElem h1]; exact h2

/-- what Put has made: a new block that reads as L -/
def Made8 (w0 w : World) (N : Nat) (L : List Nat) (e : Ending) : Prop :=
  ∃ g, e = .returned (.slice (some ⟨g, 0, none⟩) N N) ∧ w0.heap.size ≤ g ∧ Reads .u8 w w.heap.size (some ⟨g, 0, none⟩) N L ∧ Below w0.heap.size w0 w

theorem set1 {w w2 : World} {B : Nat} {p : Addr} {u : Value} (h : Below B w w2) (hp : B ≤ p.block) : Below B w (w2.setCell p u) := h.setCell hp u

set_option maxHeartbeats 800000 in
set_option maxRecDepth 100000 in
theorem put_any (a : Option Addr) (n cap : Nat) (l : List Nat) (x : Nat) (w : World) (hl : Reads .u8 w w.heap.size a n l) (hn : n ≤ 100000) (hx : U64 x) :
    Calls Try.prog 33 #[.slice a n cap, .int .u64 x] w fun e w' => Made8 w w' (n + vs x) (l ++ uv x) e := by
  obtain ⟨i0, hi, hz0, hz1, hz2⟩ := info_parts info5
  have hp := vs_pos x
  have hv := vs_le hx
  obtain ⟨hlen, hwf, hcells⟩ := hl
  have HLEN := Lib.hid hlen
  have HWF := Lib.hid hwf
  have HCELLS := Lib.hid hcells
  clear hlen hwf hcells
  go_enter Try.func33, Try.ntmps33
  go_wp2_with (first
    | (go_at_call 32; refine (size_any _ hx _).mono ?_; rintro e w' ⟨rfl, rfl⟩)
    | (with_reducible refine stopAt 12 ?_))
  unfold Hid
  refine wpList_make_row _ rfl _ _ 27 rfl 5 i0 (.int .u8 0) Try.underlying27 hi hz0 hz1 rfl .i64 .i64 _ _ (n + vs x) rfl rfl (by omega) (by omega) (by rw [hz2]; omega) (by omega) ?_
  intro w1 hr1 hb1 hs1
  have HR1 := Lib.hid hr1
  have HS1 := Lib.hid hs1
  clear hr1 hs1
  go_wp2_with (with_reducible refine stopAt 15 ?_)
  unfold Hid
  refine wpList_copy_splice rfl _ _ 27 27 rfl 5 Try.underlying27 size5 (some ⟨w.heap.size, 0, none⟩) a (n + vs x) (n + vs x) n cap rfl rfl w.heap.size 0 _ 5 HR1.out (l.map f8) ?_ ?_ ?_ ?_ w.heap.size w hb1 (Nat.le_refl _) ?_
  · have := HLEN.out; simp; omega
  · intro hpos; refine ⟨rfl, ?_⟩
    have hlen := HLEN.out
    obtain ⟨b, off, rfl, hb, hc⟩ := HCELLS.out (by simp at hpos; omega)
    refine ⟨_, rfl, fun j v hj => ?_⟩
    have hjl : j < l.length := by
      rcases Nat.lt_or_ge j l.length with hlt | hge
      · exact hlt
      · rw [List.getElem?_eq_none (by simpa using hge)] at hj; cases hj
    have h1 := hc j (by omega)
    rw [← hb1.cell (p := ⟨b, off + j, none⟩) hb] at h1
    rw [List.getElem?_map, List.getElem?_eq_getElem hjl] at hj
    have e : (⟨b, off, none⟩ : Addr).add j = ⟨b, off + j, none⟩ := by unfold Addr.add; split <;> simp_all
    rw [e, h1, ← hj]
    simp [f8, hjl]
  · have := HLEN.out; simp; omega
  · intro v hv; obtain ⟨c, _, rfl⟩ := List.mem_map.1 hv; rfl
  intro w2 hr2 hb2
  have hlaid : Laid w2 w.heap.size (n + vs x) n (l ++ uv x) := by
    have hlen := HLEN.out
    refine ⟨_, hr2, by rw [length_splice]; simp; simp; omega, fun i hi => ?_⟩
    unfold splice
    simp only [List.take_zero, List.nil_append]
    rw [List.getElem?_append_left (by simp; omega), List.getElem?_map, List.getElem?_eq_getElem (by omega)]
    rw [List.getD_eq_getElem?_getD, List.getElem?_append_left (by omega), List.getElem?_eq_getElem (by omega)]; rfl
  have HLAID := Lib.hid hlaid
  clear hlaid hr2
  have hcast : ((l.map f8).length : Int) = (n : Int) := by have := HLEN.out; simp; omega
  rw [hcast]
  clear hcast
  go_wp2
  go_loopw [1, 6] (fun xv kv wr => ∃ y k : Nat, U64 y ∧ k + vs y ≤ n + vs x ∧ n + vs x ≤ k + vs y ∧ xv = .int .u64 y ∧ kv = .int .i64 k ∧ Hid (Laid wr w.heap.size (n + vs x) k (l ++ uv x)) ∧ Hid ((l ++ uv x).drop k = uv y) ∧ Below w.heap.size w wr) (fun xv _ _ => (intOf xv).toNat)
  case atStart => 
    have hlen := HLEN.out
    exact ⟨x, n, hx, by omega, by omega, rfl, rfl, HLAID.out, by unfold Hid; rw [List.drop_append_of_le_length (by omega), List.drop_eq_nil_of_le (by omega)]; rfl, hb2⟩
  case round =>
    obtain ⟨y, k, hy, hk1, hk2, rfl, rfl, HL, HD, hbw⟩ := hrel
    have hpy := vs_pos y
    obtain ⟨v0, hcell, hfree⟩ := HL.out.at_ (show k < n + vs x by omega)
    by_cases hlt : y < 128
    · go_wp2
      go_ret
      have e1 := vs_small hlt
      have e2 := HD.out
      rw [uv_small hlt] at e2
      obtain ⟨e3, _⟩ := drop_at e2
      have hlen := HLEN.out
      have h1 := HL.out.put (show k < n + vs x by omega) (u := .int .u8 (y : Int)) (by rw [e3]; rfl)
      have e4 : k + 1 = n + vs x := by omega
      rw [e4] at h1
      refine ⟨w.heap.size, rfl, Nat.le_refl _, h1.reads (by simp [vs]; omega) ?_, hbw.setCell (Nat.le_refl _) _⟩
      intro c hc
      rcases List.mem_append.1 hc with hc | hc
      · exact u8_lt (HWF.out c hc)
      · exact uv_byte hc
    · have e1 := vs_big hlt
      have HE := Lib.hid e1
      clear e1
      have hd := u64_div hy
      go_wp2
      go_roundw
      case rel =>
        have e1 := HE.out
        have e2 := HD.out
        rw [uv_big hlt] at e2
        obtain ⟨e3, e4⟩ := drop_at e2
        refine ⟨y / 128, k + 1, hd, by omega, by omega, by go_num, by go_num, HL.out.put (by omega) ?_, e4, hbw.setCell (Nat.le_refl _) _⟩
        rw [e3, Lib.u8_or128_any _ (by omega) (by omega)]
        unfold f8
        congr 1
        omega
      case measure => simp [intOf]; omega
end Go.Proofs.Ytdjmjabbjjcgiaa
