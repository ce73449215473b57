/- What format.takeNumber, mostEdges and takeVertex answer, and what they leave at the places that they are handed. -/
import Derived.Test.YtdjmjabbjjcgiaaFormatMath
import Derived.Test.YtdjmjabbjjcgiaaTakeAll
import Derived.Test.YtdjmjabbjjcgiaaGraphROrd
namespace Go.Proofs.Ytdjmjabbjjcgiaa
open Go.ChangeShapes Go.WideShapes Go.ChangeAt Go.RowKit

/-- num, out of what was scanned -/
theorem num_err {l : List Nat} {t lo hi : Nat} (h : (scan (l.drop t) 0 0).2.2 ≠ 0) : num l t lo hi = (0, t + (scan (l.drop t) 0 0).2.1, false) := by unfold num; rw [if_neg h]
theorem num_out {l : List Nat} {t lo hi : Nat} (h : (scan (l.drop t) 0 0).2.2 = 0) (h2 : (scan (l.drop t) 0 0).1 < lo ∨ hi < (scan (l.drop t) 0 0).1) : num l t lo hi = (0, t + (scan (l.drop t) 0 0).2.1 - 1, false) := by
  unfold num; rw [if_pos h, if_pos h2]
theorem num_ok {l : List Nat} {t lo hi : Nat} (h : (scan (l.drop t) 0 0).2.2 = 0) (h2 : ¬ ((scan (l.drop t) 0 0).1 < lo ∨ hi < (scan (l.drop t) 0 0).1)) : num l t lo hi = ((scan (l.drop t) 0 0).1, t + (scan (l.drop t) 0 0).2.1, true) := by
  unfold num; rw [if_pos h, if_neg h2]
theorem scan_u64 {l : List Nat} (hb : ∀ c ∈ l, c < 256) : (scan l 0 0).1 < 18446744073709551616 := by
  rcases scan_err l 0 0 with h | h
  · obtain ⟨_, _, _, _, _, _, h6⟩ := scan_ok l 0 0 (scan l 0 0).1 (scan l 0 0).2.1 hb (by omega) (by decide) (Prod.ext rfl (Prod.ext rfl h))
    exact h6
  · omega

set_option maxHeartbeats 800000 in
set_option maxRecDepth 100000 in
theorem takeNumber_any (a : Option Addr) (n cap : Nat) (l : List Nat) (bp t lo hi : Nat) (w : World) {B : Nat} (hl : Reads .u8 w B a n l) (hB : B ≤ w.heap.size) (hn : n ≤ 90000) (ht : t ≤ n) (hat : Row w bp 3 [.int .i64 (t : Int)]) (hlo : lo ≤ 1073741824) (hhi : hi ≤ 1073741824) :
    Calls Try.prog 34 #[.slice a n cap, .pointer (some ⟨bp, 0, none⟩), .int .i64 (lo : Int), .int .i64 (hi : Int)] w fun e w' =>
      e = .returned (.tuple #[.int .i64 ((num l t lo hi).1 : Nat), .bool (num l t lo hi).2.2]) ∧ ∃ m, w' = (w.drewN m).setCell ⟨bp, 0, none⟩ (.int .i64 ((num l t lo hi).2.1 : Nat)) := by
  have c0 := hat.cell 0
  have f0 := hat.free 0
  have hle := scan_le (l.drop t) 0 0
  rw [List.length_drop, hl.1] at hle
  have hge := scan_ge (l.drop t) 0 0
  have hbytes : ∀ c ∈ l.drop t, c < 256 := fun c hc => u8_lt (hl.2.1 c (List.mem_of_mem_drop hc))
  have h64 := scan_u64 hbytes
  have HE1 := Lib.hid (num_err (l := l) (t := t) (lo := lo) (hi := hi))
  have HE2 := Lib.hid (num_out (l := l) (t := t) (lo := lo) (hi := hi))
  have HE3 := Lib.hid (num_ok (l := l) (t := t) (lo := lo) (hi := hi))
  have hta := take_in a n cap l t w (hl.mono hB) (by omega) ht
  generalize scan (l.drop t) 0 0 = s at *
  obtain ⟨x, q, er⟩ := s
  simp only at hle hge h64 hta HE1 HE2 HE3
  go_enter Try.func34, Try.ntmps34
  go_wp2_with fail
  refine hta.mono ?_
  rintro e w1 ⟨rfl, m, rfl⟩
  have c0 := c0
  by_cases her : er = 0
  · subst her
    have hq := hge.2 rfl
    by_cases hlt : x < lo
    · have HX := Lib.hid (HE2.out rfl (.inl hlt))
      go_wp2
      go_ret2
      rw [HX.out]
      exact ⟨rfl, m, by congr 2; simp only; omega⟩
    · by_cases hgt : hi < x
      · have HX := Lib.hid (HE2.out rfl (.inr hgt))
        go_wp2
        go_ret2
        rw [HX.out]
        exact ⟨rfl, m, by congr 2; simp only; omega⟩
      · have HX := Lib.hid (HE3.out rfl (by omega))
        go_wp2
        go_ret2
        rw [HX.out]
        exact ⟨rfl, m, by congr 2⟩
  · have HX := Lib.hid (HE1.out her)
    have g : ((er : Int) != 0) = true := by simp; omega
    go_wp2
    go_ret2
    rw [HX.out]
    exact ⟨rfl, m, by congr 2⟩

theorem most_any (N : Nat) (w : World) : Calls Try.prog 35 #[.int .i64 (N : Int)] w fun e w' => e = .returned (.int .i64 (mostE N : Nat)) ∧ w = w' := by
  by_cases h0 : N = 0
  · subst h0
    go_enter Try.func35, Try.ntmps35
    go_wp2
    go_ret
    exact ⟨rfl, rfl⟩
  · have g : ((N : Int) == 0) = false := by simp; omega
    have HX : Hid (mostE N = 1073741824) := by unfold Hid mostE; rw [if_neg h0]
    go_enter Try.func35, Try.ntmps35
    go_wp2
    go_ret
    exact ⟨ret_int (by rw [HX.out]; rfl), rfl⟩

/-- but for the blocks bp and gp what lies below base has stayed -/
structure Two (base bp gp : Nat) (w w' : World) : Prop where
  os : w'.os = w.os
  tape : w'.tape = w.tape
  output : w'.output = w.output
  size : w.heap.size ≤ w'.heap.size
  block : ∀ k, k < base → k ≠ bp → k ≠ gp → w'.heap[k]? = w.heap[k]?
section
variable {base bp gp B : Nat} {w w1 w2 : World}
theorem Two.refl (base bp gp : Nat) (w : World) : Two base bp gp w w := ⟨rfl, rfl, rfl, Nat.le_refl _, fun _ _ _ _ => rfl⟩
theorem Two.trans (h : Two base bp gp w w1) (k : Two base bp gp w1 w2) : Two base bp gp w w2 :=
  ⟨k.os.trans h.os, k.tape.trans h.tape, k.output.trans h.output, Nat.le_trans h.size k.size, fun i hi h1 h2 => (k.block i hi h1 h2).trans (h.block i hi h1 h2)⟩
theorem Two.of_below (h : Below base w w1) : Two base bp gp w w1 := ⟨h.os, h.tape, h.output, h.size, fun k hk _ _ => h.block k hk⟩
theorem Two.below (h : Two base bp gp w w1) (h0 : B ≤ base) (h1 : B ≤ bp) (h2 : B ≤ gp) : Below B w w1 := ⟨h.os, h.tape, h.output, h.size, fun k hk => h.block k (by omega) (by omega) (by omega)⟩
theorem Two.set (h : Two base bp gp w w1) {p : Addr} (hp : p.block = bp ∨ p.block = gp ∨ base ≤ p.block) (v : Value) : Two base bp gp w (w1.setCell p v) := by
  have h0 := (Below.refl 0 w1).setCell (Nat.zero_le p.block) v
  exact h.trans ⟨h0.os, h0.tape, h0.output, h0.size, fun k hk h1 h2 => heap_setCell_other w1 p k v (by omega)⟩
theorem Two.drewN (h : Two base bp gp w w1) (m : Nat) : Two base bp gp w (w1.drewN m) := ⟨h.os, h.tape, h.output, h.size, h.block⟩
theorem Two.row (h : Two base bp gp w w1) {g : Nat} {t : TypeId} {cs : List Value} (hr : Row w g t cs) (h0 : g < base) (h1 : g ≠ bp) (h2 : g ≠ gp) : Row w1 g t cs := (h.block g h0 h1 h2).trans hr
end
theorem own_form {w : World} {base s : Nat} {e : TypeId} {v : Value} {n : Nat} {xs : List Value} (h : w.ownsRow base e s v n xs) : ∃ A c, v = .slice A n c := by
  rcases h.2 with ⟨rfl, rfl⟩ | ⟨g, cap, cur, rfl, _⟩
  · exact ⟨none, 0, rfl⟩
  · exact ⟨_, cap, rfl⟩
theorem num_in {l : List Nat} {t lo hi : Nat} (h : (num l t lo hi).2.2 = true) : lo ≤ (num l t lo hi).1 ∧ (num l t lo hi).1 ≤ hi := by
  unfold num at h ⊢
  split at h
  · rename_i h0
    split at h
    · cases h
    · rename_i h1
      rw [if_pos h0, if_neg h1]; simp only; omega
  · cases h
theorem tE_bad {l : List Nat} {N u c t v : Nat} {acc : List (Int × Int)} (h : (num l t 0 (N - 1 - v)).2.2 = false) : tE l N u (c + 1) t v acc = (acc, (num l t 0 (N - 1 - v)).2.1, false) := by
  rw [tE]; rw [if_neg (by simp [h])]
theorem tE_go {l : List Nat} {N u c t v : Nat} {acc : List (Int × Int)} (h : (num l t 0 (N - 1 - v)).2.2 = true) : tE l N u (c + 1) t v acc = tE l N u c (num l t 0 (N - 1 - v)).2.1 (v + (num l t 0 (N - 1 - v)).1) (acc ++ [((u : Int), ((v + (num l t 0 (N - 1 - v)).1 : Nat) : Int))]) := by
  rw [tE]; rw [if_pos h]
/-- what stands there while graphs are taken: the place, the graph so far -/
def Stand (w0 w : World) (base bp gp N t : Nat) (acc : List (Int × Int)) : Prop :=
  Row w bp 3 [.int .i64 (t : Int)] ∧ (∃ v, Row w gp 24 [.int .i64 (N : Int), v] ∧ w.ownsRow base 43 2 v acc.length (flatE acc)) ∧ Two base bp gp w0 w
theorem Stand.step {w0 w : World} {base bp gp N t t2 m : Nat} {acc : List (Int × Int)} (h : Stand w0 w base bp gp N t acc) (hbg : bp ≠ gp) (hb : bp < base) : Stand w0 ((w.drewN m).setCell ⟨bp, 0, none⟩ (.int .i64 (t2 : Int))) base bp gp N t2 acc := by
  obtain ⟨h1, ⟨v, h2, h3⟩, h4⟩ := h
  refine ⟨(h1.drewN m).set 0 _, ⟨v, (h2.drewN m).far (p := ⟨bp, 0, none⟩) (by simp; omega) _, ?_⟩, (h4.drewN m).set (.inl rfl) _⟩
  have h5 : (w.drewN m).ownsRow base 43 2 v acc.length (flatE acc) := h3
  exact own_keep2 h5 fun b hb1 _ => heap_setCell_other _ ⟨bp, 0, none⟩ b _ (by simp; omega)

theorem Stand.push {w0 w w5 : World} {base bp gp N t : Nat} {acc : List (Int × Int)} {o : Obj} {v v5 : Value} {e : Int × Int} (h1 : Row w bp 3 [.int .i64 (t : Int)]) (h2 : Row w gp 24 [.int .i64 (N : Int), v])
    (h3 : w.ownsRow base 43 2 v acc.length (flatE acc)) (h4 : Two base bp gp w0 w) (hbg : bp ≠ gp) (hb : bp < base) (hg : gp < base) (hbase : base ≤ w.heap.size)
    (h5 : w5.ownsRow base 43 2 v5 (acc.length + 1) (flatE acc ++ [.int .i64 e.1, .int .i64 e.2])) (hgrow : (w.alloc o).grownBy w5 v.ownBlock) :
    Row w5 gp 24 [.int .i64 (N : Int), v] ∧ Stand w0 (w5.setCell ⟨gp, 1, none⟩ v5) base bp gp N t (acc ++ [e]) ∧ w.heap.size ≤ w5.heap.size := by
  have hne : ∀ k, k < base → some k ≠ v.ownBlock := fun k hk he => by have := (h3.lt k he.symm).1; omega
  have r1 : Row w5 bp 3 [.int .i64 (t : Int)] := (hgrow.block bp (h1.alloc o).lt (hne bp hb)).trans (h1.alloc o)
  have r2 : Row w5 gp 24 [.int .i64 (N : Int), v] := (hgrow.block gp (h2.alloc o).lt (hne gp hg)).trans (h2.alloc o)
  have hs := hgrow.size
  have hs2 : w.heap.size + 1 ≤ w5.heap.size := by simpa using hs
  have hbw := h1.lt
  refine ⟨r2, ⟨r1.far (p := ⟨gp, 1, none⟩) hbg _, ⟨v5, r2.set 1 v5, ?_⟩, ?_⟩, by omega⟩
  · have h6 : w5.ownsRow base 43 2 v5 (acc ++ [e]).length (flatE (acc ++ [e])) := by rw [flatE_snoc, List.length_append]; exact h5
    exact own_keep2 h6 fun b hb1 _ => heap_setCell_other _ ⟨gp, 1, none⟩ b _ (by simp; omega)
  · refine Two.set (p := ⟨gp, 1, none⟩) ?_ (.inr (.inl rfl)) _
    refine (h4.trans (Two.of_below ((Below.refl base w).alloc hbase o))).trans ⟨hgrow.os, hgrow.tape, hgrow.output, hgrow.size, fun k hk _ _ => ?_⟩
    exact hgrow.block k (by have : (w.alloc o).heap.size = w.heap.size + 1 := by simp
                            omega) (hne k hk)

set_option maxHeartbeats 3200000 in
set_option maxRecDepth 100000 in
/-- the edges' loop, and what is ahead of it -/
theorem takeVertex_any (a : Option Addr) (n cap : Nat) (l : List Nat) (base bp gp N u k t m : Nat) (acc : List (Int × Int)) (w0 w : World) {B : Nat} (hl : Reads .u8 w0 B a n l) (hn : n ≤ 90000) (hBb : B ≤ bp) (hBg : B ≤ gp) (hbg : bp ≠ gp) (hb : bp < base) (hg : gp < base) (hbase : base ≤ w.heap.size)
    (hS : Stand w0 w base bp gp N t acc) (hN : N ≤ 1073741824) (hm : m ≤ 1073741824) (hu : u + k + 1 = N) (ha : acc.length ≤ m) (ht : t ≤ n) :
    Calls Try.prog 36 #[.slice a n cap, .pointer (some ⟨bp, 0, none⟩), .pointer (some ⟨gp, 0, none⟩), .int .i64 (u : Int), .int .i64 (m : Int)] w fun e w' =>
      e = .returned (.bool (tU l N m k u t acc).2.2) ∧ Stand w0 w' base bp gp N (tU l N m k u t acc).2.1 (tU l N m k u t acc).1 ∧ w.heap.size ≤ w'.heap.size := by
  have HL := Lib.hid hl
  have hlen := hl.1
  obtain ⟨h1, ⟨v, h2, h3⟩, h4⟩ := id hS
  obtain ⟨A, c, rfl⟩ := own_form h3
  have g0 := h2.cell 0
  have g1 := h2.cell 1
  have HR := Lib.hid (hl.keep (h4.below (by omega) hBb hBg))
  have HS := Lib.hid hS
  have HAT := Lib.hid h1
  have hrest : (m : Int) - (acc.length : Int) = ((m - acc.length : Nat) : Int) := by omega
  have HREST := Lib.hid hrest
  have HLO : Hid (k = 0 → leastOf k (m - acc.length) = m - acc.length) := fun h => by unfold leastOf; rw [if_pos h]
  have HLO2 : Hid (k ≠ 0 → leastOf k (m - acc.length) = 0) := fun h => by unfold leastOf; rw [if_neg h]
  have HU : Hid (tU l N m k u t acc = if (num l t (leastOf k (m - acc.length)) (m - acc.length)).2.2 = true then
      tE l N u (num l t (leastOf k (m - acc.length)) (m - acc.length)).1 (num l t (leastOf k (m - acc.length)) (m - acc.length)).2.1 u acc
    else (acc, (num l t (leastOf k (m - acc.length)) (m - acc.length)).2.1, false)) := rfl
  have hlow : leastOf k (m - acc.length) ≤ m - acc.length := by unfold leastOf; split <;> omega
  have HNI := Lib.hid (num_in (l := l) (t := t) (lo := leastOf k (m - acc.length)) (hi := m - acc.length))
  have hnle := num_le l t (leastOf k (m - acc.length)) (m - acc.length) (by omega)
  have hbw : bp < w.heap.size := h1.lt
  have hgw : gp < w.heap.size := h2.lt
  clear h1 h2 h3 h4 hrest
  have HC := Lib.hid (takeNumber_any a n cap l bp t (leastOf k (m - acc.length)) (m - acc.length) w HR.out (by omega) hn ht HAT.out (by omega) (by omega))
  generalize num l t (leastOf k (m - acc.length)) (m - acc.length) = d at *
  obtain ⟨cnt, t1, ok⟩ := d
  obtain ⟨i0, hi, hy0, hy1, hy2⟩ := info_parts info_edge
  simp only at hnle HNI HC HU
  go_enter Try.func36, Try.ntmps36
  by_cases hk : k = 0
  · have g : ((u : Int) == (N : Int) - 1) = true := by simp; omega
    have hc := HC.out
    rw [HLO.out hk] at hc
    go_wp2_with fail
    rw [HREST.out]
    refine hc.mono ?_
    rintro e w2 ⟨rfl, q, rfl⟩
    have hS2 := HS.out.step (m := q) (t2 := t1) hbg hb
    have hz2 : w.heap.size ≤ ((w.drewN q).setCell ⟨bp, 0, none⟩ (.int .i64 (t1 : Int))).heap.size := by simp
    generalize (w.drewN q).setCell ⟨bp, 0, none⟩ (.int .i64 (t1 : Int)) = w2 at *
    have HS2 := Lib.hid hS2
    clear hS2 g hc g0 g1 HAT HR
    cases ok
    · have HX : Hid (tU l N m k u t acc = (acc, t1, false)) := by unfold Hid; rw [HU.out]; rfl
      go_wp2
      go_ret
      rw [HX.out]
      exact ⟨rfl, HS2.out, hz2⟩
    · have HX : Hid (tU l N m k u t acc = tE l N u cnt t1 u acc) := by unfold Hid; rw [HU.out]; rfl
      have hcnt := (HNI.out rfl).2
      go_wp2
      go_loopw [15, 45] (fun vv iv wr => ∃ (i v' t' : Nat) (acc' : List (Int × Int)), i ≤ cnt ∧ iv = .int .i64 i ∧ vv = .int .i64 v' ∧ v' < N ∧ t' ≤ n ∧ acc'.length ≤ acc.length + i ∧ acc.length + i ≤ acc'.length ∧ w2.heap.size ≤ wr.heap.size ∧ Hid (Stand w0 wr base bp gp N t' acc') ∧ Hid (tE l N u (cnt - i) t' v' acc' = tE l N u cnt t1 u acc)) (fun _ iv _ => cnt - (intOf iv).toNat)
      case atStart => exact ⟨0, u, t1, acc, by omega, rfl, rfl, by omega, by omega, by omega, by omega, Nat.le_refl _, HS2.out, by unfold Hid; rw [Nat.sub_zero]⟩
      case round =>
        obtain ⟨i, v', t', acc', hi', rfl, rfl, hv', ht', ha', ha2, hz', HSr, HT⟩ := hrel
        obtain ⟨d1, ⟨vr, d2, d3⟩, d4⟩ := id HSr.out
        have e0 := d2.cell 0
        have hbw' : bp < wr.heap.size := d1.lt
        have hgw' : gp < wr.heap.size := d2.lt
        by_cases hlt : i < cnt
        · have hsub : (N : Int) - 1 - (v' : Int) = ((N - 1 - v' : Nat) : Int) := by omega
          have hcall := takeNumber_any a n cap l bp t' 0 (N - 1 - v') wr (HL.out.keep (d4.below (by omega) hBb hBg)) (by omega) hn ht' d1 (by omega) (by omega)
          have hni := num_in (l := l) (t := t') (lo := 0) (hi := N - 1 - v')
          have hnl := num_le l t' 0 (N - 1 - v') (by omega)
          obtain ⟨j, hj⟩ : ∃ j, cnt - i = j + 1 := ⟨cnt - i - 1, by omega⟩
          have hTB := tE_bad (l := l) (N := N) (u := u) (c := j) (t := t') (v := v') (acc := acc')
          have hTG := tE_go (l := l) (N := N) (u := u) (c := j) (t := t') (v := v') (acc := acc')
          have hT := HT.out
          rw [hj] at hT
          generalize num l t' 0 (N - 1 - v') = dd at *
          obtain ⟨x, t3, ok3⟩ := dd
          simp only at hcall hni hnl hTB hTG
          have HSUB := Lib.hid hsub
          have HT2 := Lib.hid hT
          have HTB := Lib.hid hTB
          have HTG := Lib.hid hTG
          have HNI3 := Lib.hid hni
          have HJ := Lib.hid hj
          clear hsub hT hTB hTG hni hj d1 d2 d3 d4 HT
          go_wp2_with fail
          rw [HSUB.out]
          refine hcall.mono ?_
          rintro e w3 ⟨rfl, q3, rfl⟩
          have hS3 := HSr.out.step (m := q3) (t2 := t3) hbg hb
          have hz3 : wr.heap.size ≤ ((wr.drewN q3).setCell ⟨bp, 0, none⟩ (.int .i64 (t3 : Int))).heap.size := by simp
          generalize (wr.drewN q3).setCell ⟨bp, 0, none⟩ (.int .i64 (t3 : Int)) = w3 at *
          have HS3 := Lib.hid hS3
          clear hS3 hcall e0
          cases ok3
          · have HX2 : Hid (tE l N u cnt t1 u acc = (acc', t3, false)) := by unfold Hid; rw [← HT2.out]; exact HTB.out rfl
            go_wp2
            go_ret
            rw [HX.out, HX2.out]
            exact ⟨rfl, HS3.out, by omega⟩
          · have hx := (HNI3.out rfl).2
            have HX2 : Hid (tE l N u j t3 (v' + x) (acc' ++ [((u : Int), ((v' + x : Nat) : Int))]) = tE l N u cnt t1 u acc) := by unfold Hid; rw [← HT2.out]; exact (HTG.out rfl).symm
            obtain ⟨d1, ⟨v3, d2, d3⟩, d4⟩ := id HS3.out
            obtain ⟨A3, c3, rfl⟩ := own_form d3
            have e0 := d2.cell 0
            have e1 := d2.cell 1
            have hgw3 : gp < w3.heap.size := d2.lt
            have hPUSH := fun w5 v5 => Stand.push (w5 := w5) (v5 := v5) (o := .cells #[.int .i64 (u : Int), .int .i64 ((v' : Int) + (x : Int))] 43) (e := ((u : Int), ((v' + x : Nat) : Int))) d1 d2 d3 d4 hbg hb hg (by omega)
            have HPUSH := Lib.hid hPUSH
            have HO3 := Lib.hid (d3.alloc (.cells #[.int .i64 (u : Int), .int .i64 ((v' : Int) + (x : Int))] 43))
            clear hPUSH d1 d2 d3 d4
            go_wp2_with (with_reducible refine stopAt 74 ?_)
            unfold Hid
            refine wpList_append_own _ rfl _ _ 22 rfl base 43 i0 (.agg #[.int .i64 0, .int .i64 0]) 2 16 Try.underlying22 hi hy0 hy1 hy2 rfl (by omega) (.slice A3 acc'.length c3) acc'.length (flatE acc') rfl HO3.out ⟨w3.heap.size, 0, none⟩ 1 1 [.int .i64 (u : Int), .int .i64 ((v' : Int) + (x : Int))] rfl rfl cells2 (by simp [Value.oneCell']) (by unfold maxLen; omega) (by omega) (by simp; omega) ?_
            intro v5 w5 hown5 hgrow5 _
            obtain ⟨f1, f2, f3⟩ := HPUSH.out w5 v5 (by push_cast; exact hown5) hgrow5
            obtain ⟨A5, c5, rfl⟩ := own_form hown5
            have e1 := f1.cell 1
            have ef := f1.free 1
            have hgw5 : gp < w5.heap.size := f1.lt
            have HS5 := Lib.hid f2
            clear hown5 hgrow5 f1 f2
            go_wp2
            have hz5 : w5.heap.size = (w5.setCell ⟨gp, 1, none⟩ (.slice A5 (acc'.length + 1) c5)).heap.size := by simp
            generalize w5.setCell ⟨gp, 1, none⟩ (.slice A5 (acc'.length + 1) c5) = w6 at *
            go_roundw
            case rel => exact ⟨i + 1, v' + x, t3, _, by omega, by go_num, by go_num, by omega, by omega, by simp; omega, by simp; omega, by omega, HS5.out, by unfold Hid; rw [show cnt - (i + 1) = j by have := HJ.out; omega]; exact HX2.out⟩
            case measure => simp [intOf]; omega
        · obtain rfl : i = cnt := by omega
          have HX2 : Hid (tE l N u i t1 u acc = (acc', t', true)) := by
            unfold Hid
            have := HT.out
            rw [Nat.sub_self] at this
            rw [← this]; rfl
          go_wp2
          go_ret
          rw [HX.out, HX2.out]
          exact ⟨rfl, HSr.out, by omega⟩
  · have g : ((u : Int) == (N : Int) - 1) = false := by simp; omega
    have hc := HC.out
    rw [HLO2.out hk] at hc
    go_wp2_with fail
    rw [HREST.out]
    refine hc.mono ?_
    rintro e w2 ⟨rfl, q, rfl⟩
    have hS2 := HS.out.step (m := q) (t2 := t1) hbg hb
    have hz2 : w.heap.size ≤ ((w.drewN q).setCell ⟨bp, 0, none⟩ (.int .i64 (t1 : Int))).heap.size := by simp
    generalize (w.drewN q).setCell ⟨bp, 0, none⟩ (.int .i64 (t1 : Int)) = w2 at *
    have HS2 := Lib.hid hS2
    clear hS2 g hc g0 g1 HAT HR
    cases ok
    · have HX : Hid (tU l N m k u t acc = (acc, t1, false)) := by unfold Hid; rw [HU.out]; rfl
      go_wp2
      go_ret
      rw [HX.out]
      exact ⟨rfl, HS2.out, hz2⟩
    · have HX : Hid (tU l N m k u t acc = tE l N u cnt t1 u acc) := by unfold Hid; rw [HU.out]; rfl
      have hcnt := (HNI.out rfl).2
      go_wp2
      go_loopw [15, 45] (fun vv iv wr => ∃ (i v' t' : Nat) (acc' : List (Int × Int)), i ≤ cnt ∧ iv = .int .i64 i ∧ vv = .int .i64 v' ∧ v' < N ∧ t' ≤ n ∧ acc'.length ≤ acc.length + i ∧ acc.length + i ≤ acc'.length ∧ w2.heap.size ≤ wr.heap.size ∧ Hid (Stand w0 wr base bp gp N t' acc') ∧ Hid (tE l N u (cnt - i) t' v' acc' = tE l N u cnt t1 u acc)) (fun _ iv _ => cnt - (intOf iv).toNat)
      case atStart => exact ⟨0, u, t1, acc, by omega, rfl, rfl, by omega, by omega, by omega, by omega, Nat.le_refl _, HS2.out, by unfold Hid; rw [Nat.sub_zero]⟩
      case round =>
        obtain ⟨i, v', t', acc', hi', rfl, rfl, hv', ht', ha', ha2, hz', HSr, HT⟩ := hrel
        obtain ⟨d1, ⟨vr, d2, d3⟩, d4⟩ := id HSr.out
        have e0 := d2.cell 0
        have hbw' : bp < wr.heap.size := d1.lt
        have hgw' : gp < wr.heap.size := d2.lt
        by_cases hlt : i < cnt
        · have hsub : (N : Int) - 1 - (v' : Int) = ((N - 1 - v' : Nat) : Int) := by omega
          have hcall := takeNumber_any a n cap l bp t' 0 (N - 1 - v') wr (HL.out.keep (d4.below (by omega) hBb hBg)) (by omega) hn ht' d1 (by omega) (by omega)
          have hni := num_in (l := l) (t := t') (lo := 0) (hi := N - 1 - v')
          have hnl := num_le l t' 0 (N - 1 - v') (by omega)
          obtain ⟨j, hj⟩ : ∃ j, cnt - i = j + 1 := ⟨cnt - i - 1, by omega⟩
          have hTB := tE_bad (l := l) (N := N) (u := u) (c := j) (t := t') (v := v') (acc := acc')
          have hTG := tE_go (l := l) (N := N) (u := u) (c := j) (t := t') (v := v') (acc := acc')
          have hT := HT.out
          rw [hj] at hT
          generalize num l t' 0 (N - 1 - v') = dd at *
          obtain ⟨x, t3, ok3⟩ := dd
          simp only at hcall hni hnl hTB hTG
          have HSUB := Lib.hid hsub
          have HT2 := Lib.hid hT
          have HTB := Lib.hid hTB
          have HTG := Lib.hid hTG
          have HNI3 := Lib.hid hni
          have HJ := Lib.hid hj
          clear hsub hT hTB hTG hni hj d1 d2 d3 d4 HT
          go_wp2_with fail
          rw [HSUB.out]
          refine hcall.mono ?_
          rintro e w3 ⟨rfl, q3, rfl⟩
          have hS3 := HSr.out.step (m := q3) (t2 := t3) hbg hb
          have hz3 : wr.heap.size ≤ ((wr.drewN q3).setCell ⟨bp, 0, none⟩ (.int .i64 (t3 : Int))).heap.size := by simp
          generalize (wr.drewN q3).setCell ⟨bp, 0, none⟩ (.int .i64 (t3 : Int)) = w3 at *
          have HS3 := Lib.hid hS3
          clear hS3 hcall e0
          cases ok3
          · have HX2 : Hid (tE l N u cnt t1 u acc = (acc', t3, false)) := by unfold Hid; rw [← HT2.out]; exact HTB.out rfl
            go_wp2
            go_ret
            rw [HX.out, HX2.out]
            exact ⟨rfl, HS3.out, by omega⟩
          · have hx := (HNI3.out rfl).2
            have HX2 : Hid (tE l N u j t3 (v' + x) (acc' ++ [((u : Int), ((v' + x : Nat) : Int))]) = tE l N u cnt t1 u acc) := by unfold Hid; rw [← HT2.out]; exact (HTG.out rfl).symm
            obtain ⟨d1, ⟨v3, d2, d3⟩, d4⟩ := id HS3.out
            obtain ⟨A3, c3, rfl⟩ := own_form d3
            have e0 := d2.cell 0
            have e1 := d2.cell 1
            have hgw3 : gp < w3.heap.size := d2.lt
            have hPUSH := fun w5 v5 => Stand.push (w5 := w5) (v5 := v5) (o := .cells #[.int .i64 (u : Int), .int .i64 ((v' : Int) + (x : Int))] 43) (e := ((u : Int), ((v' + x : Nat) : Int))) d1 d2 d3 d4 hbg hb hg (by omega)
            have HPUSH := Lib.hid hPUSH
            have HO3 := Lib.hid (d3.alloc (.cells #[.int .i64 (u : Int), .int .i64 ((v' : Int) + (x : Int))] 43))
            clear hPUSH d1 d2 d3 d4
            go_wp2_with (with_reducible refine stopAt 74 ?_)
            unfold Hid
            refine wpList_append_own _ rfl _ _ 22 rfl base 43 i0 (.agg #[.int .i64 0, .int .i64 0]) 2 16 Try.underlying22 hi hy0 hy1 hy2 rfl (by omega) (.slice A3 acc'.length c3) acc'.length (flatE acc') rfl HO3.out ⟨w3.heap.size, 0, none⟩ 1 1 [.int .i64 (u : Int), .int .i64 ((v' : Int) + (x : Int))] rfl rfl cells2 (by simp [Value.oneCell']) (by unfold maxLen; omega) (by omega) (by simp; omega) ?_
            intro v5 w5 hown5 hgrow5 _
            obtain ⟨f1, f2, f3⟩ := HPUSH.out w5 v5 (by push_cast; exact hown5) hgrow5
            obtain ⟨A5, c5, rfl⟩ := own_form hown5
            have e1 := f1.cell 1
            have ef := f1.free 1
            have hgw5 : gp < w5.heap.size := f1.lt
            have HS5 := Lib.hid f2
            clear hown5 hgrow5 f1 f2
            go_wp2
            have hz5 : w5.heap.size = (w5.setCell ⟨gp, 1, none⟩ (.slice A5 (acc'.length + 1) c5)).heap.size := by simp
            generalize w5.setCell ⟨gp, 1, none⟩ (.slice A5 (acc'.length + 1) c5) = w6 at *
            go_roundw
            case rel => exact ⟨i + 1, v' + x, t3, _, by omega, by go_num, by go_num, by omega, by omega, by simp; omega, by simp; omega, by omega, HS5.out, by unfold Hid; rw [show cnt - (i + 1) = j by have := HJ.out; omega]; exact HX2.out⟩
            case measure => simp [intOf]; omega
        · obtain rfl : i = cnt := by omega
          have HX2 : Hid (tE l N u i t1 u acc = (acc', t', true)) := by
            unfold Hid
            have := HT.out
            rw [Nat.sub_self] at this
            rw [← this]; rfl
          go_wp2
          go_ret
          rw [HX.out, HX2.out]
          exact ⟨rfl, HSr.out, by omega⟩
end Go.Proofs.Ytdjmjabbjjcgiaa
