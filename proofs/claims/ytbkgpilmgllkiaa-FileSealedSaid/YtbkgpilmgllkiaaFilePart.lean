/- A law's own reader, beside its work: Next of a block that stands, of one that does not. -/
import Derived.Test.YtbkgpilmgllkiaaFileBase
namespace Go.Proofs.Ytbkgpilmgllkiaa
open Go.ChangeShapes Go.WideShapes Go.ChangeAt Go.RowKit

/-- Next: of the file just the block that is asked for needs to stand -/
theorem fnext_part {w : World} {G : Nat → Prop} {p : Wp} {F : Fs} {n x : Nat} {r : Rt} {ws : List Nat} {l : List Tup} (h : Sys w G p F n) (hn : n < 1000000) (hok : RtOk r F.D.size) (hm : RMem w x p r F.D.size ws) (ho : ROut G x r) (hc : l.length = r.count) (hpos : r.pos < r.count)
    (hblk : r.pos % r.h = 0 → (read F.D ((r.first + r.pos / r.h : Nat) : Int)).1 = 0 ∧ F.D.now ((r.first + r.pos / r.h : Nat) : Int) = sealW F.D.size (r.first + r.pos / r.h) r.k (payT r.h r.k l (r.pos / r.h)))
    (hbuf : r.pos % r.h ≠ 0 → ws.take (min r.h (r.count - r.pos / r.h * r.h) * r.k) = payT r.h r.k l (r.pos / r.h)) {t : Tup} (ht : l[r.pos]? = some t) (hto : TupOk t) (htf : fitsT r.k t = true) :
    Calls Try.prog 31 #[.pointer (some ⟨x, 0, none⟩)] w fun e w' => e = .returned (.tuple #[.agg #[.int .i64 t.a, .int .i64 t.b, .int .i64 t.c, .int .i64 t.d, .int .i64 t.e], .bool true, .int .i64 0]) ∧
      ∃ ws', NextTo w G p { F with D := nextD F.D r } (n + 1) x { r with pos := r.pos + 1 } ws' w' ∧ ws'.take (min r.h (r.count - r.pos / r.h * r.h) * r.k) = payT r.h r.k l (r.pos / r.h) := by
  unfold nextD
  have hsz := hok.sz
  by_cases hmid : r.pos % r.h = 0
  · rw [if_pos hmid]
    obtain ⟨he, hs⟩ := hblk hmid
    have hpl : (payT r.h r.k l (r.pos / r.h)).length = min r.h (r.count - r.pos / r.h * r.h) * r.k := by rw [pay_words hok.k.2, hc]
    have hle : (payT r.h r.k l (r.pos / r.h)).length ≤ F.D.size - 2 := Nat.le_trans (pay_len hok.k.2 l _) hok.h.2.1
    have g1 : okW (F.D.now ((r.first + r.pos / r.h : Nat) : Int)) (r.first + r.pos / r.h) = true := by rw [hs]; exact seal_ok hle (by omega)
    have g2 : tagW (F.D.now ((r.first + r.pos / r.h : Nat) : Int)) = r.k := by rw [hs]; exact seal_tag hle (by omega)
    have g3 : numW (F.D.now ((r.first + r.pos / r.h : Nat) : Int)) - 1 = min r.h (r.count - r.pos / r.h * r.h) * r.k := by rw [hs, seal_num hle (by omega), hpl, Nat.add_sub_cancel]
    have g4 : (F.D.now ((r.first + r.pos / r.h : Nat) : Int)).take (min r.h (r.count - r.pos / r.h * r.h) * r.k) = payT r.h r.k l (r.pos / r.h) := by rw [hs, ← hpl]; exact seal_take
    have hsp : (splice ws 0 ((F.D.now ((r.first + r.pos / r.h : Nat) : Int)).take (min r.h (r.count - r.pos / r.h * r.h) * r.k))).take (min r.h (r.count - r.pos / r.h * r.h) * r.k) = payT r.h r.k l (r.pos / r.h) := by
      rw [g4]; unfold splice
      rw [List.take_zero, List.nil_append, List.take_left' hpl]
    have hcl := fnext_good h hok hm ho hpos (now_read F.D ((r.first + r.pos / r.h : Nat) : Int) 0).2.1 hmid fun W hb => rblk_good (h.below hb) hn hok (hm.below hb) ho hpos he g1 g2 g3
    rw [buf_tup hok.k.2 hok.h.1 hpos hc hsp ht hto htf] at hcl
    exact hcl.mono fun e w' ⟨h1, h2⟩ => ⟨h1, _, h2, hsp⟩
  · rw [if_neg hmid]
    have hb := hbuf hmid
    have hcl := fnext_mid h hok hm ho hpos hmid
    rw [buf_tup hok.k.2 hok.h.1 hpos hc hb ht hto htf] at hcl
    exact hcl.mono fun e w' ⟨h1, G', k1, k2⟩ => ⟨h1, _, ⟨G', k1.mono (by omega) (by omega), k2⟩, hb⟩
/-- the work, a reader, rows of the law's own -/
def RBase (w0 : World) (p : Wp) (F : Fs) (n : Nat) (rs : List (Nat × TypeId × List Value)) (x : Nat) (r : Rt) (ws : List Nat) (W : World) : Prop :=
  ∃ G, Sys W G p F n ∧ (∀ k, G k → w0.heap.size ≤ k) ∧ Below w0.heap.size w0 W ∧ (∀ q ∈ rs, Row W q.1 q.2.1 q.2.2 ∧ ¬ G q.1 ∧ q.2.1 ≠ 130 ∧ q.2.1 ≠ 69 ∧ q.2.1 ≠ 126) ∧ RMem W x p r F.D.size ws ∧ ROut G x r ∧ w0.heap.size ≤ x ∧ w0.heap.size ≤ r.b ∧ w0.heap.size ≤ r.g
section
variable {w0 W : World} {p : Wp} {F : Fs} {n x : Nat} {rs : List (Nat × TypeId × List Value)} {r : Rt} {ws : List Nat}
theorem RBase.below (h : RBase w0 p F n rs x r ws W) {W' : World} (hb : Below W.heap.size W W') : RBase w0 p F n rs x r ws W' := by
  obtain ⟨G, h1, h2, h3, h4, h5, h6⟩ := h
  exact ⟨G, h1.below hb, h2, h3.trans (hb.mono h3.size), fun q hq => ⟨(h4 q hq).1.below hb (h4 q hq).1.lt, (h4 q hq).2⟩, h5.below hb, h6⟩
theorem RBase.base (h : RBase w0 p F n rs x r ws W) : Base w0 p F n rs W := by
  obtain ⟨G, h1, h2, h3, h4, _⟩ := h
  exact ⟨G, h1, h2, h3, fun q hq => ⟨(h4 q hq).1, (h4 q hq).2.1, (h4 q hq).2.2.1⟩⟩
/-- Read of a file that could be -/
theorem rbase_read (h : Base w0 p F n rs W) (ht : ∀ q ∈ rs, q.2.1 ≠ 69 ∧ q.2.1 ≠ 126) (k hh first nb count : Nat) (hhe : hh = holdsI F.D.size k) (hh0 : 0 < hh) (hnb : nb = blocksN hh count) (hcount : count ≤ 100000000) (hroom : F.D.size ≤ F.A.room - F.A.used) :
    Calls Try.prog 29 #[.pointer (some ⟨p.w, 0, none⟩), .agg #[.int .i64 first, .int .i64 nb, .int .i64 k, .int .i64 count]] W fun e w' => ∃ x b g ws, e = .returned (.tuple #[.pointer (some ⟨x, 0, none⟩), .int .i64 0]) ∧ (∀ q ∈ F.A.st, q.1 ≠ b) ∧ RBase w0 p { F with A := grant F.A b F.D.size } n rs x ⟨k, hh, first, nb, count, 0, b, g⟩ ws w' := by
  obtain ⟨G, h1, h2, h3, h4⟩ := h
  have z := h3.size
  refine (fread_ok h1 k hh first nb count hhe hh0 hnb hcount hroom).mono ?_
  rintro e w' ⟨x, b, g, he, k1, k2, k3, G', k4, ⟨ws, k5⟩, k6, k7, k8⟩
  refine ⟨x, b, g, ws, he, fun q hq e => ?_, G', k4, fun k hk => (k8 k hk).elim (h2 k) fun h => by omega, h3.trans (k7.below z fun k hk => h2 k hk), fun q hq => ⟨k7.row (h4 q hq).1 (h4 q hq).2.1, fun hg => (k8 _ hg).elim (h4 q hq).2.1 (Nat.not_le_of_lt (h4 q hq).1.lt), (h4 q hq).2.2, ht q hq⟩, k5, k6, ?_, ?_, ?_⟩
  · have hl := (h1.buf hq).1.lt
    have k2' : W.heap.size ≤ b := k2
    omega
  · exact Nat.le_trans z k1
  · exact Nat.le_trans z k2
  · exact Nat.le_trans z k3
/-- what Next turns keeps the law's rows -/
theorem RBase.far {W' : World} {G : Nat → Prop} (h3 : Below w0.heap.size w0 W) (h2 : ∀ k, G k → w0.heap.size ≤ k) (h4 : ∀ q ∈ rs, Row W q.1 q.2.1 q.2.2 ∧ ¬ G q.1 ∧ q.2.1 ≠ 130 ∧ q.2.1 ≠ 69 ∧ q.2.1 ≠ 126) (h5 : RMem W x p r F.D.size ws) (h7 : w0.heap.size ≤ x ∧ w0.heap.size ≤ r.b ∧ w0.heap.size ≤ r.g) {R : Nat → Prop}
    (hf : Far R W W') (hR : ∀ k, R k → G k ∨ k = x ∨ k = r.b ∨ k = r.g) : Below w0.heap.size w0 W' ∧ ∀ q ∈ rs, Row W' q.1 q.2.1 q.2.2 := by
  refine ⟨h3.trans (hf.below h3.size fun k hk => ?_), fun q hq => hf.row (h4 q hq).1 fun hk => ?_⟩
  · rcases hR k hk with h | rfl | rfl | rfl
    · exact h2 k h
    · exact h7.1
    · exact h7.2.1
    · exact h7.2.2
  · obtain ⟨hr, hg, t1, t2, t3⟩ := h4 q hq
    rcases hR _ hk with h | h | h | h
    · exact hg h
    · exact t3 (hr.typed (h ▸ h5.row))
    · exact t1 (hr.typed (h ▸ h5.buf))
    · exact t2 (hr.typed (h ▸ h5.words))
theorem rbase_next (h : RBase w0 p F n rs x r ws W) (hn : n < 1000000) (hok : RtOk r F.D.size) {l : List Tup} (hc : l.length = r.count) (hpos : r.pos < r.count)
    (hblk : r.pos % r.h = 0 → (read F.D ((r.first + r.pos / r.h : Nat) : Int)).1 = 0 ∧ F.D.now ((r.first + r.pos / r.h : Nat) : Int) = sealW F.D.size (r.first + r.pos / r.h) r.k (payT r.h r.k l (r.pos / r.h)))
    (hbuf : r.pos % r.h ≠ 0 → ws.take (min r.h (r.count - r.pos / r.h * r.h) * r.k) = payT r.h r.k l (r.pos / r.h)) {t : Tup} (ht : l[r.pos]? = some t) (hto : TupOk t) (htf : fitsT r.k t = true) :
    Calls Try.prog 31 #[.pointer (some ⟨x, 0, none⟩)] W fun e w' => e = .returned (.tuple #[.agg #[.int .i64 t.a, .int .i64 t.b, .int .i64 t.c, .int .i64 t.d, .int .i64 t.e], .bool true, .int .i64 0]) ∧
      ∃ ws', RBase w0 p { F with D := nextD F.D r } (n + 1) rs x { r with pos := r.pos + 1 } ws' w' ∧ ws'.take (min r.h (r.count - r.pos / r.h * r.h) * r.k) = payT r.h r.k l (r.pos / r.h) := by
  obtain ⟨G, h1, h2, h3, h4, h5, h6, h7⟩ := h
  refine (fnext_part h1 hn hok h5 h6 hc hpos hblk hbuf ht hto htf).mono ?_
  rintro e w' ⟨he, ws', ⟨G', k1, k2, k3, k4⟩, k5⟩
  obtain ⟨q1, q2⟩ := RBase.far h3 h2 h4 h5 h7 k3 fun k hk => hk.imp_right fun h => h.elim (fun h => .inr (.inr h)) fun h => .inl h
  have hlt := h5.lt
  have z := h3.size
  refine ⟨he, ws', ⟨G', k1, fun k hk => (k4 k hk).elim (h2 k) fun h => by omega, q1, fun q hq => ⟨q2 q hq, fun hg => (k4 _ hg).elim (h4 q hq).2.1 (Nat.not_le_of_lt (h4 q hq).1.lt), (h4 q hq).2.2⟩, k2, ⟨fun hg => (k4 _ hg).elim h6.x (Nat.not_le_of_lt hlt.1), fun hg => (k4 _ hg).elim h6.b (Nat.not_le_of_lt hlt.2.1), fun hg => (k4 _ hg).elim h6.g (Nat.not_le_of_lt hlt.2.2)⟩, h7⟩, k5⟩
/-- Next of a block that is not sealed so: the reader is closed -/
theorem rbase_fault (h : RBase w0 p F n rs x r ws W) (hn : n < 1000000) (hok : RtOk r F.D.size) (hst : wordsAt F.A.st r.b = some F.D.size) (hpos : r.pos < r.count) (hmid : r.pos % r.h = 0) (he : (read F.D ((r.first + r.pos / r.h : Nat) : Int)).1 = 0)
    (hbad : ¬ (okW (F.D.now ((r.first + r.pos / r.h : Nat) : Int)) (r.first + r.pos / r.h) = true ∧ tagW (F.D.now ((r.first + r.pos / r.h : Nat) : Int)) = r.k ∧ numW (F.D.now ((r.first + r.pos / r.h : Nat) : Int)) - 1 = min r.h (r.count - r.pos / r.h * r.h) * r.k)) :
    Calls Try.prog 31 #[.pointer (some ⟨x, 0, none⟩)] W fun e w' => e = .returned (.tuple #[.agg #[.int .i64 0, .int .i64 0, .int .i64 0, .int .i64 0, .int .i64 0], .bool false, .int .i64 6]) ∧ RShut w' x p r ∧ ∃ D', Base w0 p ⟨D', release F.A r.b F.D.size, F.S⟩ (n + 1) rs w' := by
  obtain ⟨G, h1, h2, h3, h4, h5, h6, h7⟩ := h
  refine (fnext_fault h1 hn hok h5 h6 hst hpos hmid he hbad).mono ?_
  rintro e w' ⟨he', G', k1, k2, k3, k4⟩
  obtain ⟨q1, q2⟩ := RBase.far h3 h2 h4 h5 h7 k3 fun k hk => hk.imp_right fun h => .inr h
  have z := h3.size
  refine ⟨he', k2, (read F.D ((r.first + r.pos / r.h : Nat) : Int)).2, G', ?_, fun k hk => (k4 k hk).elim (h2 k) fun h => by omega, q1, fun q hq => ⟨q2 q hq, fun hg => (k4 _ hg).elim (h4 q hq).2.1 (Nat.not_le_of_lt (h4 q hq).1.lt), (h4 q hq).2.2.1⟩⟩
  have e1 : (read F.D ((r.first + r.pos / r.h : Nat) : Int)).2.size = F.D.size := (now_read F.D _ 0).2.1
  have k1' : Sys w' G' p ⟨(read F.D ((r.first + r.pos / r.h : Nat) : Int)).2, release F.A r.b (read F.D ((r.first + r.pos / r.h : Nat) : Int)).2.size, F.S⟩ (n + 1) := k1
  rw [e1] at k1'
  exact k1'
theorem rbase_holds (h : RBase w0 p F n rs x r ws W) (width : Int) : Calls Try.prog 30 #[.pointer (some ⟨p.w, 0, none⟩), .int .i64 width] W fun e w' => e = .returned (.int .i64 (holdsI F.D.size width : Nat)) ∧ w' = W := by
  obtain ⟨G, h1, _⟩ := h
  exact hol_any h1 width
theorem RBase.row (h : RBase w0 p F n rs x r ws W) {q : Nat × TypeId × List Value} (hq : q ∈ rs) : Row W q.1 q.2.1 q.2.2 := by obtain ⟨G, _, _, _, h4, _⟩ := h; exact (h4 q hq).1
theorem RBase.bel (h : RBase w0 p F n rs x r ws W) : Below w0.heap.size w0 W := by obtain ⟨G, _, _, h3, _⟩ := h; exact h3
/-- the law writes to the device itself -/
theorem base_write (h : Base w0 p F n rs W) (hn : n < 1000000) (i : Int) (hi : I64 i) (A : Option Addr) (m c : Nat) (l : List Nat) {B : Nat} (hl : Reads .u64 W B A m l) (hB : B ≤ W.heap.size) :
    Calls Try.prog 28 #[.pointer (some ⟨p.d, 0, none⟩), .int .i64 i, .slice A m c] W fun e w' => e = .returned (.int .i64 (write F.D i l).1) ∧ Base w0 p { F with D := (write F.D i l).2 } (n + 1) rs w' :=
  h.call fun _ hs _ => sys_write hs hn i hi A m c l hl hB
end
end Go.Proofs.Ytbkgpilmgllkiaa
