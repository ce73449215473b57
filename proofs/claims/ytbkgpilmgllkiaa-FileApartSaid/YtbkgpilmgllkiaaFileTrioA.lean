/- FilePart, FileMany and FileTrio in one text (a claim has at most 60 files). -/
import Derived.Test.YtbkgpilmgllkiaaFileBase
namespace Go.Proofs.Ytbkgpilmgllkiaa
open Go.ChangeShapes Go.WideShapes Go.ChangeAt Go.RowKit

/-- Next: of the file just the block that is asked for needs to stand -/
theorem fnext_part {w : World} {G : Nat → Prop} {p : Wp} {F : Fs} {n x : Nat} {r : Rt} {ws : List Nat} {l : List Tup} (h : Sys w G p F n) (hn : n < 1000000) (hok : RtOk r F.D.size) (hm : RMem w x p r F.D.size ws) (ho : ROut G x r) (hc : l.length = r.count) (hpos : r.pos < r.count)
    (hblk : r.pos % r.h = 0 → (read F.D ((r.first + r.pos / r.h : Nat) : Int)).1 = 0 ∧ F.D.now ((r.first + r.pos / r.h : Nat) : Int) = sealW F.D.size (r.first + r.pos / r.h) r.k (payT r.h r.k l (r.pos / r.h)))
    (hbuf : r.pos % r.h ≠ 0 → ws.take (min r.h (r.count - r.pos / r.h * r.h) * r.k) = payT r.h r.k l (r.pos / r.h)) {t : Tup} (ht : l[r.pos]? = some t) (hto : TupOk t) (htf : fitsT r.k t = true) :
    Calls Try.prog 31 #[.pointer (some ⟨x, 0, none⟩)] w fun e w' => e = .returned (.tuple #[.agg #[.int .i64 t.a, .int .i64 t.b, .int .i64 t.c, .int .i64 t.d, .int .i64 t.e], .bool true, .int .i64 0]) ∧
      ∃ ws', NextTo w G p { F with D := nextD F.D r } (n + 1) x { r with pos := r.pos + 1 } ws' w' ∧ ws'.take (min r.h (r.count - r.pos / r.h * r.h) * r.k) = payT r.h r.k l (r.pos / r.h) := by
  unfold nextD
  have hsz := hok.sz
  by_cases hmid : r.pos % r.h = 0
  · rw [if_pos hmid]
    obtain ⟨he, hs⟩ := hblk hmid
    have hpl : (payT r.h r.k l (r.pos / r.h)).length = min r.h (r.count - r.pos / r.h * r.h) * r.k := by rw [pay_words hok.k.2, hc]
    have hle : (payT r.h r.k l (r.pos / r.h)).length ≤ F.D.size - 2 := Nat.le_trans (pay_len hok.k.2 l _) hok.h.2.1
    have g1 : okW (F.D.now ((r.first + r.pos / r.h : Nat) : Int)) (r.first + r.pos / r.h) = true := by rw [hs]; exact seal_ok hle (by omega)
    have g2 : tagW (F.D.now ((r.first + r.pos / r.h : Nat) : Int)) = r.k := by rw [hs]; exact seal_tag hle (by omega)
    have g3 : numW (F.D.now ((r.first + r.pos / r.h : Nat) : Int)) - 1 = min r.h (r.count - r.pos / r.h * r.h) * r.k := by rw [hs, seal_num hle (by omega), hpl, Nat.add_sub_cancel]
    have g4 : (F.D.now ((r.first + r.pos / r.h : Nat) : Int)).take (min r.h (r.count - r.pos / r.h * r.h) * r.k) = payT r.h r.k l (r.pos / r.h) := by rw [hs, ← hpl]; exact seal_take
    have hsp : (splice ws 0 ((F.D.now ((r.first + r.pos / r.h : Nat) : Int)).take (min r.h (r.count - r.pos / r.h * r.h) * r.k))).take (min r.h (r.count - r.pos / r.h * r.h) * r.k) = payT r.h r.k l (r.pos / r.h) := by
      rw [g4]; unfold splice
      rw [List.take_zero, List.nil_append, List.take_left' hpl]
    have hcl := fnext_good h hok hm ho hpos (now_read F.D ((r.first + r.pos / r.h : Nat) : Int) 0).2.1 hmid fun W hb => rblk_good (h.below hb) hn hok (hm.below hb) ho hpos he g1 g2 g3
    rw [buf_tup hok.k.2 hok.h.1 hpos hc hsp ht hto htf] at hcl
    exact hcl.mono fun e w' ⟨h1, h2⟩ => ⟨h1, _, h2, hsp⟩
  · rw [if_neg hmid]
    have hb := hbuf hmid
    have hcl := fnext_mid h hok hm ho hpos hmid
    rw [buf_tup hok.k.2 hok.h.1 hpos hc hb ht hto htf] at hcl
    exact hcl.mono fun e w' ⟨h1, G', k1, k2⟩ => ⟨h1, _, ⟨G', k1.mono (by omega) (by omega), k2⟩, hb⟩
/-- the work, a reader, rows of the law's own -/
def RBase (w0 : World) (p : Wp) (F : Fs) (n : Nat) (rs : List (Nat × TypeId × List Value)) (x : Nat) (r : Rt) (ws : List Nat) (W : World) : Prop :=
  ∃ G, Sys W G p F n ∧ (∀ k, G k → w0.heap.size ≤ k) ∧ Below w0.heap.size w0 W ∧ (∀ q ∈ rs, Row W q.1 q.2.1 q.2.2 ∧ ¬ G q.1 ∧ q.2.1 ≠ 130 ∧ q.2.1 ≠ 69 ∧ q.2.1 ≠ 126) ∧ RMem W x p r F.D.size ws ∧ ROut G x r ∧ w0.heap.size ≤ x ∧ w0.heap.size ≤ r.b ∧ w0.heap.size ≤ r.g
section
variable {w0 W : World} {p : Wp} {F : Fs} {n x : Nat} {rs : List (Nat × TypeId × List Value)} {r : Rt} {ws : List Nat}
theorem RBase.below (h : RBase w0 p F n rs x r ws W) {W' : World} (hb : Below W.heap.size W W') : RBase w0 p F n rs x r ws W' := by
  obtain ⟨G, h1, h2, h3, h4, h5, h6⟩ := h
  exact ⟨G, h1.below hb, h2, h3.trans (hb.mono h3.size), fun q hq => ⟨(h4 q hq).1.below hb (h4 q hq).1.lt, (h4 q hq).2⟩, h5.below hb, h6⟩
theorem RBase.base (h : RBase w0 p F n rs x r ws W) : Base w0 p F n rs W := by
  obtain ⟨G, h1, h2, h3, h4, _⟩ := h
  exact ⟨G, h1, h2, h3, fun q hq => ⟨(h4 q hq).1, (h4 q hq).2.1, (h4 q hq).2.2.1⟩⟩
/-- Read of a file that could be -/
theorem rbase_read (h : Base w0 p F n rs W) (ht : ∀ q ∈ rs, q.2.1 ≠ 69 ∧ q.2.1 ≠ 126) (k hh first nb count : Nat) (hhe : hh = holdsI F.D.size k) (hh0 : 0 < hh) (hnb : nb = blocksN hh count) (hcount : count ≤ 100000000) (hroom : F.D.size ≤ F.A.room - F.A.used) :
    Calls Try.prog 29 #[.pointer (some ⟨p.w, 0, none⟩), .agg #[.int .i64 first, .int .i64 nb, .int .i64 k, .int .i64 count]] W fun e w' => ∃ x b g ws, e = .returned (.tuple #[.pointer (some ⟨x, 0, none⟩), .int .i64 0]) ∧ (∀ q ∈ F.A.st, q.1 ≠ b) ∧ RBase w0 p { F with A := grant F.A b F.D.size } n rs x ⟨k, hh, first, nb, count, 0, b, g⟩ ws w' := by
  obtain ⟨G, h1, h2, h3, h4⟩ := h
  have z := h3.size
  refine (fread_ok h1 k hh first nb count hhe hh0 hnb hcount hroom).mono ?_
  rintro e w' ⟨x, b, g, he, k1, k2, k3, G', k4, ⟨ws, k5⟩, k6, k7, k8⟩
  refine ⟨x, b, g, ws, he, fun q hq e => ?_, G', k4, fun k hk => (k8 k hk).elim (h2 k) fun h => by omega, h3.trans (k7.below z fun k hk => h2 k hk), fun q hq => ⟨k7.row (h4 q hq).1 (h4 q hq).2.1, fun hg => (k8 _ hg).elim (h4 q hq).2.1 (Nat.not_le_of_lt (h4 q hq).1.lt), (h4 q hq).2.2, ht q hq⟩, k5, k6, ?_, ?_, ?_⟩
  · have hl := (h1.buf hq).1.lt
    have k2' : W.heap.size ≤ b := k2
    omega
  · exact Nat.le_trans z k1
  · exact Nat.le_trans z k2
  · exact Nat.le_trans z k3
/-- what Next turns keeps the law's rows -/
theorem RBase.far {W' : World} {G : Nat → Prop} (h3 : Below w0.heap.size w0 W) (h2 : ∀ k, G k → w0.heap.size ≤ k) (h4 : ∀ q ∈ rs, Row W q.1 q.2.1 q.2.2 ∧ ¬ G q.1 ∧ q.2.1 ≠ 130 ∧ q.2.1 ≠ 69 ∧ q.2.1 ≠ 126) (h5 : RMem W x p r F.D.size ws) (h7 : w0.heap.size ≤ x ∧ w0.heap.size ≤ r.b ∧ w0.heap.size ≤ r.g) {R : Nat → Prop}
    (hf : Far R W W') (hR : ∀ k, R k → G k ∨ k = x ∨ k = r.b ∨ k = r.g) : Below w0.heap.size w0 W' ∧ ∀ q ∈ rs, Row W' q.1 q.2.1 q.2.2 := by
  refine ⟨h3.trans (hf.below h3.size fun k hk => ?_), fun q hq => hf.row (h4 q hq).1 fun hk => ?_⟩
  · rcases hR k hk with h | rfl | rfl | rfl
    · exact h2 k h
    · exact h7.1
    · exact h7.2.1
    · exact h7.2.2
  · obtain ⟨hr, hg, t1, t2, t3⟩ := h4 q hq
    rcases hR _ hk with h | h | h | h
    · exact hg h
    · exact t3 (hr.typed (h ▸ h5.row))
    · exact t1 (hr.typed (h ▸ h5.buf))
    · exact t2 (hr.typed (h ▸ h5.words))
theorem rbase_next (h : RBase w0 p F n rs x r ws W) (hn : n < 1000000) (hok : RtOk r F.D.size) {l : List Tup} (hc : l.length = r.count) (hpos : r.pos < r.count)
    (hblk : r.pos % r.h = 0 → (read F.D ((r.first + r.pos / r.h : Nat) : Int)).1 = 0 ∧ F.D.now ((r.first + r.pos / r.h : Nat) : Int) = sealW F.D.size (r.first + r.pos / r.h) r.k (payT r.h r.k l (r.pos / r.h)))
    (hbuf : r.pos % r.h ≠ 0 → ws.take (min r.h (r.count - r.pos / r.h * r.h) * r.k) = payT r.h r.k l (r.pos / r.h)) {t : Tup} (ht : l[r.pos]? = some t) (hto : TupOk t) (htf : fitsT r.k t = true) :
    Calls Try.prog 31 #[.pointer (some ⟨x, 0, none⟩)] W fun e w' => e = .returned (.tuple #[.agg #[.int .i64 t.a, .int .i64 t.b, .int .i64 t.c, .int .i64 t.d, .int .i64 t.e], .bool true, .int .i64 0]) ∧
      ∃ ws', RBase w0 p { F with D := nextD F.D r } (n + 1) rs x { r with pos := r.pos + 1 } ws' w' ∧ ws'.take (min r.h (r.count - r.pos / r.h * r.h) * r.k) = payT r.h r.k l (r.pos / r.h) := by
  obtain ⟨G, h1, h2, h3, h4, h5, h6, h7⟩ := h
  refine (fnext_part h1 hn hok h5 h6 hc hpos hblk hbuf ht hto htf).mono ?_
  rintro e w' ⟨he, ws', ⟨G', k1, k2, k3, k4⟩, k5⟩
  obtain ⟨q1, q2⟩ := RBase.far h3 h2 h4 h5 h7 k3 fun k hk => hk.imp_right fun h => h.elim (fun h => .inr (.inr h)) fun h => .inl h
  have hlt := h5.lt
  have z := h3.size
  refine ⟨he, ws', ⟨G', k1, fun k hk => (k4 k hk).elim (h2 k) fun h => by omega, q1, fun q hq => ⟨q2 q hq, fun hg => (k4 _ hg).elim (h4 q hq).2.1 (Nat.not_le_of_lt (h4 q hq).1.lt), (h4 q hq).2.2⟩, k2, ⟨fun hg => (k4 _ hg).elim h6.x (Nat.not_le_of_lt hlt.1), fun hg => (k4 _ hg).elim h6.b (Nat.not_le_of_lt hlt.2.1), fun hg => (k4 _ hg).elim h6.g (Nat.not_le_of_lt hlt.2.2)⟩, h7⟩, k5⟩
/-- Next of a block that is not sealed so: the reader is closed -/
theorem rbase_fault (h : RBase w0 p F n rs x r ws W) (hn : n < 1000000) (hok : RtOk r F.D.size) (hst : wordsAt F.A.st r.b = some F.D.size) (hpos : r.pos < r.count) (hmid : r.pos % r.h = 0) (he : (read F.D ((r.first + r.pos / r.h : Nat) : Int)).1 = 0)
    (hbad : ¬ (okW (F.D.now ((r.first + r.pos / r.h : Nat) : Int)) (r.first + r.pos / r.h) = true ∧ tagW (F.D.now ((r.first + r.pos / r.h : Nat) : Int)) = r.k ∧ numW (F.D.now ((r.first + r.pos / r.h : Nat) : Int)) - 1 = min r.h (r.count - r.pos / r.h * r.h) * r.k)) :
    Calls Try.prog 31 #[.pointer (some ⟨x, 0, none⟩)] W fun e w' => e = .returned (.tuple #[.agg #[.int .i64 0, .int .i64 0, .int .i64 0, .int .i64 0, .int .i64 0], .bool false, .int .i64 6]) ∧ RShut w' x p r ∧ ∃ D', Base w0 p ⟨D', release F.A r.b F.D.size, F.S⟩ (n + 1) rs w' := by
  obtain ⟨G, h1, h2, h3, h4, h5, h6, h7⟩ := h
  refine (fnext_fault h1 hn hok h5 h6 hst hpos hmid he hbad).mono ?_
  rintro e w' ⟨he', G', k1, k2, k3, k4⟩
  obtain ⟨q1, q2⟩ := RBase.far h3 h2 h4 h5 h7 k3 fun k hk => hk.imp_right fun h => .inr h
  have z := h3.size
  refine ⟨he', k2, (read F.D ((r.first + r.pos / r.h : Nat) : Int)).2, G', ?_, fun k hk => (k4 k hk).elim (h2 k) fun h => by omega, q1, fun q hq => ⟨q2 q hq, fun hg => (k4 _ hg).elim (h4 q hq).2.1 (Nat.not_le_of_lt (h4 q hq).1.lt), (h4 q hq).2.2.1⟩⟩
  have e1 : (read F.D ((r.first + r.pos / r.h : Nat) : Int)).2.size = F.D.size := (now_read F.D _ 0).2.1
  have k1' : Sys w' G' p ⟨(read F.D ((r.first + r.pos / r.h : Nat) : Int)).2, release F.A r.b (read F.D ((r.first + r.pos / r.h : Nat) : Int)).2.size, F.S⟩ (n + 1) := k1
  rw [e1] at k1'
  exact k1'
theorem rbase_holds (h : RBase w0 p F n rs x r ws W) (width : Int) : Calls Try.prog 30 #[.pointer (some ⟨p.w, 0, none⟩), .int .i64 width] W fun e w' => e = .returned (.int .i64 (holdsI F.D.size width : Nat)) ∧ w' = W := by
  obtain ⟨G, h1, _⟩ := h
  exact hol_any h1 width
theorem RBase.row (h : RBase w0 p F n rs x r ws W) {q : Nat × TypeId × List Value} (hq : q ∈ rs) : Row W q.1 q.2.1 q.2.2 := by obtain ⟨G, _, _, _, h4, _⟩ := h; exact (h4 q hq).1
theorem RBase.bel (h : RBase w0 p F n rs x r ws W) : Below w0.heap.size w0 W := by obtain ⟨G, _, _, h3, _⟩ := h; exact h3
/-- the law writes to the device itself -/
theorem base_write (h : Base w0 p F n rs W) (hn : n < 1000000) (i : Int) (hi : I64 i) (A : Option Addr) (m c : Nat) (l : List Nat) {B : Nat} (hl : Reads .u64 W B A m l) (hB : B ≤ W.heap.size) :
    Calls Try.prog 28 #[.pointer (some ⟨p.d, 0, none⟩), .int .i64 i, .slice A m c] W fun e w' => e = .returned (.int .i64 (write F.D i l).1) ∧ Base w0 p { F with D := (write F.D i l).2 } (n + 1) rs w' :=
  h.call fun _ hs _ => sys_write hs hn i hi A m c l hl hB
end
end Go.Proofs.Ytbkgpilmgllkiaa
namespace Go.Proofs.Ytbkgpilmgllkiaa
open Go.ChangeShapes Go.WideShapes Go.ChangeAt Go.RowKit

theorem wordsAt_append (l : List (Nat × Nat)) (x y n m : Nat) (h : wordsAt l x = some n) : wordsAt (l ++ [(y, m)]) x = some n := by
  induction l with
  | nil => simp [wordsAt] at h
  | cons q l ih =>
    simp only [List.cons_append, wordsAt] at h ⊢
    split
    · rename_i h1; rw [if_pos h1] at h; exact h
    · rename_i h1; rw [if_neg h1] at h; exact ih h
theorem wordsAt_without : ∀ (l : List (Nat × Nat)) (x y n : Nat), wordsAt l x = some n → x ≠ y → wordsAt (without l y) x = some n
  | [], x, y, n, h, _ => by simp [wordsAt] at h
  | q :: l, x, y, n, h, hne => by
    simp only [wordsAt] at h
    simp only [without]
    by_cases h1 : q.1 = y
    · rw [if_pos h1]
      rw [if_neg (by rw [h1]; exact fun e => hne e.symm)] at h; exact h
    · rw [if_neg h1]
      simp only [wordsAt]
      by_cases h2 : q.1 = x
      · rw [if_pos h2] at h ⊢; exact h
      · rw [if_neg h2] at h ⊢; exact wordsAt_without l x y n h hne
/-- an open writer of the law's own -/
structure Wok (w0 W : World) (G : Nat → Prop) (p : Wp) (F : Fs) (x : Nat) (t : Wt) : Prop where
  ok : WtOk t F.D.size
  mem : WOpen W x p t F.D.size
  out : WOut G x t
  st : wordsAt F.A.st t.b = some F.D.size
  stand : WStand F.D t
  new : w0.heap.size ≤ x ∧ w0.heap.size ≤ t.b ∧ w0.heap.size ≤ t.g
  fit : ∀ u ∈ t.l, TupOk u ∧ fitsT t.k u = true
/-- two writers apart from each other -/
structure Wap (x : Nat) (t : Wt) (x' : Nat) (t' : Wt) : Prop where
  x : x ≠ x'
  b : t.b ≠ t'.b
  g : t.g ≠ t'.g
  ext : ∀ i, t.first ≤ i → i < t.first + t.blocks → ¬ (t'.first ≤ i ∧ i < t'.first + t'.blocks)
theorem Wap.symm {x x' : Nat} {t t' : Wt} (h : Wap x t x' t') : Wap x' t' x t := ⟨h.x.symm, h.b.symm, h.g.symm, fun i h1 h2 h3 => h.ext i h3.1 h3.2 ⟨h1, h2⟩⟩
section
variable {w0 W W' : World} {G G' : Nat → Prop} {p : Wp} {F F' : Fs} {n x : Nat} {t : Wt}
theorem Wok.lt (h : Wok w0 W G p F x t) : x < W.heap.size ∧ t.b < W.heap.size ∧ t.g < W.heap.size := by obtain ⟨ws, hm, _⟩ := h.mem; exact hm.lt
/-- what keeps a writer as it is -/
theorem Wok.keep (h : Wok w0 W G p F x t) {R : Nat → Prop} (hf : Far R W W') (hx : ¬ R x) (hb : ¬ R t.b) (hg : ¬ R t.g) (hG : ∀ k, G' k → G k ∨ W.heap.size ≤ k) (hs : F'.D.size = F.D.size) (hn : ∀ i : Nat, t.first ≤ i → i < t.first + t.blocks → F'.D.now i = F.D.now i) (hst : wordsAt F'.A.st t.b = some F.D.size) : Wok w0 W' G' p F' x t := by
  obtain ⟨l1, l2, l3⟩ := h.lt
  obtain ⟨ws, hm, hh⟩ := h.mem
  refine ⟨by rw [hs]; exact h.ok, ⟨ws, by rw [hs]; exact hm.far hf hx hb hg, hh⟩, ⟨fun k => (hG _ k).elim h.out.x (Nat.not_le_of_lt l1), fun k => (hG _ k).elim h.out.b (Nat.not_le_of_lt l2), fun k => (hG _ k).elim h.out.g (Nat.not_le_of_lt l3)⟩, by rw [hs]; exact hst, fun j hj => ?_, h.new, h.fit⟩
  have hjb : j < t.blocks := by
    have h1 := blocks_mono (h := t.h) h.ok.h.1 h.ok.bound.2
    rw [← h.ok.blocks.1] at h1
    have h2 : t.l.length / t.h ≤ blocksN t.h t.l.length := by unfold blocksN; split <;> omega
    omega
  rw [hn _ (by omega) (by omega), hs]
  exact h.stand j hj
/-- Put, on a device that does what it is told -/
theorem wok_put (h : Sys W G p F n) (hn : n < 1000000) (hw : Wok w0 W G p F x t) (hc : Calm F.D) (hin : ((t.first + t.blocks : Nat) : Int) ≤ F.D.blocks) {tu : Tup} (hto : TupOk tu) (hf : fitsT t.k tu = true) (hless : t.l.length < t.bound) :
    Calls Try.prog 36 #[.pointer (some ⟨x, 0, none⟩), .agg #[.int .i64 tu.a, .int .i64 tu.b, .int .i64 tu.c, .int .i64 tu.d, .int .i64 tu.e]] W fun e w' => e = .returned (.int .i64 0) ∧ ∃ G' D', Sys w' G' p { F with D := D' } (n + 1) ∧ Wok w0 w' G' p { F with D := D' } x (t.snoc tu) ∧ Far (fun k => G k ∨ k = x ∨ k = t.g) W w' ∧ (∀ k, G' k → G k ∨ W.heap.size ≤ k) ∧
      (Calm D' ∧ D'.size = F.D.size ∧ D'.blocks = F.D.blocks ∧ ∀ i : Nat, ¬ (t.first ≤ i ∧ i < t.first + t.blocks) → D'.now i = F.D.now i) := by
  obtain ⟨l1, l2, l3⟩ := hw.lt
  obtain ⟨ws, hm, hh⟩ := id hw.mem
  have hok2 : WtOk (t.snoc tu) F.D.size := ⟨hw.ok.k, hw.ok.h, hw.ok.sz, ⟨hw.ok.bound.1, by rw [snoc_len]; exact hless⟩, hw.ok.blocks, hw.ok.first⟩
  have hfit2 : ∀ u ∈ (t.snoc tu).l, TupOk u ∧ fitsT t.k u = true := fun u hu => by
    rcases List.mem_append.1 (show u ∈ t.l ++ [tu] from hu) with hu | hu
    · exact hw.fit u hu
    · simp at hu; subst hu; exact ⟨hto, hf⟩
  have hout : ∀ G' : Nat → Prop, (∀ k, G' k → G k ∨ W.heap.size ≤ k) → WOut G' x (t.snoc tu) := fun G' hs => ⟨fun k => (hs _ k).elim hw.out.x (Nat.not_le_of_lt l1), fun k => (hs _ k).elim hw.out.b (Nat.not_le_of_lt l2), fun k => (hs _ k).elim hw.out.g (Nat.not_le_of_lt l3)⟩
  refine (wput_go h hw.ok hm hn hw.out hw.st hh tu hf hless).mono ?_
  rintro e w' (⟨hno, _⟩ | ⟨_, hfull, _⟩ | ⟨_, _, ⟨hm0, rfl, G', k1, k2, k3, k4⟩ | ⟨hm0, hw0, rfl, G', k1, k2, k3, k4⟩ | ⟨hm0, hw0, rfl, G', k1, k2, k3, k4⟩⟩)
  · rw [hf] at hno; cases hno
  · omega
  · exact ⟨rfl, G', F.D, k1.mono (by omega) (by omega), ⟨hok2, k2, hout G' k4, hw.st, wstand_buf hw.ok.h.1 hw.stand hm0, hw.new, hfit2⟩, k3, k4, hc, rfl, rfl, fun _ _ => rfl⟩
  · have hwr := wrote_write hw0
    have hsz := hwr.size
    refine ⟨rfl, G', _, k1, ⟨by show WtOk _ (write F.D _ _).2.size; rw [hsz]; exact hok2, by
      show WOpen w' x p (t.snoc tu) (write F.D _ _).2.size
      exact k2, hout G' k4, by show wordsAt F.A.st t.b = some (write F.D _ _).2.size; rw [hsz]; exact hw.st, wstand_put hw.ok.h.1 hw.stand hm0 hw0, hw.new, hfit2⟩, k3, k4, hwr.calm hc, hsz, hwr.blocks, fun i hi => ?_⟩
    have hli := last_in hok2 (by rw [snoc_len]; omega)
    exact (now_write hw0).2.1 _ (fun e => hi (by
      have e' : i = lastAd (t.snoc tu) := by omega
      rw [e']; exact hli))
  · exfalso
    have hl0 : 0 < (t.snoc tu).l.length := by rw [snoc_len]; omega
    rw [write_ok hc (last_right hok2 hl0 hin) (last_len hok2 hl0)] at hw0
    exact hw0 rfl
/-- Close, on a device that does what it is told -/
theorem wok_close (h : Sys W G p F n) (hn : n < 1000000) (hw : Wok w0 W G p F x t) (hc : Calm F.D) (hin : ((t.first + t.blocks : Nat) : Int) ≤ F.D.blocks) :
    Calls Try.prog 35 #[.pointer (some ⟨x, 0, none⟩)] W fun e w' => e = .returned (.tuple #[fileV (firstOf t) (blocksN t.h t.l.length) t.k t.l.length, .int .i64 0]) ∧ ∃ G' D', Sys w' G' p (endF { F with D := D' } t (blocksN t.h t.l.length)) (n + 1) ∧ WShut w' x p t ∧ Far (fun k => G k ∨ k = x ∨ k = t.g ∨ k = t.b) W w' ∧ (∀ k, G' k → G k ∨ W.heap.size ≤ k) ∧
      (Calm D' ∧ D'.size = F.D.size ∧ D'.blocks = F.D.blocks ∧ ∀ i : Nat, ¬ (t.first ≤ i ∧ i < t.first + t.blocks) → D'.now i = F.D.now i) ∧ StandsTo D' (firstOf t) t.k t.h t.l (blocksN t.h t.l.length) := by
  have hfo : ∀ D' : St, StandsTo D' t.first t.k t.h t.l (blocksN t.h t.l.length) → StandsTo D' (firstOf t) t.k t.h t.l (blocksN t.h t.l.length) := fun D' hs => by
    unfold firstOf
    by_cases h0 : t.l.length = 0
    · rw [if_pos h0, h0, blocks_zero]
      intro j hj; omega
    · rw [if_neg h0]; exact hs
  refine (wclose_any h hn hw.ok hw.mem hw.out hw.st).mono ?_
  rintro e w' (⟨hm0, rfl, G', k1, k2, k3, k4⟩ | ⟨hm0, hw0, rfl, G', k1, k2, k3, k4⟩ | ⟨hm0, hw0, rfl, G', k1, k2, k3, k4⟩)
  · exact ⟨rfl, G', F.D, k1.mono (by omega) (by omega), k2, k3, k4, ⟨hc, rfl, rfl, fun _ _ => rfl⟩, hfo _ (wstand_full hw.stand hm0)⟩
  · have hwr := wrote_write hw0
    refine ⟨rfl, G', _, k1, k2, k3, k4, ⟨hwr.calm hc, hwr.size, hwr.blocks, fun i hi => ?_⟩, hfo _ (wstand_close hw.ok.h.1 hw.stand hm0 hw0)⟩
    have hl0 : 0 < t.l.length := by
      rcases Nat.eq_zero_or_pos t.l.length with h1 | h1
      · rw [h1] at hm0; simp at hm0
      · exact h1
    have hli := last_in hw.ok hl0
    exact (now_write hw0).2.1 _ (fun e => hi (by
      have e' : i = lastAd t := by omega
      rw [e']; exact hli))
  · exfalso
    have hl0 : 0 < t.l.length := by
      rcases Nat.eq_zero_or_pos t.l.length with h1 | h1
      · rw [h1] at hm0; simp at hm0
      · exact h1
    rw [write_ok hc (last_right hw.ok hl0 hin) (last_len hw.ok hl0)] at hw0
    exact hw0 rfl
/-- Write, of a work that has room and blocks enough, or has not -/
theorem wok_write (h : Sys W G p F n) (width bound : Int) (hb0 : Below w0.heap.size w0 W) : Calls Try.prog 34 #[.pointer (some ⟨p.w, 0, none⟩), .int .i64 width, .int .i64 bound] W fun e w' =>
    (∃ er, e = .returned (.tuple #[.pointer none, .int .i64 er]) ∧ WErr F width bound er ∧ SysTo W G p F n w') ∨
    (∃ x t S' G', e = .returned (.tuple #[.pointer (some ⟨x, 0, none⟩), .int .i64 0]) ∧ WArgs F width bound ∧ F.D.size ≤ F.A.room - F.A.used ∧ (t.k : Int) = width ∧ (t.bound : Int) = bound ∧ t.h = holdsI F.D.size width ∧ t.l = [] ∧ Taken F.S S' t.first t.blocks ∧ (∀ q ∈ F.A.st, q.1 ≠ t.b) ∧
      Sys w' G' p { F with S := S', A := grant F.A t.b F.D.size } n ∧ Wok w0 w' G' p { F with S := S', A := grant F.A t.b F.D.size } x t ∧ Far G W w' ∧ (∀ k, G' k → G k ∨ W.heap.size ≤ k) ∧ W.heap.size ≤ x ∧ W.heap.size ≤ t.b ∧ W.heap.size ≤ t.g) := by
  refine (fwrite_any h width bound).mono ?_
  rintro e w' (⟨er, he, hw, hs⟩ | ⟨x, t, S1, he, hwa, hrm, htk, htb, hth, htl, htbl, htt, hok, k1, k2, k3, G1, k4, k5, k6, k7, k8⟩)
  · exact .inl ⟨er, he, hw, hs⟩
  · have z := hb0.size
    have hq : ∀ q ∈ F.A.st, q.1 ≠ t.b := fun q hq e => by have := (h.buf hq).1.lt; omega
    exact .inr ⟨x, t, S1, G1, he, hwa, hrm, htk, htb, hth, htl, htt, hq, k4, ⟨hok, k5, k6, wordsAt_new _ _ _ hq, wstand_nil htl, ⟨by omega, by omega, by omega⟩, fun u hu => by rw [htl] at hu; cases hu⟩, k7, k8, k1, k2, k3⟩
end
end Go.Proofs.Ytbkgpilmgllkiaa
namespace Go.Proofs.Ytbkgpilmgllkiaa
open Go.ChangeShapes Go.WideShapes Go.ChangeAt Go.RowKit

/-- writers lo to m - 1 are open; the arrays of writers and of lists lie in blocks of the law's own -/
structure Trio (w0 : World) (p : Wp) (F : Fs) (n lo m len xa pa : Nat) (C : List Value) (X : Nat → Nat) (T : Nat → Wt) (V : Nat → Value) (Q : Nat → List Tup) (G : Nat → Prop) (W : World) : Prop where
  sys : Sys W G p F n
  base : ∀ k, G k → w0.heap.size ≤ k
  bel : Below w0.heap.size w0 W
  calm : Calm F.D
  size : F.D.size = 9
  blocks : F.D.blocks = 900
  room : F.A.room = 900
  used : F.A.used = (m - lo) * 9
  xrow : Row W xa 88 C ∧ ¬ G xa ∧ w0.heap.size ≤ xa
  prow : Row W pa 89 [V 0, V 1, V 2] ∧ ¬ G pa ∧ w0.heap.size ≤ pa
  own : ∀ k, k < 3 → W.ownsRow w0.heap.size 58 5 (V k) (Q k).length (flatV (Q k)) ∧ ∀ q, (V k).ownBlock = some q → ¬ G q
  own2 : ∀ j k, j < 3 → k < 3 → j ≠ k → ∀ q, (V j).ownBlock = some q → (V k).ownBlock ≠ some q
  wok : ∀ k, lo ≤ k → k < m → Wok w0 W G p F (X k) (T k)
  num : ∀ k, lo ≤ k → k < m → (T k).k = 3 ∧ (T k).h = 2 ∧ (T k).bound = len ∧ (T k).first + (T k).blocks ≤ 900 ∧ ∀ b, (T k).first ≤ b → b < (T k).first + (T k).blocks → ¬ hasB F.S.fr b
  apart : ∀ j k, lo ≤ j → j < m → lo ≤ k → k < m → j ≠ k → Wap (X j) (T j) (X k) (T k)
section
variable {w0 W W' : World} {p : Wp} {F F' : Fs} {n n' lo m len xa pa : Nat} {C : List Value} {X : Nat → Nat} {T : Nat → Wt} {V : Nat → Value} {Q : Nat → List Tup} {G G' : Nat → Prop}
/-- what a call at the writer i, or at none, leaves of the rest -/
theorem Trio.keep (h : Trio w0 p F n lo m len xa pa C X T V Q G W) {R : Nat → Prop} (hf : Far R W W') (i : Nat) (hR : ∀ k, R k → G k ∨ (lo ≤ i ∧ i < m ∧ (k = X i ∨ k = (T i).b ∨ k = (T i).g))) (hG : ∀ k, G' k → G k ∨ W.heap.size ≤ k) (hs : F'.D.size = F.D.size)
    (hn : ∀ z : Nat, (lo ≤ i ∧ i < m ∧ (T i).first ≤ z ∧ z < (T i).first + (T i).blocks) ∨ F'.D.now z = F.D.now z) (hst : ∀ k, lo ≤ k → k < m → k ≠ i → wordsAt F'.A.st (T k).b = some F.D.size) :
    (∀ k, G' k → w0.heap.size ≤ k) ∧ Below w0.heap.size w0 W' ∧ (Row W' xa 88 C ∧ ¬ G' xa ∧ w0.heap.size ≤ xa) ∧ (Row W' pa 89 [V 0, V 1, V 2] ∧ ¬ G' pa ∧ w0.heap.size ≤ pa) ∧
      (∀ k, k < 3 → W'.ownsRow w0.heap.size 58 5 (V k) (Q k).length (flatV (Q k)) ∧ ∀ q, (V k).ownBlock = some q → ¬ G' q) ∧ ∀ k, lo ≤ k → k < m → k ≠ i → Wok w0 W' G' p F' (X k) (T k) := by
  have z := h.bel.size
  -- a row of a type that no writer has is none of what turns
  have hrow : ∀ {k : Nat} {t : TypeId} {cs : List Value}, Row W k t cs → ¬ G k → t ≠ 130 → t ≠ 69 → t ≠ 136 → ¬ R k := fun {k t cs} hr hg t1 t2 t3 hk => by
    rcases hR k hk with h1 | ⟨h1, h2, h3⟩
    · exact hg h1
    · obtain ⟨ws, hm, _⟩ := (h.wok i h1 h2).mem
      rcases h3 with rfl | rfl | rfl
      · exact t3 (hr.typed hm.row)
      · exact t1 (hr.typed hm.buf)
      · exact t2 (hr.typed hm.words)
  have hnew : ∀ {k : Nat}, k < W.heap.size → ¬ G k → ¬ G' k := fun {k} hk hg hg' => (hG k hg').elim hg (Nat.not_le_of_lt hk)
  refine ⟨fun k hk => (hG k hk).elim (h.base k) fun h => by omega, h.bel.trans (hf.below z fun k hk => ?_), ⟨hf.row h.xrow.1 (hrow h.xrow.1 h.xrow.2.1 (by decide) (by decide) (by decide)), hnew h.xrow.1.lt h.xrow.2.1, h.xrow.2.2⟩, ⟨hf.row h.prow.1 (hrow h.prow.1 h.prow.2.1 (by decide) (by decide) (by decide)), hnew h.prow.1.lt h.prow.2.1, h.prow.2.2⟩, fun k hk => ?_, fun k h1 h2 hne => ?_⟩
  · rcases hR k hk with h1 | ⟨h1, h2, h3⟩
    · exact h.base k h1
    · have hw := (h.wok i h1 h2).new
      rcases h3 with rfl | rfl | rfl
      · exact hw.1
      · exact hw.2.1
      · exact hw.2.2
  · obtain ⟨ho, hog⟩ := h.own k hk
    refine ⟨ownsRow_same ho fun q hq => ?_, fun q hq => ?_⟩
    · obtain ⟨⟨cs, hr⟩, _, hlt⟩ := ownT_row ho hq
      exact hf.block q hlt (hrow hr (hog q hq) (by decide) (by decide) (by decide))
    · obtain ⟨_, _, hlt⟩ := ownT_row ho hq
      exact hnew hlt (hog q hq)
  · have hw := h.wok k h1 h2
    have hne2 : ∀ y, (y = X k ∨ y = (T k).b ∨ y = (T k).g) → ¬ G y → ¬ R y := fun y hy hg hr => by
      rcases hR y hr with h3 | ⟨h3, h4, h5⟩
      · exact hg h3
      · have ha := h.apart k i h1 h2 h3 h4 hne
        obtain ⟨ws, hm, _⟩ := hw.mem
        obtain ⟨ws', hm', _⟩ := (h.wok i h3 h4).mem
        rcases hy with rfl | rfl | rfl <;> rcases h5 with h5 | h5 | h5
        · exact ha.x h5
        · exact absurd (hm.row.typed (h5 ▸ hm'.buf)) (by decide)
        · exact absurd (hm.row.typed (h5 ▸ hm'.words)) (by decide)
        · exact absurd (hm.buf.typed (h5 ▸ hm'.row)) (by decide)
        · exact ha.b h5
        · exact absurd (hm.buf.typed (h5 ▸ hm'.words)) (by decide)
        · exact absurd (hm.words.typed (h5 ▸ hm'.row)) (by decide)
        · exact absurd (hm.words.typed (h5 ▸ hm'.buf)) (by decide)
        · exact ha.g h5
    refine hw.keep hf (hne2 _ (.inl rfl) hw.out.x) (hne2 _ (.inr (.inl rfl)) hw.out.b) (hne2 _ (.inr (.inr rfl)) hw.out.g) hG hs (fun z hz1 hz2 => ?_) (hst k h1 h2 hne)
    rcases hn z with ⟨h3, h4, h5, h6⟩ | h3
    · exact absurd ⟨h5, h6⟩ ((h.apart k i h1 h2 h3 h4 hne).ext z hz1 hz2)
    · exact h3
theorem Trio.below (h : Trio w0 p F n lo m len xa pa C X T V Q G W) (hb : Below W.heap.size W W') : Trio w0 p F n lo m len xa pa C X T V Q G W' := by
  obtain ⟨k1, k2, k3, k4, k5, k6⟩ := h.keep (F' := F) (G' := G) (Far.of_below hb fun _ => False) m (fun _ hf => hf.elim) (fun k hk => .inl hk) rfl (fun _ => .inr rfl) fun k h1 h2 _ => by have := (h.wok k h1 h2).st; exact this
  exact ⟨h.sys.below hb, k1, k2, h.calm, h.size, h.blocks, h.room, h.used, k3, k4, k5, h.own2, fun k h1 h2 => k6 k h1 h2 (by omega), h.num, h.apart⟩
/-- Write: one writer more -/
theorem trio_write (h : Trio w0 p F n 0 m len xa pa C X T V Q G W) (hm : m < 3) (hl : len ≤ 300) (hfr : ∀ b, m * blocksN 2 len ≤ b → b < 900 → hasB F.S.fr b) :
    Calls Try.prog 34 #[.pointer (some ⟨p.w, 0, none⟩), .int .i64 (3 : Nat), .int .i64 len] W fun e w' => ∃ x t F' G', e = .returned (.tuple #[.pointer (some ⟨x, 0, none⟩), .int .i64 0]) ∧ t.l = [] ∧ (∀ b, (m + 1) * blocksN 2 len ≤ b → b < 900 → hasB F'.S.fr b) ∧
      Trio w0 p F' n 0 (m + 1) len xa pa C (fun k => if k = m then x else X k) (fun k => if k = m then t else T k) V Q G' w' := by
  have hnb : blocksN 2 len ≤ 150 := blocks_least (by omega) (by omega)
  have hmn : m * blocksN 2 len ≤ 300 := by
    have := Nat.mul_le_mul (show m ≤ 2 by omega) hnb
    omega
  have hmn1 : (m + 1) * blocksN 2 len = m * blocksN 2 len + blocksN 2 len := by rw [Nat.add_mul, Nat.one_mul]
  have hh2 : holdsI F.D.size ((3 : Nat) : Int) = 2 := by rw [h.size]; rfl
  refine (wok_write h.sys ((3 : Nat) : Int) (len : Int) h.bel).mono ?_
  rintro e w' (⟨er, he, hwe, _⟩ | ⟨x, t, S1, G1, he, hwa, hrm, htk, htb, hth, htl, htt, hq, k1, k2, k3, k4, k5, k6, k7⟩)
  · exfalso
    rcases hwe with ⟨_, h1⟩ | ⟨_, _, h1⟩ | ⟨_, _, _, h1, h2⟩
    · exact h1 ⟨by rw [hh2]; decide, by omega, by omega⟩
    · rw [h.room, h.used, h.size] at h1; omega
    · rw [hh2, Int.toNat_natCast] at h2
      exact h2 (m * blocksN 2 len) fun b hb1 hb2 => hfr b hb1 (by omega)
  · have e1 : t.h = 2 := hth.trans hh2
    have e2 : t.bound = len := by omega
    have e3 : t.blocks = blocksN 2 len := by rw [k2.ok.blocks.1, e1, e2]
    have hle : t.blocks = 0 ∨ (t.first ≤ m * blocksN 2 len ∧ Took F.S S1 t.first t.blocks) := by
      rcases htt with ⟨h1, _⟩ | ⟨_, h1, h2⟩
      · exact .inl h1
      · exact .inr ⟨h2 _ fun b hb1 hb2 => hfr b hb1 (by omega), h1⟩
    have hS : ∀ b, hasB S1.fr b → hasB F.S.fr b := fun b hb => by
      rcases htt with ⟨_, _, rfl⟩ | ⟨_, h1, _⟩
      · exact hb
      · exact ((h1.has b).1 hb).1
    obtain ⟨q1, q2, q3, q4, q5, q6⟩ := h.keep (F' := { F with S := S1, A := grant F.A t.b F.D.size }) k3 m (fun k hk => .inl hk) k4 rfl (fun _ => .inr rfl) fun k h1 h2 _ => wordsAt_append _ _ _ _ _ (h.wok k h1 h2).st
    refine ⟨x, t, _, G1, he, htl, fun b hb1 hb2 => ?_, k1, q1, q2, h.calm, h.size, h.blocks, h.room, ?_, q3, q4, q5, h.own2, fun k h1 h2 => ?_, fun k h1 h2 => ?_, fun j k h1 h2 h3 h4 hne => ?_⟩
    · show hasB S1.fr b
      rcases htt with ⟨h1, _, rfl⟩ | ⟨h0, h1, h2⟩
      · exact hfr b (by omega) hb2
      · rw [h1.has]
        exact ⟨hfr b (by omega) hb2, fun h3 => by
          have := h2 _ (fun b hb1 hb2 => hfr b hb1 (by omega) : roomB F.S (m * blocksN 2 len) t.blocks)
          omega⟩
    · show F.A.used + F.D.size = (m + 1 - 0) * 9
      rw [h.used, h.size]; omega
    · by_cases hk : k = m
      · subst hk; rw [if_pos rfl, if_pos rfl]; exact k2
      · rw [if_neg hk, if_neg hk]; exact q6 k h1 (by omega) hk
    · simp only
      by_cases hk : k = m
      · subst hk; rw [if_pos rfl]
        refine ⟨by omega, e1, e2, ?_, fun b hb1 hb2 => ?_⟩
        · rcases hle with h3 | ⟨h3, _⟩
          · have hf := k2.ok.first
            rcases htt with ⟨_, h4, _⟩ | ⟨h4, _⟩
            · omega
            · omega
          · omega
        · rcases hle with h3 | ⟨_, h3⟩
          · omega
          · exact fun hb => ((h3.has b).1 hb).2 ⟨hb1, hb2⟩
      · rw [if_neg hk]
        obtain ⟨n1, n2, n3, n4, n5⟩ := h.num k h1 (by omega)
        exact ⟨n1, n2, n3, n4, fun b hb1 hb2 hb => n5 b hb1 hb2 (hS b hb)⟩
    · have hnewap : ∀ k, 0 ≤ k → k < m → Wap x t (X k) (T k) := fun k h5 h6 => by
        obtain ⟨l1, l2, l3⟩ := (h.wok k h5 h6).lt
        refine ⟨by omega, by omega, by omega, fun b hb1 hb2 hb3 => ?_⟩
        rcases hle with h7 | ⟨_, h7⟩
        · omega
        · exact (h.num k h5 h6).2.2.2.2 b hb3.1 hb3.2 (h7.room b hb1 hb2)
      by_cases hj : j = m
      · subst hj
        rw [if_pos rfl, if_pos rfl, if_neg (fun e => hne e.symm), if_neg (fun e => hne e.symm)]
        exact hnewap k h3 (by omega)
      · rw [if_neg hj, if_neg hj]
        by_cases hk : k = m
        · subst hk
          rw [if_pos rfl, if_pos rfl]
          exact (hnewap j h1 (by omega)).symm
        · rw [if_neg hk, if_neg hk]
          exact h.apart j k h1 (by omega) h3 (by omega) hne
/-- the law's own blocks turn -/
theorem Trio.rows (h : Trio w0 p F n lo m len xa pa C X T V Q G W) {R : Nat → Prop} (hf : Far R W W') (hR : ∀ k, R k → k = xa ∨ k = pa ∨ ∃ i, i < 3 ∧ (V i).ownBlock = some k) {C' : List Value} {V' : Nat → Value} {Q' : Nat → List Tup} (hx : Row W' xa 88 C') (hp : Row W' pa 89 [V' 0, V' 1, V' 2])
    (hown : ∀ k, k < 3 → W'.ownsRow w0.heap.size 58 5 (V' k) (Q' k).length (flatV (Q' k)) ∧ ∀ q, (V' k).ownBlock = some q → ¬ G q) (hown2 : ∀ j k, j < 3 → k < 3 → j ≠ k → ∀ q, (V' j).ownBlock = some q → (V' k).ownBlock ≠ some q) : Trio w0 p F n lo m len xa pa C' X T V' Q' G W' := by
  have z := h.bel.size
  have hRG : ∀ k, R k → ¬ G k ∧ w0.heap.size ≤ k ∧ (∀ v, ¬ Row W k 130 v) ∧ (∀ v, ¬ Row W k 69 v) ∧ ∀ v, ¬ Row W k 136 v := fun k hk => by
    rcases hR k hk with rfl | rfl | ⟨i, hi, hq⟩
    · exact ⟨h.xrow.2.1, h.xrow.2.2, fun v hv => absurd (hv.typed h.xrow.1) (by decide), fun v hv => absurd (hv.typed h.xrow.1) (by decide), fun v hv => absurd (hv.typed h.xrow.1) (by decide)⟩
    · exact ⟨h.prow.2.1, h.prow.2.2, fun v hv => absurd (hv.typed h.prow.1) (by decide), fun v hv => absurd (hv.typed h.prow.1) (by decide), fun v hv => absurd (hv.typed h.prow.1) (by decide)⟩
    · obtain ⟨ho, hog⟩ := h.own i hi
      obtain ⟨⟨cs, hr⟩, hb, _⟩ := ownT_row ho hq
      exact ⟨hog k hq, hb, fun v hv => absurd (hv.typed hr) (by decide), fun v hv => absurd (hv.typed hr) (by decide), fun v hv => absurd (hv.typed hr) (by decide)⟩
  refine ⟨h.sys.touch hf fun k hk => ⟨(hRG k hk).1, fun v hv => (hRG k hk).2.2.1 _ hv⟩, h.base, h.bel.trans (hf.below z fun k hk => (hRG k hk).2.1), h.calm, h.size, h.blocks, h.room, h.used, ⟨hx, h.xrow.2⟩, ⟨hp, h.prow.2⟩, hown, hown2, fun k h1 h2 => ?_, h.num, h.apart⟩
  have hw := h.wok k h1 h2
  obtain ⟨ws, hm, _⟩ := hw.mem
  exact hw.keep hf (fun hk => (hRG _ hk).2.2.2.2 _ hm.row) (fun hk => (hRG _ hk).2.2.1 _ hm.buf) (fun hk => (hRG _ hk).2.2.2.1 _ hm.words) (fun k hk => .inl hk) rfl (fun _ _ _ => rfl) hw.st
theorem Trio.setx (h : Trio w0 p F n lo m len xa pa C X T V Q G W) (j : Nat) (v : Value) : Trio w0 p F n lo m len xa pa (C.set j v) X T V Q G (W.setCell ⟨xa, j, none⟩ v) := by
  have hf : Far (fun k => k = xa) W (W.setCell ⟨xa, j, none⟩ v) := (Far.refl (fun k => k = xa) W).set (p := ⟨xa, j, none⟩) (.inl rfl) v
  refine h.rows hf (fun k hk => .inl hk) (h.xrow.1.set j v) (hf.row h.prow.1 fun e => absurd (h.prow.1.typed (e ▸ h.xrow.1)) (by decide)) (fun k hk => ?_) h.own2
  obtain ⟨ho, hog⟩ := h.own k hk
  refine ⟨ownsRow_same ho fun q hq => ?_, hog⟩
  obtain ⟨⟨cs, hr⟩, _, hlt⟩ := ownT_row ho hq
  exact hf.block q hlt fun e => absurd (hr.typed (e ▸ h.xrow.1)) (by decide)
/-- Put at the writer i -/
theorem trio_put (h : Trio w0 p F n lo m len xa pa C X T V Q G W) (hn : n < 1000000) {i : Nat} (h1 : lo ≤ i) (h2 : i < m) {tu : Tup} (hto : TupOk tu) (hft : fitsT 3 tu = true) (hless : (T i).l.length < len) :
    Calls Try.prog 36 #[.pointer (some ⟨X i, 0, none⟩), .agg #[.int .i64 tu.a, .int .i64 tu.b, .int .i64 tu.c, .int .i64 tu.d, .int .i64 tu.e]] W fun e w' => e = .returned (.int .i64 0) ∧ ∃ F' G', Trio w0 p F' (n + 1) lo m len xa pa C X (fun k => if k = i then (T i).snoc tu else T k) V Q G' w' := by
  obtain ⟨e1, e2, e3, e4, e5⟩ := h.num i h1 h2
  refine (wok_put h.sys hn (h.wok i h1 h2) h.calm (by rw [h.blocks]; omega) hto (by rw [e1]; exact hft) (by rw [e3]; exact hless)).mono ?_
  rintro e w' ⟨he, G', D', k1, k2, k3, k4, c1, c2, c3, c4⟩
  obtain ⟨q1, q2, q3, q4, q5, q6⟩ := h.keep (F' := { F with D := D' }) k3 i (fun k hk => by
    rcases hk with hk | hk | hk
    · exact .inl hk
    · exact .inr ⟨h1, h2, .inl hk⟩
    · exact .inr ⟨h1, h2, .inr (.inr hk)⟩) k4 c2 (fun z => by
      by_cases hz : (T i).first ≤ z ∧ z < (T i).first + (T i).blocks
      · exact .inl ⟨h1, h2, hz⟩
      · exact .inr (c4 z hz)) fun k h3 h4 _ => (h.wok k h3 h4).st
  refine ⟨he, { F with D := D' }, G', k1, q1, q2, c1, c2.trans h.size, c3.trans h.blocks, h.room, h.used, q3, q4, q5, h.own2, fun k h3 h4 => ?_, fun k h3 h4 => ?_, fun j k h3 h4 h5 h6 hne => ?_⟩
  · by_cases hk : k = i
    · subst hk; rw [if_pos rfl]; exact k2
    · rw [if_neg hk]; exact q6 k h3 h4 hk
  · by_cases hk : k = i
    · subst hk; simp only [if_true]; exact ⟨e1, e2, e3, e4, e5⟩
    · simp only [if_neg hk]; exact h.num k h3 h4
  · have hap := h.apart j k h3 h4 h5 h6 hne
    by_cases hj : j = i <;> by_cases hk : k = i
    · exact absurd (hj.trans hk.symm) hne
    · subst hj; rw [if_pos rfl, if_neg hk]; exact ⟨hap.x, hap.b, hap.g, hap.ext⟩
    · subst hk; rw [if_neg hj, if_pos rfl]; exact ⟨hap.x, hap.b, hap.g, hap.ext⟩
    · rw [if_neg hj, if_neg hk]; exact hap
theorem giveN_has {S : Sp} (h : S.ok) (f m b : Nat) (hb : hasB (giveN S f m).fr b) : hasB S.fr b ∨ (f ≤ b ∧ b < f + m) := by
  unfold giveN at hb
  split at hb
  · exact .inl hb
  · rcases giveS_spec h (f : Int) (m : Int) with ⟨s', a', m', e1, e2, h3, e3, hg⟩ | ⟨e3, _⟩
    · rw [e3] at hb
      rcases (hg.has b).1 hb with h4 | h4
      · exact .inl h4
      · exact .inr (by omega)
    · rw [e3] at hb; exact .inl hb
/-- Close of the first writer -/
theorem trio_close (h : Trio w0 p F n lo m len xa pa C X T V Q G W) (hn : n < 1000000) (h2 : lo < m) :
    Calls Try.prog 35 #[.pointer (some ⟨X lo, 0, none⟩)] W fun e w' => e = .returned (.tuple #[.agg #[.int .i64 (firstOf (T lo)), .int .i64 (blocksN 2 (T lo).l.length), .int .i64 (3 : Nat), .int .i64 (T lo).l.length], .int .i64 0]) ∧ ∃ F' G', StandsTo F'.D (firstOf (T lo)) 3 2 (T lo).l (blocksN 2 (T lo).l.length) ∧ Trio w0 p F' (n + 1) (lo + 1) m len xa pa C X T V Q G' w' := by
  obtain ⟨e1, e2, e3, e4, e5⟩ := h.num lo (Nat.le_refl _) h2
  refine (wok_close h.sys hn (h.wok lo (Nat.le_refl _) h2) h.calm (by rw [h.blocks]; omega)).mono ?_
  rintro e w' ⟨he, G', D', k1, k2, k3, k4, ⟨c1, c2, c3, c4⟩, hst⟩
  rw [e1, e2] at hst
  rw [e1, e2] at he
  have hz9 : D'.size = 9 := c2.trans h.size
  obtain ⟨q1, q2, q3, q4, q5, q6⟩ := h.keep (F' := endF { F with D := D' } (T lo) (blocksN (T lo).h (T lo).l.length)) k3 lo (fun k hk => by
    rcases hk with hk | hk | hk | hk
    · exact .inl hk
    · exact .inr ⟨Nat.le_refl _, h2, .inl hk⟩
    · exact .inr ⟨Nat.le_refl _, h2, .inr (.inr hk)⟩
    · exact .inr ⟨Nat.le_refl _, h2, .inr (.inl hk)⟩) k4 c2 (fun z => by
      by_cases hz : (T lo).first ≤ z ∧ z < (T lo).first + (T lo).blocks
      · exact .inl ⟨Nat.le_refl _, h2, hz⟩
      · exact .inr (c4 z hz)) fun k h3 h4 hne => by
        exact wordsAt_without _ _ _ _ (h.wok k h3 h4).st (h.apart k lo h3 h4 (Nat.le_refl _) h2 hne).b
  refine ⟨he, _, G', hst, k1, q1, q2, c1, hz9, c3.trans h.blocks, h.room, ?_, q3, q4, q5, h.own2, fun k h3 h4 => q6 k (by omega) h4 (by omega), fun k h3 h4 => ?_, fun j k h3 h4 h5 h6 => h.apart j k (by omega) h4 (by omega) h6⟩
  · show F.A.used - D'.size = (m - (lo + 1)) * 9
    rw [h.used, hz9]
    have : m - lo = (m - (lo + 1)) + 1 := by omega
    rw [this, Nat.add_mul]; omega
  · obtain ⟨n1, n2, n3, n4, n5⟩ := h.num k (by omega) h4
    refine ⟨n1, n2, n3, n4, fun b hb1 hb2 hb => ?_⟩
    rcases giveN_has h.sys.sok _ _ _ hb with h7 | h7
    · exact n5 b hb1 hb2 h7
    · have h8 : blocksN (T lo).h (T lo).l.length ≤ (T lo).blocks := by
        rw [(h.wok lo (Nat.le_refl _) h2).ok.blocks.1]
        exact blocks_mono (h.wok lo (Nat.le_refl _) h2).ok.h.1 (h.wok lo (Nat.le_refl _) h2).ok.bound.2
      exact (h.apart k lo (by omega) h4 (Nat.le_refl _) h2 (by omega)).ext b hb1 hb2 ⟨by omega, by omega⟩
/-- List of a file that stands -/
theorem trio_list (h : Trio w0 p F n lo m len xa pa C X T V Q G W) (first : Nat) (l : List Tup) (hl : l.length ≤ 300) (hn : n + l.length + 1 ≤ 1000000) (hfi : first ≤ 2000000) (hfb : first + blocksN 2 l.length ≤ 900) (hst : StandsTo F.D first 3 2 l (blocksN 2 l.length)) (hall : ∀ u ∈ l, TupOk u ∧ fitsT 3 u = true) (hm : m ≤ 3) :
    Calls Try.prog 19 #[.pointer (some ⟨p.w, 0, none⟩), .agg #[.int .i64 first, .int .i64 (blocksN 2 l.length), .int .i64 (3 : Nat), .int .i64 l.length]] W fun e w' => ∃ A c, e = .returned (.tuple #[.slice A l.length c, .int .i64 0]) ∧ ReadsT w' w'.heap.size A l.length l ∧ ∃ F' G', Trio w0 p F' (n + l.length + 1) lo m len xa pa C X T V Q G' w' := by
  refine (flist_ok h.sys 3 2 first (blocksN 2 l.length) l (by omega) (by rw [h.size]; rfl) (by omega) rfl (by omega) hfi hn hst hall (by rw [h.size, h.room, h.used]; omega)).mono ?_
  rintro e w' (⟨A, c, b, D', he, hr, _, e1, e2, e3, hs⟩ | ⟨er, b, m', D1, i, he, hne, e1, e2, e3, e4, e5, hs⟩)
  · obtain ⟨G', k1, k2, k3⟩ := hs
    obtain ⟨q1, q2, q3, q4, q5, q6⟩ := h.keep (F' := LayE F F.S b D') k2 m (fun k hk => .inl hk) k3 e1.size (fun z => .inr (e2 z)) fun k h1 h2 _ => by
      rw [layE_same _ _ _ _ e3]; exact (h.wok k h1 h2).st
    exact ⟨A, c, he, hr, _, G', k1, q1, q2, e1.calm h.calm, e1.size.trans h.size, e1.blocks.trans h.blocks, h.room, (layE_used _ _ _ _).trans h.used, q3, q4, q5, h.own2, fun k h1 h2 => q6 k h1 h2 (by omega), h.num, h.apart⟩
  · exfalso
    have hc : Calm D1 := e1.calm h.calm
    rw [e2, read_ok hc (e3 (by rw [h.blocks]; omega))] at hne
    exact hne rfl
/-- a tuple is put behind the list i, and the array of lists told -/
theorem Trio.push (h : Trio w0 p F n lo m len xa pa C X T V Q G W) {i : Nat} (hi : i < 3) {t : Tup} {v' : Value} (ho : W'.ownsRow w0.heap.size 58 5 v' ((Q i).length + 1) (flatV (Q i ++ [t]))) (hf : Far (fun k => (V i).ownBlock = some k) W W') (hv : v'.ownBlock = (V i).ownBlock ∨ v'.ownBlock = some W.heap.size) :
    Trio w0 p F n lo m len xa pa C X T (fun k => if k = i then v' else V k) (fun k => if k = i then Q i ++ [t] else Q k) G (W'.setCell ⟨pa, i, none⟩ v') := by
  have hfp : Far (fun k => k = pa) W' (W'.setCell ⟨pa, i, none⟩ v') := (Far.refl (fun k => k = pa) W').set (p := ⟨pa, i, none⟩) (.inl rfl) v'
  have hty : ∀ {k : Nat} {t : TypeId} {cs : List Value}, Row W k t cs → t ≠ 58 → (V i).ownBlock ≠ some k := fun {k t cs} hr ht hq => by
    obtain ⟨⟨cs', hr'⟩, _⟩ := ownT_row (h.own i hi).1 hq
    exact ht (hr.typed hr')
  have hp' : Row W' pa 89 [V 0, V 1, V 2] := hf.row h.prow.1 (hty h.prow.1 (by decide))
  have hx' : Row W' xa 88 C := hf.row h.xrow.1 (hty h.xrow.1 (by decide))
  have hfar : Far (fun k => k = pa ∨ (V i).ownBlock = some k) W (W'.setCell ⟨pa, i, none⟩ v') := (hf.mono fun k hk => .inr hk).trans hfp fun k hk => .inl (.inl hk)
  have hnew : ∀ q, v'.ownBlock = some q → ((V i).ownBlock = some q ∨ q = W.heap.size) := fun q hq => by
    rcases hv with h1 | h1
    · exact .inl (h1 ▸ hq)
    · rw [h1] at hq; injection hq with hq; exact .inr hq.symm
  have hlt : ∀ k q, k < 3 → (V k).ownBlock = some q → q < W.heap.size := fun k q hk hq => (ownT_row (h.own k hk).1 hq).2.2
  refine h.rows hfar (fun k hk => hk.elim (fun e => .inr (.inl e)) fun e => .inr (.inr ⟨i, hi, e⟩)) (hfp.row hx' fun e => absurd (hx'.typed (e ▸ hp')) (by decide)) ?_ (fun k hk => ?_) fun j k hj hk hne q hq hq' => ?_
  · have hr := hp'.set i v'
    match i, hi with
    | 0, _ => exact hr
    | 1, _ => exact hr
    | 2, _ => exact hr
  · by_cases hki : k = i
    · subst hki
      simp only [if_true]
      refine ⟨?_, fun q hq => ?_⟩
      · rw [List.length_append, List.length_singleton]
        refine ownsRow_same ho fun q hq => hfp.block q (ownT_row ho hq).2.2 fun e => ?_
        obtain ⟨⟨cs', hr'⟩, _⟩ := ownT_row ho hq
        exact absurd (hr'.typed (e ▸ hp')) (by decide)
      · rcases hnew q hq with h1 | h1
        · exact (h.own k hk).2 q h1
        · rw [h1]; exact fun hg => Nat.lt_irrefl _ (h.sys.lt hg)
    · simp only [if_neg hki]
      obtain ⟨ho', hog⟩ := h.own k hk
      refine ⟨ownsRow_same ho' fun q hq => hfar.block q (hlt k q hk hq) ?_, hog⟩
      rintro (e | e)
      · obtain ⟨⟨cs', hr'⟩, _⟩ := ownT_row ho' hq
        exact absurd (hr'.typed (e ▸ h.prow.1)) (by decide)
      · exact h.own2 k i hk hi hki q hq e
  · by_cases hji : j = i
    · subst hji
      simp only [if_true] at hq
      simp only [if_neg (fun e : k = j => hne e.symm)] at hq'
      rcases hnew q hq with h1 | h1
      · exact h.own2 j k hj hk hne q h1 hq'
      · have := hlt k q hk hq'; omega
    · simp only [if_neg hji] at hq
      by_cases hki : k = i
      · subst hki
        simp only [if_true] at hq'
        rcases hnew q hq' with h1 | h1
        · exact h.own2 j k hj hk hne q hq h1
        · have := hlt j q hj hq; omega
      · simp only [if_neg hki] at hq'
        exact h.own2 j k hj hk hne q hq hq'
end
end Go.Proofs.Ytbkgpilmgllkiaa
