/- A law's work, beside rows of its own: kept from call to call. -/
import Derived.Test.YtbkgpilmgllkiaaFileWork
import Derived.Test.YtbkgpilmgllkiaaFileRef
import Derived.Test.YtbkgpilmgllkiaaFileOpen
namespace Go.Proofs.Ytbkgpilmgllkiaa
open Go.ChangeShapes Go.WideShapes Go.ChangeAt Go.RowKit

/-- the work is as F says; of what was there at w0 nothing has turned; the rows rs are the law's own -/
def Base (w0 : World) (p : Wp) (F : Fs) (n : Nat) (rs : List (Nat × TypeId × List Value)) (W : World) : Prop :=
  ∃ G, Sys W G p F n ∧ (∀ k, G k → w0.heap.size ≤ k) ∧ Below w0.heap.size w0 W ∧ ∀ r ∈ rs, Row W r.1 r.2.1 r.2.2 ∧ ¬ G r.1 ∧ r.2.1 ≠ 130
section
variable {w0 W : World} {p : Wp} {F : Fs} {n : Nat} {rs : List (Nat × TypeId × List Value)}
theorem Base.size (h : Base w0 p F n rs W) : w0.heap.size ≤ W.heap.size := by obtain ⟨G, _, _, h, _⟩ := h; exact h.size
theorem Base.bel (h : Base w0 p F n rs W) : Below w0.heap.size w0 W := by obtain ⟨G, _, _, h, _⟩ := h; exact h
theorem Base.sok (h : Base w0 p F n rs W) : F.S.ok := by obtain ⟨G, h, _⟩ := h; exact h.sok
theorem Base.dsize (h : Base w0 p F n rs W) : 8 ≤ F.D.size ∧ F.D.size ≤ 256 := by obtain ⟨G, h, _⟩ := h; exact h.size
theorem Base.below (h : Base w0 p F n rs W) {W' : World} (hb : Below W.heap.size W W') : Base w0 p F n rs W' := by
  obtain ⟨G, h1, h2, h3, h4⟩ := h
  exact ⟨G, h1.below hb, h2, h3.trans (hb.mono h3.size), fun r hr => ⟨(h4 r hr).1.below hb (h4 r hr).1.lt, (h4 r hr).2⟩⟩
theorem Base.row (h : Base w0 p F n rs W) {r : Nat × TypeId × List Value} (hr : r ∈ rs) : Row W r.1 r.2.1 r.2.2 := by obtain ⟨G, _, _, _, h4⟩ := h; exact (h4 r hr).1
theorem Base.to (h : Base w0 p F n rs W) {W' : World} {F' : Fs} {n' : Nat} (hs : ∀ G, Sys W G p F n → (∀ k, G k → w0.heap.size ≤ k) → SysTo W G p F' n' W') : Base w0 p F' n' rs W' := by
  obtain ⟨G, h1, h2, h3, h4⟩ := h
  obtain ⟨G', k1, k2, k3, k4⟩ := (hs G h1 h2).apart
  have z := h3.size
  exact ⟨G', k1, fun k hk => (k3 k hk).elim (h2 k) fun h => by omega, h3.trans (k2.below z fun k hk => h2 k hk), fun r hr => ⟨k2.row (h4 r hr).1 (h4 r hr).2.1, k4 _ (h4 r hr).1.lt (h4 r hr).2.1, (h4 r hr).2.2⟩⟩
/-- a call that makes of the work what its contract says -/
theorem Base.call (h : Base w0 p F n rs W) {f : FuncId} {args : Array Value} {A : Ending → Prop} {F' : Fs} {n' : Nat} (hc : ∀ G, Sys W G p F n → (∀ k, G k → w0.heap.size ≤ k) → Calls Try.prog f args W fun e w' => A e ∧ SysTo W G p F' n' w') :
    Calls Try.prog f args W fun e w' => A e ∧ Base w0 p F' n' rs w' := by
  obtain ⟨G, h1, h2, h3, h4⟩ := id h
  refine (hc G h1 h2).mono ?_
  rintro e w' ⟨ha, k⟩
  refine ⟨ha, ?_⟩
  obtain ⟨G', k1, k2, k3, k4⟩ := k.apart
  have z := h3.size
  exact ⟨G', k1, fun k hk => (k3 k hk).elim (h2 k) fun h => by omega, h3.trans (k2.below z fun k hk => h2 k hk), fun r hr => ⟨k2.row (h4 r hr).1 (h4 r hr).2.1, k4 _ (h4 r hr).1.lt (h4 r hr).2.1, (h4 r hr).2.2⟩⟩
/-- one row more -/
theorem Base.alloc (h : Base w0 p F n rs W) (t : TypeId) (ht : t ≠ 130) (cs : Array Value) : Base w0 p F n ((W.heap.size, t, cs.toList) :: rs) (W.alloc (.cells cs t)) := by
  have hb : Below W.heap.size W (W.alloc (.cells cs t)) := (Below.refl _ _).alloc (Nat.le_refl _) _
  obtain ⟨G, h1, h2, h3, h4⟩ := h
  refine ⟨G, h1.below hb, h2, h3.trans (hb.mono h3.size), fun r hr => ?_⟩
  rcases List.mem_cons.1 hr with rfl | hr
  · exact ⟨heap_alloc_new _ _, fun hg => Nat.lt_irrefl _ (h1.lt hg), ht⟩
  · exact ⟨(h4 r hr).1.below hb (h4 r hr).1.lt, (h4 r hr).2⟩
theorem base_space (h : Base w0 p F n rs W) : Calls Try.prog 14 #[.pointer (some ⟨p.w, 0, none⟩)] W fun e w' => e = .returned (.pointer (some ⟨p.s, 0, none⟩)) ∧ Base w0 p F n rs w' := by
  obtain ⟨G, h1, _⟩ := id h
  exact (wspc_any h1.row).mono fun e w' ⟨he, hw⟩ => ⟨he, by rw [hw]; exact h⟩
theorem base_arena (h : Base w0 p F n rs W) : Calls Try.prog 16 #[.pointer (some ⟨p.w, 0, none⟩)] W fun e w' => e = .returned (.pointer (some ⟨p.a, 0, none⟩)) ∧ Base w0 p F n rs w' := by
  obtain ⟨G, h1, _⟩ := id h
  exact (warn_any h1.row).mono fun e w' ⟨he, hw⟩ => ⟨he, by rw [hw]; exact h⟩
theorem base_device (h : Base w0 p F n rs W) : Calls Try.prog 25 #[.pointer (some ⟨p.w, 0, none⟩)] W fun e w' => e = .returned (.pointer (some ⟨p.d, 0, none⟩)) ∧ Base w0 p F n rs w' := by
  obtain ⟨G, h1, _⟩ := id h
  exact (wdev_any h1.row).mono fun e w' ⟨he, hw⟩ => ⟨he, by rw [hw]; exact h⟩
theorem base_free (h : Base w0 p F n rs W) : Calls Try.prog 15 #[.pointer (some ⟨p.s, 0, none⟩)] W fun e w' => e = .returned (.int .i64 (sumB F.S.fr : Nat)) ∧ Base w0 p F n rs w' := by
  obtain ⟨G, h1, _⟩ := id h
  obtain ⟨Gs, hs, _⟩ := h1.spc
  exact (free_any p.s F.S Gs W hs).mono fun e w' ⟨he, hb⟩ => ⟨he, h.below hb⟩
theorem base_used (h : Base w0 p F n rs W) : Calls Try.prog 17 #[.pointer (some ⟨p.a, 0, none⟩)] W fun e w' => e = .returned (.int .i64 (F.A.used : Int)) ∧ Base w0 p F n rs w' := by
  obtain ⟨G, h1, _⟩ := id h
  exact h1.used_any.mono fun e w' ⟨he, hw⟩ => ⟨he, by rw [hw]; exact h⟩
theorem base_peak (h : Base w0 p F n rs W) : Calls Try.prog 21 #[.pointer (some ⟨p.a, 0, none⟩)] W fun e w' => e = .returned (.int .i64 (F.A.peak : Int)) ∧ Base w0 p F n rs w' := by
  obtain ⟨G, h1, _⟩ := id h
  exact h1.peak_any.mono fun e w' ⟨he, hw⟩ => ⟨he, by rw [hw]; exact h⟩
theorem base_ffree (h : Base w0 p F n rs W) (f m k c : Nat) (hf : f ≤ 100000000) (hm : m ≤ 100000000) : Calls Try.prog 22 #[.pointer (some ⟨p.w, 0, none⟩), .agg #[.int .i64 f, .int .i64 m, .int .i64 k, .int .i64 c]] W fun e w' => e = .returned (.int .i64 (if m = 0 then 0 else (giveS F.S f m).2 : Nat)) ∧ Base w0 p { F with S := giveN F.S f m } n rs w' :=
  h.call fun _ hs _ => ffree_any hs f m k c hf hm
theorem base_acts (h : Base w0 p F n rs W) : Calls Try.prog 27 #[.pointer (some ⟨p.d, 0, none⟩)] W fun e w' => e = .returned (.int .i64 F.D.acts) ∧ Base w0 p F n rs w' := by
  obtain ⟨G, h1, _⟩ := id h
  obtain ⟨Gd, hd, _⟩ := h1.dev
  obtain ⟨bl, bf, v, nl, hr, _⟩ := hd.2
  exact (acts_any p.d F.D bl bf v W hr).mono fun e w' ⟨he, hw⟩ => ⟨he, by rw [hw]; exact h⟩
theorem base_holds (h : Base w0 p F n rs W) (width : Int) : Calls Try.prog 30 #[.pointer (some ⟨p.w, 0, none⟩), .int .i64 width] W fun e w' => e = .returned (.int .i64 (holdsI F.D.size width : Nat)) ∧ Base w0 p F n rs w' := by
  obtain ⟨G, h1, _⟩ := id h
  exact (hol_any h1 width).mono fun e w' ⟨he, hw⟩ => ⟨he, by rw [hw]; exact h⟩
theorem base_fault (h : Base w0 p F n rs W) (m : Nat) (hm : m ≤ 1000000) : Calls Try.prog 26 #[.pointer (some ⟨p.d, 0, none⟩), .int .i64 m] W fun e w' => e = .returned (.tuple #[]) ∧ Base w0 p { F with D := { F.D with tb := true, tn := m } } n rs w' := by
  refine h.call fun G hs _ => ?_
  obtain ⟨Gd, hd, hback⟩ := hs.dev
  refine (setFault_any p.d F.D n Gd m W hd (by omega) (by omega)).mono ?_
  exact fun e w' ⟨he, h1, h2⟩ => ⟨he, hback _ _ _ ⟨Gd, h1, h2.mono fun k hk => by rw [hk]; exact hd.mine, fun k hk => .inl hk⟩⟩
theorem Base.from_ {G : Nat → Prop} {W' : World} {F' : Fs} {n' : Nat} (_h1 : Sys W G p F n) (h2 : ∀ k, G k → w0.heap.size ≤ k) (h3 : Below w0.heap.size w0 W) (h4 : ∀ r ∈ rs, Row W r.1 r.2.1 r.2.2 ∧ ¬ G r.1 ∧ r.2.1 ≠ 130) (hs : SysTo W G p F' n' W') : Base w0 p F' n' rs W' := by
  obtain ⟨G', k1, k2, k3, k4⟩ := hs.apart
  have z := h3.size
  exact ⟨G', k1, fun k hk => (k3 k hk).elim (h2 k) fun h => by omega, h3.trans (k2.below z fun k hk => h2 k hk), fun r hr => ⟨k2.row (h4 r hr).1 (h4 r hr).2.1, k4 _ (h4 r hr).1.lt (h4 r hr).2.1, (h4 r hr).2.2⟩⟩
/-- Lay, of a list that came in -/
def LayB (w0 : World) (p : Wp) (F : Fs) (n : Nat) (rs : List (Nat × TypeId × List Value)) (width : Int) (l : List Tup) (e : Ending) (w' : World) : Prop :=
  (∃ er, e = .returned (.tuple #[fileV 0 0 0 0, .int .i64 er]) ∧ WErr F width (l.length : Int) er ∧ Base w0 p F n rs w') ∨
  (∃ (t : Wt) (S1 : Sp), (WArgs F width (l.length : Int) ∧ F.D.size ≤ F.A.room - F.A.used ∧ (t.k : Int) = width ∧ t.h = holdsI F.D.size width ∧ t.blocks = blocksN t.h l.length ∧ Taken F.S S1 t.first t.blocks ∧ t.first ≤ 2000000 ∧ ∀ q ∈ F.A.st, q.1 ≠ t.b) ∧
    ((e = .returned (.tuple #[fileV 0 0 0 0, .int .i64 1]) ∧ (∃ u ∈ l, fitsT t.k u = false) ∧ ∃ D' m, Wrote F.D D' m ∧ Base w0 p (LayE F F.S t.b D') (n + l.length + 1) rs w') ∨
     (∃ (er : Int) (D1 : St) (m : Nat) (i : Int) (ws : List Nat), e = .returned (.tuple #[fileV 0 0 0 0, .int .i64 er]) ∧ er ≠ 0 ∧ Wrote F.D D1 m ∧ er = (write D1 i ws).1 ∧ (((t.first + t.blocks : Nat) : Int) ≤ F.D.blocks → right D1 i = true) ∧ ws.length = D1.size ∧ Base w0 p (LayE F F.S t.b (write D1 i ws).2) (n + l.length + 1) rs w') ∨
     (e = .returned (.tuple #[fileV t.first t.blocks t.k l.length, .int .i64 0]) ∧ (∀ u ∈ l, fitsT t.k u = true) ∧ ∃ D', Wrote F.D D' t.blocks ∧ StandsTo D' t.first t.k t.h l t.blocks ∧ Base w0 p (LayE F S1 t.b D') (n + l.length + 1) rs w')))
theorem base_lay (h : Base w0 p F n rs W) (width : Int) {A : Option Addr} {m c : Nat} {l : List Tup} (hl : ReadsT w0 w0.heap.size A m l) (hn : n + l.length + 1 ≤ 1000000) : Calls Try.prog 11 #[.pointer (some ⟨p.w, 0, none⟩), .int .i64 width, .slice A m c] W (LayB w0 p F n rs width l) := by
  obtain ⟨G, h1, h2, h3, h4⟩ := h
  refine (flay_any h1 width ((hl.keep h3).mono h3.size) (fun hm b off e hg => ?_) hn).mono ?_
  · obtain ⟨b', off', e', hb, _⟩ := hl.2.2 hm
    rw [e'] at e; injection e with e; injection e with e _
    subst e
    have := h2 _ hg; omega
  · rintro e w' (⟨er, he, hw, hs⟩ | ⟨t, S1, ht, ⟨er, he, rfl, hu, D', m', hD, hs⟩ | ⟨er, he, hne, D1, m', i, ws, e1, e2, e3, e4, hs⟩ | ⟨he, hall, D', e1, e2, hs⟩⟩)
    · exact .inl ⟨er, he, hw, Base.from_ h1 h2 h3 h4 hs⟩
    · exact .inr ⟨t, S1, ht, .inl ⟨he, hu, D', m', hD, Base.from_ h1 h2 h3 h4 hs⟩⟩
    · exact .inr ⟨t, S1, ht, .inr (.inl ⟨er, D1, m', i, ws, he, hne, e1, e2, e3, e4, Base.from_ h1 h2 h3 h4 hs⟩)⟩
    · exact .inr ⟨t, S1, ht, .inr (.inr ⟨he, hall, D', e1, e2, Base.from_ h1 h2 h3 h4 hs⟩)⟩
/-- List, of a file that stands -/
def ListB (w0 : World) (p : Wp) (F : Fs) (n : Nat) (rs : List (Nat × TypeId × List Value)) (first nb : Nat) (l : List Tup) (e : Ending) (w' : World) : Prop :=
  (∃ (A : Option Addr) (c b : Nat) (D' : St), e = .returned (.tuple #[.slice A l.length c, .int .i64 0]) ∧ ReadsT w' w'.heap.size A l.length l ∧ Wrote F.D D' nb ∧ (∀ i, D'.now i = F.D.now i) ∧ (∀ q ∈ F.A.st, q.1 ≠ b) ∧ Base w0 p (LayE F F.S b D') (n + l.length + 1) rs w') ∨
  (∃ (er : Int) (b m : Nat) (D1 : St) (i : Int), e = .returned (.tuple #[.slice none 0 0, .int .i64 er]) ∧ er ≠ 0 ∧ Wrote F.D D1 m ∧ er = (read D1 i).1 ∧ (((first + nb : Nat) : Int) ≤ F.D.blocks → right D1 i = true) ∧ (∀ q ∈ F.A.st, q.1 ≠ b) ∧ Base w0 p (LayE F F.S b (read D1 i).2) (n + l.length + 1) rs w')
theorem base_list (h : Base w0 p F n rs W) (k hh first nb : Nat) (l : List Tup) (hk : 0 < k ∧ k ≤ 5) (hhe : hh = holdsI F.D.size k) (hh0 : 0 < hh) (hnb : nb = blocksN hh l.length) (hcount : l.length ≤ 100000) (hfirst : first ≤ 2000000) (hn : n + l.length + 1 ≤ 1000000)
    (hst : StandsTo F.D first k hh l nb) (hall : ∀ u ∈ l, TupOk u ∧ fitsT k u = true) (hroom : F.D.size ≤ F.A.room - F.A.used) :
    Calls Try.prog 19 #[.pointer (some ⟨p.w, 0, none⟩), .agg #[.int .i64 first, .int .i64 nb, .int .i64 k, .int .i64 l.length]] W (ListB w0 p F n rs first nb l) := by
  obtain ⟨G, h1, h2, h3, h4⟩ := h
  refine (flist_ok h1 k hh first nb l hk hhe hh0 hnb hcount hfirst hn hst hall hroom).mono ?_
  rintro e w' (⟨A, c, b, D', he, hr, _, e1, e2, e3, hs⟩ | ⟨er, b, m, D1, i, he, hne, e1, e2, e3, e4, e5, hs⟩)
  · exact .inl ⟨A, c, b, D', he, hr, e1, e2, e3, Base.from_ h1 h2 h3 h4 hs⟩
  · exact .inr ⟨er, b, m, D1, i, he, hne, e1, e2, e3, e4, Base.from_ h1 h2 h3 h4 hs⟩
end
/-- what was taken is given with no error -/
theorem give_code {S S' : Sp} {a m : Nat} (hm : 0 < m) (h : S.ok) (ht : Took S S' a m) : (giveS S' a m).2 = 0 := by
  have hr := h.2.2
  have h1 := hr.has (ht.room a (Nat.le_refl _) (by omega))
  have h2 := hr.has (ht.room (a + m - 1) (by omega) (by omega))
  rcases giveS_spec ht.ok (a : Int) (m : Int) with ⟨s', a', m', e1, e2, h3, e3, hg⟩ | ⟨e3, hno⟩
  · rw [e3]
  · refine absurd ?_ (hno a m rfl rfl (by omega))
    rw [ht.first, ht.blocks]
    exact ⟨h1.1, by omega, fun b hb1 hb2 hh => ((ht.has b).1 hh).2 ⟨hb1, hb2⟩⟩
theorem taken_code {S S1 : Sp} {a m : Nat} (h : S.ok) (ht : Taken S S1 a m) : (if m = 0 then 0 else (giveS S1 a m).2) = 0 := by
  rcases ht with ⟨rfl, _, _⟩ | ⟨hm, ht, _⟩
  · rw [if_pos rfl]
  · rw [if_neg (by omega)]; exact give_code hm h ht
theorem taken_sum {S S1 : Sp} {a m : Nat} (ht : Taken S S1 a m) : sumB S1.fr + m = sumB S.fr := by
  rcases ht with ⟨rfl, _, rfl⟩ | ⟨hm, ht, _⟩
  · rfl
  · exact ht.sum
theorem newsp_sum (n : Nat) : sumB (newSp 0 n).fr = n := by
  unfold newSp sumB
  simp only
  split <;> simp_all
theorem newsp_taken {n a m : Nat} {S1 : Sp} (ht : Taken (newSp 0 n) S1 a m) : a = 0 ∧ m ≤ n := by
  rcases ht with ⟨rfl, rfl, rfl⟩ | ⟨hm, ht, hl⟩
  · exact ⟨rfl, Nat.zero_le _⟩
  · have h1 : m ≤ n := by
      rcases Nat.lt_or_ge n m with h | h
      · exact absurd ht.room (newsp_none hm h)
      · exact h
    exact ⟨Nat.le_zero.1 (hl 0 (newsp_room h1)), h1⟩
theorem layE_used (F : Fs) (S' : Sp) (b : Nat) (D' : St) : (LayE F S' b D').A.used = F.A.used := by
  show F.A.used + F.D.size - F.D.size = F.A.used
  omega
theorem layE_room (F : Fs) (S' : Sp) (b : Nat) (D' : St) : (LayE F S' b D').A.room = F.A.room := rfl
theorem layE_peak (F : Fs) (S' : Sp) (b : Nat) (D' : St) : (LayE F S' b D').A.peak = if F.A.peak < F.A.used + F.D.size then F.A.used + F.D.size else F.A.peak := rfl
theorem layE_same (F : Fs) (S' : Sp) (b : Nat) (D' : St) (hb : ∀ q ∈ F.A.st, q.1 ≠ b) : (LayE F S' b D').A.st = F.A.st := by
  show without (F.A.st ++ [(b, F.D.size)]) b = F.A.st
  generalize F.A.st = l at hb
  induction l with
  | nil => simp [without]
  | cons q l ih =>
    have h1 := hb q List.mem_cons_self
    rw [List.cons_append]
    unfold without
    rw [if_neg h1]
    rw [ih fun q hq => hb q (List.mem_cons_of_mem _ hq)]
end Go.Proofs.Ytbkgpilmgllkiaa
