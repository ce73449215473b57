/- What Lay's steps make: a writer of a list that is put tuple by tuple, closed at its end, or dropped. -/
import Derived.Test.YtbkgpilmgllkiaaFileStand
namespace Go.Proofs.Ytbkgpilmgllkiaa
open Go.ChangeShapes Go.WideShapes Go.ChangeAt Go.RowKit

theorem wordsAt_new : ∀ (l : List (Nat × Nat)) (x n : Nat), (∀ q ∈ l, q.1 ≠ x) → wordsAt (l ++ [(x, n)]) x = some n
  | [], x, n, _ => by simp [wordsAt]
  | q :: l, x, n, h => by
    have h1 := h q List.mem_cons_self
    have h2 := wordsAt_new l x n fun q hq => h q (List.mem_cons_of_mem _ hq)
    simp [wordsAt, h1, h2]
theorem taken_give {S S1 : Sp} {a m : Nat} (h : S.ok) (ht : Taken S S1 a m) : giveN S1 a m = S := by
  rcases ht with ⟨rfl, rfl, rfl⟩ | ⟨hm, ht, _⟩
  · rfl
  · unfold giveN; rw [if_neg (by omega)]; exact give_take hm h ht
theorem giveN_zero (S : Sp) (a : Nat) : giveN S a 0 = S := rfl
theorem taken_in {S S1 : Sp} {a m : Nat} (h : S.ok) (ht : Taken S S1 a m) : a + m ≤ S.first + S.blocks ∨ (m = 0 ∧ a = 0) := by
  rcases ht with ⟨rfl, rfl, rfl⟩ | ⟨hm, ht, _⟩
  · exact .inr ⟨rfl, rfl⟩
  · exact .inl (took_le hm h ht).1
/-- the work while the writer stands, and behind it -/
def LayS (F : Fs) (S1 : Sp) (b : Nat) (D' : St) : Fs := ⟨D', grant F.A b F.D.size, S1⟩
def LayE (F : Fs) (S' : Sp) (b : Nat) (D' : St) : Fs := ⟨D', release (grant F.A b F.D.size) b F.D.size, S'⟩
theorem layE_st {F : Fs} {S' : Sp} {b : Nat} {D' : St} : ∀ q ∈ (LayE F S' b D').A.st, q ∈ F.A.st ∨ q.1 = b := by
  intro q hq
  have h1 : q ∈ F.A.st ++ [(b, F.D.size)] := without_mem _ _ _ hq
  rcases List.mem_append.1 h1 with h2 | h2
  · exact .inl h2
  · simp only [List.mem_singleton] at h2; subst h2; exact .inr rfl
def tk (t : Wt) (l : List Tup) (i : Nat) : Wt := { t with l := l.take i }
theorem tk_snoc {t : Wt} {l : List Tup} {i : Nat} {tu : Tup} (h : l[i]? = some tu) : (tk t l i).snoc tu = tk t l (i + 1) := by
  unfold tk Wt.snoc
  simp only
  rw [List.take_add_one, h]; rfl
theorem tk_len {t : Wt} {l : List Tup} {i : Nat} (h : i ≤ l.length) : (tk t l i).l.length = i := by unfold tk; simp; omega
/-- i tuples were put -/
def LayAt (w : World) (G : Nat → Prop) (p : Wp) (F : Fs) (n x : Nat) (t : Wt) (S1 : Sp) (l : List Tup) (i : Nat) (wr : World) : Prop :=
  ∃ G' D', Sys wr G' p (LayS F S1 t.b D') (n + i) ∧ WOpen wr x p (tk t l i) F.D.size ∧ WOut G' x (tk t l i) ∧ Far G w wr ∧ (∀ k, G' k → G k ∨ w.heap.size ≤ k) ∧ Wrote F.D D' (i / t.h) ∧ WStand D' (tk t l i) ∧ ∀ u ∈ l.take i, fitsT t.k u = true
/-- a block could not be written: all is given back -/
def LayDead (w : World) (G : Nat → Prop) (p : Wp) (F : Fs) (n : Nat) (t : Wt) (l : List Tup) (er : Int) (wr : World) : Prop :=
  er ≠ 0 ∧ ∃ D1 m i ws, Wrote F.D D1 m ∧ er = (write D1 i ws).1 ∧ (((t.first + t.blocks : Nat) : Int) ≤ F.D.blocks → right D1 i = true) ∧ ws.length = D1.size ∧ SysTo w G p (LayE F F.S t.b (write D1 i ws).2) (n + l.length + 1) wr
/-- a tuple did not fit -/
def LayUnfit (w : World) (G : Nat → Prop) (p : Wp) (F : Fs) (n : Nat) (t : Wt) (l : List Tup) (er : Int) (wr : World) : Prop :=
  er = 1 ∧ (∃ u ∈ l, fitsT t.k u = false) ∧ ∃ D' m, Wrote F.D D' m ∧ SysTo w G p (LayE F F.S t.b D') (n + l.length + 1) wr
/-- all is laid -/
def LayDone (w : World) (G : Nat → Prop) (p : Wp) (F : Fs) (n : Nat) (t : Wt) (S1 : Sp) (l : List Tup) (wr : World) : Prop :=
  (∀ u ∈ l, fitsT t.k u = true) ∧ ∃ D', Wrote F.D D' t.blocks ∧ StandsTo D' t.first t.k t.h l t.blocks ∧ SysTo w G p (LayE F S1 t.b D') (n + l.length + 1) wr
/-- what is known of the writer that Write has made for the list -/
structure LayOk (w : World) (F : Fs) (n x : Nat) (t : Wt) (S1 : Sp) (l : List Tup) : Prop where
  n : n + l.length + 1 ≤ 1000000
  sok : F.S.ok
  taken : Taken F.S S1 t.first t.blocks
  blocks : t.blocks = blocksN t.h l.length
  ok : WtOk t F.D.size
  bound : t.bound = l.length
  x : w.heap.size ≤ x
  b : w.heap.size ≤ t.b
  g : w.heap.size ≤ t.g
  st : ∀ q ∈ F.A.st, q.1 < w.heap.size
section
variable {w wr : World} {G : Nat → Prop} {p : Wp} {F : Fs} {n x : Nat} {t : Wt} {S1 : Sp} {l : List Tup} {i : Nat}
theorem LayOk.tk (hk : LayOk w F n x t S1 l) {i : Nat} (hi : i ≤ l.length) : WtOk (tk t l i) F.D.size := ⟨hk.ok.k, hk.ok.h, hk.ok.sz, ⟨hk.ok.bound.1, by rw [tk_len hi]; show i ≤ t.bound; rw [hk.bound]; exact hi⟩, hk.ok.blocks, hk.ok.first⟩
theorem LayOk.words (hk : LayOk w F n x t S1 l) (D' : St) : wordsAt (LayS F S1 t.b D').A.st t.b = some F.D.size :=
  wordsAt_new _ _ _ fun q hq e => by have := hk.st q hq; have := hk.b; omega
theorem LayOk.end0 (hk : LayOk w F n x t S1 l) {D' : St} (hs : D'.size = F.D.size) (i : Nat) : endF (LayS F S1 t.b D') (Go.Proofs.Ytbkgpilmgllkiaa.tk t l i) 0 = LayE F F.S t.b D' := by
  have h := taken_give hk.sok hk.taken
  unfold endF LayS LayE Go.Proofs.Ytbkgpilmgllkiaa.tk
  simp only [hs, Nat.add_zero, Nat.sub_zero, h]
theorem LayOk.endAll (hk : LayOk w F n x t S1 l) {D' : St} (hs : D'.size = F.D.size) (i : Nat) : endF (LayS F S1 t.b D') (Go.Proofs.Ytbkgpilmgllkiaa.tk t l i) (blocksN t.h l.length) = LayE F S1 t.b D' := by
  unfold endF LayS LayE Go.Proofs.Ytbkgpilmgllkiaa.tk
  simp only [hs, hk.blocks, Nat.sub_self, giveN_zero]
/-- an error of the last block -/
theorem lay_dead (hk : LayOk w F n x t S1 l) {D1 : St} {m j : Nat} (hD : Wrote F.D D1 m) (hj : j ≤ l.length) (hj0 : 0 < j) (he : (write D1 (lastAd (Go.Proofs.Ytbkgpilmgllkiaa.tk t l j) : Nat) (lastW8 D1.size (Go.Proofs.Ytbkgpilmgllkiaa.tk t l j))).1 ≠ 0)
    (hs : SysTo w G p (LayE F F.S t.b (write D1 (lastAd (Go.Proofs.Ytbkgpilmgllkiaa.tk t l j) : Nat) (lastW8 D1.size (Go.Proofs.Ytbkgpilmgllkiaa.tk t l j))).2) (n + l.length + 1) wr) :
    LayDead w G p F n t l (write D1 (lastAd (Go.Proofs.Ytbkgpilmgllkiaa.tk t l j) : Nat) (lastW8 D1.size (Go.Proofs.Ytbkgpilmgllkiaa.tk t l j))).1 wr := by
  have hok := hk.tk hj
  rw [← hD.size] at hok
  exact ⟨he, D1, m, _, _, hD, rfl, fun hin => last_right hok (by rw [tk_len hj]; exact hj0) (by rw [hD.blocks]; exact hin), last_len hok (by rw [tk_len hj]; exact hj0), hs⟩
theorem lay_put (hk : LayOk w F n x t S1 l) (h : LayAt w G p F n x t S1 l i wr) (hi : i < l.length) {tu : Tup} (htu : l[i]? = some tu) {W : World} (hb : Below wr.heap.size wr W) :
    Calls Try.prog 36 #[.pointer (some ⟨x, 0, none⟩), .agg #[.int .i64 tu.a, .int .i64 tu.b, .int .i64 tu.c, .int .i64 tu.d, .int .i64 tu.e]] W fun e w' => ∃ er : Int, e = .returned (.int .i64 er) ∧
      ((er = 1 ∧ (∃ u ∈ l, fitsT t.k u = false) ∧ LayAt w G p F n x t S1 l i w') ∨ (er = 0 ∧ LayAt w G p F n x t S1 l (i + 1) w') ∨ (LayDead w G p F n t l er w' ∧ ∃ l', WShut w' x p { t with l := l' })) := by
  obtain ⟨G', D', h1, ⟨ws, h2, h2h⟩, h3, h4, h5, h6, h7, h8⟩ := h
  have hok := hk.tk (show i ≤ l.length by omega)
  have hlen := tk_len (t := t) (show i ≤ l.length by omega)
  have s1 := h1.below hb
  have m1 := h2.below hb
  have hds : (LayS F S1 t.b D').D.size = F.D.size := h6.size
  have hn := hk.n
  rw [← hds] at hok m1
  have hmem : tu ∈ l := List.mem_of_getElem? htu
  rcases hf : fitsT t.k tu with _ | _
  · refine (wput_unfit s1 hok m1 tu hf).mono ?_
    rintro e w' ⟨rfl, hb'⟩
    have m2 := m1.below hb'
    rw [hds] at m2
    refine ⟨1, rfl, .inl ⟨rfl, ⟨tu, hmem, hf⟩, G', D', s1.below hb', ⟨ws, m2, h2h⟩, h3, ?_, h5, h6, h7, h8⟩⟩
    exact (h4.trans (Far.of_below hb fun _ => False) fun _ hf => hf.elim).trans (Far.of_below hb' fun _ => False) fun _ hf => hf.elim
  · refine (wput_go s1 hok m1 (by omega) ⟨h3.x, h3.b, h3.g⟩ (by rw [hds]; exact hk.words D') h2h tu hf (by rw [hlen]; show i < t.bound; rw [hk.bound]; exact hi)).mono ?_
    intro e w' hput
    have hW : Far G w W := h4.trans (Far.of_below hb fun _ => False) fun _ hf => hf.elim
    have hfar : ∀ w', Far (fun k => G' k ∨ k = x ∨ k = t.g ∨ k = t.b) W w' → Far G w w' := fun w' hf => hW.trans hf fun k hk' => by
      rcases hk' with hk' | rfl | rfl | rfl
      · exact h5 k hk'
      · exact .inr hk.x
      · exact .inr hk.g
      · exact .inr hk.b
    have hall : ∀ u ∈ l.take (i + 1), fitsT t.k u = true := by
      intro u hu
      rw [List.take_add_one, htu] at hu
      rcases List.mem_append.1 hu with hu | hu
      · exact h8 u hu
      · simp at hu; subst hu; exact hf
    have hlt : x < W.heap.size ∧ t.b < W.heap.size ∧ t.g < W.heap.size := m1.lt
    have ho2 : ∀ G'' : Nat → Prop, (∀ k, G'' k → G' k ∨ W.heap.size ≤ k) → WOut G'' x (Go.Proofs.Ytbkgpilmgllkiaa.tk t l (i + 1)) := fun G'' hs =>
      ⟨fun hg => (hs _ hg).elim h3.x (Nat.not_le_of_lt hlt.1), fun hg => (hs _ hg).elim h3.b (Nat.not_le_of_lt hlt.2.1), fun hg => (hs _ hg).elim h3.g (Nat.not_le_of_lt hlt.2.2)⟩
    have hsub : ∀ G'' : Nat → Prop, (∀ k, G'' k → G' k ∨ W.heap.size ≤ k) → ∀ k, G'' k → G k ∨ w.heap.size ≤ k := fun G'' hs k hg => (hs k hg).elim (fun h => h5 k h) fun h => .inr (Nat.le_trans hW.size h)
    rcases hput with ⟨hno, _⟩ | ⟨_, hfull, _⟩ | ⟨_, hless, ⟨hm, rfl, G'', k1, k2, k3, k4⟩ | ⟨hm, hw0, rfl, G'', k1, k2, k3, k4⟩ | ⟨hm, hw0, rfl, G'', k1, k2, k3, k4⟩⟩
    · rw [show fitsT (Go.Proofs.Ytbkgpilmgllkiaa.tk t l i).k tu = fitsT t.k tu from rfl, hf] at hno; cases hno
    · rw [hlen] at hfull; have : i = t.bound := hfull; rw [hk.bound] at this; omega
    · rw [hlen] at hm
      rw [tk_snoc htu] at k2
      rw [hds] at k2
      have hws := wstand_buf (tu := tu) hok.h.1 h7 (by rw [hlen]; exact hm)
      rw [tk_snoc htu] at hws
      refine ⟨0, rfl, .inr (.inl ⟨rfl, G'', D', k1.mono (by omega) (by omega), k2, ho2 _ k4, hfar w' (k3.mono fun k hk => ?_), hsub _ k4, ?_, hws, hall⟩)⟩
      · rcases hk with h | h | h
        · exact .inl h
        · exact .inr (.inl h)
        · exact .inr (.inr (.inl h))
      · rw [div_succ_ne (show 0 < t.h from hok.h.1) (show (i + 1) % t.h ≠ 0 from hm)]; exact h6
    · rw [hlen] at hm
      rw [tk_snoc htu] at k2 hw0 k1
      rw [hds] at k2 hw0 k1
      have e1 : D'.size = F.D.size := h6.size
      have hws := wstand_put (tu := tu) (D := D') hok.h.1 h7 (by rw [hlen]; exact hm) (by rw [tk_snoc htu, e1]; exact hw0)
      rw [tk_snoc htu, e1] at hws
      have hwr : Wrote D' (write D' (lastAd (Go.Proofs.Ytbkgpilmgllkiaa.tk t l (i + 1)) : Nat) (lastW8 F.D.size (Go.Proofs.Ytbkgpilmgllkiaa.tk t l (i + 1)))).2 1 := wrote_write hw0
      refine ⟨0, rfl, .inr (.inl ⟨rfl, G'', (write D' (lastAd (Go.Proofs.Ytbkgpilmgllkiaa.tk t l (i + 1)) : Nat) (lastW8 F.D.size (Go.Proofs.Ytbkgpilmgllkiaa.tk t l (i + 1)))).2, k1, ?_, ho2 _ k4, hfar w' (k3.mono fun k hk => ?_), hsub _ k4, ?_, hws, hall⟩)⟩
      · have e2 : (write D' (lastAd (Go.Proofs.Ytbkgpilmgllkiaa.tk t l (i + 1)) : Nat) (lastW8 F.D.size (Go.Proofs.Ytbkgpilmgllkiaa.tk t l (i + 1)))).2.size = F.D.size := hwr.size.trans e1
        rw [← e2]; exact k2
      · rcases hk with h | h | h
        · exact .inl h
        · exact .inr (.inl h)
        · exact .inr (.inr (.inl h))
      · rw [div_succ_eq (show 0 < t.h from hok.h.1) (show (i + 1) % t.h = 0 from hm)]; exact h6.trans hwr
    · rw [hlen] at hm
      rw [tk_snoc htu] at k2 hw0 k1 ⊢
      have e1 : D'.size = F.D.size := h6.size
      have hk1 : Sys w' G'' p (LayE F F.S t.b (write D' (lastAd (Go.Proofs.Ytbkgpilmgllkiaa.tk t l (i + 1)) : Nat) (lastW8 D'.size (Go.Proofs.Ytbkgpilmgllkiaa.tk t l (i + 1)))).2) (n + i + 1) := by
        have e3 := hk.end0 (D' := (write D' (lastAd (Go.Proofs.Ytbkgpilmgllkiaa.tk t l (i + 1)) : Nat) (lastW8 D'.size (Go.Proofs.Ytbkgpilmgllkiaa.tk t l (i + 1)))).2) ((write_size2 _ _ _).1.trans e1) (i + 1)
        rw [← e3]; exact k1
      refine ⟨_, rfl, .inr (.inr ⟨lay_dead hk h6 (show i + 1 ≤ l.length by omega) (by omega) hw0 ⟨G'', hk1.mono (by omega) (by omega), hfar w' (k3.mono fun k hk => ?_), hsub _ k4⟩, l.take (i + 1), k2⟩)⟩
      exact hk
/-- the writer is dropped; the result lies in a block R of Lay's own -/
theorem lay_drop (u : FrameMode) {w1 : World} (hk : LayOk w F n x t S1 l) (h : LayAt w G p F n x t S1 l i wr) (hi : i ≤ l.length) (hb0 : Below w1.heap.size w1 w) (hG : ∀ k, G k → k < w1.heap.size) {R : Nat} (hR1 : w1.heap.size ≤ R) (hR2 : R < w.heap.size) {cs : List Value} (hRr : Row wr R 30 cs) {W : World} (hf : Far (fun k => k = R) wr W) {cs' : List Value} (hRW : Row W R 30 cs') :
    CallsD Try.prog 32 #[.pointer (some ⟨x, 0, none⟩)] u W fun e u' w' => u' = u ∧ (e = .returned (.tuple #[]) ∧ Row w' R 30 cs' ∧ ∃ D' m, Wrote F.D D' m ∧ SysTo w1 G p (LayE F F.S t.b D') (n + l.length + 1) w') := by
  obtain ⟨G', D', h1, ⟨ws, h2, h2h⟩, h3, h4, h5, h6, h7, h8⟩ := h
  have hxR : x ≠ R := by have := hk.x; omega
  have hbR : t.b ≠ R := by have := hk.b; omega
  have hgR : t.g ≠ R := by have := hk.g; omega
  have hRG : ¬ G' R := fun hg => (h5 R hg).elim (fun h => by have := hG R h; omega) fun h => by omega
  have s1 : Sys W G' p (LayS F S1 t.b D') (n + i) := h1.touch hf fun k hk' => by
    subst hk'
    exact ⟨hRG, fun v hv => absurd (hv.typed hRr) (by decide)⟩
  have m1 : WMem W x p (Go.Proofs.Ytbkgpilmgllkiaa.tk t l i) F.D.size ws := h2.far hf hxR hbR hgR
  have hds : (LayS F S1 t.b D').D.size = F.D.size := h6.size
  have hn := hk.n
  have hok := hk.tk hi
  have hsz := hok.sz
  have hst : wordsAt (LayS F S1 t.b D').A.st (Go.Proofs.Ytbkgpilmgllkiaa.tk t l i).b = some (LayS F S1 t.b D').D.size := by rw [hds]; exact hk.words D'
  refine (wdrop_def u s1 m1.row m1.buf (by omega) h3.x hst m1.apart.1 hok.first hok.blocks.2).mono ?_
  rintro e u' w' ⟨rfl, rfl, G'', k1, k2, k3, k4⟩
  refine ⟨rfl, rfl, k2.row hRW (by rintro (hg | hg); exact hRG hg; exact hbR hg.symm), D', _, h6, G'', ?_, ?_, ?_⟩
  · rw [hk.end0 (D' := D') hds] at k1
    exact k1.mono (by omega) (by omega)
  · refine ((((Far.of_below hb0 G).trans h4 fun b hb => .inl hb).trans hf fun b hb => .inr (by omega))).trans k2 ?_
    rintro k (hk' | rfl)
    · exact (h5 k hk').imp_right fun h => Nat.le_trans hb0.size h
    · exact .inr (Nat.le_trans hb0.size hk.b)
  · intro k hk'
    rcases k3 k hk' with h | h
    · exact (h5 k h).imp_right fun h => Nat.le_trans hb0.size h
    · exact .inr (Nat.le_trans (Nat.le_trans (Nat.le_trans hb0.size h4.size) hf.size) h)
/-- the writer is closed -/
theorem lay_close (hk : LayOk w F n x t S1 l) (h : LayAt w G p F n x t S1 l l.length wr) :
    Calls Try.prog 35 #[.pointer (some ⟨x, 0, none⟩)] wr fun e w' => ∃ (er : Int) (f1 f2 f3 f4 : Nat), e = .returned (.tuple #[fileV f1 f2 f3 f4, .int .i64 er]) ∧ (∃ l', WShut w' x p { t with l := l' }) ∧
      ((er = 0 ∧ (f1 = t.first ∧ f2 = t.blocks ∧ f3 = t.k ∧ f4 = l.length) ∧ LayDone w G p F n t S1 l w') ∨ ((f1 = 0 ∧ f2 = 0 ∧ f3 = 0 ∧ f4 = 0) ∧ LayDead w G p F n t l er w')) := by
  obtain ⟨G', D', h1, h2, h3, h4, h5, h6, h7, h8⟩ := h
  have hok := hk.tk (Nat.le_refl l.length)
  have hlen := tk_len (t := t) (Nat.le_refl l.length)
  have hll : (Go.Proofs.Ytbkgpilmgllkiaa.tk t l l.length).l = l := List.take_length
  have hds : (LayS F S1 t.b D').D.size = F.D.size := h6.size
  have hn := hk.n
  have hst : wordsAt (LayS F S1 t.b D').A.st (Go.Proofs.Ytbkgpilmgllkiaa.tk t l l.length).b = some (LayS F S1 t.b D').D.size := by rw [hds]; exact hk.words D'
  have hfst : firstOf (Go.Proofs.Ytbkgpilmgllkiaa.tk t l l.length) = t.first := by
    unfold firstOf
    rw [hlen]
    by_cases h0 : l.length = 0
    · rw [if_pos h0]
      rcases hk.taken with ⟨_, ha, _⟩ | ⟨hm, _⟩
      · exact ha.symm
      · rw [hk.blocks, h0, blocks_zero] at hm; omega
    · rw [if_neg h0]; rfl
  have hall : ∀ u ∈ l, fitsT t.k u = true := fun u hu => h8 u (by rw [List.take_length]; exact hu)
  have hfar : ∀ w', Far (fun k => G' k ∨ k = x ∨ k = t.g ∨ k = t.b) wr w' → Far G w w' := fun w' hf => h4.trans hf fun k hk' => by
    rcases hk' with hk' | rfl | rfl | rfl
    · exact h5 k hk'
    · exact .inr hk.x
    · exact .inr hk.g
    · exact .inr hk.b
  have hsub : ∀ G'' : Nat → Prop, (∀ k, G'' k → G' k ∨ wr.heap.size ≤ k) → ∀ k, G'' k → G k ∨ w.heap.size ≤ k := fun G'' hs k hg => (hs k hg).elim (fun h => h5 k h) fun h => .inr (Nat.le_trans h4.size h)
  rw [← hds] at hok h2
  refine (wclose_any h1 (by omega) hok h2 ⟨h3.x, h3.b, h3.g⟩ hst).mono ?_
  intro e w' hcl
  have e1 : D'.size = F.D.size := h6.size
  rcases hcl with ⟨hm, rfl, G'', k1, k2, k3, k4⟩ | ⟨hm, hw0, rfl, G'', k1, k2, k3, k4⟩ | ⟨hm, hw0, rfl, G'', k1, k2, k3, k4⟩
  · refine ⟨0, _, _, _, _, rfl, ⟨_, k2⟩, .inl ⟨rfl, ⟨hfst, ?_, rfl, hlen⟩, hall, D', ?_, ?_, G'', ?_, hfar w' k3, hsub _ k4⟩⟩
    · rw [hlen, hk.blocks]; rfl
    · rw [hlen] at hm
      have : t.blocks = l.length / t.h := by rw [hk.blocks]; exact blocks_full hm
      rw [this]; exact h6
    · have := wstand_full h7 hm
      rw [hlen] at this
      rw [hk.blocks]
      rw [hll] at this
      exact this
    · have e3 := hk.endAll (D' := D') hds l.length
      rw [← e3]
      have e4 : blocksN (Go.Proofs.Ytbkgpilmgllkiaa.tk t l l.length).h (Go.Proofs.Ytbkgpilmgllkiaa.tk t l l.length).l.length = blocksN t.h l.length := by rw [hlen]; rfl
      rw [← e4]
      exact k1.mono (by omega) (by omega)
  · have hwr := wrote_write hw0
    have e2 : (LayS F S1 t.b D').D = D' := rfl
    rw [e2] at hw0 hwr k1
    refine ⟨0, _, _, _, _, rfl, ⟨_, k2⟩, .inl ⟨rfl, ⟨hfst, ?_, rfl, hlen⟩, hall, (write D' (lastAd (Go.Proofs.Ytbkgpilmgllkiaa.tk t l l.length) : Nat) (lastW8 D'.size (Go.Proofs.Ytbkgpilmgllkiaa.tk t l l.length))).2, ?_, ?_, G'', ?_, hfar w' k3, hsub _ k4⟩⟩
    · rw [hlen, hk.blocks]; rfl
    · rw [hlen] at hm
      have hm' : l.length % t.h ≠ 0 := hm
      have : t.blocks = l.length / t.h + 1 := by rw [hk.blocks]; unfold blocksN; rw [if_pos (by omega)]
      rw [this]; exact h6.trans hwr
    · have := wstand_close hok.h.1 h7 hm hw0
      rw [hlen, hll] at this
      rw [hk.blocks]
      exact this
    · have e3 := hk.endAll (D' := (write D' (lastAd (Go.Proofs.Ytbkgpilmgllkiaa.tk t l l.length) : Nat) (lastW8 D'.size (Go.Proofs.Ytbkgpilmgllkiaa.tk t l l.length))).2) (hwr.size.trans e1) l.length
      rw [← e3]
      have e4 : blocksN (Go.Proofs.Ytbkgpilmgllkiaa.tk t l l.length).h (Go.Proofs.Ytbkgpilmgllkiaa.tk t l l.length).l.length = blocksN t.h l.length := by rw [hlen]; rfl
      rw [← e4]
      exact k1.mono (by omega) (by omega)
  · have e2 : (LayS F S1 t.b D').D = D' := rfl
    rw [e2] at hw0 k1 ⊢
    have hl0 : 0 < l.length := by
      rcases Nat.eq_zero_or_pos l.length with h0 | h0
      · rw [hlen, h0] at hm; simp at hm
      · exact h0
    refine ⟨_, 0, 0, 0, 0, rfl, ⟨_, k2⟩, .inr ⟨⟨rfl, rfl, rfl, rfl⟩, lay_dead hk h6 (Nat.le_refl _) hl0 hw0 ⟨G'', ?_, hfar w' k3, hsub _ k4⟩⟩⟩
    have e3 := hk.end0 (D' := (write D' (lastAd (Go.Proofs.Ytbkgpilmgllkiaa.tk t l l.length) : Nat) (lastW8 D'.size (Go.Proofs.Ytbkgpilmgllkiaa.tk t l l.length))).2) ((write_size2 _ _ _).1.trans e1) l.length
    rw [← e3]
    exact k1.mono (by omega) (by omega)
end
end Go.Proofs.Ytbkgpilmgllkiaa
