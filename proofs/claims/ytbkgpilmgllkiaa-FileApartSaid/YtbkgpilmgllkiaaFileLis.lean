/- What List's steps make: a reader of a file that stands, told tuple by tuple into a list of List's own. -/
import Derived.Test.YtbkgpilmgllkiaaFileLay
namespace Go.Proofs.Ytbkgpilmgllkiaa
open Go.ChangeShapes Go.WideShapes Go.ChangeAt Go.RowKit

theorem ownT_row {w : World} {base n : Nat} {v : Value} {l : List Tup} (h : w.ownsRow base 58 5 v n (flatV l)) {k : Nat} (hk : v.ownBlock = some k) : (∃ cs, Row w k 58 cs) ∧ base ≤ k ∧ k < w.heap.size := by
  obtain ⟨_, h2⟩ := h
  rcases h2 with ⟨rfl, _⟩ | ⟨g, cap, cur, rfl, hg, hh, _⟩
  · cases hk
  · injection hk with hk
    subst hk
    exact ⟨⟨cur.toList, hh⟩, hg, lt_of_some hh⟩
def tr (r : Rt) (i : Nat) : Rt := { r with pos := i }
/-- pos tuples were told, cnt of them are in the list v -/
def LisAt (w : World) (G : Nat → Prop) (p : Wp) (F : Fs) (n x : Nat) (r : Rt) (l : List Tup) (base pos cnt : Nat) (v : Value) (wr : World) : Prop :=
  ∃ G' D' ws, Sys wr G' p (LayS F F.S r.b D') (n + pos) ∧ RMem wr x p (tr r pos) F.D.size ws ∧ ROut G' x (tr r pos) ∧ Far G w wr ∧ (∀ k, G' k → G k ∨ w.heap.size ≤ k) ∧ Wrote F.D D' (blocksN r.h pos) ∧ (∀ i, D'.now i = F.D.now i) ∧ RHold D' (tr r pos) l ws ∧
    wr.ownsRow base 58 5 v cnt (flatV (l.take cnt)) ∧ (∀ k, v.ownBlock = some k → ¬ G' k) ∧ base ≤ wr.heap.size
def LisDead (w : World) (G : Nat → Prop) (p : Wp) (F : Fs) (n : Nat) (r : Rt) (er : Int) (wr : World) : Prop :=
  er ≠ 0 ∧ ∃ D1 m i, Wrote F.D D1 m ∧ er = (read D1 i).1 ∧ (((r.first + r.blocks : Nat) : Int) ≤ F.D.blocks → right D1 i = true) ∧ (∀ j, (read D1 i).2.now j = F.D.now j) ∧ SysTo w G p (LayE F F.S r.b (read D1 i).2) (n + r.count + 1) wr
structure LisOk (w : World) (F : Fs) (n x : Nat) (r : Rt) (l : List Tup) (base : Nat) : Prop where
  n : n + r.count + 1 ≤ 1000000
  ok : RtOk { r with pos := 0 } F.D.size
  blocks : r.blocks = blocksN r.h r.count
  hx : w.heap.size ≤ x
  hb : w.heap.size ≤ r.b
  hg : w.heap.size ≤ r.g
  st : ∀ q ∈ F.A.st, q.1 < w.heap.size
  hbase : x < base ∧ r.b < base ∧ r.g < base
section
variable {w wr : World} {G : Nat → Prop} {p : Wp} {F : Fs} {n x : Nat} {r : Rt} {l : List Tup} {base pos cnt : Nat} {v : Value}
theorem LisOk.at_ (hk : LisOk w F n x r l base) (hp : pos ≤ r.count) : RtOk (tr r pos) F.D.size := ⟨hk.ok.k, hk.ok.h, hk.ok.sz, ⟨hk.ok.count.1, hp⟩, hk.ok.first⟩
theorem LisOk.words (hk : LisOk w F n x r l base) (D' : St) : wordsAt (LayS F F.S r.b D').A.st r.b = some F.D.size :=
  wordsAt_new _ _ _ fun q hq e => by have := hk.st q hq; have := hk.hb; omega
theorem LisAt.below (h : LisAt w G p F n x r l base pos cnt v wr) {W : World} (hb : Below wr.heap.size wr W) : LisAt w G p F n x r l base pos cnt v W := by
  obtain ⟨G', D', ws, h1, h2, h3, h4, h5, h6, h7, h8, h9, h10, h11⟩ := h
  exact ⟨G', D', ws, h1.below hb, h2.below hb, h3, h4.trans (Far.of_below hb fun _ => False) fun _ hf => hf.elim, h5, h6, h7, h8, ownT_keep h9 hb, h10, Nat.le_trans h11 hb.size⟩
theorem blocks_next {h i : Nat} (hh : 0 < h) : blocksN h (i + 1) = if i % h = 0 then blocksN h i + 1 else blocksN h i := by
  have h1 := (blocks_succ (c := i) hh).2.2
  have h2 := blocks_pos (c := i + 1) hh (by omega)
  by_cases h0 : i % h = 0
  · rw [if_pos h0, blocks_full h0]; omega
  · rw [if_neg h0]
    unfold blocksN at h1 h2 ⊢
    rw [if_pos (show 0 < i % h by omega)]
    omega
/-- one more tuple is told -/
theorem lis_next (hk : LisOk w F n x r l base) (h : LisAt w G p F n x r l base pos pos v wr) (hp : pos < r.count) :
    Calls Try.prog 31 #[.pointer (some ⟨x, 0, none⟩)] wr fun e w' => (∃ t : Tup, e = .returned (.tuple #[.agg #[.int .i64 t.a, .int .i64 t.b, .int .i64 t.c, .int .i64 t.d, .int .i64 t.e], .bool true, .int .i64 0]) ∧ l[pos]? = some t ∧ LisAt w G p F n x r l base (pos + 1) pos v w') ∨
      (∃ er : Int, e = .returned (.tuple #[.agg #[.int .i64 0, .int .i64 0, .int .i64 0, .int .i64 0, .int .i64 0], .bool false, .int .i64 er]) ∧ LisDead w G p F n r er w' ∧ RShut w' x p (tr r pos)) := by
  obtain ⟨G', D', ws, h1, h2, h3, h4, h5, h6, h7, h8, h9, h10, h11⟩ := h
  have hok := hk.at_ (pos := pos) (by omega)
  have hds : (LayS F F.S r.b D').D.size = F.D.size := h6.size
  have hn := hk.n
  rw [← hds] at hok h2
  have hhp : 0 < r.h := hk.ok.h.1
  have hcnt : l.length = r.count := h8.cnt
  have hown : ∀ k, v.ownBlock = some k → (∃ cs, Row wr k 58 cs) ∧ base ≤ k ∧ k < wr.heap.size := fun k hv => ownT_row h9 hv
  have hlt := h2.lt
  have hout : ∀ G'' : Nat → Prop, (∀ k, G'' k → G' k ∨ wr.heap.size ≤ k) → ROut G'' x (tr r (pos + 1)) := fun G'' hs =>
    ⟨fun hg => (hs _ hg).elim h3.x (Nat.not_le_of_lt hlt.1), fun hg => (hs _ hg).elim h3.b (Nat.not_le_of_lt hlt.2.1), fun hg => (hs _ hg).elim h3.g (Nat.not_le_of_lt hlt.2.2)⟩
  have hsub : ∀ G'' : Nat → Prop, (∀ k, G'' k → G' k ∨ wr.heap.size ≤ k) → ∀ k, G'' k → G k ∨ w.heap.size ≤ k := fun G'' hs k hg => (hs k hg).elim (fun h => h5 k h) fun h => .inr (Nat.le_trans h4.size h)
  by_cases hrd : (tr r pos).pos % (tr r pos).h ≠ 0 ∨ (read (LayS F F.S r.b D').D (((tr r pos).first + (tr r pos).pos / (tr r pos).h : Nat) : Int)).1 = 0
  · obtain ⟨t, ht⟩ : ∃ t, l[pos]? = some t := ⟨_, List.getElem?_eq_getElem (by omega)⟩
    refine (fnext_stand h1 (by omega) hok h2 h3 h8 hp hrd ht).mono ?_
    rintro e w' ⟨rfl, ws', ⟨G'', k1, k2, k3, k4⟩, k5⟩
    have e1 : (nextD D' (tr r pos)).size = D'.size := by unfold nextD; split; exact (now_read _ _ 0).2.1; rfl
    have e2 : ∀ i, (nextD D' (tr r pos)).now i = D'.now i := fun i => by unfold nextD; split; exact (now_read _ _ i).1; rfl
    refine .inl ⟨t, rfl, ht, G'', nextD D' (tr r pos), ws', k1.mono (by omega) (by omega), ?_, hout _ k4, h4.trans k3 ?_, hsub _ k4, ?_, fun i => (e2 i).trans (h7 i), k5, ?_, fun k hv hg => ?_, Nat.le_trans h11 k3.size⟩
    · have e3 : (nextD D' (tr r pos)).size = F.D.size := e1.trans h6.size
      rw [← e3]; exact k2
    · rintro k (hg | rfl | rfl)
      · exact h5 k hg
      · exact .inr hk.hg
      · exact .inr hk.hx
    · rw [blocks_next hhp]
      by_cases h0 : pos % r.h = 0
      · rw [if_pos h0]
        have e4 : nextD D' (tr r pos) = (read D' (((tr r pos).first + (tr r pos).pos / (tr r pos).h : Nat) : Int)).2 := if_pos h0
        rw [e4]
        exact h6.trans (wrote_read (hrd.resolve_left fun hne => hne h0))
      · rw [if_neg h0]
        have e4 : nextD D' (tr r pos) = D' := if_neg h0
        rw [e4]; exact h6
    · refine ownsRow_same h9 fun k hv => k3.block k (hown k hv).2.2 ?_
      have hb := hk.hbase
      rintro (hg | rfl | rfl)
      · exact h10 k hv hg
      · have := (hown _ hv).2.1; have := hb.2.2; exact absurd this (Nat.not_lt_of_le (hown _ hv).2.1)
      · exact absurd hb.1 (Nat.not_lt_of_le (hown _ hv).2.1)
    · exact (k4 k hg).elim (h10 k hv) (Nat.not_le_of_lt (hown k hv).2.2)
  · have hmid : pos % r.h = 0 := Decidable.byContradiction fun h => hrd (.inl h)
    have hne : (read D' (((tr r pos).first + (tr r pos).pos / (tr r pos).h : Nat) : Int)).1 ≠ 0 := fun h => hrd (.inr h)
    have hst : wordsAt (LayS F F.S r.b D').A.st (tr r pos).b = some (LayS F F.S r.b D').D.size := by rw [hds]; exact hk.words D'
    refine (fnext_err h1 (by omega) hok h2 h3 hst hp hmid hne).mono ?_
    rintro e w' ⟨rfl, G'', k1, k2, k3, k4⟩
    refine .inr ⟨_, rfl, ⟨hne, D', _, _, h6, rfl, fun hin => ?_, fun j => ((now_read _ _ j).1).trans (h7 j), G'', ?_, h4.trans k3 ?_, hsub _ k4⟩, k2⟩
    · have hj : pos / r.h < blocksN r.h r.count := by
        have h1 := blocks_mul (h := r.h) (c := r.count) hhp
        have h2 := Nat.div_mul_le_self pos r.h
        apply Nat.lt_of_not_le
        intro h3
        have := Nat.mul_le_mul_right r.h h3
        omega
      have hb := hk.blocks
      have e5 : D'.blocks = F.D.blocks := h6.blocks
      have hj2 : r.first + pos / r.h < r.first + r.blocks := by omega
      unfold right
      show (decide ((0 : Int) ≤ ((r.first + pos / r.h : Nat) : Int)) && decide (((r.first + pos / r.h : Nat) : Int) < D'.blocks)) = true
      rw [e5]
      generalize r.first + pos / r.h = z at hj2
      simp; omega
    · have e6 : (read D' (((tr r pos).first + (tr r pos).pos / (tr r pos).h : Nat) : Int)).2.size = F.D.size := (now_read _ _ 0).2.1.trans h6.size
      have : Sys w' G'' p (LayE F F.S r.b (read D' (((tr r pos).first + (tr r pos).pos / (tr r pos).h : Nat) : Int)).2) (n + pos + 1) := by
        have e7 : LayE F F.S r.b (read D' (((tr r pos).first + (tr r pos).pos / (tr r pos).h : Nat) : Int)).2 = ⟨(read D' (((tr r pos).first + (tr r pos).pos / (tr r pos).h : Nat) : Int)).2, release (grant F.A r.b F.D.size) r.b (read D' (((tr r pos).first + (tr r pos).pos / (tr r pos).h : Nat) : Int)).2.size, F.S⟩ := by unfold LayE; rw [e6]
        rw [e7]; exact k1
      exact this.mono (by omega) (by omega)
    · rintro k (hg | rfl | rfl)
      · exact h5 k hg
      · exact .inr hk.hb
      · exact .inr hk.hg
/-- none is left -/
theorem lis_end (hk : LisOk w F n x r l base) (h : LisAt w G p F n x r l base r.count cnt v wr) :
    Calls Try.prog 31 #[.pointer (some ⟨x, 0, none⟩)] wr fun e w' => e = .returned (.tuple #[.agg #[.int .i64 0, .int .i64 0, .int .i64 0, .int .i64 0, .int .i64 0], .bool false, .int .i64 0]) ∧ LisAt w G p F n x r l base r.count cnt v w' := by
  obtain ⟨G', D', ws, h1, h2, r3⟩ := id h
  exact (fnext_end (hk.at_ (Nat.le_refl _)) h2 rfl).mono fun e w' ⟨he, hb⟩ => ⟨he, h.below hb⟩
/-- it is put into the list -/
theorem lis_push {W : World} {v' : Value} (h : LisAt w G p F n x r l base (cnt + 1) cnt v wr) (hk : LisOk w F n x r l base) {t : Tup} (ht : l[cnt]? = some t) (ho : W.ownsRow base 58 5 v' (cnt + 1) (flatV (l.take cnt ++ [t]))) (hf : Far (fun k => v.ownBlock = some k) wr W) (hv : v'.ownBlock = v.ownBlock ∨ v'.ownBlock = some wr.heap.size) (hwb : w.heap.size ≤ base) :
    LisAt w G p F n x r l base (cnt + 1) (cnt + 1) v' W := by
  obtain ⟨G', D', ws, h1, h2, h3, h4, h5, h6, h7, h8, h9, h10, h11⟩ := h
  have hb := hk.hbase
  have hown : ∀ k, v.ownBlock = some k → (∃ cs, Row wr k 58 cs) ∧ base ≤ k ∧ k < wr.heap.size := fun k hv => ownT_row h9 hv
  refine ⟨G', D', ws, h1.touch hf fun k hv => ⟨h10 k hv, fun u hu => ?_⟩, h2.far hf (fun hv => ?_) (fun hv => ?_) (fun hv => ?_), h3, h4.trans hf fun k hv => .inr (Nat.le_trans hwb (hown k hv).2.1), h5, h6, h7, h8, ?_, fun k hv' hg => ?_, Nat.le_trans h11 hf.size⟩
  · obtain ⟨⟨cs, hcs⟩, _⟩ := hown k hv
    exact absurd (hu.typed hcs) (by decide)
  · exact absurd hb.1 (Nat.not_lt_of_le (hown _ hv).2.1)
  · exact absurd hb.2.1 (Nat.not_lt_of_le (hown _ hv).2.1)
  · exact absurd hb.2.2 (Nat.not_lt_of_le (hown _ hv).2.1)
  · rw [List.take_add_one, ht]; exact ho
  · rcases hv with hv | hv
    · exact h10 k (hv ▸ hv') hg
    · rw [hv] at hv'; injection hv' with hv'; subst hv'
      exact Nat.lt_irrefl _ (h1.lt hg)
/-- the reader is closed -/
theorem lis_close (u : FrameMode) (hk : LisOk w F n x r l base) (h : LisAt w G p F n x r l base pos cnt v wr) (hp : pos ≤ r.count) :
    CallsD Try.prog 33 #[.pointer (some ⟨x, 0, none⟩)] u wr fun e u' w' => u' = u ∧ (e = .returned (.tuple #[]) ∧ w'.ownsRow base 58 5 v cnt (flatV (l.take cnt)) ∧ ∃ D', Wrote F.D D' (blocksN r.h pos) ∧ (∀ i, D'.now i = F.D.now i) ∧ SysTo w G p (LayE F F.S r.b D') (n + r.count + 1) w') := by
  obtain ⟨G', D', ws, h1, h2, h3, h4, h5, h6, h7, h8, h9, h10, h11⟩ := h
  have hds : (LayS F F.S r.b D').D.size = F.D.size := h6.size
  have hst : wordsAt (LayS F F.S r.b D').A.st (tr r pos).b = some (LayS F F.S r.b D').D.size := by rw [hds]; exact hk.words D'
  have hown : ∀ k, v.ownBlock = some k → (∃ cs, Row wr k 58 cs) ∧ base ≤ k ∧ k < wr.heap.size := fun k hv => ownT_row h9 hv
  have hn := hk.n
  rw [← hds] at h2
  refine (rclose_def u h1 h2 h3 hst).mono ?_
  rintro e u' w' ⟨rfl, rfl, G'', k1, k2, k3, k4⟩
  refine ⟨rfl, rfl, ownsRow_same h9 fun k hv => k3.block k (hown k hv).2.2 ?_, D', h6, h7, G'', ?_, h4.trans k3 ?_, ?_⟩
  · rintro (hg | rfl)
    · exact h10 k hv hg
    · exact absurd hk.hbase.2.1 (Nat.not_lt_of_le (hown _ hv).2.1)
  · have e7 : LayE F F.S r.b D' = ⟨D', release (grant F.A r.b F.D.size) r.b D'.size, F.S⟩ := by unfold LayE; rw [h6.size]
    rw [e7]
    exact Sys.mono k1 (by omega) (by omega)
  · rintro k (hg | rfl)
    · exact h5 k hg
    · exact .inr hk.hb
  · intro k hg
    exact (k4 k hg).elim (fun h => h5 k h) fun h => .inr (Nat.le_trans h4.size h)
end
end Go.Proofs.Ytbkgpilmgllkiaa
