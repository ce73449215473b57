/- FileTail: several texts, one behind the other. -/
import Derived.Test.YtbkgpilmgllkiaaFileMath
import Derived.Test.YtbkgpilmgllkiaaDevMem
import Derived.Maps.AppendAt
import Derived.Test.YtbkgpilmgllkiaaFileNext
import Derived.Test.YtbkgpilmgllkiaaFileSmall
import Derived.BigQuiet
import Derived.Test.YtbkgpilmgllkiaaPairs
namespace Go.Proofs.Ytbkgpilmgllkiaa
open Go.ChangeShapes Go.WideShapes Go.ChangeAt Go.RowKit

theorem infoT : (Try.prog.info? 58).map (fun i => (i.zero, i.size, i.bytes)) = some (some (.agg #[.int .i64 0, .int .i64 0, .int .i64 0, .int .i64 0, .int .i64 0]), 5, 40) := by kernel_rfl
def tupC (t : Tup) : List Value := [.int .i64 t.a, .int .i64 t.b, .int .i64 t.c, .int .i64 t.d, .int .i64 t.e]
/-- the cells of tuples -/
def flatV (l : List Tup) : List Value := l.flatMap tupC
theorem flatV_len (l : List Tup) : (flatV l).length = l.length * 5 := by
  unfold flatV
  induction l with
  | nil => rfl
  | cons e l ih => rw [List.flatMap_cons, List.length_append, ih, List.length_cons]; show 5 + _ = _; omega
theorem flatV_snoc (l : List Tup) (e : Tup) : flatV (l ++ [e]) = flatV l ++ tupC e := by unfold flatV; simp
theorem flatV_one (l : List Tup) : ∀ v ∈ flatV l, v.oneCell' = true := by
  intro v hv
  obtain ⟨t, _, hv⟩ := List.mem_flatMap.1 hv
  simp [tupC] at hv
  rcases hv with rfl | rfl | rfl | rfl | rfl <;> rfl
theorem flatV_at : ∀ (l : List Tup) (i : Nat), i < l.length → ∀ (j : Nat) (u : Value), (tupC (l.getD i tup0))[j]? = some u → (flatV l)[i * 5 + j]? = some u
  | [], i, h => by simp at h
  | e :: l, 0, _ => by
    intro j u h
    have hj : j < (tupC e).length := (List.getElem?_eq_some_iff.1 h).1
    show (tupC e ++ flatV l)[0 * 5 + j]? = _
    rw [Nat.zero_mul, Nat.zero_add, List.getElem?_append_left hj]; exact h
  | e :: l, i + 1, hi => by
    intro j u h
    show (tupC e ++ flatV l)[(i + 1) * 5 + j]? = _
    rw [List.getElem?_append_right (by show 5 ≤ _; omega), show (i + 1) * 5 + j - (tupC e).length = i * 5 + j by show _ - 5 = _; omega]
    exact flatV_at l i (by simpa using hi) j u (by simpa using h)
theorem getD_memT {l : List Tup} {i : Nat} (h : i < l.length) : l.getD i tup0 ∈ l := by
  rw [List.getD_eq_getElem?_getD, List.getElem?_eq_getElem h]; exact List.getElem_mem h
/-- A slice value that reads as the tuples l; the cells lie below block B. -/
def ReadsT (w : World) (B : Nat) (a : Option Addr) (n : Nat) (l : List Tup) : Prop :=
  l.length = n ∧ (∀ e ∈ l, TupOk e) ∧ (0 < n → ∃ b off, a = some ⟨b, off, none⟩ ∧ b < B ∧ ∀ (i : Nat), i < n → ∀ (j : Nat) (u : Value), (tupC (l.getD i tup0))[j]? = some u → w.cell? ⟨b, off + i * 5 + j, none⟩ = some u)
section
variable {w w' : World} {B : Nat} {a : Option Addr} {n : Nat} {l : List Tup}
theorem ReadsT.keep (h : ReadsT w B a n l) (hb : Below B w w') : ReadsT w' B a n l := by
  obtain ⟨hl, hw, hc⟩ := h
  refine ⟨hl, hw, fun hn => ?_⟩
  obtain ⟨b, off, rfl, hbB, hc⟩ := hc hn
  exact ⟨b, off, rfl, hbB, fun i hi j u hj => (hb.cell (p := ⟨b, off + i * 5 + j, none⟩) hbB).trans (hc i hi j u hj)⟩
theorem ReadsT.mono {B' : Nat} (h : ReadsT w B a n l) (hb : B ≤ B') : ReadsT w B' a n l := by
  obtain ⟨hl, hw, hc⟩ := h
  refine ⟨hl, hw, fun hn => ?_⟩
  obtain ⟨b, off, rfl, hbB, hc⟩ := hc hn
  exact ⟨b, off, rfl, by omega, hc⟩
theorem ReadsT.drewN (h : ReadsT w B a n l) (m : Nat) : ReadsT (w.drewN m) B a n l := h
theorem ReadsT.nil (w : World) (B : Nat) (a : Option Addr) : ReadsT w B a 0 [] := ⟨rfl, by simp, fun h => absurd h (by omega)⟩
/-- it is kept while the blocks that it may lie in are -/
theorem ReadsT.far {F : Nat → Prop} (h : ReadsT w B a n l) (hB : B ≤ w.heap.size) (hf : Far F w w') (hF : 0 < n → ∀ b off, a = some ⟨b, off, none⟩ → ¬ F b) : ReadsT w' B a n l := by
  obtain ⟨hl, hw, hc⟩ := h
  refine ⟨hl, hw, fun hn => ?_⟩
  obtain ⟨b, off, hA, hbB, hc⟩ := hc hn
  refine ⟨b, off, hA, hbB, fun i hi j u hj => ?_⟩
  have h1 := hf.block b (by omega) (hF hn b off hA)
  have h2 : w'.cell? ⟨b, off + i * 5 + j, none⟩ = w.cell? ⟨b, off + i * 5 + j, none⟩ := by simp only [World.cell?, h1]
  exact h2.trans (hc i hi j u hj)
theorem ReadsT.at_ (h : ReadsT w B a n l) {i : Nat} (hi : i < n) : ∃ b off t, a = some ⟨b, off, none⟩ ∧ b < B ∧ w.cell? ⟨b, off + i * 5, none⟩ = some (.int .i64 t.a) ∧ w.cell? ⟨b, off + i * 5 + 1, none⟩ = some (.int .i64 t.b) ∧ w.cell? ⟨b, off + i * 5 + 2, none⟩ = some (.int .i64 t.c) ∧
    w.cell? ⟨b, off + i * 5 + 3, none⟩ = some (.int .i64 t.d) ∧ w.cell? ⟨b, off + i * 5 + 4, none⟩ = some (.int .i64 t.e) ∧ TupOk t ∧ Hid (l[i]? = some t) := by
  obtain ⟨hl, hw, hc⟩ := h
  obtain ⟨b, off, rfl, hb, hc⟩ := hc (by omega)
  refine ⟨b, off, l.getD i tup0, rfl, hb, hc i hi 0 _ rfl, hc i hi 1 _ rfl, hc i hi 2 _ rfl, hc i hi 3 _ rfl, hc i hi 4 _ rfl, hw _ (getD_memT (by omega)), ?_⟩
  show l[i]? = some (l.getD i tup0)
  rw [List.getD_eq_getElem?_getD, List.getElem?_eq_getElem (by omega)]; rfl
end
/-- what is owned, and holds tuples, is read as such -/
theorem ownT_reads {w : World} {base : Nat} {t : TypeId} {v : Value} {n : Nat} {l : List Tup} (h : w.ownsRow base t 5 v n (flatV l)) (hw : ∀ e ∈ l, TupOk e) : ∃ A c, v = .slice A n c ∧ ReadsT w w.heap.size A n l ∧ l.length = n ∧ c ≤ maxLen ∧ n ≤ c ∧ (0 < n → ∀ b off, A = some ⟨b, off, none⟩ → base ≤ b) := by
  obtain ⟨hl, h2⟩ := h
  have hl' : l.length = n := by rw [flatV_len] at hl; omega
  rcases h2 with ⟨rfl, rfl⟩ | ⟨g, cap, cur, rfl, hg, hh, hcap, hm, hs, ht⟩
  · exact ⟨none, 0, rfl, ⟨hl', hw, fun h => absurd h (by omega)⟩, hl', by unfold maxLen; omega, Nat.le_refl _, fun h => absurd h (by omega)⟩
  · refine ⟨some ⟨g, 0, none⟩, cap, rfl, ⟨hl', hw, fun _ => ⟨g, 0, rfl, ?_, fun i hi j u hj => ?_⟩⟩, hl', hm, hcap, fun _ b off e => ?_⟩
    · exact lt_of_some hh
    · have h3 : w.cell? ⟨g, 0 + i * 5 + j, none⟩ = cur[0 + i * 5 + j]? := by simp [World.cell?, hh]
      rw [h3, Nat.zero_add]
      have hj5 : j < 5 := (List.getElem?_eq_some_iff.1 hj).1
      have h4 : (cur.toList.take (n * 5))[i * 5 + j]? = cur.toList[i * 5 + j]? := by rw [List.getElem?_take, if_pos (by omega)]
      rw [ht, flatV_at l i (by omega) j u hj] at h4
      rw [← Array.getElem?_toList]; exact h4.symm
    · injection e with e; injection e with e _; subst e; exact hg
theorem ownT_keep {w w' : World} {base : Nat} {e : TypeId} {s n : Nat} {v : Value} {xs : List Value} (h : w.ownsRow base e s v n xs) (hb : Below w.heap.size w w') : w'.ownsRow base e s v n xs :=
  ownsRow_same h fun k hk => hb.block k (h.lt k hk).2
theorem ownT_nil (w : World) (base : Nat) (e : TypeId) : w.ownsRow base e 5 (.slice none 0 0) 0 (flatV []) := ⟨rfl, .inl ⟨rfl, rfl⟩⟩
/-- 'l = append(l, t)' -/
theorem wpList_push_tup {w : World} {ops : Array Oper} {rest : List Oper} {o : Oper} {a : Act} {Q : Exit → Act → World → Prop} (hgd : o.guard = none) (sl x : Operand)
    (ho : o.op = .call { callee := .builtin .append, args := #[sl, x], argTypes := #[24, 24] }) {v : Value} {base n : Nat} {l : List Tup} (h : w.ownsRow base 58 5 v n (flatV l)) (hs : a.eval sl = v) (ad : Addr) (hx : a.eval x = .slice (some ad) 1 1) (t : Tup)
    (hsrc : ∀ j u, (tupC t)[j]? = some u → w.cell? (ad.add j) = some u) (hn : n ≤ 1000000) (hbase : base ≤ w.heap.size)
    (hK : ∀ v' w', w'.ownsRow base 58 5 v' (n + 1) (flatV (l ++ [t])) → Far (fun k => v.ownBlock = some k) w w' → (v'.ownBlock = v.ownBlock ∨ v'.ownBlock = some w.heap.size) → wpList Try.prog ops Q rest (a.put o.dst v') w') : wpList Try.prog ops Q (o :: rest) a w := by
  obtain ⟨i0, hi0, hz0, hz, hzb⟩ := info_parts infoT
  refine wpList_append_own_at w hgd sl x 24 ho base 58 i0 _ 5 40 Try.underlying24 hi0 hz0 hz hzb rfl (by decide) v n (flatV l) hs h ad 1 1 (tupC t) hx rfl hsrc (fun u hu => by simp [tupC] at hu; rcases hu with rfl | rfl | rfl | rfl | rfl <;> rfl) (by unfold maxLen; omega) (by omega) hbase ?_
  intro v' w' hown hgr _ hat
  rw [← flatV_snoc] at hown
  exact hK v' w' hown ((Far.refl _ w).grown hgr fun k hk => .inl hk) hat
end Go.Proofs.Ytbkgpilmgllkiaa

namespace Go.Proofs.Ytbkgpilmgllkiaa

/-- acts that went well, so many -/
structure Wrote (D D' : St) (m : Nat) : Prop where
  size : D'.size = D.size
  blocks : D'.blocks = D.blocks
  acts : D'.acts = D.acts + m
  calm : Calm D → Calm D'
  alive : D.down = false ∧ D.fb = false → D'.down = false ∧ D'.fb = false
theorem Wrote.refl (D : St) : Wrote D D 0 := ⟨rfl, rfl, by simp, id, id⟩
theorem Wrote.trans {D D1 D2 : St} {m n : Nat} (h : Wrote D D1 m) (k : Wrote D1 D2 n) : Wrote D D2 (m + n) :=
  ⟨k.size.trans h.size, k.blocks.trans h.blocks, by rw [k.acts, h.acts]; omega, fun hc => k.calm (h.calm hc), fun ha => k.alive (h.alive ha)⟩
theorem wrote_begin {s : St} {r : Bool} (h : (begin s r).1 = 0) : Wrote s (begin s r).2 1 := by
  unfold begin at h ⊢
  split at h
  · exact absurd h (by omega)
  · rename_i h1
    split at h
    · exact absurd h (by omega)
    · rename_i h2
      split at h
      · exact absurd h (by omega)
      · rename_i h3
        dsimp only at h
        split at h
        · exact absurd h (by omega)
        · rename_i h4
          rw [if_neg h1, if_neg h2, if_neg h3]
          dsimp only
          rw [if_neg h4]
          exact ⟨rfl, rfl, rfl, fun hc => ⟨hc.1, hc.2.1, hc.2.2⟩, fun ha => ha⟩
theorem wrote_write {s : St} {i : Int} {l : List Nat} (h : (write s i l).1 = 0) : Wrote s (write s i l).2 1 := by
  unfold write at h ⊢
  dsimp only at h ⊢
  by_cases hb : (begin s (right s i && decide (l.length = s.size))).1 = 0
  · rw [if_pos hb]
    have k := wrote_begin hb
    exact ⟨k.size, k.blocks, k.acts, fun hc => k.calm hc, fun ha => k.alive ha⟩
  · rw [if_neg hb] at h; exact absurd h hb
theorem wrote_read {s : St} {i : Int} (h : (read s i).1 = 0) : Wrote s (read s i).2 1 := wrote_begin h
/-- a device that has not gone down tells its fault alone -/
theorem begin_code {s : St} {r : Bool} (ha : s.down = false ∧ s.fb = false) (hr : r = true) (h : (begin s r).1 ≠ 0) : (begin s r).1 = 6 ∧ (begin s r).2.acts = s.acts := by
  unfold begin at h ⊢
  rw [if_neg (by simp [ha.1]), if_neg (by simp [hr]), if_neg (by simp [ha.2])] at h ⊢
  dsimp only at h ⊢
  split at h
  · rename_i h1; rw [if_pos h1]; exact ⟨rfl, rfl⟩
  · exact absurd rfl h
theorem write_code {s : St} {i : Int} {l : List Nat} (ha : s.down = false ∧ s.fb = false) (hi : right s i = true) (hl : l.length = s.size) (h : (write s i l).1 ≠ 0) : (write s i l).1 = 6 := by
  have hr : (right s i && decide (l.length = s.size)) = true := by simp [hi, hl]
  unfold write at h ⊢
  dsimp only at h ⊢
  by_cases hb : (begin s (right s i && decide (l.length = s.size))).1 = 0
  · rw [if_pos hb] at h; exact absurd rfl h
  · rw [if_neg hb] at h ⊢; exact (begin_code ha hr h).1
theorem read_code {s : St} {i : Int} (ha : s.down = false ∧ s.fb = false) (hi : right s i = true) (h : (read s i).1 ≠ 0) : (read s i).1 = 6 := (begin_code ha hi h).1
theorem calm_alive {s : St} (h : Calm s) : s.down = false ∧ s.fb = false := ⟨h.1, h.2.1⟩

/-- a writer's full blocks lie on the device -/
def WStand (D : St) (t : Wt) : Prop := StandsTo D t.first t.k t.h t.l (t.l.length / t.h)
section
variable {D : St} {t : Wt} {tu : Tup}
theorem wstand_nil (h : t.l = []) : WStand D t := by
  intro j hj
  rw [h] at hj; simp at hj
theorem snoc_len (t : Wt) (tu : Tup) : (t.snoc tu).l.length = t.l.length + 1 := by show (t.l ++ [tu]).length = _; simp
theorem div_succ_ne {c h : Nat} (hh : 0 < h) (h0 : (c + 1) % h ≠ 0) : (c + 1) / h = c / h := by
  have h1 := Nat.div_add_mod (c + 1) h
  have h2 := Nat.div_add_mod c h
  have h3 := Nat.mod_lt (c + 1) hh
  have h4 := Nat.mod_lt c hh
  have a1 : ¬ (c + 1) / h < c / h := fun hlt => by
    have := Nat.mul_le_mul_left h (show (c + 1) / h + 1 ≤ c / h from hlt)
    rw [Nat.mul_add, Nat.mul_one] at this; omega
  have a2 : ¬ c / h < (c + 1) / h := fun hlt => by
    have := Nat.mul_le_mul_left h (show c / h + 1 ≤ (c + 1) / h from hlt)
    rw [Nat.mul_add, Nat.mul_one] at this; omega
  omega
theorem div_succ_eq {c h : Nat} (_hh : 0 < h) (h0 : (c + 1) % h = 0) : (c + 1) / h = c / h + 1 := by
  have := Nat.succ_div_of_mod_eq_zero (a := c) (b := h) h0
  exact this
theorem stands_more {D : St} {first k h m : Nat} {l l' : List Tup} (hs : StandsTo D first k h l m) (hm : m * h ≤ l.length) : StandsTo D first k h (l ++ l') m := by
  intro j hj
  rw [hs j hj, pay_more (Nat.le_trans (Nat.mul_le_mul_right h (show j + 1 ≤ m from hj)) hm)]
theorem wstand_buf (hok : 0 < t.h) (h : WStand D t) (h0 : (t.l.length + 1) % t.h ≠ 0) : WStand D (t.snoc tu) := by
  unfold WStand
  rw [snoc_len]
  show StandsTo D t.first t.k t.h (t.l ++ [tu]) ((t.l.length + 1) / t.h)
  rw [div_succ_ne hok h0]
  exact stands_more h (Nat.div_mul_le_self _ _)
theorem now_write_at {i : Int} {l : List Nat} (h0 : (write D i l).1 = 0) : (write D i l).2.now i = l := (now_write h0).1
/-- blocks elsewhere stay -/
theorem stands_write {first k h m : Nat} {l : List Tup} {i : Int} {ws : List Nat} (hs : StandsTo D first k h l m) (hi : ∀ j, j < m → ((first + j : Nat) : Int) ≠ i) : StandsTo (write D i ws).2 first k h l m := by
  intro j hj
  by_cases h0 : (write D i ws).1 = 0
  · obtain ⟨_, h2, h3, _⟩ := now_write h0
    rw [h2 _ (hi j hj), h3]; exact hs j hj
  · obtain ⟨h2, h3, _⟩ := now_fail h0
    rw [h2, h3]; exact hs j hj
theorem stands_same {D' : St} {first k h m : Nat} {l : List Tup} (hs : StandsTo D first k h l m) (hn : ∀ i, D'.now i = D.now i) (hz : D'.size = D.size) : StandsTo D' first k h l m := fun j hj => by rw [hn, hz]; exact hs j hj
/-- the last block is written as well -/
theorem stands_last (hk : 0 < t.h) (hl : 0 < t.l.length) (h0 : (write D (lastAd t : Nat) (lastW8 D.size t)).1 = 0) (hs : StandsTo D t.first t.k t.h t.l (blocksN t.h t.l.length - 1)) : StandsTo (write D (lastAd t : Nat) (lastW8 D.size t)).2 t.first t.k t.h t.l (blocksN t.h t.l.length) := by
  obtain ⟨h1, h2, h3, _⟩ := now_write h0
  have hbp := blocks_pos hk hl
  intro j hj
  by_cases hj2 : j = blocksN t.h t.l.length - 1
  · subst hj2
    show (write D (lastAd t : Nat) (lastW8 D.size t)).2.now ((lastAd t : Nat) : Int) = _
    rw [h1, h3]
    unfold lastW8
    rw [pay_last hk hl]; rfl
  · rw [h2 _ (by unfold lastAd; omega), h3]; exact hs j (by omega)
theorem wstand_put (hk : 0 < t.h) (h : WStand D t) (h0 : (t.l.length + 1) % t.h = 0) (hw : (write D (lastAd (t.snoc tu) : Nat) (lastW8 D.size (t.snoc tu))).1 = 0) : WStand (write D (lastAd (t.snoc tu) : Nat) (lastW8 D.size (t.snoc tu))).2 (t.snoc tu) := by
  have hb : blocksN t.h (t.snoc tu).l.length = (t.snoc tu).l.length / t.h := by
    rw [snoc_len]; exact blocks_full h0
  unfold WStand
  have := stands_last (t := t.snoc tu) (D := D) hk (by rw [snoc_len]; omega) hw (by
    show StandsTo D t.first t.k t.h (t.l ++ [tu]) (blocksN t.h (t.snoc tu).l.length - 1)
    rw [hb, snoc_len, div_succ_eq hk h0, Nat.add_sub_cancel]
    exact stands_more h (Nat.div_mul_le_self _ _))
  show StandsTo _ t.first t.k t.h (t.snoc tu).l ((t.snoc tu).l.length / t.h)
  rw [← hb]; exact this
theorem wstand_full (h : WStand D t) (h0 : t.l.length % t.h = 0) : StandsTo D t.first t.k t.h t.l (blocksN t.h t.l.length) := by rw [blocks_full h0]; exact h
theorem wstand_close (hk : 0 < t.h) (h : WStand D t) (h0 : t.l.length % t.h ≠ 0) (hw : (write D (lastAd t : Nat) (lastW8 D.size t)).1 = 0) : StandsTo (write D (lastAd t : Nat) (lastW8 D.size t)).2 t.first t.k t.h t.l (blocksN t.h t.l.length) := by
  have hl : 0 < t.l.length := by
    rcases Nat.eq_zero_or_pos t.l.length with h1 | h1
    · rw [h1] at h0; simp at h0
    · exact h1
  refine stands_last hk hl hw ?_
  have : blocksN t.h t.l.length - 1 = t.l.length / t.h := by unfold blocksN; rw [if_pos (by omega), Nat.add_sub_cancel]
  rw [this]; exact h
/-- the last block is one of the writer's -/
theorem last_in (hok : WtOk t D.size) (hl : 0 < t.l.length) : t.first ≤ lastAd t ∧ lastAd t < t.first + t.blocks := by
  have h1 := blocks_pos hok.h.1 hl
  have h2 := blocks_mono (h := t.h) hok.h.1 hok.bound.2
  have h3 := hok.blocks.1
  unfold lastAd; omega
theorem last_right (hok : WtOk t D.size) (hl : 0 < t.l.length) (hin : ((t.first + t.blocks : Nat) : Int) ≤ D.blocks) : right D (lastAd t : Nat) = true := by
  have := last_in hok hl
  unfold right; simp; omega
theorem last_len (hok : WtOk t D.size) (hl : 0 < t.l.length) : (lastW8 D.size t).length = D.size := by
  have hsz := hok.sz
  have h1 := (lastT_len (l := t.l) hok.h.1 hl).1
  unfold lastW8
  refine seal_len ?_ (by omega)
  rw [flatT_len hok.k.2]
  exact Nat.le_trans (Nat.mul_le_mul_right _ h1) hok.h.2.1
end
end Go.Proofs.Ytbkgpilmgllkiaa

namespace Go.Proofs.Ytbkgpilmgllkiaa
open Go.ChangeShapes Go.WideShapes Go.ChangeAt Go.RowKit

theorem wordsAt_new : ∀ (l : List (Nat × Nat)) (x n : Nat), (∀ q ∈ l, q.1 ≠ x) → wordsAt (l ++ [(x, n)]) x = some n
  | [], x, n, _ => by simp [wordsAt]
  | q :: l, x, n, h => by
    have h1 := h q List.mem_cons_self
    have h2 := wordsAt_new l x n fun q hq => h q (List.mem_cons_of_mem _ hq)
    simp [wordsAt, h1, h2]
theorem taken_give {S S1 : Sp} {a m : Nat} (h : S.ok) (ht : Taken S S1 a m) : giveN S1 a m = S := by
  rcases ht with ⟨rfl, rfl, rfl⟩ | ⟨hm, ht, _⟩
  · rfl
  · unfold giveN; rw [if_neg (by omega)]; exact give_take hm h ht
theorem giveN_zero (S : Sp) (a : Nat) : giveN S a 0 = S := rfl
theorem taken_in {S S1 : Sp} {a m : Nat} (h : S.ok) (ht : Taken S S1 a m) : a + m ≤ S.first + S.blocks ∨ (m = 0 ∧ a = 0) := by
  rcases ht with ⟨rfl, rfl, rfl⟩ | ⟨hm, ht, _⟩
  · exact .inr ⟨rfl, rfl⟩
  · exact .inl (took_le hm h ht).1
/-- the work while the writer stands, and behind it -/
def LayS (F : Fs) (S1 : Sp) (b : Nat) (D' : St) : Fs := ⟨D', grant F.A b F.D.size, S1⟩
def LayE (F : Fs) (S' : Sp) (b : Nat) (D' : St) : Fs := ⟨D', release (grant F.A b F.D.size) b F.D.size, S'⟩
theorem layE_st {F : Fs} {S' : Sp} {b : Nat} {D' : St} : ∀ q ∈ (LayE F S' b D').A.st, q ∈ F.A.st ∨ q.1 = b := by
  intro q hq
  have h1 : q ∈ F.A.st ++ [(b, F.D.size)] := without_mem _ _ _ hq
  rcases List.mem_append.1 h1 with h2 | h2
  · exact .inl h2
  · simp only [List.mem_singleton] at h2; subst h2; exact .inr rfl
def tk (t : Wt) (l : List Tup) (i : Nat) : Wt := { t with l := l.take i }
theorem tk_snoc {t : Wt} {l : List Tup} {i : Nat} {tu : Tup} (h : l[i]? = some tu) : (tk t l i).snoc tu = tk t l (i + 1) := by
  unfold tk Wt.snoc
  simp only
  rw [List.take_add_one, h]; rfl
theorem tk_len {t : Wt} {l : List Tup} {i : Nat} (h : i ≤ l.length) : (tk t l i).l.length = i := by unfold tk; simp; omega
/-- i tuples were put -/
def LayAt (w : World) (G : Nat → Prop) (p : Wp) (F : Fs) (n x : Nat) (t : Wt) (S1 : Sp) (l : List Tup) (i : Nat) (wr : World) : Prop :=
  ∃ G' D', Sys wr G' p (LayS F S1 t.b D') (n + i) ∧ WOpen wr x p (tk t l i) F.D.size ∧ WOut G' x (tk t l i) ∧ Far G w wr ∧ (∀ k, G' k → G k ∨ w.heap.size ≤ k) ∧ Wrote F.D D' (i / t.h) ∧ WStand D' (tk t l i) ∧ ∀ u ∈ l.take i, fitsT t.k u = true
/-- a block could not be written: all is given back -/
def LayDead (w : World) (G : Nat → Prop) (p : Wp) (F : Fs) (n : Nat) (t : Wt) (l : List Tup) (er : Int) (wr : World) : Prop :=
  er ≠ 0 ∧ ∃ D1 m i ws, Wrote F.D D1 m ∧ er = (write D1 i ws).1 ∧ (((t.first + t.blocks : Nat) : Int) ≤ F.D.blocks → right D1 i = true) ∧ ws.length = D1.size ∧ SysTo w G p (LayE F F.S t.b (write D1 i ws).2) (n + l.length + 1) wr
/-- a tuple did not fit -/
def LayUnfit (w : World) (G : Nat → Prop) (p : Wp) (F : Fs) (n : Nat) (t : Wt) (l : List Tup) (er : Int) (wr : World) : Prop :=
  er = 1 ∧ (∃ u ∈ l, fitsT t.k u = false) ∧ ∃ D' m, Wrote F.D D' m ∧ SysTo w G p (LayE F F.S t.b D') (n + l.length + 1) wr
/-- all is laid -/
def LayDone (w : World) (G : Nat → Prop) (p : Wp) (F : Fs) (n : Nat) (t : Wt) (S1 : Sp) (l : List Tup) (wr : World) : Prop :=
  (∀ u ∈ l, fitsT t.k u = true) ∧ ∃ D', Wrote F.D D' t.blocks ∧ StandsTo D' t.first t.k t.h l t.blocks ∧ SysTo w G p (LayE F S1 t.b D') (n + l.length + 1) wr
/-- what is known of the writer that Write has made for the list -/
structure LayOk (w : World) (F : Fs) (n x : Nat) (t : Wt) (S1 : Sp) (l : List Tup) : Prop where
  n : n + l.length + 1 ≤ 1000000
  sok : F.S.ok
  taken : Taken F.S S1 t.first t.blocks
  blocks : t.blocks = blocksN t.h l.length
  ok : WtOk t F.D.size
  bound : t.bound = l.length
  x : w.heap.size ≤ x
  b : w.heap.size ≤ t.b
  g : w.heap.size ≤ t.g
  st : ∀ q ∈ F.A.st, q.1 < w.heap.size
section
variable {w wr : World} {G : Nat → Prop} {p : Wp} {F : Fs} {n x : Nat} {t : Wt} {S1 : Sp} {l : List Tup} {i : Nat}
theorem LayOk.tk (hk : LayOk w F n x t S1 l) {i : Nat} (hi : i ≤ l.length) : WtOk (tk t l i) F.D.size := ⟨hk.ok.k, hk.ok.h, hk.ok.sz, ⟨hk.ok.bound.1, by rw [tk_len hi]; show i ≤ t.bound; rw [hk.bound]; exact hi⟩, hk.ok.blocks, hk.ok.first⟩
theorem LayOk.words (hk : LayOk w F n x t S1 l) (D' : St) : wordsAt (LayS F S1 t.b D').A.st t.b = some F.D.size :=
  wordsAt_new _ _ _ fun q hq e => by have := hk.st q hq; have := hk.b; omega
theorem LayOk.end0 (hk : LayOk w F n x t S1 l) {D' : St} (hs : D'.size = F.D.size) (i : Nat) : endF (LayS F S1 t.b D') (Go.Proofs.Ytbkgpilmgllkiaa.tk t l i) 0 = LayE F F.S t.b D' := by
  have h := taken_give hk.sok hk.taken
  unfold endF LayS LayE Go.Proofs.Ytbkgpilmgllkiaa.tk
  simp only [hs, Nat.add_zero, Nat.sub_zero, h]
theorem LayOk.endAll (hk : LayOk w F n x t S1 l) {D' : St} (hs : D'.size = F.D.size) (i : Nat) : endF (LayS F S1 t.b D') (Go.Proofs.Ytbkgpilmgllkiaa.tk t l i) (blocksN t.h l.length) = LayE F S1 t.b D' := by
  unfold endF LayS LayE Go.Proofs.Ytbkgpilmgllkiaa.tk
  simp only [hs, hk.blocks, Nat.sub_self, giveN_zero]
/-- an error of the last block -/
theorem lay_dead (hk : LayOk w F n x t S1 l) {D1 : St} {m j : Nat} (hD : Wrote F.D D1 m) (hj : j ≤ l.length) (hj0 : 0 < j) (he : (write D1 (lastAd (Go.Proofs.Ytbkgpilmgllkiaa.tk t l j) : Nat) (lastW8 D1.size (Go.Proofs.Ytbkgpilmgllkiaa.tk t l j))).1 ≠ 0)
    (hs : SysTo w G p (LayE F F.S t.b (write D1 (lastAd (Go.Proofs.Ytbkgpilmgllkiaa.tk t l j) : Nat) (lastW8 D1.size (Go.Proofs.Ytbkgpilmgllkiaa.tk t l j))).2) (n + l.length + 1) wr) :
    LayDead w G p F n t l (write D1 (lastAd (Go.Proofs.Ytbkgpilmgllkiaa.tk t l j) : Nat) (lastW8 D1.size (Go.Proofs.Ytbkgpilmgllkiaa.tk t l j))).1 wr := by
  have hok := hk.tk hj
  rw [← hD.size] at hok
  exact ⟨he, D1, m, _, _, hD, rfl, fun hin => last_right hok (by rw [tk_len hj]; exact hj0) (by rw [hD.blocks]; exact hin), last_len hok (by rw [tk_len hj]; exact hj0), hs⟩
theorem lay_put (hk : LayOk w F n x t S1 l) (h : LayAt w G p F n x t S1 l i wr) (hi : i < l.length) {tu : Tup} (htu : l[i]? = some tu) {W : World} (hb : Below wr.heap.size wr W) :
    Calls Try.prog 36 #[.pointer (some ⟨x, 0, none⟩), .agg #[.int .i64 tu.a, .int .i64 tu.b, .int .i64 tu.c, .int .i64 tu.d, .int .i64 tu.e]] W fun e w' => ∃ er : Int, e = .returned (.int .i64 er) ∧
      ((er = 1 ∧ (∃ u ∈ l, fitsT t.k u = false) ∧ LayAt w G p F n x t S1 l i w') ∨ (er = 0 ∧ LayAt w G p F n x t S1 l (i + 1) w') ∨ (LayDead w G p F n t l er w' ∧ ∃ l', WShut w' x p { t with l := l' })) := by
  obtain ⟨G', D', h1, ⟨ws, h2, h2h⟩, h3, h4, h5, h6, h7, h8⟩ := h
  have hok := hk.tk (show i ≤ l.length by omega)
  have hlen := tk_len (t := t) (show i ≤ l.length by omega)
  have s1 := h1.below hb
  have m1 := h2.below hb
  have hds : (LayS F S1 t.b D').D.size = F.D.size := h6.size
  have hn := hk.n
  rw [← hds] at hok m1
  have hmem : tu ∈ l := List.mem_of_getElem? htu
  rcases hf : fitsT t.k tu with _ | _
  · refine (wput_unfit s1 hok m1 tu hf).mono ?_
    rintro e w' ⟨rfl, hb'⟩
    have m2 := m1.below hb'
    rw [hds] at m2
    refine ⟨1, rfl, .inl ⟨rfl, ⟨tu, hmem, hf⟩, G', D', s1.below hb', ⟨ws, m2, h2h⟩, h3, ?_, h5, h6, h7, h8⟩⟩
    exact (h4.trans (Far.of_below hb fun _ => False) fun _ hf => hf.elim).trans (Far.of_below hb' fun _ => False) fun _ hf => hf.elim
  · refine (wput_go s1 hok m1 (by omega) ⟨h3.x, h3.b, h3.g⟩ (by rw [hds]; exact hk.words D') h2h tu hf (by rw [hlen]; show i < t.bound; rw [hk.bound]; exact hi)).mono ?_
    intro e w' hput
    have hW : Far G w W := h4.trans (Far.of_below hb fun _ => False) fun _ hf => hf.elim
    have hfar : ∀ w', Far (fun k => G' k ∨ k = x ∨ k = t.g ∨ k = t.b) W w' → Far G w w' := fun w' hf => hW.trans hf fun k hk' => by
      rcases hk' with hk' | rfl | rfl | rfl
      · exact h5 k hk'
      · exact .inr hk.x
      · exact .inr hk.g
      · exact .inr hk.b
    have hall : ∀ u ∈ l.take (i + 1), fitsT t.k u = true := by
      intro u hu
      rw [List.take_add_one, htu] at hu
      rcases List.mem_append.1 hu with hu | hu
      · exact h8 u hu
      · simp at hu; subst hu; exact hf
    have hlt : x < W.heap.size ∧ t.b < W.heap.size ∧ t.g < W.heap.size := m1.lt
    have ho2 : ∀ G'' : Nat → Prop, (∀ k, G'' k → G' k ∨ W.heap.size ≤ k) → WOut G'' x (Go.Proofs.Ytbkgpilmgllkiaa.tk t l (i + 1)) := fun G'' hs =>
      ⟨fun hg => (hs _ hg).elim h3.x (Nat.not_le_of_lt hlt.1), fun hg => (hs _ hg).elim h3.b (Nat.not_le_of_lt hlt.2.1), fun hg => (hs _ hg).elim h3.g (Nat.not_le_of_lt hlt.2.2)⟩
    have hsub : ∀ G'' : Nat → Prop, (∀ k, G'' k → G' k ∨ W.heap.size ≤ k) → ∀ k, G'' k → G k ∨ w.heap.size ≤ k := fun G'' hs k hg => (hs k hg).elim (fun h => h5 k h) fun h => .inr (Nat.le_trans hW.size h)
    rcases hput with ⟨hno, _⟩ | ⟨_, hfull, _⟩ | ⟨_, hless, ⟨hm, rfl, G'', k1, k2, k3, k4⟩ | ⟨hm, hw0, rfl, G'', k1, k2, k3, k4⟩ | ⟨hm, hw0, rfl, G'', k1, k2, k3, k4⟩⟩
    · rw [show fitsT (Go.Proofs.Ytbkgpilmgllkiaa.tk t l i).k tu = fitsT t.k tu from rfl, hf] at hno; cases hno
    · rw [hlen] at hfull; have : i = t.bound := hfull; rw [hk.bound] at this; omega
    · rw [hlen] at hm
      rw [tk_snoc htu] at k2
      rw [hds] at k2
      have hws := wstand_buf (tu := tu) hok.h.1 h7 (by rw [hlen]; exact hm)
      rw [tk_snoc htu] at hws
      refine ⟨0, rfl, .inr (.inl ⟨rfl, G'', D', k1.mono (by omega) (by omega), k2, ho2 _ k4, hfar w' (k3.mono fun k hk => ?_), hsub _ k4, ?_, hws, hall⟩)⟩
      · rcases hk with h | h | h
        · exact .inl h
        · exact .inr (.inl h)
        · exact .inr (.inr (.inl h))
      · rw [div_succ_ne (show 0 < t.h from hok.h.1) (show (i + 1) % t.h ≠ 0 from hm)]; exact h6
    · rw [hlen] at hm
      rw [tk_snoc htu] at k2 hw0 k1
      rw [hds] at k2 hw0 k1
      have e1 : D'.size = F.D.size := h6.size
      have hws := wstand_put (tu := tu) (D := D') hok.h.1 h7 (by rw [hlen]; exact hm) (by rw [tk_snoc htu, e1]; exact hw0)
      rw [tk_snoc htu, e1] at hws
      have hwr : Wrote D' (write D' (lastAd (Go.Proofs.Ytbkgpilmgllkiaa.tk t l (i + 1)) : Nat) (lastW8 F.D.size (Go.Proofs.Ytbkgpilmgllkiaa.tk t l (i + 1)))).2 1 := wrote_write hw0
      refine ⟨0, rfl, .inr (.inl ⟨rfl, G'', (write D' (lastAd (Go.Proofs.Ytbkgpilmgllkiaa.tk t l (i + 1)) : Nat) (lastW8 F.D.size (Go.Proofs.Ytbkgpilmgllkiaa.tk t l (i + 1)))).2, k1, ?_, ho2 _ k4, hfar w' (k3.mono fun k hk => ?_), hsub _ k4, ?_, hws, hall⟩)⟩
      · have e2 : (write D' (lastAd (Go.Proofs.Ytbkgpilmgllkiaa.tk t l (i + 1)) : Nat) (lastW8 F.D.size (Go.Proofs.Ytbkgpilmgllkiaa.tk t l (i + 1)))).2.size = F.D.size := hwr.size.trans e1
        rw [← e2]; exact k2
      · rcases hk with h | h | h
        · exact .inl h
        · exact .inr (.inl h)
        · exact .inr (.inr (.inl h))
      · rw [div_succ_eq (show 0 < t.h from hok.h.1) (show (i + 1) % t.h = 0 from hm)]; exact h6.trans hwr
    · rw [hlen] at hm
      rw [tk_snoc htu] at k2 hw0 k1 ⊢
      have e1 : D'.size = F.D.size := h6.size
      have hk1 : Sys w' G'' p (LayE F F.S t.b (write D' (lastAd (Go.Proofs.Ytbkgpilmgllkiaa.tk t l (i + 1)) : Nat) (lastW8 D'.size (Go.Proofs.Ytbkgpilmgllkiaa.tk t l (i + 1)))).2) (n + i + 1) := by
        have e3 := hk.end0 (D' := (write D' (lastAd (Go.Proofs.Ytbkgpilmgllkiaa.tk t l (i + 1)) : Nat) (lastW8 D'.size (Go.Proofs.Ytbkgpilmgllkiaa.tk t l (i + 1)))).2) ((write_size2 _ _ _).1.trans e1) (i + 1)
        rw [← e3]; exact k1
      refine ⟨_, rfl, .inr (.inr ⟨lay_dead hk h6 (show i + 1 ≤ l.length by omega) (by omega) hw0 ⟨G'', hk1.mono (by omega) (by omega), hfar w' (k3.mono fun k hk => ?_), hsub _ k4⟩, l.take (i + 1), k2⟩)⟩
      exact hk
/-- the writer is dropped; the result lies in a block R of Lay's own -/
theorem lay_drop (u : FrameMode) {w1 : World} (hk : LayOk w F n x t S1 l) (h : LayAt w G p F n x t S1 l i wr) (hi : i ≤ l.length) (hb0 : Below w1.heap.size w1 w) (hG : ∀ k, G k → k < w1.heap.size) {R : Nat} (hR1 : w1.heap.size ≤ R) (hR2 : R < w.heap.size) {cs : List Value} (hRr : Row wr R 30 cs) {W : World} (hf : Far (fun k => k = R) wr W) {cs' : List Value} (hRW : Row W R 30 cs') :
    CallsD Try.prog 32 #[.pointer (some ⟨x, 0, none⟩)] u W fun e u' w' => u' = u ∧ (e = .returned (.tuple #[]) ∧ Row w' R 30 cs' ∧ ∃ D' m, Wrote F.D D' m ∧ SysTo w1 G p (LayE F F.S t.b D') (n + l.length + 1) w') := by
  obtain ⟨G', D', h1, ⟨ws, h2, h2h⟩, h3, h4, h5, h6, h7, h8⟩ := h
  have hxR : x ≠ R := by have := hk.x; omega
  have hbR : t.b ≠ R := by have := hk.b; omega
  have hgR : t.g ≠ R := by have := hk.g; omega
  have hRG : ¬ G' R := fun hg => (h5 R hg).elim (fun h => by have := hG R h; omega) fun h => by omega
  have s1 : Sys W G' p (LayS F S1 t.b D') (n + i) := h1.touch hf fun k hk' => by
    subst hk'
    exact ⟨hRG, fun v hv => absurd (hv.typed hRr) (by decide)⟩
  have m1 : WMem W x p (Go.Proofs.Ytbkgpilmgllkiaa.tk t l i) F.D.size ws := h2.far hf hxR hbR hgR
  have hds : (LayS F S1 t.b D').D.size = F.D.size := h6.size
  have hn := hk.n
  have hok := hk.tk hi
  have hsz := hok.sz
  have hst : wordsAt (LayS F S1 t.b D').A.st (Go.Proofs.Ytbkgpilmgllkiaa.tk t l i).b = some (LayS F S1 t.b D').D.size := by rw [hds]; exact hk.words D'
  refine (wdrop_def u s1 m1.row m1.buf (by omega) h3.x hst m1.apart.1 hok.first hok.blocks.2).mono ?_
  rintro e u' w' ⟨rfl, rfl, G'', k1, k2, k3, k4⟩
  refine ⟨rfl, rfl, k2.row hRW (by rintro (hg | hg); exact hRG hg; exact hbR hg.symm), D', _, h6, G'', ?_, ?_, ?_⟩
  · rw [hk.end0 (D' := D') hds] at k1
    exact k1.mono (by omega) (by omega)
  · refine ((((Far.of_below hb0 G).trans h4 fun b hb => .inl hb).trans hf fun b hb => .inr (by omega))).trans k2 ?_
    rintro k (hk' | rfl)
    · exact (h5 k hk').imp_right fun h => Nat.le_trans hb0.size h
    · exact .inr (Nat.le_trans hb0.size hk.b)
  · intro k hk'
    rcases k3 k hk' with h | h
    · exact (h5 k h).imp_right fun h => Nat.le_trans hb0.size h
    · exact .inr (Nat.le_trans (Nat.le_trans (Nat.le_trans hb0.size h4.size) hf.size) h)
/-- the writer is closed -/
theorem lay_close (hk : LayOk w F n x t S1 l) (h : LayAt w G p F n x t S1 l l.length wr) :
    Calls Try.prog 35 #[.pointer (some ⟨x, 0, none⟩)] wr fun e w' => ∃ (er : Int) (f1 f2 f3 f4 : Nat), e = .returned (.tuple #[fileV f1 f2 f3 f4, .int .i64 er]) ∧ (∃ l', WShut w' x p { t with l := l' }) ∧
      ((er = 0 ∧ (f1 = t.first ∧ f2 = t.blocks ∧ f3 = t.k ∧ f4 = l.length) ∧ LayDone w G p F n t S1 l w') ∨ ((f1 = 0 ∧ f2 = 0 ∧ f3 = 0 ∧ f4 = 0) ∧ LayDead w G p F n t l er w')) := by
  obtain ⟨G', D', h1, h2, h3, h4, h5, h6, h7, h8⟩ := h
  have hok := hk.tk (Nat.le_refl l.length)
  have hlen := tk_len (t := t) (Nat.le_refl l.length)
  have hll : (Go.Proofs.Ytbkgpilmgllkiaa.tk t l l.length).l = l := List.take_length
  have hds : (LayS F S1 t.b D').D.size = F.D.size := h6.size
  have hn := hk.n
  have hst : wordsAt (LayS F S1 t.b D').A.st (Go.Proofs.Ytbkgpilmgllkiaa.tk t l l.length).b = some (LayS F S1 t.b D').D.size := by rw [hds]; exact hk.words D'
  have hfst : firstOf (Go.Proofs.Ytbkgpilmgllkiaa.tk t l l.length) = t.first := by
    unfold firstOf
    rw [hlen]
    by_cases h0 : l.length = 0
    · rw [if_pos h0]
      rcases hk.taken with ⟨_, ha, _⟩ | ⟨hm, _⟩
      · exact ha.symm
      · rw [hk.blocks, h0, blocks_zero] at hm; omega
    · rw [if_neg h0]; rfl
  have hall : ∀ u ∈ l, fitsT t.k u = true := fun u hu => h8 u (by rw [List.take_length]; exact hu)
  have hfar : ∀ w', Far (fun k => G' k ∨ k = x ∨ k = t.g ∨ k = t.b) wr w' → Far G w w' := fun w' hf => h4.trans hf fun k hk' => by
    rcases hk' with hk' | rfl | rfl | rfl
    · exact h5 k hk'
    · exact .inr hk.x
    · exact .inr hk.g
    · exact .inr hk.b
  have hsub : ∀ G'' : Nat → Prop, (∀ k, G'' k → G' k ∨ wr.heap.size ≤ k) → ∀ k, G'' k → G k ∨ w.heap.size ≤ k := fun G'' hs k hg => (hs k hg).elim (fun h => h5 k h) fun h => .inr (Nat.le_trans h4.size h)
  rw [← hds] at hok h2
  refine (wclose_any h1 (by omega) hok h2 ⟨h3.x, h3.b, h3.g⟩ hst).mono ?_
  intro e w' hcl
  have e1 : D'.size = F.D.size := h6.size
  rcases hcl with ⟨hm, rfl, G'', k1, k2, k3, k4⟩ | ⟨hm, hw0, rfl, G'', k1, k2, k3, k4⟩ | ⟨hm, hw0, rfl, G'', k1, k2, k3, k4⟩
  · refine ⟨0, _, _, _, _, rfl, ⟨_, k2⟩, .inl ⟨rfl, ⟨hfst, ?_, rfl, hlen⟩, hall, D', ?_, ?_, G'', ?_, hfar w' k3, hsub _ k4⟩⟩
    · rw [hlen, hk.blocks]; rfl
    · rw [hlen] at hm
      have : t.blocks = l.length / t.h := by rw [hk.blocks]; exact blocks_full hm
      rw [this]; exact h6
    · have := wstand_full h7 hm
      rw [hlen] at this
      rw [hk.blocks]
      rw [hll] at this
      exact this
    · have e3 := hk.endAll (D' := D') hds l.length
      rw [← e3]
      have e4 : blocksN (Go.Proofs.Ytbkgpilmgllkiaa.tk t l l.length).h (Go.Proofs.Ytbkgpilmgllkiaa.tk t l l.length).l.length = blocksN t.h l.length := by rw [hlen]; rfl
      rw [← e4]
      exact k1.mono (by omega) (by omega)
  · have hwr := wrote_write hw0
    have e2 : (LayS F S1 t.b D').D = D' := rfl
    rw [e2] at hw0 hwr k1
    refine ⟨0, _, _, _, _, rfl, ⟨_, k2⟩, .inl ⟨rfl, ⟨hfst, ?_, rfl, hlen⟩, hall, (write D' (lastAd (Go.Proofs.Ytbkgpilmgllkiaa.tk t l l.length) : Nat) (lastW8 D'.size (Go.Proofs.Ytbkgpilmgllkiaa.tk t l l.length))).2, ?_, ?_, G'', ?_, hfar w' k3, hsub _ k4⟩⟩
    · rw [hlen, hk.blocks]; rfl
    · rw [hlen] at hm
      have hm' : l.length % t.h ≠ 0 := hm
      have : t.blocks = l.length / t.h + 1 := by rw [hk.blocks]; unfold blocksN; rw [if_pos (by omega)]
      rw [this]; exact h6.trans hwr
    · have := wstand_close hok.h.1 h7 hm hw0
      rw [hlen, hll] at this
      rw [hk.blocks]
      exact this
    · have e3 := hk.endAll (D' := (write D' (lastAd (Go.Proofs.Ytbkgpilmgllkiaa.tk t l l.length) : Nat) (lastW8 D'.size (Go.Proofs.Ytbkgpilmgllkiaa.tk t l l.length))).2) (hwr.size.trans e1) l.length
      rw [← e3]
      have e4 : blocksN (Go.Proofs.Ytbkgpilmgllkiaa.tk t l l.length).h (Go.Proofs.Ytbkgpilmgllkiaa.tk t l l.length).l.length = blocksN t.h l.length := by rw [hlen]; rfl
      rw [← e4]
      exact k1.mono (by omega) (by omega)
  · have e2 : (LayS F S1 t.b D').D = D' := rfl
    rw [e2] at hw0 k1 ⊢
    have hl0 : 0 < l.length := by
      rcases Nat.eq_zero_or_pos l.length with h0 | h0
      · rw [hlen, h0] at hm; simp at hm
      · exact h0
    refine ⟨_, 0, 0, 0, 0, rfl, ⟨_, k2⟩, .inr ⟨⟨rfl, rfl, rfl, rfl⟩, lay_dead hk h6 (Nat.le_refl _) hl0 hw0 ⟨G'', ?_, hfar w' k3, hsub _ k4⟩⟩⟩
    have e3 := hk.end0 (D' := (write D' (lastAd (Go.Proofs.Ytbkgpilmgllkiaa.tk t l l.length) : Nat) (lastW8 D'.size (Go.Proofs.Ytbkgpilmgllkiaa.tk t l l.length))).2) ((write_size2 _ _ _).1.trans e1) l.length
    rw [← e3]
    exact k1.mono (by omega) (by omega)
end
end Go.Proofs.Ytbkgpilmgllkiaa

namespace Go.Proofs.Ytbkgpilmgllkiaa
open Go.ChangeShapes Go.WideShapes Go.ChangeAt Go.RowKit

/-- Lay's answer: an error of Write, or what its writer comes to -/
def LayTo (w : World) (G : Nat → Prop) (p : Wp) (F : Fs) (n : Nat) (width : Int) (l : List Tup) (e : Ending) (w' : World) : Prop :=
  (∃ er, e = .returned (.tuple #[fileV 0 0 0 0, .int .i64 er]) ∧ WErr F width (l.length : Int) er ∧ SysTo w G p F n w') ∨
  (∃ t S1, (WArgs F width (l.length : Int) ∧ F.D.size ≤ F.A.room - F.A.used ∧ (t.k : Int) = width ∧ t.h = holdsI F.D.size width ∧ t.blocks = blocksN t.h l.length ∧ Taken F.S S1 t.first t.blocks ∧ t.first ≤ 2000000 ∧ ∀ q ∈ F.A.st, q.1 ≠ t.b) ∧
    ((∃ er, e = .returned (.tuple #[fileV 0 0 0 0, .int .i64 er]) ∧ LayUnfit w G p F n t l er w') ∨ (∃ er, e = .returned (.tuple #[fileV 0 0 0 0, .int .i64 er]) ∧ LayDead w G p F n t l er w') ∨
     (e = .returned (.tuple #[fileV t.first t.blocks t.k l.length, .int .i64 0]) ∧ LayDone w G p F n t S1 l w')))
section
variable {w w0 wr : World} {G : Nat → Prop} {p : Wp} {F : Fs} {n x : Nat} {t : Wt} {S1 : Sp} {l : List Tup}
theorem lay_own {F' : Fs} {n' R : Nat} {w3 : World} (h : SysTo w0 G p F' n' wr) (hb0 : Below w.heap.size w w0) (hG : ∀ k, G k → k < w.heap.size) (hR1 : w.heap.size ≤ R) (hR2 : R < w0.heap.size) (hst : ∀ q ∈ F'.A.st, q.1 ≠ R) (hf : Far (fun k => k = R) wr w3) : SysTo w G p F' n' w3 := h.own hb0 hR1 hR2 hG hst hf
end

set_option maxHeartbeats 4000000 in
set_option maxRecDepth 100000 in
theorem flay_any {w : World} {G : Nat → Prop} {p : Wp} {F : Fs} {n : Nat} (h : Sys w G p F n) (width : Int) {A : Option Addr} {m c : Nat} {l : List Tup} (hl : ReadsT w w.heap.size A m l) (hlG : 0 < m → ∀ b off, A = some ⟨b, off, none⟩ → ¬ G b) (hn : n + l.length + 1 ≤ 1000000) :
    Calls Try.prog 11 #[.pointer (some ⟨p.w, 0, none⟩), .int .i64 width, .slice A m c] w (LayTo w G p F n width l) := by
  obtain ⟨w0, hw0⟩ : ∃ w0, w0 = w.alloc (.cells #[.int .i64 0, .int .i64 0, .int .i64 0, .int .i64 0] 30) := ⟨_, rfl⟩
  have hb0 : Below w.heap.size w w0 := by rw [hw0]; exact (Below.refl w.heap.size w).alloc (Nat.le_refl _) _
  have hr0 : Row w0 w.heap.size 30 [.int .i64 0, .int .i64 0, .int .i64 0, .int .i64 0] := by rw [hw0]; exact heap_alloc_new _ _
  have hlen := hl.1
  have HG : Hid (∀ k, G k → k < w.heap.size) := fun k hk => h.lt hk
  have hwri : Calls Try.prog 34 #[.pointer (some ⟨p.w, 0, none⟩), .int .i64 width, .int .i64 m] (w.alloc (.cells #[.int .i64 0, .int .i64 0, .int .i64 0, .int .i64 0] 30)) (WriteTo w0 G p F n width (m : Int)) := by rw [← hw0]; exact fwrite_any (h.below hb0) width (m : Int)
  have HWRI := Lib.hid hwri
  have HB0 : Hid (Below w.heap.size w w0) := hb0
  have HR0 : Hid (Row w0 w.heap.size 30 [.int .i64 0, .int .i64 0, .int .i64 0, .int .i64 0]) := hr0
  have HST : Hid (∀ q ∈ F.A.st, q.1 < w.heap.size) := fun q hq => (h.buf hq).1.lt
  have HSOK := Lib.hid h.sok
  have HLR : Hid (ReadsT w0 w.heap.size A m l) := hl.keep hb0
  have HLG := Lib.hid hlG
  have HNGR : Hid (¬ G w.heap.size) := fun hg => by have := HG.out _ hg; omega
  have HN := Lib.hid hn
  have HLEN := Lib.hid hlen
  clear hwri hl hlG hn hb0 hr0 h hw0
  subst hlen
  generalize hPO : LayTo w G p F n width l = POST at *
  replace hPO := Lib.hid hPO
  go_enter_defers Try.func11, Try.ntmps11
  go_wp2_with fail
  refine HWRI.out.mono ?_
  rintro e w1 (⟨er, rfl, hwe, hs1⟩ | ⟨x, t, S1, rfl, hwa, hrm, htk, htb, hth, htl, htbl, htt, hok, hN⟩)
  · have HR1 : Hid (Row w1 w.heap.size 30 [.int .i64 0, .int .i64 0, .int .i64 0, .int .i64 0]) := hs1.row HR0.out HNGR.out
    have HS1 := Lib.hid hs1
    have HWE := Lib.hid hwe
    clear hs1 hwe HWRI
    have her : (er != 0) = true := by
      rcases HWE.out with ⟨rfl, _⟩ | ⟨rfl, _⟩ | ⟨rfl, _⟩ <;> rfl
    have z0 : w1.cell? ⟨w.heap.size, 0, none⟩ = some (.int .i64 0) := HR1.out.cell 0
    have z1 : w1.cell? ⟨w.heap.size, 1, none⟩ = some (.int .i64 0) := HR1.out.cell 1
    have z2 : w1.cell? ⟨w.heap.size, 2, none⟩ = some (.int .i64 0) := HR1.out.cell 2
    have z3 : w1.cell? ⟨w.heap.size, 3, none⟩ = some (.int .i64 0) := HR1.out.cell 3
    have f0 := HR1.out.free 0
    have f1 := HR1.out.free 1
    have f2 := HR1.out.free 2
    have f3 := HR1.out.free 3
    go_wp2
    have HR9 : Hid (Row ((((w1.setCell ⟨w.heap.size, 0, none⟩ (.int .i64 0)).setCell ⟨w.heap.size, 1, none⟩ (.int .i64 0)).setCell ⟨w.heap.size, 2, none⟩ (.int .i64 0)).setCell ⟨w.heap.size, 3, none⟩ (.int .i64 0)) w.heap.size 30 [.int .i64 0, .int .i64 0, .int .i64 0, .int .i64 0]) := (((HR1.out.set 0 (.int .i64 0)).set 1 (.int .i64 0)).set 2 (.int .i64 0)).set 3 (.int .i64 0)
    have HF9 := Lib.hid (Far.four w1 w.heap.size (.int .i64 0) (.int .i64 0) (.int .i64 0) (.int .i64 0))
    have r0 := HR9.out.cell 0
    have r1 := HR9.out.cell 1
    have r2 := HR9.out.cell 2
    have r3 := HR9.out.cell 3
    simp only [List.getElem?_cons_zero, List.getElem?_cons_succ] at r0 r1 r2 r3
    exact ⟨.tuple #[.agg #[.int .i64 0, .int .i64 0, .int .i64 0, .int .i64 0], .int .i64 er], by simp [results, Try.results11, go_sem, r0, r1, r2, r3], by rw [← hPO.out]; exact .inl ⟨er, rfl, HWE.out, lay_own HS1.out HB0.out HG.out (Nat.le_refl _) HR0.out.lt (fun q hq => Nat.ne_of_lt (HST.out q hq)) HF9.out⟩⟩
  · obtain ⟨k1, k2, k3, G1, k4, k5, k6, k7, k8⟩ := hN
    have hwp := hok.h.1
    have hlb : l.length ≤ 1000000 := by have := HN.out; omega
    have hbb : t.bound = l.length := by omega
    have HOK : Hid (LayOk w0 F n x t S1 l) := ⟨HN.out, HSOK.out, htt, by rw [htbl, hbb], hok, hbb, k1, k2, k3, fun q hq => Nat.lt_of_lt_of_le (HST.out q hq) HB0.out.size⟩
    have HTOP : Hid (WArgs F width (l.length : Int) ∧ F.D.size ≤ F.A.room - F.A.used ∧ (t.k : Int) = width ∧ t.h = holdsI F.D.size width ∧ t.blocks = blocksN t.h l.length ∧ Taken F.S S1 t.first t.blocks ∧ t.first ≤ 2000000 ∧ ∀ q ∈ F.A.st, q.1 ≠ t.b) := ⟨hwa, hrm, htk, hth, by rw [htbl, hbb], htt, hok.first, fun q hq e => by have := HST.out q hq; have := HB0.out.size; omega⟩
    have HAT0 : Hid (LayAt w0 G p F n x t S1 l 0 w1) := by
      refine ⟨G1, F.D, k4, ?_, ⟨k6.x, k6.b, k6.g⟩, k7, k8, ?_, wstand_nil (by unfold tk; simp), by simp⟩
      · have e : tk t l 0 = t := by unfold tk; rw [List.take_zero, ← htl]
        rw [e]; exact k5
      · rw [Nat.zero_div]; exact Wrote.refl _
    have HEND : Hid (∀ (F' : Fs) (n' : Nat) w8 w9, (∀ q ∈ F'.A.st, q ∈ F.A.st ∨ q.1 = t.b) → SysTo w0 G p F' n' w8 → Far (fun k => k = w.heap.size) w8 w9 → SysTo w G p F' n' w9) := fun F' n' w8 w9 hst hs hf => lay_own hs HB0.out HG.out (Nat.le_refl _) HR0.out.lt (fun q hq e => by
      rcases hst q hq with h | h
      · have := HST.out q h; omega
      · have := HR0.out.lt; omega) hf
    clear hwa hrm htk hth hwp htbl htt hok k1 k2 k3 k4 k5 k6 k7 k8 HWRI hbb htl htb
    go_wp2_with fail
    go_loopw [28] (fun iv wr => ∃ i : Nat, i ≤ l.length ∧ iv = .int .i64 (i : Int) ∧ Hid (LayAt w0 G p F n x t S1 l i wr)) (fun iv _ => l.length - (intOf iv).toNat)
    case atStart => exact ⟨0, Nat.zero_le _, rfl, HAT0.out⟩
    case round =>
      obtain ⟨i, hi, rfl, HAT⟩ := hrel
      by_cases hlt : i < l.length
      · have hfw : Far G w0 wr := by obtain ⟨_, _, _, _, _, h, _⟩ := HAT.out; exact h
        obtain ⟨bb, off, tu, rfl, hbl, q0, q1, q2, q3, q4, _, htu⟩ := (HLR.out.far HB0.out.size hfw fun hm b off e => HLG.out hm b off e).at_ hlt
        have hi0 : (0 : Int) ≤ (i : Int) := by omega
        have hi1 : (i : Int) < (l.length : Int) := by omega
        have g0 : decide ((i : Int) < (l.length : Int)) = true := by simpa using hlt
        have HPUT := Lib.hid (lay_put HOK.out HAT.out hlt htu.out ((Below.refl wr.heap.size wr).alloc (Nat.le_refl _) (.cells #[.int .i64 tu.a, .int .i64 tu.b, .int .i64 tu.c, .int .i64 tu.d, .int .i64 tu.e] 58)))
        clear hfw
        obtain ⟨ta, tb, tc, td, te⟩ := tu
        simp only at q0 q1 q2 q3 q4 HPUT
        go_wp2_with fail
        refine HPUT.out.mono ?_
        rintro e w5 ⟨er, rfl, ⟨rfl, hno, hat⟩ | ⟨rfl, hat⟩ | ⟨hdead, l', hsh1, hsh2⟩⟩
        · have hfw : Far G w0 w5 := by obtain ⟨_, _, _, _, _, h, _⟩ := hat; exact h
          have HR5 : Hid (Row w5 w.heap.size 30 [.int .i64 0, .int .i64 0, .int .i64 0, .int .i64 0]) := hfw.row HR0.out HNGR.out
          have HAT5 := Lib.hid hat
          have HNO := Lib.hid hno
          clear hfw hat hno HPUT q0 q1 q2 q3 q4 HAT
          have z0 : w5.cell? ⟨w.heap.size, 0, none⟩ = some (.int .i64 0) := HR5.out.cell 0
          have z1 : w5.cell? ⟨w.heap.size, 1, none⟩ = some (.int .i64 0) := HR5.out.cell 1
          have z2 : w5.cell? ⟨w.heap.size, 2, none⟩ = some (.int .i64 0) := HR5.out.cell 2
          have z3 : w5.cell? ⟨w.heap.size, 3, none⟩ = some (.int .i64 0) := HR5.out.cell 3
          have f0 := HR5.out.free 0
          have f1 := HR5.out.free 1
          have f2 := HR5.out.free 2
          have f3 := HR5.out.free 3
          have HR9 : Hid (Row ((((w5.setCell ⟨w.heap.size, 0, none⟩ (.int .i64 0)).setCell ⟨w.heap.size, 1, none⟩ (.int .i64 0)).setCell ⟨w.heap.size, 2, none⟩ (.int .i64 0)).setCell ⟨w.heap.size, 3, none⟩ (.int .i64 0)) w.heap.size 30 [.int .i64 0, .int .i64 0, .int .i64 0, .int .i64 0]) := (((HR5.out.set 0 (.int .i64 0)).set 1 (.int .i64 0)).set 2 (.int .i64 0)).set 3 (.int .i64 0)
          have HF9 := Lib.hid (Far.four w5 w.heap.size (.int .i64 0) (.int .i64 0) (.int .i64 0) (.int .i64 0))
          have HDR := fun u => lay_drop u HOK.out HAT5.out (Nat.le_of_lt hlt) HB0.out HG.out (Nat.le_refl _) HR0.out.lt HR5.out HF9.out HR9.out
          replace HDR := Lib.hid HDR
          clear HAT5 HR9 HF9
          go_wp2
          refine leaves_cons (f := 32) (args := #[.pointer (some ⟨x, 0, none⟩)]) (by simp) (by simp [go_sem]) ?_
          refine (HDR.out _).mono ?_
          rintro e u' w'' ⟨rfl, rfl, hr9, D', m, hw9, hs9⟩
          have HR10 := Lib.hid hr9
          have HFN : Hid (POST (.returned (.tuple #[.agg #[.int .i64 0, .int .i64 0, .int .i64 0, .int .i64 0], .int .i64 1])) w'') := by rw [← hPO.out]; exact .inr ⟨t, S1, HTOP.out, .inl ⟨1, rfl, rfl, HNO.out, D', m, hw9, hs9⟩⟩
          have r0 := HR10.out.cell 0
          have r1 := HR10.out.cell 1
          have r2 := HR10.out.cell 2
          have r3 := HR10.out.cell 3
          simp only [List.getElem?_cons_zero, List.getElem?_cons_succ] at r0 r1 r2 r3
          exact ⟨.tuple #[.agg #[.int .i64 0, .int .i64 0, .int .i64 0, .int .i64 0], .int .i64 1], by simp [results, Try.results11, go_sem, r0, r1, r2, r3], HFN.out⟩
        · have HAT5 := Lib.hid hat
          clear hat HPUT q0 q1 q2 q3 q4 HAT
          go_wp2
          go_roundw
          case rel => exact ⟨i + 1, by omega, by go_num, HAT5.out⟩
          case measure => simp [intOf]; omega
        · obtain ⟨hne, D1, m, j, ws, e1, e2, e3, e4, hs5⟩ := hdead
          have HR5 : Hid (Row w5 w.heap.size 30 [.int .i64 0, .int .i64 0, .int .i64 0, .int .i64 0]) := hs5.row HR0.out HNGR.out
          have her : (er != 0) = true := by simpa using hne
          have z0 : w5.cell? ⟨w.heap.size, 0, none⟩ = some (.int .i64 0) := HR5.out.cell 0
          have z1 : w5.cell? ⟨w.heap.size, 1, none⟩ = some (.int .i64 0) := HR5.out.cell 1
          have z2 : w5.cell? ⟨w.heap.size, 2, none⟩ = some (.int .i64 0) := HR5.out.cell 2
          have z3 : w5.cell? ⟨w.heap.size, 3, none⟩ = some (.int .i64 0) := HR5.out.cell 3
          have f0 := HR5.out.free 0
          have f1 := HR5.out.free 1
          have f2 := HR5.out.free 2
          have f3 := HR5.out.free 3
          have HR9 : Hid (Row ((((w5.setCell ⟨w.heap.size, 0, none⟩ (.int .i64 0)).setCell ⟨w.heap.size, 1, none⟩ (.int .i64 0)).setCell ⟨w.heap.size, 2, none⟩ (.int .i64 0)).setCell ⟨w.heap.size, 3, none⟩ (.int .i64 0)) w.heap.size 30 [.int .i64 0, .int .i64 0, .int .i64 0, .int .i64 0]) := (((HR5.out.set 0 (.int .i64 0)).set 1 (.int .i64 0)).set 2 (.int .i64 0)).set 3 (.int .i64 0)
          have HF9 := Lib.hid (Far.four w5 w.heap.size (.int .i64 0) (.int .i64 0) (.int .i64 0) (.int .i64 0))
          have HS9 := Lib.hid (HEND.out _ _ _ _ layE_st hs5 HF9.out)
          have HFN : Hid (POST (.returned (.tuple #[.agg #[.int .i64 0, .int .i64 0, .int .i64 0, .int .i64 0], .int .i64 er])) ((((w5.setCell ⟨w.heap.size, 0, none⟩ (.int .i64 0)).setCell ⟨w.heap.size, 1, none⟩ (.int .i64 0)).setCell ⟨w.heap.size, 2, none⟩ (.int .i64 0)).setCell ⟨w.heap.size, 3, none⟩ (.int .i64 0))) := by rw [← hPO.out]; exact .inr ⟨t, S1, HTOP.out, .inr (.inl ⟨er, rfl, hne, D1, m, j, ws, e1, e2, e3, e4, HS9.out⟩)⟩
          have hsh : Hid (Row ((((w5.setCell ⟨w.heap.size, 0, none⟩ (.int .i64 0)).setCell ⟨w.heap.size, 1, none⟩ (.int .i64 0)).setCell ⟨w.heap.size, 2, none⟩ (.int .i64 0)).setCell ⟨w.heap.size, 3, none⟩ (.int .i64 0)) x 136 (wrC p { t with l := l' })) ∧ Hid (Row ((((w5.setCell ⟨w.heap.size, 0, none⟩ (.int .i64 0)).setCell ⟨w.heap.size, 1, none⟩ (.int .i64 0)).setCell ⟨w.heap.size, 2, none⟩ (.int .i64 0)).setCell ⟨w.heap.size, 3, none⟩ (.int .i64 0)) t.b 130 [.slice none 0 0]) := ⟨HF9.out.row hsh1 (fun e => by have := HOK.out.x; have := HR0.out.lt; omega), HF9.out.row hsh2 (fun e => by have := HOK.out.b; have := HR0.out.lt; omega)⟩
          clear hne e1 e2 e3 e4 hs5 HS9 HF9 hsh1 hsh2 HPUT q0 q1 q2 q3 q4 HAT
          go_wp2
          refine leaves_cons (f := 32) (args := #[.pointer (some ⟨x, 0, none⟩)]) (by simp) (by simp [go_sem]) ?_
          refine (wdrop_def_shut _ (hsh.1.out) (hsh.2.out)).mono ?_
          rintro e u' w'' ⟨rfl, rfl, rfl⟩
          have r0 := HR9.out.cell 0
          have r1 := HR9.out.cell 1
          have r2 := HR9.out.cell 2
          have r3 := HR9.out.cell 3
          simp only [List.getElem?_cons_zero, List.getElem?_cons_succ] at r0 r1 r2 r3
          exact ⟨.tuple #[.agg #[.int .i64 0, .int .i64 0, .int .i64 0, .int .i64 0], .int .i64 er], by simp [results, Try.results11, go_sem, r0, r1, r2, r3], HFN.out⟩
      · obtain rfl : i = l.length := by omega
        have g0 : decide ((l.length : Int) < (l.length : Int)) = false := by simp
        have HCL := Lib.hid (lay_close HOK.out HAT.out)
        unfold fileV at HCL
        clear HAT
        go_wp2_with fail
        refine HCL.out.mono ?_
        rintro e w5 ⟨er, x1, x2, x3, x4, rfl, ⟨l', hsh1, hsh2⟩, hcase⟩
        have hs5 : Row w5 w.heap.size 30 [.int .i64 0, .int .i64 0, .int .i64 0, .int .i64 0] := by
          rcases hcase with ⟨_, _, _, _, _, _, h⟩ | ⟨_, _, _, _, _, _, _, _, _, _, h⟩
          · exact h.row HR0.out HNGR.out
          · exact h.row HR0.out HNGR.out
        have HR5 := Lib.hid hs5
        have z0 : w5.cell? ⟨w.heap.size, 0, none⟩ = some (.int .i64 0) := HR5.out.cell 0
        have z1 : w5.cell? ⟨w.heap.size, 1, none⟩ = some (.int .i64 0) := HR5.out.cell 1
        have z2 : w5.cell? ⟨w.heap.size, 2, none⟩ = some (.int .i64 0) := HR5.out.cell 2
        have z3 : w5.cell? ⟨w.heap.size, 3, none⟩ = some (.int .i64 0) := HR5.out.cell 3
        have f0 := HR5.out.free 0
        have f1 := HR5.out.free 1
        have f2 := HR5.out.free 2
        have f3 := HR5.out.free 3
        have HR9 : Hid (Row ((((w5.setCell ⟨w.heap.size, 0, none⟩ (.int .i64 x1)).setCell ⟨w.heap.size, 1, none⟩ (.int .i64 x2)).setCell ⟨w.heap.size, 2, none⟩ (.int .i64 x3)).setCell ⟨w.heap.size, 3, none⟩ (.int .i64 x4)) w.heap.size 30 [.int .i64 x1, .int .i64 x2, .int .i64 x3, .int .i64 x4]) := (((HR5.out.set 0 (.int .i64 x1)).set 1 (.int .i64 x2)).set 2 (.int .i64 x3)).set 3 (.int .i64 x4)
        have HF9 := Lib.hid (Far.four w5 w.heap.size (.int .i64 x1) (.int .i64 x2) (.int .i64 x3) (.int .i64 x4))
        have HFN : Hid (POST (.returned (.tuple #[.agg #[.int .i64 x1, .int .i64 x2, .int .i64 x3, .int .i64 x4], .int .i64 er])) ((((w5.setCell ⟨w.heap.size, 0, none⟩ (.int .i64 x1)).setCell ⟨w.heap.size, 1, none⟩ (.int .i64 x2)).setCell ⟨w.heap.size, 2, none⟩ (.int .i64 x3)).setCell ⟨w.heap.size, 3, none⟩ (.int .i64 x4))) := by
          rw [← hPO.out]
          rcases hcase with ⟨rfl, ⟨rfl, rfl, rfl, rfl⟩, e1, D', e2, e3, e4⟩ | ⟨⟨rfl, rfl, rfl, rfl⟩, hne, D1, m, j, ws, e1, e2, e3, e4, e5⟩
          · exact .inr ⟨t, S1, HTOP.out, .inr (.inr ⟨rfl, e1, D', e2, e3, HEND.out _ _ _ _ layE_st e4 HF9.out⟩)⟩
          · exact .inr ⟨t, S1, HTOP.out, .inr (.inl ⟨er, rfl, hne, D1, m, j, ws, e1, e2, e3, e4, HEND.out _ _ _ _ layE_st e5 HF9.out⟩)⟩
        have hsh : Hid (Row ((((w5.setCell ⟨w.heap.size, 0, none⟩ (.int .i64 x1)).setCell ⟨w.heap.size, 1, none⟩ (.int .i64 x2)).setCell ⟨w.heap.size, 2, none⟩ (.int .i64 x3)).setCell ⟨w.heap.size, 3, none⟩ (.int .i64 x4)) x 136 (wrC p { t with l := l' })) ∧ Hid (Row ((((w5.setCell ⟨w.heap.size, 0, none⟩ (.int .i64 x1)).setCell ⟨w.heap.size, 1, none⟩ (.int .i64 x2)).setCell ⟨w.heap.size, 2, none⟩ (.int .i64 x3)).setCell ⟨w.heap.size, 3, none⟩ (.int .i64 x4)) t.b 130 [.slice none 0 0]) := ⟨HF9.out.row hsh1 (fun e => by have := HOK.out.x; have := HR0.out.lt; omega), HF9.out.row hsh2 (fun e => by have := HOK.out.b; have := HR0.out.lt; omega)⟩
        clear hcase hs5 HF9 hsh1 hsh2 HCL
        go_wp2
        refine leaves_cons (f := 32) (args := #[.pointer (some ⟨x, 0, none⟩)]) (by simp) (by simp [go_sem]) ?_
        refine (wdrop_def_shut _ (hsh.1.out) (hsh.2.out)).mono ?_
        rintro e u' w'' ⟨rfl, rfl, rfl⟩
        have r0 := HR9.out.cell 0
        have r1 := HR9.out.cell 1
        have r2 := HR9.out.cell 2
        have r3 := HR9.out.cell 3
        simp only [List.getElem?_cons_zero, List.getElem?_cons_succ] at r0 r1 r2 r3
        exact ⟨.tuple #[.agg #[.int .i64 x1, .int .i64 x2, .int .i64 x3, .int .i64 x4], .int .i64 er], by simp [results, Try.results11, go_sem, r0, r1, r2, r3], HFN.out⟩
end Go.Proofs.Ytbkgpilmgllkiaa

namespace Go.Proofs.Ytbkgpilmgllkiaa
open Go.ChangeShapes Go.WideShapes Go.ChangeAt Go.RowKit

theorem ownT_row {w : World} {base n : Nat} {v : Value} {l : List Tup} (h : w.ownsRow base 58 5 v n (flatV l)) {k : Nat} (hk : v.ownBlock = some k) : (∃ cs, Row w k 58 cs) ∧ base ≤ k ∧ k < w.heap.size := by
  obtain ⟨_, h2⟩ := h
  rcases h2 with ⟨rfl, _⟩ | ⟨g, cap, cur, rfl, hg, hh, _⟩
  · cases hk
  · injection hk with hk
    subst hk
    exact ⟨⟨cur.toList, hh⟩, hg, lt_of_some hh⟩
def tr (r : Rt) (i : Nat) : Rt := { r with pos := i }
/-- pos tuples were told, cnt of them are in the list v -/
def LisAt (w : World) (G : Nat → Prop) (p : Wp) (F : Fs) (n x : Nat) (r : Rt) (l : List Tup) (base pos cnt : Nat) (v : Value) (wr : World) : Prop :=
  ∃ G' D' ws, Sys wr G' p (LayS F F.S r.b D') (n + pos) ∧ RMem wr x p (tr r pos) F.D.size ws ∧ ROut G' x (tr r pos) ∧ Far G w wr ∧ (∀ k, G' k → G k ∨ w.heap.size ≤ k) ∧ Wrote F.D D' (blocksN r.h pos) ∧ (∀ i, D'.now i = F.D.now i) ∧ RHold D' (tr r pos) l ws ∧
    wr.ownsRow base 58 5 v cnt (flatV (l.take cnt)) ∧ (∀ k, v.ownBlock = some k → ¬ G' k) ∧ base ≤ wr.heap.size
def LisDead (w : World) (G : Nat → Prop) (p : Wp) (F : Fs) (n : Nat) (r : Rt) (er : Int) (wr : World) : Prop :=
  er ≠ 0 ∧ ∃ D1 m i, Wrote F.D D1 m ∧ er = (read D1 i).1 ∧ (((r.first + r.blocks : Nat) : Int) ≤ F.D.blocks → right D1 i = true) ∧ (∀ j, (read D1 i).2.now j = F.D.now j) ∧ SysTo w G p (LayE F F.S r.b (read D1 i).2) (n + r.count + 1) wr
structure LisOk (w : World) (F : Fs) (n x : Nat) (r : Rt) (l : List Tup) (base : Nat) : Prop where
  n : n + r.count + 1 ≤ 1000000
  ok : RtOk { r with pos := 0 } F.D.size
  blocks : r.blocks = blocksN r.h r.count
  hx : w.heap.size ≤ x
  hb : w.heap.size ≤ r.b
  hg : w.heap.size ≤ r.g
  st : ∀ q ∈ F.A.st, q.1 < w.heap.size
  hbase : x < base ∧ r.b < base ∧ r.g < base
section
variable {w wr : World} {G : Nat → Prop} {p : Wp} {F : Fs} {n x : Nat} {r : Rt} {l : List Tup} {base pos cnt : Nat} {v : Value}
theorem LisOk.at_ (hk : LisOk w F n x r l base) (hp : pos ≤ r.count) : RtOk (tr r pos) F.D.size := ⟨hk.ok.k, hk.ok.h, hk.ok.sz, ⟨hk.ok.count.1, hp⟩, hk.ok.first⟩
theorem LisOk.words (hk : LisOk w F n x r l base) (D' : St) : wordsAt (LayS F F.S r.b D').A.st r.b = some F.D.size :=
  wordsAt_new _ _ _ fun q hq e => by have := hk.st q hq; have := hk.hb; omega
theorem LisAt.below (h : LisAt w G p F n x r l base pos cnt v wr) {W : World} (hb : Below wr.heap.size wr W) : LisAt w G p F n x r l base pos cnt v W := by
  obtain ⟨G', D', ws, h1, h2, h3, h4, h5, h6, h7, h8, h9, h10, h11⟩ := h
  exact ⟨G', D', ws, h1.below hb, h2.below hb, h3, h4.trans (Far.of_below hb fun _ => False) fun _ hf => hf.elim, h5, h6, h7, h8, ownT_keep h9 hb, h10, Nat.le_trans h11 hb.size⟩
theorem blocks_next {h i : Nat} (hh : 0 < h) : blocksN h (i + 1) = if i % h = 0 then blocksN h i + 1 else blocksN h i := by
  have h1 := (blocks_succ (c := i) hh).2.2
  have h2 := blocks_pos (c := i + 1) hh (by omega)
  by_cases h0 : i % h = 0
  · rw [if_pos h0, blocks_full h0]; omega
  · rw [if_neg h0]
    unfold blocksN at h1 h2 ⊢
    rw [if_pos (show 0 < i % h by omega)]
    omega
/-- one more tuple is told -/
theorem lis_next (hk : LisOk w F n x r l base) (h : LisAt w G p F n x r l base pos pos v wr) (hp : pos < r.count) :
    Calls Try.prog 31 #[.pointer (some ⟨x, 0, none⟩)] wr fun e w' => (∃ t : Tup, e = .returned (.tuple #[.agg #[.int .i64 t.a, .int .i64 t.b, .int .i64 t.c, .int .i64 t.d, .int .i64 t.e], .bool true, .int .i64 0]) ∧ l[pos]? = some t ∧ LisAt w G p F n x r l base (pos + 1) pos v w') ∨
      (∃ er : Int, e = .returned (.tuple #[.agg #[.int .i64 0, .int .i64 0, .int .i64 0, .int .i64 0, .int .i64 0], .bool false, .int .i64 er]) ∧ LisDead w G p F n r er w' ∧ RShut w' x p (tr r pos)) := by
  obtain ⟨G', D', ws, h1, h2, h3, h4, h5, h6, h7, h8, h9, h10, h11⟩ := h
  have hok := hk.at_ (pos := pos) (by omega)
  have hds : (LayS F F.S r.b D').D.size = F.D.size := h6.size
  have hn := hk.n
  rw [← hds] at hok h2
  have hhp : 0 < r.h := hk.ok.h.1
  have hcnt : l.length = r.count := h8.cnt
  have hown : ∀ k, v.ownBlock = some k → (∃ cs, Row wr k 58 cs) ∧ base ≤ k ∧ k < wr.heap.size := fun k hv => ownT_row h9 hv
  have hlt := h2.lt
  have hout : ∀ G'' : Nat → Prop, (∀ k, G'' k → G' k ∨ wr.heap.size ≤ k) → ROut G'' x (tr r (pos + 1)) := fun G'' hs =>
    ⟨fun hg => (hs _ hg).elim h3.x (Nat.not_le_of_lt hlt.1), fun hg => (hs _ hg).elim h3.b (Nat.not_le_of_lt hlt.2.1), fun hg => (hs _ hg).elim h3.g (Nat.not_le_of_lt hlt.2.2)⟩
  have hsub : ∀ G'' : Nat → Prop, (∀ k, G'' k → G' k ∨ wr.heap.size ≤ k) → ∀ k, G'' k → G k ∨ w.heap.size ≤ k := fun G'' hs k hg => (hs k hg).elim (fun h => h5 k h) fun h => .inr (Nat.le_trans h4.size h)
  by_cases hrd : (tr r pos).pos % (tr r pos).h ≠ 0 ∨ (read (LayS F F.S r.b D').D (((tr r pos).first + (tr r pos).pos / (tr r pos).h : Nat) : Int)).1 = 0
  · obtain ⟨t, ht⟩ : ∃ t, l[pos]? = some t := ⟨_, List.getElem?_eq_getElem (by omega)⟩
    refine (fnext_stand h1 (by omega) hok h2 h3 h8 hp hrd ht).mono ?_
    rintro e w' ⟨rfl, ws', ⟨G'', k1, k2, k3, k4⟩, k5⟩
    have e1 : (nextD D' (tr r pos)).size = D'.size := by unfold nextD; split; exact (now_read _ _ 0).2.1; rfl
    have e2 : ∀ i, (nextD D' (tr r pos)).now i = D'.now i := fun i => by unfold nextD; split; exact (now_read _ _ i).1; rfl
    refine .inl ⟨t, rfl, ht, G'', nextD D' (tr r pos), ws', k1.mono (by omega) (by omega), ?_, hout _ k4, h4.trans k3 ?_, hsub _ k4, ?_, fun i => (e2 i).trans (h7 i), k5, ?_, fun k hv hg => ?_, Nat.le_trans h11 k3.size⟩
    · have e3 : (nextD D' (tr r pos)).size = F.D.size := e1.trans h6.size
      rw [← e3]; exact k2
    · rintro k (hg | rfl | rfl)
      · exact h5 k hg
      · exact .inr hk.hg
      · exact .inr hk.hx
    · rw [blocks_next hhp]
      by_cases h0 : pos % r.h = 0
      · rw [if_pos h0]
        have e4 : nextD D' (tr r pos) = (read D' (((tr r pos).first + (tr r pos).pos / (tr r pos).h : Nat) : Int)).2 := if_pos h0
        rw [e4]
        exact h6.trans (wrote_read (hrd.resolve_left fun hne => hne h0))
      · rw [if_neg h0]
        have e4 : nextD D' (tr r pos) = D' := if_neg h0
        rw [e4]; exact h6
    · refine ownsRow_same h9 fun k hv => k3.block k (hown k hv).2.2 ?_
      have hb := hk.hbase
      rintro (hg | rfl | rfl)
      · exact h10 k hv hg
      · have := (hown _ hv).2.1; have := hb.2.2; exact absurd this (Nat.not_lt_of_le (hown _ hv).2.1)
      · exact absurd hb.1 (Nat.not_lt_of_le (hown _ hv).2.1)
    · exact (k4 k hg).elim (h10 k hv) (Nat.not_le_of_lt (hown k hv).2.2)
  · have hmid : pos % r.h = 0 := Decidable.byContradiction fun h => hrd (.inl h)
    have hne : (read D' (((tr r pos).first + (tr r pos).pos / (tr r pos).h : Nat) : Int)).1 ≠ 0 := fun h => hrd (.inr h)
    have hst : wordsAt (LayS F F.S r.b D').A.st (tr r pos).b = some (LayS F F.S r.b D').D.size := by rw [hds]; exact hk.words D'
    refine (fnext_err h1 (by omega) hok h2 h3 hst hp hmid hne).mono ?_
    rintro e w' ⟨rfl, G'', k1, k2, k3, k4⟩
    refine .inr ⟨_, rfl, ⟨hne, D', _, _, h6, rfl, fun hin => ?_, fun j => ((now_read _ _ j).1).trans (h7 j), G'', ?_, h4.trans k3 ?_, hsub _ k4⟩, k2⟩
    · have hj : pos / r.h < blocksN r.h r.count := by
        have h1 := blocks_mul (h := r.h) (c := r.count) hhp
        have h2 := Nat.div_mul_le_self pos r.h
        apply Nat.lt_of_not_le
        intro h3
        have := Nat.mul_le_mul_right r.h h3
        omega
      have hb := hk.blocks
      have e5 : D'.blocks = F.D.blocks := h6.blocks
      have hj2 : r.first + pos / r.h < r.first + r.blocks := by omega
      unfold right
      show (decide ((0 : Int) ≤ ((r.first + pos / r.h : Nat) : Int)) && decide (((r.first + pos / r.h : Nat) : Int) < D'.blocks)) = true
      rw [e5]
      generalize r.first + pos / r.h = z at hj2
      simp; omega
    · have e6 : (read D' (((tr r pos).first + (tr r pos).pos / (tr r pos).h : Nat) : Int)).2.size = F.D.size := (now_read _ _ 0).2.1.trans h6.size
      have : Sys w' G'' p (LayE F F.S r.b (read D' (((tr r pos).first + (tr r pos).pos / (tr r pos).h : Nat) : Int)).2) (n + pos + 1) := by
        have e7 : LayE F F.S r.b (read D' (((tr r pos).first + (tr r pos).pos / (tr r pos).h : Nat) : Int)).2 = ⟨(read D' (((tr r pos).first + (tr r pos).pos / (tr r pos).h : Nat) : Int)).2, release (grant F.A r.b F.D.size) r.b (read D' (((tr r pos).first + (tr r pos).pos / (tr r pos).h : Nat) : Int)).2.size, F.S⟩ := by unfold LayE; rw [e6]
        rw [e7]; exact k1
      exact this.mono (by omega) (by omega)
    · rintro k (hg | rfl | rfl)
      · exact h5 k hg
      · exact .inr hk.hb
      · exact .inr hk.hg
/-- none is left -/
theorem lis_end (hk : LisOk w F n x r l base) (h : LisAt w G p F n x r l base r.count cnt v wr) :
    Calls Try.prog 31 #[.pointer (some ⟨x, 0, none⟩)] wr fun e w' => e = .returned (.tuple #[.agg #[.int .i64 0, .int .i64 0, .int .i64 0, .int .i64 0, .int .i64 0], .bool false, .int .i64 0]) ∧ LisAt w G p F n x r l base r.count cnt v w' := by
  obtain ⟨G', D', ws, h1, h2, r3⟩ := id h
  exact (fnext_end (hk.at_ (Nat.le_refl _)) h2 rfl).mono fun e w' ⟨he, hb⟩ => ⟨he, h.below hb⟩
/-- it is put into the list -/
theorem lis_push {W : World} {v' : Value} (h : LisAt w G p F n x r l base (cnt + 1) cnt v wr) (hk : LisOk w F n x r l base) {t : Tup} (ht : l[cnt]? = some t) (ho : W.ownsRow base 58 5 v' (cnt + 1) (flatV (l.take cnt ++ [t]))) (hf : Far (fun k => v.ownBlock = some k) wr W) (hv : v'.ownBlock = v.ownBlock ∨ v'.ownBlock = some wr.heap.size) (hwb : w.heap.size ≤ base) :
    LisAt w G p F n x r l base (cnt + 1) (cnt + 1) v' W := by
  obtain ⟨G', D', ws, h1, h2, h3, h4, h5, h6, h7, h8, h9, h10, h11⟩ := h
  have hb := hk.hbase
  have hown : ∀ k, v.ownBlock = some k → (∃ cs, Row wr k 58 cs) ∧ base ≤ k ∧ k < wr.heap.size := fun k hv => ownT_row h9 hv
  refine ⟨G', D', ws, h1.touch hf fun k hv => ⟨h10 k hv, fun u hu => ?_⟩, h2.far hf (fun hv => ?_) (fun hv => ?_) (fun hv => ?_), h3, h4.trans hf fun k hv => .inr (Nat.le_trans hwb (hown k hv).2.1), h5, h6, h7, h8, ?_, fun k hv' hg => ?_, Nat.le_trans h11 hf.size⟩
  · obtain ⟨⟨cs, hcs⟩, _⟩ := hown k hv
    exact absurd (hu.typed hcs) (by decide)
  · exact absurd hb.1 (Nat.not_lt_of_le (hown _ hv).2.1)
  · exact absurd hb.2.1 (Nat.not_lt_of_le (hown _ hv).2.1)
  · exact absurd hb.2.2 (Nat.not_lt_of_le (hown _ hv).2.1)
  · rw [List.take_add_one, ht]; exact ho
  · rcases hv with hv | hv
    · exact h10 k (hv ▸ hv') hg
    · rw [hv] at hv'; injection hv' with hv'; subst hv'
      exact Nat.lt_irrefl _ (h1.lt hg)
/-- the reader is closed -/
theorem lis_close (u : FrameMode) (hk : LisOk w F n x r l base) (h : LisAt w G p F n x r l base pos cnt v wr) (hp : pos ≤ r.count) :
    CallsD Try.prog 33 #[.pointer (some ⟨x, 0, none⟩)] u wr fun e u' w' => u' = u ∧ (e = .returned (.tuple #[]) ∧ w'.ownsRow base 58 5 v cnt (flatV (l.take cnt)) ∧ ∃ D', Wrote F.D D' (blocksN r.h pos) ∧ (∀ i, D'.now i = F.D.now i) ∧ SysTo w G p (LayE F F.S r.b D') (n + r.count + 1) w') := by
  obtain ⟨G', D', ws, h1, h2, h3, h4, h5, h6, h7, h8, h9, h10, h11⟩ := h
  have hds : (LayS F F.S r.b D').D.size = F.D.size := h6.size
  have hst : wordsAt (LayS F F.S r.b D').A.st (tr r pos).b = some (LayS F F.S r.b D').D.size := by rw [hds]; exact hk.words D'
  have hown : ∀ k, v.ownBlock = some k → (∃ cs, Row wr k 58 cs) ∧ base ≤ k ∧ k < wr.heap.size := fun k hv => ownT_row h9 hv
  have hn := hk.n
  rw [← hds] at h2
  refine (rclose_def u h1 h2 h3 hst).mono ?_
  rintro e u' w' ⟨rfl, rfl, G'', k1, k2, k3, k4⟩
  refine ⟨rfl, rfl, ownsRow_same h9 fun k hv => k3.block k (hown k hv).2.2 ?_, D', h6, h7, G'', ?_, h4.trans k3 ?_, ?_⟩
  · rintro (hg | rfl)
    · exact h10 k hv hg
    · exact absurd hk.hbase.2.1 (Nat.not_lt_of_le (hown _ hv).2.1)
  · have e7 : LayE F F.S r.b D' = ⟨D', release (grant F.A r.b F.D.size) r.b D'.size, F.S⟩ := by unfold LayE; rw [h6.size]
    rw [e7]
    exact Sys.mono k1 (by omega) (by omega)
  · rintro k (hg | rfl)
    · exact h5 k hg
    · exact .inr hk.hb
  · intro k hg
    exact (k4 k hg).elim (fun h => h5 k h) fun h => .inr (Nat.le_trans h4.size h)
end
end Go.Proofs.Ytbkgpilmgllkiaa

namespace Go.Proofs.Ytbkgpilmgllkiaa
open Go.ChangeShapes Go.WideShapes Go.ChangeAt Go.RowKit

def sliceLen : Value → Nat
  | .slice _ n _ => n
  | _ => 0
theorem ownT_len {w : World} {base n : Nat} {v : Value} {l : List Tup} (h : w.ownsRow base 58 5 v n (flatV l)) : sliceLen v = n := by
  obtain ⟨_, h2⟩ := h
  rcases h2 with ⟨rfl, rfl⟩ | ⟨g, cap, cur, rfl, _⟩ <;> rfl
theorem addr_add0 (b j : Nat) : (⟨b, 0, none⟩ : Addr).add j = ⟨b, j, none⟩ := by unfold Addr.add; split <;> simp_all
/-- List's answer -/
def ListTo (w : World) (G : Nat → Prop) (p : Wp) (F : Fs) (n first nb : Nat) (l : List Tup) (e : Ending) (w' : World) : Prop :=
  (∃ A c b D', e = .returned (.tuple #[.slice A l.length c, .int .i64 0]) ∧ ReadsT w' w'.heap.size A l.length l ∧ (0 < l.length → ∀ b off, A = some ⟨b, off, none⟩ → w.heap.size ≤ b) ∧ Wrote F.D D' nb ∧ (∀ i, D'.now i = F.D.now i) ∧ (∀ q ∈ F.A.st, q.1 ≠ b) ∧ SysTo w G p (LayE F F.S b D') (n + l.length + 1) w') ∨
  (∃ (er : Int) (b m : Nat) (D1 : St) (i : Int), e = .returned (.tuple #[.slice none 0 0, .int .i64 er]) ∧ er ≠ 0 ∧ Wrote F.D D1 m ∧ er = (read D1 i).1 ∧ (((first + nb : Nat) : Int) ≤ F.D.blocks → right D1 i = true) ∧ (∀ q ∈ F.A.st, q.1 ≠ b) ∧ (∀ j, (read D1 i).2.now j = F.D.now j) ∧ SysTo w G p (LayE F F.S b (read D1 i).2) (n + l.length + 1) w')

set_option maxHeartbeats 4000000 in
set_option maxRecDepth 100000 in
theorem flist_ok {w : World} {G : Nat → Prop} {p : Wp} {F : Fs} {n : Nat} (h : Sys w G p F n) (k hh first nb : Nat) (l : List Tup) (hk : 0 < k ∧ k ≤ 5) (hhe : hh = holdsI F.D.size k) (hh0 : 0 < hh) (hnb : nb = blocksN hh l.length) (hcount : l.length ≤ 100000) (hfirst : first ≤ 2000000) (hn : n + l.length + 1 ≤ 1000000)
    (hst : StandsTo F.D first k hh l nb) (hall : ∀ u ∈ l, TupOk u ∧ fitsT k u = true) (hroom : F.D.size ≤ F.A.room - F.A.used) :
    Calls Try.prog 19 #[.pointer (some ⟨p.w, 0, none⟩), .agg #[.int .i64 first, .int .i64 nb, .int .i64 k, .int .i64 l.length]] w (ListTo w G p F n first nb l) := by
  obtain ⟨w0, hw0⟩ : ∃ w0, w0 = w.alloc (.cells #[.int .i64 first, .int .i64 nb, .int .i64 k, .int .i64 l.length] 30) := ⟨_, rfl⟩
  have hb0 : Below w.heap.size w w0 := by rw [hw0]; exact (Below.refl w.heap.size w).alloc (Nat.le_refl _) _
  have hr0 : Row (w.alloc (.cells #[.int .i64 first, .int .i64 nb, .int .i64 k, .int .i64 l.length] 30)) w.heap.size 30 [.int .i64 first, .int .i64 nb, .int .i64 k, .int .i64 l.length] := heap_alloc_new _ _
  have hsz := h.size
  have hhk : hh * k ≤ F.D.size - 2 := by
    rw [hhe]; unfold holdsI
    split
    · omega
    · exact Nat.div_mul_le_self _ _
  have hh254 : hh ≤ 254 := by rw [hhe]; exact Nat.le_trans (holds_le _ _) (by omega)
  have HRD : Hid (Calls Try.prog 29 #[.pointer (some ⟨p.w, 0, none⟩), .agg #[.int .i64 first, .int .i64 nb, .int .i64 k, .int .i64 l.length]] (w.alloc (.cells #[.int .i64 first, .int .i64 nb, .int .i64 k, .int .i64 l.length] 30)) (ReadOk w0 G p F n k hh first nb l.length)) := by
    rw [← hw0]; exact fread_ok (h.below hb0) k hh first nb l.length hhe hh0 hnb (by omega) hroom
  have HST : Hid (∀ q ∈ F.A.st, q.1 < w.heap.size) := fun q hq => (h.buf hq).1.lt
  have HB0 := Lib.hid hb0
  have c0 := hr0.cell 0
  have c1 := hr0.cell 1
  have c2 := hr0.cell 2
  have c3 := hr0.cell 3
  simp only [List.getElem?_cons_zero, List.getElem?_cons_succ] at c0 c1 c2 c3
  have HINIT : Hid (∀ x b g w1 G1 ws, w0.heap.size ≤ x → w0.heap.size ≤ b → w0.heap.size ≤ g → Sys w1 G1 p { F with A := grant F.A b F.D.size } n → RMem w1 x p ⟨k, hh, first, nb, l.length, 0, b, g⟩ F.D.size ws → ROut G1 x ⟨k, hh, first, nb, l.length, 0, b, g⟩ → Far G w0 w1 → (∀ k, G1 k → G k ∨ w0.heap.size ≤ k) →
      LisOk w0 F n x ⟨k, hh, first, nb, l.length, 0, b, g⟩ l w1.heap.size ∧ LisAt w0 G p F n x ⟨k, hh, first, nb, l.length, 0, b, g⟩ l w1.heap.size 0 0 (.slice none 0 0) w1) := by
    intro x b g w1 G1 ws k1 k2 k3 k4 k5 k6 k7 k8
    obtain ⟨l1, l2, l3⟩ := k5.lt
    refine ⟨⟨hn, ⟨hk, ⟨hh0, hhk, hh254⟩, hsz, ⟨show l.length ≤ 100000000 by omega, Nat.zero_le _⟩, hfirst⟩, hnb, k1, k2, k3, fun q hq => Nat.lt_of_lt_of_le (HST.out q hq) HB0.out.size, ⟨l1, l2, l3⟩⟩, G1, F.D, ws, k4, k5, ⟨k6.x, k6.b, k6.g⟩, k7, k8, ?_, fun i => rfl, ⟨?_, rfl, hall, fun h0 => absurd (Nat.zero_mod _) h0⟩, ?_, (fun k hk => by cases hk), Nat.le_refl _⟩
    · show Wrote F.D F.D (blocksN hh 0)
      rw [blocks_zero]; exact Wrote.refl _
    · show StandsTo F.D first k hh l (blocksN hh l.length)
      rw [← hnb]; exact hst
    · rw [List.take_zero]; exact ownT_nil _ _ _
  have hcnt0 : l.length ≤ 100000 := hcount
  have HLOK : Hid (∀ u ∈ l, TupOk u) := fun u hu => (hall u hu).1
  have HNB := Lib.hid hnb
  clear h hhe hh0 hnb hcount hfirst hn hst hall hroom hw0 hb0 hr0 hhk hh254 hsz hk
  generalize hPO : ListTo w G p F n first nb l = POST at *
  replace hPO := Lib.hid hPO
  go_enter_defers Try.func19, Try.ntmps19
  go_wp2_with fail
  refine HRD.out.mono ?_
  rintro e w1 ⟨x, b, g, rfl, k1, k2, k3, G1, k4, ⟨ws, k5⟩, k6, k7, k8⟩
  obtain ⟨hok, hat⟩ := HINIT.out x b g w1 G1 ws k1 k2 k3 k4 k5 k6 k7 k8
  have HOK := Lib.hid hok
  have HAT0 := Lib.hid hat
  have HW1 := Lib.hid k7.size
  have HBW1 : Hid (∀ q ∈ F.A.st, q.1 ≠ b) := fun q hq e => by have := HST.out q hq; have := HB0.out.size; have k2' : w0.heap.size ≤ b := k2; omega
  clear k1 k2 k3 k4 k5 k6 k7 k8 hok hat HINIT HRD c0 c1 c2 c3
  generalize hRT : (⟨k, hh, first, nb, l.length, 0, b, g⟩ : Rt) = rt at HOK HAT0
  have HRC : Hid (rt.count = l.length ∧ rt.b = b ∧ rt.first = first ∧ rt.blocks = nb ∧ rt.h = hh) := by subst hRT; exact ⟨rfl, rfl, rfl, rfl, rfl⟩
  clear hRT
  go_wp2_with fail
  go_loopw [8] (fun iv wr => ∃ i : Nat, i ≤ l.length ∧ sliceLen iv = i ∧ Hid (LisAt w0 G p F n x rt l w1.heap.size i i iv wr)) (fun iv _ => l.length - sliceLen iv)
  case atStart => exact ⟨0, Nat.zero_le _, rfl, HAT0.out⟩
  case round =>
    obtain ⟨i, hi, hsl, HAT⟩ := hrel
    have HSL := Lib.hid hsl
    clear hsl
    by_cases hlt : i < l.length
    · have HNX := Lib.hid (lis_next HOK.out HAT.out (by rw [HRC.out.1]; exact hlt))
      clear HAT
      go_wp2_with fail
      refine HNX.out.mono ?_
      rintro e w5 (⟨t, rfl, ht, hat⟩ | ⟨er, rfl, hdead, hsh⟩)
      · have HAT5 := Lib.hid hat
        have HT := Lib.hid ht
        clear hat ht HNX
        obtain ⟨ta, tb, tc, td, te⟩ := t
        have HB6 : Hid (Below w5.heap.size w5 ((w5.alloc (.cells #[.int .i64 ta, .int .i64 tb, .int .i64 tc, .int .i64 td, .int .i64 te] 58)).alloc (.cells #[.int .i64 ta, .int .i64 tb, .int .i64 tc, .int .i64 td, .int .i64 te] 58))) := ((Below.refl w5.heap.size w5).alloc (Nat.le_refl _) _).alloc ((Below.refl w5.heap.size w5).alloc (Nat.le_refl _) (.cells #[.int .i64 ta, .int .i64 tb, .int .i64 tc, .int .i64 td, .int .i64 te] 58)).size _
        have HAT6 := Lib.hid (HAT5.out.below HB6.out)
        have hrw : Row ((w5.alloc (.cells #[.int .i64 ta, .int .i64 tb, .int .i64 tc, .int .i64 td, .int .i64 te] 58)).alloc (.cells #[.int .i64 ta, .int .i64 tb, .int .i64 tc, .int .i64 td, .int .i64 te] 58)) (w5.alloc (.cells #[.int .i64 ta, .int .i64 tb, .int .i64 tc, .int .i64 td, .int .i64 te] 58)).heap.size 58 (tupC ⟨ta, tb, tc, td, te⟩) := heap_alloc_new _ _
        rw [show (w5.alloc (.cells #[.int .i64 ta, .int .i64 tb, .int .i64 tc, .int .i64 td, .int .i64 te] 58)).heap.size = w5.heap.size + 1 by simp] at hrw
        have HRW := Lib.hid hrw
        have HW5 : Hid (w1.heap.size ≤ w5.heap.size) := by
          obtain ⟨_, _, _, _, _, _, _, _, _, _, _, _, _, h⟩ := HAT5.out
          exact h
        clear hrw
        go_wp2_with (with_reducible refine stopAt 37 ?_)
        unfold Hid
        obtain ⟨G6, D6, ws6, p1, p2, p3, p4, p5, p6, p7, p8, p9, p10, p11⟩ := HAT6.out
        refine wpList_push_tup rfl _ _ rfl p9 rfl ⟨w5.heap.size + 1, 0, none⟩ rfl ⟨ta, tb, tc, td, te⟩ (fun j u hj => ?_) (by omega) ?_ ?_
        · rw [← hj]
          rw [addr_add0]
          exact HRW.out.cell j
        · exact Nat.le_trans HW5.out HB6.out.size
        intro v' W hown hfar hv'
        have HAT7 := Lib.hid (lis_push HAT6.out HOK.out HT.out hown hfar hv' HW1.out)
        have HLN7 := Lib.hid (ownT_len hown)
        clear p1 p2 p3 p4 p5 p6 p7 p8 p9 p10 p11 hown hfar hv'
        go_wp2
        go_roundw
        case rel => exact ⟨i + 1, by omega, HLN7.out, HAT7.out⟩
        case measure => have := HLN7.out; have := HSL.out; simp; omega
      · obtain ⟨hne, D1, m, j, e1, e2, e3, e4, hs5⟩ := hdead
        have her : (er != 0) = true := by simpa using hne
        have HS5 := Lib.hid hs5
        have HSH := Lib.hid hsh
        have HFN : Hid (POST (.returned (.tuple #[.slice none 0 0, .int .i64 er])) (w5.alloc (.cells #[.int .i64 0, .int .i64 0, .int .i64 0, .int .i64 0, .int .i64 0] 58))) := by
          rw [← hPO.out]
          obtain ⟨q1, q2, q3, q4, q5⟩ := HRC.out
          refine .inr ⟨er, b, m, D1, j, rfl, hne, e1, e2, fun hin => e3 (by rw [q3, q4]; exact hin), HBW1.out, e4, ?_⟩
          rw [← q2, ← q1]
          exact (hs5.behind HB0.out).ahead ((Below.refl _ _).alloc (Nat.le_refl _) _)
        clear hne e1 e2 e3 e4 hs5 hsh HNX
        have hbz : Below w5.heap.size w5 (w5.alloc (.cells #[.int .i64 0, .int .i64 0, .int .i64 0, .int .i64 0, .int .i64 0] 58)) := (Below.refl _ _).alloc (Nat.le_refl _) _
        have HSH2 : Hid (RShut (w5.alloc (.cells #[.int .i64 0, .int .i64 0, .int .i64 0, .int .i64 0, .int .i64 0] 58)) x p (tr rt i)) := ⟨HSH.out.1.below hbz HSH.out.1.lt, HSH.out.2.below hbz HSH.out.2.lt⟩
        clear hbz
        go_wp2
        refine leaves_cons (f := 33) (args := #[.pointer (some ⟨x, 0, none⟩)]) (by simp) (by simp [go_sem]) ?_
        refine (rclose_def_shut _ HSH2.out).mono ?_
        rintro e u' w'' ⟨rfl, rfl, rfl⟩
        exact ⟨.tuple #[.slice none 0 0, .int .i64 er], by simp [results, Try.results19, go_sem], HFN.out⟩
    · obtain rfl : i = l.length := by omega
      have hat' := HAT.out
      rw [← HRC.out.1] at hat'
      have HEN := Lib.hid (lis_end HOK.out hat')
      clear HAT hat'
      go_wp2_with fail
      refine HEN.out.mono ?_
      rintro e w5 ⟨rfl, hat5⟩
      have HAT6 := Lib.hid (hat5.below ((Below.refl w5.heap.size w5).alloc (Nat.le_refl _) (.cells #[.int .i64 0, .int .i64 0, .int .i64 0, .int .i64 0, .int .i64 0] 58)))
      clear hat5 HEN
      go_wp2
      refine leaves_cons (f := 33) (args := #[.pointer (some ⟨x, 0, none⟩)]) (by simp) (by simp [go_sem]) ?_
      refine (lis_close _ HOK.out HAT6.out (Nat.le_refl _)).mono ?_
      rintro e u' w'' ⟨rfl, rfl, hown, D', h1, h2, h3⟩
      rw [HRC.out.1] at hown
      rw [List.take_length] at hown
      obtain ⟨A, c, rfl, hrd, _, _, _, hbase⟩ := ownT_reads hown HLOK.out
      refine ⟨.tuple #[.slice A l.length c, .int .i64 0], by simp [results, Try.results19, go_sem], ?_⟩
      rw [← hPO.out]
      obtain ⟨q1, q2, q3, q4, q5⟩ := HRC.out
      refine .inl ⟨A, c, b, D', rfl, hrd, fun hp b' off e => Nat.le_trans (Nat.le_trans HB0.out.size HW1.out) (hbase hp b' off e), ?_, h2, HBW1.out, ?_⟩
      · rw [HNB.out, ← q5, ← q1]; exact h1
      · rw [← q2, ← q1]; exact h3.behind HB0.out
end Go.Proofs.Ytbkgpilmgllkiaa

namespace Go.Proofs.Ytbkgpilmgllkiaa
open Go.ChangeShapes Go.WideShapes Go.ChangeAt Go.RowKit

set_option maxRecDepth 100000 in
theorem dnew_no (size blocks : Int) (w : World) (h : ¬ (8 ≤ size ∧ size ≤ 256 ∧ 0 ≤ blocks ∧ blocks ≤ 1000000)) :
    Calls Try.prog 38 #[.int .i64 size, .int .i64 blocks] w fun e w' => e = .returned (.tuple #[.pointer none, .int .i64 1]) ∧ w' = w := by
  by_cases h1 : size < 8
  · have g1 : decide (size < 8) = true := by simpa using h1
    go_enter Try.func38, Try.ntmps38
    go_wp2
    go_ret2
    exact ⟨rfl, rfl⟩
  · have g1 : decide (size < 8) = false := by simpa using h1
    by_cases h2 : size > 256
    · have g2 : decide (size > 256) = true := by simpa using h2
      go_enter Try.func38, Try.ntmps38
      go_wp2
      go_ret2
      exact ⟨rfl, rfl⟩
    · have g2 : decide (size > 256) = false := by simpa using h2
      by_cases h3 : blocks < 0
      · have g3 : decide (blocks < 0) = true := by simpa using h3
        go_enter Try.func38, Try.ntmps38
        go_wp2
        go_ret2
        exact ⟨rfl, rfl⟩
      · have g3 : decide (blocks < 0) = false := by simpa using h3
        have g4 : decide (blocks > 1000000) = true := by simp; omega
        go_enter Try.func38, Try.ntmps38
        go_wp2
        go_ret2
        exact ⟨rfl, rfl⟩
/-- the three, made one behind the other, and a work of them -/
theorem sys_mk {wd wa ws : World} {d a s n : Nat} {D : St} {A : Ar} {S : Sp} {Gd Ga Gs : Nat → Prop} (hd : Dev wd Gd d D n) (hb1 : Below wd.heap.size wd wa) (ha : Arn wa Ga a A) (hga : ∀ k, Ga k → wd.heap.size ≤ k) (hst : A.st = []) (hb2 : Below wa.heap.size wa ws) (hs : Spc ws Gs s S) (hgs : ∀ k, Gs k → wa.heap.size ≤ k) :
    Sys (ws.alloc (.cells #[ptr d, ptr a, ptr s] 96)) (fun k => k = ws.heap.size ∨ Gd k ∨ Ga k ∨ Gs k) ⟨ws.heap.size, d, a, s⟩ ⟨D, A, S⟩ n := by
  have hb3 : Below ws.heap.size ws (ws.alloc (.cells #[ptr d, ptr a, ptr s] 96)) := (Below.refl _ _).alloc (Nat.le_refl _) _
  have z1 := hb1.size
  have z2 := hb2.size
  refine ⟨Gd, Ga, Gs, heap_alloc_new _ _, ((hd.below hb1).below (hb2.mono (Nat.le_refl _))).below hb3, ?_, ?_, fun k => Iff.rfl, fun k hk => ⟨fun h => ?_, fun h => ?_, fun h => ?_⟩, fun k hk => ⟨fun h => ?_, fun h => ?_⟩, fun k hk h => ?_, fun q hq => ?_⟩
  · exact (ha.far (Far.of_below hb2 fun _ => False) (fun _ _ h => h) (fun _ _ h => h)).far (Far.of_below hb3 fun _ => False) (fun _ _ h => h) (fun _ _ h => h)
  · exact hs.below hb3
  · have := hd.lt hk; have := hga k h; omega
  · have := hd.lt hk; have := hgs k h; omega
  · have := hd.lt hk; simp only at h; omega
  · have := ha.lt hk; have := hgs k h; omega
  · have := ha.lt hk; simp only at h; omega
  · have := hs.lt hk; simp only at h; omega
  · rw [show (⟨D, A, S⟩ : Fs).A.st = [] from hst] at hq; cases hq
set_option maxHeartbeats 1000000 in
set_option maxRecDepth 100000 in
theorem flay_nil (width : Int) (w : World) : Calls Try.prog 11 #[.pointer none, .int .i64 width, .slice none 0 0] w fun e w' => e = .returned (.tuple #[fileV 0 0 0 0, .int .i64 1]) ∧ Below w.heap.size w w' := by
  have hb := (Below.refl w.heap.size w).alloc (Nat.le_refl _) (.cells #[.int .i64 0, .int .i64 0, .int .i64 0, .int .i64 0] 30)
  have hr0 : Row (w.alloc (.cells #[.int .i64 0, .int .i64 0, .int .i64 0, .int .i64 0] 30)) w.heap.size 30 [.int .i64 0, .int .i64 0, .int .i64 0, .int .i64 0] := heap_alloc_new _ _
  have HW := Lib.hid (fwrite_nil width 0 (w.alloc (.cells #[.int .i64 0, .int .i64 0, .int .i64 0, .int .i64 0] 30)))
  have HB := Lib.hid hb
  have HR := Lib.hid hr0
  clear hb hr0
  go_enter_defers Try.func11, Try.ntmps11
  go_wp2_with fail
  refine HW.out.mono ?_
  rintro e w1 ⟨rfl, hb1⟩
  have HR1 := Lib.hid (HR.out.below hb1 HR.out.lt)
  have HB1 := Lib.hid (HB.out.trans (hb1.mono HB.out.size))
  clear hb1 HB HR HW
  have z0 : w1.cell? ⟨w.heap.size, 0, none⟩ = some (.int .i64 0) := HR1.out.cell 0
  have z1 : w1.cell? ⟨w.heap.size, 1, none⟩ = some (.int .i64 0) := HR1.out.cell 1
  have z2 : w1.cell? ⟨w.heap.size, 2, none⟩ = some (.int .i64 0) := HR1.out.cell 2
  have z3 : w1.cell? ⟨w.heap.size, 3, none⟩ = some (.int .i64 0) := HR1.out.cell 3
  have f0 := HR1.out.free 0
  have f1 := HR1.out.free 1
  have f2 := HR1.out.free 2
  have f3 := HR1.out.free 3
  have HR9 : Hid (Row ((((w1.setCell ⟨w.heap.size, 0, none⟩ (.int .i64 0)).setCell ⟨w.heap.size, 1, none⟩ (.int .i64 0)).setCell ⟨w.heap.size, 2, none⟩ (.int .i64 0)).setCell ⟨w.heap.size, 3, none⟩ (.int .i64 0)) w.heap.size 30 [.int .i64 0, .int .i64 0, .int .i64 0, .int .i64 0]) := (((HR1.out.set 0 (.int .i64 0)).set 1 (.int .i64 0)).set 2 (.int .i64 0)).set 3 (.int .i64 0)
  have HF9 := Lib.hid (Far.four w1 w.heap.size (.int .i64 0) (.int .i64 0) (.int .i64 0) (.int .i64 0))
  go_wp2
  have r0 := HR9.out.cell 0
  have r1 := HR9.out.cell 1
  have r2 := HR9.out.cell 2
  have r3 := HR9.out.cell 3
  simp only [List.getElem?_cons_zero, List.getElem?_cons_succ] at r0 r1 r2 r3
  exact ⟨.tuple #[.agg #[.int .i64 0, .int .i64 0, .int .i64 0, .int .i64 0], .int .i64 1], by simp [results, Try.results11, go_sem, r0, r1, r2, r3], rfl, HB1.out.trans (HF9.out.below HB1.out.size fun b hb => by rw [hb]; exact Nat.le_refl _)⟩
set_option maxHeartbeats 1000000 in
set_option maxRecDepth 100000 in
theorem flist_nil (a b c d : Int) (w : World) : Calls Try.prog 19 #[.pointer none, .agg #[.int .i64 a, .int .i64 b, .int .i64 c, .int .i64 d]] w fun e w' => e = .returned (.tuple #[.slice none 0 0, .int .i64 1]) ∧ Below w.heap.size w w' := by
  have hb := (Below.refl w.heap.size w).alloc (Nat.le_refl _) (.cells #[.int .i64 a, .int .i64 b, .int .i64 c, .int .i64 d] 30)
  have hr0 : Row (w.alloc (.cells #[.int .i64 a, .int .i64 b, .int .i64 c, .int .i64 d] 30)) w.heap.size 30 [.int .i64 a, .int .i64 b, .int .i64 c, .int .i64 d] := heap_alloc_new _ _
  have c0 := hr0.cell 0
  have c1 := hr0.cell 1
  have c2 := hr0.cell 2
  have c3 := hr0.cell 3
  simp only [List.getElem?_cons_zero, List.getElem?_cons_succ] at c0 c1 c2 c3
  have HW := Lib.hid (fread_nil a b c d (w.alloc (.cells #[.int .i64 a, .int .i64 b, .int .i64 c, .int .i64 d] 30)))
  have HB := Lib.hid hb
  clear hb hr0
  go_enter_defers Try.func19, Try.ntmps19
  go_wp2_with fail
  refine HW.out.mono ?_
  rintro e w1 ⟨rfl, hb1⟩
  have HB1 := Lib.hid (HB.out.trans (hb1.mono HB.out.size))
  clear hb1 HB HW
  go_wp2
  exact ⟨.tuple #[.slice none 0 0, .int .i64 1], by simp [results, Try.results19, go_sem], rfl, HB1.out⟩
set_option maxRecDepth 100000 in
theorem ffree_nil (a b c d : Int) (w : World) : Calls Try.prog 22 #[.pointer none, .agg #[.int .i64 a, .int .i64 b, .int .i64 c, .int .i64 d]] w fun e w' => e = .returned (.int .i64 1) ∧ Below w.heap.size w w' := by
  have HB := Lib.hid ((Below.refl w.heap.size w).alloc (Nat.le_refl _) (.cells #[.int .i64 a, .int .i64 b, .int .i64 c, .int .i64 d] 30))
  go_enter Try.func22, Try.ntmps22
  go_wp2
  go_ret
  exact ⟨rfl, HB.out⟩
/-- the space gives -/
theorem sys_give {w : World} {G : Nat → Prop} {p : Wp} {F : Fs} {n : Nat} (h : Sys w G p F n) (f m : Nat) (hf : f ≤ 100000000) (hm : m ≤ 100000000) :
    Calls Try.prog 42 #[.pointer (some ⟨p.s, 0, none⟩), .int .i64 f, .int .i64 m] w fun e w' => e = .returned (.int .i64 ((giveS F.S f m).2 : Nat)) ∧ SysTo w G p { F with S := (giveS F.S f m).1 } n w' := by
  obtain ⟨Gs, hs, hback⟩ := h.spc
  exact (give_any p.s F.S Gs f m w hs (I64.of (by omega) (by omega)) (I64.of (by omega) (by omega))).mono fun e w' ⟨he, h1⟩ => ⟨he, hback _ _ h1⟩
set_option maxHeartbeats 1000000 in
set_option maxRecDepth 100000 in
theorem ffree_any {w : World} {G : Nat → Prop} {p : Wp} {F : Fs} {n : Nat} (h : Sys w G p F n) (f m k c : Nat) (hf : f ≤ 100000000) (hm : m ≤ 100000000) :
    Calls Try.prog 22 #[.pointer (some ⟨p.w, 0, none⟩), .agg #[.int .i64 f, .int .i64 m, .int .i64 k, .int .i64 c]] w fun e w' => e = .returned (.int .i64 (if m = 0 then 0 else (giveS F.S f m).2 : Nat)) ∧ SysTo w G p { F with S := giveN F.S f m } n w' := by
  have hb := (Below.refl w.heap.size w).alloc (Nat.le_refl _) (.cells #[.int .i64 f, .int .i64 m, .int .i64 k, .int .i64 c] 30)
  have hr0 : Row (w.alloc (.cells #[.int .i64 f, .int .i64 m, .int .i64 k, .int .i64 c] 30)) w.heap.size 30 [.int .i64 f, .int .i64 m, .int .i64 k, .int .i64 c] := heap_alloc_new _ _
  by_cases hm0 : m = 0
  · subst hm0
    have c1 : (w.alloc (.cells #[.int .i64 f, .int .i64 (0 : Nat), .int .i64 k, .int .i64 c] 30)).cell? ⟨w.heap.size, 1, none⟩ = some (.int .i64 (0 : Nat)) := hr0.cell 1
    have HP : Hid (SysTo w G p { F with S := giveN F.S f 0 } n (w.alloc (.cells #[.int .i64 f, .int .i64 (0 : Nat), .int .i64 k, .int .i64 c] 30))) := SysTo.of_below h hb
    clear hr0 hb h
    generalize SysTo w G p { F with S := giveN F.S f 0 } n = POST at *
    go_enter Try.func22, Try.ntmps22
    go_wp2
    go_ret
    exact ⟨rfl, HP.out⟩
  · have HB := Lib.hid hb
    have HG1 : Hid (Calls Try.prog 42 #[.pointer (some ⟨p.s, 0, none⟩), .int .i64 f, .int .i64 m] (w.alloc (.cells #[.int .i64 f, .int .i64 m, .int .i64 k, .int .i64 c] 30)).drew fun e w' => e = .returned (.int .i64 ((giveS F.S f m).2 : Nat)) ∧ SysTo w G p { F with S := giveN F.S f m } n w' ∧ (w'.cell? ⟨w.heap.size, 0, none⟩ = some (.int .i64 f) ∧ w'.cell? ⟨w.heap.size, 1, none⟩ = some (.int .i64 m) ∧ w'.cell? ⟨p.w, 2, none⟩ = some (.pointer (some ⟨p.s, 0, none⟩)))) := by
      have e : giveN F.S f m = (giveS F.S f m).1 := by unfold giveN; rw [if_neg hm0]
      rw [e]
      exact (sys_give (h.below (below_drew hb)) f m hf hm).mono fun e w' ⟨h1, h2⟩ => by
        have hr := h2.row (hr0.drewN 1) (fun hg => by have := h.lt hg; omega)
        exact ⟨h1, h2.behind (below_drew hb), hr.cell 0, hr.cell 1, h2.cell.2.2⟩
    have c0 : (w.alloc (.cells #[.int .i64 f, .int .i64 m, .int .i64 k, .int .i64 c] 30)).drew.cell? ⟨w.heap.size, 0, none⟩ = some (.int .i64 f) := hr0.cell 0
    have c1 : (w.alloc (.cells #[.int .i64 f, .int .i64 m, .int .i64 k, .int .i64 c] 30)).cell? ⟨w.heap.size, 1, none⟩ = some (.int .i64 m) := hr0.cell 1
    have d1 : (w.alloc (.cells #[.int .i64 f, .int .i64 m, .int .i64 k, .int .i64 c] 30)).drew.cell? ⟨w.heap.size, 1, none⟩ = some (.int .i64 m) := hr0.cell 1
    have c2 : (w.alloc (.cells #[.int .i64 f, .int .i64 m, .int .i64 k, .int .i64 c] 30)).drew.cell? ⟨p.w, 2, none⟩ = some (.pointer (some ⟨p.s, 0, none⟩)) := (h.below hb).row.cell 2
    have g1 : ((m : Int) == 0) = false := by simp; omega
    rw [if_neg hm0]
    clear hr0 hb h
    generalize SysTo w G p { F with S := giveN F.S f m } n = POST at *
    generalize (giveS F.S f m).2 = er at *
    go_enter Try.func22, Try.ntmps22
    go_wp2
    go_region_held3 (fun w' => w'.cell? ⟨w.heap.size, 0, none⟩ = some (.int .i64 f) ∧ w'.cell? ⟨w.heap.size, 1, none⟩ = some (.int .i64 m) ∧ w'.cell? ⟨p.w, 2, none⟩ = some (.pointer (some ⟨p.s, 0, none⟩))) (first | with_reducible exact ⟨c0, d1, c2⟩ | with_reducible exact q2)
      (first
        | (go_at_call 42; (with_reducible refine HG1.out.mono ?_); rintro e w2 ⟨rfl, h2, q2⟩))
    have H2 := Lib.hid h2
    clear h2 q2
    go_wp2
    go_ret
    exact ⟨rfl, H2.out⟩
/-- the law's places -/
def PlaceOk (size blocks room : Int) : Prop := (8 ≤ size ∧ size ≤ 256) ∧ (0 ≤ blocks ∧ blocks ≤ 5000) ∧ room ≤ 100000
def placeF (size blocks room : Int) : Fs := ⟨fresh size.toNat blocks, empty room.toNat, newSp 0 blocks.toNat⟩
set_option maxHeartbeats 2000000 in
set_option maxRecDepth 100000 in
theorem work_any (size blocks room : Int) (w : World) (h0 : I64 size) (h1 : I64 blocks) (h2 : I64 room) : Calls Try.prog 9 #[.agg #[.int .i64 size, .int .i64 blocks, .int .i64 room]] w fun e w' =>
    (¬ PlaceOk size blocks room ∧ e = .returned (.tuple #[.pointer none, .bool false]) ∧ Below w.heap.size w w') ∨
    (PlaceOk size blocks room ∧ ∃ p G, e = .returned (.tuple #[.pointer (some ⟨p.w, 0, none⟩), .bool true]) ∧ Sys w' G p (placeF size blocks room) 0 ∧ (∀ k, G k → w.heap.size ≤ k) ∧ Below w.heap.size w w') := by
  have hr0 : Row (w.alloc (.cells #[.int .i64 size, .int .i64 blocks, .int .i64 room] 23)) w.heap.size 23 [.int .i64 size, .int .i64 blocks, .int .i64 room] := heap_alloc_new _ _
  have hb0 : Below w.heap.size w (w.alloc (.cells #[.int .i64 size, .int .i64 blocks, .int .i64 room] 23)) := (Below.refl w.heap.size w).alloc (Nat.le_refl _) _
  by_cases hn : 8 ≤ size ∧ size ≤ 256 ∧ 0 ≤ blocks ∧ blocks ≤ 1000000
  · obtain ⟨n, rfl⟩ : ∃ n : Nat, size = (n : Int) := ⟨size.toNat, by omega⟩
    have HN := Lib.hid (new_any n blocks (w.alloc (.cells #[.int .i64 n, .int .i64 blocks, .int .i64 room] 23)) (by omega) ⟨hn.2.2.1, hn.2.2.2⟩)
    have HR0 := Lib.hid hr0
    have HB0 := Lib.hid hb0
    have c0 := hr0.cell 0
    have c1 := hr0.cell 1
    simp only [List.getElem?_cons_zero, List.getElem?_cons_succ] at c0 c1
    clear hr0 hb0
    by_cases hp : PlaceOk n blocks room
    · have HP := Lib.hid hp
      obtain ⟨p1, p2, p3⟩ := hp
      obtain ⟨bn, rfl⟩ : ∃ bn : Nat, blocks = (bn : Int) := ⟨blocks.toNat, by omega⟩
      have hrb := h2.bounds
      have HAN : Hid (∀ W, Calls Try.prog 39 #[.int .i64 room] W fun e w' => e = .returned (.pointer (some ⟨W.heap.size, 0, none⟩)) ∧ Arn w' (fun k => k = W.heap.size) W.heap.size (empty room.toNat) ∧ Below W.heap.size W w') := fun W => arnew_any room W hrb.1 (by omega)
      have HSN : Hid (∀ W, Calls Try.prog 40 #[.int .i64 0, .int .i64 bn] W fun e w' => ∃ p G, e = .returned (.pointer (some ⟨p, 0, none⟩)) ∧ Spc w' G p (newSp 0 bn) ∧ (∀ k, G k → W.heap.size ≤ k) ∧ Below W.heap.size W w') := fun W => spnew_any 0 bn W (by omega) (by omega)
      have HFN : Hid (∀ W d a s, Calls Try.prog 37 #[.pointer (some ⟨d, 0, none⟩), .pointer (some ⟨a, 0, none⟩), .pointer (some ⟨s, 0, none⟩)] W fun e w' => e = .returned (.pointer (some ⟨W.heap.size, 0, none⟩)) ∧ w' = W.alloc (.cells #[ptr d, ptr a, ptr s] 96)) := fun W d a s => fnew_any d a s W
      have g3 : decide (room > 100000) = false := by simp; omega
      have g4 : decide ((bn : Int) > 5000) = false := by simp; omega
      clear hn p1 p2 p3 hrb h0 h1 h2
      go_enter Try.func9, Try.ntmps9
      go_wp2_with fail
      refine HN.out.mono ?_
      rintro e w1 ⟨d, Gd, rfl, hd, hgd, hb1⟩
      have HD := Lib.hid hd
      have HGD := Lib.hid hgd
      have HB1 := Lib.hid hb1
      have hr1 := HR0.out.below hb1 HR0.out.lt
      have d0 : w1.cell? ⟨w.heap.size, 0, none⟩ = some (.int .i64 n) := hr1.cell 0
      have d1 : w1.cell? ⟨w.heap.size, 1, none⟩ = some (.int .i64 bn) := hr1.cell 1
      have d2 : w1.cell? ⟨w.heap.size, 2, none⟩ = some (.int .i64 room) := hr1.cell 2
      have HCC : Hid (∀ W, Below w1.heap.size w1 W → W.cell? ⟨w.heap.size, 1, none⟩ = some (.int .i64 bn) ∧ W.cell? ⟨w.heap.size, 2, none⟩ = some (.int .i64 room)) := fun W hb => by
        have hr := (HR0.out.below hb1 HR0.out.lt)
        have hr2 := hr.below hb hr.lt
        exact ⟨hr2.cell 1, hr2.cell 2⟩
      have e1 := HCC.out w1.drew (below_drew (Below.refl _ _))
      clear hd hgd hb1 hr1 HN
      go_wp2
      go_region_held3 (fun w' => w'.cell? ⟨w.heap.size, 1, none⟩ = some (.int .i64 bn) ∧ w'.cell? ⟨w.heap.size, 2, none⟩ = some (.int .i64 room)) (first | with_reducible exact e1 | with_reducible exact q2 | with_reducible exact q3 | with_reducible exact q4)
        (first
          | (go_at_call 39; (with_reducible refine (HAN.out _).mono ?_); rintro e w2 ⟨rfl, ha, hb2⟩; have hb12 : Below w1.heap.size w1 w2 := (below_drew (Below.refl _ _)).trans hb2; have q2 := HCC.out w2 hb12)
          | (go_at_call 40; (with_reducible refine (HSN.out _).mono ?_); rintro e w3 ⟨s, Gs, rfl, hs, hgs, hb3⟩; have hb13 : Below w1.heap.size w1 w3 := hb12.trans (hb3.mono hb12.size); have q3 := HCC.out w3 hb13)
          | (go_at_call 37; (with_reducible refine (HFN.out _ _ _ _).mono ?_); rintro e w4 ⟨rfl, hw4⟩; have q4 := HCC.out (w3.alloc (.cells #[ptr d, ptr w1.heap.size, ptr s] 96)) (hb13.alloc hb13.size _)))
      have hsy : Sys w4 (fun k => k = w3.heap.size ∨ Gd k ∨ k = w1.heap.size ∨ Gs k) ⟨w3.heap.size, d, w1.heap.size, s⟩ (placeF n bn room) 0 := by
        rw [hw4]
        exact sys_mk HD.out (below_drew (Below.refl _ _) |>.trans hb2) ha (fun k hk => by rw [hk]; exact Nat.le_refl _) rfl hb3 hs (fun k hk => hgs k hk)
      have HSY := Lib.hid hsy
      have hb4 : Below w1.heap.size w1 w4 := by rw [hw4]; exact hb13.alloc hb13.size _
      have HBB := Lib.hid ((HB0.out.trans (HB1.out.mono HB0.out.size)).trans (hb4.mono (Nat.le_trans HB0.out.size HB1.out.size)))
      have HGA : Hid (∀ k, (k = w3.heap.size ∨ Gd k ∨ k = w1.heap.size ∨ Gs k) → w.heap.size ≤ k) := by
        have z1 := HB0.out.size
        have z2 := HB1.out.size
        have z3 := hb13.size
        have z4 := hb12.size
        rintro k (rfl | h | rfl | h)
        · omega
        · exact Nat.le_trans z1 (HGD.out k h)
        · omega
        · have := hgs k h; omega
      subst hw4
      clear hsy ha hs hgs hb2 hb3 hb4 hb12 hb13 q2 q3 q4
      go_wp2
      go_ret2
      exact .inr ⟨HP.out, ⟨w3.heap.size, d, w1.heap.size, s⟩, _, rfl, HSY.out, HGA.out, HBB.out⟩
    · have HP := Lib.hid hp
      by_cases h3 : room > 100000
      · have g3 : decide (room > 100000) = true := by simp; omega
        clear hn h0 h1 h2 hp
        go_enter Try.func9, Try.ntmps9
        go_wp2_with fail
        refine HN.out.mono ?_
        rintro e w1 ⟨d, Gd, rfl, hd, hgd, hb1⟩
        have hr1 := HR0.out.below hb1 HR0.out.lt
        have d0 : w1.cell? ⟨w.heap.size, 0, none⟩ = some (.int .i64 n) := hr1.cell 0
        have d1 : w1.cell? ⟨w.heap.size, 1, none⟩ = some (.int .i64 blocks) := hr1.cell 1
        have d2 : w1.cell? ⟨w.heap.size, 2, none⟩ = some (.int .i64 room) := hr1.cell 2
        have HBB := Lib.hid (HB0.out.trans (hb1.mono HB0.out.size))
        clear hd hgd hb1 hr1 HN
        go_wp2
        go_ret2
        exact .inl ⟨HP.out, rfl, HBB.out⟩
      · have g3 : decide (room > 100000) = false := by simp; omega
        have g4 : decide (blocks > 5000) = true := by
          have : ¬ blocks ≤ 5000 := fun h => hp ⟨⟨hn.1, hn.2.1⟩, ⟨hn.2.2.1, h⟩, by omega⟩
          simp; omega
        clear hn h0 h1 h2 hp
        go_enter Try.func9, Try.ntmps9
        go_wp2_with fail
        refine HN.out.mono ?_
        rintro e w1 ⟨d, Gd, rfl, hd, hgd, hb1⟩
        have hr1 := HR0.out.below hb1 HR0.out.lt
        have d0 : w1.cell? ⟨w.heap.size, 0, none⟩ = some (.int .i64 n) := hr1.cell 0
        have d1 : w1.cell? ⟨w.heap.size, 1, none⟩ = some (.int .i64 blocks) := hr1.cell 1
        have d2 : w1.cell? ⟨w.heap.size, 2, none⟩ = some (.int .i64 room) := hr1.cell 2
        have HBB := Lib.hid (HB0.out.trans (hb1.mono HB0.out.size))
        clear hd hgd hb1 hr1 HN
        go_wp2
        go_ret2
        exact .inl ⟨HP.out, rfl, HBB.out⟩
  · have HN := Lib.hid (dnew_no size blocks (w.alloc (.cells #[.int .i64 size, .int .i64 blocks, .int .i64 room] 23)) hn)
    have HP : Hid (¬ PlaceOk size blocks room) := fun h => hn ⟨h.1.1, h.1.2, h.2.1.1, by have := h.2.1.2; omega⟩
    have c0 := hr0.cell 0
    have c1 := hr0.cell 1
    simp only [List.getElem?_cons_zero, List.getElem?_cons_succ] at c0 c1
    have HB0 := Lib.hid hb0
    clear hr0 hb0 hn h0 h1 h2
    go_enter Try.func9, Try.ntmps9
    go_wp2_with fail
    refine HN.out.mono ?_
    rintro e w1 ⟨rfl, rfl⟩
    go_wp2
    go_ret2
    exact .inl ⟨HP.out, rfl, HB0.out⟩
theorem taken_range {S S1 : Sp} {a m : Nat} (h : S.ok) (ht : Taken S S1 a m) {b : Int} (hb : ((S.first + S.blocks : Nat) : Int) ≤ b) : ((a + m : Nat) : Int) ≤ b := by
  rcases taken_in h ht with h1 | ⟨rfl, rfl⟩ <;> omega
theorem dead_calm {w w' : World} {G : Nat → Prop} {p : Wp} {F : Fs} {n : Nat} {t : Wt} {l : List Tup} {er : Int} (h : LayDead w G p F n t l er w') (hc : Calm F.D) (hin : ((t.first + t.blocks : Nat) : Int) ≤ F.D.blocks) : False := by
  obtain ⟨hne, D1, m, i, ws, h1, h2, h3, h4, _⟩ := h
  rw [h2, write_ok (h1.calm hc) (h3 hin) h4] at hne
  exact hne rfl
theorem dead_alive {w w' : World} {G : Nat → Prop} {p : Wp} {F : Fs} {n : Nat} {t : Wt} {l : List Tup} {er : Int} (h : LayDead w G p F n t l er w') (hc : F.D.down = false ∧ F.D.fb = false) (hin : ((t.first + t.blocks : Nat) : Int) ≤ F.D.blocks) : er = 6 := by
  obtain ⟨hne, D1, m, i, ws, h1, h2, h3, h4, _⟩ := h
  rw [h2] at hne ⊢
  exact write_code (h1.alive hc) (h3 hin) h4 hne
theorem readsT_one {W : World} {b : Nat} {t : Tup} (h : Row W b 58 (tupC t)) (ht : TupOk t) : ReadsT W W.heap.size (some ⟨b, 0, none⟩) 1 [t] := by
  refine ⟨rfl, by simpa using ht, fun _ => ⟨b, 0, rfl, h.lt, fun i hi j u hj => ?_⟩⟩
  obtain rfl : i = 0 := by omega
  have := h.cell (0 + 0 * 5 + j)
  rw [this, show 0 + 0 * 5 + j = j by omega]; exact hj
theorem placeF_range (size blocks room : Int) (h : 0 ≤ blocks) : (((placeF size blocks room).S.first + (placeF size blocks room).S.blocks : Nat) : Int) ≤ (placeF size blocks room).D.blocks := by
  show ((0 + blocks.toNat : Nat) : Int) ≤ blocks
  omega
theorem small_ok {t : Tup} (h : ∀ x ∈ t.cols, 0 ≤ x ∧ x ≤ 1000) : TupOk t := fun x hx => I64.of (by have := h x hx; omega) (by have := h x hx; omega)
theorem newsp_room {m n : Nat} (h : m ≤ n) : roomB (newSp 0 n) 0 m := by
  intro b _ hb
  unfold newSp
  simp only
  rw [if_neg (by omega)]
  exact ⟨(0, n), by simp, by simp, by simp; omega⟩
theorem newsp_none {m n k : Nat} (hm : 0 < m) (h : n < m) : ¬ roomB (newSp 0 n) k m := by
  intro hr
  obtain ⟨x, hx, h1, h2⟩ := hr (k + m - 1) (by omega) (by omega)
  unfold newSp at hx
  simp only at hx
  split at hx
  · cases hx
  · simp only [List.mem_singleton] at hx; subst hx
    simp only at h1 h2
    omega
/-- Lay with nothing in its way -/
theorem lay_good {w w' : World} {G : Nat → Prop} {p : Wp} {F : Fs} {n : Nat} {width : Int} {l : List Tup} {e : Ending} (h : LayTo w G p F n width l e w') (hsok : F.S.ok) (hc : Calm F.D) (hin : ((F.S.first + F.S.blocks : Nat) : Int) ≤ F.D.blocks) (ha : WArgs F width (l.length : Int)) (hroom : F.D.size ≤ F.A.room - F.A.used)
    (hsp : ∃ k, roomB F.S k (blocksN (holdsI F.D.size width) l.length)) (hfit : ∀ k : Nat, (k : Int) = width → ∀ u ∈ l, fitsT k u = true) :
    ∃ t S1, e = .returned (.tuple #[fileV t.first t.blocks t.k l.length, .int .i64 0]) ∧ LayDone w G p F n t S1 l w' ∧ (t.k : Int) = width ∧ t.h = holdsI F.D.size width ∧ t.blocks = blocksN t.h l.length ∧ Taken F.S S1 t.first t.blocks ∧ t.first ≤ 2000000 ∧ ∀ q ∈ F.A.st, q.1 ≠ t.b := by
  rcases h with ⟨er, _, (⟨_, h1⟩ | ⟨_, _, h1⟩ | ⟨_, _, _, _, h1⟩), _⟩ | ⟨t, S1, ⟨_, _, h3, h4, h5, h6, h7, h8⟩, ⟨er, _, _, ⟨u, hu, hf⟩, _⟩ | ⟨er, _, hd⟩ | ⟨he, hd⟩⟩
  · exact absurd ha h1
  · omega
  · obtain ⟨k, hk⟩ := hsp
    exact absurd hk (h1 k)
  · rw [hfit t.k h3 u hu] at hf; cases hf
  · exact (dead_calm hd hc (taken_range hsok h6 hin)).elim
  · exact ⟨t, S1, he, hd, h3, h4, h5, h6, h7, h8⟩
set_option maxHeartbeats 2000000 in
set_option maxRecDepth 100000 in
theorem awake_any (w : World) : Calls Try.prog 10 #[] w fun e w' => e = .returned (.bool true) ∧ Below w.heap.size w w' := by
  have HW := Lib.hid (work_any 8 9 100 w (I64.of (by omega) (by omega)) (I64.of (by omega) (by omega)) (I64.of (by omega) (by omega)))
  have HP : Hid (PlaceOk 8 9 100) := ⟨by omega, by omega, by omega⟩
  go_enter Try.func10, Try.ntmps10
  go_wp2_with fail
  refine HW.out.mono ?_
  rintro e w1 (⟨hno, _⟩ | ⟨_, p, G, rfl, hs, hG, hb⟩)
  · exact absurd HP.out hno
  have HS := Lib.hid hs
  have HG := Lib.hid hG
  have HB := Lib.hid hb
  have HH : Hid (Calls Try.prog 30 #[.pointer (some ⟨p.w, 0, none⟩), .int .i64 2] w1 fun e w' => e = .returned (.int .i64 3) ∧ w' = w1) := hol_any hs 2
  clear hs hG hb HW HP
  go_wp2_with fail
  refine HH.out.mono ?_
  rintro e w2 ⟨rfl, rfl⟩
  have hbt : Below w2.heap.size w2 (w2.alloc (.cells #[.int .i64 1, .int .i64 2, .int .i64 0, .int .i64 0, .int .i64 0] 58)) := (Below.refl _ _).alloc (Nat.le_refl _) _
  have hrt : Row (w2.alloc (.cells #[.int .i64 1, .int .i64 2, .int .i64 0, .int .i64 0, .int .i64 0] 58)) w2.heap.size 58 (tupC ⟨1, 2, 0, 0, 0⟩) := heap_alloc_new _ _
  have hok : TupOk ⟨1, 2, 0, 0, 0⟩ := small_ok (by simp [Tup.cols])
  have HL := Lib.hid (flay_any (HS.out.below hbt) 2 (c := 1) (readsT_one hrt hok) (fun _ b off e hg => by
    injection e with e; injection e with e _
    subst e
    exact Nat.lt_irrefl _ (HS.out.lt hg)) (by simp))
  have HFB := Lib.hid (HB.out.trans (hbt.mono HB.out.size))
  have HLG : Hid (Calls Try.prog 11 #[.pointer (some ⟨p.w, 0, none⟩), .int .i64 2, .slice (some ⟨w2.heap.size, 0, none⟩) 1 1] (w2.alloc (.cells #[.int .i64 1, .int .i64 2, .int .i64 0, .int .i64 0, .int .i64 0] 58)) fun e w' => ∃ f : Nat, e = .returned (.tuple #[.agg #[.int .i64 f, .int .i64 1, .int .i64 2, .int .i64 1], .int .i64 0]) ∧ Below w.heap.size w w') := by
    refine HL.out.mono ?_
    intro e w' hl
    obtain ⟨t, S1, rfl, ⟨_, D', _, _, hs'⟩, h3, h4, h5, _⟩ := lay_good hl HS.out.sok (fresh_calm _ _) (placeF_range 8 9 100 (by omega)) ⟨by show (holdsI 8 2 : Nat) ≠ 0; decide, by simp, by simp⟩ (by show 8 ≤ 100 - 0; omega) ⟨0, newsp_room (by show blocksN (holdsI 8 2) 1 ≤ 9; decide)⟩ (by
      intro k hk u hu
      obtain rfl : k = 2 := by omega
      simp at hu; subst hu; rfl)
    have e4 : t.h = 3 := h4
    have e5 : t.blocks = 1 := by rw [h5, e4]; rfl
    have e3 : t.k = 2 := by omega
    refine ⟨t.first, by rw [e5, e3]; rfl, ?_⟩
    obtain ⟨G', k1, k2, _⟩ := hs'
    refine HFB.out.trans ?_
    exact k2.below (by have := HFB.out.size; exact this) fun k hk => HG.out k hk
  clear hbt hrt hok HH HL HFB HS HG
  go_wp2_with fail
  refine HLG.out.mono ?_
  rintro e w5 ⟨f, rfl, hb5⟩
  have HB5 : Hid (Below w.heap.size w (w5.alloc (.cells #[.int .i64 f, .int .i64 1, .int .i64 2, .int .i64 1] 30))) := hb5.alloc hb5.size _
  clear hb5 HLG
  go_wp2
  go_ret
  exact ⟨rfl, HB5.out⟩
end Go.Proofs.Ytbkgpilmgllkiaa

namespace Go.Proofs.Ytbkgpilmgllkiaa
open Go.ChangeShapes Go.WideShapes Go.ChangeAt Go.RowKit

instance tupDec : DecidableEq Tup := fun a b => decidable_of_iff (a.cols = b.cols) ⟨fun h => Tup.ext_cols h, fun h => h ▸ rfl⟩
theorem neq_tup (w : World) (a b c d e a' b' c' d' e' : Int) : (binOp .neq 58 (.agg #[.int .i64 a, .int .i64 b, .int .i64 c, .int .i64 d, .int .i64 e]) (.agg #[.int .i64 a', .int .i64 b', .int .i64 c', .int .i64 d', .int .i64 e'])).run Try.prog w = .ok (.bool (!(a == a' && (b == b' && (c == c' && (d == d' && e == e')))))) w := by
  have h := eq_tup w a b c d e a' b' c' d' e'
  rw [run_eql_struct] at h
  rw [run_neq_struct]
  generalize (Op.equalIn 10000 58 (.agg #[.int .i64 a, .int .i64 b, .int .i64 c, .int .i64 d, .int .i64 e]) (.agg #[.int .i64 a', .int .i64 b', .int .i64 c', .int .i64 d', .int .i64 e'])).run Try.prog w = R at h ⊢
  generalize (a == a' && (b == b' && (c == c' && (d == d' && e == e')))) = X at h ⊢
  cases R with
  | ok b w' => simp [Result.andThen] at h ⊢; obtain ⟨rfl, rfl⟩ := h; exact ⟨rfl, rfl⟩
  | _ => simp [Result.andThen] at h
/-- tuples alike, as the walk says it -/
theorem tup_eq (t u : Tup) : (t.a == u.a && (t.b == u.b && (t.c == u.c && (t.d == u.d && t.e == u.e)))) = decide (t = u) := by
  obtain ⟨a, b, c, d, e⟩ := t
  obtain ⟨a', b', c', d', e'⟩ := u
  simp only [Tup.mk.injEq]
  by_cases h1 : a = a' <;> by_cases h2 : b = b' <;> by_cases h3 : c = c' <;> by_cases h4 : d = d' <;> by_cases h5 : e = e' <;> simp [h1, h2, h3, h4, h5]
/-- the most that fit -/
theorem holds_least {size k n : Nat} (hk : 0 < k) (h : n * k ≤ size - 2) : n ≤ (size - 2) / k := (Nat.le_div_iff_mul_le hk).2 h
set_option maxRecDepth 100000 in
theorem rhol_any (size : Nat) (width : Int) (w : World) (hs : 8 ≤ size ∧ size ≤ 256) : Calls Try.prog 13 #[.int .i64 size, .int .i64 width] w fun e w' => e = .returned (.int .i64 (holdsI size width : Nat)) ∧ w' = w := by
  by_cases h1 : width < 1 ∨ 5 < width
  · have e0 : holdsI size width = 0 := by unfold holdsI; rw [if_pos h1]
    rw [e0]
    by_cases h2 : width < 1
    · have g1 : decide (width < 1) = true := by simpa using h2
      go_enter Try.func13, Try.ntmps13
      go_wp2
      go_ret
      exact ⟨rfl, rfl⟩
    · have g1 : decide (width < 1) = false := by simpa using h2
      have g2 : decide (width > 5) = true := by simp; omega
      go_enter Try.func13, Try.ntmps13
      go_wp2
      go_ret
      exact ⟨rfl, rfl⟩
  · obtain ⟨k, rfl⟩ : ∃ k : Nat, width = (k : Int) := ⟨width.toNat, by omega⟩
    have hk : 0 < k ∧ k ≤ 5 := by omega
    have g1 : decide ((k : Int) < 1) = false := by simp; omega
    have g2 : decide ((k : Int) > 5) = false := by simp; omega
    have he : holdsI size k = (size - 2) / k := by unfold holdsI; rw [if_neg h1]; rfl
    rw [he]
    obtain ⟨s2, hs2⟩ : ∃ s2, s2 = size - 2 := ⟨_, rfl⟩
    have hs2' : (size : Int) - 2 = (s2 : Int) := by omega
    have hs3 : s2 ≤ 254 := by omega
    rw [← hs2]
    have HQ : Hid (s2 / k * k ≤ s2 ∧ ∀ n, n * k ≤ s2 → n ≤ s2 / k) := ⟨Nat.div_mul_le_self _ _, fun n h => (Nat.le_div_iff_mul_le hk.1).2 h⟩
    generalize hqq : s2 / k = q at *
    have hq254 : q ≤ 254 := by
      have h := HQ.out.1
      have := Nat.mul_le_mul_left q hk.1
      omega
    clear he hs2 h1 hqq
    go_enter Try.func13, Try.ntmps13
    go_wp2
    go_loopw [5] (fun iv wr => ∃ n : Nat, n ≤ q ∧ iv = .int .i64 (n : Int) ∧ wr = w) (fun iv _ => q - (intOf iv).toNat)
    case atStart => exact ⟨0, Nat.zero_le _, rfl, rfl⟩
    case round =>
      obtain ⟨n, hn, rfl, rfl⟩ := hrel
      obtain ⟨n1, hn1⟩ : ∃ n1, n1 = n + 1 := ⟨_, rfl⟩
      have hn2 : (n : Int) + 1 = (n1 : Int) := by omega
      obtain ⟨mm, hmm⟩ : ∃ mm, mm = n1 * k := ⟨_, rfl⟩
      have hmul : (n1 : Int) * (k : Int) = (mm : Int) := by rw [hmm]; exact (Int.natCast_mul n1 k).symm
      have hmb : mm ≤ 2000 := by
        rw [hmm, hn1]
        have := Nat.mul_le_mul (show n + 1 ≤ 255 by omega) hk.2
        omega
      have hnl : n < n1 ∧ n1 ≤ n + 1 := by omega
      clear hn1
      by_cases hlt : n < q
      · have hle : mm ≤ s2 := by
          have h2 := HQ.out.1
          have := Nat.mul_le_mul_right k (show n1 ≤ q by omega)
          omega
        have g3 : decide ((mm : Int) ≤ (s2 : Int)) = true := by simp; omega
        clear hmm
        go_wp2
        go_roundw
        case rel => exact ⟨n1, by omega, by trivial, by trivial⟩
        case measure => simp [intOf]; omega
      · have hgt : ¬ mm ≤ s2 := fun h => by
          have := HQ.out.2 n1 (by omega)
          omega
        have g3 : decide ((mm : Int) ≤ (s2 : Int)) = false := by simp; omega
        obtain rfl : n = q := by omega
        clear hmm
        go_wp2
        go_ret
        exact ⟨rfl, rfl⟩
/-- how many blocks, as the reference counts them -/
def blocksR (h c : Nat) : Nat := if h = 0 then 0 else blocksN h c
set_option maxRecDepth 100000 in
theorem rblk2_any (size : Nat) (width : Int) (c : Nat) (w : World) (hs : 8 ≤ size ∧ size ≤ 256) (hc : c ≤ 1000000) : Calls Try.prog 12 #[.int .i64 size, .int .i64 width, .int .i64 c] w fun e w' => e = .returned (.int .i64 (blocksR (holdsI size width) c : Nat)) ∧ w' = w := by
  have HH := Lib.hid (rhol_any size width w hs)
  have hb : holdsI size width ≤ 254 := Nat.le_trans (holds_le _ _) (by omega)
  generalize holdsI size width = h at *
  by_cases h0 : h = 0
  · subst h0
    go_enter Try.func12, Try.ntmps12
    go_wp2_with fail
    refine HH.out.mono ?_; rintro e w1 ⟨rfl, rfl⟩
    go_wp2
    go_loopw [8] (fun iv wr => iv = .int .i64 0 ∧ wr = w1) (fun iv _ => 0)
    case atStart => exact ⟨rfl, rfl⟩
    case round =>
      obtain ⟨rfl, rfl⟩ := hrel
      go_wp2
      go_ret
      exact ⟨rfl, rfl⟩
  · have he : blocksR h c = blocksN h c := by unfold blocksR; rw [if_neg h0]
    have hh : 0 < h := by omega
    have HQ : Hid (c ≤ blocksN h c * h ∧ ∀ n, c ≤ n * h → blocksN h c ≤ n) := ⟨blocks_mul hh, fun n hn => blocks_least hh hn⟩
    have hle : blocksN h c ≤ 1000000 := Nat.le_trans (blocks_le _ _) hc
    rw [he]
    generalize blocksN h c = q at *
    have g1 : decide ((h : Int) > 0) = true := by simp; omega
    clear he h0
    go_enter Try.func12, Try.ntmps12
    go_wp2_with fail
    refine HH.out.mono ?_; rintro e w1 ⟨rfl, rfl⟩
    clear HH
    go_wp2
    go_loopw [8] (fun iv wr => ∃ n : Nat, n ≤ q ∧ iv = .int .i64 (n : Int) ∧ wr = w1) (fun iv _ => q - (intOf iv).toNat)
    case atStart => exact ⟨0, Nat.zero_le _, rfl, rfl⟩
    case round =>
      obtain ⟨n, hn, rfl, rfl⟩ := hrel
      obtain ⟨mm, hmm⟩ : ∃ mm, mm = n * h := ⟨_, rfl⟩
      have hmul : (n : Int) * (h : Int) = (mm : Int) := by rw [hmm]; exact (Int.natCast_mul n h).symm
      have hmb : mm ≤ 254000000 := by
        have := Nat.mul_le_mul (show n ≤ 1000000 by omega) hb
        omega
      by_cases hlt : n < q
      · have hgt : ¬ c ≤ mm := fun h2 => by
          have := HQ.out.2 n (by omega)
          omega
        have g3 : decide ((mm : Int) < (c : Int)) = true := by simp; omega
        clear hmm
        go_wp2
        go_roundw
        case rel => exact ⟨n + 1, by omega, by go_num, by trivial⟩
        case measure => simp [intOf]; omega
      · obtain rfl : n = q := by omega
        have hgt : c ≤ mm := by have := HQ.out.1; omega
        have g3 : decide ((mm : Int) < (c : Int)) = false := by simp; omega
        clear hmm
        go_wp2
        go_ret
        exact ⟨rfl, rfl⟩
/-- the column i -/
def colN (t : Tup) (i : Nat) : Int := if i = 0 then t.a else if i = 1 then t.b else if i = 2 then t.c else if i = 3 then t.d else t.e
theorem fits_iff (k : Nat) (t : Tup) : fitsT k t = true ↔ ∀ i, k ≤ i → i < 5 → colN t i = 0 := by
  obtain ⟨a, b, c, d, e⟩ := t
  unfold fitsT Tup.cols
  constructor
  · intro h i hk hi
    have h1 := List.all_eq_true.1 h
    have hm : ([a, b, c, d, e] : List Int)[i]? = some (colN ⟨a, b, c, d, e⟩ i) := by
      match i, hi with
      | 0, _ => rfl
      | 1, _ => rfl
      | 2, _ => rfl
      | 3, _ => rfl
      | 4, _ => rfl
      | i + 5, hi => omega
    have h2 : ([a, b, c, d, e].drop k)[i - k]? = some (colN ⟨a, b, c, d, e⟩ i) := by rw [List.getElem?_drop, show k + (i - k) = i by omega]; exact hm
    simpa using h1 _ (List.mem_of_getElem? h2)
  · intro h
    rw [List.all_eq_true]
    intro x hx
    obtain ⟨j, hj⟩ := List.getElem?_of_mem hx
    rw [List.getElem?_drop] at hj
    have hj5 : k + j < 5 := (List.getElem?_eq_some_iff.1 hj).1
    have h3 := h (k + j) (by omega) hj5
    generalize k + j = i at hj hj5 h3
    match i, hj5 with
    | 0, _ => simp at hj; subst hj; simpa [colN] using h3
    | 1, _ => simp at hj; subst hj; simpa [colN] using h3
    | 2, _ => simp at hj; subst hj; simpa [colN] using h3
    | 3, _ => simp at hj; subst hj; simpa [colN] using h3
    | 4, _ => simp at hj; subst hj; simpa [colN] using h3
    | i + 5, hi => omega
set_option maxHeartbeats 1000000 in
set_option maxRecDepth 100000 in
theorem rfit_any (t : Tup) (k : Nat) (w : World) (_hk : k ≤ 5) : Calls Try.prog 41 #[.agg #[.int .i64 t.a, .int .i64 t.b, .int .i64 t.c, .int .i64 t.d, .int .i64 t.e], .int .i64 k] w fun e w' => e = .returned (.bool (fitsT k t)) ∧ Below w.heap.size w w' := by
  have hr : Row (w.alloc (.cells #[.int .i64 t.a, .int .i64 t.b, .int .i64 t.c, .int .i64 t.d, .int .i64 t.e] 58)) w.heap.size 58 [.int .i64 t.a, .int .i64 t.b, .int .i64 t.c, .int .i64 t.d, .int .i64 t.e] := heap_alloc_new _ _
  have HR : Hid (∀ i, i < 5 → (w.alloc (.cells #[.int .i64 t.a, .int .i64 t.b, .int .i64 t.c, .int .i64 t.d, .int .i64 t.e] 58)).cell? ⟨w.heap.size, i, none⟩ = some (.int .i64 (colN t i))) := fun i hi => by
    rw [hr.cell i]
    match i, hi with
    | 0, _ => rfl
    | 1, _ => rfl
    | 2, _ => rfl
    | 3, _ => rfl
    | 4, _ => rfl
    | i + 5, hi => omega
  have HB : Hid (Below w.heap.size w (w.alloc (.cells #[.int .i64 t.a, .int .i64 t.b, .int .i64 t.c, .int .i64 t.d, .int .i64 t.e] 58))) := (Below.refl w.heap.size w).alloc (Nat.le_refl _) _
  have HF : Hid ((∀ i, k ≤ i → i < 5 → colN t i = 0) ↔ fitsT k t = true) := (fits_iff k t).symm
  generalize fitsT k t = ft at *
  clear hr
  obtain ⟨W, hW⟩ : ∃ W, W = w.alloc (.cells #[.int .i64 t.a, .int .i64 t.b, .int .i64 t.c, .int .i64 t.d, .int .i64 t.e] 58) := ⟨_, rfl⟩
  have HW := Lib.hid hW
  rw [← hW] at HR HB
  clear hW
  go_enter Try.func41, Try.ntmps41
  go_wp2
  rw [← HW.out]
  go_loopw [5] (fun iv wr => ∃ i : Nat, i ≤ 5 ∧ iv = .int .i64 (i : Int) ∧ wr = W ∧ Hid (∀ j, k ≤ j → j < i → colN t j = 0)) (fun iv _ => 5 - (intOf iv).toNat)
  case atStart => exact ⟨0, Nat.zero_le _, rfl, by trivial, fun j _ hj => absurd hj (Nat.not_lt_zero _)⟩
  case round =>
    obtain ⟨i, hi, rfl, rfl, HZ⟩ := hrel
    by_cases hlt : i < 5
    · have hc := HR.out i hlt
      generalize hz : colN t i = z at hc
      have HZI := Lib.hid hz
      clear hz
      have g0 : decide ((i : Int) < 5) = true := by simp; omega
      have i0 : (0 : Int) ≤ (i : Int) := by omega
      have i5 : (i : Int) < 5 := by omega
      by_cases hki : k ≤ i
      · have g1 : decide ((i : Int) ≥ (k : Int)) = true := by simp; omega
        by_cases hz0 : z = 0
        · have g2 : (z != 0) = false := by simpa using hz0
          have HZ2 : Hid (∀ j, k ≤ j → j < i + 1 → colN t j = 0) := fun j h1 h2 => by
            by_cases h3 : j = i
            · subst h3; rw [HZI.out]; exact hz0
            · exact HZ.out j h1 (by omega)
          clear hz0
          go_wp2
          go_roundw
          case rel => exact ⟨i + 1, by omega, by go_num, by trivial, HZ2.out⟩
          case measure => simp [intOf]; omega
        · have g2 : (z != 0) = true := by simpa using hz0
          have HFF : Hid (ft = false) := by
            unfold Hid
            cases ft
            · rfl
            · exact absurd ((HF.out.2 rfl) i hki hlt) (by rw [HZI.out]; exact hz0)
          clear hz0
          go_wp2
          go_ret
          rw [HFF.out]
          exact ⟨rfl, HB.out⟩
      · have g1 : decide ((i : Int) ≥ (k : Int)) = false := by simp; omega
        have HZ2 : Hid (∀ j, k ≤ j → j < i + 1 → colN t j = 0) := fun j h1 h2 => HZ.out j h1 (by omega)
        go_wp2
        go_roundw
        case rel => exact ⟨i + 1, by omega, by go_num, by trivial, HZ2.out⟩
        case measure => simp [intOf]; omega
    · obtain rfl : i = 5 := by omega
      have HFF : Hid (ft = true) := HF.out.1 HZ.out
      go_wp2
      go_ret
      rw [HFF.out]
      exact ⟨rfl, HB.out⟩
set_option maxHeartbeats 1000000 in
set_option maxRecDepth 100000 in
theorem rall_any (A : Option Addr) (m c : Nat) (l : List Tup) (k : Nat) (w : World) (h : ReadsT w w.heap.size A m l) (hk : k ≤ 5) (hm : m ≤ maxLen) : Calls Try.prog 18 #[.slice A m c, .int .i64 k] w fun e w' => e = .returned (.bool (l.all (fitsT k))) ∧ Below w.heap.size w w' := by
  have hlen := h.1
  have HR := Lib.hid h
  have HA : Hid ((∀ u ∈ l, fitsT k u = true) ↔ l.all (fitsT k) = true) := List.all_eq_true.symm
  have hmm : m ≤ 9223372036854775807 := by unfold maxLen at hm; omega
  have HL := Lib.hid hlen
  generalize l.all (fitsT k) = al at *
  clear h hlen hm
  go_enter Try.func18, Try.ntmps18
  go_wp2
  go_loopw [5] (fun iv wr => ∃ i : Nat, i ≤ m ∧ iv = .int .i64 (i : Int) ∧ Hid (Below w.heap.size w wr) ∧ Hid (∀ u ∈ l.take i, fitsT k u = true)) (fun iv _ => m - (intOf iv).toNat)
  case atStart => exact ⟨0, Nat.zero_le _, rfl, Below.refl _ _, fun u hu => by simp at hu⟩
  case round =>
    obtain ⟨i, hi, rfl, HB, HT⟩ := hrel
    by_cases hlt : i < m
    · obtain ⟨b, off, t, rfl, hbl, q0, q1, q2, q3, q4, _, ht⟩ := (HR.out.keep HB.out).at_ hlt
      have HF := Lib.hid (rfit_any t k wr hk)
      have i0 : (0 : Int) ≤ (i : Int) := by omega
      have i1 : (i : Int) < (m : Int) := by omega
      have g0 : decide ((i : Int) < (m : Int)) = true := by simp; omega
      have HTK : Hid (fitsT k t = true → ∀ u ∈ l.take (i + 1), fitsT k u = true) := fun hf u hu => by
        rw [List.take_add_one, ht.out] at hu
        rcases List.mem_append.1 hu with hu | hu
        · exact HT.out u hu
        · simp at hu; subst hu; exact hf
      have HNO : Hid (fitsT k t = false → al = false) := fun hf => by
        cases al
        · rfl
        · have := HA.out.2 rfl t (List.mem_of_getElem? ht.out)
          rw [hf] at this; cases this
      generalize fitsT k t = ft at *
      obtain ⟨ta, tb, tc, td, te⟩ := t
      simp only at q0 q1 q2 q3 q4 HF
      cases ft
      · go_wp2_with fail
        refine HF.out.mono ?_; rintro e w5 ⟨rfl, hb⟩
        have HB5 := Lib.hid (HB.out.trans (hb.mono HB.out.size))
        clear hb
        go_wp2
        go_ret
        rw [HNO.out (by trivial)]
        exact ⟨rfl, HB5.out⟩
      · go_wp2_with fail
        refine HF.out.mono ?_; rintro e w5 ⟨rfl, hb⟩
        have HB5 := Lib.hid (HB.out.trans (hb.mono HB.out.size))
        clear hb
        go_wp2
        go_roundw
        case rel => exact ⟨i + 1, by omega, by go_num, HB5.out, HTK.out (by trivial)⟩
        case measure => simp [intOf]; omega
    · obtain rfl : i = m := by omega
      have g0 : decide ((i : Int) < (i : Int)) = false := by simp
      have HAL : Hid (al = true) := HA.out.1 fun u hu => HT.out u (by rw [List.take_of_length_le (by rw [HL.out]; exact Nat.le_refl _)]; exact hu)
      go_wp2
      go_ret
      rw [HAL.out]
      exact ⟨rfl, HB.out⟩
theorem tups_ne {l l' : List Tup} {i : Nat} {t t' : Tup} (h : l[i]? = some t) (h' : l'[i]? = some t') (hne : t ≠ t') : l ≠ l' := fun e => by
  rw [e, h'] at h; injection h with h; exact hne h.symm
set_option maxHeartbeats 1000000 in
set_option maxRecDepth 100000 in
theorem rsame_any (A A' : Option Addr) (m m' c c' : Nat) (l l' : List Tup) (w : World) (h : ReadsT w w.heap.size A m l) (h' : ReadsT w w.heap.size A' m' l') (hm : m ≤ maxLen) (hm' : m' ≤ maxLen) : Calls Try.prog 20 #[.slice A m c, .slice A' m' c'] w fun e w' => e = .returned (.bool (decide (l = l'))) ∧ ∃ q, w' = w.drewN q := by
  have hlen := h.1
  have hlen' := h'.1
  have hmm : m ≤ 9223372036854775807 := by unfold maxLen at hm; omega
  have hmm' : m' ≤ 9223372036854775807 := by unfold maxLen at hm'; omega
  by_cases hne : m = m'
  · subst hne
    have HR := Lib.hid h
    have HR' := Lib.hid h'
    have HL := Lib.hid hlen
    have HL' := Lib.hid hlen'
    have g9 : ((m : Int) != (m : Int)) = false := by simp
    clear h h' hlen hlen' hm hm'
    go_enter Try.func20, Try.ntmps20
    go_wp2
    go_loopw [5] (fun iv wr => ∃ i : Nat, i ≤ m ∧ iv = .int .i64 (i : Int) ∧ (∃ q, wr = w.drewN q) ∧ Hid (l.take i = l'.take i)) (fun iv _ => m - (intOf iv).toNat)
    case atStart => exact ⟨0, Nat.zero_le _, rfl, ⟨0, rfl⟩, by simp [Hid]⟩
    case round =>
      obtain ⟨i, hi, rfl, ⟨q0, rfl⟩, HT⟩ := hrel
      by_cases hlt : i < m
      · obtain ⟨b, off, t, rfl, hbl, d0, d1, d2, d3, d4, _, ht⟩ := HR.out.at_ hlt
        obtain ⟨b', off', t', rfl, hbl', s0, s1, s2, s3, s4, _, ht'⟩ := HR'.out.at_ hlt
        have i0 : (0 : Int) ≤ (i : Int) := by omega
        have i1 : (i : Int) < (m : Int) := by omega
        have g0 : decide ((i : Int) < (m : Int)) = true := by simp; omega
        have heq := tup_eq t t'
        have HTK : Hid (t = t' → l.take (i + 1) = l'.take (i + 1)) := fun hf => by
          rw [List.take_add_one, List.take_add_one, HT.out, ht.out, ht'.out, hf]
        have HNO : Hid (t ≠ t' → l ≠ l') := tups_ne ht.out ht'.out
        generalize hbq : decide (t = t') = bq at heq
        have HBQ := Lib.hid hbq
        obtain ⟨ta, tb, tc, td, te⟩ := t
        obtain ⟨ua, ub, uc, ud, ue⟩ := t'
        simp only at d0 d1 d2 d3 d4 s0 s1 s2 s3 s4 heq
        have d0' : ∀ q, (w.drewN q).cell? ⟨b, off + i * 5, none⟩ = some (.int .i64 ta) := fun _ => d0
        have d1' : ∀ q, (w.drewN q).cell? ⟨b, off + i * 5 + 1, none⟩ = some (.int .i64 tb) := fun _ => d1
        have d2' : ∀ q, (w.drewN q).cell? ⟨b, off + i * 5 + 2, none⟩ = some (.int .i64 tc) := fun _ => d2
        have d3' : ∀ q, (w.drewN q).cell? ⟨b, off + i * 5 + 3, none⟩ = some (.int .i64 td) := fun _ => d3
        have d4' : ∀ q, (w.drewN q).cell? ⟨b, off + i * 5 + 4, none⟩ = some (.int .i64 te) := fun _ => d4
        have f0' : ∀ q, (w.drewN q).cell? ⟨b', off' + i * 5, none⟩ = some (.int .i64 ua) := fun _ => s0
        have f1' : ∀ q, (w.drewN q).cell? ⟨b', off' + i * 5 + 1, none⟩ = some (.int .i64 ub) := fun _ => s1
        have f2' : ∀ q, (w.drewN q).cell? ⟨b', off' + i * 5 + 2, none⟩ = some (.int .i64 uc) := fun _ => s2
        have f3' : ∀ q, (w.drewN q).cell? ⟨b', off' + i * 5 + 3, none⟩ = some (.int .i64 ud) := fun _ => s3
        have f4' : ∀ q, (w.drewN q).cell? ⟨b', off' + i * 5 + 4, none⟩ = some (.int .i64 ue) := fun _ => s4
        have hq := fun W => neq_tup W ta tb tc td te ua ub uc ud ue
        simp only [heq] at hq
        have hg := fun W x y => guard_tup W .neq x y #[.int .i64 ta, .int .i64 tb, .int .i64 tc, .int .i64 td, .int .i64 te] #[.int .i64 ua, .int .i64 ub, .int .i64 uc, .int .i64 ud, .int .i64 ue]
        clear heq hbq ht ht'
        cases bq
        · have HNE : Hid (decide (l = l') = false) := by
            unfold Hid
            rw [decide_eq_false_iff_not]
            exact HNO.out (of_decide_eq_false HBQ.out)
          clear HBQ HNO HTK
          go_wp2
          go_quiet (fail)
          go_wp2
          go_ret
          exact ⟨ret_bool HNE.out.symm, _, World.drewN_drewN _ _ _⟩
        · have HT2 := Lib.hid (HTK.out (of_decide_eq_true HBQ.out))
          clear HBQ HNO HTK
          go_wp2
          go_quiet (fail)
          go_wp2
          go_roundw
          case rel => exact ⟨i + 1, by omega, by go_num, ⟨_, rfl⟩, HT2.out⟩
          case measure => simp [intOf]; omega
      · obtain rfl : i = m := by omega
        have HE : Hid (decide (l = l') = true) := by
          have h := HT.out
          rw [List.take_of_length_le (by have := HL.out; omega), List.take_of_length_le (by have := HL'.out; omega)] at h
          exact decide_eq_true h
        have g0 : decide ((i : Int) < (i : Int)) = false := by simp
        go_wp2
        go_ret
        exact ⟨ret_bool HE.out.symm, q0, rfl⟩
  · have HNE : Hid (decide (l = l') = false) := by
      unfold Hid
      rw [decide_eq_false_iff_not]
      intro e; exact hne (by rw [← hlen, ← hlen', e])
    have g9 : ((m : Int) != (m' : Int)) = true := by simpa using fun h : (m : Int) = (m' : Int) => hne (by omega)
    clear h h' hlen hlen' hm hm' hne
    go_enter Try.func20, Try.ntmps20
    go_wp2
    go_ret
    exact ⟨ret_bool HNE.out.symm, 0, rfl⟩
end Go.Proofs.Ytbkgpilmgllkiaa

namespace Go.Proofs.Ytbkgpilmgllkiaa
open Go.ChangeShapes Go.WideShapes Go.ChangeAt Go.RowKit

section
variable {H : Type} {enc : TypeId × Value → H} {P : Program} {w : World} {base b0 : Nat} {spare : Nat → Bool} {held : Bool} {r : Reach}
open Go.Joins Go.Deep
theorem open_tup {t e : TypeId} {v : Value} {d : DataW H} {p : List MemPlace} (ht : P.underlying t = some (.array 5 e)) (he : P.underlying e = some (.int .i64)) (hce : P.cellsOf e = 1) (hct : P.cellsOf t = 5)
    (hv : Value.okWide P w r b0 t v) (h : DataW.Trod enc P w base spare held t v d p) :
    ∃ t : Tup, v = .agg #[.int .i64 t.a, .int .i64 t.b, .int .i64 t.c, .int .i64 t.d, .int .i64 t.e] ∧ TupOk t := by
  obtain ⟨zs, hl, rfl, hw⟩ := open_arr ht he hce hct hv h
  match zs, hl, hw with
  | [x, y, z, u, q], _, hw => exact ⟨⟨x, y, z, u, q⟩, rfl, fun k hk => hw k hk⟩
/-- a struct of one-cell fields, all integers, by value -/
theorem open_ints_struct {t i : TypeId} {fs : Array Field} {v : Value} {d : DataW H} {p : List MemPlace} (ht : P.underlying t = some (.struct fs)) (hone : oneCellFields P fs = true) (hC : P.cellsOf t = fs.size) (hi : P.underlying i = some (.int .i64)) (hall : ∀ (j : Nat) (f : Field), fs[j]? = some f → f.type = i)
    (hv : Value.okWide P w r b0 t v) (h : DataW.Trod enc P w base spare held t v d p) :
    ∃ zs : List Int, zs.length = fs.size ∧ v = .agg (zs.map (Value.int .i64)).toArray ∧ ∀ z ∈ zs, I64 z := by
  have h0 : ∃ cs, v = .agg cs ∧ cs.size = P.cellsOf t := by
    simp only [Value.okWide, ht] at hv
    obtain ⟨cs, h1, h2, _⟩ := hv
    exact ⟨cs, h1, h2⟩
  obtain ⟨cs, rfl, hsz⟩ := h0
  obtain ⟨fuel, hf⟩ := h
  have hcells : (Value.agg cs).cells.toList = cs.toList := by simp [Value.cells]
  rw [hcells] at hf
  obtain ⟨ys, n', hn', hy, hlen, hyl, hff⟩ := DataW.trod_struct ht hf
  have hall2 : ∀ j, j < fs.size → ∃ z, cs[j]? = some (.int .i64 z) ∧ I64 z := by
    intro j hj
    have hjf : fs[j]? = some fs[j] := Array.getElem?_eq_getElem hj
    obtain ⟨ho, hk⟩ := hone_of hone j _ hjf
    have h1 := hff j _ hjf
    rw [ho, hk] at h1
    have hjl : j < cs.toList.length := by simp; omega
    have hone' : (cs.toList.drop j).take 1 = [cs.toList[j]'hjl] := by
      rw [List.drop_eq_getElem_cons hjl]; rfl
    rw [hone'] at h1
    have hys : ys[j]? = some (ys[j]'(by omega)) := List.getElem?_eq_getElem (by omega)
    rw [hall j _ hjf] at h1
    obtain ⟨z, hz, _, hw⟩ := DataW.trod_int hi (h1.trans hys)
    injection hz with hz
    exact ⟨z, by rw [← Array.getElem?_toList, List.getElem?_eq_getElem hjl, hz], hw⟩
  have hall3 : ∀ c ∈ cs.toList, c = .int .i64 (intOf c) ∧ I64 (intOf c) := by
    intro c hc
    obtain ⟨j, hj, rfl⟩ := List.getElem_of_mem hc
    obtain ⟨z, hz, hw⟩ := hall2 j (by simp at hj; omega)
    rw [← Array.getElem?_toList, List.getElem?_eq_getElem hj] at hz
    injection hz with hz
    rw [hz]; exact ⟨rfl, hw⟩
  refine ⟨cs.toList.map intOf, by rw [List.length_map]; simp; omega, ?_, ?_⟩
  · congr 1
    apply Array.ext'
    rw [List.map_map]
    have e1 : ∀ l : List Value, (∀ c ∈ l, c = .int .i64 (intOf c) ∧ I64 (intOf c)) → l = l.map (Value.int .i64 ∘ intOf) := by
      intro l
      induction l with
      | nil => intro _; rfl
      | cons c l ih => intro h; rw [List.map_cons, ← ih fun x hx => h x (by simp [hx])]; congr 1; exact (h c (by simp)).1
    exact e1 _ hall3
  · intro z hz
    obtain ⟨c, hc, rfl⟩ := List.mem_map.1 hz
    exact (hall3 c hc).2
theorem open_struct3 {t i : TypeId} {f0 f1 f2 : Field} {v : Value} {d : DataW H} {p : List MemPlace} (ht : P.underlying t = some (.struct #[f0, f1, f2])) (hone : oneCellFields P #[f0, f1, f2] = true) (hC : P.cellsOf t = 3) (hi : P.underlying i = some (.int .i64)) (h0 : f0.type = i) (h1 : f1.type = i) (h2 : f2.type = i)
    (hv : Value.okWide P w r b0 t v) (h : DataW.Trod enc P w base spare held t v d p) :
    ∃ x y z : Int, v = .agg #[.int .i64 x, .int .i64 y, .int .i64 z] ∧ I64 x ∧ I64 y ∧ I64 z := by
  obtain ⟨zs, hl, rfl, hw⟩ := open_ints_struct ht hone hC hi (fun j f hj => by
    match j, hj with
    | 0, hj => simp at hj; rw [← hj]; exact h0
    | 1, hj => simp at hj; rw [← hj]; exact h1
    | 2, hj => simp at hj; rw [← hj]; exact h2
    | j + 3, hj => simp at hj) hv h
  match zs, hl, hw with
  | [x, y, z], _, hw => exact ⟨x, y, z, rfl, hw x (by simp), hw y (by simp), hw z (by simp)⟩
theorem open_struct4 {t i : TypeId} {f0 f1 f2 f3 : Field} {v : Value} {d : DataW H} {p : List MemPlace} (ht : P.underlying t = some (.struct #[f0, f1, f2, f3])) (hone : oneCellFields P #[f0, f1, f2, f3] = true) (hC : P.cellsOf t = 4) (hi : P.underlying i = some (.int .i64)) (h0 : f0.type = i) (h1 : f1.type = i) (h2 : f2.type = i) (h3 : f3.type = i)
    (hv : Value.okWide P w r b0 t v) (h : DataW.Trod enc P w base spare held t v d p) :
    ∃ x y z u : Int, v = .agg #[.int .i64 x, .int .i64 y, .int .i64 z, .int .i64 u] ∧ I64 x ∧ I64 y ∧ I64 z ∧ I64 u := by
  obtain ⟨zs, hl, rfl, hw⟩ := open_ints_struct ht hone hC hi (fun j f hj => by
    match j, hj with
    | 0, hj => simp at hj; rw [← hj]; exact h0
    | 1, hj => simp at hj; rw [← hj]; exact h1
    | 2, hj => simp at hj; rw [← hj]; exact h2
    | 3, hj => simp at hj; rw [← hj]; exact h3
    | j + 4, hj => simp at hj) hv h
  match zs, hl, hw with
  | [x, y, z, u], _, hw => exact ⟨x, y, z, u, rfl, hw x (by simp), hw y (by simp), hw z (by simp), hw u (by simp)⟩
/-- a tuple's cells that came in -/
theorem tup_cells {t e : TypeId} {fuel : Nat} {cs : List Value} {x : DataW H × List MemPlace} (ht : P.underlying t = some (.array 5 e)) (he : P.underlying e = some (.int .i64)) (hce : P.cellsOf e = 1) (hct : P.cellsOf t = 5) (h : DataW.trod enc P w base spare held fuel t cs = some x) : ∃ u : Tup, cs = tupC u ∧ TupOk u := by
  obtain ⟨xs, m, _, _, hl, hxl, hx⟩ := DataW.trod_array ht h
  rw [hct] at hl
  have hcell : ∀ i, i < 5 → ∃ z, cs[i]? = some (.int .i64 z) ∧ I64 z := by
    intro i hi
    have h1 := hx i hi
    rw [hce, Nat.mul_one] at h1
    rw [List.drop_eq_getElem_cons (by omega), List.take_succ_cons, List.take_zero] at h1
    rw [List.getElem?_eq_getElem (show i < xs.length by omega)] at h1
    obtain ⟨z, hz, _, hw⟩ := DataW.trod_int he h1
    injection hz with hz
    exact ⟨z, by rw [List.getElem?_eq_getElem (by omega), hz], hw⟩
  clear hx h
  match cs, hl, hcell with
  | [c0, c1, c2, c3, c4], _, hcell =>
    obtain ⟨z0, e0, w0⟩ := hcell 0 (by omega)
    obtain ⟨z1, e1, w1⟩ := hcell 1 (by omega)
    obtain ⟨z2, e2, w2⟩ := hcell 2 (by omega)
    obtain ⟨z3, e3, w3⟩ := hcell 3 (by omega)
    obtain ⟨z4, e4, w4⟩ := hcell 4 (by omega)
    have e0' : some c0 = some (Value.int .i64 z0) := e0
    injection e0' with e0'
    subst e0'
    have e1' : some c1 = some (Value.int .i64 z1) := e1
    injection e1' with e1'
    subst e1'
    have e2' : some c2 = some (Value.int .i64 z2) := e2
    injection e2' with e2'
    subst e2'
    have e3' : some c3 = some (Value.int .i64 z3) := e3
    injection e3' with e3'
    subst e3'
    have e4' : some c4 = some (Value.int .i64 z4) := e4
    injection e4' with e4'
    subst e4'
    refine ⟨⟨z0, z1, z2, z3, z4⟩, rfl, fun z hz => ?_⟩
    simp [Tup.cols] at hz
    rcases hz with rfl | rfl | rfl | rfl | rfl <;> assumption
/-- A slice of tuples that came in. -/
theorem open_tups {t e i : TypeId} {fuel : Nat} {v : Value} {x : DataW H × List MemPlace} (ht : P.underlying t = some (.slice e)) (he : P.underlying e = some (.array 5 i)) (hi : P.underlying i = some (.int .i64)) (hce : P.cellsOf i = 1) (hC : P.cellsOf e = 5)
    (h : DataW.trod enc P w base spare held fuel t [v] = some x) : ∃ a len cap l, v = .slice a len cap ∧ ReadsT w w.heap.size a len l ∧ len ≤ maxLen := by
  rcases open_slice ht h with h0 | ⟨a, len, cap, m, n, D, Pl, hcs, hb, hl, hm, hmm, hx, hit⟩
  · have h2 := h0.1
    injection h2 with h2; subst h2
    exact ⟨none, 0, 0, [], rfl, ReadsT.nil _ _ _, Nat.zero_le _⟩
  · injection hcs with hcs; subst hcs
    have hlm : len ≤ m := by split at hmm <;> omega
    have hex : ∀ k, k < len → ∃ o : Tup, TupOk o ∧ ∀ (j : Nat) (u : Value), (tupC o)[j]? = some u → w.cell? (a.add (k * 5 + j)) = some u := by
      intro k hk
      obtain ⟨cs', hc, ht'⟩ := hit k (by omega)
      rw [hC] at hc
      obtain ⟨o, rfl, ho⟩ := tup_cells he hi hce hC ht'
      obtain ⟨_, hcl, hat⟩ := World.cells?_some hc
      refine ⟨o, ho, fun j u hj => ?_⟩
      have hj5 : j < 5 := (List.getElem?_eq_some_iff.1 hj).1
      rw [← Go.Deep.add_add, hat j hj5, hj]
    obtain ⟨f, hf⟩ : ∃ f : Nat → Tup, ∀ k, k < len → TupOk (f k) ∧ ∀ (j : Nat) (u : Value), (tupC (f k))[j]? = some u → w.cell? (a.add (k * 5 + j)) = some u := by
      have : ∀ k, ∃ o : Tup, k < len → TupOk o ∧ ∀ (j : Nat) (u : Value), (tupC o)[j]? = some u → w.cell? (a.add (k * 5 + j)) = some u := fun k => by
        by_cases hk : k < len
        · obtain ⟨o, ho⟩ := hex k hk; exact ⟨o, fun _ => ho⟩
        · exact ⟨tup0, fun h => absurd h hk⟩
      exact ⟨fun k => (this k).choose, fun k => (this k).choose_spec⟩
    have hspot : 0 < len → a.spot = none := fun hp => by
      have := (hf 0 hp).2 0 _ rfl
      simpa [Addr.add] using World.cell?_spot this
    obtain ⟨b, off, spot⟩ := a
    have e : ∀ k j, spot = none → (⟨b, off, spot⟩ : Addr).add (k * 5 + j) = ⟨b, off + k * 5 + j, none⟩ := by
      intro k j hs; subst hs; unfold Addr.add; split <;> simp_all [Nat.add_assoc]
    refine ⟨_, len, cap, (List.range len).map f, rfl, ⟨by simp, ?_, fun hpos => ?_⟩, by omega⟩
    · intro o ho
      obtain ⟨k, hk, rfl⟩ := List.mem_map.1 ho
      exact (hf k (List.mem_range.1 hk)).1
    · have hs : spot = none := hspot hpos
      subst hs
      refine ⟨b, off, rfl, ?_, fun k hkl j u hj => ?_⟩
      · have := (hf 0 hpos).2 0 _ rfl; rw [e _ _ rfl] at this; exact block_lt_of_cell this
      · have hD : ((List.range len).map f).getD k tup0 = f k := by
          rw [List.getD_eq_getElem?_getD, List.getElem?_map, List.getElem?_range hkl]; rfl
        rw [hD] at hj
        have := (hf k hkl).2 j u hj
        rw [e _ _ rfl] at this; exact this
end
end Go.Proofs.Ytbkgpilmgllkiaa

namespace Go.Proofs.Ytbkgpilmgllkiaa
open Go.ChangeShapes Go.WideShapes Go.ChangeAt Go.RowKit

/-- the work is as F says; of what was there at w0 nothing has turned; the rows rs are the law's own -/
def Base (w0 : World) (p : Wp) (F : Fs) (n : Nat) (rs : List (Nat × TypeId × List Value)) (W : World) : Prop :=
  ∃ G, Sys W G p F n ∧ (∀ k, G k → w0.heap.size ≤ k) ∧ Below w0.heap.size w0 W ∧ ∀ r ∈ rs, Row W r.1 r.2.1 r.2.2 ∧ ¬ G r.1 ∧ r.2.1 ≠ 130
section
variable {w0 W : World} {p : Wp} {F : Fs} {n : Nat} {rs : List (Nat × TypeId × List Value)}
theorem Base.size (h : Base w0 p F n rs W) : w0.heap.size ≤ W.heap.size := by obtain ⟨G, _, _, h, _⟩ := h; exact h.size
theorem Base.bel (h : Base w0 p F n rs W) : Below w0.heap.size w0 W := by obtain ⟨G, _, _, h, _⟩ := h; exact h
theorem Base.sok (h : Base w0 p F n rs W) : F.S.ok := by obtain ⟨G, h, _⟩ := h; exact h.sok
theorem Base.dsize (h : Base w0 p F n rs W) : 8 ≤ F.D.size ∧ F.D.size ≤ 256 := by obtain ⟨G, h, _⟩ := h; exact h.size
theorem Base.below (h : Base w0 p F n rs W) {W' : World} (hb : Below W.heap.size W W') : Base w0 p F n rs W' := by
  obtain ⟨G, h1, h2, h3, h4⟩ := h
  exact ⟨G, h1.below hb, h2, h3.trans (hb.mono h3.size), fun r hr => ⟨(h4 r hr).1.below hb (h4 r hr).1.lt, (h4 r hr).2⟩⟩
theorem Base.row (h : Base w0 p F n rs W) {r : Nat × TypeId × List Value} (hr : r ∈ rs) : Row W r.1 r.2.1 r.2.2 := by obtain ⟨G, _, _, _, h4⟩ := h; exact (h4 r hr).1
theorem Base.to (h : Base w0 p F n rs W) {W' : World} {F' : Fs} {n' : Nat} (hs : ∀ G, Sys W G p F n → (∀ k, G k → w0.heap.size ≤ k) → SysTo W G p F' n' W') : Base w0 p F' n' rs W' := by
  obtain ⟨G, h1, h2, h3, h4⟩ := h
  obtain ⟨G', k1, k2, k3, k4⟩ := (hs G h1 h2).apart
  have z := h3.size
  exact ⟨G', k1, fun k hk => (k3 k hk).elim (h2 k) fun h => by omega, h3.trans (k2.below z fun k hk => h2 k hk), fun r hr => ⟨k2.row (h4 r hr).1 (h4 r hr).2.1, k4 _ (h4 r hr).1.lt (h4 r hr).2.1, (h4 r hr).2.2⟩⟩
/-- a call that makes of the work what its contract says -/
theorem Base.call (h : Base w0 p F n rs W) {f : FuncId} {args : Array Value} {A : Ending → Prop} {F' : Fs} {n' : Nat} (hc : ∀ G, Sys W G p F n → (∀ k, G k → w0.heap.size ≤ k) → Calls Try.prog f args W fun e w' => A e ∧ SysTo W G p F' n' w') :
    Calls Try.prog f args W fun e w' => A e ∧ Base w0 p F' n' rs w' := by
  obtain ⟨G, h1, h2, h3, h4⟩ := id h
  refine (hc G h1 h2).mono ?_
  rintro e w' ⟨ha, k⟩
  refine ⟨ha, ?_⟩
  obtain ⟨G', k1, k2, k3, k4⟩ := k.apart
  have z := h3.size
  exact ⟨G', k1, fun k hk => (k3 k hk).elim (h2 k) fun h => by omega, h3.trans (k2.below z fun k hk => h2 k hk), fun r hr => ⟨k2.row (h4 r hr).1 (h4 r hr).2.1, k4 _ (h4 r hr).1.lt (h4 r hr).2.1, (h4 r hr).2.2⟩⟩
/-- one row more -/
theorem Base.alloc (h : Base w0 p F n rs W) (t : TypeId) (ht : t ≠ 130) (cs : Array Value) : Base w0 p F n ((W.heap.size, t, cs.toList) :: rs) (W.alloc (.cells cs t)) := by
  have hb : Below W.heap.size W (W.alloc (.cells cs t)) := (Below.refl _ _).alloc (Nat.le_refl _) _
  obtain ⟨G, h1, h2, h3, h4⟩ := h
  refine ⟨G, h1.below hb, h2, h3.trans (hb.mono h3.size), fun r hr => ?_⟩
  rcases List.mem_cons.1 hr with rfl | hr
  · exact ⟨heap_alloc_new _ _, fun hg => Nat.lt_irrefl _ (h1.lt hg), ht⟩
  · exact ⟨(h4 r hr).1.below hb (h4 r hr).1.lt, (h4 r hr).2⟩
theorem base_space (h : Base w0 p F n rs W) : Calls Try.prog 14 #[.pointer (some ⟨p.w, 0, none⟩)] W fun e w' => e = .returned (.pointer (some ⟨p.s, 0, none⟩)) ∧ Base w0 p F n rs w' := by
  obtain ⟨G, h1, _⟩ := id h
  exact (wspc_any h1.row).mono fun e w' ⟨he, hw⟩ => ⟨he, by rw [hw]; exact h⟩
theorem base_arena (h : Base w0 p F n rs W) : Calls Try.prog 16 #[.pointer (some ⟨p.w, 0, none⟩)] W fun e w' => e = .returned (.pointer (some ⟨p.a, 0, none⟩)) ∧ Base w0 p F n rs w' := by
  obtain ⟨G, h1, _⟩ := id h
  exact (warn_any h1.row).mono fun e w' ⟨he, hw⟩ => ⟨he, by rw [hw]; exact h⟩
theorem base_device (h : Base w0 p F n rs W) : Calls Try.prog 25 #[.pointer (some ⟨p.w, 0, none⟩)] W fun e w' => e = .returned (.pointer (some ⟨p.d, 0, none⟩)) ∧ Base w0 p F n rs w' := by
  obtain ⟨G, h1, _⟩ := id h
  exact (wdev_any h1.row).mono fun e w' ⟨he, hw⟩ => ⟨he, by rw [hw]; exact h⟩
theorem base_free (h : Base w0 p F n rs W) : Calls Try.prog 15 #[.pointer (some ⟨p.s, 0, none⟩)] W fun e w' => e = .returned (.int .i64 (sumB F.S.fr : Nat)) ∧ Base w0 p F n rs w' := by
  obtain ⟨G, h1, _⟩ := id h
  obtain ⟨Gs, hs, _⟩ := h1.spc
  exact (free_any p.s F.S Gs W hs).mono fun e w' ⟨he, hb⟩ => ⟨he, h.below hb⟩
theorem base_used (h : Base w0 p F n rs W) : Calls Try.prog 17 #[.pointer (some ⟨p.a, 0, none⟩)] W fun e w' => e = .returned (.int .i64 (F.A.used : Int)) ∧ Base w0 p F n rs w' := by
  obtain ⟨G, h1, _⟩ := id h
  exact h1.used_any.mono fun e w' ⟨he, hw⟩ => ⟨he, by rw [hw]; exact h⟩
theorem base_peak (h : Base w0 p F n rs W) : Calls Try.prog 21 #[.pointer (some ⟨p.a, 0, none⟩)] W fun e w' => e = .returned (.int .i64 (F.A.peak : Int)) ∧ Base w0 p F n rs w' := by
  obtain ⟨G, h1, _⟩ := id h
  exact h1.peak_any.mono fun e w' ⟨he, hw⟩ => ⟨he, by rw [hw]; exact h⟩
theorem base_ffree (h : Base w0 p F n rs W) (f m k c : Nat) (hf : f ≤ 100000000) (hm : m ≤ 100000000) : Calls Try.prog 22 #[.pointer (some ⟨p.w, 0, none⟩), .agg #[.int .i64 f, .int .i64 m, .int .i64 k, .int .i64 c]] W fun e w' => e = .returned (.int .i64 (if m = 0 then 0 else (giveS F.S f m).2 : Nat)) ∧ Base w0 p { F with S := giveN F.S f m } n rs w' :=
  h.call fun _ hs _ => ffree_any hs f m k c hf hm
theorem base_acts (h : Base w0 p F n rs W) : Calls Try.prog 27 #[.pointer (some ⟨p.d, 0, none⟩)] W fun e w' => e = .returned (.int .i64 F.D.acts) ∧ Base w0 p F n rs w' := by
  obtain ⟨G, h1, _⟩ := id h
  obtain ⟨Gd, hd, _⟩ := h1.dev
  obtain ⟨bl, bf, v, nl, hr, _⟩ := hd.2
  exact (acts_any p.d F.D bl bf v W hr).mono fun e w' ⟨he, hw⟩ => ⟨he, by rw [hw]; exact h⟩
theorem base_holds (h : Base w0 p F n rs W) (width : Int) : Calls Try.prog 30 #[.pointer (some ⟨p.w, 0, none⟩), .int .i64 width] W fun e w' => e = .returned (.int .i64 (holdsI F.D.size width : Nat)) ∧ Base w0 p F n rs w' := by
  obtain ⟨G, h1, _⟩ := id h
  exact (hol_any h1 width).mono fun e w' ⟨he, hw⟩ => ⟨he, by rw [hw]; exact h⟩
theorem base_fault (h : Base w0 p F n rs W) (m : Nat) (hm : m ≤ 1000000) : Calls Try.prog 26 #[.pointer (some ⟨p.d, 0, none⟩), .int .i64 m] W fun e w' => e = .returned (.tuple #[]) ∧ Base w0 p { F with D := { F.D with tb := true, tn := m } } n rs w' := by
  refine h.call fun G hs _ => ?_
  obtain ⟨Gd, hd, hback⟩ := hs.dev
  refine (setFault_any p.d F.D n Gd m W hd (by omega) (by omega)).mono ?_
  exact fun e w' ⟨he, h1, h2⟩ => ⟨he, hback _ _ _ ⟨Gd, h1, h2.mono fun k hk => by rw [hk]; exact hd.mine, fun k hk => .inl hk⟩⟩
theorem Base.from_ {G : Nat → Prop} {W' : World} {F' : Fs} {n' : Nat} (_h1 : Sys W G p F n) (h2 : ∀ k, G k → w0.heap.size ≤ k) (h3 : Below w0.heap.size w0 W) (h4 : ∀ r ∈ rs, Row W r.1 r.2.1 r.2.2 ∧ ¬ G r.1 ∧ r.2.1 ≠ 130) (hs : SysTo W G p F' n' W') : Base w0 p F' n' rs W' := by
  obtain ⟨G', k1, k2, k3, k4⟩ := hs.apart
  have z := h3.size
  exact ⟨G', k1, fun k hk => (k3 k hk).elim (h2 k) fun h => by omega, h3.trans (k2.below z fun k hk => h2 k hk), fun r hr => ⟨k2.row (h4 r hr).1 (h4 r hr).2.1, k4 _ (h4 r hr).1.lt (h4 r hr).2.1, (h4 r hr).2.2⟩⟩
/-- Lay, of a list that came in -/
def LayB (w0 : World) (p : Wp) (F : Fs) (n : Nat) (rs : List (Nat × TypeId × List Value)) (width : Int) (l : List Tup) (e : Ending) (w' : World) : Prop :=
  (∃ er, e = .returned (.tuple #[fileV 0 0 0 0, .int .i64 er]) ∧ WErr F width (l.length : Int) er ∧ Base w0 p F n rs w') ∨
  (∃ (t : Wt) (S1 : Sp), (WArgs F width (l.length : Int) ∧ F.D.size ≤ F.A.room - F.A.used ∧ (t.k : Int) = width ∧ t.h = holdsI F.D.size width ∧ t.blocks = blocksN t.h l.length ∧ Taken F.S S1 t.first t.blocks ∧ t.first ≤ 2000000 ∧ ∀ q ∈ F.A.st, q.1 ≠ t.b) ∧
    ((e = .returned (.tuple #[fileV 0 0 0 0, .int .i64 1]) ∧ (∃ u ∈ l, fitsT t.k u = false) ∧ ∃ D' m, Wrote F.D D' m ∧ Base w0 p (LayE F F.S t.b D') (n + l.length + 1) rs w') ∨
     (∃ (er : Int) (D1 : St) (m : Nat) (i : Int) (ws : List Nat), e = .returned (.tuple #[fileV 0 0 0 0, .int .i64 er]) ∧ er ≠ 0 ∧ Wrote F.D D1 m ∧ er = (write D1 i ws).1 ∧ (((t.first + t.blocks : Nat) : Int) ≤ F.D.blocks → right D1 i = true) ∧ ws.length = D1.size ∧ Base w0 p (LayE F F.S t.b (write D1 i ws).2) (n + l.length + 1) rs w') ∨
     (e = .returned (.tuple #[fileV t.first t.blocks t.k l.length, .int .i64 0]) ∧ (∀ u ∈ l, fitsT t.k u = true) ∧ ∃ D', Wrote F.D D' t.blocks ∧ StandsTo D' t.first t.k t.h l t.blocks ∧ Base w0 p (LayE F S1 t.b D') (n + l.length + 1) rs w')))
theorem base_lay (h : Base w0 p F n rs W) (width : Int) {A : Option Addr} {m c : Nat} {l : List Tup} (hl : ReadsT w0 w0.heap.size A m l) (hn : n + l.length + 1 ≤ 1000000) : Calls Try.prog 11 #[.pointer (some ⟨p.w, 0, none⟩), .int .i64 width, .slice A m c] W (LayB w0 p F n rs width l) := by
  obtain ⟨G, h1, h2, h3, h4⟩ := h
  refine (flay_any h1 width ((hl.keep h3).mono h3.size) (fun hm b off e hg => ?_) hn).mono ?_
  · obtain ⟨b', off', e', hb, _⟩ := hl.2.2 hm
    rw [e'] at e; injection e with e; injection e with e _
    subst e
    have := h2 _ hg; omega
  · rintro e w' (⟨er, he, hw, hs⟩ | ⟨t, S1, ht, ⟨er, he, rfl, hu, D', m', hD, hs⟩ | ⟨er, he, hne, D1, m', i, ws, e1, e2, e3, e4, hs⟩ | ⟨he, hall, D', e1, e2, hs⟩⟩)
    · exact .inl ⟨er, he, hw, Base.from_ h1 h2 h3 h4 hs⟩
    · exact .inr ⟨t, S1, ht, .inl ⟨he, hu, D', m', hD, Base.from_ h1 h2 h3 h4 hs⟩⟩
    · exact .inr ⟨t, S1, ht, .inr (.inl ⟨er, D1, m', i, ws, he, hne, e1, e2, e3, e4, Base.from_ h1 h2 h3 h4 hs⟩)⟩
    · exact .inr ⟨t, S1, ht, .inr (.inr ⟨he, hall, D', e1, e2, Base.from_ h1 h2 h3 h4 hs⟩)⟩
/-- List, of a file that stands -/
def ListB (w0 : World) (p : Wp) (F : Fs) (n : Nat) (rs : List (Nat × TypeId × List Value)) (first nb : Nat) (l : List Tup) (e : Ending) (w' : World) : Prop :=
  (∃ (A : Option Addr) (c b : Nat) (D' : St), e = .returned (.tuple #[.slice A l.length c, .int .i64 0]) ∧ ReadsT w' w'.heap.size A l.length l ∧ Wrote F.D D' nb ∧ (∀ i, D'.now i = F.D.now i) ∧ (∀ q ∈ F.A.st, q.1 ≠ b) ∧ Base w0 p (LayE F F.S b D') (n + l.length + 1) rs w') ∨
  (∃ (er : Int) (b m : Nat) (D1 : St) (i : Int), e = .returned (.tuple #[.slice none 0 0, .int .i64 er]) ∧ er ≠ 0 ∧ Wrote F.D D1 m ∧ er = (read D1 i).1 ∧ (((first + nb : Nat) : Int) ≤ F.D.blocks → right D1 i = true) ∧ (∀ q ∈ F.A.st, q.1 ≠ b) ∧ Base w0 p (LayE F F.S b (read D1 i).2) (n + l.length + 1) rs w')
theorem base_list (h : Base w0 p F n rs W) (k hh first nb : Nat) (l : List Tup) (hk : 0 < k ∧ k ≤ 5) (hhe : hh = holdsI F.D.size k) (hh0 : 0 < hh) (hnb : nb = blocksN hh l.length) (hcount : l.length ≤ 100000) (hfirst : first ≤ 2000000) (hn : n + l.length + 1 ≤ 1000000)
    (hst : StandsTo F.D first k hh l nb) (hall : ∀ u ∈ l, TupOk u ∧ fitsT k u = true) (hroom : F.D.size ≤ F.A.room - F.A.used) :
    Calls Try.prog 19 #[.pointer (some ⟨p.w, 0, none⟩), .agg #[.int .i64 first, .int .i64 nb, .int .i64 k, .int .i64 l.length]] W (ListB w0 p F n rs first nb l) := by
  obtain ⟨G, h1, h2, h3, h4⟩ := h
  refine (flist_ok h1 k hh first nb l hk hhe hh0 hnb hcount hfirst hn hst hall hroom).mono ?_
  rintro e w' (⟨A, c, b, D', he, hr, _, e1, e2, e3, hs⟩ | ⟨er, b, m, D1, i, he, hne, e1, e2, e3, e4, e5, hs⟩)
  · exact .inl ⟨A, c, b, D', he, hr, e1, e2, e3, Base.from_ h1 h2 h3 h4 hs⟩
  · exact .inr ⟨er, b, m, D1, i, he, hne, e1, e2, e3, e4, Base.from_ h1 h2 h3 h4 hs⟩
end
/-- what was taken is given with no error -/
theorem give_code {S S' : Sp} {a m : Nat} (hm : 0 < m) (h : S.ok) (ht : Took S S' a m) : (giveS S' a m).2 = 0 := by
  have hr := h.2.2
  have h1 := hr.has (ht.room a (Nat.le_refl _) (by omega))
  have h2 := hr.has (ht.room (a + m - 1) (by omega) (by omega))
  rcases giveS_spec ht.ok (a : Int) (m : Int) with ⟨s', a', m', e1, e2, h3, e3, hg⟩ | ⟨e3, hno⟩
  · rw [e3]
  · refine absurd ?_ (hno a m rfl rfl (by omega))
    rw [ht.first, ht.blocks]
    exact ⟨h1.1, by omega, fun b hb1 hb2 hh => ((ht.has b).1 hh).2 ⟨hb1, hb2⟩⟩
theorem taken_code {S S1 : Sp} {a m : Nat} (h : S.ok) (ht : Taken S S1 a m) : (if m = 0 then 0 else (giveS S1 a m).2) = 0 := by
  rcases ht with ⟨rfl, _, _⟩ | ⟨hm, ht, _⟩
  · rw [if_pos rfl]
  · rw [if_neg (by omega)]; exact give_code hm h ht
theorem taken_sum {S S1 : Sp} {a m : Nat} (ht : Taken S S1 a m) : sumB S1.fr + m = sumB S.fr := by
  rcases ht with ⟨rfl, _, rfl⟩ | ⟨hm, ht, _⟩
  · rfl
  · exact ht.sum
theorem newsp_sum (n : Nat) : sumB (newSp 0 n).fr = n := by
  unfold newSp sumB
  simp only
  split <;> simp_all
theorem newsp_taken {n a m : Nat} {S1 : Sp} (ht : Taken (newSp 0 n) S1 a m) : a = 0 ∧ m ≤ n := by
  rcases ht with ⟨rfl, rfl, rfl⟩ | ⟨hm, ht, hl⟩
  · exact ⟨rfl, Nat.zero_le _⟩
  · have h1 : m ≤ n := by
      rcases Nat.lt_or_ge n m with h | h
      · exact absurd ht.room (newsp_none hm h)
      · exact h
    exact ⟨Nat.le_zero.1 (hl 0 (newsp_room h1)), h1⟩
theorem layE_used (F : Fs) (S' : Sp) (b : Nat) (D' : St) : (LayE F S' b D').A.used = F.A.used := by
  show F.A.used + F.D.size - F.D.size = F.A.used
  omega
theorem layE_room (F : Fs) (S' : Sp) (b : Nat) (D' : St) : (LayE F S' b D').A.room = F.A.room := rfl
theorem layE_peak (F : Fs) (S' : Sp) (b : Nat) (D' : St) : (LayE F S' b D').A.peak = if F.A.peak < F.A.used + F.D.size then F.A.used + F.D.size else F.A.peak := rfl
theorem layE_same (F : Fs) (S' : Sp) (b : Nat) (D' : St) (hb : ∀ q ∈ F.A.st, q.1 ≠ b) : (LayE F S' b D').A.st = F.A.st := by
  show without (F.A.st ++ [(b, F.D.size)]) b = F.A.st
  generalize F.A.st = l at hb
  induction l with
  | nil => simp [without]
  | cons q l ih =>
    have h1 := hb q List.mem_cons_self
    rw [List.cons_append]
    unfold without
    rw [if_neg h1]
    rw [ih fun q hq => hb q (List.mem_cons_of_mem _ hq)]
end Go.Proofs.Ytbkgpilmgllkiaa

namespace Go.Proofs.Ytbkgpilmgllkiaa
open Go.ChangeShapes Go.WideShapes Go.ChangeAt Go.RowKit

/-- Next: of the file just the block that is asked for needs to stand -/
theorem fnext_part {w : World} {G : Nat → Prop} {p : Wp} {F : Fs} {n x : Nat} {r : Rt} {ws : List Nat} {l : List Tup} (h : Sys w G p F n) (hn : n < 1000000) (hok : RtOk r F.D.size) (hm : RMem w x p r F.D.size ws) (ho : ROut G x r) (hc : l.length = r.count) (hpos : r.pos < r.count)
    (hblk : r.pos % r.h = 0 → (read F.D ((r.first + r.pos / r.h : Nat) : Int)).1 = 0 ∧ F.D.now ((r.first + r.pos / r.h : Nat) : Int) = sealW F.D.size (r.first + r.pos / r.h) r.k (payT r.h r.k l (r.pos / r.h)))
    (hbuf : r.pos % r.h ≠ 0 → ws.take (min r.h (r.count - r.pos / r.h * r.h) * r.k) = payT r.h r.k l (r.pos / r.h)) {t : Tup} (ht : l[r.pos]? = some t) (hto : TupOk t) (htf : fitsT r.k t = true) :
    Calls Try.prog 31 #[.pointer (some ⟨x, 0, none⟩)] w fun e w' => e = .returned (.tuple #[.agg #[.int .i64 t.a, .int .i64 t.b, .int .i64 t.c, .int .i64 t.d, .int .i64 t.e], .bool true, .int .i64 0]) ∧
      ∃ ws', NextTo w G p { F with D := nextD F.D r } (n + 1) x { r with pos := r.pos + 1 } ws' w' ∧ ws'.take (min r.h (r.count - r.pos / r.h * r.h) * r.k) = payT r.h r.k l (r.pos / r.h) := by
  unfold nextD
  have hsz := hok.sz
  by_cases hmid : r.pos % r.h = 0
  · rw [if_pos hmid]
    obtain ⟨he, hs⟩ := hblk hmid
    have hpl : (payT r.h r.k l (r.pos / r.h)).length = min r.h (r.count - r.pos / r.h * r.h) * r.k := by rw [pay_words hok.k.2, hc]
    have hle : (payT r.h r.k l (r.pos / r.h)).length ≤ F.D.size - 2 := Nat.le_trans (pay_len hok.k.2 l _) hok.h.2.1
    have g1 : okW (F.D.now ((r.first + r.pos / r.h : Nat) : Int)) (r.first + r.pos / r.h) = true := by rw [hs]; exact seal_ok hle (by omega)
    have g2 : tagW (F.D.now ((r.first + r.pos / r.h : Nat) : Int)) = r.k := by rw [hs]; exact seal_tag hle (by omega)
    have g3 : numW (F.D.now ((r.first + r.pos / r.h : Nat) : Int)) - 1 = min r.h (r.count - r.pos / r.h * r.h) * r.k := by rw [hs, seal_num hle (by omega), hpl, Nat.add_sub_cancel]
    have g4 : (F.D.now ((r.first + r.pos / r.h : Nat) : Int)).take (min r.h (r.count - r.pos / r.h * r.h) * r.k) = payT r.h r.k l (r.pos / r.h) := by rw [hs, ← hpl]; exact seal_take
    have hsp : (splice ws 0 ((F.D.now ((r.first + r.pos / r.h : Nat) : Int)).take (min r.h (r.count - r.pos / r.h * r.h) * r.k))).take (min r.h (r.count - r.pos / r.h * r.h) * r.k) = payT r.h r.k l (r.pos / r.h) := by
      rw [g4]; unfold splice
      rw [List.take_zero, List.nil_append, List.take_left' hpl]
    have hcl := fnext_good h hok hm ho hpos (now_read F.D ((r.first + r.pos / r.h : Nat) : Int) 0).2.1 hmid fun W hb => rblk_good (h.below hb) hn hok (hm.below hb) ho hpos he g1 g2 g3
    rw [buf_tup hok.k.2 hok.h.1 hpos hc hsp ht hto htf] at hcl
    exact hcl.mono fun e w' ⟨h1, h2⟩ => ⟨h1, _, h2, hsp⟩
  · rw [if_neg hmid]
    have hb := hbuf hmid
    have hcl := fnext_mid h hok hm ho hpos hmid
    rw [buf_tup hok.k.2 hok.h.1 hpos hc hb ht hto htf] at hcl
    exact hcl.mono fun e w' ⟨h1, G', k1, k2⟩ => ⟨h1, _, ⟨G', k1.mono (by omega) (by omega), k2⟩, hb⟩
/-- the work, a reader, rows of the law's own -/
def RBase (w0 : World) (p : Wp) (F : Fs) (n : Nat) (rs : List (Nat × TypeId × List Value)) (x : Nat) (r : Rt) (ws : List Nat) (W : World) : Prop :=
  ∃ G, Sys W G p F n ∧ (∀ k, G k → w0.heap.size ≤ k) ∧ Below w0.heap.size w0 W ∧ (∀ q ∈ rs, Row W q.1 q.2.1 q.2.2 ∧ ¬ G q.1 ∧ q.2.1 ≠ 130 ∧ q.2.1 ≠ 69 ∧ q.2.1 ≠ 126) ∧ RMem W x p r F.D.size ws ∧ ROut G x r ∧ w0.heap.size ≤ x ∧ w0.heap.size ≤ r.b ∧ w0.heap.size ≤ r.g
section
variable {w0 W : World} {p : Wp} {F : Fs} {n x : Nat} {rs : List (Nat × TypeId × List Value)} {r : Rt} {ws : List Nat}
theorem RBase.below (h : RBase w0 p F n rs x r ws W) {W' : World} (hb : Below W.heap.size W W') : RBase w0 p F n rs x r ws W' := by
  obtain ⟨G, h1, h2, h3, h4, h5, h6⟩ := h
  exact ⟨G, h1.below hb, h2, h3.trans (hb.mono h3.size), fun q hq => ⟨(h4 q hq).1.below hb (h4 q hq).1.lt, (h4 q hq).2⟩, h5.below hb, h6⟩
theorem RBase.base (h : RBase w0 p F n rs x r ws W) : Base w0 p F n rs W := by
  obtain ⟨G, h1, h2, h3, h4, _⟩ := h
  exact ⟨G, h1, h2, h3, fun q hq => ⟨(h4 q hq).1, (h4 q hq).2.1, (h4 q hq).2.2.1⟩⟩
/-- Read of a file that could be -/
theorem rbase_read (h : Base w0 p F n rs W) (ht : ∀ q ∈ rs, q.2.1 ≠ 69 ∧ q.2.1 ≠ 126) (k hh first nb count : Nat) (hhe : hh = holdsI F.D.size k) (hh0 : 0 < hh) (hnb : nb = blocksN hh count) (hcount : count ≤ 100000000) (hroom : F.D.size ≤ F.A.room - F.A.used) :
    Calls Try.prog 29 #[.pointer (some ⟨p.w, 0, none⟩), .agg #[.int .i64 first, .int .i64 nb, .int .i64 k, .int .i64 count]] W fun e w' => ∃ x b g ws, e = .returned (.tuple #[.pointer (some ⟨x, 0, none⟩), .int .i64 0]) ∧ (∀ q ∈ F.A.st, q.1 ≠ b) ∧ RBase w0 p { F with A := grant F.A b F.D.size } n rs x ⟨k, hh, first, nb, count, 0, b, g⟩ ws w' := by
  obtain ⟨G, h1, h2, h3, h4⟩ := h
  have z := h3.size
  refine (fread_ok h1 k hh first nb count hhe hh0 hnb hcount hroom).mono ?_
  rintro e w' ⟨x, b, g, he, k1, k2, k3, G', k4, ⟨ws, k5⟩, k6, k7, k8⟩
  refine ⟨x, b, g, ws, he, fun q hq e => ?_, G', k4, fun k hk => (k8 k hk).elim (h2 k) fun h => by omega, h3.trans (k7.below z fun k hk => h2 k hk), fun q hq => ⟨k7.row (h4 q hq).1 (h4 q hq).2.1, fun hg => (k8 _ hg).elim (h4 q hq).2.1 (Nat.not_le_of_lt (h4 q hq).1.lt), (h4 q hq).2.2, ht q hq⟩, k5, k6, ?_, ?_, ?_⟩
  · have hl := (h1.buf hq).1.lt
    have k2' : W.heap.size ≤ b := k2
    omega
  · exact Nat.le_trans z k1
  · exact Nat.le_trans z k2
  · exact Nat.le_trans z k3
/-- what Next turns keeps the law's rows -/
theorem RBase.far {W' : World} {G : Nat → Prop} (h3 : Below w0.heap.size w0 W) (h2 : ∀ k, G k → w0.heap.size ≤ k) (h4 : ∀ q ∈ rs, Row W q.1 q.2.1 q.2.2 ∧ ¬ G q.1 ∧ q.2.1 ≠ 130 ∧ q.2.1 ≠ 69 ∧ q.2.1 ≠ 126) (h5 : RMem W x p r F.D.size ws) (h7 : w0.heap.size ≤ x ∧ w0.heap.size ≤ r.b ∧ w0.heap.size ≤ r.g) {R : Nat → Prop}
    (hf : Far R W W') (hR : ∀ k, R k → G k ∨ k = x ∨ k = r.b ∨ k = r.g) : Below w0.heap.size w0 W' ∧ ∀ q ∈ rs, Row W' q.1 q.2.1 q.2.2 := by
  refine ⟨h3.trans (hf.below h3.size fun k hk => ?_), fun q hq => hf.row (h4 q hq).1 fun hk => ?_⟩
  · rcases hR k hk with h | rfl | rfl | rfl
    · exact h2 k h
    · exact h7.1
    · exact h7.2.1
    · exact h7.2.2
  · obtain ⟨hr, hg, t1, t2, t3⟩ := h4 q hq
    rcases hR _ hk with h | h | h | h
    · exact hg h
    · exact t3 (hr.typed (h ▸ h5.row))
    · exact t1 (hr.typed (h ▸ h5.buf))
    · exact t2 (hr.typed (h ▸ h5.words))
theorem rbase_next (h : RBase w0 p F n rs x r ws W) (hn : n < 1000000) (hok : RtOk r F.D.size) {l : List Tup} (hc : l.length = r.count) (hpos : r.pos < r.count)
    (hblk : r.pos % r.h = 0 → (read F.D ((r.first + r.pos / r.h : Nat) : Int)).1 = 0 ∧ F.D.now ((r.first + r.pos / r.h : Nat) : Int) = sealW F.D.size (r.first + r.pos / r.h) r.k (payT r.h r.k l (r.pos / r.h)))
    (hbuf : r.pos % r.h ≠ 0 → ws.take (min r.h (r.count - r.pos / r.h * r.h) * r.k) = payT r.h r.k l (r.pos / r.h)) {t : Tup} (ht : l[r.pos]? = some t) (hto : TupOk t) (htf : fitsT r.k t = true) :
    Calls Try.prog 31 #[.pointer (some ⟨x, 0, none⟩)] W fun e w' => e = .returned (.tuple #[.agg #[.int .i64 t.a, .int .i64 t.b, .int .i64 t.c, .int .i64 t.d, .int .i64 t.e], .bool true, .int .i64 0]) ∧
      ∃ ws', RBase w0 p { F with D := nextD F.D r } (n + 1) rs x { r with pos := r.pos + 1 } ws' w' ∧ ws'.take (min r.h (r.count - r.pos / r.h * r.h) * r.k) = payT r.h r.k l (r.pos / r.h) := by
  obtain ⟨G, h1, h2, h3, h4, h5, h6, h7⟩ := h
  refine (fnext_part h1 hn hok h5 h6 hc hpos hblk hbuf ht hto htf).mono ?_
  rintro e w' ⟨he, ws', ⟨G', k1, k2, k3, k4⟩, k5⟩
  obtain ⟨q1, q2⟩ := RBase.far h3 h2 h4 h5 h7 k3 fun k hk => hk.imp_right fun h => h.elim (fun h => .inr (.inr h)) fun h => .inl h
  have hlt := h5.lt
  have z := h3.size
  refine ⟨he, ws', ⟨G', k1, fun k hk => (k4 k hk).elim (h2 k) fun h => by omega, q1, fun q hq => ⟨q2 q hq, fun hg => (k4 _ hg).elim (h4 q hq).2.1 (Nat.not_le_of_lt (h4 q hq).1.lt), (h4 q hq).2.2⟩, k2, ⟨fun hg => (k4 _ hg).elim h6.x (Nat.not_le_of_lt hlt.1), fun hg => (k4 _ hg).elim h6.b (Nat.not_le_of_lt hlt.2.1), fun hg => (k4 _ hg).elim h6.g (Nat.not_le_of_lt hlt.2.2)⟩, h7⟩, k5⟩
/-- Next of a block that is not sealed so: the reader is closed -/
theorem rbase_fault (h : RBase w0 p F n rs x r ws W) (hn : n < 1000000) (hok : RtOk r F.D.size) (hst : wordsAt F.A.st r.b = some F.D.size) (hpos : r.pos < r.count) (hmid : r.pos % r.h = 0) (he : (read F.D ((r.first + r.pos / r.h : Nat) : Int)).1 = 0)
    (hbad : ¬ (okW (F.D.now ((r.first + r.pos / r.h : Nat) : Int)) (r.first + r.pos / r.h) = true ∧ tagW (F.D.now ((r.first + r.pos / r.h : Nat) : Int)) = r.k ∧ numW (F.D.now ((r.first + r.pos / r.h : Nat) : Int)) - 1 = min r.h (r.count - r.pos / r.h * r.h) * r.k)) :
    Calls Try.prog 31 #[.pointer (some ⟨x, 0, none⟩)] W fun e w' => e = .returned (.tuple #[.agg #[.int .i64 0, .int .i64 0, .int .i64 0, .int .i64 0, .int .i64 0], .bool false, .int .i64 6]) ∧ RShut w' x p r ∧ ∃ D', Base w0 p ⟨D', release F.A r.b F.D.size, F.S⟩ (n + 1) rs w' := by
  obtain ⟨G, h1, h2, h3, h4, h5, h6, h7⟩ := h
  refine (fnext_fault h1 hn hok h5 h6 hst hpos hmid he hbad).mono ?_
  rintro e w' ⟨he', G', k1, k2, k3, k4⟩
  obtain ⟨q1, q2⟩ := RBase.far h3 h2 h4 h5 h7 k3 fun k hk => hk.imp_right fun h => .inr h
  have z := h3.size
  refine ⟨he', k2, (read F.D ((r.first + r.pos / r.h : Nat) : Int)).2, G', ?_, fun k hk => (k4 k hk).elim (h2 k) fun h => by omega, q1, fun q hq => ⟨q2 q hq, fun hg => (k4 _ hg).elim (h4 q hq).2.1 (Nat.not_le_of_lt (h4 q hq).1.lt), (h4 q hq).2.2.1⟩⟩
  have e1 : (read F.D ((r.first + r.pos / r.h : Nat) : Int)).2.size = F.D.size := (now_read F.D _ 0).2.1
  have k1' : Sys w' G' p ⟨(read F.D ((r.first + r.pos / r.h : Nat) : Int)).2, release F.A r.b (read F.D ((r.first + r.pos / r.h : Nat) : Int)).2.size, F.S⟩ (n + 1) := k1
  rw [e1] at k1'
  exact k1'
theorem rbase_holds (h : RBase w0 p F n rs x r ws W) (width : Int) : Calls Try.prog 30 #[.pointer (some ⟨p.w, 0, none⟩), .int .i64 width] W fun e w' => e = .returned (.int .i64 (holdsI F.D.size width : Nat)) ∧ w' = W := by
  obtain ⟨G, h1, _⟩ := h
  exact hol_any h1 width
theorem RBase.row (h : RBase w0 p F n rs x r ws W) {q : Nat × TypeId × List Value} (hq : q ∈ rs) : Row W q.1 q.2.1 q.2.2 := by obtain ⟨G, _, _, _, h4, _⟩ := h; exact (h4 q hq).1
theorem RBase.bel (h : RBase w0 p F n rs x r ws W) : Below w0.heap.size w0 W := by obtain ⟨G, _, _, h3, _⟩ := h; exact h3
/-- the law writes to the device itself -/
theorem base_write (h : Base w0 p F n rs W) (hn : n < 1000000) (i : Int) (hi : I64 i) (A : Option Addr) (m c : Nat) (l : List Nat) {B : Nat} (hl : Reads .u64 W B A m l) (hB : B ≤ W.heap.size) :
    Calls Try.prog 28 #[.pointer (some ⟨p.d, 0, none⟩), .int .i64 i, .slice A m c] W fun e w' => e = .returned (.int .i64 (write F.D i l).1) ∧ Base w0 p { F with D := (write F.D i l).2 } (n + 1) rs w' :=
  h.call fun _ hs _ => sys_write hs hn i hi A m c l hl hB
end
end Go.Proofs.Ytbkgpilmgllkiaa
namespace Go.Proofs.Ytbkgpilmgllkiaa
open Go.ChangeShapes Go.WideShapes Go.ChangeAt Go.RowKit

theorem wordsAt_append (l : List (Nat × Nat)) (x y n m : Nat) (h : wordsAt l x = some n) : wordsAt (l ++ [(y, m)]) x = some n := by
  induction l with
  | nil => simp [wordsAt] at h
  | cons q l ih =>
    simp only [List.cons_append, wordsAt] at h ⊢
    split
    · rename_i h1; rw [if_pos h1] at h; exact h
    · rename_i h1; rw [if_neg h1] at h; exact ih h
theorem wordsAt_without : ∀ (l : List (Nat × Nat)) (x y n : Nat), wordsAt l x = some n → x ≠ y → wordsAt (without l y) x = some n
  | [], x, y, n, h, _ => by simp [wordsAt] at h
  | q :: l, x, y, n, h, hne => by
    simp only [wordsAt] at h
    simp only [without]
    by_cases h1 : q.1 = y
    · rw [if_pos h1]
      rw [if_neg (by rw [h1]; exact fun e => hne e.symm)] at h; exact h
    · rw [if_neg h1]
      simp only [wordsAt]
      by_cases h2 : q.1 = x
      · rw [if_pos h2] at h ⊢; exact h
      · rw [if_neg h2] at h ⊢; exact wordsAt_without l x y n h hne
/-- an open writer of the law's own -/
structure Wok (w0 W : World) (G : Nat → Prop) (p : Wp) (F : Fs) (x : Nat) (t : Wt) : Prop where
  ok : WtOk t F.D.size
  mem : WOpen W x p t F.D.size
  out : WOut G x t
  st : wordsAt F.A.st t.b = some F.D.size
  stand : WStand F.D t
  new : w0.heap.size ≤ x ∧ w0.heap.size ≤ t.b ∧ w0.heap.size ≤ t.g
  fit : ∀ u ∈ t.l, TupOk u ∧ fitsT t.k u = true
/-- two writers apart from each other -/
structure Wap (x : Nat) (t : Wt) (x' : Nat) (t' : Wt) : Prop where
  x : x ≠ x'
  b : t.b ≠ t'.b
  g : t.g ≠ t'.g
  ext : ∀ i, t.first ≤ i → i < t.first + t.blocks → ¬ (t'.first ≤ i ∧ i < t'.first + t'.blocks)
theorem Wap.symm {x x' : Nat} {t t' : Wt} (h : Wap x t x' t') : Wap x' t' x t := ⟨h.x.symm, h.b.symm, h.g.symm, fun i h1 h2 h3 => h.ext i h3.1 h3.2 ⟨h1, h2⟩⟩
section
variable {w0 W W' : World} {G G' : Nat → Prop} {p : Wp} {F F' : Fs} {n x : Nat} {t : Wt}
theorem Wok.lt (h : Wok w0 W G p F x t) : x < W.heap.size ∧ t.b < W.heap.size ∧ t.g < W.heap.size := by obtain ⟨ws, hm, _⟩ := h.mem; exact hm.lt
/-- what keeps a writer as it is -/
theorem Wok.keep (h : Wok w0 W G p F x t) {R : Nat → Prop} (hf : Far R W W') (hx : ¬ R x) (hb : ¬ R t.b) (hg : ¬ R t.g) (hG : ∀ k, G' k → G k ∨ W.heap.size ≤ k) (hs : F'.D.size = F.D.size) (hn : ∀ i : Nat, t.first ≤ i → i < t.first + t.blocks → F'.D.now i = F.D.now i) (hst : wordsAt F'.A.st t.b = some F.D.size) : Wok w0 W' G' p F' x t := by
  obtain ⟨l1, l2, l3⟩ := h.lt
  obtain ⟨ws, hm, hh⟩ := h.mem
  refine ⟨by rw [hs]; exact h.ok, ⟨ws, by rw [hs]; exact hm.far hf hx hb hg, hh⟩, ⟨fun k => (hG _ k).elim h.out.x (Nat.not_le_of_lt l1), fun k => (hG _ k).elim h.out.b (Nat.not_le_of_lt l2), fun k => (hG _ k).elim h.out.g (Nat.not_le_of_lt l3)⟩, by rw [hs]; exact hst, fun j hj => ?_, h.new, h.fit⟩
  have hjb : j < t.blocks := by
    have h1 := blocks_mono (h := t.h) h.ok.h.1 h.ok.bound.2
    rw [← h.ok.blocks.1] at h1
    have h2 : t.l.length / t.h ≤ blocksN t.h t.l.length := by unfold blocksN; split <;> omega
    omega
  rw [hn _ (by omega) (by omega), hs]
  exact h.stand j hj
/-- Put, on a device that does what it is told -/
theorem wok_put (h : Sys W G p F n) (hn : n < 1000000) (hw : Wok w0 W G p F x t) (hc : Calm F.D) (hin : ((t.first + t.blocks : Nat) : Int) ≤ F.D.blocks) {tu : Tup} (hto : TupOk tu) (hf : fitsT t.k tu = true) (hless : t.l.length < t.bound) :
    Calls Try.prog 36 #[.pointer (some ⟨x, 0, none⟩), .agg #[.int .i64 tu.a, .int .i64 tu.b, .int .i64 tu.c, .int .i64 tu.d, .int .i64 tu.e]] W fun e w' => e = .returned (.int .i64 0) ∧ ∃ G' D', Sys w' G' p { F with D := D' } (n + 1) ∧ Wok w0 w' G' p { F with D := D' } x (t.snoc tu) ∧ Far (fun k => G k ∨ k = x ∨ k = t.g) W w' ∧ (∀ k, G' k → G k ∨ W.heap.size ≤ k) ∧
      (Calm D' ∧ D'.size = F.D.size ∧ D'.blocks = F.D.blocks ∧ ∀ i : Nat, ¬ (t.first ≤ i ∧ i < t.first + t.blocks) → D'.now i = F.D.now i) := by
  obtain ⟨l1, l2, l3⟩ := hw.lt
  obtain ⟨ws, hm, hh⟩ := id hw.mem
  have hok2 : WtOk (t.snoc tu) F.D.size := ⟨hw.ok.k, hw.ok.h, hw.ok.sz, ⟨hw.ok.bound.1, by rw [snoc_len]; exact hless⟩, hw.ok.blocks, hw.ok.first⟩
  have hfit2 : ∀ u ∈ (t.snoc tu).l, TupOk u ∧ fitsT t.k u = true := fun u hu => by
    rcases List.mem_append.1 (show u ∈ t.l ++ [tu] from hu) with hu | hu
    · exact hw.fit u hu
    · simp at hu; subst hu; exact ⟨hto, hf⟩
  have hout : ∀ G' : Nat → Prop, (∀ k, G' k → G k ∨ W.heap.size ≤ k) → WOut G' x (t.snoc tu) := fun G' hs => ⟨fun k => (hs _ k).elim hw.out.x (Nat.not_le_of_lt l1), fun k => (hs _ k).elim hw.out.b (Nat.not_le_of_lt l2), fun k => (hs _ k).elim hw.out.g (Nat.not_le_of_lt l3)⟩
  refine (wput_go h hw.ok hm hn hw.out hw.st hh tu hf hless).mono ?_
  rintro e w' (⟨hno, _⟩ | ⟨_, hfull, _⟩ | ⟨_, _, ⟨hm0, rfl, G', k1, k2, k3, k4⟩ | ⟨hm0, hw0, rfl, G', k1, k2, k3, k4⟩ | ⟨hm0, hw0, rfl, G', k1, k2, k3, k4⟩⟩)
  · rw [hf] at hno; cases hno
  · omega
  · exact ⟨rfl, G', F.D, k1.mono (by omega) (by omega), ⟨hok2, k2, hout G' k4, hw.st, wstand_buf hw.ok.h.1 hw.stand hm0, hw.new, hfit2⟩, k3, k4, hc, rfl, rfl, fun _ _ => rfl⟩
  · have hwr := wrote_write hw0
    have hsz := hwr.size
    refine ⟨rfl, G', _, k1, ⟨by show WtOk _ (write F.D _ _).2.size; rw [hsz]; exact hok2, by
      show WOpen w' x p (t.snoc tu) (write F.D _ _).2.size
      exact k2, hout G' k4, by show wordsAt F.A.st t.b = some (write F.D _ _).2.size; rw [hsz]; exact hw.st, wstand_put hw.ok.h.1 hw.stand hm0 hw0, hw.new, hfit2⟩, k3, k4, hwr.calm hc, hsz, hwr.blocks, fun i hi => ?_⟩
    have hli := last_in hok2 (by rw [snoc_len]; omega)
    exact (now_write hw0).2.1 _ (fun e => hi (by
      have e' : i = lastAd (t.snoc tu) := by omega
      rw [e']; exact hli))
  · exfalso
    have hl0 : 0 < (t.snoc tu).l.length := by rw [snoc_len]; omega
    rw [write_ok hc (last_right hok2 hl0 hin) (last_len hok2 hl0)] at hw0
    exact hw0 rfl
/-- Close, on a device that does what it is told -/
theorem wok_close (h : Sys W G p F n) (hn : n < 1000000) (hw : Wok w0 W G p F x t) (hc : Calm F.D) (hin : ((t.first + t.blocks : Nat) : Int) ≤ F.D.blocks) :
    Calls Try.prog 35 #[.pointer (some ⟨x, 0, none⟩)] W fun e w' => e = .returned (.tuple #[fileV (firstOf t) (blocksN t.h t.l.length) t.k t.l.length, .int .i64 0]) ∧ ∃ G' D', Sys w' G' p (endF { F with D := D' } t (blocksN t.h t.l.length)) (n + 1) ∧ WShut w' x p t ∧ Far (fun k => G k ∨ k = x ∨ k = t.g ∨ k = t.b) W w' ∧ (∀ k, G' k → G k ∨ W.heap.size ≤ k) ∧
      (Calm D' ∧ D'.size = F.D.size ∧ D'.blocks = F.D.blocks ∧ ∀ i : Nat, ¬ (t.first ≤ i ∧ i < t.first + t.blocks) → D'.now i = F.D.now i) ∧ StandsTo D' (firstOf t) t.k t.h t.l (blocksN t.h t.l.length) := by
  have hfo : ∀ D' : St, StandsTo D' t.first t.k t.h t.l (blocksN t.h t.l.length) → StandsTo D' (firstOf t) t.k t.h t.l (blocksN t.h t.l.length) := fun D' hs => by
    unfold firstOf
    by_cases h0 : t.l.length = 0
    · rw [if_pos h0, h0, blocks_zero]
      intro j hj; omega
    · rw [if_neg h0]; exact hs
  refine (wclose_any h hn hw.ok hw.mem hw.out hw.st).mono ?_
  rintro e w' (⟨hm0, rfl, G', k1, k2, k3, k4⟩ | ⟨hm0, hw0, rfl, G', k1, k2, k3, k4⟩ | ⟨hm0, hw0, rfl, G', k1, k2, k3, k4⟩)
  · exact ⟨rfl, G', F.D, k1.mono (by omega) (by omega), k2, k3, k4, ⟨hc, rfl, rfl, fun _ _ => rfl⟩, hfo _ (wstand_full hw.stand hm0)⟩
  · have hwr := wrote_write hw0
    refine ⟨rfl, G', _, k1, k2, k3, k4, ⟨hwr.calm hc, hwr.size, hwr.blocks, fun i hi => ?_⟩, hfo _ (wstand_close hw.ok.h.1 hw.stand hm0 hw0)⟩
    have hl0 : 0 < t.l.length := by
      rcases Nat.eq_zero_or_pos t.l.length with h1 | h1
      · rw [h1] at hm0; simp at hm0
      · exact h1
    have hli := last_in hw.ok hl0
    exact (now_write hw0).2.1 _ (fun e => hi (by
      have e' : i = lastAd t := by omega
      rw [e']; exact hli))
  · exfalso
    have hl0 : 0 < t.l.length := by
      rcases Nat.eq_zero_or_pos t.l.length with h1 | h1
      · rw [h1] at hm0; simp at hm0
      · exact h1
    rw [write_ok hc (last_right hw.ok hl0 hin) (last_len hw.ok hl0)] at hw0
    exact hw0 rfl
/-- Write, of a work that has room and blocks enough, or has not -/
theorem wok_write (h : Sys W G p F n) (width bound : Int) (hb0 : Below w0.heap.size w0 W) : Calls Try.prog 34 #[.pointer (some ⟨p.w, 0, none⟩), .int .i64 width, .int .i64 bound] W fun e w' =>
    (∃ er, e = .returned (.tuple #[.pointer none, .int .i64 er]) ∧ WErr F width bound er ∧ SysTo W G p F n w') ∨
    (∃ x t S' G', e = .returned (.tuple #[.pointer (some ⟨x, 0, none⟩), .int .i64 0]) ∧ WArgs F width bound ∧ F.D.size ≤ F.A.room - F.A.used ∧ (t.k : Int) = width ∧ (t.bound : Int) = bound ∧ t.h = holdsI F.D.size width ∧ t.l = [] ∧ Taken F.S S' t.first t.blocks ∧ (∀ q ∈ F.A.st, q.1 ≠ t.b) ∧
      Sys w' G' p { F with S := S', A := grant F.A t.b F.D.size } n ∧ Wok w0 w' G' p { F with S := S', A := grant F.A t.b F.D.size } x t ∧ Far G W w' ∧ (∀ k, G' k → G k ∨ W.heap.size ≤ k) ∧ W.heap.size ≤ x ∧ W.heap.size ≤ t.b ∧ W.heap.size ≤ t.g) := by
  refine (fwrite_any h width bound).mono ?_
  rintro e w' (⟨er, he, hw, hs⟩ | ⟨x, t, S1, he, hwa, hrm, htk, htb, hth, htl, htbl, htt, hok, k1, k2, k3, G1, k4, k5, k6, k7, k8⟩)
  · exact .inl ⟨er, he, hw, hs⟩
  · have z := hb0.size
    have hq : ∀ q ∈ F.A.st, q.1 ≠ t.b := fun q hq e => by have := (h.buf hq).1.lt; omega
    exact .inr ⟨x, t, S1, G1, he, hwa, hrm, htk, htb, hth, htl, htt, hq, k4, ⟨hok, k5, k6, wordsAt_new _ _ _ hq, wstand_nil htl, ⟨by omega, by omega, by omega⟩, fun u hu => by rw [htl] at hu; cases hu⟩, k7, k8, k1, k2, k3⟩
end
end Go.Proofs.Ytbkgpilmgllkiaa
namespace Go.Proofs.Ytbkgpilmgllkiaa
open Go.ChangeShapes Go.WideShapes Go.ChangeAt Go.RowKit

/-- writers lo to m - 1 are open; the arrays of writers and of lists lie in blocks of the law's own -/
structure Trio (w0 : World) (p : Wp) (F : Fs) (n lo m len xa pa : Nat) (C : List Value) (X : Nat → Nat) (T : Nat → Wt) (V : Nat → Value) (Q : Nat → List Tup) (G : Nat → Prop) (W : World) : Prop where
  sys : Sys W G p F n
  base : ∀ k, G k → w0.heap.size ≤ k
  bel : Below w0.heap.size w0 W
  calm : Calm F.D
  size : F.D.size = 9
  blocks : F.D.blocks = 900
  room : F.A.room = 900
  used : F.A.used = (m - lo) * 9
  xrow : Row W xa 88 C ∧ ¬ G xa ∧ w0.heap.size ≤ xa
  prow : Row W pa 89 [V 0, V 1, V 2] ∧ ¬ G pa ∧ w0.heap.size ≤ pa
  own : ∀ k, k < 3 → W.ownsRow w0.heap.size 58 5 (V k) (Q k).length (flatV (Q k)) ∧ ∀ q, (V k).ownBlock = some q → ¬ G q
  own2 : ∀ j k, j < 3 → k < 3 → j ≠ k → ∀ q, (V j).ownBlock = some q → (V k).ownBlock ≠ some q
  wok : ∀ k, lo ≤ k → k < m → Wok w0 W G p F (X k) (T k)
  num : ∀ k, lo ≤ k → k < m → (T k).k = 3 ∧ (T k).h = 2 ∧ (T k).bound = len ∧ (T k).first + (T k).blocks ≤ 900 ∧ ∀ b, (T k).first ≤ b → b < (T k).first + (T k).blocks → ¬ hasB F.S.fr b
  apart : ∀ j k, lo ≤ j → j < m → lo ≤ k → k < m → j ≠ k → Wap (X j) (T j) (X k) (T k)
section
variable {w0 W W' : World} {p : Wp} {F F' : Fs} {n n' lo m len xa pa : Nat} {C : List Value} {X : Nat → Nat} {T : Nat → Wt} {V : Nat → Value} {Q : Nat → List Tup} {G G' : Nat → Prop}
/-- what a call at the writer i, or at none, leaves of the rest -/
theorem Trio.keep (h : Trio w0 p F n lo m len xa pa C X T V Q G W) {R : Nat → Prop} (hf : Far R W W') (i : Nat) (hR : ∀ k, R k → G k ∨ (lo ≤ i ∧ i < m ∧ (k = X i ∨ k = (T i).b ∨ k = (T i).g))) (hG : ∀ k, G' k → G k ∨ W.heap.size ≤ k) (hs : F'.D.size = F.D.size)
    (hn : ∀ z : Nat, (lo ≤ i ∧ i < m ∧ (T i).first ≤ z ∧ z < (T i).first + (T i).blocks) ∨ F'.D.now z = F.D.now z) (hst : ∀ k, lo ≤ k → k < m → k ≠ i → wordsAt F'.A.st (T k).b = some F.D.size) :
    (∀ k, G' k → w0.heap.size ≤ k) ∧ Below w0.heap.size w0 W' ∧ (Row W' xa 88 C ∧ ¬ G' xa ∧ w0.heap.size ≤ xa) ∧ (Row W' pa 89 [V 0, V 1, V 2] ∧ ¬ G' pa ∧ w0.heap.size ≤ pa) ∧
      (∀ k, k < 3 → W'.ownsRow w0.heap.size 58 5 (V k) (Q k).length (flatV (Q k)) ∧ ∀ q, (V k).ownBlock = some q → ¬ G' q) ∧ ∀ k, lo ≤ k → k < m → k ≠ i → Wok w0 W' G' p F' (X k) (T k) := by
  have z := h.bel.size
  -- a row of a type that no writer has is none of what turns
  have hrow : ∀ {k : Nat} {t : TypeId} {cs : List Value}, Row W k t cs → ¬ G k → t ≠ 130 → t ≠ 69 → t ≠ 136 → ¬ R k := fun {k t cs} hr hg t1 t2 t3 hk => by
    rcases hR k hk with h1 | ⟨h1, h2, h3⟩
    · exact hg h1
    · obtain ⟨ws, hm, _⟩ := (h.wok i h1 h2).mem
      rcases h3 with rfl | rfl | rfl
      · exact t3 (hr.typed hm.row)
      · exact t1 (hr.typed hm.buf)
      · exact t2 (hr.typed hm.words)
  have hnew : ∀ {k : Nat}, k < W.heap.size → ¬ G k → ¬ G' k := fun {k} hk hg hg' => (hG k hg').elim hg (Nat.not_le_of_lt hk)
  refine ⟨fun k hk => (hG k hk).elim (h.base k) fun h => by omega, h.bel.trans (hf.below z fun k hk => ?_), ⟨hf.row h.xrow.1 (hrow h.xrow.1 h.xrow.2.1 (by decide) (by decide) (by decide)), hnew h.xrow.1.lt h.xrow.2.1, h.xrow.2.2⟩, ⟨hf.row h.prow.1 (hrow h.prow.1 h.prow.2.1 (by decide) (by decide) (by decide)), hnew h.prow.1.lt h.prow.2.1, h.prow.2.2⟩, fun k hk => ?_, fun k h1 h2 hne => ?_⟩
  · rcases hR k hk with h1 | ⟨h1, h2, h3⟩
    · exact h.base k h1
    · have hw := (h.wok i h1 h2).new
      rcases h3 with rfl | rfl | rfl
      · exact hw.1
      · exact hw.2.1
      · exact hw.2.2
  · obtain ⟨ho, hog⟩ := h.own k hk
    refine ⟨ownsRow_same ho fun q hq => ?_, fun q hq => ?_⟩
    · obtain ⟨⟨cs, hr⟩, _, hlt⟩ := ownT_row ho hq
      exact hf.block q hlt (hrow hr (hog q hq) (by decide) (by decide) (by decide))
    · obtain ⟨_, _, hlt⟩ := ownT_row ho hq
      exact hnew hlt (hog q hq)
  · have hw := h.wok k h1 h2
    have hne2 : ∀ y, (y = X k ∨ y = (T k).b ∨ y = (T k).g) → ¬ G y → ¬ R y := fun y hy hg hr => by
      rcases hR y hr with h3 | ⟨h3, h4, h5⟩
      · exact hg h3
      · have ha := h.apart k i h1 h2 h3 h4 hne
        obtain ⟨ws, hm, _⟩ := hw.mem
        obtain ⟨ws', hm', _⟩ := (h.wok i h3 h4).mem
        rcases hy with rfl | rfl | rfl <;> rcases h5 with h5 | h5 | h5
        · exact ha.x h5
        · exact absurd (hm.row.typed (h5 ▸ hm'.buf)) (by decide)
        · exact absurd (hm.row.typed (h5 ▸ hm'.words)) (by decide)
        · exact absurd (hm.buf.typed (h5 ▸ hm'.row)) (by decide)
        · exact ha.b h5
        · exact absurd (hm.buf.typed (h5 ▸ hm'.words)) (by decide)
        · exact absurd (hm.words.typed (h5 ▸ hm'.row)) (by decide)
        · exact absurd (hm.words.typed (h5 ▸ hm'.buf)) (by decide)
        · exact ha.g h5
    refine hw.keep hf (hne2 _ (.inl rfl) hw.out.x) (hne2 _ (.inr (.inl rfl)) hw.out.b) (hne2 _ (.inr (.inr rfl)) hw.out.g) hG hs (fun z hz1 hz2 => ?_) (hst k h1 h2 hne)
    rcases hn z with ⟨h3, h4, h5, h6⟩ | h3
    · exact absurd ⟨h5, h6⟩ ((h.apart k i h1 h2 h3 h4 hne).ext z hz1 hz2)
    · exact h3
theorem Trio.below (h : Trio w0 p F n lo m len xa pa C X T V Q G W) (hb : Below W.heap.size W W') : Trio w0 p F n lo m len xa pa C X T V Q G W' := by
  obtain ⟨k1, k2, k3, k4, k5, k6⟩ := h.keep (F' := F) (G' := G) (Far.of_below hb fun _ => False) m (fun _ hf => hf.elim) (fun k hk => .inl hk) rfl (fun _ => .inr rfl) fun k h1 h2 _ => by have := (h.wok k h1 h2).st; exact this
  exact ⟨h.sys.below hb, k1, k2, h.calm, h.size, h.blocks, h.room, h.used, k3, k4, k5, h.own2, fun k h1 h2 => k6 k h1 h2 (by omega), h.num, h.apart⟩
/-- Write: one writer more -/
theorem trio_write (h : Trio w0 p F n 0 m len xa pa C X T V Q G W) (hm : m < 3) (hl : len ≤ 300) (hfr : ∀ b, m * blocksN 2 len ≤ b → b < 900 → hasB F.S.fr b) :
    Calls Try.prog 34 #[.pointer (some ⟨p.w, 0, none⟩), .int .i64 (3 : Nat), .int .i64 len] W fun e w' => ∃ x t F' G', e = .returned (.tuple #[.pointer (some ⟨x, 0, none⟩), .int .i64 0]) ∧ t.l = [] ∧ (∀ b, (m + 1) * blocksN 2 len ≤ b → b < 900 → hasB F'.S.fr b) ∧
      Trio w0 p F' n 0 (m + 1) len xa pa C (fun k => if k = m then x else X k) (fun k => if k = m then t else T k) V Q G' w' := by
  have hnb : blocksN 2 len ≤ 150 := blocks_least (by omega) (by omega)
  have hmn : m * blocksN 2 len ≤ 300 := by
    have := Nat.mul_le_mul (show m ≤ 2 by omega) hnb
    omega
  have hmn1 : (m + 1) * blocksN 2 len = m * blocksN 2 len + blocksN 2 len := by rw [Nat.add_mul, Nat.one_mul]
  have hh2 : holdsI F.D.size ((3 : Nat) : Int) = 2 := by rw [h.size]; rfl
  refine (wok_write h.sys ((3 : Nat) : Int) (len : Int) h.bel).mono ?_
  rintro e w' (⟨er, he, hwe, _⟩ | ⟨x, t, S1, G1, he, hwa, hrm, htk, htb, hth, htl, htt, hq, k1, k2, k3, k4, k5, k6, k7⟩)
  · exfalso
    rcases hwe with ⟨_, h1⟩ | ⟨_, _, h1⟩ | ⟨_, _, _, h1, h2⟩
    · exact h1 ⟨by rw [hh2]; decide, by omega, by omega⟩
    · rw [h.room, h.used, h.size] at h1; omega
    · rw [hh2, Int.toNat_natCast] at h2
      exact h2 (m * blocksN 2 len) fun b hb1 hb2 => hfr b hb1 (by omega)
  · have e1 : t.h = 2 := hth.trans hh2
    have e2 : t.bound = len := by omega
    have e3 : t.blocks = blocksN 2 len := by rw [k2.ok.blocks.1, e1, e2]
    have hle : t.blocks = 0 ∨ (t.first ≤ m * blocksN 2 len ∧ Took F.S S1 t.first t.blocks) := by
      rcases htt with ⟨h1, _⟩ | ⟨_, h1, h2⟩
      · exact .inl h1
      · exact .inr ⟨h2 _ fun b hb1 hb2 => hfr b hb1 (by omega), h1⟩
    have hS : ∀ b, hasB S1.fr b → hasB F.S.fr b := fun b hb => by
      rcases htt with ⟨_, _, rfl⟩ | ⟨_, h1, _⟩
      · exact hb
      · exact ((h1.has b).1 hb).1
    obtain ⟨q1, q2, q3, q4, q5, q6⟩ := h.keep (F' := { F with S := S1, A := grant F.A t.b F.D.size }) k3 m (fun k hk => .inl hk) k4 rfl (fun _ => .inr rfl) fun k h1 h2 _ => wordsAt_append _ _ _ _ _ (h.wok k h1 h2).st
    refine ⟨x, t, _, G1, he, htl, fun b hb1 hb2 => ?_, k1, q1, q2, h.calm, h.size, h.blocks, h.room, ?_, q3, q4, q5, h.own2, fun k h1 h2 => ?_, fun k h1 h2 => ?_, fun j k h1 h2 h3 h4 hne => ?_⟩
    · show hasB S1.fr b
      rcases htt with ⟨h1, _, rfl⟩ | ⟨h0, h1, h2⟩
      · exact hfr b (by omega) hb2
      · rw [h1.has]
        exact ⟨hfr b (by omega) hb2, fun h3 => by
          have := h2 _ (fun b hb1 hb2 => hfr b hb1 (by omega) : roomB F.S (m * blocksN 2 len) t.blocks)
          omega⟩
    · show F.A.used + F.D.size = (m + 1 - 0) * 9
      rw [h.used, h.size]; omega
    · by_cases hk : k = m
      · subst hk; rw [if_pos rfl, if_pos rfl]; exact k2
      · rw [if_neg hk, if_neg hk]; exact q6 k h1 (by omega) hk
    · simp only
      by_cases hk : k = m
      · subst hk; rw [if_pos rfl]
        refine ⟨by omega, e1, e2, ?_, fun b hb1 hb2 => ?_⟩
        · rcases hle with h3 | ⟨h3, _⟩
          · have hf := k2.ok.first
            rcases htt with ⟨_, h4, _⟩ | ⟨h4, _⟩
            · omega
            · omega
          · omega
        · rcases hle with h3 | ⟨_, h3⟩
          · omega
          · exact fun hb => ((h3.has b).1 hb).2 ⟨hb1, hb2⟩
      · rw [if_neg hk]
        obtain ⟨n1, n2, n3, n4, n5⟩ := h.num k h1 (by omega)
        exact ⟨n1, n2, n3, n4, fun b hb1 hb2 hb => n5 b hb1 hb2 (hS b hb)⟩
    · have hnewap : ∀ k, 0 ≤ k → k < m → Wap x t (X k) (T k) := fun k h5 h6 => by
        obtain ⟨l1, l2, l3⟩ := (h.wok k h5 h6).lt
        refine ⟨by omega, by omega, by omega, fun b hb1 hb2 hb3 => ?_⟩
        rcases hle with h7 | ⟨_, h7⟩
        · omega
        · exact (h.num k h5 h6).2.2.2.2 b hb3.1 hb3.2 (h7.room b hb1 hb2)
      by_cases hj : j = m
      · subst hj
        rw [if_pos rfl, if_pos rfl, if_neg (fun e => hne e.symm), if_neg (fun e => hne e.symm)]
        exact hnewap k h3 (by omega)
      · rw [if_neg hj, if_neg hj]
        by_cases hk : k = m
        · subst hk
          rw [if_pos rfl, if_pos rfl]
          exact (hnewap j h1 (by omega)).symm
        · rw [if_neg hk, if_neg hk]
          exact h.apart j k h1 (by omega) h3 (by omega) hne
/-- the law's own blocks turn -/
theorem Trio.rows (h : Trio w0 p F n lo m len xa pa C X T V Q G W) {R : Nat → Prop} (hf : Far R W W') (hR : ∀ k, R k → k = xa ∨ k = pa ∨ ∃ i, i < 3 ∧ (V i).ownBlock = some k) {C' : List Value} {V' : Nat → Value} {Q' : Nat → List Tup} (hx : Row W' xa 88 C') (hp : Row W' pa 89 [V' 0, V' 1, V' 2])
    (hown : ∀ k, k < 3 → W'.ownsRow w0.heap.size 58 5 (V' k) (Q' k).length (flatV (Q' k)) ∧ ∀ q, (V' k).ownBlock = some q → ¬ G q) (hown2 : ∀ j k, j < 3 → k < 3 → j ≠ k → ∀ q, (V' j).ownBlock = some q → (V' k).ownBlock ≠ some q) : Trio w0 p F n lo m len xa pa C' X T V' Q' G W' := by
  have z := h.bel.size
  have hRG : ∀ k, R k → ¬ G k ∧ w0.heap.size ≤ k ∧ (∀ v, ¬ Row W k 130 v) ∧ (∀ v, ¬ Row W k 69 v) ∧ ∀ v, ¬ Row W k 136 v := fun k hk => by
    rcases hR k hk with rfl | rfl | ⟨i, hi, hq⟩
    · exact ⟨h.xrow.2.1, h.xrow.2.2, fun v hv => absurd (hv.typed h.xrow.1) (by decide), fun v hv => absurd (hv.typed h.xrow.1) (by decide), fun v hv => absurd (hv.typed h.xrow.1) (by decide)⟩
    · exact ⟨h.prow.2.1, h.prow.2.2, fun v hv => absurd (hv.typed h.prow.1) (by decide), fun v hv => absurd (hv.typed h.prow.1) (by decide), fun v hv => absurd (hv.typed h.prow.1) (by decide)⟩
    · obtain ⟨ho, hog⟩ := h.own i hi
      obtain ⟨⟨cs, hr⟩, hb, _⟩ := ownT_row ho hq
      exact ⟨hog k hq, hb, fun v hv => absurd (hv.typed hr) (by decide), fun v hv => absurd (hv.typed hr) (by decide), fun v hv => absurd (hv.typed hr) (by decide)⟩
  refine ⟨h.sys.touch hf fun k hk => ⟨(hRG k hk).1, fun v hv => (hRG k hk).2.2.1 _ hv⟩, h.base, h.bel.trans (hf.below z fun k hk => (hRG k hk).2.1), h.calm, h.size, h.blocks, h.room, h.used, ⟨hx, h.xrow.2⟩, ⟨hp, h.prow.2⟩, hown, hown2, fun k h1 h2 => ?_, h.num, h.apart⟩
  have hw := h.wok k h1 h2
  obtain ⟨ws, hm, _⟩ := hw.mem
  exact hw.keep hf (fun hk => (hRG _ hk).2.2.2.2 _ hm.row) (fun hk => (hRG _ hk).2.2.1 _ hm.buf) (fun hk => (hRG _ hk).2.2.2.1 _ hm.words) (fun k hk => .inl hk) rfl (fun _ _ _ => rfl) hw.st
theorem Trio.setx (h : Trio w0 p F n lo m len xa pa C X T V Q G W) (j : Nat) (v : Value) : Trio w0 p F n lo m len xa pa (C.set j v) X T V Q G (W.setCell ⟨xa, j, none⟩ v) := by
  have hf : Far (fun k => k = xa) W (W.setCell ⟨xa, j, none⟩ v) := (Far.refl (fun k => k = xa) W).set (p := ⟨xa, j, none⟩) (.inl rfl) v
  refine h.rows hf (fun k hk => .inl hk) (h.xrow.1.set j v) (hf.row h.prow.1 fun e => absurd (h.prow.1.typed (e ▸ h.xrow.1)) (by decide)) (fun k hk => ?_) h.own2
  obtain ⟨ho, hog⟩ := h.own k hk
  refine ⟨ownsRow_same ho fun q hq => ?_, hog⟩
  obtain ⟨⟨cs, hr⟩, _, hlt⟩ := ownT_row ho hq
  exact hf.block q hlt fun e => absurd (hr.typed (e ▸ h.xrow.1)) (by decide)
/-- Put at the writer i -/
theorem trio_put (h : Trio w0 p F n lo m len xa pa C X T V Q G W) (hn : n < 1000000) {i : Nat} (h1 : lo ≤ i) (h2 : i < m) {tu : Tup} (hto : TupOk tu) (hft : fitsT 3 tu = true) (hless : (T i).l.length < len) :
    Calls Try.prog 36 #[.pointer (some ⟨X i, 0, none⟩), .agg #[.int .i64 tu.a, .int .i64 tu.b, .int .i64 tu.c, .int .i64 tu.d, .int .i64 tu.e]] W fun e w' => e = .returned (.int .i64 0) ∧ ∃ F' G', Trio w0 p F' (n + 1) lo m len xa pa C X (fun k => if k = i then (T i).snoc tu else T k) V Q G' w' := by
  obtain ⟨e1, e2, e3, e4, e5⟩ := h.num i h1 h2
  refine (wok_put h.sys hn (h.wok i h1 h2) h.calm (by rw [h.blocks]; omega) hto (by rw [e1]; exact hft) (by rw [e3]; exact hless)).mono ?_
  rintro e w' ⟨he, G', D', k1, k2, k3, k4, c1, c2, c3, c4⟩
  obtain ⟨q1, q2, q3, q4, q5, q6⟩ := h.keep (F' := { F with D := D' }) k3 i (fun k hk => by
    rcases hk with hk | hk | hk
    · exact .inl hk
    · exact .inr ⟨h1, h2, .inl hk⟩
    · exact .inr ⟨h1, h2, .inr (.inr hk)⟩) k4 c2 (fun z => by
      by_cases hz : (T i).first ≤ z ∧ z < (T i).first + (T i).blocks
      · exact .inl ⟨h1, h2, hz⟩
      · exact .inr (c4 z hz)) fun k h3 h4 _ => (h.wok k h3 h4).st
  refine ⟨he, { F with D := D' }, G', k1, q1, q2, c1, c2.trans h.size, c3.trans h.blocks, h.room, h.used, q3, q4, q5, h.own2, fun k h3 h4 => ?_, fun k h3 h4 => ?_, fun j k h3 h4 h5 h6 hne => ?_⟩
  · by_cases hk : k = i
    · subst hk; rw [if_pos rfl]; exact k2
    · rw [if_neg hk]; exact q6 k h3 h4 hk
  · by_cases hk : k = i
    · subst hk; simp only [if_true]; exact ⟨e1, e2, e3, e4, e5⟩
    · simp only [if_neg hk]; exact h.num k h3 h4
  · have hap := h.apart j k h3 h4 h5 h6 hne
    by_cases hj : j = i <;> by_cases hk : k = i
    · exact absurd (hj.trans hk.symm) hne
    · subst hj; rw [if_pos rfl, if_neg hk]; exact ⟨hap.x, hap.b, hap.g, hap.ext⟩
    · subst hk; rw [if_neg hj, if_pos rfl]; exact ⟨hap.x, hap.b, hap.g, hap.ext⟩
    · rw [if_neg hj, if_neg hk]; exact hap
theorem giveN_has {S : Sp} (h : S.ok) (f m b : Nat) (hb : hasB (giveN S f m).fr b) : hasB S.fr b ∨ (f ≤ b ∧ b < f + m) := by
  unfold giveN at hb
  split at hb
  · exact .inl hb
  · rcases giveS_spec h (f : Int) (m : Int) with ⟨s', a', m', e1, e2, h3, e3, hg⟩ | ⟨e3, _⟩
    · rw [e3] at hb
      rcases (hg.has b).1 hb with h4 | h4
      · exact .inl h4
      · exact .inr (by omega)
    · rw [e3] at hb; exact .inl hb
/-- Close of the first writer -/
theorem trio_close (h : Trio w0 p F n lo m len xa pa C X T V Q G W) (hn : n < 1000000) (h2 : lo < m) :
    Calls Try.prog 35 #[.pointer (some ⟨X lo, 0, none⟩)] W fun e w' => e = .returned (.tuple #[.agg #[.int .i64 (firstOf (T lo)), .int .i64 (blocksN 2 (T lo).l.length), .int .i64 (3 : Nat), .int .i64 (T lo).l.length], .int .i64 0]) ∧ ∃ F' G', StandsTo F'.D (firstOf (T lo)) 3 2 (T lo).l (blocksN 2 (T lo).l.length) ∧ Trio w0 p F' (n + 1) (lo + 1) m len xa pa C X T V Q G' w' := by
  obtain ⟨e1, e2, e3, e4, e5⟩ := h.num lo (Nat.le_refl _) h2
  refine (wok_close h.sys hn (h.wok lo (Nat.le_refl _) h2) h.calm (by rw [h.blocks]; omega)).mono ?_
  rintro e w' ⟨he, G', D', k1, k2, k3, k4, ⟨c1, c2, c3, c4⟩, hst⟩
  rw [e1, e2] at hst
  rw [e1, e2] at he
  have hz9 : D'.size = 9 := c2.trans h.size
  obtain ⟨q1, q2, q3, q4, q5, q6⟩ := h.keep (F' := endF { F with D := D' } (T lo) (blocksN (T lo).h (T lo).l.length)) k3 lo (fun k hk => by
    rcases hk with hk | hk | hk | hk
    · exact .inl hk
    · exact .inr ⟨Nat.le_refl _, h2, .inl hk⟩
    · exact .inr ⟨Nat.le_refl _, h2, .inr (.inr hk)⟩
    · exact .inr ⟨Nat.le_refl _, h2, .inr (.inl hk)⟩) k4 c2 (fun z => by
      by_cases hz : (T lo).first ≤ z ∧ z < (T lo).first + (T lo).blocks
      · exact .inl ⟨Nat.le_refl _, h2, hz⟩
      · exact .inr (c4 z hz)) fun k h3 h4 hne => by
        exact wordsAt_without _ _ _ _ (h.wok k h3 h4).st (h.apart k lo h3 h4 (Nat.le_refl _) h2 hne).b
  refine ⟨he, _, G', hst, k1, q1, q2, c1, hz9, c3.trans h.blocks, h.room, ?_, q3, q4, q5, h.own2, fun k h3 h4 => q6 k (by omega) h4 (by omega), fun k h3 h4 => ?_, fun j k h3 h4 h5 h6 => h.apart j k (by omega) h4 (by omega) h6⟩
  · show F.A.used - D'.size = (m - (lo + 1)) * 9
    rw [h.used, hz9]
    have : m - lo = (m - (lo + 1)) + 1 := by omega
    rw [this, Nat.add_mul]; omega
  · obtain ⟨n1, n2, n3, n4, n5⟩ := h.num k (by omega) h4
    refine ⟨n1, n2, n3, n4, fun b hb1 hb2 hb => ?_⟩
    rcases giveN_has h.sys.sok _ _ _ hb with h7 | h7
    · exact n5 b hb1 hb2 h7
    · have h8 : blocksN (T lo).h (T lo).l.length ≤ (T lo).blocks := by
        rw [(h.wok lo (Nat.le_refl _) h2).ok.blocks.1]
        exact blocks_mono (h.wok lo (Nat.le_refl _) h2).ok.h.1 (h.wok lo (Nat.le_refl _) h2).ok.bound.2
      exact (h.apart k lo (by omega) h4 (Nat.le_refl _) h2 (by omega)).ext b hb1 hb2 ⟨by omega, by omega⟩
/-- List of a file that stands -/
theorem trio_list (h : Trio w0 p F n lo m len xa pa C X T V Q G W) (first : Nat) (l : List Tup) (hl : l.length ≤ 300) (hn : n + l.length + 1 ≤ 1000000) (hfi : first ≤ 2000000) (hfb : first + blocksN 2 l.length ≤ 900) (hst : StandsTo F.D first 3 2 l (blocksN 2 l.length)) (hall : ∀ u ∈ l, TupOk u ∧ fitsT 3 u = true) (hm : m ≤ 3) :
    Calls Try.prog 19 #[.pointer (some ⟨p.w, 0, none⟩), .agg #[.int .i64 first, .int .i64 (blocksN 2 l.length), .int .i64 (3 : Nat), .int .i64 l.length]] W fun e w' => ∃ A c, e = .returned (.tuple #[.slice A l.length c, .int .i64 0]) ∧ ReadsT w' w'.heap.size A l.length l ∧ ∃ F' G', Trio w0 p F' (n + l.length + 1) lo m len xa pa C X T V Q G' w' := by
  refine (flist_ok h.sys 3 2 first (blocksN 2 l.length) l (by omega) (by rw [h.size]; rfl) (by omega) rfl (by omega) hfi hn hst hall (by rw [h.size, h.room, h.used]; omega)).mono ?_
  rintro e w' (⟨A, c, b, D', he, hr, _, e1, e2, e3, hs⟩ | ⟨er, b, m', D1, i, he, hne, e1, e2, e3, e4, e5, hs⟩)
  · obtain ⟨G', k1, k2, k3⟩ := hs
    obtain ⟨q1, q2, q3, q4, q5, q6⟩ := h.keep (F' := LayE F F.S b D') k2 m (fun k hk => .inl hk) k3 e1.size (fun z => .inr (e2 z)) fun k h1 h2 _ => by
      rw [layE_same _ _ _ _ e3]; exact (h.wok k h1 h2).st
    exact ⟨A, c, he, hr, _, G', k1, q1, q2, e1.calm h.calm, e1.size.trans h.size, e1.blocks.trans h.blocks, h.room, (layE_used _ _ _ _).trans h.used, q3, q4, q5, h.own2, fun k h1 h2 => q6 k h1 h2 (by omega), h.num, h.apart⟩
  · exfalso
    have hc : Calm D1 := e1.calm h.calm
    rw [e2, read_ok hc (e3 (by rw [h.blocks]; omega))] at hne
    exact hne rfl
/-- a tuple is put behind the list i, and the array of lists told -/
theorem Trio.push (h : Trio w0 p F n lo m len xa pa C X T V Q G W) {i : Nat} (hi : i < 3) {t : Tup} {v' : Value} (ho : W'.ownsRow w0.heap.size 58 5 v' ((Q i).length + 1) (flatV (Q i ++ [t]))) (hf : Far (fun k => (V i).ownBlock = some k) W W') (hv : v'.ownBlock = (V i).ownBlock ∨ v'.ownBlock = some W.heap.size) :
    Trio w0 p F n lo m len xa pa C X T (fun k => if k = i then v' else V k) (fun k => if k = i then Q i ++ [t] else Q k) G (W'.setCell ⟨pa, i, none⟩ v') := by
  have hfp : Far (fun k => k = pa) W' (W'.setCell ⟨pa, i, none⟩ v') := (Far.refl (fun k => k = pa) W').set (p := ⟨pa, i, none⟩) (.inl rfl) v'
  have hty : ∀ {k : Nat} {t : TypeId} {cs : List Value}, Row W k t cs → t ≠ 58 → (V i).ownBlock ≠ some k := fun {k t cs} hr ht hq => by
    obtain ⟨⟨cs', hr'⟩, _⟩ := ownT_row (h.own i hi).1 hq
    exact ht (hr.typed hr')
  have hp' : Row W' pa 89 [V 0, V 1, V 2] := hf.row h.prow.1 (hty h.prow.1 (by decide))
  have hx' : Row W' xa 88 C := hf.row h.xrow.1 (hty h.xrow.1 (by decide))
  have hfar : Far (fun k => k = pa ∨ (V i).ownBlock = some k) W (W'.setCell ⟨pa, i, none⟩ v') := (hf.mono fun k hk => .inr hk).trans hfp fun k hk => .inl (.inl hk)
  have hnew : ∀ q, v'.ownBlock = some q → ((V i).ownBlock = some q ∨ q = W.heap.size) := fun q hq => by
    rcases hv with h1 | h1
    · exact .inl (h1 ▸ hq)
    · rw [h1] at hq; injection hq with hq; exact .inr hq.symm
  have hlt : ∀ k q, k < 3 → (V k).ownBlock = some q → q < W.heap.size := fun k q hk hq => (ownT_row (h.own k hk).1 hq).2.2
  refine h.rows hfar (fun k hk => hk.elim (fun e => .inr (.inl e)) fun e => .inr (.inr ⟨i, hi, e⟩)) (hfp.row hx' fun e => absurd (hx'.typed (e ▸ hp')) (by decide)) ?_ (fun k hk => ?_) fun j k hj hk hne q hq hq' => ?_
  · have hr := hp'.set i v'
    match i, hi with
    | 0, _ => exact hr
    | 1, _ => exact hr
    | 2, _ => exact hr
  · by_cases hki : k = i
    · subst hki
      simp only [if_true]
      refine ⟨?_, fun q hq => ?_⟩
      · rw [List.length_append, List.length_singleton]
        refine ownsRow_same ho fun q hq => hfp.block q (ownT_row ho hq).2.2 fun e => ?_
        obtain ⟨⟨cs', hr'⟩, _⟩ := ownT_row ho hq
        exact absurd (hr'.typed (e ▸ hp')) (by decide)
      · rcases hnew q hq with h1 | h1
        · exact (h.own k hk).2 q h1
        · rw [h1]; exact fun hg => Nat.lt_irrefl _ (h.sys.lt hg)
    · simp only [if_neg hki]
      obtain ⟨ho', hog⟩ := h.own k hk
      refine ⟨ownsRow_same ho' fun q hq => hfar.block q (hlt k q hk hq) ?_, hog⟩
      rintro (e | e)
      · obtain ⟨⟨cs', hr'⟩, _⟩ := ownT_row ho' hq
        exact absurd (hr'.typed (e ▸ h.prow.1)) (by decide)
      · exact h.own2 k i hk hi hki q hq e
  · by_cases hji : j = i
    · subst hji
      simp only [if_true] at hq
      simp only [if_neg (fun e : k = j => hne e.symm)] at hq'
      rcases hnew q hq with h1 | h1
      · exact h.own2 j k hj hk hne q h1 hq'
      · have := hlt k q hk hq'; omega
    · simp only [if_neg hji] at hq
      by_cases hki : k = i
      · subst hki
        simp only [if_true] at hq'
        rcases hnew q hq' with h1 | h1
        · exact h.own2 j k hj hk hne q hq h1
        · have := hlt j q hj hq; omega
      · simp only [if_neg hki] at hq'
        exact h.own2 j k hj hk hne q hq hq'
end
end Go.Proofs.Ytbkgpilmgllkiaa
