/- Tuples in memory: a slice of them that is read, one that is a call's own. -/
import Derived.Test.YtoimpiimlekakaaFileMath
import Derived.Test.YtoimpiimlekakaaRows2
import Derived.Test.YtoimpiimlekakaaPairs
import Derived.Maps.AppendAt
namespace Go.Proofs.Ytoimpiimlekakaa
open Go.ChangeShapes Go.WideShapes Go.ChangeAt Go.RowKit

theorem infoT : (Try.prog.info? 23).map (fun i => (i.zero, i.size, i.bytes)) = some (some (.agg #[.int .i64 0, .int .i64 0, .int .i64 0, .int .i64 0, .int .i64 0]), 5, 40) := by kernel_rfl
def tupC (t : Tup) : List Value := [.int .i64 t.a, .int .i64 t.b, .int .i64 t.c, .int .i64 t.d, .int .i64 t.e]
/-- the cells of tuples -/
def flatV (l : List Tup) : List Value := l.flatMap tupC
theorem flatV_len (l : List Tup) : (flatV l).length = l.length * 5 := by
  unfold flatV
  induction l with
  | nil => rfl
  | cons e l ih => rw [List.flatMap_cons, List.length_append, ih, List.length_cons]; show 5 + _ = _; omega
theorem flatV_snoc (l : List Tup) (e : Tup) : flatV (l ++ [e]) = flatV l ++ tupC e := by unfold flatV; simp
theorem flatV_one (l : List Tup) : ∀ v ∈ flatV l, v.oneCell' = true := by
  intro v hv
  obtain ⟨t, _, hv⟩ := List.mem_flatMap.1 hv
  simp [tupC] at hv
  rcases hv with rfl | rfl | rfl | rfl | rfl <;> rfl
theorem flatV_at : ∀ (l : List Tup) (i : Nat), i < l.length → ∀ (j : Nat) (u : Value), (tupC (l.getD i tup0))[j]? = some u → (flatV l)[i * 5 + j]? = some u
  | [], i, h => by simp at h
  | e :: l, 0, _ => by
    intro j u h
    have hj : j < (tupC e).length := (List.getElem?_eq_some_iff.1 h).1
    show (tupC e ++ flatV l)[0 * 5 + j]? = _
    rw [Nat.zero_mul, Nat.zero_add, List.getElem?_append_left hj]; exact h
  | e :: l, i + 1, hi => by
    intro j u h
    show (tupC e ++ flatV l)[(i + 1) * 5 + j]? = _
    rw [List.getElem?_append_right (by show 5 ≤ _; omega), show (i + 1) * 5 + j - (tupC e).length = i * 5 + j by show _ - 5 = _; omega]
    exact flatV_at l i (by simpa using hi) j u (by simpa using h)
theorem getD_memT {l : List Tup} {i : Nat} (h : i < l.length) : l.getD i tup0 ∈ l := by
  rw [List.getD_eq_getElem?_getD, List.getElem?_eq_getElem h]; exact List.getElem_mem h
/-- A slice value that reads as the tuples l; the cells lie below block B. -/
def ReadsT (w : World) (B : Nat) (a : Option Addr) (n : Nat) (l : List Tup) : Prop :=
  l.length = n ∧ (∀ e ∈ l, TupOk e) ∧ (0 < n → ∃ b off, a = some ⟨b, off, none⟩ ∧ b < B ∧ ∀ (i : Nat), i < n → ∀ (j : Nat) (u : Value), (tupC (l.getD i tup0))[j]? = some u → w.cell? ⟨b, off + i * 5 + j, none⟩ = some u)
section
variable {w w' : World} {B : Nat} {a : Option Addr} {n : Nat} {l : List Tup}
theorem ReadsT.keep (h : ReadsT w B a n l) (hb : Below B w w') : ReadsT w' B a n l := by
  obtain ⟨hl, hw, hc⟩ := h
  refine ⟨hl, hw, fun hn => ?_⟩
  obtain ⟨b, off, rfl, hbB, hc⟩ := hc hn
  exact ⟨b, off, rfl, hbB, fun i hi j u hj => (hb.cell (p := ⟨b, off + i * 5 + j, none⟩) hbB).trans (hc i hi j u hj)⟩
theorem ReadsT.mono {B' : Nat} (h : ReadsT w B a n l) (hb : B ≤ B') : ReadsT w B' a n l := by
  obtain ⟨hl, hw, hc⟩ := h
  refine ⟨hl, hw, fun hn => ?_⟩
  obtain ⟨b, off, rfl, hbB, hc⟩ := hc hn
  exact ⟨b, off, rfl, by omega, hc⟩
theorem ReadsT.drewN (h : ReadsT w B a n l) (m : Nat) : ReadsT (w.drewN m) B a n l := h
theorem ReadsT.nil (w : World) (B : Nat) (a : Option Addr) : ReadsT w B a 0 [] := ⟨rfl, by simp, fun h => absurd h (by omega)⟩
/-- it is kept while the blocks that it may lie in are -/
theorem ReadsT.far {F : Nat → Prop} (h : ReadsT w B a n l) (hB : B ≤ w.heap.size) (hf : Far F w w') (hF : 0 < n → ∀ b off, a = some ⟨b, off, none⟩ → ¬ F b) : ReadsT w' B a n l := by
  obtain ⟨hl, hw, hc⟩ := h
  refine ⟨hl, hw, fun hn => ?_⟩
  obtain ⟨b, off, hA, hbB, hc⟩ := hc hn
  refine ⟨b, off, hA, hbB, fun i hi j u hj => ?_⟩
  have h1 := hf.block b (by omega) (hF hn b off hA)
  have h2 : w'.cell? ⟨b, off + i * 5 + j, none⟩ = w.cell? ⟨b, off + i * 5 + j, none⟩ := by simp only [World.cell?, h1]
  exact h2.trans (hc i hi j u hj)
theorem ReadsT.at_ (h : ReadsT w B a n l) {i : Nat} (hi : i < n) : ∃ b off t, a = some ⟨b, off, none⟩ ∧ b < B ∧ w.cell? ⟨b, off + i * 5, none⟩ = some (.int .i64 t.a) ∧ w.cell? ⟨b, off + i * 5 + 1, none⟩ = some (.int .i64 t.b) ∧ w.cell? ⟨b, off + i * 5 + 2, none⟩ = some (.int .i64 t.c) ∧
    w.cell? ⟨b, off + i * 5 + 3, none⟩ = some (.int .i64 t.d) ∧ w.cell? ⟨b, off + i * 5 + 4, none⟩ = some (.int .i64 t.e) ∧ TupOk t ∧ Hid (l[i]? = some t) := by
  obtain ⟨hl, hw, hc⟩ := h
  obtain ⟨b, off, rfl, hb, hc⟩ := hc (by omega)
  refine ⟨b, off, l.getD i tup0, rfl, hb, hc i hi 0 _ rfl, hc i hi 1 _ rfl, hc i hi 2 _ rfl, hc i hi 3 _ rfl, hc i hi 4 _ rfl, hw _ (getD_memT (by omega)), ?_⟩
  show l[i]? = some (l.getD i tup0)
  rw [List.getD_eq_getElem?_getD, List.getElem?_eq_getElem (by omega)]; rfl
end
/-- what is owned, and holds tuples, is read as such -/
theorem ownT_reads {w : World} {base : Nat} {t : TypeId} {v : Value} {n : Nat} {l : List Tup} (h : w.ownsRow base t 5 v n (flatV l)) (hw : ∀ e ∈ l, TupOk e) : ∃ A c, v = .slice A n c ∧ ReadsT w w.heap.size A n l ∧ l.length = n ∧ c ≤ maxLen ∧ n ≤ c ∧ (0 < n → ∀ b off, A = some ⟨b, off, none⟩ → base ≤ b) := by
  obtain ⟨hl, h2⟩ := h
  have hl' : l.length = n := by rw [flatV_len] at hl; omega
  rcases h2 with ⟨rfl, rfl⟩ | ⟨g, cap, cur, rfl, hg, hh, hcap, hm, hs, ht⟩
  · exact ⟨none, 0, rfl, ⟨hl', hw, fun h => absurd h (by omega)⟩, hl', by unfold maxLen; omega, Nat.le_refl _, fun h => absurd h (by omega)⟩
  · refine ⟨some ⟨g, 0, none⟩, cap, rfl, ⟨hl', hw, fun _ => ⟨g, 0, rfl, ?_, fun i hi j u hj => ?_⟩⟩, hl', hm, hcap, fun _ b off e => ?_⟩
    · exact lt_of_some hh
    · have h3 : w.cell? ⟨g, 0 + i * 5 + j, none⟩ = cur[0 + i * 5 + j]? := by simp [World.cell?, hh]
      rw [h3, Nat.zero_add]
      have hj5 : j < 5 := (List.getElem?_eq_some_iff.1 hj).1
      have h4 : (cur.toList.take (n * 5))[i * 5 + j]? = cur.toList[i * 5 + j]? := by rw [List.getElem?_take, if_pos (by omega)]
      rw [ht, flatV_at l i (by omega) j u hj] at h4
      rw [← Array.getElem?_toList]; exact h4.symm
    · injection e with e; injection e with e _; subst e; exact hg
theorem ownT_keep {w w' : World} {base : Nat} {e : TypeId} {s n : Nat} {v : Value} {xs : List Value} (h : w.ownsRow base e s v n xs) (hb : Below w.heap.size w w') : w'.ownsRow base e s v n xs :=
  ownsRow_same h fun k hk => hb.block k (h.lt k hk).2
theorem ownT_nil (w : World) (base : Nat) (e : TypeId) : w.ownsRow base e 5 (.slice none 0 0) 0 (flatV []) := ⟨rfl, .inl ⟨rfl, rfl⟩⟩
/-- 'l = append(l, t)' -/
theorem wpList_push_tup {w : World} {ops : Array Oper} {rest : List Oper} {o : Oper} {a : Act} {Q : Exit → Act → World → Prop} (hgd : o.guard = none) (sl x : Operand)
    (ho : o.op = .call { callee := .builtin .append, args := #[sl, x], argTypes := #[35, 35] }) {v : Value} {base n : Nat} {l : List Tup} (h : w.ownsRow base 23 5 v n (flatV l)) (hs : a.eval sl = v) (ad : Addr) (hx : a.eval x = .slice (some ad) 1 1) (t : Tup)
    (hsrc : ∀ j u, (tupC t)[j]? = some u → w.cell? (ad.add j) = some u) (hn : n ≤ 1000000) (hbase : base ≤ w.heap.size)
    (hK : ∀ v' w', w'.ownsRow base 23 5 v' (n + 1) (flatV (l ++ [t])) → Far (fun k => v.ownBlock = some k) w w' → (v'.ownBlock = v.ownBlock ∨ v'.ownBlock = some w.heap.size) → wpList Try.prog ops Q rest (a.put o.dst v') w') : wpList Try.prog ops Q (o :: rest) a w := by
  obtain ⟨i0, hi0, hz0, hz, hzb⟩ := info_parts infoT
  refine wpList_append_own_at w hgd sl x 35 ho base 23 i0 _ 5 40 Try.underlying35 hi0 hz0 hz hzb rfl (by decide) v n (flatV l) hs h ad 1 1 (tupC t) hx rfl hsrc (fun u hu => by simp [tupC] at hu; rcases hu with rfl | rfl | rfl | rfl | rfl <;> rfl) (by unfold maxLen; omega) (by omega) hbase ?_
  intro v' w' hown hgr _ hat
  rw [← flatV_snoc] at hown
  exact hK v' w' hown ((Far.refl _ w).grown hgr fun k hk => .inl hk) hat
end Go.Proofs.Ytoimpiimlekakaa
