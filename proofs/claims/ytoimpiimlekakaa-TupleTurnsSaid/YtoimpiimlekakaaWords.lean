/- WORDS of this seat: a slice of integers that is read, kept over what is made behind it; small lemmas on endings. No program is named here but by its import. -/
import Derived.Test.YtoimpiimlekakaaRows
import Derived.WalkKit
import Derived.ProofKit
import Derived.OpenShut
import Derived.LoopTactic
import Derived.Outline
import Derived.Lib.Varint
import Derived.Lib.Hide
import Derived.Deep.QuietTactic
import Derived.BigQuiet
import Derived.Below
import Derived.Deep.Draws
import Derived.Laws.CopyOwn
import Derived.Laws.OwnMore
import Derived.Laws.MakeOwn
import Derived.Laws.Bits64b
import Derived.OwnWalk
import Derived.Laws.BytesArg
import Derived.Deep.RegionHeld3
import Derived.Deep.AppendLies
import Derived.Deep.DeepCutAuto
import Derived.Deep.CutBlock
namespace Go.Proofs.Ytoimpiimlekakaa
open Go.ChangeShapes Go.WideShapes Go.ChangeAt Go.RowKit

theorem ret_int {k : IntKind} {a b : Int} (h : a = b) : Ending.returned (.int k a) = .returned (.int k b) := by rw [h]
theorem ret_bool {a b : Bool} (h : a = b) : Ending.returned (.bool a) = .returned (.bool b) := by rw [h]

/-- A slice value (address a, length n) that reads as the numbers l, of kind k; the cells lie below block B. -/
def Reads (k : IntKind) (w : World) (B : Nat) (a : Option Addr) (n : Nat) (l : List Nat) : Prop :=
  l.length = n ∧ (∀ x ∈ l, (Lit.int k x).wf = true) ∧
  (0 < n → ∃ b off, a = some ⟨b, off, none⟩ ∧ b < B ∧ ∀ i, i < n → w.cell? ⟨b, off + i, none⟩ = some (.int k (l.getD i 0 : Nat)))

theorem Reads.at_ {k : IntKind} {w : World} {B : Nat} {a : Option Addr} {n : Nat} {l : List Nat} (h : Reads k w B a n l) {i : Nat} (hi : i < n) :
    ∃ b off c, a = some ⟨b, off, none⟩ ∧ b < B ∧ w.cell? ⟨b, off + i, none⟩ = some (.int k (c : Nat)) ∧ (Lit.int k c).wf = true ∧ Hid (c = l.getD i 0) := by
  obtain ⟨hl, hw, hc⟩ := h
  obtain ⟨b, off, rfl, hb, hc⟩ := hc (by omega)
  refine ⟨b, off, l.getD i 0, rfl, hb, hc i hi, hw _ ?_, rfl⟩
  have : i < l.length := by omega
  rw [List.getD_eq_getElem?_getD, List.getElem?_eq_getElem this]
  exact List.getElem_mem this

theorem Reads.keep {k : IntKind} {w w' : World} {B : Nat} {a : Option Addr} {n : Nat} {l : List Nat} (h : Reads k w B a n l) (hb : Below B w w') : Reads k w' B a n l := by
  obtain ⟨hl, hw, hc⟩ := h
  refine ⟨hl, hw, fun hn => ?_⟩
  obtain ⟨b, off, rfl, hbB, hc⟩ := hc hn
  exact ⟨b, off, rfl, hbB, fun i hi => (hb.cell (p := ⟨b, off + i, none⟩) hbB).trans (hc i hi)⟩
theorem Reads.drewN {k : IntKind} {w : World} {B : Nat} {a : Option Addr} {n : Nat} {l : List Nat} (h : Reads k w B a n l) (m : Nat) : Reads k (w.drewN m) B a n l := h
theorem Reads.mono {k : IntKind} {w : World} {B B' : Nat} {a : Option Addr} {n : Nat} {l : List Nat} (h : Reads k w B a n l) (hb : B ≤ B') : Reads k w B' a n l := by
  obtain ⟨hl, hw, hc⟩ := h
  refine ⟨hl, hw, fun hn => ?_⟩
  obtain ⟨b, off, rfl, hbB, hc⟩ := hc hn
  exact ⟨b, off, rfl, by omega, hc⟩
theorem below_drewN {B : Nat} {a w : World} (h : Below B a w) (n : Nat) : Below B a (w.drewN n) := ⟨h.os, h.tape, h.output, h.size, h.block⟩
theorem u8_lt {c : Nat} (h : (Lit.int .u8 c).wf = true) : c < 256 := by
  simp [Lit.wf, IntKind.min, IntKind.max, IntKind.signed, IntKind.bits] at h; omega
theorem u64_lt {c : Nat} (h : (Lit.int .u64 c).wf = true) : c < 18446744073709551616 := by
  simp [Lit.wf, IntKind.min, IntKind.max, IntKind.signed, IntKind.bits] at h; omega
theorem u8_wf {c : Nat} (h : c < 256) : (Lit.int .u8 c).wf = true := by
  simp [Lit.wf, IntKind.min, IntKind.max, IntKind.signed, IntKind.bits]; omega

theorem u64_wf {c : Nat} (h : c < 18446744073709551616) : (Lit.int .u64 c).wf = true := by
  simp [Lit.wf, IntKind.min, IntKind.max, IntKind.signed, IntKind.bits]; omega

theorem info_parts {t : TypeId} {z : Value} {s b : Nat} (h : (Try.prog.info? t).map (fun i => (i.zero, i.size, i.bytes)) = some (some z, s, b)) :
    ∃ i, Try.prog.info? t = some i ∧ i.zero = some z ∧ i.size = s ∧ i.bytes = b := by
  rcases hi : Try.prog.info? t with _ | i
  · rw [hi] at h; cases h
  · rw [hi] at h; simp at h; exact ⟨i, rfl, h.1, h.2.1, h.2.2⟩

/-- Block g of w is just the cells cs, of element type t; none is frozen. -/
def Row (w : World) (g : Nat) (t : TypeId) (cs : List Value) : Prop := w.heap[g]? = some (.cells cs.toArray t (0, 0))

section
variable {w w' : World} {g : Nat} {t : TypeId} {cs : List Value}
theorem Row.lt (h : Row w g t cs) : g < w.heap.size := by
  rcases Nat.lt_or_ge g w.heap.size with hlt | hge
  · exact hlt
  · unfold Row at h; rw [Array.getElem?_eq_none hge] at h; cases h
theorem Row.cell (h : Row w g t cs) (i : Nat) : w.cell? ⟨g, i, none⟩ = cs[i]? := by
  unfold Row at h; simp [World.cell?, h]
theorem Row.free (h : Row w g t cs) (i : Nat) : w.frozen? ⟨g, i, none⟩ = false := frozen_of_row w g i _ t h
theorem Row.set (h : Row w g t cs) (i : Nat) (u : Value) : Row (w.setCell ⟨g, i, none⟩ u) g t (cs.set i u) := by
  unfold Row at h ⊢
  rw [heap_setCell_same w g i _ t u h]; simp
theorem Row.far (h : Row w g t cs) {p : Addr} (hp : g ≠ p.block) (u : Value) : Row (w.setCell p u) g t cs := (heap_setCell_other w p g u hp).trans h
theorem Row.drewN (h : Row w g t cs) (n : Nat) : Row (w.drewN n) g t cs := h
theorem Row.alloc (h : Row w g t cs) (o : Obj) : Row (w.alloc o) g t cs := (Below.heap_alloc w o g h.lt).trans h
theorem Row.below {B : Nat} (h : Row w g t cs) (hb : Below B w w') (hg : g < B) : Row w' g t cs := (hb.block g hg).trans h
/-- A row whose cells are numbers is read as such. -/
theorem Row.reads {k : IntKind} {l : List Nat} (h : Row w g t cs) {n : Nat} (hn : l.length = n) (hw : ∀ x ∈ l, (Lit.int k x).wf = true)
    (hc : ∀ i, i < n → cs[i]? = some (.int k (l.getD i 0 : Nat))) {B : Nat} (hB : g < B) : Reads k w B (some ⟨g, 0, none⟩) n l :=
  ⟨hn, hw, fun _ => ⟨g, 0, rfl, hB, fun i hi => by rw [Nat.zero_add, h.cell]; exact hc i hi⟩⟩
end

/-- 'make([]T, n)', T of one cell: a new block of n zeros. -/
theorem wpList_make_row {P : Program} (w : World) {ops : Array Oper} {rest : List Oper} {o : Oper} {a : Act} {Q : Exit → Act → World → Prop}
    (hg : o.guard = none) (l c : Operand) (t : TypeId) (hop : o.op = Op.makeSlice t l c)
    (e : TypeId) (i : TypeInfo) (z : Value) (h1 : P.underlying t = some (.slice e)) (h2 : P.info? e = some i) (h3 : i.zero = some z) (h4 : i.size = 1) (h5 : z.cells = #[z])
    (kl kc : IntKind) (L C : Int) (n : Nat) (hl : a.eval l = .int kl L) (hc : a.eval c = .int kc C) (hL : L = (n : Int)) (hC : C = (n : Int)) (b2 : i.bytes * n ≤ 281474976710656) (b3 : n ≤ 9223372036854775807)
    (hK : ∀ w', Row w' w.heap.size e (List.replicate n z) → Below w.heap.size w w' → w'.heap.size = w.heap.size + 1 → wpList P ops Q rest (a.put o.dst (.slice (some ⟨w.heap.size, 0, none⟩) n n)) w') :
    wpList P ops Q (o :: rest) a w := by
  refine wpList_plain hg fun K hK' => ?_
  have hb' : (i.bytes : Int) * (n : Int) ≤ 281474976710656 := by
    have h : ((i.bytes * n : Nat) : Int) ≤ 281474976710656 := by omega
    rwa [Int.natCast_mul] at h
  have hrun := run_make (P := P) w t e i z h1 h2 h3 kl kc n n (by omega) (Int.le_refl _) hb' (by omega)
  subst hL
  subst hC
  simp only [Int.toNat_natCast] at hrun
  unfold Oper.wp
  simp [execOp, hop, hl, hc, hrun, Result.andThen]
  refine hK' _ _ (hK _ ?_ ((Below.refl _ _).alloc (Nat.le_refl _) _) (by simp))
  show _ = _
  rw [heap_alloc_new, h4, Nat.mul_one, h5]
  congr 2
  exact Array.toList_inj.1 (by rw [toList_madeCells_one])

theorem run_append_nothing {P : Program} (w : World) (base : Nat) (t ty e : TypeId) (i : TypeInfo) (ht : P.underlying t = some (.slice e)) (hi : P.info? e = some i)
    (v : Value) (n : Nat) (xs : List Value) (hown : w.ownsRow base e 1 v n xs) (c : Nat) : (Builtin.append_ #[t, t] ty #[v, .slice none 0 c]).run P w = .ok v w := by
  rcases hown.2 with ⟨rfl, rfl⟩ | ⟨g, cap, cur, rfl, _, _, hnc, _⟩
  · simp [Builtin.append_, run_underlying ht, sizeOf, typeInfo, hi, Builtin.lenOf, Builtin.firstCells]
  · simp [Builtin.append_, run_underlying ht, sizeOf, typeInfo, hi, Builtin.lenOf, Builtin.firstCells, hnc, storeCells]

/-- 'append(out, xs...)': out is the call's own (from block base on), xs whatever is read: nil, empty or not; elements of one cell. -/
theorem wpList_append_list {P : Program} (w : World) {ops : Array Oper} {rest : List Oper} {o : Oper} {a : Act} {Q : Exit → Act → World → Prop} (hgd : o.guard = none) (s x : Operand) (t : TypeId)
    (ho : o.op = .call { callee := .builtin .append, args := #[s, x], argTypes := #[t, t] })
    (base : Nat) (e : TypeId) (i : TypeInfo) (z : Value) (bytes : Nat) (ht : P.underlying t = some (.slice e)) (hi : P.info? e = some i) (hz : i.zero = some z)
    (hsize : i.size = 1) (hby : i.bytes = bytes) (hzs : z.cells.size = 1)
    (v : Value) (n : Nat) (xs : List Value) (hs : a.eval s = v) (hown : w.ownsRow base e 1 v n xs)
    (A : Option Addr) (m c : Nat) (news : List Value) (hx : a.eval x = .slice A m c) (hl : news.length = m)
    (hnews : 0 < m → ∃ ad, A = some ad ∧ ∀ j u, news[j]? = some u → w.cell? (ad.add j) = some u) (h1 : ∀ u ∈ news, u.oneCell' = true)
    (h63 : n + m ≤ 9223372036854775807) (hbytes : (n + m) * bytes ≤ 140737488355328) (hbase : base ≤ w.heap.size)
    (h : ∀ v' w', w'.ownsRow base e 1 v' (n + m) (xs ++ news) → Below base w w' → wpList P ops Q rest (a.put o.dst v') w') : wpList P ops Q (o :: rest) a w := by
  rcases A with _ | ad
  · have hm : m = 0 := by
      rcases Nat.eq_zero_or_pos m with h0 | h0
      · exact h0
      · obtain ⟨ad, hh, _⟩ := hnews h0; cases hh
    subst hm
    obtain rfl : news = [] := List.eq_nil_of_length_eq_zero hl
    refine wpList_plain hgd fun K hK => ?_
    have hrun := run_append_nothing (P := P) w base t o.type e i ht hi v n xs hown c
    unfold Oper.wp
    simp [execOp, ho, resolve, invoke, builtin, hs, hx, hrun, Result.andThen]
    exact hK _ _ (h v w (by simpa using hown) (Below.refl _ _))
  · refine wpList_append_own w hgd s x t ho base e i z 1 bytes ht hi hz hsize hby hzs (by omega) v n xs hs hown ad m c news hx (by omega) ?_ h1 h63 hbytes hbase ?_
    · intro j u hj
      rcases Nat.eq_zero_or_pos m with h0 | h0
      · obtain rfl : news = [] := List.eq_nil_of_length_eq_zero (by omega)
        simp at hj
      · obtain ⟨ad', hh, hc⟩ := hnews h0
        injection hh with hh; subst hh
        exact hc j u hj
    · intro v' w' h2 h3 _
      exact h v' w' h2 ((Below.refl _ _).grown h3 hbase fun k hk => (hown.lt k hk).1)

/-- as wpList_append_list; besides, no block but the row's own has changed -/
theorem wpList_append_list3 {P : Program} (w : World) {ops : Array Oper} {rest : List Oper} {o : Oper} {a : Act} {Q : Exit → Act → World → Prop} (hgd : o.guard = none) (s x : Operand) (t : TypeId)
    (ho : o.op = .call { callee := .builtin .append, args := #[s, x], argTypes := #[t, t] })
    (base : Nat) (e : TypeId) (i : TypeInfo) (z : Value) (bytes : Nat) (ht : P.underlying t = some (.slice e)) (hi : P.info? e = some i) (hz : i.zero = some z)
    (hsize : i.size = 1) (hby : i.bytes = bytes) (hzs : z.cells.size = 1)
    (v : Value) (n : Nat) (xs : List Value) (hs : a.eval s = v) (hown : w.ownsRow base e 1 v n xs)
    (A : Option Addr) (m c : Nat) (news : List Value) (hx : a.eval x = .slice A m c) (hl : news.length = m)
    (hnews : 0 < m → ∃ ad, A = some ad ∧ ∀ j u, news[j]? = some u → w.cell? (ad.add j) = some u) (h1 : ∀ u ∈ news, u.oneCell' = true)
    (h63 : n + m ≤ maxLen) (hbytes : (n + m) * bytes ≤ 140737488355328) (hbase : base ≤ w.heap.size)
    (h : ∀ v' w', w'.ownsRow base e 1 v' (n + m) (xs ++ news) → Below base w w' → (∀ k, k < w.heap.size → some k ≠ v.ownBlock → w'.heap[k]? = w.heap[k]?) → wpList P ops Q rest (a.put o.dst v') w') : wpList P ops Q (o :: rest) a w := by
  rcases A with _ | ad
  · have hm : m = 0 := by
      rcases Nat.eq_zero_or_pos m with h0 | h0
      · exact h0
      · obtain ⟨ad, hh, _⟩ := hnews h0; cases hh
    subst hm
    obtain rfl : news = [] := List.eq_nil_of_length_eq_zero (by omega)
    refine wpList_plain hgd fun K hK => ?_
    have hrun := run_append_nothing (P := P) w base t o.type e i ht hi v n xs hown c
    unfold Oper.wp
    simp [execOp, ho, resolve, invoke, builtin, hs, hx, hrun, Result.andThen]
    exact hK _ _ (h v w (by simpa using hown) (Below.refl _ _) (fun _ _ _ => rfl))
  · refine wpList_append_own w hgd s x t ho base e i z 1 bytes ht hi hz hsize hby hzs (by omega) v n xs hs hown ad m c news hx (by omega) ?_ h1 h63 hbytes hbase ?_
    · intro j u hj
      rcases Nat.eq_zero_or_pos m with h0 | h0
      · obtain rfl : news = [] := List.eq_nil_of_length_eq_zero (by omega)
        simp at hj
      · obtain ⟨ad', hh, hc⟩ := hnews h0
        injection hh with hh; subst hh
        exact hc j u hj
    · intro v' w' h2 h3 _
      exact h v' w' h2 ((Below.refl _ _).grown h3 hbase fun k hk => (hown.lt k hk).1) (fun k hk hn => h3.block k hk hn)

/-- What is owned, and holds numbers, is read as such. -/
theorem own_reads {w : World} {base : Nat} {e : TypeId} {v : Value} {n : Nat} {k : IntKind} {l : List Nat} (h : w.ownsRow base e 1 v n (l.map fun c : Nat => Value.int k c)) (hw : ∀ x ∈ l, (Lit.int k x).wf = true) :
    ∃ A c, v = .slice A n c ∧ Reads k w w.heap.size A n l ∧ l.length = n := by
  obtain ⟨hl, h2⟩ := h
  have hl' : l.length = n := by simpa using hl
  rcases h2 with ⟨rfl, rfl⟩ | ⟨g, cap, cur, rfl, hg, hh, hcap, hm, hs, ht⟩
  · exact ⟨none, 0, rfl, ⟨hl', hw, fun h => absurd h (by omega)⟩, hl'⟩
  · refine ⟨some ⟨g, 0, none⟩, cap, rfl, ⟨hl', hw, fun _ => ⟨g, 0, rfl, ?_, fun i hi => ?_⟩⟩, hl'⟩
    · rcases Nat.lt_or_ge g w.heap.size with hlt | hge
      · exact hlt
      · rw [Array.getElem?_eq_none hge] at hh; cases hh
    · have h3 : w.cell? ⟨g, 0 + i, none⟩ = cur[0 + i]? := by simp [World.cell?, hh]
      rw [h3, Nat.zero_add]
      have h4 : (cur.toList.take (n * 1))[i]? = cur.toList[i]? := by rw [List.getElem?_take, if_pos (by omega)]
      rw [ht] at h4
      rw [← Array.getElem?_toList, ← h4, List.getElem?_map, List.getD_eq_getElem?_getD]
      rw [List.getElem?_eq_getElem (by omega)]; rfl

/-- What is owned, and isn't empty, is a row of its own. -/
theorem own_row {w : World} {base : Nat} {e : TypeId} {v : Value} {n : Nat} {xs : List Value} (h : w.ownsRow base e 1 v n xs) (hn : 0 < n) :
    ∃ g cap cs, v = .slice (some ⟨g, 0, none⟩) n cap ∧ base ≤ g ∧ Row w g e cs ∧ n ≤ cap ∧ cap ≤ maxLen ∧ cs.length = cap ∧ cs.take n = xs := by
  rcases h.2 with ⟨_, h0⟩ | ⟨g, cap, cur, rfl, hg, hh, hcap, hm, hs, ht⟩
  · omega
  · exact ⟨g, cap, cur.toList, rfl, hg, hh, hcap, hm, by simpa using hs, by simpa using ht⟩

/-- What the row's step tells of a slice of integers that came in. -/
def IsRow (k : IntKind) (w : World) (a : Option Addr) (len cap : Nat) (zs : List Int) : Prop :=
  (a = none ∧ len = 0 ∧ cap = 0 ∧ zs = []) ∨
  ∃ x, a = some x ∧ len ≤ cap ∧ cap ≤ maxLen ∧ zs.length = cap ∧ (∀ i, i < zs.length → w.cell? (x.add i) = some (.int k (zs.getD i 0))) ∧ ∀ n ∈ zs, (Lit.int k n).wf = true

/-- Of an unsigned kind: it reads as natural numbers. -/
theorem IsRow.reads {k : IntKind} {w : World} {a : Option Addr} {len cap : Nat} {zs : List Int} (h : IsRow k w a len cap zs) (h0 : ∀ n : Int, (Lit.int k n).wf = true → 0 ≤ n) :
    ∃ l : List Nat, Reads k w w.heap.size a len l := by
  rcases h with ⟨rfl, rfl, rfl, rfl⟩ | ⟨x, rfl, hlc, hm, hz, hcell, hwf⟩
  · exact ⟨[], rfl, by simp, fun h => absurd h (by omega)⟩
  · refine ⟨(zs.take len).map Int.toNat, by simp; omega, ?_, fun hpos => ?_⟩
    · intro c hc
      obtain ⟨z, hz1, rfl⟩ := List.mem_map.1 hc
      have hz2 := hwf z (List.mem_of_mem_take hz1)
      rw [Int.toNat_of_nonneg (h0 z hz2)]; exact hz2
    · obtain ⟨b, off, spot⟩ := x
      have hc := hcell 0 (by omega)
      have hspot : spot = none := by simpa [Addr.add] using World.cell?_spot hc
      subst hspot
      refine ⟨b, off, rfl, block_lt_of_cell hc, fun i hi => ?_⟩
      have hi' : i < zs.length := by omega
      have h1 := hcell i hi'
      have e : (⟨b, off, none⟩ : Addr).add i = ⟨b, off + i, none⟩ := by unfold Addr.add; split <;> simp_all
      rw [e] at h1
      rw [h1, List.getD_eq_getElem?_getD, List.getD_eq_getElem?_getD, List.getElem?_map, List.getElem?_take, if_pos hi, List.getElem?_eq_getElem hi']
      have := h0 zs[i] (hwf _ (List.getElem_mem hi'))
      simp [Int.toNat_of_nonneg this]
theorem IsRow.cap {k : IntKind} {w : World} {a : Option Addr} {len cap : Nat} {zs : List Int} (h : IsRow k w a len cap zs) : len ≤ cap ∧ cap ≤ 9223372036854775807 := by
  rcases h with ⟨_, h1, h2, _⟩ | ⟨_, _, h1, h2, _⟩
  · omega
  · unfold maxLen at h2; omega
theorem u8_nonneg (n : Int) (h : (Lit.int .u8 n).wf = true) : 0 ≤ n := by
  simp [Lit.wf, IntKind.min, IntKind.max, IntKind.signed, IntKind.bits] at h; omega
theorem u64_nonneg (n : Int) (h : (Lit.int .u64 n).wf = true) : 0 ≤ n := by
  simp [Lit.wf, IntKind.min, IntKind.max, IntKind.signed, IntKind.bits] at h; omega
theorem i64_bounds {n : Int} (h : (Lit.int .i64 n).wf = true) : -9223372036854775808 ≤ n ∧ n ≤ 9223372036854775807 := by
  simp [Lit.wf, IntKind.min, IntKind.max, IntKind.signed, IntKind.bits] at h; omega

/-- 'x[i:j]' of a slice whose cells are one long. -/
theorem run_cut {P : Program} (w : World) (t e : TypeId) (i0 : TypeInfo) (ht : P.underlying t = some (.slice e)) (hi : P.info? e = some i0) (hs : i0.size = 1) (b off len cap i j : Nat) (hij : i ≤ j) (hj : j ≤ cap) (hne : i < cap)
    (kl kh : IntKind) (I J : Int) (hI : I = i) (hJ : J = j) :
    (Instr.slice t (.slice (some ⟨b, off, none⟩) len cap) (some (.int kl I)) (some (.int kh J)) none).run P w = .ok (.slice (some ⟨b, off + i, none⟩) (j - i) (cap - i)) w := by
  subst hI hJ
  have he : P.elem t = e := by simp [Program.elem, ht]
  rw [run_slice_lh w t _ len cap (by rw [he]; exact ht) kl kh i j (by omega) (by omega) (by omega)]
  have hne' : ¬ cap = i := by omega
  simp [he, sizeOf, typeInfo, hi, hs, sliced, hne', Addr.add]

/-- 'string(b)' of bytes that are read. -/
def strOf (l : List Nat) : ByteArray := strOfNums (l.map fun c : Nat => (c : Int))
theorem run_string {P : Program} (w : World) (src dst e : TypeId) (hs : P.underlying src = some (.slice e)) (he : P.underlying e = some (.int .u8)) (hd : P.underlying dst = some .string)
    (b off len cap : Nat) (l : List Nat) (hlen : l.length = len) (hcell : ∀ i, i < len → w.cell? ⟨b, off + i, none⟩ = some (.int .u8 (l.getD i 0 : Nat))) :
    (convert src dst (.slice (some ⟨b, off, none⟩) len cap)).run P w = .ok (.string (strOf l)) w := by
  refine run_convert_bytes_arg w src e hs he b off len cap _ (by simpa using hlen) (fun i hi => ?_) dst hd
  rw [hcell i hi, List.getD_eq_getElem?_getD, List.getD_eq_getElem?_getD, List.getElem?_map, List.getElem?_eq_getElem (by omega)]; rfl

/-- THE WALK STOPS AHEAD OF THE OPERATION THAT WRITES SLOT s: for a law that is applied by hand. -/
theorem stopAt {P : Program} {ops : Array Oper} {Q : Exit → Act → World → Prop} {rest : List Oper} {a : Act} {w : World} (s : Nat) {op : Op} {ty : TypeId} {pos : String} {after : Array Edge} {guard : Option (Nat × Bool)}
    (h : Hid (wpList P ops Q (⟨some s, op, ty, pos, after, guard⟩ :: rest) a w)) : wpList P ops Q (⟨some s, op, ty, pos, after, guard⟩ :: rest) a w := h
/-- what an append of a list wants of the slice that it reads -/
theorem Reads.source {k : IntKind} {w : World} {B : Nat} {a : Option Addr} {n : Nat} {l : List Nat} (h : Reads k w B a n l) :
    0 < n → ∃ ad, a = some ad ∧ ∀ j u, (l.map fun c : Nat => Value.int k c)[j]? = some u → w.cell? (ad.add j) = some u := by
  intro hpos
  obtain ⟨hlen, _, hc⟩ := h
  obtain ⟨b, off, rfl, hb, hc⟩ := hc hpos
  refine ⟨_, rfl, fun j v hj => ?_⟩
  have hjl : j < l.length := by
    rcases Nat.lt_or_ge j l.length with hlt | hge
    · exact hlt
    · rw [List.getElem?_eq_none (by simpa using hge)] at hj; cases hj
  have h1 := hc j (by omega)
  rw [List.getElem?_map, List.getElem?_eq_getElem hjl] at hj
  have e : (⟨b, off, none⟩ : Addr).add j = ⟨b, off + j, none⟩ := by unfold Addr.add; split <;> simp_all
  rw [e, h1, ← hj]
  simp [hjl]
theorem cells_int {k : IntKind} {l : List Nat} : ∀ u ∈ l.map (fun c : Nat => Value.int k c), u.oneCell' = true := by
  intro v hv; obtain ⟨c, _, rfl⟩ := List.mem_map.1 hv; rfl
/-- a new block that holds numbers is read as such -/
theorem alloc_reads {k : IntKind} (w : World) (t : TypeId) (vs : Array Value) (l : List Nat) (hv : vs = (l.map fun c : Nat => Value.int k c).toArray) (hw : ∀ x ∈ l, (Lit.int k x).wf = true) :
    Reads k (w.alloc (.cells vs t)) (w.heap.size + 1) (some ⟨w.heap.size, 0, none⟩) l.length l := by
  subst hv
  have h : Row (w.alloc (.cells (l.map fun c : Nat => Value.int k c).toArray t)) w.heap.size t (l.map fun c : Nat => Value.int k c) := heap_alloc_new _ _
  refine h.reads rfl hw (fun i hi => ?_) (Nat.lt_succ_self _)
  rw [List.getElem?_map, List.getElem?_eq_getElem hi, List.getD_eq_getElem?_getD, List.getElem?_eq_getElem hi]; rfl
theorem u32_lt {c : Nat} (h : (Lit.int .u32 c).wf = true) : c < 4294967296 := by
  simp [Lit.wf, IntKind.min, IntKind.max, IntKind.signed, IntKind.bits] at h; omega
theorem cells1 {w : World} {n : Nat} {u : Value} : ∀ j v, ([u] : List Value)[j]? = some v → (w.alloc (.cells #[u] n)).cell? ((⟨w.heap.size, 0, none⟩ : Addr).add j) = some v := by
  intro j v hj
  match j, hj with
  | 0, hj => simp at hj; subst hj; simp [Addr.add]

theorem Reads.take {k : IntKind} {w : World} {B : Nat} {a : Option Addr} {n m : Nat} {l : List Nat} (h : Reads k w B a n l) (hm : m ≤ n) : Reads k w B a m (l.take m) := by
  obtain ⟨hl, hw, hc⟩ := h
  refine ⟨by simp; omega, fun x hx => hw x (List.mem_of_mem_take hx), fun hpos => ?_⟩
  obtain ⟨b, off, rfl, hb, hc⟩ := hc (by omega)
  refine ⟨b, off, rfl, hb, fun i hi => ?_⟩
  rw [hc i (by omega)]
  simp only [List.getD_eq_getElem?_getD, List.getElem?_take, if_pos hi]
/-- 'x[:j]' of a slice whose cells are one long, nil too. -/
theorem run_head {P : Program} (w : World) (t e : TypeId) (i0 : TypeInfo) (ht : P.underlying t = some (.slice e)) (hi : P.info? e = some i0) (a : Option Addr) (len cap j : Nat) (hj : j ≤ cap)
    (kh : IntKind) (J : Int) (hJ : J = j) :
    (Instr.slice t (.slice a len cap) none (some (.int kh J)) none).run P w = .ok (.slice a j cap) w := by
  subst hJ
  have he : P.elem t = e := by simp [Program.elem, ht]
  rw [run_slice_h w t a len cap (by rw [he]; exact ht) kh j (by omega) (by omega)]
  have e2 : a.map (fun x : Addr => x.add 0) = a := by cases a <;> simp [Addr.add]
  simp [he, sizeOf, typeInfo, hi, sliced, e2]
section
variable {H : Type} {enc : TypeId × Value → H} {P : Program} {w : World} {base b0 : Nat} {spare : Nat → Bool} {held : Bool} {t e : TypeId} {k : IntKind} {r : Reach}
/-- An array of integers that came in, by value: its numbers, each fitting its kind. -/
theorem open_arr {n : Nat} {v : Value} {d : DataW H} {p : List MemPlace} (ht : P.underlying t = some (.array n e)) (he : P.underlying e = some (.int k)) (hce : P.cellsOf e = 1) (hct : P.cellsOf t = n)
    (hv : Value.okWide P w r b0 t v) (h : DataW.Trod enc P w base spare held t v d p) :
    ∃ zs : List Int, zs.length = n ∧ v = .agg (zs.map (Value.int k)).toArray ∧ ∀ z ∈ zs, (Lit.int k z).wf = true := by
  have h0 : ∃ cs, v = .agg cs ∧ cs.size = P.cellsOf t := by
    simp only [Value.okWide, ht] at hv
    obtain ⟨cs, h1, h2, _⟩ := hv
    exact ⟨cs, h1, h2⟩
  obtain ⟨cs, rfl, hsz⟩ := h0
  obtain ⟨fuel, hf⟩ := h
  obtain ⟨xs, m, _, _, hl, hxl, hx⟩ := DataW.trod_array ht hf
  have hcells : (Value.agg cs).cells.toList = cs.toList := by simp [Value.cells]
  rw [hcells] at hx hl
  have hcell : ∀ i, i < n → ∃ z, cs[i]? = some (.int k z) ∧ (Lit.int k z).wf = true := by
    intro i hi
    have h1 := hx i hi
    rw [hce, Nat.mul_one] at h1
    have hi' : i < cs.toList.length := by simp; omega
    rw [List.drop_eq_getElem_cons hi', List.take_succ_cons, List.take_zero] at h1
    rw [List.getElem?_eq_getElem (by omega)] at h1
    obtain ⟨z, hz, _, hw⟩ := DataW.trod_int he h1
    injection hz with hz
    exact ⟨z, by rw [← Array.getElem?_toList, List.getElem?_eq_getElem hi', hz], hw⟩
  have hall : ∀ c ∈ cs.toList, c = .int k (intOf c) ∧ (Lit.int k (intOf c)).wf = true := by
    intro c hc
    obtain ⟨i, hi, rfl⟩ := List.getElem_of_mem hc
    obtain ⟨z, hz, hw⟩ := hcell i (by omega)
    rw [← Array.getElem?_toList, List.getElem?_eq_getElem hi] at hz
    injection hz with hz
    rw [hz]; exact ⟨rfl, hw⟩
  refine ⟨cs.toList.map intOf, by rw [List.length_map]; omega, ?_, ?_⟩
  · congr 1
    apply Array.ext'
    rw [List.map_map]
    have e1 : ∀ l : List Value, (∀ c ∈ l, c = .int k (intOf c) ∧ (Lit.int k (intOf c)).wf = true) → l = l.map (Value.int k ∘ intOf) := by
      intro l
      induction l with
      | nil => intro _; rfl
      | cons c l ih => intro h; rw [List.map_cons, ← ih fun x hx => h x (by simp [hx])]; congr 1; exact (h c (by simp)).1
    exact e1 _ hall
  · intro z hz
    obtain ⟨c, hc, rfl⟩ := List.mem_map.1 hz
    exact (hall c hc).2
theorem open_arr2 {v : Value} {d : DataW H} {p : List MemPlace} (ht : P.underlying t = some (.array 2 e)) (he : P.underlying e = some (.int k)) (hce : P.cellsOf e = 1) (hct : P.cellsOf t = 2)
    (hv : Value.okWide P w r b0 t v) (h : DataW.Trod enc P w base spare held t v d p) :
    ∃ x y : Int, v = .agg #[.int k x, .int k y] ∧ (Lit.int k x).wf = true ∧ (Lit.int k y).wf = true := by
  obtain ⟨zs, hl, rfl, hw⟩ := open_arr ht he hce hct hv h
  match zs, hl, hw with
  | [x, y], _, hw => exact ⟨x, y, rfl, hw x (by simp), hw y (by simp)⟩
theorem open_arr3 {v : Value} {d : DataW H} {p : List MemPlace} (ht : P.underlying t = some (.array 3 e)) (he : P.underlying e = some (.int k)) (hce : P.cellsOf e = 1) (hct : P.cellsOf t = 3)
    (hv : Value.okWide P w r b0 t v) (h : DataW.Trod enc P w base spare held t v d p) :
    ∃ x y z : Int, v = .agg #[.int k x, .int k y, .int k z] ∧ (Lit.int k x).wf = true ∧ (Lit.int k y).wf = true ∧ (Lit.int k z).wf = true := by
  obtain ⟨zs, hl, rfl, hw⟩ := open_arr ht he hce hct hv h
  match zs, hl, hw with
  | [x, y, z], _, hw => exact ⟨x, y, z, rfl, hw x (by simp), hw y (by simp), hw z (by simp)⟩
theorem open_arr4 {v : Value} {d : DataW H} {p : List MemPlace} (ht : P.underlying t = some (.array 4 e)) (he : P.underlying e = some (.int k)) (hce : P.cellsOf e = 1) (hct : P.cellsOf t = 4)
    (hv : Value.okWide P w r b0 t v) (h : DataW.Trod enc P w base spare held t v d p) :
    ∃ x y z u : Int, v = .agg #[.int k x, .int k y, .int k z, .int k u] ∧ (Lit.int k x).wf = true ∧ (Lit.int k y).wf = true ∧ (Lit.int k z).wf = true ∧ (Lit.int k u).wf = true := by
  obtain ⟨zs, hl, rfl, hw⟩ := open_arr ht he hce hct hv h
  match zs, hl, hw with
  | [x, y, z, u], _, hw => exact ⟨x, y, z, u, rfl, hw x (by simp), hw y (by simp), hw z (by simp), hw u (by simp)⟩
end
end Go.Proofs.Ytoimpiimlekakaa
