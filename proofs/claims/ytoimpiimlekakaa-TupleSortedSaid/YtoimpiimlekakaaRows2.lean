/- Cuts, copies, clears and appends in rows whose elements have a size of their own (structs of one-cell fields): as equations of the run, and as steps of the walk. No type of the seat is named here. -/
import Derived.Test.YtoimpiimlekakaaPairs
import Derived.Maps.AppendAt
import Derived.Lib.AppendZerosOnto
import Derived.Lib.Overlaps
import Derived.Deep.RegionLaw
namespace Go.Proofs.Ytoimpiimlekakaa
open Go.ChangeShapes Go.WideShapes Go.ChangeAt Go.RowKit

/-- where 'a[i:]' begins: Go doesn't point behind an array's end -/
def tailA (a : Option Addr) (i cap sz : Nat) : Option Addr := if cap = i then a else a.map (·.add (i * sz))
theorem tailA_lt {g off i cap sz : Nat} (h : i < cap) : tailA (some ⟨g, off, none⟩) i cap sz = some ⟨g, off + i * sz, none⟩ := by
  unfold tailA; rw [if_neg (by omega)]; simp [Addr.add]
section
variable {P : Program} {w : World}
theorem run_tail (w : World) (t e : TypeId) (i0 : TypeInfo) {sz : Nat} (ht : P.underlying t = some (.slice e)) (hi : P.info? e = some i0) (hs : i0.size = sz) (a : Option Addr) (len cap i : Nat) (hil : i ≤ len)
    (kl : IntKind) (I : Int) (hI : I = i) : (Instr.slice t (.slice a len cap) (some (.int kl I)) none none).run P w = .ok (.slice (tailA a i cap sz) (len - i) (cap - i)) w := by
  subst hI
  have he : P.elem t = e := by simp [Program.elem, ht]
  rw [run_slice_l w t a len cap (by rw [he]; exact ht) kl i (by omega) (by omega)]
  simp [he, sizeOf, typeInfo, hi, hs, sliced, tailA]
theorem run_mid (w : World) (t e : TypeId) (i0 : TypeInfo) {sz : Nat} (ht : P.underlying t = some (.slice e)) (hi : P.info? e = some i0) (hs : i0.size = sz) (a : Option Addr) (len cap i j : Nat) (hij : i ≤ j) (hj : j ≤ cap)
    (kl kh : IntKind) (I J : Int) (hI : I = i) (hJ : J = j) : (Instr.slice t (.slice a len cap) (some (.int kl I)) (some (.int kh J)) none).run P w = .ok (.slice (tailA a i cap sz) (j - i) (cap - i)) w := by
  subst hI hJ
  have he : P.elem t = e := by simp [Program.elem, ht]
  rw [run_slice_lh w t a len cap (by rw [he]; exact ht) kl kh i j (by omega) (by omega) (by omega)]
  simp [he, sizeOf, typeInfo, hi, hs, sliced, tailA]

theorem splice_length {α : Type} (L : List α) (off : Nat) (cs : List α) (h : off + cs.length ≤ L.length) : (splice L off cs).length = L.length := length_splice L off cs h
theorem splice_get_out {α : Type} (L : List α) (off : Nat) (cs : List α) (h : off + cs.length ≤ L.length) {k : Nat} (hk : k < off ∨ off + cs.length ≤ k) : (splice L off cs)[k]? = L[k]? := by
  unfold splice
  rcases hk with hk | hk
  · rw [List.getElem?_append_left (by rw [List.length_take]; omega), List.getElem?_take, if_pos hk]
  · rw [List.getElem?_append_right (by rw [List.length_take]; omega), List.getElem?_append_right (by rw [List.length_take]; omega), List.getElem?_drop]
    congr 1; rw [List.length_take]; omega
/-- one behind the other -/
theorem take_splice2 {α : Type} (C X Y : List α) (a b c : Nat) (hb : b = a + X.length) (hc : c = b + Y.length) (h : c ≤ C.length) : (splice (splice C a X) b Y).take c = C.take a ++ X ++ Y := by
  have h1 : (splice C a X).take b = C.take a ++ X := by
    unfold splice
    rw [← List.append_assoc, List.take_append_of_le_length (by simp; omega)]
    exact List.take_of_length_le (by simp; omega)
  unfold splice at h1 ⊢
  rw [h1, ← List.append_assoc, List.take_append_of_le_length (by simp; omega)]
  exact List.take_of_length_le (by simp; omega)
theorem take_splice2r {α : Type} (C X Y : List α) (a b c : Nat) (hb : b = a + X.length) (hc : c = b + Y.length) (h : c ≤ C.length) : (splice (splice C b Y) a X).take c = C.take a ++ X ++ Y := by
  have e : splice (splice C b Y) a X = splice (splice C a X) b Y := by
    apply List.ext_getElem?
    intro k
    have l1 : (splice C a X).length = C.length := length_splice _ _ _ (by omega)
    have l2 : (splice C b Y).length = C.length := length_splice _ _ _ (by omega)
    by_cases hx : a ≤ k ∧ k < a + X.length
    · rw [splice_get_out (splice C a X) b Y (by omega) (by omega)]
      unfold splice
      rw [List.getElem?_append_right (by simp; omega), List.getElem?_append_left (by simp; omega), List.getElem?_append_right (by simp; omega), List.getElem?_append_left (by simp; omega)]
      congr 1
      simp; omega
    · rw [splice_get_out (splice C b Y) a X (by omega) (by omega)]
      by_cases hy : b ≤ k ∧ k < b + Y.length
      · unfold splice
        rw [List.getElem?_append_right (by simp; omega), List.getElem?_append_left (by simp; omega), List.getElem?_append_right (by simp; omega), List.getElem?_append_left (by simp; omega)]
        congr 1
        simp; omega
      · rw [splice_get_out C b Y (by omega) (by omega), splice_get_out (splice C a X) b Y (by omega) (by omega), splice_get_out C a X (by omega) (by omega)]
  rw [e]; exact take_splice2 C X Y a b c hb hc h

theorem Far.setRow (w : World) (g : Nat) (cs : Array Value) : Far (fun k => k = g) w (w.setRow g cs) :=
  ⟨rfl, rfl, rfl, by simp [World.setRow], fun k _ hk => setRow_other w g k cs hk⟩

/-- 'copy(d, s)' into a row: cells of s go over to place off of row g, if any do -/
theorem run_copy_rows (w : World) (dT sT ty e : TypeId) {sz : Nat} (hu : P.underlying dT = some (.slice e)) (hsz : (P.info? e).map (·.size) = some sz) (hsz0 : 0 < sz) (dp sp : Option Addr) (dLen dCap sLen sCap g off : Nat) (cur : List Value) (t : TypeId) (hg : Row w g t cur)
    (cs : List Value) (hn : cs.length = Nat.min sLen dLen * sz) (hpos : 0 < cs.length → dp = some ⟨g, off, none⟩ ∧ ∃ ad, sp = some ad ∧ ∀ j v, cs[j]? = some v → w.cell? (ad.add j) = some v) (hfit : off + cs.length ≤ cur.length) (h1 : ∀ v ∈ cs, v.oneCell' = true) :
    ∃ w', (Builtin.copy_ #[dT, sT] ty #[.slice dp dLen dCap, .slice sp sLen sCap]).run P w = .ok (goInt (Nat.min sLen dLen)) w' ∧ Row w' g t (splice cur off cs) ∧ Far (fun k => k = g) w w' := by
  obtain ⟨i, hi, hs⟩ : ∃ i, P.info? e = some i ∧ i.size = sz := by
    rcases hq : P.info? e with _ | i
    · rw [hq] at hsz; cases hsz
    · rw [hq] at hsz; exact ⟨i, rfl, by simpa using hsz⟩
  by_cases h0 : cs.length = 0
  · obtain rfl : cs = [] := List.eq_nil_of_length_eq_zero h0
    have hmin : Nat.min sLen dLen = 0 := by
      rcases Nat.eq_zero_or_pos (Nat.min sLen dLen) with h | h
      · exact h
      · have := Nat.mul_pos h hsz0; simp at hn; omega
    have hl : ∀ (x : Addr), (loadCells x 0).run P w = .ok #[] w := fun x => by simpa using run_loadCells_list (P := P) w x [] (by simp)
    refine ⟨w, ?_, by simpa [splice] using hg, Far.refl _ _⟩
    rw [hmin]
    cases dp <;> cases sp <;> simp [Builtin.copy_, run_underlying hu, Builtin.lenOf, Builtin.firstCells, sizeOf, typeInfo, hi, hmin, storeCells, hl]
  · obtain ⟨rfl, ad, rfl, hsrc⟩ := hpos (by omega)
    have hf := run_firstCells_some (P := P) w sz (Nat.min sLen dLen) ad sLen sCap cs hn hsrc
    have hst := run_storeCells_at P g off t cs 0 cur.toArray w hg (by simpa using hfit) h1
    refine ⟨w.setRow g (splice cur off cs).toArray, ?_, setRow_heap w g _ _ t _ hg, Far.setRow w g _⟩
    simp only [Nat.add_zero] at hst
    have e2 : splice cur off cs = cur.take off ++ cs ++ cur.drop (off + cs.length) := by unfold splice; rw [List.append_assoc]
    simp [Builtin.copy_, run_underlying hu, Builtin.lenOf, sizeOf, typeInfo, hi, hs, hf, hst, e2]
theorem wpList_copy_rows {ops : Array Oper} {rest : List Oper} {o : Oper} {a : Act} {Q : Exit → Act → World → Prop} (hgd : o.guard = none) (d s : Operand) (dT sT : TypeId)
    (ho : o.op = .call { callee := .builtin .copy, args := #[d, s], argTypes := #[dT, sT] }) (e : TypeId) {sz : Nat} (hu : P.underlying dT = some (.slice e)) (hsz : (P.info? e).map (·.size) = some sz) (hsz0 : 0 < sz)
    (dp sp : Option Addr) (dLen dCap sLen sCap : Nat) (hd : a.eval d = .slice dp dLen dCap) (hs : a.eval s = .slice sp sLen sCap) (g off : Nat) (cur : List Value) (t : TypeId) (hg : Row w g t cur)
    (cs : List Value) (hn : cs.length = Nat.min sLen dLen * sz) (hpos : 0 < cs.length → dp = some ⟨g, off, none⟩ ∧ ∃ ad, sp = some ad ∧ ∀ j v, cs[j]? = some v → w.cell? (ad.add j) = some v) (hfit : off + cs.length ≤ cur.length) (h1 : ∀ v ∈ cs, v.oneCell' = true)
    (h : ∀ w', Hid (Row w' g t (splice cur off cs)) → Hid (Far (fun k => k = g) w w') → wpList P ops Q rest (a.put o.dst (goInt (Nat.min sLen dLen))) w') : wpList P ops Q (o :: rest) a w := by
  obtain ⟨w', hrun, h2, h3⟩ := run_copy_rows w dT sT o.type e hu hsz hsz0 dp sp dLen dCap sLen sCap g off cur t hg cs hn hpos hfit h1
  refine wpList_plain hgd fun K hK => ?_
  unfold Oper.wp
  simp [execOp, ho, resolve, invoke, builtin, hd, hs, hrun, Result.andThen]
  exact hK _ _ (h w' h2 h3)
theorem step_copy_rows {ops : Array Oper} {o : Oper} {a : Act} {K : Act → World → Prop} {Q : Exit → Act → World → Prop} {E : Prop} (hgd : o.guard = none) (d s : Operand) (dT sT : TypeId)
    (ho : o.op = .call { callee := .builtin .copy, args := #[d, s], argTypes := #[dT, sT] }) (e : TypeId) {sz : Nat} (hu : P.underlying dT = some (.slice e)) (hsz : (P.info? e).map (·.size) = some sz) (hsz0 : 0 < sz)
    (dp sp : Option Addr) (dLen dCap sLen sCap : Nat) (hd : a.eval d = .slice dp dLen dCap) (hs : a.eval s = .slice sp sLen sCap) (g off : Nat) (cur : List Value) (t : TypeId) (hg : Row w g t cur)
    (cs : List Value) (hn : cs.length = Nat.min sLen dLen * sz) (hpos : 0 < cs.length → dp = some ⟨g, off, none⟩ ∧ ∃ ad, sp = some ad ∧ ∀ j v, cs[j]? = some v → w.cell? (ad.add j) = some v) (hfit : off + cs.length ≤ cur.length) (h1 : ∀ v ∈ cs, v.oneCell' = true)
    (h : ∀ w', Hid (Row w' g t (splice cur off cs)) → Hid (Far (fun k => k = g) w w') → K (a.put o.dst (goInt (Nat.min sLen dLen))) w') : if Region.wanted o (yielded ops a.tmps) = true then Oper.wp P o a w K Q else E := by
  have hw : Region.wanted o (yielded ops a.tmps) = true := by simp [Region.wanted, hgd]
  rw [if_pos hw]
  obtain ⟨w', hrun, h2, h3⟩ := run_copy_rows w dT sT o.type e hu hsz hsz0 dp sp dLen dCap sLen sCap g off cur t hg cs hn hpos hfit h1
  unfold Oper.wp
  simp [execOp, ho, resolve, invoke, builtin, hd, hs, hrun, Result.andThen]
  exact h w' h2 h3

theorem zeroCells_one {z : Array Value} (h : ∀ v ∈ z.toList, v.oneCell' = true) (n : Nat) : ∀ v ∈ (Builtin.zeroCells z n).toList, v.oneCell' = true := by
  intro v hv
  simp only [Builtin.zeroCells, Array.toList_map, List.mem_map, Array.mem_toList_iff] at hv
  obtain ⟨i, hi, rfl⟩ := hv
  have hi : i < n * z.size := by simpa using hi
  have hz : 0 < z.size := by
    rcases Nat.eq_zero_or_pos z.size with h0 | h0
    · rw [h0, Nat.mul_zero] at hi; omega
    · exact h0
  have hm := Nat.mod_lt i hz
  rw [getElem!_pos z _ hm]
  exact h _ (by simp)
/-- 'clear(s[off:])' of a row: what stands ahead of that stays -/
theorem run_clear_rows (w : World) (t e ty : TypeId) (z : Value) {sz : Nat} (ht : P.underlying t = some (.slice e)) (hv : ∀ w, (zeroValue e).run P w = .ok z w) (hz : z.cells.size = sz) (h1 : ∀ v ∈ z.cells.toList, v.oneCell' = true)
    (A : Option Addr) (n c g off : Nat) (cur : List Value) (tt : TypeId) (hg : Row w g tt cur) (hpos : 0 < n → A = some ⟨g, off, none⟩) (hfit : off + n * sz ≤ cur.length) :
    ∃ w' cur', (Builtin.clear_ #[t] ty #[.slice A n c]).run P w = .ok (.tuple #[]) w' ∧ Row w' g tt cur' ∧ cur'.length = cur.length ∧ cur'.take off = cur.take off ∧ Far (fun k => k = g) w w' := by
  cases n with
  | zero =>
    refine ⟨w, cur, ?_, hg, rfl, rfl, Far.refl _ _⟩
    cases A <;> simp [Builtin.clear_, run_underlying ht]
  | succ m =>
    obtain rfl := hpos (by omega)
    have hlen : (Builtin.zeroCells z.cells (m + 1)).toList.length = (m + 1) * sz := by simp [Builtin.zeroCells, hz]
    have hst := run_storeCells_at P g off tt (Builtin.zeroCells z.cells (m + 1)).toList 0 cur.toArray w hg (by rw [hlen]; simpa using hfit) (zeroCells_one h1 _)
    simp only [Nat.add_zero] at hst
    refine ⟨_, cur.take off ++ (Builtin.zeroCells z.cells (m + 1)).toList ++ cur.drop (off + (Builtin.zeroCells z.cells (m + 1)).toList.length), ?_, setRow_heap w g cur.toArray _ tt (0, 0) hg, ?_, ?_, Far.setRow w g _⟩
    · simp [Builtin.clear_, run_underlying ht, hv, hst]
    · simp [hlen]; omega
    · rw [List.append_assoc, List.take_append_of_le_length (by rw [List.length_take]; omega)]
      rw [List.take_take, Nat.min_self]
end
theorem wpList_clear_rows {P : Program} {w : World} {ops : Array Oper} {rest : List Oper} {o : Oper} {a : Act} {Q : Exit → Act → World → Prop} (hgd : o.guard = none) (s : Operand) (t : TypeId)
    (ho : o.op = .call { callee := .builtin .clear, args := #[s], argTypes := #[t] }) (e : TypeId) (z : Value) {sz : Nat} (ht : P.underlying t = some (.slice e)) (hv : ∀ w, (zeroValue e).run P w = .ok z w) (hz : z.cells.size = sz) (h1 : ∀ v ∈ z.cells.toList, v.oneCell' = true)
    (A : Option Addr) (n c : Nat) (hs : a.eval s = .slice A n c) (g off : Nat) (cur : List Value) (tt : TypeId) (hg : Row w g tt cur) (hpos : 0 < n → A = some ⟨g, off, none⟩) (hfit : off + n * sz ≤ cur.length)
    (h : ∀ w' cur', Row w' g tt cur' → cur'.length = cur.length → cur'.take off = cur.take off → Far (fun k => k = g) w w' → wpList P ops Q rest (a.put o.dst (.tuple #[])) w') : wpList P ops Q (o :: rest) a w := by
  obtain ⟨w', cur', hrun, h2, h3, h4, h5⟩ := run_clear_rows w t e o.type z ht hv hz h1 A n c g off cur tt hg hpos hfit
  refine wpList_plain hgd fun K hK => ?_
  unfold Oper.wp
  simp [execOp, ho, resolve, invoke, builtin, hs, hrun, Result.andThen]
  exact hK _ _ (h w' cur' h2 h3 h4 h5)
/-- the walk stops ahead of a 'clear' -/
theorem stopClear {P : Program} {ops : Array Oper} {Q : Exit → Act → World → Prop} {rest : List Oper} {a : Act} {w : World} {s : Operand} {ts : Array TypeId} {ty : TypeId} {pos : String} {after : Array Edge} {guard : Option (Nat × Bool)}
    (h : Hid (wpList P ops Q (⟨none, .call { callee := .builtin .clear, args := #[s], argTypes := ts }, ty, pos, after, guard⟩ :: rest) a w)) : wpList P ops Q (⟨none, .call { callee := .builtin .clear, args := #[s], argTypes := ts }, ty, pos, after, guard⟩ :: rest) a w := h

/-- 'append(s, x...)' where there is room, s at the head of row g -/
theorem wpList_append_row_room {P : Program} {w : World} {ops : Array Oper} {rest : List Oper} {o : Oper} {a : Act} {Q : Exit → Act → World → Prop} (hgd : o.guard = none) (s x : Operand) (t : TypeId)
    (ho : o.op = .call { callee := .builtin .append, args := #[s, x], argTypes := #[t, t] }) (e : TypeId) (i : TypeInfo) {sz : Nat} (ht : P.underlying t = some (.slice e)) (hi : P.info? e = some i) (hsz : i.size = sz)
    (g k cap : Nat) (hs : a.eval s = .slice (some ⟨g, 0, none⟩) k cap) (cur : List Value) (hg : Row w g e cur) (A : Option Addr) (m c : Nat) (hx : a.eval x = .slice A m c) (cs : List Value) (hl : cs.length = m * sz)
    (hsrc : 0 < m → ∃ ad, A = some ad ∧ ∀ j v, cs[j]? = some v → w.cell? (ad.add j) = some v) (h1 : ∀ v ∈ cs, v.oneCell' = true) (hroom : k + m ≤ cap) (hfit : k * sz + cs.length ≤ cur.length)
    (h : ∀ w', Hid (Row w' g e (splice cur (k * sz) cs)) → Hid (Far (fun b => b = g) w w') → wpList P ops Q rest (a.put o.dst (.slice (some ⟨g, 0, none⟩) (k + m) cap)) w') : wpList P ops Q (o :: rest) a w := by
  subst hsz
  rcases Nat.eq_zero_or_pos m with h0 | h0
  · subst h0
    obtain rfl : cs = [] := List.eq_nil_of_length_eq_zero (by simpa using hl)
    have hld : ∀ ad : Addr, (loadCells ad 0).run P w = .ok #[] w := fun ad => by simpa using run_loadCells_list (P := P) w ad [] (by simp)
    have hkc : k ≤ cap := by omega
    have hrun : (Builtin.append_ #[t, t] o.type #[.slice (some ⟨g, 0, none⟩) k cap, .slice A 0 c]).run P w = .ok (.slice (some ⟨g, 0, none⟩) k cap) w := by
      cases A <;> simp [Builtin.append_, run_underlying ht, sizeOf, typeInfo, hi, Builtin.lenOf, Builtin.firstCells, hkc, storeCells, hld]
    refine wpList_plain hgd fun K hK => ?_
    unfold Oper.wp
    simp [execOp, ho, resolve, invoke, builtin, hs, hx, hrun, Result.andThen]
    exact hK _ _ (h w (by simpa [splice, Hid] using hg) (Far.refl _ _))
  · obtain ⟨ad, rfl, hsrc1⟩ := hsrc h0
    have hrun := run_append_room (P := P) w t o.type e i ht hi g k cap cur.toArray hg ad m c cs hl hsrc1 h1 hroom (by simpa using hfit)
    refine wpList_plain hgd fun K hK => ?_
    unfold Oper.wp
    simp only [execOp, ho, resolve, invoke, builtin, hs, hx, hrun, Result.andThen, Sem.run_bind, Sem.run_pure, List.map_toArray, List.map_cons, List.map_nil]
    refine hK _ _ (h _ ?_ (Far.setRow w g _))
    have e2 : splice cur (k * i.size) cs = cur.take (k * i.size) ++ cs ++ cur.drop (k * i.size + cs.length) := by unfold splice; rw [List.append_assoc]
    rw [e2]
    exact setRow_heap w g _ _ e _ hg
/-- 'append(s, make([]T, k)...)' where there is no room: a new row -/
theorem wpList_append_zeros_grow {P : Program} {w : World} {ops : Array Oper} {rest : List Oper} {o : Oper} {a : Act} {Q : Exit → Act → World → Prop} (hgd : o.guard = none) (s x : Operand) (t tn : TypeId)
    (ho : o.op = .call { callee := .builtin .append, args := #[s, x], argTypes := #[t, tn] }) (e : TypeId) (i : TypeInfo) (z : Value) {sz bytes : Nat} (kn kq : IntKind) (ht : P.underlying t = some (.slice e)) (htn : P.underlying tn = some (.int kn)) (hi : P.info? e = some i) (hz : i.zero = some z)
    (hsz : i.size = sz) (hsz0 : 0 < sz) (hby : i.bytes = bytes) (hzs : z.cells.size = sz) (A : Option Addr) (k cap : Nat) (hs : a.eval s = .slice A k cap) (olds : List Value) (hl : olds.length = k * sz) (hA : A = none → k = 0)
    (hold : ∀ ad, A = some ad → ∀ j v, olds[j]? = some v → w.cell? (ad.add j) = some v) (m : Nat) (I : Int) (hx : a.eval x = .int kq I) (hI : I = (m : Nat)) (hm : 0 < m) (hroom : cap < k + m) (h63 : k + m ≤ maxLen) (hbytes : (k + m) * bytes ≤ 140737488355328)
    (h : ∀ w' C cur, k + m ≤ C → C ≤ maxLen → cur.length = C * sz → cur.take (k * sz) = olds → Row w' w.heap.size e cur → w'.heap.size = w.heap.size + 1 → Below w.heap.size w w' → wpList P ops Q rest (a.put o.dst (.slice (some ⟨w.heap.size, 0, none⟩) (k + m) C)) w') : wpList P ops Q (o :: rest) a w := by
  subst hsz; subst hby; subst hI
  have hf : (Builtin.firstCells i.size k (.slice A k cap)).run P w.drew = .ok olds.toArray w.drew := by
    cases A with
    | none =>
      obtain rfl := hA rfl
      obtain rfl : olds = [] := List.eq_nil_of_length_eq_zero (by simpa using hl)
      simp [Builtin.firstCells]
    | some ad => exact run_firstCells_some (P := P) w.drew i.size k ad k cap olds hl (hold ad rfl)
  have hb2 : m * i.bytes ≤ 281474976710656 := by
    have := Nat.mul_le_mul_right i.bytes (show m ≤ k + m by omega); omega
  have hrun := Lib.run_append_grow_zeros (P := P) w t tn o.type e i z kq kn ht htn hi hz A k cap olds hf m hm hsz0 hroom (by unfold maxLen at h63; omega) hb2 (growslice_fits (by omega) hbytes)
  have hge := grownCap_ge w (k + m) cap e
  have hle := grownCap_le_maxLen w (k + m) cap e h63
  generalize hC : grownCap w (k + m) cap e = C at hrun hge hle
  refine wpList_plain hgd fun K hK => ?_
  unfold Oper.wp
  simp only [execOp, ho, resolve, invoke, builtin, hs, hx, hrun, Result.andThen, Sem.run_bind, Sem.run_pure, List.map_toArray, List.map_cons, List.map_nil]
  refine hK _ _ (h _ C (olds ++ (Builtin.zeroCells z.cells m).toList ++ (Builtin.zeroCells z.cells (C - (k + m))).toList) hge hle ?_ ?_ ?_ ?_ ?_)
  · simp only [List.length_append, Array.length_toList, size_zeroCells, hl, hzs, ← Nat.add_mul]
    congr 1; omega
  · rw [List.append_assoc, ← hl]; exact List.take_left
  · unfold Row
    rw [show (olds ++ (Builtin.zeroCells z.cells m).toList ++ (Builtin.zeroCells z.cells (C - (k + m))).toList).toArray = olds.toArray ++ Builtin.zeroCells z.cells m ++ Builtin.zeroCells z.cells (C - (k + m)) by apply Array.ext'; simp]
    exact heap_alloc_new w.drew _
  · simp
  · exact ⟨rfl, rfl, rfl, by simp, fun k hk => Below.heap_alloc w.drew _ k hk⟩
/-- an append onto an own row: what was owned is owned still, as it was -/
theorem run_append_keep {P : Program} (w : World) (base : Nat) (t ty e : TypeId) (i : TypeInfo) (z : Value) (size bytes : Nat) (ht : P.underlying t = some (.slice e)) (hi : P.info? e = some i) (hz : i.zero = some z)
    (hsize : i.size = size) (hby : i.bytes = bytes) (hzs : z.cells.size = size) (hsz : 0 < size) (v : Value) (n : Nat) (xs : List Value) (hown : w.ownsRow base e size v n xs)
    (a : Addr) (m c : Nat) (news : List Value) (hl : news.length = m * size) (hnews : ∀ j u, news[j]? = some u → w.cell? (a.add j) = some u) (h1 : ∀ u ∈ news, u.oneCell' = true)
    (h63 : n + m ≤ maxLen) (hbytes : (n + m) * bytes ≤ 140737488355328) (hbase : base ≤ w.heap.size) :
    ∃ v' w', (Builtin.append_ #[t, t] ty #[v, .slice (some a) m c]).run P w = .ok v' w' ∧ w'.ownsRow base e size v' (n + m) (xs ++ news) ∧ w.grownBy w' v.ownBlock ∧ w'.ownsRow base e size v n xs := by
  obtain ⟨v', w', hr, h2, h3, _, _⟩ := run_append_own_at (P := P) w base t ty e i z size bytes ht hi hz hsize hby hzs hsz v n xs hown a m c news hl hnews h1 h63 hbytes hbase
  refine ⟨v', w', hr, h2, h3, ?_⟩
  subst hsize; subst hby
  have hown' := hown
  obtain ⟨k1, k2⟩ := hown
  rcases k2 with ⟨rfl, rfl⟩ | ⟨g, cap, cur, rfl, hbg, hg, hnc, hcm, hcs, htake⟩
  · exact ⟨k1, .inl ⟨rfl, rfl⟩⟩
  · by_cases hroom : n + m ≤ cap
    · have hfit : n * i.size + news.length ≤ cur.size := by rw [hl, hcs, ← Nat.add_mul]; exact Nat.mul_le_mul_right _ hroom
      have hr2 := run_append_room (P := P) w t ty e i ht hi g n cap cur hg a m c news hl hnews h1 hroom hfit
      rw [hr] at hr2; injection hr2 with _ hr2; subst hr2
      refine ⟨k1, .inr ⟨g, cap, _, rfl, hbg, setRow_heap w g cur _ e _ hg, hnc, hcm, ?_, ?_⟩⟩
      · simp only [List.size_toArray, List.length_append, List.length_take, List.length_drop, Array.length_toList]
        omega
      · rw [htake, List.append_assoc]
        exact List.take_append_of_le_length (by omega) |>.trans (List.take_of_length_le (by omega))
    · refine hown'.kept (row := none) ⟨h3.os, h3.tape, h3.output, h3.size, fun k hk _ => ?_⟩ (.inr (by simp [Value.ownBlock]))
      have holds : ∀ j u, xs[j]? = some u → w.cell? ((⟨g, 0, none⟩ : Addr).add j) = some u := hown'.cells (g := g) rfl
      have hsmall : n + m ≤ 9223372036854775807 := by simp only [maxLen] at h63; omega
      have hr2 := run_append_grow (P := P) w t ty e i z ht hi hz ⟨g, 0, none⟩ n cap xs k1 holds a m c news hl hnews (by omega) (by omega) (growslice_fits (by omega) hbytes)
      rw [hr] at hr2; injection hr2 with _ hr2; subst hr2
      exact Below.heap_alloc w.drew _ k hk
theorem step_append_keep {P : Program} {w : World} {ops : Array Oper} {o : Oper} {a : Act} {K : Act → World → Prop} {Q : Exit → Act → World → Prop} {E : Prop} (hgd : o.guard = none) (s x : Operand) (t : TypeId)
    (ho : o.op = .call { callee := .builtin .append, args := #[s, x], argTypes := #[t, t] }) (base : Nat) (e : TypeId) (i : TypeInfo) (z : Value) (size bytes : Nat) (ht : P.underlying t = some (.slice e)) (hi : P.info? e = some i) (hz : i.zero = some z)
    (hsize : i.size = size) (hby : i.bytes = bytes) (hzs : z.cells.size = size) (hsz : 0 < size) (v : Value) (n : Nat) (xs : List Value) (hs : a.eval s = v) (hown : w.ownsRow base e size v n xs)
    (ad : Addr) (m c : Nat) (news : List Value) (hx : a.eval x = .slice (some ad) m c) (hl : news.length = m * size) (hnews : ∀ j u, news[j]? = some u → w.cell? (ad.add j) = some u) (h1 : ∀ u ∈ news, u.oneCell' = true)
    (h63 : n + m ≤ maxLen) (hbytes : (n + m) * bytes ≤ 140737488355328) (hbase : base ≤ w.heap.size)
    (h : ∀ v' w', Hid (w'.ownsRow base e size v' (n + m) (xs ++ news)) → w.grownBy w' v.ownBlock → w'.ownsRow base e size v n xs → K (a.put o.dst v') w') : if Region.wanted o (yielded ops a.tmps) = true then Oper.wp P o a w K Q else E := by
  have hw : Region.wanted o (yielded ops a.tmps) = true := by simp [Region.wanted, hgd]
  rw [if_pos hw]
  obtain ⟨v', w', hrun, h2, h3, h4⟩ := run_append_keep w base t o.type e i z size bytes ht hi hz hsize hby hzs hsz v n xs hown ad m c news hl hnews h1 h63 hbytes hbase
  unfold Oper.wp
  simp [execOp, ho, resolve, invoke, builtin, hs, hx, hrun, Result.andThen]
  exact h v' w' h2 h3 h4
end Go.Proofs.Ytoimpiimlekakaa
