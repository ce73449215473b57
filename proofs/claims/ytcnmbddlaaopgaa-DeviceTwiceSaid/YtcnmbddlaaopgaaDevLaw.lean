/- A list of acts that came in; what awake, few, block and the reference's Same answer. -/
import Derived.Test.YtcnmbddlaaopgaaDevCrash
import Derived.Lib.SmallJoins
import Derived.Deep.Slices
import Derived.Deep.Fields
import Derived.Deep.Grids
namespace Go.Proofs.Ytcnmbddlaaopgaa
open Go.ChangeShapes Go.WideShapes Go.ChangeAt Go.RowKit

/-- an act, as it came in -/
structure OpV where
  kind : Int
  i : Int
  x : Int
  odd : Bool
  ka : Option Addr
  kl : Nat
  kc : Nat
def OpOk (o : OpV) : Prop := I64 o.kind ∧ I64 o.i ∧ (Lit.int .u64 o.x).wf = true ∧ o.kl ≤ maxLen
def opCells (o : OpV) : List Value := [.int .i64 o.kind, .int .i64 o.i, .int .u64 o.x, .bool o.odd, .slice o.ka o.kl o.kc]
/-- A slice value that reads as the acts l; the cells lie below block B. -/
def ReadsO (w : World) (B : Nat) (a : Option Addr) (n : Nat) (l : List OpV) : Prop :=
  l.length = n ∧ (∀ o ∈ l, OpOk o) ∧ (0 < n → ∃ b off, a = some ⟨b, off, none⟩ ∧ b < B ∧ ∀ (i : Nat) (o : OpV), l[i]? = some o → ∀ (j : Nat) (u : Value), (opCells o)[j]? = some u → w.cell? ⟨b, off + i * 5 + j, none⟩ = some u)
theorem ReadsO.keep {w w' : World} {B : Nat} {a : Option Addr} {n : Nat} {l : List OpV} (h : ReadsO w B a n l) (hb : Below B w w') : ReadsO w' B a n l := by
  obtain ⟨hl, hw, hc⟩ := h
  refine ⟨hl, hw, fun hn => ?_⟩
  obtain ⟨b, off, rfl, hbB, hc⟩ := hc hn
  exact ⟨b, off, rfl, hbB, fun i o hi j u hj => (hb.cell (p := ⟨b, off + i * 5 + j, none⟩) hbB).trans (hc i o hi j u hj)⟩
theorem ReadsO.at_ {w : World} {B : Nat} {a : Option Addr} {n : Nat} {l : List OpV} (h : ReadsO w B a n l) {i : Nat} (hi : i < n) :
    ∃ b off o, a = some ⟨b, off, none⟩ ∧ b < B ∧ w.cell? ⟨b, off + i * 5, none⟩ = some (.int .i64 o.kind) ∧ w.cell? ⟨b, off + i * 5 + 1, none⟩ = some (.int .i64 o.i) ∧ w.cell? ⟨b, off + i * 5 + 2, none⟩ = some (.int .u64 o.x) ∧ w.cell? ⟨b, off + i * 5 + 3, none⟩ = some (.bool o.odd) ∧ w.cell? ⟨b, off + i * 5 + 4, none⟩ = some (.slice o.ka o.kl o.kc) ∧ OpOk o ∧ Hid (l[i]? = some o) := by
  obtain ⟨hl, hw, hc⟩ := h
  obtain ⟨b, off, rfl, hb, hc⟩ := hc (by omega)
  have hi' : l[i]? = some (l[i]'(by omega)) := List.getElem?_eq_getElem _
  exact ⟨b, off, _, rfl, hb, hc i _ hi' 0 _ rfl, hc i _ hi' 1 _ rfl, hc i _ hi' 2 _ rfl, hc i _ hi' 3 _ rfl, hc i _ hi' 4 _ rfl, hw _ (List.getElem_mem _), hi'⟩
theorem ReadsO.mono {w : World} {B B' : Nat} {a : Option Addr} {n : Nat} {l : List OpV} (h : ReadsO w B a n l) (hb : B ≤ B') : ReadsO w B' a n l := by
  obtain ⟨hl, hw, hc⟩ := h
  refine ⟨hl, hw, fun hn => ?_⟩
  obtain ⟨b, off, rfl, hbB, hc⟩ := hc hn
  exact ⟨b, off, rfl, by omega, hc⟩

section
variable {H : Type} {enc : TypeId × Value → H} {P : Program} {w : World} {base b0 : Nat} {spare : Nat → Bool} {held : Bool}
open Go.Joins Go.Deep
/-- A slice of bools that came in. -/
theorem open_keep {t e : TypeId} {fuel : Nat} {v : Value} {x : DataW H × List MemPlace} (ht : P.underlying t = some (.slice e)) (he : P.underlying e = some .bool) (hc : P.cellsOf e = 1) (h : DataW.trod enc P w base spare held fuel t [v] = some x) :
    ∃ a len cap l, v = .slice a len cap ∧ ReadsB w w.heap.size a len l ∧ len ≤ maxLen := by
  rcases open_slice1 ht hc h with ⟨h2, _⟩ | ⟨a, len, cap, m, n, V, D, Pl, hcs, _, hl, hm, hmm, _, hx⟩
  · injection h2 with h2; subst h2
    exact ⟨none, 0, 0, [], rfl, ⟨rfl, fun h => absurd h (by omega)⟩, Nat.zero_le _⟩
  · injection hcs with hcs; subst hcs
    have hlm : len ≤ m := by split at hmm <;> omega
    have hb : ∀ i, i < len → ∃ b, w.cell? (a.add i) = some (.bool b) := by
      intro i hi
      obtain ⟨h1, h2⟩ := hx i (by omega)
      obtain ⟨b, hb, _⟩ := DataW.trod_bool he h2
      injection hb with hb
      exact ⟨b, by rw [h1, hb]⟩
    have hspot : 0 < len → a.spot = none := fun hp => by
      obtain ⟨z, hz⟩ := hb 0 hp
      simpa [Addr.add] using World.cell?_spot hz
    obtain ⟨b, off, spot⟩ := a
    have e : ∀ k, spot = none → (⟨b, off, spot⟩ : Addr).add k = ⟨b, off + k, none⟩ := by
      intro k hs; subst hs; unfold Addr.add; split <;> simp_all
    obtain ⟨f, hf⟩ := choose_lt (α := Bool) (p := fun i z => w.cell? ((⟨b, off, spot⟩ : Addr).add i) = some (.bool z)) hb
    refine ⟨_, len, cap, (List.range len).map f, rfl, ⟨by simp, fun hpos => ?_⟩, by omega⟩
    have hs : spot = none := hspot hpos
    subst hs
    refine ⟨b, off, rfl, ?_, fun k hk => ?_⟩
    · have := hf 0 hpos; rw [e _ rfl] at this; exact block_lt_of_cell this
    · have := hf k hk; rw [e _ rfl] at this
      rw [this, List.getD_eq_getElem?_getD, List.getElem?_map, List.getElem?_range hk]; rfl
theorem open_slice_fields {t e : TypeId} {fs : Array Field} {fuel : Nat} {cs : List Value} {x : DataW H × List MemPlace} (ht : P.underlying t = some (.slice e)) (he : P.underlying e = some (.struct fs))
    (hone : oneCellFields P fs = true) (hC : P.cellsOf e = fs.size) (h : DataW.trod enc P w base spare held fuel t cs = some x) :
    (cs = [.slice none 0 0]) ∨
    ∃ (a : Addr) (len cap m : Nat), cs = [.slice (some a) len cap] ∧ len ≤ cap ∧ cap ≤ maxLen ∧ len ≤ m ∧
      ∀ i, i < m → ∀ (j : Nat) (f : Field), fs[j]? = some f → ∃ (v : Value) (n : Nat) (y : DataW H × List MemPlace), w.cell? (a.add (i * fs.size + j)) = some v ∧ DataW.trod enc P w base spare held n f.type [v] = some y := by
  rcases open_slice ht h with h0 | ⟨a, len, cap, m, n, D, Pl, hcs, hb, hl, hm, hmm, hx, hi⟩
  · exact .inl h0.1
  · refine .inr ⟨a, len, cap, m, hcs, hl, hm, by split at hmm <;> omega, fun i him j f hj => ?_⟩
    obtain ⟨cs', hc, ht'⟩ := hi i him
    rw [hC] at hc
    obtain ⟨ys, n', hn', hy, hlen, hyl, hf⟩ := DataW.trod_struct he ht'
    obtain ⟨_, hcl, hat⟩ := World.cells?_some hc
    obtain ⟨ho, hk⟩ := hone_of hone j f hj
    have hjl : j < fs.size := (Array.getElem?_eq_some_iff.1 hj).1
    have hcell := hat j hjl
    have hv : cs'[j]? = some (cs'[j]'(by omega)) := List.getElem?_eq_getElem (by omega)
    have h1 := hf j f hj
    rw [ho, hk] at h1
    have hone' : (cs'.drop j).take 1 = [cs'[j]'(by omega)] := by
      rw [List.drop_eq_getElem_cons (by omega)]
      rfl
    rw [hone'] at h1
    have hys : ys[j]? = some (ys[j]'(by omega)) := List.getElem?_eq_getElem (by omega)
    exact ⟨_, _, _, by rw [← Go.Deep.add_add, hcell, hv], h1.trans hys⟩
/-- what a slice in a field is -/
theorem open_shape {t e : TypeId} {fuel : Nat} {v : Value} {x : DataW H × List MemPlace} (ht : P.underlying t = some (.slice e)) (h : DataW.trod enc P w base spare held fuel t [v] = some x) : ∃ a len cap, v = .slice a len cap ∧ len ≤ maxLen := by
  rcases open_slice ht h with ⟨h2, _⟩ | ⟨a, len, cap, m, n, D, Pl, hcs, _, hl, hm, _⟩
  · injection h2 with h2; subst h2; exact ⟨none, 0, 0, rfl, Nat.zero_le _⟩
  · injection hcs with hcs; subst hcs; exact ⟨_, _, _, rfl, by omega⟩
/-- A slice of acts that came in. -/
theorem open_ops {t e i u bt kt ke : TypeId} {f0 f1 f2 f3 f4 : Field} {fuel : Nat} {v : Value} {x : DataW H × List MemPlace} (ht : P.underlying t = some (.slice e)) (he : P.underlying e = some (.struct #[f0, f1, f2, f3, f4]))
    (hone : oneCellFields P #[f0, f1, f2, f3, f4] = true) (hC : P.cellsOf e = 5) (hi : P.underlying i = some (.int .i64)) (hu : P.underlying u = some (.int .u64)) (hbt : P.underlying bt = some .bool) (hkt : P.underlying kt = some (.slice ke)) (h0 : f0.type = i) (h1 : f1.type = i) (h2 : f2.type = u) (h3 : f3.type = bt) (h4 : f4.type = kt)
    (h : DataW.trod enc P w base spare held fuel t [v] = some x) :
    ∃ a len cap l, v = .slice a len cap ∧ ReadsO w w.heap.size a len l ∧ len ≤ maxLen := by
  rcases open_slice_fields ht he hone hC h with h2 | ⟨a, len, cap, m, hcs, hl, hm, hlm, hf⟩
  · injection h2 with h2; subst h2
    exact ⟨none, 0, 0, [], rfl, ⟨rfl, by simp, fun h => absurd h (by omega)⟩, Nat.zero_le _⟩
  · injection hcs with hcs; subst hcs
    have hex : ∀ k, k < len → ∃ o : OpV, OpOk o ∧ ∀ (j : Nat) (u : Value), (opCells o)[j]? = some u → w.cell? (a.add (k * 5 + j)) = some u := by
      intro k hk
      obtain ⟨c0, n0, y0, e0, t0⟩ := hf k (by omega) 0 f0 rfl
      obtain ⟨c1, n1, y1, e1, t1⟩ := hf k (by omega) 1 f1 rfl
      obtain ⟨c2, n2, y2, e2, t2⟩ := hf k (by omega) 2 f2 rfl
      obtain ⟨c3, n3, y3, e3, t3⟩ := hf k (by omega) 3 f3 rfl
      obtain ⟨c4, n4, y4, e4, t4⟩ := hf k (by omega) 4 f4 rfl
      obtain ⟨z0, q0, _, w0⟩ := DataW.trod_int (h0 ▸ hi) t0
      obtain ⟨z1, q1, _, w1⟩ := DataW.trod_int (h1 ▸ hi) t1
      obtain ⟨z2, q2, _, w2⟩ := DataW.trod_int (h2 ▸ hu) t2
      obtain ⟨z3, q3, _⟩ := DataW.trod_bool (h3 ▸ hbt) t3
      obtain ⟨ka, kl, kc, q4, w4⟩ := open_shape (h4 ▸ hkt) t4
      injection q0 with q0; injection q1 with q1; injection q2 with q2; injection q3 with q3
      subst q0; subst q1; subst q2; subst q3; subst q4
      refine ⟨⟨z0, z1, z2, z3, ka, kl, kc⟩, ⟨w0, w1, w2, w4⟩, fun j u hj => ?_⟩
      match j, hj with
      | 0, hj => simp [opCells] at hj; subst hj; exact e0
      | 1, hj => simp [opCells] at hj; subst hj; exact e1
      | 2, hj => simp [opCells] at hj; subst hj; exact e2
      | 3, hj => simp [opCells] at hj; subst hj; exact e3
      | 4, hj => simp [opCells] at hj; subst hj; exact e4
      | j + 5, hj => simp [opCells] at hj
    obtain ⟨f, hf⟩ : ∃ f : Nat → OpV, ∀ k, k < len → OpOk (f k) ∧ ∀ (j : Nat) (u : Value), (opCells (f k))[j]? = some u → w.cell? (a.add (k * 5 + j)) = some u := by
      have : ∀ k, ∃ o : OpV, k < len → OpOk o ∧ ∀ (j : Nat) (u : Value), (opCells o)[j]? = some u → w.cell? (a.add (k * 5 + j)) = some u := fun k => by
        by_cases hk : k < len
        · obtain ⟨o, ho⟩ := hex k hk; exact ⟨o, fun _ => ho⟩
        · exact ⟨⟨0, 0, 0, false, none, 0, 0⟩, fun h => absurd h hk⟩
      exact ⟨fun k => (this k).choose, fun k => (this k).choose_spec⟩
    have hspot : 0 < len → a.spot = none := fun hp => by
      have := (hf 0 hp).2 0 _ rfl
      simpa [Addr.add] using World.cell?_spot this
    obtain ⟨b, off, spot⟩ := a
    have e : ∀ k j, spot = none → (⟨b, off, spot⟩ : Addr).add (k * 5 + j) = ⟨b, off + k * 5 + j, none⟩ := by
      intro k j hs; subst hs; unfold Addr.add; split <;> simp_all [Nat.add_assoc]
    refine ⟨_, len, cap, (List.range len).map f, rfl, ⟨by simp, ?_, fun hpos => ?_⟩, by omega⟩
    · intro o ho
      obtain ⟨k, hk, rfl⟩ := List.mem_map.1 ho
      exact (hf k (List.mem_range.1 hk)).1
    · have hs : spot = none := hspot hpos
      subst hs
      refine ⟨b, off, rfl, ?_, fun k o hk j u hj => ?_⟩
      · have := (hf 0 hpos).2 0 _ rfl; rw [e _ _ rfl] at this; exact block_lt_of_cell this
      · have hkl : k < len := by
          have := (List.getElem?_eq_some_iff.1 hk).1; simpa using this
        rw [List.getElem?_map, List.getElem?_range hkl] at hk
        injection hk with hk; subst hk
        have := (hf k hkl).2 j u hj
        rw [e _ _ rfl] at this; exact this
/-- An act that came in, by value. -/
theorem open_op {r : Reach} {t i u bt kt ke : TypeId} {f0 f1 f2 f3 f4 : Field} {v : Value} {d : DataW H} {p : List MemPlace} (he : P.underlying t = some (.struct #[f0, f1, f2, f3, f4]))
    (hone : oneCellFields P #[f0, f1, f2, f3, f4] = true) (hC : P.cellsOf t = 5) (hi : P.underlying i = some (.int .i64)) (hu : P.underlying u = some (.int .u64)) (hbt : P.underlying bt = some .bool) (hkt : P.underlying kt = some (.slice ke)) (h0 : f0.type = i) (h1 : f1.type = i) (h2 : f2.type = u) (h3 : f3.type = bt) (h4 : f4.type = kt)
    (hv : Value.okWide P w r b0 t v) (h : DataW.Trod enc P w base spare held t v d p) :
    ∃ (k i x : Int) (b : Bool) (ka : Option Addr) (kl kc : Nat), v = .agg #[.int .i64 k, .int .i64 i, .int .u64 x, .bool b, .slice ka kl kc] ∧ I64 k ∧ I64 i ∧ kl ≤ maxLen := by
  obtain ⟨cs, rfl, hsz⟩ := okWide_struct he hv
  obtain ⟨fuel, hf⟩ := h
  have hcells : (Value.agg cs).cells.toList = cs.toList := by simp [Value.cells]
  rw [hcells] at hf
  obtain ⟨ys, n', hn', hy, hlen, hyl, hf⟩ := DataW.trod_struct he hf
  have hl : cs.toList.length = 5 := by rw [Array.length_toList, hsz, hC]
  obtain ⟨c0, c1, c2, c3, c4, hcs⟩ : ∃ c0 c1 c2 c3 c4, cs.toList = [c0, c1, c2, c3, c4] := by
    match hh : cs.toList, hl with
    | [c0, c1, c2, c3, c4], _ => exact ⟨c0, c1, c2, c3, c4, rfl⟩
  rw [hcs] at hf
  have key : ∀ (j : Nat) (f : Field), #[f0, f1, f2, f3, f4][j]? = some f → ∀ c : Value, [c0, c1, c2, c3, c4][j]? = some c → ∃ y, DataW.trod enc P w base spare held n' f.type [c] = some y := by
    intro j f hj c hc
    obtain ⟨ho, hk⟩ := hone_of hone j f hj
    have h1 := hf j f hj
    rw [ho, hk] at h1
    have hjl : j < [c0, c1, c2, c3, c4].length := (List.getElem?_eq_some_iff.1 hc).1
    have hone' : ([c0, c1, c2, c3, c4].drop j).take 1 = [c] := by
      rw [List.drop_eq_getElem_cons hjl]
      have := (List.getElem?_eq_some_iff.1 hc).2
      rw [this]; rfl
    rw [hone'] at h1
    have hyj : j < ys.length := by simp only [List.length_cons, List.length_nil] at hjl; simp at hyl; omega
    have hys : ys[j]? = some (ys[j]'hyj) := List.getElem?_eq_getElem _
    exact ⟨_, h1.trans hys⟩
  obtain ⟨y0, t0⟩ := key 0 f0 rfl c0 rfl
  obtain ⟨y1, t1⟩ := key 1 f1 rfl c1 rfl
  obtain ⟨y2, t2⟩ := key 2 f2 rfl c2 rfl
  obtain ⟨y3, t3⟩ := key 3 f3 rfl c3 rfl
  obtain ⟨y4, t4⟩ := key 4 f4 rfl c4 rfl
  obtain ⟨z0, q0, _, w0⟩ := DataW.trod_int (h0 ▸ hi) t0
  obtain ⟨z1, q1, _, w1⟩ := DataW.trod_int (h1 ▸ hi) t1
  obtain ⟨z2, q2, _, w2⟩ := DataW.trod_int (h2 ▸ hu) t2
  obtain ⟨z3, q3, _⟩ := DataW.trod_bool (h3 ▸ hbt) t3
  obtain ⟨ka, kl, kc, q4, w4⟩ := open_shape (h4 ▸ hkt) t4
  injection q0 with q0; injection q1 with q1; injection q2 with q2; injection q3 with q3
  subst q0; subst q1; subst q2; subst q3; subst q4
  refine ⟨z0, z1, z2, z3, ka, kl, kc, ?_, w0, w1, w4⟩
  congr 1
  exact Array.toList_inj.1 hcs
end
theorem awake_any (w : World) : Calls Try.prog 8 #[] w fun e w' => e = .returned (.bool true) ∧ Below w.heap.size w w' := by
  have hnew := new_any 8 2 w (by omega) (by omega)
  go_enter Try.func8, Try.ntmps8
  go_wp2_with fail
  refine hnew.mono ?_
  rintro e w1 ⟨p, G, rfl, hd, hG, hb1⟩
  obtain ⟨bl, bf, v, nl, hr, _⟩ := id hd.2
  have hsz := size_any p (fresh 8 2) bl bf v w1 hr
  have hsy := sync_any p (fresh 8 2) 0 G w1 hd (by omega)
  have HS : Hid ((sync (fresh 8 2)).1 = 0) := rfl
  rw [HS.out] at hsy
  have HG := Lib.hid hG
  have HB1 := Lib.hid hb1
  clear hd hG hb1 hr hnew
  go_wp2_with fail
  refine hsz.mono ?_
  rintro e w2 ⟨rfl, rfl⟩
  go_wp2_with fail
  refine hsy.mono ?_
  rintro e w3 ⟨rfl, G', _, hf, _⟩
  have HB3 := Lib.hid (HB1.out.trans (hf.below HB1.out.size HG.out))
  clear hf hsy hsz
  go_wp2
  go_ret
  exact ⟨rfl, HB3.out⟩
/-- the law looks at it -/
def fewOps (l : List OpV) : Bool := decide (l.length ≤ 80) && (l.take 100).all fun o => decide (o.kl ≤ 200)
set_option maxRecDepth 100000 in
theorem few_any (a : Option Addr) (n c : Nat) (l : List OpV) (w : World) {B : Nat} (hl : ReadsO w B a n l) (hn : n ≤ maxLen) :
    Calls Try.prog 9 #[.slice a n c] w fun e w' => ∃ r, e = .returned (.bool r) ∧ w' = w ∧ (r = true → n ≤ 80) := by
  have hn2 : n ≤ 9223372036854775807 := by unfold maxLen at hn; omega
  go_enter Try.func9, Try.ntmps9
  go_wp2
  go_loopw [3] (fun iv wr => ∃ i : Nat, i ≤ n ∧ i ≤ 100 ∧ iv = .int .i64 (i : Int) ∧ wr = w) (fun iv _ => n - (intOf iv).toNat)
  case atStart => exact ⟨0, by omega, by omega, rfl, by trivial⟩
  case round =>
    obtain ⟨i, hi, hi2, rfl, rfl⟩ := hrel
    by_cases hlt : i < n
    · have g0 : decide ((i : Int) < (n : Int)) = true := by simpa using hlt
      by_cases h100 : i < 100
      · have g1 : decide ((i : Int) < 100) = true := by simp; omega
        obtain ⟨b, off, o, rfl, hb, d0, d1, d2, d3, d4, ho, _⟩ := hl.at_ hlt
        have hj0 : (0 : Int) ≤ (i : Int) := by omega
        have hj1 : (i : Int) < (n : Int) := by omega
        by_cases hk : o.kl > 200
        · have g2 : decide ((o.kl : Int) > 200) = true := by simp; omega
          go_wp2
          go_ret
          exact ⟨false, rfl, rfl, fun h => by cases h⟩
        · have g2 : decide ((o.kl : Int) > 200) = false := by simp; omega
          go_wp2
          go_roundw
          case rel => exact ⟨i + 1, by omega, by omega, by go_num, by trivial⟩
          case measure => simp [intOf]; omega
      · have g1 : decide ((i : Int) < 100) = false := by simp; omega
        go_wp2
        go_ret
        exact ⟨_, rfl, rfl, fun h => by have := of_decide_eq_true h; omega⟩
    · have g0 : decide ((i : Int) < (n : Int)) = false := by simpa using hlt
      go_wp2
      go_ret
      exact ⟨_, rfl, rfl, fun h => by have := of_decide_eq_true h; omega⟩
/-- a number of 64 bits is one -/
theorem wrap_nat (z : Int) : ∃ c : Nat, IntKind.u64.wrap z = (c : Int) ∧ (Lit.int .u64 (c : Nat)).wf = true := by
  have h := wf_wrap .u64 z
  have h0 := u64_nonneg _ h
  obtain ⟨c, hc⟩ := Int.eq_ofNat_of_zero_le h0
  exact ⟨c, hc, by rw [← hc]; exact h⟩
set_option maxRecDepth 100000 in
theorem block_any (x : Int) (w : World) :
    Calls Try.prog 21 #[.int .i64 8, .agg #[.int .i64 0, .int .i64 0, .int .u64 x, .bool false, .slice none 0 0]] w fun e w' => ∃ A c l, e = .returned (.slice A 8 c) ∧ l.length = 8 ∧ Reads .u64 w' w'.heap.size A 8 l ∧ Below w.heap.size w w' := by
  obtain ⟨i0, hi0, hz0, hz1, hz2⟩ := info_parts infoU
  go_enter Try.func21, Try.ntmps21
  go_wp2
  go_loopw [5, 6] (fun v iv wr => ∃ (i : Nat) (l : List Nat), i ≤ 8 ∧ iv = .int .i64 (i : Int) ∧ Hid (wr.ownsRow (w.heap.size + 1) 29 1 v i (l.map fun x : Nat => Value.int .u64 x)) ∧ (∀ y ∈ l, (Lit.int .u64 (y : Nat)).wf = true) ∧ Hid (Below (w.heap.size + 1) (w.alloc (.cells #[.int .i64 0, .int .i64 0, .int .u64 x, .bool false, .slice none 0 0] 33)) wr)) (fun _ iv _ => 8 - (intOf iv).toNat)
  case atStart => exact ⟨0, [], by omega, rfl, World.ownsRow_nil _ _ _ _, by simp, Below.refl _ _⟩
  case round =>
    obtain ⟨i, l, hi, rfl, HO, hl, HB⟩ := hrel
    have hrow : Row (w.alloc (.cells #[.int .i64 0, .int .i64 0, .int .u64 x, .bool false, .slice none 0 0] 33)) w.heap.size 33 [.int .i64 0, .int .i64 0, .int .u64 x, .bool false, .slice none 0 0] := heap_alloc_new _ _
    have hrow := hrow.below HB.out (Nat.lt_succ_self _)
    have c2 : wr.cell? ⟨w.heap.size, 2, none⟩ = some (.int .u64 x) := hrow.cell 2
    have c3 : wr.cell? ⟨w.heap.size, 3, none⟩ = some (.bool false) := hrow.cell 3
    have hbw : w.heap.size + 1 ≤ wr.heap.size := by have := HB.out.size; simpa using this
    clear hrow
    by_cases hlt : i < 8
    · obtain ⟨c, hc, hcw⟩ := wrap_nat (x + (i : Int) % 2)
      go_wp2_with (with_reducible refine stopAt 20 ?_)
      unfold Hid
      refine wpList_append_list _ rfl _ _ 36 rfl (w.heap.size + 1) 29 i0 (.int .u64 0) 8 Try.underlying36 hi0 hz0 hz1 hz2 rfl u5 i (l.map fun x : Nat => Value.int .u64 x) rfl (HO.out.alloc _) _ 1 1 [.int .u64 c] rfl rfl (fun _ => ⟨_, rfl, cells1⟩) (by simp; rfl) (by omega) (by omega) (by simp; omega) ?_
      intro v5 w5 hown5 hb5
      have HO5 : Hid (w5.ownsRow (w.heap.size + 1) 29 1 v5 (i + 1) ((l ++ [c]).map fun x : Nat => Value.int .u64 x)) := by unfold Hid; rw [List.map_append]; exact hown5
      have HB5 := Lib.hid (HB.out.trans (((Below.refl _ wr).alloc (by omega) (.cells #[.int .u64 (c : Int)] 29)).trans hb5))
      have hl5 : ∀ y ∈ l ++ [c], (Lit.int .u64 (y : Nat)).wf = true := by
        intro y hy
        rcases List.mem_append.1 hy with hy | hy
        · exact hl y hy
        · rw [List.mem_singleton.1 hy]; exact hcw
      clear hown5 hb5 hc
      go_wp2
      go_roundw
      case rel => exact ⟨i + 1, l ++ [c], by omega, by go_num, HO5.out, hl5, HB5.out⟩
      case measure => simp [intOf]; omega
    · obtain rfl : i = 8 := by omega
      obtain ⟨A, c, rfl, hr, hlen⟩ := own_reads HO.out hl
      have HR := Lib.hid hr
      have HL := Lib.hid hlen
      have HBW := Lib.hid (((Below.refl w.heap.size w).alloc (Nat.le_refl _) (.cells #[.int .i64 0, .int .i64 0, .int .u64 x, .bool false, .slice none 0 0] 33)).trans (HB.out.mono (by omega)))
      clear hr hlen
      go_wp2
      go_ret
      exact ⟨A, c, l, rfl, HL.out, HR.out, HBW.out⟩
set_option maxRecDepth 100000 in
theorem same_any (a1 a2 : Option Addr) (n c1 c2 : Nat) (l : List Nat) (w : World) {B1 B2 : Nat} (h1 : Reads .u64 w B1 a1 n l) (h2 : Reads .u64 w B2 a2 n l) (hn : n ≤ 1000000) :
    Calls Try.prog 22 #[.slice a1 n c1, .slice a2 n c2] w fun e w' => e = .returned (.bool true) ∧ ∃ m, w' = w.drewN m := by
  go_enter Try.func22, Try.ntmps22
  go_wp2
  go_loopw [5] (fun iv wr => ∃ i : Nat, i ≤ n ∧ iv = .int .i64 (i : Int) ∧ ∃ m, wr = w.drewN m) (fun iv _ => n - (intOf iv).toNat)
  case atStart => exact ⟨0, by omega, rfl, 0, rfl⟩
  case round =>
    obtain ⟨i, hi, rfl, m, rfl⟩ := hrel
    by_cases hlt : i < n
    · obtain ⟨b1, o1, x, rfl, hb1, d1, wx, hx⟩ := h1.at_ hlt
      obtain ⟨b2, o2, y, rfl, hb2, d2, wy, hy⟩ := h2.at_ hlt
      obtain rfl : x = y := by rw [hx.out, hy.out]
      have hj0 : (0 : Int) ≤ (i : Int) := by omega
      have hj1 : (i : Int) < (n : Int) := by omega
      have d1' : ∀ q, (w.drewN q).cell? ⟨b1, o1 + i, none⟩ = some (.int .u64 (x : Nat)) := fun _ => d1
      have d2' : ∀ q, (w.drewN q).cell? ⟨b2, o2 + i, none⟩ = some (.int .u64 (x : Nat)) := fun _ => d2
      go_wp2
      go_quiet (fail)
      go_wp2
      go_roundw
      case rel => exact ⟨i + 1, by omega, by go_num, _, rfl⟩
      case measure => simp [intOf]; omega
    · go_wp2
      go_ret
      exact ⟨rfl, m, rfl⟩
end Go.Proofs.Ytcnmbddlaaopgaa
