/- FilePlays: acts that came in, whatever act, the state at the start. -/
import Derived.Test.YtbkgpilmgllkiaaFilePlayT
import Derived.Test.YtbkgpilmgllkiaaFilePlayJ
import Derived.Test.YtbkgpilmgllkiaaFilePlayI
import Derived.Test.YtbkgpilmgllkiaaFilePlayK
import Derived.Test.YtbkgpilmgllkiaaFilePlayL
namespace Go.Proofs.Ytbkgpilmgllkiaa
open Go.ChangeShapes Go.WideShapes Go.ChangeAt Go.RowKit

/-- an act -/
structure Opx where
  z : Int
  k : Int
  wd : Int
  bd : Int
  t : Tup
def opC (o : Opx) : List Value := [.int .i64 o.z, .int .i64 o.k, .int .i64 o.wd, .int .i64 o.bd, .int .i64 o.t.a, .int .i64 o.t.b, .int .i64 o.t.c, .int .i64 o.t.d, .int .i64 o.t.e]
def OpxOk (o : Opx) : Prop := I64 o.z ∧ I64 o.k ∧ TupOk o.t
def opx0 : Opx := ⟨0, 0, 0, 0, tup0⟩
/-- A slice of acts. -/
def ReadsO (w : World) (B : Nat) (a : Option Addr) (n : Nat) (l : List Opx) : Prop :=
  l.length = n ∧ (∀ e ∈ l, OpxOk e) ∧ (0 < n → ∃ b off, a = some ⟨b, off, none⟩ ∧ b < B ∧ ∀ (i : Nat), i < n → ∀ (j : Nat) (u : Value), (opC (l.getD i opx0))[j]? = some u → w.cell? ⟨b, off + i * 9 + j, none⟩ = some u)
theorem ReadsO.nil (w : World) (B : Nat) : ReadsO w B none 0 [] := ⟨rfl, (fun e h => by cases h), fun h => absurd h (by omega)⟩
section
variable {w w' : World} {B : Nat} {a : Option Addr} {n : Nat} {l : List Opx}
theorem ReadsO.keep (h : ReadsO w B a n l) (hb : Below B w w') : ReadsO w' B a n l := by
  obtain ⟨hl, hw, hc⟩ := h
  refine ⟨hl, hw, fun hn => ?_⟩
  obtain ⟨b, off, hA, hbB, hc⟩ := hc hn
  refine ⟨b, off, hA, hbB, fun i hi j u hj => ?_⟩
  exact (hb.cell (p := ⟨b, _, none⟩) hbB).trans (hc i hi j u hj)
theorem ReadsO.at_ (h : ReadsO w B a n l) {i : Nat} (hi : i < n) : ∃ b off o, a = some ⟨b, off, none⟩ ∧ b < B ∧ OpxOk o ∧ (∀ (j : Nat) (u : Value), (opC o)[j]? = some u → w.cell? ⟨b, off + i * 9 + j, none⟩ = some u) := by
  obtain ⟨hl, hw, hc⟩ := h
  obtain ⟨b, off, rfl, hb, hc⟩ := hc (by omega)
  refine ⟨b, off, l.getD i opx0, rfl, hb, hw _ ?_, hc i hi⟩
  rw [List.getD_eq_getElem?_getD, List.getElem?_eq_getElem (show i < l.length by omega)]; exact List.getElem_mem _
end
section
variable {H : Type} {enc : TypeId × Value → H} {P : Program} {w : World} {base b0 : Nat} {spare : Nat → Bool} {held : Bool} {r : Reach}
open Go.Joins Go.Deep
/-- an act's cells that came in -/
theorem opx_cells {t i T e : TypeId} {f0 f1 f2 f3 f4 : Field} {fuel : Nat} {cs : List Value} {x : DataW H × List MemPlace} (ht : P.underlying t = some (.struct #[f0, f1, f2, f3, f4])) (hC : P.cellsOf t = 9) (hi : P.underlying i = some (.int .i64)) (hci : P.cellsOf i = 1) (hT : P.underlying T = some (.array 5 e)) (he : P.underlying e = some (.int .i64)) (hce : P.cellsOf e = 1) (hcT : P.cellsOf T = 5)
    (h0 : f0.type = i ∧ f0.offset = 0) (h1 : f1.type = i ∧ f1.offset = 1) (h2 : f2.type = i ∧ f2.offset = 2) (h3 : f3.type = i ∧ f3.offset = 3) (h4 : f4.type = T ∧ f4.offset = 4)
    (h : DataW.trod enc P w base spare held fuel t cs = some x) : ∃ o : Opx, cs = opC o ∧ OpxOk o := by
  obtain ⟨ys, n', hn', _, hlen, hyl, hf⟩ := DataW.trod_struct ht h
  rw [hC] at hlen
  have hyl : ys.length = 5 := by simpa using hyl
  have key : ∀ (j : Nat) (f : Field), #[f0, f1, f2, f3, f4][j]? = some f → j < 5 → ∃ y, DataW.trod enc P w base spare held n' f.type ((cs.drop f.offset).take (P.cellsOf f.type)) = some y := fun j f hj hj5 =>
    ⟨_, (hf j f hj).trans (List.getElem?_eq_getElem (show j < ys.length by omega))⟩
  clear hf h
  match cs, hlen with
  | [c0, c1, c2, c3, c4, c5, c6, c7, c8], _ =>
    obtain ⟨y0, t0⟩ := key 0 f0 rfl (by omega)
    obtain ⟨y1, t1⟩ := key 1 f1 rfl (by omega)
    obtain ⟨y2, t2⟩ := key 2 f2 rfl (by omega)
    obtain ⟨y3, t3⟩ := key 3 f3 rfl (by omega)
    obtain ⟨y4, t4⟩ := key 4 f4 rfl (by omega)
    rw [h0.1, h0.2, hci] at t0
    rw [h1.1, h1.2, hci] at t1
    rw [h2.1, h2.2, hci] at t2
    rw [h3.1, h3.2, hci] at t3
    rw [h4.1, h4.2, hcT] at t4
    obtain ⟨z0, q0, _, w0⟩ := DataW.trod_int hi t0
    obtain ⟨z1, q1, _, w1⟩ := DataW.trod_int hi t1
    obtain ⟨z2, q2, _, w2⟩ := DataW.trod_int hi t2
    obtain ⟨z3, q3, _, w3⟩ := DataW.trod_int hi t3
    obtain ⟨u, q4, w4⟩ := tup_cells hT he hce hcT t4
    have q0 : [c0] = [Value.int .i64 z0] := q0
    have q1 : [c1] = [Value.int .i64 z1] := q1
    have q2 : [c2] = [Value.int .i64 z2] := q2
    have q3 : [c3] = [Value.int .i64 z3] := q3
    have q4 : [c4, c5, c6, c7, c8] = tupC u := q4
    injection q0 with q0; injection q1 with q1; injection q2 with q2; injection q3 with q3
    refine ⟨⟨z0, z1, z2, z3, u⟩, ?_, w0, w1, w4⟩
    rw [q0, q1, q2, q3, q4]; rfl
/-- A slice of acts that came in. -/
theorem open_opxs {t e : TypeId} {fuel : Nat} {v : Value} {x : DataW H × List MemPlace} (ht : P.underlying t = some (.slice e)) (hC : P.cellsOf e = 9) (hcell : ∀ (n : Nat) (cs : List Value) (x : DataW H × List MemPlace), DataW.trod enc P w base spare held n e cs = some x → ∃ o : Opx, cs = opC o ∧ OpxOk o)
    (h : DataW.trod enc P w base spare held fuel t [v] = some x) : ∃ a len cap l, v = .slice a len cap ∧ ReadsO w w.heap.size a len l ∧ len ≤ maxLen := by
  rcases open_slice ht h with h0 | ⟨a, len, cap, m, n, D, Pl, hcs, hb, hl, hm, hmm, hx, hit⟩
  · have h2 := h0.1
    injection h2 with h2; subst h2
    exact ⟨none, 0, 0, [], rfl, ReadsO.nil _ _, Nat.zero_le _⟩
  · injection hcs with hcs; subst hcs
    have hlm : len ≤ m := by split at hmm <;> omega
    have hex : ∀ k, k < len → ∃ o : Opx, OpxOk o ∧ ∀ (j : Nat) (u : Value), (opC o)[j]? = some u → w.cell? (a.add (k * 9 + j)) = some u := by
      intro k hk
      obtain ⟨cs', hc, ht'⟩ := hit k (by omega)
      rw [hC] at hc
      obtain ⟨o, rfl, ho⟩ := hcell _ _ _ ht'
      obtain ⟨_, hcl, hat⟩ := World.cells?_some hc
      refine ⟨o, ho, fun j u hj => ?_⟩
      have hj9 : j < 9 := (List.getElem?_eq_some_iff.1 hj).1
      rw [← Go.Deep.add_add, hat j hj9, hj]
    obtain ⟨f, hf⟩ : ∃ f : Nat → Opx, ∀ k, k < len → OpxOk (f k) ∧ ∀ (j : Nat) (u : Value), (opC (f k))[j]? = some u → w.cell? (a.add (k * 9 + j)) = some u := by
      have : ∀ k, ∃ o : Opx, k < len → OpxOk o ∧ ∀ (j : Nat) (u : Value), (opC o)[j]? = some u → w.cell? (a.add (k * 9 + j)) = some u := fun k => by
        by_cases hk : k < len
        · obtain ⟨o, ho⟩ := hex k hk; exact ⟨o, fun _ => ho⟩
        · exact ⟨opx0, fun h => absurd h hk⟩
      exact ⟨fun k => (this k).choose, fun k => (this k).choose_spec⟩
    have hspot : 0 < len → a.spot = none := fun hp => by
      have := (hf 0 hp).2 0 _ rfl
      simpa [Addr.add] using World.cell?_spot this
    obtain ⟨b, off, spot⟩ := a
    have e : ∀ k j, spot = none → (⟨b, off, spot⟩ : Addr).add (k * 9 + j) = ⟨b, off + k * 9 + j, none⟩ := by
      intro k j hs; subst hs; unfold Addr.add; split <;> simp_all [Nat.add_assoc]
    refine ⟨_, len, cap, (List.range len).map f, rfl, ⟨by simp, ?_, fun hpos => ?_⟩, by omega⟩
    · intro o ho
      obtain ⟨k, hk, rfl⟩ := List.mem_map.1 ho
      exact (hf k (List.mem_range.1 hk)).1
    · have hs : spot = none := hspot hpos
      subst hs
      refine ⟨b, off, rfl, ?_, fun k hkl j u hj => ?_⟩
      · have := (hf 0 hpos).2 0 _ rfl; rw [e _ _ rfl] at this; exact block_lt_of_cell this
      · have hD : ((List.range len).map f).getD k opx0 = f k := by
          rw [List.getD_eq_getElem?_getD, List.getElem?_map, List.getElem?_range hkl]; rfl
        rw [hD] at hj
        have := (hf k hkl).2 j u hj
        rw [e _ _ rfl] at this; exact this
end
section
variable {w0 W W' : World} {G G' : Nat → Prop} {p : Wp} {F : Fs} {sb n sz : Nat} {bl : Int} {ws : List Pw} {fs : List Pf} {rs : List Pr}
theorem stwrite_any (h : Play w0 p sb n sz bl ws fs rs W) (z k wd bd a b c d e0 : Int) (hk : I64 k) (hto : TupOk ⟨a, b, c, d, e0⟩) (hn : ws.length ≤ 1000) (hn2 : fs.length ≤ 1000) (hnn : n < 1000000) (hsz : 8 ≤ sz ∧ sz ≤ 256) :
    Calls Try.prog 23 #[.pointer (some ⟨sb, 0, none⟩), .agg #[.int .i64 z, .int .i64 k, .int .i64 wd, .int .i64 bd, .int .i64 a, .int .i64 b, .int .i64 c, .int .i64 d, .int .i64 e0], .int .i64 sz] W fun e w' => e = .returned (.bool true) ∧ After w0 p sb n sz bl ws fs rs w' := by
  by_cases h1 : z = 1
  · subst h1; exact stwrite_1 h k wd bd a b c d e0 hn hsz
  by_cases h2 : z = 2
  · subst h2; exact stwrite_2 h k wd bd a b c d e0 hk hto hn hnn
  by_cases h3 : z = 3
  · subst h3; exact stwrite_3 h k wd bd a b c d e0 hk hn hn2 hnn hsz
  by_cases h4 : z = 4
  · subst h4; exact stwrite_4 h k wd bd a b c d e0 hk hn
  exact stwrite_none h z k wd bd a b c d e0 ⟨h1, h2, h3, h4⟩
theorem stread_any (h : Play w0 p sb n sz bl ws fs rs W) (z k wd bd a b c d e0 : Int) (hk : I64 k) (hn2 : fs.length ≤ 1000) (hn3 : rs.length ≤ 1000) (hnn : n < 1000000) :
    Calls Try.prog 24 #[.pointer (some ⟨sb, 0, none⟩), .agg #[.int .i64 z, .int .i64 k, .int .i64 wd, .int .i64 bd, .int .i64 a, .int .i64 b, .int .i64 c, .int .i64 d, .int .i64 e0]] W fun e w' => e = .returned (.bool true) ∧ After w0 p sb n sz bl ws fs rs w' := by
  by_cases h1 : z = 5
  · subst h1; exact stread_5 h k wd bd a b c d e0 hk hn2 hn3
  by_cases h2 : z = 6
  · subst h2; exact stread_6 h k wd bd a b c d e0 hk hn2 hn3 hnn
  by_cases h3 : z = 7
  · subst h3; exact stread_7 h k wd bd a b c d e0 hk hn3
  by_cases h4 : z = 8
  · subst h4; exact stread_8 h k wd bd a b c d e0 hk hn2
  exact stread_none h z k wd bd a b c d e0 ⟨h1, h2, h3, h4⟩
/-- the state at the start -/
theorem play_start (hs : Sys W G p F 0) (hG : ∀ k, G k → w0.heap.size ≤ k) (hb : Below w0.heap.size w0 W) (hc : Calm F.D) (h1 : F.D.size = sz) (h2 : F.D.blocks = bl) (h3 : F.S.first = 0 ∧ ((F.S.blocks : Nat) : Int) = bl) (h4 : F.A.used = 0) :
    Play w0 p W.heap.size 0 sz bl [] [] [] (W.alloc (.cells #[.pointer (some ⟨p.w, 0, none⟩), .slice none 0 0, .slice none 0 0, .slice none 0 0, .slice none 0 0, .slice none 0 0, .slice none 0 0, .slice none 0 0, .slice none 0 0, .slice none 0 0, .slice none 0 0, .slice none 0 0, .slice none 0 0] 56)) := by
  have hm : Many w0 p F 0 sz bl [] [] [] G W := by
    refine ⟨hs, hG, hb, hc, h1, h2, h3, by rw [h4]; simp [cntT], fun i s h => by simp at h, fun i s h => by simp at h, fun i s h => by simp at h, fun i j s s' h => by simp at h, fun i j s s' h => by simp at h, fun i j s s' h => by simp at h, fun o o' b h => ?_, fun o b h => ?_⟩
    · match o, h with
      | (true, i), ⟨s, hi, _⟩ => simp at hi
      | (false, i), ⟨s, hi, _⟩ => simp at hi
    · match o, h with
      | (true, i), ⟨s, hi, _⟩ => simp at hi
      | (false, i), ⟨s, hi, _⟩ => simp at hi
  have hbw := hb.size
  refine ⟨⟨F, G, fun _ => .slice none 0 0, hm.below ((Below.refl _ _).alloc (Nat.le_refl _) _), ⟨heap_alloc_new _ _, ⟨fun hg => Nat.lt_irrefl _ (hs.lt hg), hbw⟩, fun i hi => ⟨?_, fun q hq => by cases hq⟩, fun i j _ _ _ q hq => (by cases hq), fun k y hk => by simp [stP] at hk, fun k j y z hk => by simp [stP] at hk⟩⟩, fun j f hj => by simp at hj⟩
  match i, hi with
  | 0, _ => exact ⟨rfl, .inl ⟨rfl, rfl⟩⟩
  | 1, _ => exact ⟨rfl, .inl ⟨rfl, rfl⟩⟩
  | 2, _ => exact ⟨rfl, .inl ⟨rfl, rfl⟩⟩
  | 3, _ => exact ⟨rfl, .inl ⟨rfl, rfl⟩⟩
  | 4, _ => exact ⟨rfl, .inl ⟨rfl, rfl⟩⟩
  | 5, _ => exact ⟨rfl, .inl ⟨rfl, rfl⟩⟩
  | 6, _ => exact ⟨rfl, .inl ⟨rfl, rfl⟩⟩
  | 7, _ => exact ⟨rfl, .inl ⟨rfl, rfl⟩⟩
  | 8, _ => exact ⟨rfl, .inl ⟨rfl, rfl⟩⟩
  | 9, _ => exact ⟨rfl, .inl ⟨rfl, rfl⟩⟩
  | 10, _ => exact ⟨rfl, .inl ⟨rfl, rfl⟩⟩
  | 11, _ => exact ⟨rfl, .inl ⟨rfl, rfl⟩⟩
/-- what the law counts -/
theorem play_counts (h : Play w0 p sb n sz bl ws fs rs W) : ∃ A4 c4 A11 c11, W.cell? ⟨sb, 5, none⟩ = some (.slice A4 ws.length c4) ∧ W.cell? ⟨sb, 12, none⟩ = some (.slice A11 rs.length c11) ∧
    (∀ k, k < ws.length → ∃ g b, A4 = some ⟨g, 0, none⟩ ∧ W.cell? ⟨g, k, none⟩ = some (.bool b) ∧ (ws.map (·.o))[k]? = some b) ∧ (∀ k, k < rs.length → ∃ g b, A11 = some ⟨g, 0, none⟩ ∧ W.cell? ⟨g, k, none⟩ = some (.bool b) ∧ (rs.map (·.o))[k]? = some b) ∧
    (∀ q, Calls Try.prog 16 #[.pointer (some ⟨p.w, 0, none⟩)] (W.drewN q) fun e w' => e = .returned (.pointer (some ⟨p.a, 0, none⟩)) ∧ w' = W.drewN q) ∧ (∀ q, Calls Try.prog 17 #[.pointer (some ⟨p.a, 0, none⟩)] (W.drewN q) fun e w' => e = .returned (.int .i64 (((cntT (ws.map (·.o)) + cntT (rs.map (·.o))) * sz : Nat) : Int)) ∧ w' = W.drewN q) ∧ Below w0.heap.size w0 W := by
  obtain ⟨⟨F, G, V, m, s⟩, hk⟩ := h
  have hp : PB w0 p F sb n sz bl ws fs rs G V (stN ws fs rs) (stX ws fs rs) (stP ws) [] W := ⟨m, s, fun _ h => by cases h⟩
  obtain ⟨A4, c4, _, x4, -, -, hA4⟩ := hp.get (i := 4) (by omega)
  obtain ⟨A11, c11, _, x11, -, -, hA11⟩ := hp.get (i := 11) (by omega)
  refine ⟨A4, c4, A11, c11, x4, x11, fun k hk => ?_, fun k hk => ?_, fun q => warn_any (hp.drewN2 q).m.sys.row, fun q => ?_, m.bel⟩
  · obtain ⟨g, rfl, hc, _⟩ := hA4 (by show 0 < ws.length; omega)
    refine ⟨g, (ws[k]).o, rfl, (hc k (by show k < ws.length * 1; omega)).trans ?_, ?_⟩
    · show (ws.map _)[k]? = _
      rw [List.getElem?_map, List.getElem?_eq_getElem hk]; rfl
    · rw [List.getElem?_map, List.getElem?_eq_getElem hk]; rfl
  · obtain ⟨g, rfl, hc, _⟩ := hA11 (by show 0 < rs.length; omega)
    refine ⟨g, (rs[k]).o, rfl, (hc k (by show k < rs.length * 1; omega)).trans ?_, ?_⟩
    · show (rs.map _)[k]? = _
      rw [List.getElem?_map, List.getElem?_eq_getElem hk]; rfl
    · rw [List.getElem?_map, List.getElem?_eq_getElem hk]; rfl
  · have := (hp.drewN2 q).m.sys.used_any
    rw [m.used] at this
    exact this
theorem cntT_take {l : List Bool} {k : Nat} {b : Bool} (h : l[k]? = some b) : cntT (l.take (k + 1)) = cntT (l.take k) + (if b = true then 1 else 0) := by
  rw [List.take_add_one, h, cntT_append]
  cases b <;> simp [cntT]
end
end Go.Proofs.Ytbkgpilmgllkiaa
