/- ManifestCuts: cuts that came in; a round as mathematics; a list that is kept beside the device. -/
import Derived.Test.YthdibijkiogpjaaManRForm
import Derived.Deep.Grids
namespace Go.Proofs.Ythdibijkiogpjaa
open Go.ChangeShapes Go.WideShapes Go.ChangeAt Go.RowKit

/-- a cut, as it came in -/
structure CutV where
  la : Option Addr
  ll : Nat
  lc : Nat
  l : List Ent
  atn : Nat
  ka : Option Addr
  kl : Nat
  kc : Nat
  keep : List Bool
  whole : Bool
def CutOk (w : World) (B : Nat) (c : CutV) : Prop := ReadsN w B c.la c.ll c.l ∧ c.ll ≤ maxLen ∧ c.atn < 256 ∧ ReadsB w B c.ka c.kl c.keep ∧ c.kl ≤ maxLen
def cutCells (c : CutV) : List Value := [.slice c.la c.ll c.lc, .int .u8 (c.atn : Nat), .slice c.ka c.kl c.kc, .bool c.whole]
def ReadsC (w : World) (B : Nat) (a : Option Addr) (n : Nat) (l : List CutV) : Prop :=
  l.length = n ∧ (∀ o ∈ l, CutOk w B o) ∧ (0 < n → ∃ b off, a = some ⟨b, off, none⟩ ∧ b < B ∧ ∀ (i : Nat) (o : CutV), l[i]? = some o → ∀ (j : Nat) (u : Value), (cutCells o)[j]? = some u → w.cell? ⟨b, off + i * 4 + j, none⟩ = some u)
theorem ReadsC.keep {w w' : World} {B : Nat} {a : Option Addr} {n : Nat} {l : List CutV} (h : ReadsC w B a n l) (hb : Below B w w') : ReadsC w' B a n l := by
  obtain ⟨hl, hw, hc⟩ := h
  refine ⟨hl, fun o ho => ?_, fun hn => ?_⟩
  · obtain ⟨h1, h2, h3, h4, h5⟩ := hw o ho
    exact ⟨h1.keep hb, h2, h3, h4.keep hb, h5⟩
  · obtain ⟨b, off, rfl, hbB, hc⟩ := hc hn
    exact ⟨b, off, rfl, hbB, fun i o hi j u hj => (hb.cell (p := ⟨b, off + i * 4 + j, none⟩) hbB).trans (hc i o hi j u hj)⟩
theorem ReadsC.at_ {w : World} {B : Nat} {a : Option Addr} {n : Nat} {l : List CutV} (h : ReadsC w B a n l) {i : Nat} (hi : i < n) :
    ∃ b off o, a = some ⟨b, off, none⟩ ∧ b < B ∧ w.cell? ⟨b, off + i * 4, none⟩ = some (.slice o.la o.ll o.lc) ∧ w.cell? ⟨b, off + i * 4 + 1, none⟩ = some (.int .u8 (o.atn : Nat)) ∧ w.cell? ⟨b, off + i * 4 + 2, none⟩ = some (.slice o.ka o.kl o.kc) ∧ w.cell? ⟨b, off + i * 4 + 3, none⟩ = some (.bool o.whole) ∧ Hid (CutOk w B o) ∧ Hid (l[i]? = some o) := by
  obtain ⟨hl, hw, hc⟩ := h
  obtain ⟨b, off, rfl, hb, hc⟩ := hc (by omega)
  have hi' : l[i]? = some (l[i]'(by omega)) := List.getElem?_eq_getElem _
  exact ⟨b, off, _, rfl, hb, hc i _ hi' 0 _ rfl, hc i _ hi' 1 _ rfl, hc i _ hi' 2 _ rfl, hc i _ hi' 3 _ rfl, hw _ (List.getElem_mem _), hi'⟩

section
variable {H : Type} {enc : TypeId × Value → H} {P : Program} {w : World} {base b0 : Nat} {spare : Nat → Bool} {held : Bool}
open Go.Joins Go.Deep
/-- A slice of bools that came in. -/
theorem open_bools {t e : TypeId} {fuel : Nat} {v : Value} {x : DataW H × List MemPlace} (ht : P.underlying t = some (.slice e)) (he : P.underlying e = some .bool) (hc : P.cellsOf e = 1) (h : DataW.trod enc P w base spare held fuel t [v] = some x) :
    ∃ a len cap l, v = .slice a len cap ∧ ReadsB w w.heap.size a len l ∧ len ≤ maxLen := by
  rcases open_slice1 ht hc h with ⟨h2, _⟩ | ⟨a, len, cap, m, n, V, D, Pl, hcs, _, hl, hm, hmm, _, hx⟩
  · injection h2 with h2; subst h2
    exact ⟨none, 0, 0, [], rfl, ⟨rfl, fun h => absurd h (by omega)⟩, Nat.zero_le _⟩
  · injection hcs with hcs; subst hcs
    have hlm : len ≤ m := by split at hmm <;> omega
    have hb : ∀ i, i < len → ∃ b, w.cell? (a.add i) = some (.bool b) := by
      intro i hi
      obtain ⟨h1, h2⟩ := hx i (by omega)
      obtain ⟨b, hb, _⟩ := DataW.trod_bool he h2
      injection hb with hb
      exact ⟨b, by rw [h1, hb]⟩
    have hspot : 0 < len → a.spot = none := fun hp => by
      obtain ⟨z, hz⟩ := hb 0 hp
      simpa [Addr.add] using World.cell?_spot hz
    obtain ⟨b, off, spot⟩ := a
    have e : ∀ k, spot = none → (⟨b, off, spot⟩ : Addr).add k = ⟨b, off + k, none⟩ := by
      intro k hs; subst hs; unfold Addr.add; split <;> simp_all
    obtain ⟨f, hf⟩ := choose_lt (α := Bool) (p := fun i z => w.cell? ((⟨b, off, spot⟩ : Addr).add i) = some (.bool z)) hb
    refine ⟨_, len, cap, (List.range len).map f, rfl, ⟨by simp, fun hpos => ?_⟩, by omega⟩
    have hs : spot = none := hspot hpos
    subst hs
    refine ⟨b, off, rfl, ?_, fun k hk => ?_⟩
    · have := hf 0 hpos; rw [e _ rfl] at this; exact block_lt_of_cell this
    · have := hf k hk; rw [e _ rfl] at this
      rw [this, List.getD_eq_getElem?_getD, List.getElem?_map, List.getElem?_range hk]; rfl
/-- A slice of cuts that came in. -/
theorem open_cuts {t e : TypeId} {f0 f1 f2 f3 : Field} {fuel : Nat} {v : Value} {x : DataW H × List MemPlace} {te ent it st u8 bt bst : TypeId} {g0 g1 g2 g3 g4 : Field} (ht : P.underlying t = some (.slice e)) (he : P.underlying e = some (.struct #[f0, f1, f2, f3]))
    (hone : oneCellFields P #[f0, f1, f2, f3] = true) (hC : P.cellsOf e = 4) (h0 : f0.type = te) (h1 : f1.type = u8) (h2 : f2.type = bst) (h3 : f3.type = bt)
    (hte : P.underlying te = some (.slice ent)) (hent : P.underlying ent = some (.struct #[g0, g1, g2, g3, g4])) (hone2 : oneCellFields P #[g0, g1, g2, g3, g4] = true) (hC2 : P.cellsOf ent = 5) (hi : P.underlying it = some (.int .i64)) (hs : P.underlying st = some .string) (q0 : g0.type = st) (q1 : g1.type = it) (q2 : g2.type = it) (q3 : g3.type = it) (q4 : g4.type = it)
    (hu8 : P.underlying u8 = some (.int .u8)) (hbt : P.underlying bt = some .bool) (hbst : P.underlying bst = some (.slice bt)) (hbc : P.cellsOf bt = 1)
    (h : DataW.trod enc P w base spare held fuel t [v] = some x) :
    ∃ a len cap l, v = .slice a len cap ∧ ReadsC w w.heap.size a len l ∧ len ≤ maxLen := by
  rcases open_slice_fields ht he hone hC h with h2 | ⟨a, len, cap, m, hcs, hl, hm, hlm, hf⟩
  · injection h2 with h2; subst h2
    exact ⟨none, 0, 0, [], rfl, ⟨rfl, by simp, fun h => absurd h (by omega)⟩, Nat.zero_le _⟩
  · injection hcs with hcs; subst hcs
    have hex : ∀ k, k < len → ∃ o : CutV, CutOk w w.heap.size o ∧ ∀ (j : Nat) (u : Value), (cutCells o)[j]? = some u → w.cell? (a.add (k * 4 + j)) = some u := by
      intro k hk
      obtain ⟨c0, n0, y0, e0, t0⟩ := hf k (by omega) 0 f0 rfl
      obtain ⟨c1, n1, y1, e1, t1⟩ := hf k (by omega) 1 f1 rfl
      obtain ⟨c2, n2, y2, e2, t2⟩ := hf k (by omega) 2 f2 rfl
      obtain ⟨c3, n3, y3, e3, t3⟩ := hf k (by omega) 3 f3 rfl
      obtain ⟨la, ll, lc, l, z0, r0, r1⟩ := open_entries hte hent hone2 hC2 hi hs q0 q1 q2 q3 q4 (h0 ▸ t0)
      obtain ⟨z1, s1, _, s2⟩ := DataW.trod_int (h1 ▸ hu8) t1
      obtain ⟨ka, kl, kc, keep, z2, r2, r3⟩ := open_bools hbst hbt hbc (h2 ▸ t2)
      obtain ⟨z3, s3, _⟩ := DataW.trod_bool (h3 ▸ hbt) t3
      injection s1 with s1; injection s3 with s3
      subst z0; subst s1; subst z2; subst s3
      have hz : 0 ≤ z1 ∧ z1 < 256 := by have := bounds_u8 s2; omega
      obtain ⟨zn, rfl⟩ := Int.eq_ofNat_of_zero_le hz.1
      refine ⟨⟨la, ll, lc, l, zn, ka, kl, kc, keep, z3⟩, ⟨r0, r1, by have := hz.2; show zn < 256; omega, r2, r3⟩, fun j u hj => ?_⟩
      match j, hj with
      | 0, hj => simp [cutCells] at hj; subst hj; exact e0
      | 1, hj => simp [cutCells] at hj; subst hj; exact e1
      | 2, hj => simp [cutCells] at hj; subst hj; exact e2
      | 3, hj => simp [cutCells] at hj; subst hj; exact e3
      | j + 4, hj => simp [cutCells] at hj
    obtain ⟨f, hf⟩ : ∃ f : Nat → CutV, ∀ k, k < len → CutOk w w.heap.size (f k) ∧ ∀ (j : Nat) (u : Value), (cutCells (f k))[j]? = some u → w.cell? (a.add (k * 4 + j)) = some u := by
      have : ∀ k, ∃ o : CutV, k < len → CutOk w w.heap.size o ∧ ∀ (j : Nat) (u : Value), (cutCells o)[j]? = some u → w.cell? (a.add (k * 4 + j)) = some u := fun k => by
        by_cases hk : k < len
        · obtain ⟨o, ho⟩ := hex k hk; exact ⟨o, fun _ => ho⟩
        · exact ⟨⟨none, 0, 0, [], 0, none, 0, 0, [], false⟩, fun h => absurd h hk⟩
      exact ⟨fun k => (this k).choose, fun k => (this k).choose_spec⟩
    have hspot : 0 < len → a.spot = none := fun hp => by
      have := (hf 0 hp).2 0 _ rfl
      simpa [Addr.add] using World.cell?_spot this
    obtain ⟨b, off, spot⟩ := a
    have e : ∀ k j, spot = none → (⟨b, off, spot⟩ : Addr).add (k * 4 + j) = ⟨b, off + k * 4 + j, none⟩ := by
      intro k j hs; subst hs; unfold Addr.add; split <;> simp_all [Nat.add_assoc]
    refine ⟨_, len, cap, (List.range len).map f, rfl, ⟨by simp, ?_, fun hpos => ?_⟩, by omega⟩
    · intro o ho
      obtain ⟨k, hk, rfl⟩ := List.mem_map.1 ho
      exact (hf k (List.mem_range.1 hk)).1
    · have hs : spot = none := hspot hpos
      subst hs
      refine ⟨b, off, rfl, ?_, fun k o hk j u hj => ?_⟩
      · have := (hf 0 hpos).2 0 _ rfl; rw [e _ _ rfl] at this; exact block_lt_of_cell this
      · have hkl : k < len := by
          have := (List.getElem?_eq_some_iff.1 hk).1; simpa using this
        rw [List.getElem?_map, List.getElem?_range hkl] at hk
        injection hk with hk; subst hk
        have := (hf k hkl).2 j u hj
        rw [e _ _ rfl] at this; exact this
end

/-- the state ahead of the Save -/
def cutS (s : St) (whole : Bool) (f : Nat) : St := if whole then s else { s with fb := true, fn := (f : Int) }
/-- ONE ROUND: the Save with the next generation, cut or whole, and a crash behind it -/
theorem cut_round {size k f H : Nat} {s : St} {tg : Nat → Nat → Nat} {L : Nat → List Ent} {l l0 : List Ent} {g0 nx : Nat} {whole : Bool} {keep : List Bool} (hk : k = slotE size) (h8 : 8 ≤ size) (h256 : size ≤ 256) (h : Good size k s tg L) (hH : ∀ s i, s ≤ 1 → i < k → tg s i ≤ H) (hH2 : H ≤ 1000000) (hf : f ≤ k) (hld : loadP s.now size = (l0, g0, nx)) (hfo : FormedP l) :
    GenP nx ∧ ∃ er s', saveE (cutS s whole f) nx l = (er, s') ∧ (er == 0) = whole ∧ ∃ tg' L', Good size k (crash s' keep) tg' L' ∧ (∀ s i, s ≤ 1 → i < k → tg' s i ≤ H + 2) ∧ ((loadP (crash s' keep).now size).1 = l ∨ (loadP (crash s' keep).now size).1 = l0) ∧ (whole = true → (loadP (crash s' keep).now size).1 = l) := by
  obtain ⟨hk0, _, _⟩ := slot_pos h8 h256
  rw [← hk] at hk0
  obtain ⟨_, _, _, e, q1, q2, _, _, _⟩ := load_inv hk h8 h256 h.2 h.now hH
  rw [hld] at e
  injection e with e1 e; injection e with e2 e3
  subst e1; subst e2; subst e3
  have hg : GenP nx := ⟨by have := q1 0 0 (by omega) hk0; omega, by omega⟩
  refine ⟨hg, ?_⟩
  have hnow := h.now
  obtain ⟨⟨hc, hlt, hs, hb⟩, hi⟩ := h
  cases whole with
  | true =>
    have e : saveE s nx l = (0, { s with acts := s.acts + (k : Int) + 1, fl := lay s.fl (s.later ++ wrE size k nx l k 0), later := [] }) := by
      have h2 : saveE s nx l = saveGo size k nx l k 0 s := by unfold saveE; rw [hs, ← hk]
      rw [h2]
      exact saveGo_calm (g := nx) (l := l) h8 k 0 s (by omega) hc hs hb
    rw [hlt, List.nil_append] at e
    refine ⟨0, _, e, rfl, ?_⟩
    have hcr : (crash { s with acts := s.acts + (k : Int) + 1, fl := lay s.fl (wrE size k nx l k 0), later := [] } keep).fl = lay s.fl (wrE size k nx l k 0) := by
      show lay (lay s.fl (wrE size k nx l k 0)) (kept keep []) = _
      have : kept keep ([] : List (Int × List Nat)) = [] := by cases keep <;> rfl
      rw [this]; rfl
    have hn' : ∀ x, (crash { s with acts := s.acts + (k : Int) + 1, fl := lay s.fl (wrE size k nx l k 0), later := [] } keep).now x = blk size (lay s.fl (wrE size k nx l k 0) x) := by
      intro x
      show blk s.size (lay (crash { s with acts := s.acts + (k : Int) + 1, fl := lay s.fl (wrE size k nx l k 0), later := [] } keep).fl [] x) = _
      rw [hcr, hs]; rfl
    obtain ⟨tg', L', i1, i2, i3, i4⟩ := load_after hk h8 h256 hi hnow hH hH2 hld hfo (wr_in (Nat.le_refl k)) hn'
    refine ⟨tg', L', ⟨⟨crash_calm _ _, rfl, hs, hb⟩, ?_⟩, i2, i3, fun _ => i4 fun j hj => mem_wr (Nat.zero_le _) (by omega)⟩
    rw [hcr]; exact i1
  | false =>
    have h2 : saveE { s with fb := true, fn := (f : Int) } nx l = saveGo size k nx l k 0 { s with fb := true, fn := (f : Int) } := by
      unfold saveE
      have : ({ s with fb := true, fn := (f : Int) } : St).size = size := hs
      rw [this, ← hk]
    obtain ⟨j1, j2, j3, j4, j5⟩ := saveGo_fuse (size := size) (k := k) (g := nx) (l := l) h8 k 0 f { s with fb := true, fn := (f : Int) } (by omega) hf ⟨hc.1, rfl, rfl, hc.2.2⟩ hs hb
    rw [← h2] at j1 j2 j3 j4 j5
    have hcs : cutS s false f = { s with fb := true, fn := (f : Int) } := rfl
    rw [hcs]
    generalize hq : saveE { s with fb := true, fn := (f : Int) } nx l = q at *
    obtain ⟨er, s'⟩ := q
    simp only at j1 j2 j3 j4 j5
    refine ⟨er, s', rfl, by rw [j1]; rfl, ?_⟩
    have hcr : (crash s' keep).fl = lay s.fl (kept keep (wrE size k nx l f 0)) := by
      show lay s'.fl (kept keep s'.later) = _
      rw [j2, j3]
      show lay s.fl (kept keep (s.later ++ _)) = _
      rw [hlt]; rfl
    have hsz : (crash s' keep).size = size := by show s'.size = _; rw [j4]; exact hs
    have hn' : ∀ x, (crash s' keep).now x = blk size (lay s.fl (kept keep (wrE size k nx l f 0)) x) := by
      intro x
      show blk (crash s' keep).size (lay (crash s' keep).fl [] x) = _
      rw [hcr, hsz]; rfl
    obtain ⟨tg', L', i1, i2, i3, i4⟩ := load_after hk h8 h256 hi hnow hH hH2 hld hfo (K := kept keep (wrE size k nx l f 0)) (fun e he => wr_in hf e (kept_mem keep _ e he)) hn'
    refine ⟨tg', L', ⟨⟨crash_calm _ _, rfl, hsz, ?_⟩, ?_⟩, i2, i3, fun h => by cases h⟩
    · show 2 * (k : Int) ≤ s'.blocks
      rw [j5]; exact hb
    · rw [hcr]; exact i1
/-- a crash of a device that has nothing in its cache -/
theorem good_crash {size k : Nat} {s : St} {tg : Nat → Nat → Nat} {L : Nat → List Ent} (h : Good size k s tg L) (keep : List Bool) : Good size k (crash s keep) tg L ∧ loadP (crash s keep).now size = loadP s.now size := by
  have hn := h.now
  obtain ⟨⟨hc, hlt, hs, hb⟩, hi⟩ := h
  have hfl : (crash s keep).fl = s.fl := by
    show lay s.fl (kept keep s.later) = _
    rw [hlt]
    have : kept keep ([] : List (Int × List Nat)) = [] := by cases keep <;> rfl
    rw [this]; rfl
  have hg : Good size k (crash s keep) tg L := ⟨⟨crash_calm _ _, rfl, hs, hb⟩, by rw [hfl]; exact hi⟩
  refine ⟨hg, ?_⟩
  have : (crash s keep).now = s.now := by
    funext x
    rw [hg.now, hn, hfl]
  rw [this]

/-- a list beside the device's memory -/
def Stood (w : World) (G : Nat → Prop) (v : Value) (ls : List Ent) : Prop :=
  ∃ A m c, v = .slice A m c ∧ m ≤ 1000 ∧ ReadsN w w.heap.size A m ls ∧ (0 < m → ∀ b off, A = some ⟨b, off, none⟩ → ¬ G b)
theorem Stood.step {w w' : World} {G G' F : Nat → Prop} {v : Value} {ls : List Ent} (h : Stood w G v ls) (hf : Far F w w') (hF : ∀ b, F b → G b) (hG : ∀ b, b < w.heap.size → G' b → G b) : Stood w' G' v ls := by
  obtain ⟨A, m, c, h1, h2, h3, h4⟩ := h
  refine ⟨A, m, c, h1, h2, (h3.far (Nat.le_refl _) hf fun hm b off e hb => h4 hm b off e (hF b hb)).mono hf.size, fun hm b off e hb => ?_⟩
  obtain ⟨_, _, hc⟩ := h3
  obtain ⟨b', off', e', hlt, _⟩ := hc hm
  have e2 := e
  rw [e'] at e2
  injection e2 with e2; injection e2 with e2 _
  subst e2
  exact h4 hm _ _ e (hG _ hlt hb)
theorem Stood.nil (w : World) (G : Nat → Prop) : Stood w G (.slice none 0 0) [] := ⟨none, 0, 0, rfl, by omega, ReadsN.nil _ _ _, fun h => absurd h (by omega)⟩
def RunS (w0 w : World) (G : Nat → Prop) (p : Nat) (s : St) (n : Nat) (v : Value) (ls : List Ent) : Prop := Run w0 w G p s n ∧ Stood w G v ls
section
variable {w0 w w' : World} {G : Nat → Prop} {p n size k : Nat} {s s' : St} {vst : Value} {ls : List Ent}
theorem RunS.below (h : RunS w0 w G p s n vst ls) (hb : Below w.heap.size w w') : RunS w0 w' G p s n vst ls :=
  ⟨h.1.below hb, h.2.step (Far.of_below hb fun _ => False) (fun _ h => h.elim) fun _ _ h => h⟩
theorem rs_load {l : List Ent} {g nx : Nat} (h : RunS w0 w G p s n vst ls) (hr : Ready size k s) (hk : slotE size = k) (hk11 : k ≤ 11) (hn : n ≤ 500000) (e : loadP s.now size = (l, g, nx)) :
    Calls Try.prog 15 #[.pointer (some ⟨p, 0, none⟩)] w fun e w' => ∃ v, e = .returned (.tuple #[v, .int .u64 (g : Int), .int .u64 (nx : Int), .int .i64 0]) ∧ w'.ownsRow w.heap.size 54 5 v l.length (flatN l) ∧ RunS w0 w' G p { s with acts := s.acts + ((2 * k : Nat) : Int) } (n + 40) vst ls := by
  have hz : slotE s.size = k := by rw [hr.2.1, hk]
  have h1 := load_any p s n G w h.1.2.1 (by omega) hr.1 (by rw [hz]; exact hr.2.2)
  have e2 : ({ s with acts := s.acts + ((2 * slotE s.size : Nat) : Int) } : St) = { s with acts := s.acts + ((2 * k : Nat) : Int) } := by rw [hz]
  rw [e2, hz] at h1
  have hsz := hr.2.1
  generalize ({ s with acts := s.acts + ((2 * k : Nat) : Int) } : St) = s2 at *
  rw [hsz, e] at h1
  refine h1.mono ?_
  rintro e w1 ⟨v, he, ho, hd, hf⟩
  have hp := h.1.2.1.mine
  exact ⟨v, he, ho, Run.mono ⟨h.1.1.trans (hf.below h.1.1.size fun b hb => by rw [hb]; exact h.1.2.2 p hp), hd, h.1.2.2⟩ (by omega) (by omega), h.2.step hf (fun b hb => by rw [hb]; exact hp) fun _ _ h => h⟩
theorem rs_save {er : Int} (h : RunS w0 w G p s n vst ls) (hk : slotE s.size = k) (hk11 : k ≤ 11) (hdn : s.down = false) (hbk : 2 * (k : Int) ≤ s.blocks) (g : Nat) (a : Option Addr) (m c : Nat) (l : List Ent) (hn : n ≤ 500000) (hl : ReadsN w0 w0.heap.size a m l) (hm : m ≤ maxLen) (hf : FormedP l) (hg : GenP g) (e : saveE s g l = (er, s')) :
    Calls Try.prog 17 #[.pointer (some ⟨p, 0, none⟩), .int .u64 g, .slice a m c] w fun e w' => e = .returned (.int .i64 er) ∧ ∃ G', RunS w0 w' G' p s' (n + 20) vst ls := by
  have h1 := save_any p s n G g a m c l w h.1.2.1 (by omega) hdn (by rw [hk]; exact hbk) (hl.keep h.1.1) h.1.1.size hm hf hg
  rw [e, hk] at h1
  refine h1.mono ?_
  rintro e w1 ⟨he, G', hd, hf, hG⟩
  have hz := h.1.1.size
  refine ⟨he, G', Run.mono ⟨h.1.1.trans (hf.below hz h.1.2.2), hd, fun k hk => ?_⟩ (by omega) (by omega), h.2.step hf (fun _ h => h) fun b hb hg => ?_⟩
  · rcases hG k hk with hk | hk
    · exact h.1.2.2 k hk
    · omega
  · rcases hG b hg with hk | hk
    · exact hk
    · omega
theorem rs_fuse (h : RunS w0 w G p s n vst ls) (m : Int) (h0 : 0 ≤ m) (h1 : m ≤ 1000000) :
    Calls Try.prog 16 #[.pointer (some ⟨p, 0, none⟩), .int .i64 m] w fun e w' => e = .returned (.tuple #[]) ∧ RunS w0 w' G p { s with fb := true, fn := m } n vst ls := by
  refine (setFuse_any p s n G m w h.1.2.1 h0 h1).mono ?_
  rintro e w1 ⟨he, hd, hf⟩
  have hp := h.1.2.1.mine
  exact ⟨he, ⟨h.1.1.trans (hf.below h.1.1.size fun b hb => by rw [hb]; exact h.1.2.2 p hp), hd, h.1.2.2⟩, h.2.step hf (fun b hb => by rw [hb]; exact hp) fun _ _ h => h⟩
theorem rs_crash (h : RunS w0 w G p s n vst ls) (A : Option Addr) (m c : Nat) (keep : List Bool) (hk : ReadsB w0 w0.heap.size A m keep) (hm : m ≤ 1000000) :
    Calls Try.prog 18 #[.pointer (some ⟨p, 0, none⟩), .slice A m c] w fun e w' => ∃ p' G', e = .returned (.pointer (some ⟨p', 0, none⟩)) ∧ RunS w0 w' G' p' (crash s keep) n vst ls := by
  have hmine := h.1.2.1.mine
  have hp := h.1.2.2 p hmine
  have hz := h.1.1.size
  refine (crash_any p s n G A m c keep w h.1.2.1 (hk.keep h.1.1) hz (fun hm b off hA => ?_) hm).mono ?_
  · obtain ⟨b', off', e, hb, _⟩ := hk.2 hm
    rw [hA] at e; injection e with e; injection e with e _; omega
  · rintro e w1 ⟨p', G', he, hd, hf, hG, _⟩
    refine ⟨p', G', he, ⟨h.1.1.trans (hf.below hz fun b hb => by rw [hb]; exact hp), hd, fun k hk => ?_⟩, h.2.step hf (fun b hb => by rw [hb]; exact hmine) fun b hb hg => ?_⟩
    · rcases hG k hk with hk | hk
      · exact h.1.2.2 k hk.1
      · omega
    · rcases hG b hg with hk | hk
      · exact hk.1
      · omega
/-- the list that is made last stands now -/
theorem RunS.turn {A : Option Addr} {m c : Nat} {ls' : List Ent} (h : RunS w0 w G p s n vst ls) (hr : ReadsN w w.heap.size A m ls') (hm : m ≤ 1000) (hG : 0 < m → ∀ b off, A = some ⟨b, off, none⟩ → ¬ G b) : RunS w0 w G p s n (.slice A m c) ls' := ⟨h.1, A, m, c, rfl, hm, hr, hG⟩
end
end Go.Proofs.Ythdibijkiogpjaa
