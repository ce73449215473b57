/- A law's space beside a list of extents of its own; what awake answers; a list of acts that came in. -/
import Derived.Test.YtjpomohfoknjiaaSpSem
namespace Go.Proofs.Ytjpomohfoknjiaa
open Go.ChangeShapes Go.WideShapes Go.ChangeAt Go.RowKit

/-- rows of other types have stayed -/
def KeepT (w w' : World) : Prop := ∀ (k : Nat) (t : TypeId) (cs : List Value), Row w k t cs → t ≠ 53 → t ≠ 36 → Row w' k t cs
theorem KeepT.refl (w : World) : KeepT w w := fun _ _ _ h _ _ => h
theorem KeepT.trans {a b c : World} (h : KeepT a b) (k : KeepT b c) : KeepT a c := fun i t cs hr h1 h2 => k i t cs (h i t cs hr h1 h2) h1 h2
theorem KeepT.of_below {w w' : World} (h : Below w.heap.size w w') : KeepT w w' := fun _ _ _ hr _ _ => hr.below h hr.lt
/-- the law began at w0; block p is a space that is as s says; beside it lies the law's own list of extents l, in v -/
def Run (w0 w : World) (p : Nat) (s : Sp) (v : Value) (n : Nat) (l : List Ex) : Prop :=
  ∃ G, Spc w G p s ∧ w.ownsRow 0 36 2 v n (flatX l) ∧ (∀ k, v.ownBlock = some k → ¬ G k ∧ w0.heap.size ≤ k) ∧ (∀ k, G k → w0.heap.size ≤ k) ∧ Below w0.heap.size w0 w
section
variable {w0 w w' : World} {p : Nat} {s s' : Sp} {v : Value} {n : Nat} {l : List Ex}
theorem Run.base (h : Run w0 w p s v n l) : Below w0.heap.size w0 w := by obtain ⟨G, h1, h2, h3, h4, h5⟩ := h; exact h5
theorem Run.ok (h : Run w0 w p s v n l) : s.ok := by obtain ⟨G, h1, h2, h3, h4, h5⟩ := h; exact h1.1
theorem Run.own (h : Run w0 w p s v n l) : w.ownsRow 0 36 2 v n (flatX l) := by obtain ⟨G, h1, h2, h3, h4, h5⟩ := h; exact h2
theorem Run.far (h : Run w0 w p s v n l) (hb : Below w.heap.size w w') : Run w0 w' p s v n l := by
  obtain ⟨G, h1, h2, h3, h4, h5⟩ := h
  exact ⟨G, h1.below hb, own2_below h2 hb, h3, h4, h5.trans (hb.mono h5.size)⟩
theorem Run.drewN (h : Run w0 w p s v n l) (m : Nat) : Run w0 (w.drewN m) p s v n l := h.far (below_drewN (Below.refl _ _) m)
theorem Run.after (G : Nat → Prop) (h1 : Spc w G p s) (h2 : w.ownsRow 0 36 2 v n (flatX l)) (h3 : ∀ k, v.ownBlock = some k → ¬ G k ∧ w0.heap.size ≤ k) (h4 : ∀ k, G k → w0.heap.size ≤ k) (h5 : Below w0.heap.size w0 w) (hx : Next w G p s' w') : Run w0 w' p s' v n l ∧ KeepT w w' := by
  obtain ⟨G', g1, g2, g3⟩ := hx
  refine ⟨⟨G', g1, own2_far h2 g2 fun k hk => (h3 k hk).1, fun k hk => ⟨fun hg => ?_, (h3 k hk).2⟩, fun k hk => (g3 k hk).elim (h4 k) fun h => Nat.le_trans h5.size h, h5.trans (g2.below h5.size h4)⟩, fun k t cs hr e1 e2 => g2.row hr (h1.types hr e1 e2)⟩
  rcases g3 k hg with h | h
  · exact (h3 k hk).1 h
  · have := (h2.lt k hk).2; omega
theorem Run.lt (h : Run w0 w p s v n l) : p < w.heap.size := by obtain ⟨G, h1, _⟩ := h; exact h1.lt h1.mine
theorem run_take (h : Run w0 w p s v n l) {m : Int} (hm : I64 m) : Calls Try.prog 10 #[.pointer (some ⟨p, 0, none⟩), .int .i64 m] w fun e w' => e = .returned (.tuple #[.int .i64 ((takeS s m).2.1 : Nat), .int .i64 ((takeS s m).2.2 : Nat)]) ∧ Run w0 w' p (takeS s m).1 v n l ∧ KeepT w w' := by
  obtain ⟨G, h1, h2, h3, h4, h5⟩ := h
  exact (take_any p s G m w h1 hm).mono fun e w' hx => ⟨hx.1, Run.after G h1 h2 h3 h4 h5 hx.2⟩
theorem run_give (h : Run w0 w p s v n l) {f m : Int} (hf : I64 f) (hm : I64 m) : Calls Try.prog 12 #[.pointer (some ⟨p, 0, none⟩), .int .i64 f, .int .i64 m] w fun e w' => e = .returned (.int .i64 ((giveS s f m).2 : Nat)) ∧ Run w0 w' p (giveS s f m).1 v n l ∧ KeepT w w' := by
  obtain ⟨G, h1, h2, h3, h4, h5⟩ := h
  exact (give_any p s G f m w h1 hf hm).mono fun e w' hx => ⟨hx.1, Run.after G h1 h2 h3 h4 h5 hx.2⟩
theorem run_hold (h : Run w0 w p s v n l) {f m : Int} (hf : I64 f) (hm : I64 m) : Calls Try.prog 14 #[.pointer (some ⟨p, 0, none⟩), .int .i64 f, .int .i64 m] w fun e w' => e = .returned (.int .i64 ((holdS s f m).2 : Nat)) ∧ Run w0 w' p (holdS s f m).1 v n l ∧ KeepT w w' := by
  obtain ⟨G, h1, h2, h3, h4, h5⟩ := h
  exact (hold_any p s G f m w h1 hf hm).mono fun e w' hx => ⟨hx.1, Run.after G h1 h2 h3 h4 h5 hx.2⟩
theorem run_new {f n : Nat} (hf : f ≤ 1000000) (hn : n ≤ 1000000) (hb : Below w0.heap.size w0 w) : Calls Try.prog 8 #[.int .i64 f, .int .i64 n] w fun e w' => ∃ p, e = .returned (.pointer (some ⟨p, 0, none⟩)) ∧ Run w0 w' p (newSp f n) (.slice none 0 0) 0 [] ∧ Below w.heap.size w w' :=
  (new_any f n w hf hn).mono fun e w' ⟨p, G, he, h1, h2, h3⟩ => ⟨p, he, ⟨G, h1, World.ownsRow_nil _ _ _ _, fun k hk => (by cases hk), fun k hk => Nat.le_trans hb.size (h2 k hk), hb.trans (h3.mono hb.size)⟩, h3⟩
theorem run_free (h : Run w0 w p s v n l) : Calls Try.prog 16 #[.pointer (some ⟨p, 0, none⟩)] w fun e w' => e = .returned (.int .i64 (sumB s.fr : Nat)) ∧ Below w.heap.size w w' := by
  obtain ⟨G, h1, h2, h3, h4, h5⟩ := h
  exact free_any p s G w h1
/-- the extents are a list of their own -/
theorem run_extents (h : Run w0 w p s v n l) : Calls Try.prog 19 #[.pointer (some ⟨p, 0, none⟩)] w fun e w' => ∃ A c, e = .returned (.slice A s.fr.length c) ∧ Run w0 w' p s v n l ∧ Run w0 w' p s (.slice A s.fr.length c) s.fr.length s.fr ∧ Below w.heap.size w w' := by
  have h' := h
  obtain ⟨G, h1, h2, h3, h4, h5⟩ := h
  refine (extents_any p s G w h1).mono fun e w' ⟨v', he, ho, hb⟩ => ?_
  obtain ⟨A, c, rfl, _⟩ := own2_form (own2_base ho (Nat.zero_le _))
  exact ⟨A, c, he, h'.far hb, ⟨G, h1.below hb, own2_base ho (Nat.zero_le _), fun k hk => by
    have h6 := (ho.lt k hk).1
    exact ⟨fun hg => by have := h1.lt hg; omega, Nat.le_trans h5.size h6⟩, h4, h5.trans (hb.mono h5.size)⟩, hb⟩
end

set_option maxHeartbeats 1000000 in
set_option maxRecDepth 100000 in
theorem awake_any (w : World) : Calls Try.prog 7 #[] w fun e w' => e = .returned (.bool true) ∧ Below w.heap.size w w' := by
  have HN := Lib.hid (run_new (w0 := w) (w := w) (f := 2) (n := 10) (by omega) (by omega) (Below.refl _ _))
  have e1 : takeS (newSp 2 10) 3 = (⟨2, 10, [(5, 7)]⟩, 2, 0) := rfl
  have E1 := Lib.hid e1
  clear e1
  go_enter Try.func7, Try.ntmps7
  go_wp2_with fail
  refine HN.out.mono ?_
  rintro e w1 ⟨p, rfl, hr1, _⟩
  have h3 := run_take hr1 (m := 3) (I64.of (by omega) (by omega))
  rw [E1.out] at h3
  have H3 := Lib.hid h3
  clear h3 hr1
  go_wp2_with fail
  refine H3.out.mono ?_
  rintro e w2 ⟨rfl, hr2, _⟩
  have HR2 := Lib.hid hr2
  clear hr2
  go_wp2_with fail
  refine (run_free HR2.out).mono ?_
  rintro e w3 ⟨rfl, hb3⟩
  have HB := Lib.hid (HR2.out.base.trans (hb3.mono HR2.out.base.size))
  have e7 : sumB [(5, 7)] = 7 := rfl
  rw [e7]
  clear hb3
  go_wp2
  go_ret
  exact ⟨rfl, HB.out⟩

/-- A slice value that reads as triples of integers; the cells lie below block B. -/
def ReadsT (w : World) (B : Nat) (a : Option Addr) (n : Nat) (l : List (Int × Int × Int)) : Prop :=
  l.length = n ∧ (∀ x ∈ l, I64 x.1 ∧ I64 x.2.1 ∧ I64 x.2.2) ∧ (0 < n → ∃ b off, a = some ⟨b, off, none⟩ ∧ b < B ∧ ∀ (i : Nat) (x : Int × Int × Int), l[i]? = some x → w.cell? ⟨b, off + i * 3, none⟩ = some (.int .i64 x.1) ∧ w.cell? ⟨b, off + i * 3 + 1, none⟩ = some (.int .i64 x.2.1) ∧ w.cell? ⟨b, off + i * 3 + 2, none⟩ = some (.int .i64 x.2.2))
theorem ReadsT.keep {w w' : World} {B : Nat} {a : Option Addr} {n : Nat} {l : List (Int × Int × Int)} (h : ReadsT w B a n l) (hb : Below B w w') : ReadsT w' B a n l := by
  obtain ⟨hl, hw, hc⟩ := h
  refine ⟨hl, hw, fun hn => ?_⟩
  obtain ⟨b, off, rfl, hbB, hc⟩ := hc hn
  exact ⟨b, off, rfl, hbB, fun i x hi => ⟨(hb.cell (p := ⟨b, off + i * 3, none⟩) hbB).trans (hc i x hi).1, (hb.cell (p := ⟨b, off + i * 3 + 1, none⟩) hbB).trans (hc i x hi).2.1, (hb.cell (p := ⟨b, off + i * 3 + 2, none⟩) hbB).trans (hc i x hi).2.2⟩⟩
theorem ReadsT.at_ {w : World} {B : Nat} {a : Option Addr} {n : Nat} {l : List (Int × Int × Int)} (h : ReadsT w B a n l) {i : Nat} (hi : i < n) :
    ∃ b off x y z, a = some ⟨b, off, none⟩ ∧ b < B ∧ w.cell? ⟨b, off + i * 3, none⟩ = some (.int .i64 x) ∧ w.cell? ⟨b, off + i * 3 + 1, none⟩ = some (.int .i64 y) ∧ w.cell? ⟨b, off + i * 3 + 2, none⟩ = some (.int .i64 z) ∧ I64 x ∧ I64 y ∧ I64 z ∧ Hid (l[i]? = some (x, y, z)) := by
  obtain ⟨hl, hw, hc⟩ := h
  obtain ⟨b, off, rfl, hb, hc⟩ := hc (by omega)
  have hi' : l[i]? = some (l[i]'(by omega)) := List.getElem?_eq_getElem _
  obtain ⟨h1, h2, h3⟩ := hc i _ hi'
  obtain ⟨w1, w2, w3⟩ := hw _ (List.getElem_mem (show i < l.length by omega))
  exact ⟨b, off, _, _, _, rfl, hb, h1, h2, h3, w1, w2, w3, hi'⟩
section
variable {H : Type} {enc : TypeId × Value → H} {P : Program} {w : World} {base b0 : Nat} {spare : Nat → Bool} {held : Bool}
open Go.Joins Go.Deep
/-- A slice of triples of integers that came in. -/
theorem open_triples {t e i : TypeId} {f0 f1 f2 : Field} {fuel : Nat} {v : Value} {x : DataW H × List MemPlace} (ht : P.underlying t = some (.slice e)) (he : P.underlying e = some (.struct #[f0, f1, f2]))
    (hone : oneCellFields P #[f0, f1, f2] = true) (hC : P.cellsOf e = 3) (hi : P.underlying i = some (.int .i64)) (h0 : f0.type = i) (h1 : f1.type = i) (h2 : f2.type = i)
    (h : DataW.trod enc P w base spare held fuel t [v] = some x) :
    ∃ a len cap l, v = .slice a len cap ∧ ReadsT w w.heap.size a len l ∧ len ≤ maxLen := by
  rcases open_slice_fields ht he hone hC h with h3 | ⟨a, len, cap, m, hcs, hl, hm, hlm, hf⟩
  · injection h3 with h3; subst h3
    exact ⟨none, 0, 0, [], rfl, ⟨rfl, by simp, fun h => absurd h (by omega)⟩, Nat.zero_le _⟩
  · injection hcs with hcs; subst hcs
    have key : ∀ k, k < len → ∀ j (f : Field), #[f0, f1, f2][j]? = some f → f.type = i → ∃ z : Int, w.cell? (a.add (k * 3 + j)) = some (.int .i64 z) ∧ I64 z := by
      intro k hk j f hff hft
      obtain ⟨u, n, y, hc, ht'⟩ := hf k (by omega) j f hff
      obtain ⟨z, hz, _, hw⟩ := DataW.trod_int (hft ▸ hi) ht'
      injection hz with hz; subst hz
      exact ⟨z, hc, hw⟩
    have hcell : ∀ k, k < len → ∃ x : Int × Int × Int, (w.cell? (a.add (k * 3 + 0)) = some (.int .i64 x.1) ∧ w.cell? (a.add (k * 3 + 1)) = some (.int .i64 x.2.1) ∧ w.cell? (a.add (k * 3 + 2)) = some (.int .i64 x.2.2)) ∧ I64 x.1 ∧ I64 x.2.1 ∧ I64 x.2.2 := by
      intro k hk
      obtain ⟨z0, e0, w0⟩ := key k hk 0 f0 rfl h0
      obtain ⟨z1, e1, w1⟩ := key k hk 1 f1 rfl h1
      obtain ⟨z2, e2, w2⟩ := key k hk 2 f2 rfl h2
      exact ⟨(z0, z1, z2), ⟨e0, e1, e2⟩, w0, w1, w2⟩
    obtain ⟨f, hf⟩ : ∃ f : Nat → Int × Int × Int, ∀ k, k < len → (w.cell? (a.add (k * 3 + 0)) = some (.int .i64 (f k).1) ∧ w.cell? (a.add (k * 3 + 1)) = some (.int .i64 (f k).2.1) ∧ w.cell? (a.add (k * 3 + 2)) = some (.int .i64 (f k).2.2)) ∧ I64 (f k).1 ∧ I64 (f k).2.1 ∧ I64 (f k).2.2 := by
      have : ∀ k, ∃ x : Int × Int × Int, k < len → (w.cell? (a.add (k * 3 + 0)) = some (.int .i64 x.1) ∧ w.cell? (a.add (k * 3 + 1)) = some (.int .i64 x.2.1) ∧ w.cell? (a.add (k * 3 + 2)) = some (.int .i64 x.2.2)) ∧ I64 x.1 ∧ I64 x.2.1 ∧ I64 x.2.2 := fun k => by
        by_cases hk : k < len
        · obtain ⟨o, ho⟩ := hcell k hk; exact ⟨o, fun _ => ho⟩
        · exact ⟨(0, 0, 0), fun h => absurd h hk⟩
      exact ⟨fun k => (this k).choose, fun k => (this k).choose_spec⟩
    have hspot : 0 < len → a.spot = none := fun hp => by
      have := (hf 0 hp).1.1
      simpa [Addr.add] using World.cell?_spot this
    obtain ⟨b, off, spot⟩ := a
    have e : ∀ k j, spot = none → (⟨b, off, spot⟩ : Addr).add (k * 3 + j) = ⟨b, off + k * 3 + j, none⟩ := by
      intro k j hs; subst hs; unfold Addr.add; split <;> simp_all [Nat.add_assoc]
    refine ⟨_, len, cap, (List.range len).map f, rfl, ⟨by simp, ?_, fun hpos => ?_⟩, by omega⟩
    · intro x hx
      obtain ⟨k, hk, rfl⟩ := List.mem_map.1 hx
      exact (hf k (List.mem_range.1 hk)).2
    · have hs : spot = none := hspot hpos
      subst hs
      refine ⟨b, off, rfl, ?_, fun k x hk => ?_⟩
      · have := (hf 0 hpos).1.1; rw [e _ _ rfl] at this; exact block_lt_of_cell this
      · have hkl : k < len := by
          rcases Nat.lt_or_ge k len with h1 | h1
          · exact h1
          · rw [List.getElem?_eq_none (by simpa using h1)] at hk; cases hk
        rw [List.getElem?_map, List.getElem?_range hkl] at hk
        injection hk with hk; subst hk
        obtain ⟨⟨e0, e1, e2⟩, _⟩ := hf k hkl
        rw [e _ _ rfl] at e0 e1 e2
        exact ⟨e0, e1, e2⟩
end
end Go.Proofs.Ytjpomohfoknjiaa
