/- Blocks that a work takes of its space, and gives back. -/
import Derived.Test.YtbkgpilmgllkiaaFileSmall
namespace Go.Proofs.Ytbkgpilmgllkiaa
open Go.ChangeShapes Go.WideShapes Go.ChangeAt Go.RowKit

/-- what take answers: the space then, the extent, the error -/
def takeN (S : Sp) (m : Nat) : Sp × Nat × Nat × Nat :=
  if m = 0 then (S, 0, 0, 0) else if (takeS S m).2.2 = 0 then ((takeS S m).1, (takeS S m).2.1, m, 0) else ((takeS S m).1, 0, 0, (takeS S m).2.2)
def giveN (S : Sp) (f m : Nat) : Sp := if m = 0 then S else (giveS S f m).1

/-- a block of the call's own, made behind w and ahead of a call, may be written -/
theorem SysTo.own {w w1 w2 w3 : World} {G : Nat → Prop} {p : Wp} {F : Fs} {n g : Nat} (h : SysTo w1 G p F n w2) (hb : Below w.heap.size w w1) (hg1 : w.heap.size ≤ g) (hg2 : g < w1.heap.size) (hG : ∀ k, G k → k < w.heap.size) (hst : ∀ q ∈ F.A.st, q.1 ≠ g) (hf : Far (fun k => k = g) w2 w3) : SysTo w G p F n w3 := by
  obtain ⟨G', h1, h2, h3⟩ := h
  refine ⟨G', h1.far hf (fun k hk e => ?_) hst, ((Far.of_below hb G).trans h2 fun b hb' => .inl hb').trans hf fun b e => .inr (by rw [e]; exact hg1), fun k hk => (h3 k hk).imp id fun h => Nat.le_trans hb.size h⟩
  subst e
  rcases h3 k hk with h4 | h4
  · have := hG k h4; omega
  · omega
theorem Far.one {w : World} (g i : Nat) (v : Value) : Far (fun k => k = g) w (w.setCell ⟨g, i, none⟩ v) := (Far.refl (fun k => k = g) w).set (p := ⟨g, i, none⟩) (.inl rfl) v

theorem Far.two (w : World) (g i j : Nat) (u v : Value) : Far (fun k => k = g) w ((w.setCell ⟨g, i, none⟩ u).setCell ⟨g, j, none⟩ v) := (Far.one g i u).set (p := ⟨g, j, none⟩) (.inl rfl) v
set_option maxHeartbeats 1000000 in
set_option maxRecDepth 100000 in
theorem ftake_any {w : World} {G : Nat → Prop} {p : Wp} {F : Fs} {n : Nat} (h : Sys w G p F n) (m : Nat) (hm : m ≤ 100000000) :
    Calls Try.prog 57 #[.pointer (some ⟨p.w, 0, none⟩), .int .i64 m] w fun e w' => e = .returned (.tuple #[.agg #[.int .i64 (takeN F.S m).2.1, .int .i64 (takeN F.S m).2.2.1], .int .i64 (takeN F.S m).2.2.2]) ∧ SysTo w G p { F with S := (takeN F.S m).1 } n w' := by
  have hb1 := (Below.refl w.heap.size w).alloc (Nat.le_refl _) (.cells #[.int .i64 0, .int .i64 0] 98)
  have hrow : Row (w.alloc (.cells #[.int .i64 0, .int .i64 0] 98)) w.heap.size 98 [.int .i64 0, .int .i64 0] := heap_alloc_new _ _
  have h1 := h.below hb1
  by_cases hm0 : m = 0
  · subst hm0
    have e0 : takeN F.S 0 = (F.S, 0, 0, 0) := rfl
    rw [e0]
    have HX : Hid (SysTo w G p F n (w.alloc (.cells #[.int .i64 0, .int .i64 0] 98))) := SysTo.of_below h hb1
    have r0 := hrow.cell 0
    have r1 := hrow.cell 1
    clear h h1 hb1 hrow e0
    go_enter Try.func57, Try.ntmps57
    go_wp2
    refine bodyPost_ret (v := .tuple #[.agg #[.int .i64 0, .int .i64 0], .int .i64 0]) (by simp [results, Try.results57, go_sem, r0, r1]) rfl ⟨rfl, HX.out⟩
  · have g0 : ((m : Int) == 0) = false := by simpa using hm0
    have c2 : (w.alloc (.cells #[.int .i64 0, .int .i64 0] 98)).cell? ⟨p.w, 2, none⟩ = some (.pointer (some ⟨p.s, 0, none⟩)) := h1.row.cell 2
    have hlt := fun k hk => h.lt (k := k) hk
    have hbuf : ∀ q ∈ F.A.st, q.1 ≠ w.heap.size := fun q hq e => by have := (h.buf hq).1.lt; omega
    obtain ⟨Gs, hs, hback⟩ := h1.spc
    have ht := take_any p.s F.S Gs m _ hs (I64.of (by omega) (by omega))
    have hz : (w.alloc (.cells #[.int .i64 0, .int .i64 0] 98)).heap.size = w.heap.size + 1 := by simp
    have HE : Hid (takeN F.S m = if (takeS F.S m).2.2 = 0 then ((takeS F.S m).1, (takeS F.S m).2.1, m, 0) else ((takeS F.S m).1, 0, 0, (takeS F.S m).2.2)) := by unfold Hid takeN; rw [if_neg hm0]
    have HT := Lib.hid ht
    have HBK := Lib.hid hback
    have HROW := Lib.hid hrow
    have HB := Lib.hid hb1
    have HLT := Lib.hid hlt
    have HBUF := Lib.hid hbuf
    have HZ := Lib.hid hz
    rw [HE.out]
    clear ht hback hrow hb1 hlt hbuf h h1 hs HE hz
    generalize takeS F.S m = q at *
    obtain ⟨S', a, er⟩ := q
    simp only at HT ⊢
    by_cases he : er = 0
    · subst he
      rw [if_pos rfl]
      go_enter Try.func57, Try.ntmps57
      go_wp2_with fail
      refine HT.out.mono ?_; rintro e w2 ⟨rfl, hn⟩
      have ht2 := HBK.out _ _ hn
      have hg2 : Row w2 w.heap.size 98 [.int .i64 0, .int .i64 0] := by
        obtain ⟨G', k1, k2, k3⟩ := ht2
        exact k2.row HROW.out fun hg => by have := HLT.out _ hg; omega
      have HS2 : Hid (∀ w3, Far (fun k => k = w.heap.size) w2 w3 → SysTo w G p { F with S := S' } n w3) := fun w3 hf => ht2.own HB.out (Nat.le_refl _) (by rw [HZ.out]; omega) HLT.out HBUF.out hf
      have b0 : w2.cell? ⟨w.heap.size, 0, none⟩ = some (.int .i64 0) := hg2.cell 0
      have b1 : w2.cell? ⟨w.heap.size, 1, none⟩ = some (.int .i64 0) := hg2.cell 1
      have f0 := hg2.free 0
      have f1 := hg2.free 1
      have HG2 := Lib.hid hg2
      clear ht2 hn hg2 HBK HT
      go_wp2
      have hg3 : Row ((w2.setCell ⟨w.heap.size, 0, none⟩ (.int .i64 (a : Int))).setCell ⟨w.heap.size, 1, none⟩ (.int .i64 (m : Int))) w.heap.size 98 [.int .i64 (a : Int), .int .i64 (m : Int)] := (HG2.out.set 0 _).set 1 _
      have r0 := hg3.cell 0
      have r1 := hg3.cell 1
      refine bodyPost_ret (v := .tuple #[.agg #[.int .i64 (a : Int), .int .i64 (m : Int)], .int .i64 0]) (by simp [results, Try.results57, go_sem, r0, r1]) rfl ⟨rfl, HS2.out _ (Far.two _ _ _ _ _ _)⟩
    · rw [if_neg he]
      have g1 : ((er : Int) != 0) = true := by simpa using he
      go_enter Try.func57, Try.ntmps57
      go_wp2_with fail
      refine HT.out.mono ?_; rintro e w2 ⟨rfl, hn⟩
      have ht2 := HBK.out _ _ hn
      have hg2 : Row w2 w.heap.size 98 [.int .i64 0, .int .i64 0] := by
        obtain ⟨G', k1, k2, k3⟩ := ht2
        exact k2.row HROW.out fun hg => by have := HLT.out _ hg; omega
      have HS2 : Hid (∀ w3, Far (fun k => k = w.heap.size) w2 w3 → SysTo w G p { F with S := S' } n w3) := fun w3 hf => ht2.own HB.out (Nat.le_refl _) (by rw [HZ.out]; omega) HLT.out HBUF.out hf
      have b0 : w2.cell? ⟨w.heap.size, 0, none⟩ = some (.int .i64 0) := hg2.cell 0
      have b1 : w2.cell? ⟨w.heap.size, 1, none⟩ = some (.int .i64 0) := hg2.cell 1
      have f0 := hg2.free 0
      have f1 := hg2.free 1
      have HG2 := Lib.hid hg2
      clear ht2 hn hg2 HBK HT
      go_wp2
      have hg3 : Row ((w2.setCell ⟨w.heap.size, 0, none⟩ (.int .i64 0)).setCell ⟨w.heap.size, 1, none⟩ (.int .i64 0)) w.heap.size 98 [.int .i64 0, .int .i64 0] := (HG2.out.set 0 _).set 1 _
      have r0 := hg3.cell 0
      have r1 := hg3.cell 1
      refine bodyPost_ret (v := .tuple #[.agg #[.int .i64 0, .int .i64 0], .int .i64 (er : Int)]) (by simp [results, Try.results57, go_sem, r0, r1]) rfl ⟨rfl, HS2.out _ (Far.two _ _ _ _ _ _)⟩

theorem SysTo.cell {w w1 : World} {G : Nat → Prop} {p : Wp} {F : Fs} {n : Nat} (h : SysTo w G p F n w1) : w1.cell? ⟨p.w, 0, none⟩ = some (.pointer (some ⟨p.d, 0, none⟩)) ∧ w1.cell? ⟨p.w, 1, none⟩ = some (.pointer (some ⟨p.a, 0, none⟩)) ∧ w1.cell? ⟨p.w, 2, none⟩ = some (.pointer (some ⟨p.s, 0, none⟩)) := by
  obtain ⟨G', h1, _⟩ := h
  exact ⟨h1.row.cell 0, h1.row.cell 1, h1.row.cell 2⟩
theorem SysTo.row {w w1 : World} {G : Nat → Prop} {p : Wp} {F : Fs} {n g : Nat} {t : TypeId} {cs : List Value} (h : SysTo w G p F n w1) (hr : Row w g t cs) (hg : ¬ G g) : Row w1 g t cs := by
  obtain ⟨G', h1, h2, _⟩ := h
  exact h2.row hr hg
theorem SysTo.trans {w w1 w' : World} {G : Nat → Prop} {p : Wp} {F F' : Fs} {n n' : Nat} (h : SysTo w G p F n w1) (h2 : ∀ G', Sys w1 G' p F n → (∀ k, G' k → G k ∨ w.heap.size ≤ k) → SysTo w1 G' p F' n' w') : SysTo w G p F' n' w' := by
  obtain ⟨G', h1, h3, h4⟩ := h
  obtain ⟨G'', k1, k2, k3⟩ := h2 G' h1 h4
  exact ⟨G'', k1, h3.trans k2 h4, fun k hk => (k3 k hk).elim (fun h => h4 k h) fun h => .inr (Nat.le_trans h3.size h)⟩
set_option maxHeartbeats 1000000 in
set_option maxRecDepth 100000 in
theorem fgive_any {w : World} {G : Nat → Prop} {p : Wp} {F : Fs} {n : Nat} (h : Sys w G p F n) (f m : Nat) (hf : f ≤ 100000000) (hm : m ≤ 100000000) :
    Calls Try.prog 59 #[.pointer (some ⟨p.w, 0, none⟩), .agg #[.int .i64 f, .int .i64 m]] w fun e w' => e = .returned (.tuple #[]) ∧ SysTo w G p { F with S := giveN F.S f m } n w' := by
  have hb1 := (Below.refl w.heap.size w).alloc (Nat.le_refl _) (.cells #[.int .i64 f, .int .i64 m] 98)
  have hrow : Row (w.alloc (.cells #[.int .i64 f, .int .i64 m] 98)) w.heap.size 98 [.int .i64 f, .int .i64 m] := heap_alloc_new _ _
  have hnG : ¬ G w.heap.size := fun hg => by have := h.lt hg; omega
  by_cases hm0 : m = 0
  · subst hm0
    have e0 : giveN F.S f 0 = F.S := rfl
    rw [e0]
    have HX : Hid (SysTo w G p F n (w.alloc (.cells #[.int .i64 f, .int .i64 0] 98))) := SysTo.of_below h hb1
    clear h hb1 hrow e0
    go_enter Try.func59, Try.ntmps59
    go_wp2
    go_end0
    exact ⟨rfl, HX.out⟩
  · have g0 : decide ((m : Int) > 0) = true := by simp; omega
    have e0 : giveN F.S f m = (giveS F.S f m).1 := by unfold giveN; rw [if_neg hm0]
    have h1 := h.below hb1
    have HGV : Hid (∀ q, Calls Try.prog 42 #[.pointer (some ⟨p.s, 0, none⟩), .int .i64 f, .int .i64 m] ((w.alloc (.cells #[.int .i64 f, .int .i64 m] 98)).drewN q) fun e w' => e = .returned (.int .i64 ((giveS F.S f m).2 : Nat)) ∧ SysTo ((w.alloc (.cells #[.int .i64 f, .int .i64 m] 98)).drewN q) G p { F with S := (giveS F.S f m).1 } n w') := fun q => by
      obtain ⟨Gs, hs, hback⟩ := (h1.below (below_drewN (Below.refl _ _) q)).spc
      exact (give_any p.s F.S Gs f m _ hs (I64.of (by omega) (by omega)) (I64.of (by omega) (by omega))).mono fun e w' ⟨he, hn⟩ => ⟨he, hback _ _ hn⟩
    have c2 : (w.alloc (.cells #[.int .i64 f, .int .i64 m] 98)).cell? ⟨p.w, 2, none⟩ = some (.pointer (some ⟨p.s, 0, none⟩)) := h1.row.cell 2
    have b0 : (w.alloc (.cells #[.int .i64 f, .int .i64 m] 98)).cell? ⟨w.heap.size, 0, none⟩ = some (.int .i64 f) := hrow.cell 0
    have b1 : (w.alloc (.cells #[.int .i64 f, .int .i64 m] 98)).cell? ⟨w.heap.size, 1, none⟩ = some (.int .i64 m) := hrow.cell 1
    have HB := Lib.hid hb1
    have HROW := Lib.hid hrow
    rw [e0]
    clear h1 h hb1 hrow e0
    generalize giveS F.S f m = q at *
    go_enter Try.func59, Try.ntmps59
    go_wp2
    generalize w.alloc (.cells #[.int .i64 f, .int .i64 m] 98) = w1 at *
    have e0 : w1.drew.cell? ⟨p.w, 2, none⟩ = some (.pointer (some ⟨p.s, 0, none⟩)) := c2
    have e1 : w1.drew.cell? ⟨w.heap.size, 0, none⟩ = some (.int .i64 (f : Int)) := b0
    have e2 : w1.drew.cell? ⟨w.heap.size, 1, none⟩ = some (.int .i64 (m : Int)) := b1
    go_region_held3 (fun w' => w'.cell? ⟨p.w, 2, none⟩ = some (.pointer (some ⟨p.s, 0, none⟩)) ∧ w'.cell? ⟨w.heap.size, 0, none⟩ = some (.int .i64 (f : Int)) ∧ w'.cell? ⟨w.heap.size, 1, none⟩ = some (.int .i64 (m : Int))) (first | with_reducible exact ⟨e0, e1, e2⟩ | with_reducible exact ⟨d0, d1, d2⟩)
      (first
        | (go_at_call 42; refine (HGV.out 1).mono ?_; rintro e w5 ⟨rfl, h5⟩; have d0 := h5.cell.2.2; have d1 : w5.cell? ⟨w.heap.size, 0, none⟩ = some (.int .i64 (f : Int)) := (h5.row (HROW.out.drewN 1) hnG).cell 0; have d2 : w5.cell? ⟨w.heap.size, 1, none⟩ = some (.int .i64 (m : Int)) := (h5.row (HROW.out.drewN 1) hnG).cell 1))
    go_wp2
    go_end0
    exact ⟨rfl, h5.behind (below_drewN HB.out 1)⟩
end Go.Proofs.Ytbkgpilmgllkiaa
