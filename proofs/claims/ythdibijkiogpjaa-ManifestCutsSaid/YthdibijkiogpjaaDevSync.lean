/- What the device's Sync answers. -/
import Derived.Test.YthdibijkiogpjaaDevWrite
namespace Go.Proofs.Ythdibijkiogpjaa
open Go.ChangeShapes Go.WideShapes Go.ChangeAt Go.RowKit Go.Maps

/-- the device behind a Sync -/
theorem sync_end {G : Nat → Prop} {p n bl bf nl : Nat} {s : St} {v : Value} {w1 w2 : World} {ff gl : Int → Option Value}
    (hfit : Fits s n) (k1 : Row w1 p 74 (cellsOf s bl bf v)) (k2 : MapF w1 bl nl gl) (k6 : G p) (k7 : G bl) (k9 : ∀ k, G k → k < w1.heap.size) (k10 : nl + s.later.length ≤ n)
    (hrl : ∀ x, Rel w1 G (gl x) (s.fl x)) (hrf : ∀ x, Rel w1 G (ff x) (lay nothing s.later x))
    (hm2 : MapF w2 bl (nl + s.later.length) (over ff gl)) (hg2 : w1.grownBy w2 (some bl)) :
    ∃ G', Dev (((w2.alloc (.map #[] 0)).setCell ⟨p, 3, none⟩ (.map (some w2.heap.size))).setCell ⟨p, 4, none⟩ (.slice none 0 0)) G' p { s with fl := lay s.fl s.later, later := [] } n ∧
      Far G w1 (((w2.alloc (.map #[] 0)).setCell ⟨p, 3, none⟩ (.map (some w2.heap.size))).setCell ⟨p, 4, none⟩ (.slice none 0 0)) ∧ ∀ k, G' k → G k ∨ w1.heap.size ≤ k := by
  have hpb : p ≠ bl := k2.not_row k1
  have F2 : Far (fun k => k = p ∨ k = bl) w1 w2 := (Far.refl _ w1).grown hg2 fun k hk => by injection hk with hk; exact .inl (.inr hk.symm)
  have F3 := ((F2.alloc (.map #[] 0)).set (p := ⟨p, 3, none⟩) (.inl (.inl rfl)) (.map (some w2.heap.size))).set (p := ⟨p, 4, none⟩) (.inl (.inl rfl)) (.slice none 0 0)
  have hz2 := F2.size
  have hplt := k9 p k6
  have h2p : Row w2 p 74 (cellsOf s bl bf v) := (hg2.block p k1.lt (by intro e; injection e with e; exact hpb e)).trans k1
  have h3p : Row (((w2.alloc (.map #[] 0)).setCell ⟨p, 3, none⟩ (.map (some w2.heap.size))).setCell ⟨p, 4, none⟩ (.slice none 0 0)) p 74 (cellsOf { s with fl := lay s.fl s.later, later := [] } bl w2.heap.size (.slice none 0 0)) :=
    ((h2p.alloc (.map #[] 0)).set 3 (.map (some w2.heap.size))).set 4 (.slice none 0 0)
  have z3 : (((w2.alloc (.map #[] 0)).setCell ⟨p, 3, none⟩ (.map (some w2.heap.size))).setCell ⟨p, 4, none⟩ (.slice none 0 0)).heap.size = w2.heap.size + 1 := by simp
  have hfar2 : ∀ k, k ≠ p → k < w2.heap.size → (((w2.alloc (.map #[] 0)).setCell ⟨p, 3, none⟩ (.map (some w2.heap.size))).setCell ⟨p, 4, none⟩ (.slice none 0 0)).heap[k]? = w2.heap[k]? := fun k hk hlt => by
    rw [heap_setCell_other _ ⟨p, 4, none⟩ k _ hk, heap_setCell_other _ ⟨p, 3, none⟩ k _ hk, Below.heap_alloc _ _ _ hlt]
  have hrows : ∀ k cs, Row w1 k 38 cs → k ≠ p ∧ k ≠ bl := fun k cs hk => by
    refine ⟨fun e => ?_, k2.not_row hk⟩
    subst e; unfold Row at k1 hk; rw [k1] at hk; injection hk with hk; injection hk with _ hk; exact absurd hk (by decide)
  have hkeep : ∀ k cs, Row w1 k 38 cs → G k → (((w2.alloc (.map #[] 0)).setCell ⟨p, 3, none⟩ (.map (some w2.heap.size))).setCell ⟨p, 4, none⟩ (.slice none 0 0)).heap[k]? = w1.heap[k]? := fun k cs hk _ => F3.block k hk.lt fun hf => by
    obtain ⟨a1, a2⟩ := hrows k cs hk
    rcases hf with hf | hf
    · exact a1 hf
    · exact a2 hf
  generalize hw3 : ((w2.alloc (.map #[] 0)).setCell ⟨p, 3, none⟩ (.map (some w2.heap.size))).setCell ⟨p, 4, none⟩ (.slice none 0 0) = w3 at *
  have hnew : MapF w3 w2.heap.size 0 nothing := by
    refine (MapF.made w2).same ?_
    rw [← hw3, heap_setCell_other _ ⟨p, 4, none⟩ _ _ (by show w2.heap.size ≠ p; omega), heap_setCell_other _ ⟨p, 3, none⟩ _ _ (by show w2.heap.size ≠ p; omega)]
  refine ⟨fun k => G k ∨ k = w2.heap.size, ⟨⟨hfit.size, hfit.blocks, hfit.fn, hfit.tn, hfit.acts, hfit.small, fun e he => (by cases he), ?_⟩, bl, w2.heap.size, .slice none 0 0, nl + s.later.length, h3p, ⟨over ff gl, hm2.same (hfar2 bl hpb.symm (hm2.lt)), fun x => ?_⟩, ⟨nothing, hnew, fun x => trivial⟩, Later.nil _ _, ?_, .inl k6, .inl k7, .inr rfl, fun k hk => ?_, k10⟩, F3.mono fun b hb => ?_, fun k hk => ?_⟩
  · exact lay_all (fun l => l.length = s.size) s.later s.fl hfit.fl fun e he => (hfit.later e he).2
  · show Rel w3 _ (over ff gl x) (lay s.fl s.later x)
    rw [lay_eq]
    have h1 := (hrl x).keep hkeep (fun k _ _ hk => (.inl hk : G k ∨ k = w2.heap.size))
    have h2 := (hrf x).keep hkeep (fun k _ _ hk => (.inl hk : G k ∨ k = w2.heap.size))
    simp only [over]
    rcases hff : ff x with _ | a <;> rcases hll : lay nothing s.later x with _ | b
    · exact h1
    · rw [hff, hll] at h2; exact h2.elim
    · rw [hff, hll] at h2; exact h2.elim
    · rw [hff, hll] at h2; exact h2
  · have := k9 bl k7; omega
  · rw [z3]
    rcases hk with hk | hk
    · have := k9 k hk; omega
    · omega
  · rcases hb with hb | hb
    · subst hb; exact k6
    · subst hb; exact k7
  · rcases hk with hk | hk
    · exact .inl hk
    · exact .inr (by omega)

set_option maxHeartbeats 1600000 in
theorem sync_any (p : Nat) (s : St) (n : Nat) (G : Nat → Prop) (w : World) (h : Dev w G p s n) (hn : n < 1000000) :
    Calls Try.prog 39 #[.pointer (some ⟨p, 0, none⟩)] w fun e w' => e = .returned (.int .i64 (sync s).1) ∧ ∃ G', Dev w' G' p (sync s).2 (n + 1) ∧ Far G w w' ∧ ∀ k, G' k → G k ∨ w.heap.size ≤ k := by
  have hmm := @run_makeMap Try.prog
  have ha := act_any p s n G true w h hn
  have HMINE := Lib.hid h.mine
  have HR : Hid (sync s = if (begin s true).1 = 0 then (0, { (begin s true).2 with fl := lay s.fl s.later, later := [] }) else begin s true) := rfl
  rw [HR.out]
  obtain ⟨e1, e2, e3, e4⟩ := begin_same s true
  have HE3 := Lib.hid e3
  have HE4 := Lib.hid e4
  clear e1 e2 e3 e4 h HR
  generalize begin s true = r at *
  obtain ⟨er, s'⟩ := r
  simp only at ha HE3 HE4 ⊢
  by_cases he : er = 0
  · subst he
    rw [if_pos rfl]
    go_enter Try.func39, Try.ntmps39
    go_wp2_with fail
    refine ha.mono ?_
    rintro e w1 ⟨rfl, hd1, hf1⟩
    obtain ⟨hfit, bl, bf, v, nl, k1, k2, k3, k4, k5, k6, k7, k8, k9, k10⟩ := hd1
    obtain ⟨gl, hml, hrl⟩ := k2
    obtain ⟨ff, hmf, hrf⟩ := k3
    have hsm := hfit.small
    have hc := mcopy_any bl nl bf s'.later.length gl ff w1.drew hml hmf k5 (by omega)
    have c2 : w1.cell? ⟨p, 2, none⟩ = some (.map (some bl)) := k1.cell 2
    have c3 : w1.cell? ⟨p, 3, none⟩ = some (.map (some bf)) := k1.cell 3
    have HPB : Hid (p ≠ bl) := hml.not_row k1
    have HEND := Lib.hid (fun (w2 : World) (hm2 : MapF w2 bl (nl + s'.later.length) (over ff gl)) (hg2 : w1.grownBy w2 (some bl)) => sync_end hfit k1 hml k6 k7 k9 (by omega) hrl hrf hm2 hg2)
    have HK1 := Lib.hid k1
    have HF1 := Lib.hid hf1
    clear hfit k1 hml hmf hrl hrf k4 k5 k6 k7 k8 k9 k10 hf1 ha hsm
    go_wp2
    go_region_held3 (fun w' => w'.cell? ⟨p, 2, none⟩ = some (.map (some bl)) ∧ w'.cell? ⟨p, 3, none⟩ = some (.map (some bf))) (first | exact ⟨c2, c3⟩ | exact ⟨d2, d3⟩) ((go_at_call 52; refine hc.mono ?_; rintro e w2 ⟨rfl, hm2, hg2⟩; obtain ⟨d2, d3, HG2⟩ : w2.cell? ⟨p, 2, none⟩ = some (.map (some bl)) ∧ w2.cell? ⟨p, 3, none⟩ = some (.map (some bf)) ∧ Hid (w1.grownBy w2 (some bl)) := ⟨hg2.cell c2 (by intro e; injection e with e; exact HPB.out e), hg2.cell c3 (by intro e; injection e with e; exact HPB.out e), ⟨hg2.os, hg2.tape, hg2.output, hg2.size, hg2.block⟩⟩))
    obtain ⟨G', hd3, hf3, hg3⟩ := HEND.out _ hm2 HG2.out
    have HD3 := Lib.hid hd3
    have HF3 := Lib.hid hf3
    have HG3 := Lib.hid hg3
    have hr2 : Row w2 p 74 (cellsOf s' bl bf v) := (HG2.out.block p HK1.out.lt (by intro e; injection e with e; exact HPB.out e)).trans HK1.out
    have hr3 := hr2.alloc (.map #[] 0)
    have f3 := hr3.free 3
    have f4 := hr3.free 4
    have c3 : (w2.alloc (.map #[] 0)).cell? ⟨p, 3, none⟩ = some (.map (some bf)) := hr3.cell 3
    obtain ⟨u4, c4⟩ : ∃ u, (w2.alloc (.map #[] 0)).cell? ⟨p, 4, none⟩ = some u := ⟨_, hr3.cell 4⟩
    clear hd3 hf3 hg3 hr2 hr3 hm2 hc c2 d2 d3
    go_wp2
    go_ret
    refine ⟨rfl, G', ?_, ?_, fun k hk => ?_⟩
    · rw [← HE3.out, ← HE4.out]; exact HD3.out
    · exact (HF1.out.mono fun b hb => by subst hb; exact HMINE.out).trans HF3.out fun b hb => .inl hb
    · rcases HG3.out k hk with h | h
      · exact .inl h
      · exact .inr (Nat.le_trans HF1.out.size h)
  · have g : (er != 0) = true := by simpa using he
    rw [if_neg he]
    clear he
    go_enter Try.func39, Try.ntmps39
    go_wp2_with fail
    refine ha.mono ?_
    rintro e w1' ⟨rfl, hd1, hf1⟩
    have HD1 := Lib.hid (hd1.up (Nat.le_succ n))
    have HF1 := Lib.hid hf1
    clear hd1 hf1 ha
    go_wp2
    go_ret
    exact ⟨rfl, G, HD1.out, HF1.out.mono fun b hb => by subst hb; exact HMINE.out, fun k hk => .inl hk⟩
theorem sync_nil (w : World) : Calls Try.prog 39 #[.pointer none] w fun e w' => e = .returned (.int .i64 8) ∧ w' = w := by
  go_enter Try.func39, Try.ntmps39
  go_wp2_with fail
  refine (begin_nil true _).mono ?_
  rintro e w1 ⟨rfl, rfl⟩
  go_wp2
  go_ret
  exact ⟨rfl, rfl⟩
end Go.Proofs.Ythdibijkiogpjaa
