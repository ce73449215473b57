/- A work in memory: a device, an arena and a space, apart from each other; kept over what is made elsewhere; what an act of one of the three makes of all. -/
import Derived.Test.YtbkgpilmgllkiaaFileMath
import Derived.Test.YtbkgpilmgllkiaaSpSem
import Derived.Test.YtbkgpilmgllkiaaSealGet
import Derived.Test.YtbkgpilmgllkiaaDevWrite
import Derived.Test.YtbkgpilmgllkiaaArFn
namespace Go.Proofs.Ytbkgpilmgllkiaa
open Go.ChangeShapes Go.WideShapes Go.ChangeAt Go.RowKit

theorem below_drew {B : Nat} {a w : World} (h : Below B a w) : Below B a w.drew := ⟨h.os, h.tape, h.output, h.size, h.block⟩
/-- where a work lies: its own block, and those of its device, arena and space -/
structure Wp where
  w : Nat
  d : Nat
  a : Nat
  s : Nat
/-- what a work's device, arena and space are -/
structure Fs where
  D : St
  A : Ar
  S : Sp
/-- a work in memory; all its memory is G; no buffer that stands lies in it -/
def Sys (w : World) (G : Nat → Prop) (p : Wp) (F : Fs) (n : Nat) : Prop :=
  ∃ Gd Ga Gs, Row w p.w 96 [ptr p.d, ptr p.a, ptr p.s] ∧ Dev w Gd p.d F.D n ∧ Arn w Ga p.a F.A ∧ Spc w Gs p.s F.S ∧ (∀ k, G k ↔ k = p.w ∨ Gd k ∨ Ga k ∨ Gs k) ∧
    (∀ k, Gd k → ¬ Ga k ∧ ¬ Gs k ∧ k ≠ p.w) ∧ (∀ k, Ga k → ¬ Gs k ∧ k ≠ p.w) ∧ (∀ k, Gs k → k ≠ p.w) ∧ ∀ q ∈ F.A.st, ¬ G q.1
/-- behind a call -/
def SysTo (w : World) (G : Nat → Prop) (p : Wp) (F : Fs) (n : Nat) (w' : World) : Prop := ∃ G', Sys w' G' p F n ∧ Far G w w' ∧ ∀ k, G' k → G k ∨ w.heap.size ≤ k

section
variable {w w' : World} {G : Nat → Prop} {p : Wp} {F : Fs} {n : Nat}
theorem Sys.lt (h : Sys w G p F n) {k : Nat} (hk : G k) : k < w.heap.size := by
  obtain ⟨Gd, Ga, Gs, hr, hd, ha, hs, hG, _⟩ := h
  rcases (hG k).1 hk with rfl | h | h | h
  · exact hr.lt
  · exact hd.lt h
  · exact ha.lt h
  · exact hs.lt h
theorem Sys.row (h : Sys w G p F n) : Row w p.w 96 [ptr p.d, ptr p.a, ptr p.s] := by obtain ⟨Gd, Ga, Gs, hr, _⟩ := h; exact hr
theorem Sys.mine (h : Sys w G p F n) : G p.w := by obtain ⟨Gd, Ga, Gs, hr, hd, ha, hs, hG, _⟩ := h; exact (hG _).2 (.inl rfl)
theorem Sys.size (h : Sys w G p F n) : 8 ≤ F.D.size ∧ F.D.size ≤ 256 := by obtain ⟨Gd, Ga, Gs, hr, hd, _⟩ := h; exact hd.fits.size
theorem Sys.sound (h : Sys w G p F n) : Sound F.A := by obtain ⟨Gd, Ga, Gs, hr, hd, ha, _⟩ := h; exact ha.sound
theorem Sys.sok (h : Sys w G p F n) : F.S.ok := by obtain ⟨Gd, Ga, Gs, hr, hd, ha, hs, _⟩ := h; exact hs.1
theorem Sys.fits (h : Sys w G p F n) : Fits F.D n := by obtain ⟨Gd, Ga, Gs, hr, hd, _⟩ := h; exact hd.fits
theorem Sys.buf (h : Sys w G p F n) {q : Nat × Nat} (hq : q ∈ F.A.st) : Buf w q.1 ∧ ¬ G q.1 := by obtain ⟨Gd, Ga, Gs, hr, hd, ha, hs, hG, _, _, _, hb⟩ := h; exact ⟨ha.buf hq, hb q hq⟩
theorem Sys.far {R : Nat → Prop} (h : Sys w G p F n) (hf : Far R w w') (hG : ∀ k, G k → ¬ R k) (hB : ∀ q ∈ F.A.st, ¬ R q.1) : Sys w' G p F n := by
  obtain ⟨Gd, Ga, Gs, hr, hd, ha, hs, hg, h1, h2, h3, h4⟩ := h
  exact ⟨Gd, Ga, Gs, hf.row hr (hG _ ((hg _).2 (.inl rfl))), hd.far hf fun k hk => hG k ((hg k).2 (.inr (.inl hk))), ha.far hf (fun k hk => hG k ((hg k).2 (.inr (.inr (.inl hk))))) hB, hs.far hf fun k hk => hG k ((hg k).2 (.inr (.inr (.inr hk)))), hg, h1, h2, h3, h4⟩
theorem Sys.below (h : Sys w G p F n) (hb : Below w.heap.size w w') : Sys w' G p F n := h.far (Far.of_below hb fun _ => False) (fun _ _ hf => hf) fun _ _ hf => hf
theorem Sys.mono {n' : Nat} (h : Sys w G p F n) (hn : n ≤ n') (h6 : n' ≤ 1000000) : Sys w G p F n' := by
  obtain ⟨Gd, Ga, Gs, hr, hd, r⟩ := h; exact ⟨Gd, Ga, Gs, hr, hd.mono hn h6, r⟩
theorem SysTo.of_below (h : Sys w G p F n) (hb : Below w.heap.size w w') : SysTo w G p F n w' := ⟨G, h.below hb, Far.of_below hb G, fun _ hk => .inl hk⟩
theorem SysTo.refl (h : Sys w G p F n) : SysTo w G p F n w := SysTo.of_below h (Below.refl _ _)
theorem SysTo.behind {w1 : World} (hb : Below w.heap.size w w1) (h : SysTo w1 G p F n w') : SysTo w G p F n w' := by
  obtain ⟨G', h1, h2, h3⟩ := h
  exact ⟨G', h1, (Far.of_below hb G).trans h2 fun b hb' => .inl hb', fun k hk => (h3 k hk).imp id fun h => Nat.le_trans hb.size h⟩
theorem SysTo.ahead {w1 : World} (h : SysTo w G p F n w1) (hb : Below w1.heap.size w1 w') : SysTo w G p F n w' := by
  obtain ⟨G', h1, h2, h3⟩ := h
  exact ⟨G', h1.below hb, h2.trans (Far.of_below hb fun _ => False) fun _ hf => hf.elim, h3⟩
theorem SysTo.mono {n' : Nat} (h : SysTo w G p F n w') (hn : n ≤ n') (h6 : n' ≤ 1000000) : SysTo w G p F n' w' := by
  obtain ⟨G', h1, h2⟩ := h; exact ⟨G', h1.mono hn h6, h2⟩
/-- a block that isn't the work's, and was there, is none of it behind a call -/
theorem SysTo.apart (h : SysTo w G p F n w') : ∃ G', Sys w' G' p F n ∧ Far G w w' ∧ (∀ k, G' k → G k ∨ w.heap.size ≤ k) ∧ ∀ k, k < w.heap.size → ¬ G k → ¬ G' k := by
  obtain ⟨G', h1, h2, h3⟩ := h
  exact ⟨G', h1, h2, h3, fun k hk hn hg => (h3 k hg).elim hn fun h => by omega⟩

/-- the device, and what an act of it makes of all -/
theorem Sys.dev (h : Sys w G p F n) : ∃ Gd, Dev w Gd p.d F.D n ∧ ∀ w' D' n', (∃ Gd', Dev w' Gd' p.d D' n' ∧ Far Gd w w' ∧ ∀ k, Gd' k → Gd k ∨ w.heap.size ≤ k) → SysTo w G p { F with D := D' } n' w' := by
  have hlt := fun k hk => h.lt (k := k) hk
  obtain ⟨Gd, Ga, Gs, hr, hd, ha, hs, hg, h1, h2, h3, h4⟩ := h
  refine ⟨Gd, hd, fun w' D' n' ⟨Gd', k1, k2, k3⟩ => ⟨fun k => k = p.w ∨ Gd' k ∨ Ga k ∨ Gs k, ⟨Gd', Ga, Gs, ?_, k1, ?_, ?_, fun k => Iff.rfl, ?_, h2, h3, ?_⟩, k2.mono fun k hk => (hg k).2 (.inr (.inl hk)), ?_⟩⟩
  · exact k2.row hr fun hk => (h1 _ hk).2.2 rfl
  · exact ha.far k2 (fun k hk hk2 => (h1 k hk2).1 hk) fun q hq hk => h4 q hq ((hg _).2 (.inr (.inl hk)))
  · exact hs.far k2 fun k hk hk2 => (h1 k hk2).2.1 hk
  · intro k hk
    rcases k3 k hk with h5 | h5
    · exact h1 k h5
    · refine ⟨fun h6 => ?_, fun h6 => ?_, fun h6 => ?_⟩
      · have := hlt k ((hg k).2 (.inr (.inr (.inl h6)))); omega
      · have := hlt k ((hg k).2 (.inr (.inr (.inr h6)))); omega
      · have := hr.lt; omega
  · intro q hq hk
    rcases hk with h5 | h5 | h5 | h5
    · exact h4 q hq ((hg _).2 (.inl h5))
    · rcases k3 _ h5 with h6 | h6
      · exact h4 q hq ((hg _).2 (.inr (.inl h6)))
      · have := (ha.buf hq).lt; omega
    · exact h4 q hq ((hg _).2 (.inr (.inr (.inl h5))))
    · exact h4 q hq ((hg _).2 (.inr (.inr (.inr h5))))
  · rintro k (h5 | h5 | h5 | h5)
    · exact .inl ((hg k).2 (.inl h5))
    · exact (k3 k h5).imp_left fun h6 => (hg k).2 (.inr (.inl h6))
    · exact .inl ((hg k).2 (.inr (.inr (.inl h5))))
    · exact .inl ((hg k).2 (.inr (.inr (.inr h5))))
/-- the space -/
theorem Sys.spc (h : Sys w G p F n) : ∃ Gs, Spc w Gs p.s F.S ∧ ∀ w' S', Next w Gs p.s S' w' → SysTo w G p { F with S := S' } n w' := by
  have hlt := fun k hk => h.lt (k := k) hk
  obtain ⟨Gd, Ga, Gs, hr, hd, ha, hs, hg, h1, h2, h3, h4⟩ := h
  refine ⟨Gs, hs, fun w' S' ⟨Gs', k1, k2, k3⟩ => ⟨fun k => k = p.w ∨ Gd k ∨ Ga k ∨ Gs' k, ⟨Gd, Ga, Gs', ?_, ?_, ?_, k1, fun k => Iff.rfl, ?_, ?_, ?_, ?_⟩, k2.mono fun k hk => (hg k).2 (.inr (.inr (.inr hk))), ?_⟩⟩
  · exact k2.row hr fun hk => h3 _ hk rfl
  · exact hd.far k2 fun k hk hk2 => (h1 k hk).2.1 hk2
  · exact ha.far k2 (fun k hk hk2 => (h2 k hk).1 hk2) fun q hq hk => h4 q hq ((hg _).2 (.inr (.inr (.inr hk))))
  · intro k hk
    refine ⟨(h1 k hk).1, fun h6 => ?_, (h1 k hk).2.2⟩
    rcases k3 k h6 with h7 | h7
    · exact (h1 k hk).2.1 h7
    · have := hd.lt hk; omega
  · intro k hk
    refine ⟨fun h6 => ?_, (h2 k hk).2⟩
    rcases k3 k h6 with h7 | h7
    · exact (h2 k hk).1 h7
    · have := ha.lt hk; omega
  · intro k hk e
    rcases k3 k hk with h7 | h7
    · exact h3 k h7 e
    · have := hr.lt; omega
  · intro q hq hk
    rcases hk with h5 | h5 | h5 | h5
    · exact h4 q hq ((hg _).2 (.inl h5))
    · exact h4 q hq ((hg _).2 (.inr (.inl h5)))
    · exact h4 q hq ((hg _).2 (.inr (.inr (.inl h5))))
    · rcases k3 _ h5 with h6 | h6
      · exact h4 q hq ((hg _).2 (.inr (.inr (.inr h6))))
      · have := (ha.buf hq).lt; omega
  · rintro k (h5 | h5 | h5 | h5)
    · exact .inl ((hg k).2 (.inl h5))
    · exact .inl ((hg k).2 (.inr (.inl h5)))
    · exact .inl ((hg k).2 (.inr (.inr (.inl h5))))
    · exact (k3 k h5).imp_left fun h6 => (hg k).2 (.inr (.inr (.inr h6)))
/-- the arena, and what a grant of it makes of all -/
theorem Sys.arn (h : Sys w G p F n) : ∃ Ga, Arn w Ga p.a F.A ∧
    (∀ w' b g m, (∃ Ga', Arn w' Ga' p.a (grant F.A b m) ∧ Row w' b 130 [.slice (some ⟨g, 0, none⟩) m m] ∧ Row w' g 69 (List.replicate m (.int .u64 0)) ∧ w.heap.size ≤ b ∧ w.heap.size ≤ g ∧ b ≠ g ∧ ¬ Ga' b ∧ ¬ Ga' g ∧ Far Ga w w' ∧ ∀ k, Ga' k → Ga k ∨ w.heap.size ≤ k) →
      ∃ G', Sys w' G' p { F with A := grant F.A b m } n ∧ Far G w w' ∧ (∀ k, G' k → G k ∨ w.heap.size ≤ k) ∧ ¬ G' b ∧ ¬ G' g) ∧
    (∀ w' b m, Arn w' Ga p.a (release F.A b m) → Far (fun k => Ga k ∨ k = b) w w' → ¬ G b → Sys w' G p { F with A := release F.A b m } n ∧ Far (fun k => G k ∨ k = b) w w') := by
  have hlt := fun k hk => h.lt (k := k) hk
  obtain ⟨Gd, Ga, Gs, hr, hd, ha, hs, hg, h1, h2, h3, h4⟩ := h
  refine ⟨Ga, ha, fun w' b g m ⟨Ga', k1, kb, kg, lb, lg, hbg, nb, ng, k2, k3⟩ => ?_, fun w' b m k1 k2 nb => ?_⟩
  · have hnew : ∀ x, w.heap.size ≤ x → ¬ Ga' x → ¬ (x = p.w ∨ Gd x ∨ Ga' x ∨ Gs x) := by
      rintro x hx hn (h5 | h5 | h5 | h5)
      · have := hr.lt; omega
      · have := hd.lt h5; omega
      · exact hn h5
      · have := hs.lt h5; omega
    refine ⟨fun k => k = p.w ∨ Gd k ∨ Ga' k ∨ Gs k, ⟨Gd, Ga', Gs, ?_, ?_, k1, ?_, fun k => Iff.rfl, ?_, ?_, h3, ?_⟩, k2.mono fun k hk => (hg k).2 (.inr (.inr (.inl hk))), ?_, hnew b lb nb, hnew g lg ng⟩
    · exact k2.row hr fun hk => (h2 _ hk).2 rfl
    · exact hd.far k2 fun k hk hk2 => (h1 k hk).1 hk2
    · exact hs.far k2 fun k hk hk2 => (h2 k hk2).1 hk
    · intro k hk
      refine ⟨fun h6 => ?_, (h1 k hk).2⟩
      rcases k3 k h6 with h7 | h7
      · exact (h1 k hk).1 h7
      · have := hd.lt hk; omega
    · intro k hk
      rcases k3 k hk with h7 | h7
      · exact h2 k h7
      · refine ⟨fun h6 => ?_, fun h6 => ?_⟩
        · have := hs.lt h6; omega
        · have := hr.lt; omega
    · intro q hq hk
      have hq1 : q ∈ F.A.st ++ [(b, m)] := hq
      rcases List.mem_append.1 hq1 with h5 | h5
      · rcases hk with h6 | h6 | h6 | h6
        · exact h4 q h5 ((hg _).2 (.inl h6))
        · exact h4 q h5 ((hg _).2 (.inr (.inl h6)))
        · rcases k3 _ h6 with h7 | h7
          · exact h4 q h5 ((hg _).2 (.inr (.inr (.inl h7))))
          · have := (ha.buf h5).lt; omega
        · exact h4 q h5 ((hg _).2 (.inr (.inr (.inr h6))))
      · simp only [List.mem_singleton] at h5
        subst h5
        exact hnew b lb nb hk
    · rintro k (h5 | h5 | h5 | h5)
      · exact .inl ((hg k).2 (.inl h5))
      · exact .inl ((hg k).2 (.inr (.inl h5)))
      · exact (k3 k h5).imp_left fun h6 => (hg k).2 (.inr (.inr (.inl h6)))
      · exact .inl ((hg k).2 (.inr (.inr (.inr h5))))
  · refine ⟨⟨Gd, Ga, Gs, ?_, ?_, k1, ?_, hg, h1, h2, h3, fun q hq => h4 q (without_mem _ _ _ hq)⟩, k2.mono fun k hk => hk.imp_left fun h5 => (hg k).2 (.inr (.inr (.inl h5)))⟩
    · refine k2.row hr ?_
      rintro (hk | hk)
      · exact (h2 _ hk).2 rfl
      · exact nb ((hg _).2 (.inl hk.symm))
    · refine hd.far k2 ?_
      rintro k hk (hk2 | hk2)
      · exact (h1 k hk).1 hk2
      · subst hk2; exact nb ((hg _).2 (.inr (.inl hk)))
    · refine hs.far k2 ?_
      rintro k hk (hk2 | hk2)
      · exact (h2 k hk2).1 hk
      · subst hk2; exact nb ((hg _).2 (.inr (.inr (.inr hk))))
/-- the size of blocks, what is left, what is used: nothing turns -/
theorem Sys.dsize_any (h : Sys w G p F n) : Calls Try.prog 50 #[ptr p.d] w fun e w' => e = .returned (.int .i64 (F.D.size : Int)) ∧ w' = w := by
  obtain ⟨Gd, Ga, Gs, hr, hd, _⟩ := h
  obtain ⟨bl, bf, v, nl, hr, _⟩ := hd.2
  exact size_any p.d F.D bl bf v w hr
theorem Sys.left_any (h : Sys w G p F n) : Calls Try.prog 58 #[ptr p.a] w fun e w' => e = .returned (.int .i64 ((F.A.room - F.A.used : Nat) : Int)) ∧ w' = w := by
  obtain ⟨Gd, Ga, Gs, hr, hd, ha, _⟩ := h
  obtain ⟨h0, ⟨m, hr, _⟩, _⟩ := id ha
  exact arleft_any p.a F.A m w hr h0
theorem Sys.used_any (h : Sys w G p F n) : Calls Try.prog 17 #[ptr p.a] w fun e w' => e = .returned (.int .i64 (F.A.used : Int)) ∧ w' = w := by
  obtain ⟨Gd, Ga, Gs, hr, hd, ha, _⟩ := h
  obtain ⟨h0, ⟨m, hr, _⟩, _⟩ := id ha
  exact arused_any p.a F.A m w hr
theorem Sys.peak_any (h : Sys w G p F n) : Calls Try.prog 21 #[ptr p.a] w fun e w' => e = .returned (.int .i64 (F.A.peak : Int)) ∧ w' = w := by
  obtain ⟨Gd, Ga, Gs, hr, hd, ha, _⟩ := h
  obtain ⟨h0, ⟨m, hr, _⟩, _⟩ := id ha
  exact arpeak_any p.a F.A m w hr
end
end Go.Proofs.Ytbkgpilmgllkiaa
