/- A writer in memory; whether it is closed; its end; Drop. -/
import Derived.Test.YtbkgpilmgllkiaaFileTake
import Derived.Defers
namespace Go.Proofs.Ytbkgpilmgllkiaa
open Go.ChangeShapes Go.WideShapes Go.ChangeAt Go.RowKit

/-- a writer: its width, how many tuples a block holds, its bound, its extent, its grant's block and words, the tuples that were put -/
structure Wt where
  k : Nat
  h : Nat
  bound : Nat
  first : Nat
  blocks : Nat
  b : Nat
  g : Nat
  l : List Tup
def wrC (p : Wp) (t : Wt) : List Value := [.int .i64 t.k, .int .i64 t.h, .pointer (some ⟨p.w, 0, none⟩), .int .i64 t.bound, .int .i64 (t.l.length : Nat), .int .i64 t.first, .int .i64 t.blocks, .pointer (some ⟨t.b, 0, none⟩)]
/-- what is known of a writer's numbers -/
structure WtOk (t : Wt) (sz : Nat) : Prop where
  k : 0 < t.k ∧ t.k ≤ 5
  h : 0 < t.h ∧ t.h * t.k ≤ sz - 2 ∧ t.h ≤ 254
  sz : 8 ≤ sz ∧ sz ≤ 256
  bound : t.bound ≤ 100000000 ∧ t.l.length ≤ t.bound
  blocks : t.blocks = blocksN t.h t.bound ∧ t.blocks ≤ 2000000
  first : t.first ≤ 2000000
/-- behind a writer's end, or a reader's: the work as it is then; its grant b is released -/
def EndTo (w : World) (G : Nat → Prop) (b : Nat) (p : Wp) (F : Fs) (n : Nat) (w' : World) : Prop :=
  ∃ G', Sys w' G' p F n ∧ Far (fun k => G k ∨ k = b) w w' ∧ (∀ k, G' k → G k ∨ w.heap.size ≤ k) ∧ Row w' b 130 [.slice none 0 0]
theorem EndTo.behind {w w1 w' : World} {G : Nat → Prop} {b n : Nat} {p : Wp} {F : Fs} (hb : Below w.heap.size w w1) (h : EndTo w1 G b p F n w') : EndTo w G b p F n w' := by
  obtain ⟨G', h1, h2, h3, h4⟩ := h
  exact ⟨G', h1, (Far.of_below hb (fun k => G k ∨ k = b)).trans h2 fun b hb' => .inl hb', fun k hk => (h3 k hk).imp id fun h => Nat.le_trans hb.size h, h4⟩
theorem EndTo.cell {w w1 : World} {G : Nat → Prop} {b n : Nat} {p : Wp} {F : Fs} (h : EndTo w G b p F n w1) : w1.cell? ⟨p.w, 0, none⟩ = some (.pointer (some ⟨p.d, 0, none⟩)) ∧ w1.cell? ⟨p.w, 1, none⟩ = some (.pointer (some ⟨p.a, 0, none⟩)) ∧ w1.cell? ⟨p.w, 2, none⟩ = some (.pointer (some ⟨p.s, 0, none⟩)) := by
  obtain ⟨G', h1, _⟩ := h
  exact ⟨h1.row.cell 0, h1.row.cell 1, h1.row.cell 2⟩
theorem EndTo.row {w w1 : World} {G : Nat → Prop} {b n g : Nat} {p : Wp} {F : Fs} {t : TypeId} {cs : List Value} (h : EndTo w G b p F n w1) (hr : Row w g t cs) (hg : ¬ G g) (hb : g ≠ b) : Row w1 g t cs := by
  obtain ⟨G', h1, h2, _⟩ := h
  exact h2.row hr fun h => h.elim hg hb
theorem EndTo.ahead {w w1 w' : World} {G : Nat → Prop} {b n : Nat} {p : Wp} {F F' : Fs} {n' : Nat} (h : SysTo w G p F n w1) (hb : b < w.heap.size) (hG : ¬ G b) (h2 : ∀ G', Sys w1 G' p F n → (∀ k, G' k → G k ∨ w.heap.size ≤ k) → ¬ G' b → EndTo w1 G' b p F' n' w') : EndTo w G b p F' n' w' := by
  obtain ⟨G', h1, h3, h4, h5⟩ := h.apart
  obtain ⟨G'', k1, k2, k3, k4⟩ := h2 G' h1 h4 (h5 b hb hG)
  refine ⟨G'', k1, (h3.mono fun k hk => .inl hk).trans k2 fun k hk => hk.elim (fun h => (h4 k h).imp_left .inl) fun h => .inl (.inr h), fun k hk => (k3 k hk).elim (fun h => h4 k h) fun h => .inr (Nat.le_trans h3.size h), k4⟩

theorem EndTo.from {w w1 w' : World} {G G' : Nat → Prop} {b n : Nat} {p : Wp} {F : Fs} (h1 : Far G w w1) (h2 : ∀ k, G' k → G k ∨ w.heap.size ≤ k) (h : EndTo w1 G' b p F n w') : EndTo w G b p F n w' := by
  obtain ⟨G'', k1, k2, k3, k4⟩ := h
  exact ⟨G'', k1, (h1.mono fun k hk => .inl hk).trans k2 fun k hk => hk.elim (fun h => (h2 k h).imp_left .inl) fun h => .inl (.inr h), fun k hk => (k3 k hk).elim (fun h => h2 k h) fun h => .inr (Nat.le_trans h1.size h), k4⟩
/-- a grant is released -/
theorem sys_release {w : World} {G : Nat → Prop} {p : Wp} {F : Fs} {n : Nat} (h : Sys w G p F n) {b m : Nat} (hb : wordsAt F.A.st b = some m) :
    Calls Try.prog 56 #[.pointer (some ⟨p.a, 0, none⟩), .pointer (some ⟨b, 0, none⟩)] w fun e w' => e = .returned (.bool true) ∧ EndTo w G b p { F with A := release F.A b m } n w' := by
  obtain ⟨hbuf, hbG⟩ := h.buf (wordsAt_mem _ _ _ hb)
  obtain ⟨Ga, ha, _, hrel⟩ := h.arn
  refine (release_any p.a F.A Ga b m w ha hbuf hb).mono ?_
  rintro e w' ⟨he, h1, h2, h3⟩
  obtain ⟨k1, k2⟩ := hrel w' b m h1 h3 hbG
  exact ⟨he, G, k1, k2, fun k hk => .inl hk, h2⟩

section
variable {w : World} {x : Nat} {p : Wp} {t : Wt}
set_option maxRecDepth 100000 in
theorem wclosed_any {A : Option Addr} {m c : Nat} (hr : Row w x 136 (wrC p t)) (hb : Row w t.b 130 [.slice A m c]) : Calls Try.prog 54 #[.pointer (some ⟨x, 0, none⟩)] w fun e w' => e = .returned (.bool (!decide (0 < m))) ∧ w' = w := by
  have c7 : w.cell? ⟨x, 7, none⟩ = some (.pointer (some ⟨t.b, 0, none⟩)) := hr.cell 7
  have HS := Lib.hid (stnd_any hb)
  clear hb hr
  go_enter Try.func54, Try.ntmps54
  go_wp2_with fail
  refine HS.out.mono ?_; rintro e w1 ⟨rfl, rfl⟩
  go_wp2
  go_ret
  exact ⟨ret_bool (by simp), rfl⟩
theorem wclosed_nil (w : World) : Calls Try.prog 54 #[.pointer none] w fun e w' => e = .returned (.bool true) ∧ w' = w := by
  go_enter Try.func54, Try.ntmps54
  go_wp2
  go_ret
  exact ⟨rfl, rfl⟩
end

/-- what a writer's end makes of a work; of its blocks it keeps so many -/
def endF (F : Fs) (t : Wt) (kept : Nat) : Fs := { F with S := giveN F.S (t.first + kept) (t.blocks - kept), A := release F.A t.b F.D.size }

set_option maxHeartbeats 2000000 in
set_option maxRecDepth 100000 in
theorem wend_any {w : World} {G : Nat → Prop} {p : Wp} {F : Fs} {n x : Nat} {t : Wt} (h : Sys w G p F n) (hr : Row w x 136 (wrC p t)) (hx : ¬ G x) (hst : wordsAt F.A.st t.b = some F.D.size) (hxb : x ≠ t.b) (hf : t.first ≤ 2000000) (hbl : t.blocks ≤ 2000000) (kept : Nat) (hk : kept ≤ t.blocks) :
    Calls Try.prog 55 #[.pointer (some ⟨x, 0, none⟩), .int .i64 kept] w fun e w' => e = .returned (.tuple #[]) ∧ EndTo w G t.b p (endF F t kept) n w' := by
  obtain ⟨_, hbG⟩ := h.buf (wordsAt_mem _ _ _ hst)
  have hbl2 : t.b < w.heap.size := (h.buf (wordsAt_mem _ _ _ hst)).1.lt
  have hnx := Row.lt hr
  have HGV : Hid (Calls Try.prog 59 #[.pointer (some ⟨p.w, 0, none⟩), .agg #[.int .i64 (t.first + kept : Nat), .int .i64 (t.blocks - kept : Nat)]] w.drew fun e w' => e = .returned (.tuple #[]) ∧ SysTo w G p { F with S := giveN F.S (t.first + kept) (t.blocks - kept) } n w') :=
    (fgive_any (h.below (below_drew (Below.refl _ w))) _ _ (by omega) (by omega)).mono fun e w' ⟨he, h1⟩ => ⟨he, h1.behind (below_drew (Below.refl _ w))⟩
  have HRL : Hid (∀ w1, SysTo w G p { F with S := giveN F.S (t.first + kept) (t.blocks - kept) } n w1 → Calls Try.prog 56 #[.pointer (some ⟨p.a, 0, none⟩), .pointer (some ⟨t.b, 0, none⟩)] w1.drew fun e w' => e = .returned (.bool true) ∧ EndTo w G t.b p (endF F t kept) n w' ∧ Row w' x 136 (wrC p t)) := fun w1 h1 => by
    have hr1 := h1.row hr hx
    obtain ⟨G', k1, k2, k3, k4⟩ := h1.apart
    refine (sys_release (k1.below (below_drew (Below.refl _ w1))) (show wordsAt F.A.st t.b = some F.D.size from hst)).mono fun e w' ⟨he, h2⟩ => ⟨he, ?_⟩
    obtain ⟨G'', m1, m2, m3, m4⟩ := h2
    have m2' : Far (fun k => G' k ∨ k = t.b) w1 w' := ⟨m2.os, m2.tape, m2.output, m2.size, m2.block⟩
    refine ⟨⟨G'', m1, (k2.mono fun k hk => .inl hk).trans m2' fun k hk => hk.elim (fun h => (k3 k h).imp_left .inl) fun h => .inl (.inr h), fun k hk => (m3 k hk).elim (fun h => k3 k h) fun h => .inr (Nat.le_trans k2.size h), m4⟩, m2'.row hr1 ?_⟩
    rintro (h5 | h5)
    · exact k4 x hnx hx h5
    · exact hxb h5
  have HROW : Hid (∀ w1, SysTo w G p { F with S := giveN F.S (t.first + kept) (t.blocks - kept) } n w1 → Row w1 x 136 (wrC p t)) := fun w1 h1 => h1.row hr hx
  generalize endF F t kept = F2 at *
  obtain ⟨tk, th, bound, first, blocks, b, g, l⟩ := t
  simp only [wrC] at *
  generalize l.length = cnt at *
  generalize ({ F with S := giveN F.S (first + kept) (blocks - kept) } : Fs) = F1 at *
  obtain ⟨u, hu⟩ : ∃ u, first + kept = u := ⟨_, rfl⟩
  obtain ⟨v, hv⟩ : ∃ v, blocks - kept = v := ⟨_, rfl⟩
  rw [hu, hv] at HGV
  have hadd : (first : Int) + (kept : Int) = (u : Int) := by omega
  have hsub : (blocks : Int) - (kept : Int) = (v : Int) := by omega
  have hu2 : u ≤ 4000000 := by omega
  have hv2 : v ≤ 2000000 := by omega
  have c2 : w.drew.cell? ⟨x, 2, none⟩ = some (.pointer (some ⟨p.w, 0, none⟩)) := hr.cell 2
  have c5 : w.drew.cell? ⟨x, 5, none⟩ = some (.int .i64 first) := hr.cell 5
  have c6 : w.drew.cell? ⟨x, 6, none⟩ = some (.int .i64 blocks) := hr.cell 6
  have b2 : w.cell? ⟨x, 2, none⟩ = some (.pointer (some ⟨p.w, 0, none⟩)) := hr.cell 2
  have b5 : w.cell? ⟨x, 5, none⟩ = some (.int .i64 first) := hr.cell 5
  have b6 : w.cell? ⟨x, 6, none⟩ = some (.int .i64 blocks) := hr.cell 6
  clear hu hv hr h hst hk hbl hf hx hxb hbl2 hbG hnx
  have hwu : IntKind.i64.wrap (u : Int) = (u : Int) := IntWalk.i64_in _ (by omega)
  have hwv : IntKind.i64.wrap (v : Int) = (v : Int) := IntWalk.i64_in _ ⟨by clear hwu; omega, by clear hwu; omega⟩
  go_enter Try.func55, Try.ntmps55
  go_wp2
  go_region_held3 (fun w' => w'.cell? ⟨x, 2, none⟩ = some (.pointer (some ⟨p.w, 0, none⟩)) ∧ w'.cell? ⟨x, 5, none⟩ = some (.int .i64 (first : Int)) ∧ w'.cell? ⟨x, 6, none⟩ = some (.int .i64 (blocks : Int))) (first | with_reducible exact ⟨c2, c5, c6⟩ | with_reducible exact ⟨d2, d5, d6⟩)
    (first
      | (go_at_call 59; refine HGV.out.mono ?_; rintro e w1 ⟨rfl, h1⟩; have hr1 := HROW.out _ h1; have d2 : w1.cell? ⟨x, 2, none⟩ = some (.pointer (some ⟨p.w, 0, none⟩)) := hr1.cell 2; have d5 : w1.cell? ⟨x, 5, none⟩ = some (.int .i64 (first : Int)) := hr1.cell 5; have d6 : w1.cell? ⟨x, 6, none⟩ = some (.int .i64 (blocks : Int)) := hr1.cell 6))
  have e2 : w1.drew.cell? ⟨x, 2, none⟩ = some (.pointer (some ⟨p.w, 0, none⟩)) := d2
  have d7 : w1.cell? ⟨x, 7, none⟩ = some (.pointer (some ⟨b, 0, none⟩)) := hr1.cell 7
  have e7 : w1.drew.cell? ⟨x, 7, none⟩ = some (.pointer (some ⟨b, 0, none⟩)) := hr1.cell 7
  have d1 := h1.cell.2.1
  have e1 : w1.drew.cell? ⟨p.w, 1, none⟩ = some (.pointer (some ⟨p.a, 0, none⟩)) := d1
  have HRM := Lib.hid (HRL.out w1 h1)
  clear h1 hr1 HGV HROW HRL c2 c5 c6 b2 b5 b6 d5 d6
  go_wp2
  go_region_held3 (fun w' => w'.cell? ⟨x, 2, none⟩ = some (.pointer (some ⟨p.w, 0, none⟩)) ∧ w'.cell? ⟨x, 7, none⟩ = some (.pointer (some ⟨b, 0, none⟩)) ∧ w'.cell? ⟨p.w, 1, none⟩ = some (.pointer (some ⟨p.a, 0, none⟩))) (first | with_reducible exact ⟨e2, e7, e1⟩ | with_reducible exact ⟨f2, f7, f1⟩)
    (first
      | (go_at_call 56; refine HRM.out.mono ?_; rintro e w2 ⟨rfl, h2, hr2⟩; have f2 : w2.cell? ⟨x, 2, none⟩ = some (.pointer (some ⟨p.w, 0, none⟩)) := hr2.cell 2; have f7 : w2.cell? ⟨x, 7, none⟩ = some (.pointer (some ⟨b, 0, none⟩)) := hr2.cell 7; have f1 := h2.cell.2.1))
  go_wp2
  go_end0
  exact ⟨rfl, h2⟩

set_option maxRecDepth 100000 in
theorem wdrop_any {w : World} {G : Nat → Prop} {p : Wp} {F : Fs} {n x : Nat} {t : Wt} {A : Option Addr} {m c : Nat} (h : Sys w G p F n) (hr : Row w x 136 (wrC p t)) (hb : Row w t.b 130 [.slice A m c]) (hm : 0 < m) (hx : ¬ G x) (hst : wordsAt F.A.st t.b = some F.D.size) (hxb : x ≠ t.b) (hf : t.first ≤ 2000000) (hbl : t.blocks ≤ 2000000) :
    Calls Try.prog 32 #[.pointer (some ⟨x, 0, none⟩)] w fun e w' => (e = .returned (.tuple #[]) ∧ EndTo w G t.b p (endF F t 0) n w') := by
  have hc := wclosed_any hr hb
  rw [decide_eq_true hm] at hc
  have HC := Lib.hid hc
  have HW : Hid (Calls Try.prog 55 #[.pointer (some ⟨x, 0, none⟩), .int .i64 0] w fun e w' => e = .returned (.tuple #[]) ∧ EndTo w G t.b p (endF F t 0) n w') := wend_any h hr hx hst hxb hf hbl 0 (Nat.zero_le _)
  clear hc h hr hb hm hx hst hxb hf hbl
  go_enter Try.func32, Try.ntmps32
  go_wp2_with fail
  refine HC.out.mono ?_; rintro e w1 ⟨rfl, rfl⟩
  go_wp2_with fail
  refine HW.out.mono ?_; rintro e w2 ⟨rfl, h2⟩
  have H2 := Lib.hid h2
  clear h2
  go_wp2
  go_end0
  exact ⟨rfl, H2.out⟩
set_option maxRecDepth 100000 in
theorem wdrop_any_shut {w : World} {p : Wp} {x : Nat} {t : Wt} {A : Option Addr} {c : Nat} (hr : Row w x 136 (wrC p t)) (hb : Row w t.b 130 [.slice A 0 c]) :
    Calls Try.prog 32 #[.pointer (some ⟨x, 0, none⟩)] w fun e w' => (e = .returned (.tuple #[]) ∧ w' = w) := by
  have hc := wclosed_any hr hb
  rw [decide_eq_false (Nat.lt_irrefl 0)] at hc
  have HC := Lib.hid hc
  clear hc hr hb
  go_enter Try.func32, Try.ntmps32
  go_wp2_with fail
  refine HC.out.mono ?_; rintro e w1 ⟨rfl, rfl⟩
  go_wp2
  go_end0
  exact ⟨rfl, rfl⟩

set_option maxRecDepth 100000 in
theorem wdrop_def (u : FrameMode) {w : World} {G : Nat → Prop} {p : Wp} {F : Fs} {n x : Nat} {t : Wt} {A : Option Addr} {m c : Nat} (h : Sys w G p F n) (hr : Row w x 136 (wrC p t)) (hb : Row w t.b 130 [.slice A m c]) (hm : 0 < m) (hx : ¬ G x) (hst : wordsAt F.A.st t.b = some F.D.size) (hxb : x ≠ t.b) (hf : t.first ≤ 2000000) (hbl : t.blocks ≤ 2000000) :
    CallsD Try.prog 32 #[.pointer (some ⟨x, 0, none⟩)] u w fun e u' w' => u' = u ∧ (e = .returned (.tuple #[]) ∧ EndTo w G t.b p (endF F t 0) n w') := by
  have hc := wclosed_any hr hb
  rw [decide_eq_true hm] at hc
  have HC := Lib.hid hc
  have HW : Hid (Calls Try.prog 55 #[.pointer (some ⟨x, 0, none⟩), .int .i64 0] w fun e w' => e = .returned (.tuple #[]) ∧ EndTo w G t.b p (endF F t 0) n w') := wend_any h hr hx hst hxb hf hbl 0 (Nat.zero_le _)
  clear hc h hr hb hm hx hst hxb hf hbl
  go_enter_d Try.func32, Try.ntmps32
  go_wp2_with fail
  refine HC.out.mono ?_; rintro e w1 ⟨rfl, rfl⟩
  go_wp2_with fail
  refine HW.out.mono ?_; rintro e w2 ⟨rfl, h2⟩
  have H2 := Lib.hid h2
  clear h2
  go_wp2
  go_end0
  exact ⟨rfl, H2.out⟩
set_option maxRecDepth 100000 in
theorem wdrop_def_shut (u : FrameMode) {w : World} {p : Wp} {x : Nat} {t : Wt} {A : Option Addr} {c : Nat} (hr : Row w x 136 (wrC p t)) (hb : Row w t.b 130 [.slice A 0 c]) :
    CallsD Try.prog 32 #[.pointer (some ⟨x, 0, none⟩)] u w fun e u' w' => u' = u ∧ (e = .returned (.tuple #[]) ∧ w' = w) := by
  have hc := wclosed_any hr hb
  rw [decide_eq_false (Nat.lt_irrefl 0)] at hc
  have HC := Lib.hid hc
  clear hc hr hb
  go_enter_d Try.func32, Try.ntmps32
  go_wp2_with fail
  refine HC.out.mono ?_; rintro e w1 ⟨rfl, rfl⟩
  go_wp2
  go_end0
  exact ⟨rfl, rfl⟩
theorem wdrop_nil (w : World) : Calls Try.prog 32 #[.pointer none] w fun e w' => e = .returned (.tuple #[]) ∧ w' = w := by
  have HC := Lib.hid (wclosed_nil w)
  go_enter Try.func32, Try.ntmps32
  go_wp2_with fail
  refine HC.out.mono ?_; rintro e w1 ⟨rfl, rfl⟩
  go_wp2
  go_end0
  exact ⟨rfl, rfl⟩
end Go.Proofs.Ytbkgpilmgllkiaa
