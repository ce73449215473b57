/- (*Space).cut: written by wip/tools/gencut.py. -/
import Derived.Test.YtbkgpilmgllkiaaSpSea
namespace Go.Proofs.Ytbkgpilmgllkiaa
open Go.ChangeShapes Go.WideShapes Go.ChangeAt Go.RowKit

theorem own2_base {w : World} {B B' : Nat} {v : Value} {n : Nat} {xs : List Value} (h : w.ownsRow B 98 2 v n xs) (hb : B' ≤ B) : w.ownsRow B' 98 2 v n xs := by
  obtain ⟨h1, h2⟩ := h
  refine ⟨h1, ?_⟩
  rcases h2 with h2 | ⟨g, cap, cur, rfl, hg, r⟩
  · exact .inl h2
  · exact .inr ⟨g, cap, cur, rfl, by omega, r⟩
/-- a space, its extents' slice as it is -/
def SpV (w : World) (G : Nat → Prop) (p : Nat) (s : Sp) (v : Value) : Prop :=
  s.ok ∧ Row w p 101 (spCells s v) ∧ w.ownsRow 0 98 2 v s.fr.length (flatX s.fr) ∧ ∀ k, G k ↔ k = p ∨ v.ownBlock = some k
theorem SpV.apart {w : World} {G : Nat → Prop} {p : Nat} {s : Sp} {v : Value} (h : SpV w G p s v) : v.ownBlock ≠ some p := by
  intro e
  obtain ⟨cs, hc⟩ := own2_row h.2.2.1 e
  have hr := h.2.1
  unfold Row at hr hc; rw [hr] at hc; injection hc with hc; injection hc with _ hc; exact absurd hc (by decide)
/-- the space's own block, behind a call that answers another slice of extents -/
theorem spc_stays {w w5 w6 : World} {G : Nat → Prop} {p : Nat} {s : Sp} {v : Value} {R : List Ex} {e : Ending} (h : SpV w G p s v) (hb : Below w.heap.size w w5) (hg : Got w5 v R e w6) : Row w6 p 101 (spCells s v) := by
  obtain ⟨v', _, _, hf, _⟩ := hg
  exact hf.row (h.2.1.below hb h.2.1.lt) h.apart
theorem spc_put {w w5 w6 : World} {G : Nat → Prop} {p : Nat} {s : Sp} {v v' : Value} {R : List Ex} (h : SpV w G p s v) (hb : Below w.heap.size w w5) (hg : Got w5 v R (.returned v') w6) (hok : ({ s with fr := R } : Sp).ok) :
    ∃ G', Spc (w6.setCell ⟨p, 2, none⟩ v') G' p { s with fr := R } ∧ Far G w (w6.setCell ⟨p, 2, none⟩ v') ∧ ∀ k, G' k → G k ∨ w.heap.size ≤ k := by
  have hr6 := spc_stays h hb hg
  obtain ⟨v2, e, ho, hf, hk⟩ := hg
  injection e with e; subst e
  have hne : v'.ownBlock ≠ some p := by
    intro e
    obtain ⟨cs, hc⟩ := own2_row ho e
    unfold Row at hr6 hc; rw [hr6] at hc; injection hc with hc; injection hc with _ hc; exact absurd hc (by decide)
  have hset : Far (fun k => k = p) w6 (w6.setCell ⟨p, 2, none⟩ v') := (Far.refl (fun k => k = p) w6).set (p := ⟨p, 2, none⟩) (.inl rfl) v'
  refine ⟨fun k => k = p ∨ v'.ownBlock = some k, ⟨hok, v', hr6.set 2 v', own2_far ho hset fun k hk' e => hne (by rw [hk', e]), fun k => Iff.rfl⟩, ?_, fun k hk' => ?_⟩
  · refine ((Far.of_below hb G).trans hf fun k hk' => .inl ((h.2.2.2 k).2 (.inr hk'))).trans hset fun k hk' => .inl ((h.2.2.2 k).2 (.inl hk'))
  · rcases hk' with rfl | hk'
    · exact .inl ((h.2.2.2 k).2 (.inl rfl))
    · rcases hk k hk' with h1 | h1
      · exact .inl ((h.2.2.2 k).2 (.inr h1))
      · exact .inr (Nat.le_trans hb.size h1)
theorem box4 {w w' : World} {x y a b : Value} (h : Below (w.heap.size + 2) ((w.alloc (.cells #[x, y] 98)).alloc (.cells #[a, b] 98)) w') :
    w'.cell? ⟨w.heap.size, 0, none⟩ = some x ∧ w'.cell? ⟨w.heap.size, 1, none⟩ = some y ∧ w'.cell? ⟨w.heap.size + 1, 0, none⟩ = some a ∧ w'.cell? ⟨w.heap.size + 1, 1, none⟩ = some b := by
  have r1 : Row (w.alloc (.cells #[x, y] 98)) w.heap.size 98 [x, y] := heap_alloc_new _ _
  have r2 : Row ((w.alloc (.cells #[x, y] 98)).alloc (.cells #[a, b] 98)) (w.heap.size + 1) 98 [a, b] := by
    have := heap_alloc_new (w.alloc (.cells #[x, y] 98)) (.cells #[a, b] 98)
    rw [World.size_alloc] at this
    exact this
  have r1' := (r1.alloc (.cells #[a, b] 98)).below h (by omega)
  have r2' := r2.below h (by omega)
  exact ⟨r1'.cell 0, r1'.cell 1, r2'.cell 0, r2'.cell 1⟩
theorem newsX {w : World} {t : TypeId} {a b k : Nat} (hk : w.heap.size = k) : ∀ j v, (flatX [(a, b)])[j]? = some v → (w.alloc (.cells #[.int .i64 a, .int .i64 b] t)).cell? ((⟨k, 0, none⟩ : Addr).add j) = some v := by
  subst hk
  intro j v hj
  have r1 : Row (w.alloc (.cells #[.int .i64 a, .int .i64 b] t)) w.heap.size t [.int .i64 a, .int .i64 b] := heap_alloc_new _ _
  rw [Addr.add_lit, Nat.zero_add, r1.cell]; exact hj

theorem own2_keep {w w' : World} {B : Nat} {v : Value} {n : Nat} {xs : List Value} (h : w.ownsRow B 98 2 v n xs) (hb : Below w.heap.size w w') : w'.ownsRow B 98 2 v n xs := by
  obtain ⟨h1, h2⟩ := h
  refine ⟨h1, ?_⟩
  rcases h2 with h2 | ⟨g, cap, cur, rfl, hg, hh, r⟩
  · exact .inl h2
  · exact .inr ⟨g, cap, cur, rfl, hg, (hb.block g (Array.getElem?_eq_some_iff.1 hh).1).trans hh, r⟩
section
variable {w w1 w2 : World} {x y a b u : Value} {m : Nat} {l : List Value}
/-- what the last region of cut stands on -/
abbrev S6 (w : World) (x y a b u : Value) (m : Nat) (l : List Value) (w1 : World) : Prop :=
  Below (w.heap.size + 2) ((w.alloc (.cells #[x, y] 98)).alloc (.cells #[a, b] 98)) w1 ∧ w1.ownsRow (w.heap.size + 2) 98 2 u m l ∧ w.heap.size + 2 ≤ w1.heap.size ∧ w1.cell? ⟨w.heap.size, 0, none⟩ = some x ∧ w1.cell? ⟨w.heap.size, 1, none⟩ = some y ∧ w1.cell? ⟨w.heap.size + 1, 0, none⟩ = some a ∧ w1.cell? ⟨w.heap.size + 1, 1, none⟩ = some b
theorem s6_of (h : Below (w.heap.size + 2) ((w.alloc (.cells #[x, y] 98)).alloc (.cells #[a, b] 98)) w1) (ho : w1.ownsRow (w.heap.size + 2) 98 2 u m l) (hs : w.heap.size + 2 ≤ w1.heap.size) : S6 w x y a b u m l w1 := by
  obtain ⟨k0, k1, k2, k3⟩ := box4 h
  exact ⟨h, ho, hs, k0, k1, k2, k3⟩
theorem s5_of {w3 w4 : World} (h : Below (w.heap.size + 2) ((w.alloc (.cells #[x, y] 98)).alloc (.cells #[a, b] 98)) w3) (hb : Below w3.heap.size w3 w4) :
    Below w3.heap.size w3 w4 ∧ w4.cell? ⟨w.heap.size, 0, none⟩ = some x ∧ w4.cell? ⟨w.heap.size, 1, none⟩ = some y ∧ w4.cell? ⟨w.heap.size + 1, 0, none⟩ = some a ∧ w4.cell? ⟨w.heap.size + 1, 1, none⟩ = some b := by
  obtain ⟨k0, k1, k2, k3⟩ := box4 (h.trans (hb.mono (by have := h.size; simp at this; omega)))
  exact ⟨hb, k0, k1, k2, k3⟩
theorem s6_call (h : Below (w.heap.size + 2) ((w.alloc (.cells #[x, y] 98)).alloc (.cells #[a, b] 98)) w1) (ho : w1.ownsRow (w.heap.size + 2) 98 2 u m l) (hs : w.heap.size + 2 ≤ w1.heap.size) (hb : Below w1.heap.size w1 w2) : S6 w x y a b u m l w2 :=
  s6_of (h.trans (hb.mono hs)) (own2_keep ho hb) (Nat.le_trans hs hb.size)
theorem s6_alloc (h : Below (w.heap.size + 2) ((w.alloc (.cells #[x, y] 98)).alloc (.cells #[a, b] 98)) w1) (ho : w1.ownsRow (w.heap.size + 2) 98 2 u m l) (hs : w.heap.size + 2 ≤ w1.heap.size) (o : Obj) : S6 w x y a b u m l (w1.alloc o) :=
  s6_call h ho hs ((Below.refl _ _).alloc (Nat.le_refl _) o)
theorem s6_app (h : Below (w.heap.size + 2) ((w.alloc (.cells #[x, y] 98)).alloc (.cells #[a, b] 98)) w1) (ho : w1.ownsRow (w.heap.size + 2) 98 2 u m l) (hs : w.heap.size + 2 ≤ w1.heap.size) (hk : w2.ownsRow (w.heap.size + 2) 98 2 u m l) (hg : w1.grownBy w2 u.ownBlock) : S6 w x y a b u m l w2 :=
  s6_of (h.grown hg hs fun k hk => (ho.lt k hk).1) hk (Nat.le_trans hs hg.size)
end

set_option maxHeartbeats 8000000 in
set_option maxRecDepth 100000 in
theorem cut_any (p : Nat) (s : Sp) (G : Nat → Prop) (i f n' : Nat) (w : World) (h : Spc w G p s) (hi : i < s.fr.length) (h1 : (xAt s.fr i).1 ≤ f) (h2 : f + n' ≤ (xAt s.fr i).1 + (xAt s.fr i).2) (hn : 1 ≤ n') :
    Calls Try.prog 87 #[.pointer (some ⟨p, 0, none⟩), .int .i64 i, .agg #[.int .i64 f, .int .i64 n']] w fun e w' => ∃ G', e = .returned (.tuple #[]) ∧ Spc w' G' p { s with fr := cutL s.fr i f n' } ∧ Far G w w' ∧ ∀ k, G' k → G k ∨ w.heap.size ≤ k := by
  obtain ⟨hok, v, hr, ho, hG⟩ := h
  obtain ⟨i0, hi0, hz0, hz, hzb⟩ := ext_info
  obtain ⟨A, c, rfl, hnc, hcm, _⟩ := own2_form ho
  have hspec := cut_spec hok.2.2 hi h1 h2 hn
  have hbnd := hok.2.2.getD hi
  have hhi : s.first + s.blocks ≤ 4000000 := by have := hok.1; have := hok.2.1; omega
  have hlen := hok.len
  have c2 : w.cell? ⟨p, 2, none⟩ = some (.slice A s.fr.length c) := hr.cell 2
  have hpl := hr.lt
  obtain ⟨g, rfl, hg, hc0, hc1⟩ := own2_at ho hi
  obtain ⟨A, hA⟩ : ∃ A : Option Addr, A = some ⟨g, 0, none⟩ := ⟨_, rfl⟩
  obtain ⟨N, hN⟩ : ∃ N, N = s.fr.length := ⟨_, rfl⟩
  have H0 : SpV w G p s (.slice (some ⟨g, 0, none⟩) N c) := by subst hN; exact ⟨hok, hr, ho, hG⟩
  obtain ⟨R, hR⟩ : ∃ R, R = cutL s.fr i f n' := ⟨_, rfl⟩
  have HOK0 : Hid (({ s with fr := cutL s.fr i f n' } : Sp).ok) := ⟨hok.1, hok.2.1, hspec.1⟩
  unfold cutL at hR
  rw [← hN] at c2 hi hlen
  obtain ⟨a, ha⟩ : ∃ a, (xAt s.fr i).1 = a := ⟨_, rfl⟩
  obtain ⟨b, hb⟩ : ∃ b, (xAt s.fr i).2 = b := ⟨_, rfl⟩
  have hx : xAt s.fr i = (a, b) := Prod.ext ha hb
  rw [hx] at hR
  rw [ha, hb] at h2 hbnd
  rw [ha] at h1 hc0
  rw [hb] at hc1
  have hcut : cutL s.fr i f n' = R := by unfold cutL; rw [hx, hR]
  rw [hcut] at HOK0 ⊢
  have HOK := HOK0
  have HA := Lib.hid hA
  subst hA
  have H := Lib.hid H0
  have HN : Hid (i < N ∧ N ≤ 1000000 ∧ s.fr.length = N) := ⟨hi, hlen, hN.symm⟩
  have HI0 := Lib.hid hi0
  obtain ⟨u1, hu1⟩ : ∃ u, f + n' = u := ⟨_, rfl⟩
  obtain ⟨u2, hu2⟩ : ∃ u, a + b = u := ⟨_, rfl⟩
  have HE1 : Hid (∀ W, Calls Try.prog 65 #[.agg #[.int .i64 f, .int .i64 n']] W fun e w' => e = .returned (.int .i64 (u1 : Nat)) ∧ Below W.heap.size W w') := fun W => by have := end_any f n' W (by omega); rwa [hu1] at this
  have HE2 : Hid (∀ W, Calls Try.prog 65 #[.agg #[.int .i64 a, .int .i64 b]] W fun e w' => e = .returned (.int .i64 (u2 : Nat)) ∧ Below W.heap.size W w') := fun W => by have := end_any a b W (by omega); rwa [hu2] at this
  have hu12 : u1 ≤ u2 := by omega
  have hu2b : u2 ≤ 4000000 := by omega
  have hfb : f ≤ 4000000 := by omega
  have ii0 : (0 : Int) ≤ (i : Int) := by omega
  have ii1 : (i : Int) < (N : Int) := by omega
  have hiw : IntKind.i64.wrap ((i : Int) + 1) = (i : Int) + 1 := IntWalk.i64_in _ (by omega)
  have HRaw := Lib.hid hR
  have HU := Lib.hid hu1
  have HU2 := Lib.hid hu2
  clear hspec hbnd hok hr ho hG H0 hN ha hb hx hcut HOK0 hR hi0 hu1 hu2 hhi
  by_cases hl : a < f
  · obtain ⟨q, hq⟩ : ∃ q, f - a = q := ⟨_, rfl⟩
    have hsub : (f : Int) - (a : Int) = (q : Int) := by omega
    have hqw : IntKind.i64.wrap (q : Int) = (q : Int) := IntWalk.i64_in _ (by omega)
    have gl : decide ((a : Int) < (f : Int)) = true := by simp; omega
    have gl2 : decide (a < f) = true := by simp; omega
    have HQ := Lib.hid hq
    have HL : Hid (a < f) := hl
    clear hq
    go_enter Try.func87, Try.ntmps87
    go_wp2_with (with_reducible refine stopAt 30 ?_)
    unfold Hid
    refine wpList_append_own_at _ rfl _ _ 99 rfl (w.heap.size + 2) 98 i0 _ 2 16 Try.underlying99 HI0.out hz0 hz hzb rfl (by decide) _ 0 [] rfl (World.ownsRow_nil _ _ _ _) ⟨w.heap.size + 2, 0, none⟩ 1 1 (flatX [(a, q)]) rfl rfl (newsX (by simp)) flatX_one (by decide) (by decide) (by simp) ?_
    intro v1 w3 ho1 hg1 _ _
    rw [List.nil_append] at ho1
    have HB3 : Hid (Below (w.heap.size + 2) ((w.alloc (.cells #[.int .i64 f, .int .i64 n'] 98)).alloc (.cells #[.int .i64 a, .int .i64 b] 98)) w3) := ((Below.refl _ _).alloc (by simp) _).grown hg1 (by simp) fun k hk => by cases hk
    have HU3 := Lib.hid ho1
    obtain ⟨B1, d1, rfl⟩ : ∃ B1 d1, v1 = .slice B1 1 d1 := by
      obtain ⟨B1, d1, h1, _⟩ := own2_form (own2_base ho1 (Nat.zero_le _)); exact ⟨B1, d1, h1⟩
    clear ho1 hg1
    go_wp2
    have HW3 : Hid (Below w.heap.size w w3) := (((Below.refl w.heap.size w).alloc (Nat.le_refl _) _).alloc (by simp) _).trans (HB3.out.mono (by omega))
    by_cases hrr : u1 < u2
    · skip
      have gr : decide ((u1 : Int) < (u2 : Int)) = true := by simp; omega
      have gr2 : decide (u1 < u2) = true := by simp; omega
      obtain ⟨t, ht⟩ : ∃ t, u2 - u1 = t := ⟨_, rfl⟩
      have hsubt : (u2 : Int) - (u1 : Int) = (t : Int) := by omega
      have htw : IntKind.i64.wrap (t : Int) = (t : Int) := IntWalk.i64_in _ (by omega)
      have HT := Lib.hid ht
      clear ht
      have HR : Hid (s.fr.take i ++ ([(a, q)] ++ [(u1, t)]) ++ s.fr.drop (i + 1) = R) := by
        unfold Hid; rw [HRaw.out]; unfold leftX; dsimp only; rw [if_pos HL.out, if_pos (by rw [HU.out]; have := HU2.out; omega)]; rw [HQ.out]; rw [HU.out, HU2.out, HT.out]
      have hs3 : w.heap.size + 2 ≤ w3.heap.size := by have := HB3.out.size; simp at this; omega
      go_region_held3 (fun w' => Below w3.heap.size w3 w' ∧ w'.cell? ⟨w.heap.size, 0, none⟩ = some (.int .i64 f) ∧ w'.cell? ⟨w.heap.size, 1, none⟩ = some (.int .i64 n') ∧ w'.cell? ⟨w.heap.size + 1, 0, none⟩ = some (.int .i64 a) ∧ w'.cell? ⟨w.heap.size + 1, 1, none⟩ = some (.int .i64 b))
        (first
          | (exact s5_of HB3.out (below_drewN (Below.refl _ _) 1))
          | (exact s5_of HB3.out hacc))
        ((go_split_ands; go_at_call 65; (first | (with_reducible refine (HE1.out _).mono ?_) | (with_reducible refine (HE2.out _).mono ?_)); rintro e w4 ⟨rfl, hb3⟩; have hacc : Below w3.heap.size w3 w4 := Below.trans (by assumption) (Below.mono hb3 (Below.size (by assumption)))))
      have HB34 := Lib.hid hacc
      clear hacc
      have hu4 : w4.ownsRow (w.heap.size + 2) 98 2 (.slice B1 1 d1) 1 (flatX [(a, q)]) := own2_keep HU3.out HB34.out
      have hb4 : Below (w.heap.size + 2) ((w.alloc (.cells #[.int .i64 f, .int .i64 n'] 98)).alloc (.cells #[.int .i64 a, .int .i64 b] 98)) w4 := HB3.out.trans (HB34.out.mono hs3)
      obtain ⟨m0, m1, m2, m3⟩ := box4 hb4
      have hs4 : w.heap.size + 2 ≤ w4.heap.size := by have := hb4.size; simp at this; omega
      have HB4 := Lib.hid hb4
      have HU4 := Lib.hid hu4
      clear hb4 hu4
      go_wp2
      go_region_held3 (fun w' => Below (w.heap.size + 2) ((w.alloc (.cells #[.int .i64 f, .int .i64 n'] 98)).alloc (.cells #[.int .i64 a, .int .i64 b] 98)) w' ∧ w'.ownsRow (w.heap.size + 2) 98 2 (.slice B1 1 d1) 1 (flatX [(a, q)]) ∧ w.heap.size + 2 ≤ w'.heap.size ∧ w'.cell? ⟨w.heap.size, 0, none⟩ = some (.int .i64 f) ∧ w'.cell? ⟨w.heap.size, 1, none⟩ = some (.int .i64 n') ∧ w'.cell? ⟨w.heap.size + 1, 0, none⟩ = some (.int .i64 a) ∧ w'.cell? ⟨w.heap.size + 1, 1, none⟩ = some (.int .i64 b))
        (first
          | (exact ⟨below_drewN HB4.out 1, HU4.out, hs4, m0, m1, m2, m3⟩)
          | (exact hacc)
          | (go_split_ands; exact s6_alloc (by assumption) (by assumption) (by assumption) _)
          | (exact hacc2))
        (first
          | (go_split_ands; go_at_call 65; (first | (with_reducible refine (HE1.out _).mono ?_) | (with_reducible refine (HE2.out _).mono ?_)); rintro e w5 ⟨rfl, hb3⟩; have hacc := s6_call (by assumption) (by assumption) (by assumption) hb3)
          | (go_split_ands; refine step_append_keep rfl _ _ 99 rfl (w.heap.size + 2) 98 i0 _ 2 16 Try.underlying99 HI0.out hz0 hz hzb rfl (by decide) (.slice B1 1 d1) 1 (flatX [(a, q)]) (by first | rfl | simp) (by assumption) _ 1 1 (flatX [(u1, t)]) (by first | rfl | simp) rfl (newsX (by first | rfl | simp)) flatX_one (by decide) (by decide) (by assumption) ?_; intro v5 w5 hox hgx hkx; have hacc2 := s6_app (by assumption) (by assumption) (by assumption) hkx hgx))
      generalize hm5 : 1 + 1 = m5 at hox
      have hm5' : m5 ≤ 2 := by omega
      rw [← flatX_append] at hox
      obtain ⟨B5, d5, rfl⟩ : ∃ B5 d5, v5 = .slice B5 m5 d5 := by
        obtain ⟨B5, d5, h1, _⟩ := own2_form (own2_base hox.out (Nat.zero_le _)); exact ⟨B5, d5, h1⟩
      have HU5 : Hid (w5.ownsRow 0 98 2 (.slice B5 m5 d5) m5 (flatX ([(a, q)] ++ [(u1, t)]))) := own2_base hox.out (Nat.zero_le _)
      have HLT : Hid (∀ k, (Value.slice B5 m5 d5).ownBlock = some k → w.heap.size ≤ k) := fun k hk => by have := (hox.out.lt k hk).1; omega
      have HB5 : Hid (Below w.heap.size w w5) := (((Below.refl w.heap.size w).alloc (Nat.le_refl _) _).alloc (by simp) _).trans (hacc2.1.mono (by omega))
      clear hm5 hox hacc2 hgx hkx hacc m0 m1 m2 m3 hs4
      have hov5 := own2_below H.out.2.2.1 HB5.out
      have hrw5 : Row w5 p 101 (spCells s (.slice (some ⟨g, 0, none⟩) N c)) := H.out.2.1.below HB5.out hpl
      have hrep := replace_any w5 (i := i) (j := i + 1) hov5 HU5.out (fun k hk e => by have h1 := (H.out.2.2.1.lt k hk).2; have h2 := HLT.out k e; omega) (by omega) (by have := HN.out; omega) (by omega) (by have := HN.out; omega)
      have hR : s.fr.take i ++ ([(a, q)] ++ [(u1, t)]) ++ s.fr.drop (i + 1) = R := HR.out
      rw [hR] at hrep
      have hcast : ((i + 1 : Nat) : Int) = (i : Int) + 1 := by omega
      rw [hcast] at hrep
      have HREP := Lib.hid hrep
      have c5 : w5.cell? ⟨p, 2, none⟩ = some (.slice (some ⟨g, 0, none⟩) N c) := hrw5.cell 2
      have HC : Hid (∀ v' w6, Got w5 (.slice (some ⟨g, 0, none⟩) N c) R (.returned v') w6 → ∃ G', Spc (w6.setCell ⟨p, 2, none⟩ v') G' p { s with fr := R } ∧ Far G w (w6.setCell ⟨p, 2, none⟩ v') ∧ ∀ k, G' k → G k ∨ w.heap.size ≤ k) := fun v' w6 hg => spc_put H.out HB5.out hg HOK.out
      have HC2 : Hid (∀ v' w6, Got w5 (.slice (some ⟨g, 0, none⟩) N c) R (.returned v') w6 → w6.cell? ⟨p, 2, none⟩ = some (.slice (some ⟨g, 0, none⟩) N c) ∧ w6.frozen? ⟨p, 2, none⟩ = false) := fun v' w6 hg => by have := spc_stays H.out HB5.out hg; exact ⟨this.cell 2, this.free 2⟩
      have hpl5 : p < w5.heap.size := hrw5.lt
      clear hrep hov5 hrw5 hR hcast
      go_wp2_with fail
      refine HREP.out.mono ?_
      rintro e w6 hg
      obtain ⟨v', rfl, hg1, hg2, hg3⟩ := id hg
      have HX := Lib.hid (HC.out v' w6 hg)
      obtain ⟨c6, f6⟩ := HC2.out v' w6 hg
      obtain ⟨A', c', rfl, _, _, _⟩ := own2_form hg1
      clear hg hg1 hg2 hg3
      go_wp2
      go_end0
      obtain ⟨G', h1, h2, h3⟩ := HX.out
      exact ⟨G', rfl, h1, h2, h3⟩
    · skip
      have gr : decide ((u1 : Int) < (u2 : Int)) = false := by simp; omega
      have gr2 : decide (u1 < u2) = false := by simp; omega
      have HR : Hid (s.fr.take i ++ ([(a, q)] ++ []) ++ s.fr.drop (i + 1) = R) := by
        unfold Hid; rw [HRaw.out]; unfold leftX; dsimp only; rw [if_pos HL.out, if_neg (by rw [HU.out]; have := HU2.out; omega)]; rw [HQ.out]
      have hs3 : w.heap.size + 2 ≤ w3.heap.size := by have := HB3.out.size; simp at this; omega
      go_region_held3 (fun w' => Below w3.heap.size w3 w' ∧ w'.cell? ⟨w.heap.size, 0, none⟩ = some (.int .i64 f) ∧ w'.cell? ⟨w.heap.size, 1, none⟩ = some (.int .i64 n') ∧ w'.cell? ⟨w.heap.size + 1, 0, none⟩ = some (.int .i64 a) ∧ w'.cell? ⟨w.heap.size + 1, 1, none⟩ = some (.int .i64 b))
        (first
          | (exact s5_of HB3.out (below_drewN (Below.refl _ _) 1))
          | (exact s5_of HB3.out hacc))
        ((go_split_ands; go_at_call 65; (first | (with_reducible refine (HE1.out _).mono ?_) | (with_reducible refine (HE2.out _).mono ?_)); rintro e w4 ⟨rfl, hb3⟩; have hacc : Below w3.heap.size w3 w4 := Below.trans (by assumption) (Below.mono hb3 (Below.size (by assumption)))))
      have HB34 := Lib.hid hacc
      clear hacc
      have HU5 : Hid (w4.ownsRow 0 98 2 (.slice B1 1 d1) 1 (flatX ([(a, q)] ++ []))) := by unfold Hid; rw [List.append_nil]; exact own2_base (own2_keep HU3.out HB34.out) (Nat.zero_le _)
      have HLT : Hid (∀ k, (Value.slice B1 1 d1).ownBlock = some k → w.heap.size ≤ k) := fun k hk => by have := (HU3.out.lt k hk).1; omega
      have HB5 : Hid (Below w.heap.size w w4) := HW3.out.trans (HB34.out.mono (by omega))
      generalize w4 = w5 at *
      have hov5 := own2_below H.out.2.2.1 HB5.out
      have hrw5 : Row w5 p 101 (spCells s (.slice (some ⟨g, 0, none⟩) N c)) := H.out.2.1.below HB5.out hpl
      have hrep := replace_any w5 (i := i) (j := i + 1) hov5 HU5.out (fun k hk e => by have h1 := (H.out.2.2.1.lt k hk).2; have h2 := HLT.out k e; omega) (by omega) (by have := HN.out; omega) (by omega) (by have := HN.out; omega)
      have hR : s.fr.take i ++ ([(a, q)] ++ []) ++ s.fr.drop (i + 1) = R := HR.out
      rw [hR] at hrep
      have hcast : ((i + 1 : Nat) : Int) = (i : Int) + 1 := by omega
      rw [hcast] at hrep
      have HREP := Lib.hid hrep
      have c5 : w5.cell? ⟨p, 2, none⟩ = some (.slice (some ⟨g, 0, none⟩) N c) := hrw5.cell 2
      have HC : Hid (∀ v' w6, Got w5 (.slice (some ⟨g, 0, none⟩) N c) R (.returned v') w6 → ∃ G', Spc (w6.setCell ⟨p, 2, none⟩ v') G' p { s with fr := R } ∧ Far G w (w6.setCell ⟨p, 2, none⟩ v') ∧ ∀ k, G' k → G k ∨ w.heap.size ≤ k) := fun v' w6 hg => spc_put H.out HB5.out hg HOK.out
      have HC2 : Hid (∀ v' w6, Got w5 (.slice (some ⟨g, 0, none⟩) N c) R (.returned v') w6 → w6.cell? ⟨p, 2, none⟩ = some (.slice (some ⟨g, 0, none⟩) N c) ∧ w6.frozen? ⟨p, 2, none⟩ = false) := fun v' w6 hg => by have := spc_stays H.out HB5.out hg; exact ⟨this.cell 2, this.free 2⟩
      have hpl5 : p < w5.heap.size := hrw5.lt
      clear hrep hov5 hrw5 hR hcast
      go_wp2_with fail
      refine HREP.out.mono ?_
      rintro e w6 hg
      obtain ⟨v', rfl, hg1, hg2, hg3⟩ := id hg
      have HX := Lib.hid (HC.out v' w6 hg)
      obtain ⟨c6, f6⟩ := HC2.out v' w6 hg
      obtain ⟨A', c', rfl, _, _, _⟩ := own2_form hg1
      clear hg hg1 hg2 hg3
      go_wp2
      go_end0
      obtain ⟨G', h1, h2, h3⟩ := HX.out
      exact ⟨G', rfl, h1, h2, h3⟩
  · have gl : decide ((a : Int) < (f : Int)) = false := by simp; omega
    have gl2 : decide (a < f) = false := by simp; omega
    have HL : Hid (¬ a < f) := hl
    have HB3 : Hid (Below (w.heap.size + 2) ((w.alloc (.cells #[.int .i64 f, .int .i64 n'] 98)).alloc (.cells #[.int .i64 a, .int .i64 b] 98)) ((w.alloc (.cells #[.int .i64 f, .int .i64 n'] 98)).alloc (.cells #[.int .i64 a, .int .i64 b] 98))) := Below.refl _ _
    have HU3 : Hid (((w.alloc (.cells #[.int .i64 f, .int .i64 n'] 98)).alloc (.cells #[.int .i64 a, .int .i64 b] 98)).ownsRow (w.heap.size + 2) 98 2 (.slice none 0 0) 0 (flatX [])) := World.ownsRow_nil _ _ _ _
    go_enter Try.func87, Try.ntmps87
    go_wp2
    generalize hW3 : (w.alloc (.cells #[.int .i64 f, .int .i64 n'] 98)).alloc (.cells #[.int .i64 a, .int .i64 b] 98) = w3 at HU3 ⊢
    have HB3 : Hid (Below (w.heap.size + 2) ((w.alloc (.cells #[.int .i64 f, .int .i64 n'] 98)).alloc (.cells #[.int .i64 a, .int .i64 b] 98)) w3) := hW3 ▸ HB3.out
    clear hW3
    have HW3 : Hid (Below w.heap.size w w3) := (((Below.refl w.heap.size w).alloc (Nat.le_refl _) _).alloc (by simp) _).trans (HB3.out.mono (by omega))
    by_cases hrr : u1 < u2
    · skip
      have gr : decide ((u1 : Int) < (u2 : Int)) = true := by simp; omega
      have gr2 : decide (u1 < u2) = true := by simp; omega
      obtain ⟨t, ht⟩ : ∃ t, u2 - u1 = t := ⟨_, rfl⟩
      have hsubt : (u2 : Int) - (u1 : Int) = (t : Int) := by omega
      have htw : IntKind.i64.wrap (t : Int) = (t : Int) := IntWalk.i64_in _ (by omega)
      have HT := Lib.hid ht
      clear ht
      have HR : Hid (s.fr.take i ++ ([] ++ [(u1, t)]) ++ s.fr.drop (i + 1) = R) := by
        unfold Hid; rw [HRaw.out]; unfold leftX; dsimp only; rw [if_neg HL.out, if_pos (by rw [HU.out]; have := HU2.out; omega)]; rw [HU.out, HU2.out, HT.out]
      have hs3 : w.heap.size + 2 ≤ w3.heap.size := by have := HB3.out.size; simp at this; omega
      go_region_held3 (fun w' => Below w3.heap.size w3 w' ∧ w'.cell? ⟨w.heap.size, 0, none⟩ = some (.int .i64 f) ∧ w'.cell? ⟨w.heap.size, 1, none⟩ = some (.int .i64 n') ∧ w'.cell? ⟨w.heap.size + 1, 0, none⟩ = some (.int .i64 a) ∧ w'.cell? ⟨w.heap.size + 1, 1, none⟩ = some (.int .i64 b))
        (first
          | (exact s5_of HB3.out (below_drewN (Below.refl _ _) 1))
          | (exact s5_of HB3.out hacc))
        ((go_split_ands; go_at_call 65; (first | (with_reducible refine (HE1.out _).mono ?_) | (with_reducible refine (HE2.out _).mono ?_)); rintro e w4 ⟨rfl, hb3⟩; have hacc : Below w3.heap.size w3 w4 := Below.trans (by assumption) (Below.mono hb3 (Below.size (by assumption)))))
      have HB34 := Lib.hid hacc
      clear hacc
      have hu4 : w4.ownsRow (w.heap.size + 2) 98 2 (.slice none 0 0) 0 (flatX []) := own2_keep HU3.out HB34.out
      have hb4 : Below (w.heap.size + 2) ((w.alloc (.cells #[.int .i64 f, .int .i64 n'] 98)).alloc (.cells #[.int .i64 a, .int .i64 b] 98)) w4 := HB3.out.trans (HB34.out.mono hs3)
      obtain ⟨m0, m1, m2, m3⟩ := box4 hb4
      have hs4 : w.heap.size + 2 ≤ w4.heap.size := by have := hb4.size; simp at this; omega
      have HB4 := Lib.hid hb4
      have HU4 := Lib.hid hu4
      clear hb4 hu4
      go_wp2
      go_region_held3 (fun w' => Below (w.heap.size + 2) ((w.alloc (.cells #[.int .i64 f, .int .i64 n'] 98)).alloc (.cells #[.int .i64 a, .int .i64 b] 98)) w' ∧ w'.ownsRow (w.heap.size + 2) 98 2 (.slice none 0 0) 0 (flatX []) ∧ w.heap.size + 2 ≤ w'.heap.size ∧ w'.cell? ⟨w.heap.size, 0, none⟩ = some (.int .i64 f) ∧ w'.cell? ⟨w.heap.size, 1, none⟩ = some (.int .i64 n') ∧ w'.cell? ⟨w.heap.size + 1, 0, none⟩ = some (.int .i64 a) ∧ w'.cell? ⟨w.heap.size + 1, 1, none⟩ = some (.int .i64 b))
        (first
          | (exact ⟨below_drewN HB4.out 1, HU4.out, hs4, m0, m1, m2, m3⟩)
          | (exact hacc)
          | (go_split_ands; exact s6_alloc (by assumption) (by assumption) (by assumption) _)
          | (exact hacc2))
        (first
          | (go_split_ands; go_at_call 65; (first | (with_reducible refine (HE1.out _).mono ?_) | (with_reducible refine (HE2.out _).mono ?_)); rintro e w5 ⟨rfl, hb3⟩; have hacc := s6_call (by assumption) (by assumption) (by assumption) hb3)
          | (go_split_ands; refine step_append_keep rfl _ _ 99 rfl (w.heap.size + 2) 98 i0 _ 2 16 Try.underlying99 HI0.out hz0 hz hzb rfl (by decide) (.slice none 0 0) 0 (flatX []) (by first | rfl | simp) (by assumption) _ 1 1 (flatX [(u1, t)]) (by first | rfl | simp) rfl (newsX (by first | rfl | simp)) flatX_one (by decide) (by decide) (by assumption) ?_; intro v5 w5 hox hgx hkx; have hacc2 := s6_app (by assumption) (by assumption) (by assumption) hkx hgx))
      generalize hm5 : 0 + 1 = m5 at hox
      have hm5' : m5 ≤ 2 := by omega
      rw [← flatX_append] at hox
      obtain ⟨B5, d5, rfl⟩ : ∃ B5 d5, v5 = .slice B5 m5 d5 := by
        obtain ⟨B5, d5, h1, _⟩ := own2_form (own2_base hox.out (Nat.zero_le _)); exact ⟨B5, d5, h1⟩
      have HU5 : Hid (w5.ownsRow 0 98 2 (.slice B5 m5 d5) m5 (flatX ([] ++ [(u1, t)]))) := own2_base hox.out (Nat.zero_le _)
      have HLT : Hid (∀ k, (Value.slice B5 m5 d5).ownBlock = some k → w.heap.size ≤ k) := fun k hk => by have := (hox.out.lt k hk).1; omega
      have HB5 : Hid (Below w.heap.size w w5) := (((Below.refl w.heap.size w).alloc (Nat.le_refl _) _).alloc (by simp) _).trans (hacc2.1.mono (by omega))
      clear hm5 hox hacc2 hgx hkx hacc m0 m1 m2 m3 hs4
      have hov5 := own2_below H.out.2.2.1 HB5.out
      have hrw5 : Row w5 p 101 (spCells s (.slice (some ⟨g, 0, none⟩) N c)) := H.out.2.1.below HB5.out hpl
      have hrep := replace_any w5 (i := i) (j := i + 1) hov5 HU5.out (fun k hk e => by have h1 := (H.out.2.2.1.lt k hk).2; have h2 := HLT.out k e; omega) (by omega) (by have := HN.out; omega) (by omega) (by have := HN.out; omega)
      have hR : s.fr.take i ++ ([] ++ [(u1, t)]) ++ s.fr.drop (i + 1) = R := HR.out
      rw [hR] at hrep
      have hcast : ((i + 1 : Nat) : Int) = (i : Int) + 1 := by omega
      rw [hcast] at hrep
      have HREP := Lib.hid hrep
      have c5 : w5.cell? ⟨p, 2, none⟩ = some (.slice (some ⟨g, 0, none⟩) N c) := hrw5.cell 2
      have HC : Hid (∀ v' w6, Got w5 (.slice (some ⟨g, 0, none⟩) N c) R (.returned v') w6 → ∃ G', Spc (w6.setCell ⟨p, 2, none⟩ v') G' p { s with fr := R } ∧ Far G w (w6.setCell ⟨p, 2, none⟩ v') ∧ ∀ k, G' k → G k ∨ w.heap.size ≤ k) := fun v' w6 hg => spc_put H.out HB5.out hg HOK.out
      have HC2 : Hid (∀ v' w6, Got w5 (.slice (some ⟨g, 0, none⟩) N c) R (.returned v') w6 → w6.cell? ⟨p, 2, none⟩ = some (.slice (some ⟨g, 0, none⟩) N c) ∧ w6.frozen? ⟨p, 2, none⟩ = false) := fun v' w6 hg => by have := spc_stays H.out HB5.out hg; exact ⟨this.cell 2, this.free 2⟩
      have hpl5 : p < w5.heap.size := hrw5.lt
      clear hrep hov5 hrw5 hR hcast
      go_wp2_with fail
      refine HREP.out.mono ?_
      rintro e w6 hg
      obtain ⟨v', rfl, hg1, hg2, hg3⟩ := id hg
      have HX := Lib.hid (HC.out v' w6 hg)
      obtain ⟨c6, f6⟩ := HC2.out v' w6 hg
      obtain ⟨A', c', rfl, _, _, _⟩ := own2_form hg1
      clear hg hg1 hg2 hg3
      go_wp2
      go_end0
      obtain ⟨G', h1, h2, h3⟩ := HX.out
      exact ⟨G', rfl, h1, h2, h3⟩
    · skip
      have gr : decide ((u1 : Int) < (u2 : Int)) = false := by simp; omega
      have gr2 : decide (u1 < u2) = false := by simp; omega
      have HR : Hid (s.fr.take i ++ ([] ++ []) ++ s.fr.drop (i + 1) = R) := by
        unfold Hid; rw [HRaw.out]; unfold leftX; dsimp only; rw [if_neg HL.out, if_neg (by rw [HU.out]; have := HU2.out; omega)]
      have hs3 : w.heap.size + 2 ≤ w3.heap.size := by have := HB3.out.size; simp at this; omega
      go_region_held3 (fun w' => Below w3.heap.size w3 w' ∧ w'.cell? ⟨w.heap.size, 0, none⟩ = some (.int .i64 f) ∧ w'.cell? ⟨w.heap.size, 1, none⟩ = some (.int .i64 n') ∧ w'.cell? ⟨w.heap.size + 1, 0, none⟩ = some (.int .i64 a) ∧ w'.cell? ⟨w.heap.size + 1, 1, none⟩ = some (.int .i64 b))
        (first
          | (exact s5_of HB3.out (below_drewN (Below.refl _ _) 1))
          | (exact s5_of HB3.out hacc))
        ((go_split_ands; go_at_call 65; (first | (with_reducible refine (HE1.out _).mono ?_) | (with_reducible refine (HE2.out _).mono ?_)); rintro e w4 ⟨rfl, hb3⟩; have hacc : Below w3.heap.size w3 w4 := Below.trans (by assumption) (Below.mono hb3 (Below.size (by assumption)))))
      have HB34 := Lib.hid hacc
      clear hacc
      have HU5 : Hid (w4.ownsRow 0 98 2 (.slice none 0 0) 0 (flatX ([] ++ []))) := by unfold Hid; rw [List.append_nil]; exact own2_base (own2_keep HU3.out HB34.out) (Nat.zero_le _)
      have HLT : Hid (∀ k, (Value.slice none 0 0).ownBlock = some k → w.heap.size ≤ k) := fun k hk => by have := (HU3.out.lt k hk).1; omega
      have HB5 : Hid (Below w.heap.size w w4) := HW3.out.trans (HB34.out.mono (by omega))
      generalize w4 = w5 at *
      have hov5 := own2_below H.out.2.2.1 HB5.out
      have hrw5 : Row w5 p 101 (spCells s (.slice (some ⟨g, 0, none⟩) N c)) := H.out.2.1.below HB5.out hpl
      have hrep := replace_any w5 (i := i) (j := i + 1) hov5 HU5.out (fun k hk e => by have h1 := (H.out.2.2.1.lt k hk).2; have h2 := HLT.out k e; omega) (by omega) (by have := HN.out; omega) (by omega) (by have := HN.out; omega)
      have hR : s.fr.take i ++ ([] ++ []) ++ s.fr.drop (i + 1) = R := HR.out
      rw [hR] at hrep
      have hcast : ((i + 1 : Nat) : Int) = (i : Int) + 1 := by omega
      rw [hcast] at hrep
      have HREP := Lib.hid hrep
      have c5 : w5.cell? ⟨p, 2, none⟩ = some (.slice (some ⟨g, 0, none⟩) N c) := hrw5.cell 2
      have HC : Hid (∀ v' w6, Got w5 (.slice (some ⟨g, 0, none⟩) N c) R (.returned v') w6 → ∃ G', Spc (w6.setCell ⟨p, 2, none⟩ v') G' p { s with fr := R } ∧ Far G w (w6.setCell ⟨p, 2, none⟩ v') ∧ ∀ k, G' k → G k ∨ w.heap.size ≤ k) := fun v' w6 hg => spc_put H.out HB5.out hg HOK.out
      have HC2 : Hid (∀ v' w6, Got w5 (.slice (some ⟨g, 0, none⟩) N c) R (.returned v') w6 → w6.cell? ⟨p, 2, none⟩ = some (.slice (some ⟨g, 0, none⟩) N c) ∧ w6.frozen? ⟨p, 2, none⟩ = false) := fun v' w6 hg => by have := spc_stays H.out HB5.out hg; exact ⟨this.cell 2, this.free 2⟩
      have hpl5 : p < w5.heap.size := hrw5.lt
      clear hrep hov5 hrw5 hR hcast
      go_wp2_with fail
      refine HREP.out.mono ?_
      rintro e w6 hg
      obtain ⟨v', rfl, hg1, hg2, hg3⟩ := id hg
      have HX := Lib.hid (HC.out v' w6 hg)
      obtain ⟨c6, f6⟩ := HC2.out v' w6 hg
      obtain ⟨A', c', rfl, _, _, _⟩ := own2_form hg1
      clear hg hg1 hg2 hg3
      go_wp2
      go_end0
      obtain ⟨G', h1, h2, h3⟩ := HX.out
      exact ⟨G', rfl, h1, h2, h3⟩
end Go.Proofs.Ytbkgpilmgllkiaa
