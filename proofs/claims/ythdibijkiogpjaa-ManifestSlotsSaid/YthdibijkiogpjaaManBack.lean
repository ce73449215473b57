/- ManifestBack, as mathematics. -/
import Derived.Test.YthdibijkiogpjaaManRun
namespace Go.Proofs.Ythdibijkiogpjaa
open Go.ChangeShapes Go.WideShapes Go.ChangeAt Go.RowKit
/-- of a calm device of that size: what it is asked of -/
def Ready (size k : Nat) (s : St) : Prop := Calm s ∧ s.size = size ∧ 2 * (k : Int) ≤ s.blocks
theorem Good.ready {size k : Nat} {s : St} {tg : Nat → Nat → Nat} {L : Nat → List Ent} (h : Good size k s tg L) : Ready size k s := ⟨h.1.1, h.1.2.2.1, h.1.2.2.2⟩
theorem formed_ok {l : List Ent} (h : FormedP l) : ∀ e ∈ l, EntOk e := fun e he => by
  obtain ⟨i, hi⟩ := List.mem_iff_getElem?.1 he
  have hil := (List.getElem?_eq_some_iff.1 hi).1
  have h := (h.2 i hil).1
  rw [List.getD_eq_getElem?_getD, hi] at h
  exact entP_ok h
/-- what is told of a list: it is as a list of the reference's -/
theorem told {w : World} {B : Nat} {v : Value} {m : Nat} {l : List Ent} {t : TypeId} (ho : w.ownsRow B t 5 v m (flatN l)) (hf : ∀ e ∈ l, EntOk e) : ∃ A c, v = .slice A m c ∧ ReadsN w w.heap.size A m l := by
  obtain ⟨A, c, h1, h2, _⟩ := ownN_reads ho hf
  exact ⟨A, c, h1, h2⟩
theorem ready_save {w0 w : World} {G : Nat → Prop} {p n size k : Nat} {s s' : St} (h : Run w0 w G p s n) (hr : Ready size k s) (hk : slotE size = k) (hk11 : k ≤ 11) (g : Nat) (a : Option Addr) (m c : Nat) (l : List Ent) (hn : n ≤ 500000) (hl : ReadsN w0 w0.heap.size a m l) (hm : m ≤ maxLen) (hf : FormedP l) (hg : GenP g) (e : saveE s g l = (0, s')) :
    Calls Try.prog 17 #[.pointer (some ⟨p, 0, none⟩), .int .u64 g, .slice a m c] w fun e w' => e = .returned (.int .i64 0) ∧ ∃ G', Run w0 w' G' p s' (n + 20) := by
  have hz : slotE s.size = k := by rw [hr.2.1, hk]
  have h1 := run_save h g a m c l (by omega) hr.1.1 (by rw [hz]; exact hr.2.2) hl (Nat.le_refl _) hm hf hg
  rw [e] at h1
  refine h1.mono ?_
  rintro e w1 ⟨he, G', hrun⟩
  rw [hz] at hrun
  exact ⟨he, G', hrun.mono (by omega) (by omega)⟩
theorem ready_load {w0 w : World} {G : Nat → Prop} {p n size k : Nat} {s : St} {l : List Ent} {g nx : Nat} (h : Run w0 w G p s n) (hr : Ready size k s) (hk : slotE size = k) (hk11 : k ≤ 11) (hn : n ≤ 500000) (e : loadP s.now size = (l, g, nx)) :
    Calls Try.prog 15 #[.pointer (some ⟨p, 0, none⟩)] w fun e w' => ∃ v, e = .returned (.tuple #[v, .int .u64 (g : Int), .int .u64 (nx : Int), .int .i64 0]) ∧ w'.ownsRow w.heap.size 54 5 v l.length (flatN l) ∧ Run w0 w' G p { s with acts := s.acts + ((2 * k : Nat) : Int) } (n + 40) := by
  have hz : slotE s.size = k := by rw [hr.2.1, hk]
  have h1 := run_load h (by omega) hr.1 (by rw [hz]; exact hr.2.2)
  rw [hr.2.1, e, hk] at h1
  refine h1.mono ?_
  rintro e w1 ⟨v, he, ho, hrun⟩
  have e2 : ({ s with size := size, acts := s.acts + ((2 * k : Nat) : Int) } : St) = { s with acts := s.acts + ((2 * k : Nat) : Int) } := by
    have := hr.2.1; cases s; simp_all
  exact ⟨v, he, ho, (by
    first
      | exact hrun.mono (by omega) (by omega)
      | (rw [← e2]; exact hrun.mono (by omega) (by omega)))⟩
/-- both slots are full: the greater one is told -/
theorem load_two {size k a b : Nat} {s : St} {tg : Nat → Nat → Nat} {L : Nat → List Ent} (h : Good size k s tg L) (hk : k = slotE size) (h8 : 8 ≤ size) (h256 : size ≤ 256) (hab : 0 < b ∧ b < a) (hne : a % 2 ≠ b % 2) (ha : ∀ i, i < k → tg (a % 2) i = a) (hb : ∀ i, i < k → tg (b % 2) i = b) :
    loadP s.now size = (L a, a, a + 1) := by
  obtain ⟨hk0, _, _⟩ := slot_pos h8 h256
  rw [← hk] at hk0
  have hall : ∀ s i, s ≤ 1 → i < k → tg s i = a ∨ tg s i = b := by
    intro s i hs hi
    by_cases hc : s = a % 2
    · left; rw [hc]; exact ha i hi
    · right; rw [show s = b % 2 by omega]; exact hb i hi
  have hH : ∀ s i, s ≤ 1 → i < k → tg s i ≤ a := fun s i hs hi => by rcases hall s i hs hi with h | h <;> omega
  obtain ⟨lx, gx, nx, ex, q1, q2, q3, q4, q5⟩ := load_inv (H := a) hk h8 h256 h.2 h.now hH
  have FA : Full tg k (a % 2) a := ⟨by omega, ha⟩
  have hn := q4 a ⟨a % 2, 0, by omega, hk0, ha 0 hk0⟩ hH
  rcases q5 with ⟨_, _, d3⟩ | ⟨d1, d2, d3, d4⟩
  · exact absurd FA (d3 _ a (by omega))
  · have hgx : gx = a := by
      by_cases hp : gx % 2 = a % 2
      · have h := d2.2 0 hk0
        rw [hp, ha 0 hk0] at h; exact h.symm
      · have h := d4 (a % 2) a (by omega) (fun e => hp e.symm) FA
        have h2 := d2.2 0 hk0
        rw [show gx % 2 = b % 2 by omega, hb 0 hk0] at h2
        omega
    rw [ex, hn, d3, hgx]
    have : nextE a a = a + 1 := by unfold nextE; rw [if_neg (by omega)]
    rw [this]
theorem back_case {size k : Nat} {l m : List Ent} (hk : k = slotE size) (h8 : 8 ≤ size) (h256 : size ≤ 256) (hl : FormedP l) (hm : FormedP m) :
    ∃ s1 s2 s3 : St, saveE (fresh size (2 * (k : Int))) 1 l = (0, s1) ∧ Ready size k s1 ∧ saveE s1 2 m = (0, s2) ∧ Ready size k s2 ∧ loadP s2.now size = (m, 2, 3) ∧
      (∀ n : Int, saveE { s2 with acts := n } 5 l = (0, { s3 with acts := s3.acts + (n - s2.acts) })) ∧ Ready size k s3 ∧ loadP s3.now size = (l, 5, 6) := by
  have g0 : Good size k (fresh size (2 * (k : Int))) (fun _ _ => 0) (fun _ => []) := good_fresh (Int.le_refl _) _
  obtain ⟨s1, tg1, e1, g1, _, b1, t1, u1⟩ := save_whole (g := 1) (l := l) g0 hk h8 ⟨by omega, by omega⟩ hl (fun _ _ _ _ => by omega)
  obtain ⟨s2, tg2, e2, g2, _, b2, t2, u2⟩ := save_whole (g := 2) (l := m) g1 hk h8 ⟨by omega, by omega⟩ hm (fun s i hs hi => by
    rcases t1 s i hs hi with h | ⟨_, h⟩ <;> rw [h] <;> omega)
  have f21 : ∀ i, i < k → tg2 1 i = 1 := fun i hi => by
    rcases t2 1 i (by omega) hi with h | ⟨h, _⟩
    · rw [h]; exact u1 i hi
    · omega
  have hld2 := load_two (a := 2) (b := 1) g2 hk h8 h256 (by omega) (by omega) u2 f21
  obtain ⟨s3, tg3, e3, g3, _, b3, t3, u3⟩ := save_whole (g := 5) (l := l) g2 hk h8 ⟨by omega, by omega⟩ hl (fun s i hs hi => by
    have c : s = 0 ∨ s = 1 := by omega
    rcases c with rfl | rfl
    · rw [u2 i hi]; omega
    · rw [f21 i hi]; omega)
  have f30 : ∀ i, i < k → tg3 0 i = 2 := fun i hi => by
    rcases t3 0 i (by omega) hi with h | ⟨h, _⟩
    · rw [h]; exact u2 i hi
    · omega
  have hld3 := load_two (a := 5) (b := 2) g3 hk h8 h256 (by omega) (by omega) u3 f30
  refine ⟨s1, s2, s3, e1, g1.ready, e2, g2.ready, ?_, fun n => ?_, g3.ready, ?_⟩
  · rw [hld2]; unfold setL; rw [if_pos rfl]
  · obtain ⟨⟨hc, hlt, hs, hb⟩, _⟩ := g2
    have key : ∀ n : Int, saveE { s2 with acts := n } 5 l = (0, { s2 with acts := n + (k : Int) + 1, fl := lay s2.fl (s2.later ++ wrE size k 5 l k 0), later := [] }) := by
      intro n
      have h2 : saveE { s2 with acts := n } 5 l = saveGo size k 5 l k 0 { s2 with acts := n } := by
        unfold saveE
        have : ({ s2 with acts := n } : St).size = size := hs
        rw [this, ← hk]
      rw [h2]
      exact saveGo_calm (g := 5) (l := l) h8 k 0 { s2 with acts := n } (by omega) hc hs hb
    have h0 := key s2.acts
    have he : ({ s2 with acts := s2.acts } : St) = s2 := by cases s2; rfl
    rw [he, e3] at h0
    injection h0 with _ h0
    rw [key n, h0]
    congr 2
    show n + (k : Int) + 1 = s2.acts + (k : Int) + 1 + (n - s2.acts)
    omega
  · rw [hld3]; unfold setL; rw [if_pos rfl]
end Go.Proofs.Ythdibijkiogpjaa
