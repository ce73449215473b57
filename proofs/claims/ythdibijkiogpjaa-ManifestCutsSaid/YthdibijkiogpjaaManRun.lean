/- A law's device: made behind the law's beginning; its Saves, Loads, crashes. -/
import Derived.Test.YthdibijkiogpjaaManLaw
namespace Go.Proofs.Ythdibijkiogpjaa
open Go.ChangeShapes Go.WideShapes Go.ChangeAt Go.RowKit

/-- behind w0 nothing that was there has turned, and p is a device of its own -/
def Run (w0 w : World) (G : Nat → Prop) (p : Nat) (s : St) (n : Nat) : Prop := Below w0.heap.size w0 w ∧ Dev w G p s n ∧ ∀ k, G k → w0.heap.size ≤ k
section
variable {w0 w w' : World} {G : Nat → Prop} {p : Nat} {s : St} {n : Nat}
theorem Run.below (h : Run w0 w G p s n) (hb : Below w.heap.size w w') : Run w0 w' G p s n := ⟨h.1.trans (hb.mono h.1.size), h.2.1.below hb, h.2.2⟩
theorem Run.mono {n' : Nat} (h : Run w0 w G p s n) (hn : n ≤ n') (h6 : n' ≤ 1000000) : Run w0 w G p s n' := ⟨h.1, h.2.1.mono hn h6, h.2.2⟩
theorem run_new (size : Nat) (blocks : Int) (hb : Below w0.heap.size w0 w) (h1 : 8 ≤ size ∧ size ≤ 256) (h2 : 0 ≤ blocks ∧ blocks ≤ 1000000) :
    Calls Try.prog 14 #[.int .i64 (size : Int), .int .i64 blocks] w fun e w' => ∃ p G, e = .returned (.tuple #[.pointer (some ⟨p, 0, none⟩), .int .i64 0]) ∧ Run w0 w' G p (fresh size blocks) 0 := by
  refine (new_any size blocks w h1 h2).mono ?_
  rintro e w1 ⟨p, G, rfl, hd, hG, hb1⟩
  exact ⟨p, G, rfl, hb.trans (hb1.mono hb.size), hd, fun k hk => Nat.le_trans hb.size (hG k hk)⟩
theorem run_save (h : Run w0 w G p s n) (g : Nat) (a : Option Addr) (m c : Nat) (l : List Ent) {B : Nat} (hn : n ≤ 900000) (hdn : s.down = false) (hbk : 2 * (slotE s.size : Int) ≤ s.blocks) (hl : ReadsN w0 B a m l) (hB : B ≤ w0.heap.size) (hm : m ≤ maxLen) (hf : FormedP l) (hg : GenP g) :
    Calls Try.prog 17 #[.pointer (some ⟨p, 0, none⟩), .int .u64 g, .slice a m c] w fun e w' => e = .returned (.int .i64 (saveE s g l).1) ∧ ∃ G', Run w0 w' G' p (saveE s g l).2 (n + slotE s.size + 1) := by
  refine (save_any p s n G g a m c l w h.2.1 hn hdn hbk (hl.keep (h.1.mono hB)) (Nat.le_trans hB h.1.size) hm hf hg).mono ?_
  rintro e w1 ⟨he, G', hd, hf, hG⟩
  have hz := h.1.size
  refine ⟨he, G', h.1.trans (hf.below hz h.2.2), hd, fun k hk => ?_⟩
  rcases hG k hk with hk | hk
  · exact h.2.2 k hk
  · omega
theorem run_load (h : Run w0 w G p s n) (hn : n ≤ 800000) (hcalm : Calm s) (hbk : 2 * (slotE s.size : Int) ≤ s.blocks) :
    Calls Try.prog 15 #[.pointer (some ⟨p, 0, none⟩)] w fun e w' => ∃ v, e = .returned (.tuple #[v, .int .u64 ((loadP s.now s.size).2.1 : Nat), .int .u64 ((loadP s.now s.size).2.2 : Nat), .int .i64 0]) ∧ w'.ownsRow w.heap.size 54 5 v (loadP s.now s.size).1.length (flatN (loadP s.now s.size).1) ∧ Run w0 w' G p { s with acts := s.acts + ((2 * slotE s.size : Nat) : Int) } (n + 2 * slotE s.size) := by
  refine (load_any p s n G w h.2.1 hn hcalm hbk).mono ?_
  rintro e w1 ⟨v, he, ho, hd, hf⟩
  exact ⟨v, he, ho, h.1.trans (hf.below h.1.size fun b hb => by rw [hb]; exact h.2.2 p h.2.1.mine), hd, h.2.2⟩
theorem run_fuse (h : Run w0 w G p s n) (m : Int) (h0 : 0 ≤ m) (h1 : m ≤ 1000000) :
    Calls Try.prog 16 #[.pointer (some ⟨p, 0, none⟩), .int .i64 m] w fun e w' => e = .returned (.tuple #[]) ∧ Run w0 w' G p { s with fb := true, fn := m } n := by
  refine (setFuse_any p s n G m w h.2.1 h0 h1).mono ?_
  rintro e w1 ⟨he, hd, hf⟩
  exact ⟨he, h.1.trans (hf.below h.1.size fun b hb => by rw [hb]; exact h.2.2 p h.2.1.mine), hd, h.2.2⟩
theorem run_crash (h : Run w0 w G p s n) (A : Option Addr) (m c : Nat) (keep : List Bool) {B : Nat} (hk : ReadsB w0 B A m keep) (hB : B ≤ w0.heap.size) (hm : m ≤ 1000000) :
    Calls Try.prog 18 #[.pointer (some ⟨p, 0, none⟩), .slice A m c] w fun e w' => ∃ p' G', e = .returned (.pointer (some ⟨p', 0, none⟩)) ∧ Run w0 w' G' p' (crash s keep) n := by
  have hp := h.2.2 p h.2.1.mine
  have hz := h.1.size
  refine (crash_any p s n G A m c keep w h.2.1 (hk.keep (h.1.mono hB)) (Nat.le_trans hB hz) (fun hm b off hA => ?_) hm).mono ?_
  · obtain ⟨b', off', e, hb, _⟩ := hk.2 hm
    rw [hA] at e; injection e with e; injection e with e _; omega
  · rintro e w1 ⟨p', G', he, hd, hf, hG, _⟩
    refine ⟨p', G', he, h.1.trans (hf.below hz fun b hb => by rw [hb]; exact hp), hd, fun k hk => ?_⟩
    rcases hG k hk with hk | hk
    · exact h.2.2 k hk.1
    · omega
end
/-- a calm device, nothing of which is cached, and that holds manifests -/
def Good (size k : Nat) (s : St) (tg : Nat → Nat → Nat) (L : Nat → List Ent) : Prop := (Calm s ∧ s.later = [] ∧ s.size = size ∧ 2 * (k : Int) ≤ s.blocks) ∧ Inv size k s.fl tg L
theorem Good.now {size k : Nat} {s : St} {tg : Nat → Nat → Nat} {L : Nat → List Ent} (h : Good size k s tg L) (x : Int) : s.now x = blk size (s.fl x) := by
  unfold St.now; rw [h.1.2.1, h.1.2.2.1]; rfl
theorem Good.acts {size k : Nat} {s : St} {tg : Nat → Nat → Nat} {L : Nat → List Ent} (h : Good size k s tg L) (n : Int) : Good size k { s with acts := n } tg L := h
theorem good_fresh {size k : Nat} {b : Int} (hb : 2 * (k : Int) ≤ b) (L : Nat → List Ent) : Good size k (fresh size b) (fun _ _ => 0) L := ⟨⟨fresh_calm size b, rfl, rfl, hb⟩, inv_fresh size k L⟩
theorem wr_in {size k g : Nat} {l : List Ent} {r : Nat} (hr : r ≤ k) : ∀ e ∈ wrE size k g l r 0, ∃ j, j < k ∧ e = (((k * (g % 2) + j : Nat) : Int), blockE size k g l j) := by
  intro e he
  obtain ⟨j, _, h2, h3⟩ := wr_mem he
  exact ⟨j, by omega, h3⟩
/-- a Save that is not cut -/
theorem save_whole {size k g : Nat} {s : St} {tg : Nat → Nat → Nat} {L : Nat → List Ent} {l : List Ent} (h : Good size k s tg L) (hk : k = slotE size) (h8 : 8 ≤ size) (hg : GenP g) (hf : FormedP l) (hn : ∀ s i, s ≤ 1 → i < k → tg s i ≠ g) :
    ∃ s' tg', saveE s g l = (0, s') ∧ Good size k s' tg' (setL L g l) ∧ s'.fl = lay s.fl (wrE size k g l k 0) ∧ s'.blocks = s.blocks ∧ (∀ s i, s ≤ 1 → i < k → tg' s i = tg s i ∨ (s = g % 2 ∧ tg' s i = g)) ∧ ∀ j, j < k → tg' (g % 2) j = g := by
  obtain ⟨⟨hc, hl, hs, hb⟩, hi⟩ := h
  have e : saveE s g l = (0, { s with acts := s.acts + (k : Int) + 1, fl := lay s.fl (s.later ++ wrE size k g l k 0), later := [] }) := by
    have h2 : saveE s g l = saveGo size k g l k 0 s := by unfold saveE; rw [hs, ← hk]
    rw [h2]
    exact saveGo_calm (g := g) (l := l) h8 k 0 s (by omega) hc hs hb
  obtain ⟨tg', i1, i2, i3⟩ := inv_lay hi hg hf hn (wr_in (Nat.le_refl k))
  rw [hl, List.nil_append] at e
  exact ⟨_, tg', e, ⟨⟨hc, rfl, hs, hb⟩, i1⟩, rfl, rfl, i2, i3 fun j hj => mem_wr (Nat.zero_le _) (by omega)⟩
end Go.Proofs.Ythdibijkiogpjaa
