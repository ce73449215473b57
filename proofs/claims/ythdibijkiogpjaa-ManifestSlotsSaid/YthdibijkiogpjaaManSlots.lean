/- ManifestSlots, as mathematics; a law's device that is written and read block by block. -/
import Derived.Test.YthdibijkiogpjaaManBack
namespace Go.Proofs.Ythdibijkiogpjaa
open Go.ChangeShapes Go.WideShapes Go.ChangeAt Go.RowKit

section
variable {w0 w : World} {G : Nat → Prop} {p : Nat} {s : St} {n : Nat}
theorem run_write (h : Run w0 w G p s n) (i : Int) (A : Option Addr) (m c : Nat) (l : List Nat) {B : Nat} (hn : n < 1000000) (hi : I64 i) (hl : Reads .u64 w B A m l) (hB : B ≤ w.heap.size) :
    Calls Try.prog 20 #[.pointer (some ⟨p, 0, none⟩), .int .i64 i, .slice A m c] w fun e w' => e = .returned (.int .i64 (write s i l).1) ∧ ∃ G', Run w0 w' G' p (write s i l).2 (n + 1) ∧ Far G w w' ∧ ∀ k, G' k → G k ∨ w.heap.size ≤ k := by
  refine (write_any p s n G i A m c l w h.2.1 hn hi hl hB).mono ?_
  rintro e w1 ⟨he, G', hd, hf, hG⟩
  have hz := h.1.size
  refine ⟨he, G', ⟨h.1.trans (hf.below hz h.2.2), hd, fun k hk => ?_⟩, hf, hG⟩
  rcases hG k hk with hk | hk
  · exact h.2.2 k hk
  · omega
theorem run_read (h : Run w0 w G p s n) (i : Int) (hn : n < 1000000) (hi : I64 i) (hc : Calm s) (hr : right s i = true) :
    Calls Try.prog 21 #[.pointer (some ⟨p, 0, none⟩), .int .i64 i] w fun e w' => ∃ A c, e = .returned (.tuple #[.slice A s.size c, .int .i64 0]) ∧ Reads .u64 w' w'.heap.size A s.size (s.now i) ∧ Run w0 w' G p { s with acts := s.acts + 1 } (n + 1) ∧ Far (fun k => k = p) w w' := by
  have hra := read_any p s n G i w h.2.1 hn hi
  rw [read_ok hc hr] at hra
  have hnl := now_len h.2.1.fits i
  refine hra.mono ?_
  rintro e w1 ⟨v, he, _, hw, hd, hf⟩
  obtain ⟨A, c, e1, _, e2⟩ := (hw rfl).reads
  rw [hnl] at e1 e2
  exact ⟨A, c, by rw [he, e1], e2, ⟨h.1.trans (hf.below h.1.size fun b hb => by rw [hb]; exact h.2.2 p h.2.1.mine), hd, h.2.2⟩, hf⟩
theorem run_save3 (h : Run w0 w G p s n) {size k : Nat} (hs : s.size = size) (hk : slotE size = k) (hk11 : k ≤ 11) (g : Nat) (a : Option Addr) (m c : Nat) (l : List Ent) (hn : n ≤ 500000) (hc : Calm s) (hbk : 2 * (k : Int) ≤ s.blocks) (hl : ReadsN w0 w0.heap.size a m l) (hm : m ≤ maxLen) (hf : FormedP l) (hg : GenP g) :
    Calls Try.prog 17 #[.pointer (some ⟨p, 0, none⟩), .int .u64 g, .slice a m c] w fun e w' => e = .returned (.int .i64 0) ∧ ∃ G', Run w0 w' G' p { s with acts := s.acts + (k : Int) + 1, fl := lay s.fl (s.later ++ wrE size k g l k 0), later := [] } (n + 20) ∧ Far G w w' ∧ ∀ k, G' k → G k ∨ w.heap.size ≤ k := by
  have hsz := h.2.1.fits.size
  have e : saveE s g l = (0, { s with acts := s.acts + (k : Int) + 1, fl := lay s.fl (s.later ++ wrE size k g l k 0), later := [] }) := by
    have h2 : saveE s g l = saveGo size k g l k 0 s := by unfold saveE; rw [hs, hk]
    rw [h2]
    exact saveGo_calm (g := g) (l := l) (by omega) k 0 s (by omega) hc hs hbk
  have h1 := save_any p s n G g a m c l w h.2.1 (by omega) hc.1 (by rw [hs, hk]; exact hbk) (hl.keep h.1) h.1.size hm hf hg
  rw [e, hs, hk] at h1
  refine h1.mono ?_
  rintro e w1 ⟨he, G', hd, hf, hG⟩
  have hz := h.1.size
  have hd2 : Dev w1 G' p { s with acts := s.acts + (k : Int) + 1, fl := lay s.fl (s.later ++ wrE size k g l k 0), later := [] } (n + k + 1) := by
    first
      | exact hd
      | (have e2 : ({ s with size := size, acts := s.acts + (k : Int) + 1, fl := lay s.fl (s.later ++ wrE size k g l k 0), later := [] } : St) = { s with acts := s.acts + (k : Int) + 1, fl := lay s.fl (s.later ++ wrE size k g l k 0), later := [] } := by
          rw [← hs]
         rw [← e2]; exact hd)
  refine ⟨he, G', ⟨h.1.trans (hf.below hz h.2.2), hd2.mono (by omega) (by omega), fun k hk => ?_⟩, hf, hG⟩
  rcases hG k hk with hk | hk
  · exact h.2.2 k hk
  · omega
end
def markL (n : Nat) : List Nat := 7 :: List.replicate (n - 1) 0
theorem mark_len {n : Nat} (h : 1 ≤ n) : (markL n).length = n := by unfold markL; rw [List.length_cons, List.length_replicate]; omega
def marks (n j : Nat) : List (Int × List Nat) := (List.range j).map fun i : Nat => ((i : Int), markL n)
theorem marks_snoc (n j : Nat) : marks n (j + 1) = marks n j ++ [((j : Int), markL n)] := by unfold marks; rw [List.range_succ, List.map_append]; rfl
theorem lay_app {α : Type} (f : Int → Option α) (a b : List (Int × α)) : lay f (a ++ b) = lay (lay f a) b := by unfold lay; rw [List.foldl_append]
theorem marks_at {n j i : Nat} (h : i < j) : lay nothing (marks n j) (i : Int) = some (markL n) := by
  rcases lay_or (marks n j) nothing (i : Int) with ⟨_, h2⟩ | ⟨e, h1, _, h3⟩
  · exact absurd rfl (h2 ((i : Int), markL n) (List.mem_map.2 ⟨i, List.mem_range.2 h, rfl⟩))
  · obtain ⟨i', _, rfl⟩ := List.mem_map.1 h1
    exact h3
theorem block_mark {size k g i : Nat} {l : List Ent} (h8 : 8 ≤ size) : blockE size k g l i ≠ markL size := by
  intro e
  have h1 : (blockE size k g l i).getD (size - 1) 0 = (markL size).getD (size - 1) 0 := by rw [e]
  have h2 : (markL size).getD (size - 1) 0 = 0 := by
    unfold markL
    rw [show size - 1 = (size - 2) + 1 by omega, List.getD_cons_succ, List.getD_eq_getElem?_getD, List.getElem?_replicate]
    split <;> rfl
  have h3 : (blockE size k g l i).getD (size - 1) 0 / 4294967296 = (partE (size - 2) i (wordsE g l)).length + 1 := by
    unfold blockE
    rw [seal_last (part_len _ _ _) (by omega), last_div]
  rw [h1, h2] at h3
  omega
/-- the blocks behind it all -/
theorem slots_now {size k g i : Nat} {l : List Ent} (h8 : 8 ≤ size) (hk : 0 < k) (hi : i < 2 * k + 2) :
    (i / k = g % 2 ∧ i < 2 * k → blk size (lay nothing (marks size (2 * k + 2) ++ wrE size k g l k 0) (i : Int)) ≠ markL size) ∧ (¬ (i / k = g % 2 ∧ i < 2 * k) → blk size (lay nothing (marks size (2 * k + 2) ++ wrE size k g l k 0) (i : Int)) = markL size) := by
  rw [lay_app]
  rcases lay_or (wrE size k g l k 0) (lay nothing (marks size (2 * k + 2))) (i : Int) with ⟨h1, h2⟩ | ⟨e, h1, h2, h3⟩
  · rw [h1, marks_at hi]
    refine ⟨fun ⟨ho, _⟩ => ?_, fun _ => rfl⟩
    exfalso
    have hm := Nat.div_add_mod i k
    have hl := Nat.mod_lt i hk
    rw [ho] at hm
    have := h2 _ (mem_wr (size := size) (k := k) (g := g) (l := l) (r := k) (i := 0) (j := i % k) (Nat.zero_le _) (by omega))
    rw [hm] at this
    exact this rfl
  · obtain ⟨j, _, hj, rfl⟩ := wr_mem h1
    rw [h3]
    refine ⟨fun _ => block_mark h8, fun hno => ?_⟩
    exfalso
    apply hno
    have h2 : k * (g % 2) + j = i := Int.ofNat.inj h2
    have hg2 : g % 2 = 0 ∨ g % 2 = 1 := by omega
    rw [← h2]
    constructor
    · rw [Nat.mul_add_div hk, Nat.div_eq_of_lt (by omega)]; omega
    · rcases hg2 with h | h <;> rw [h] <;> omega
end Go.Proofs.Ythdibijkiogpjaa
