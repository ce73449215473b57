/- What Close of a writer answers, and leaves. -/
import Derived.Test.YtbkgpilmgllkiaaFilePut
namespace Go.Proofs.Ytbkgpilmgllkiaa
open Go.ChangeShapes Go.WideShapes Go.ChangeAt Go.RowKit

/-- a file's value -/
def fileV (first blocks k c : Nat) : Value := .agg #[.int .i64 first, .int .i64 blocks, .int .i64 k, .int .i64 c]
/-- where the file begins that a writer leaves -/
def firstOf (t : Wt) : Nat := if t.l.length = 0 then 0 else t.first
def CloseTo (w : World) (G : Nat → Prop) (x : Nat) (p : Wp) (F : Fs) (n : Nat) (t : Wt) (e : Ending) (w' : World) : Prop :=
  (t.l.length % t.h = 0 ∧ e = .returned (.tuple #[fileV (firstOf t) (blocksN t.h t.l.length) t.k t.l.length, .int .i64 0]) ∧ PutEnd w G x p (endF F t (blocksN t.h t.l.length)) n t w') ∨
  (t.l.length % t.h ≠ 0 ∧ (write F.D (lastAd t : Nat) (lastW8 F.D.size t)).1 = 0 ∧ e = .returned (.tuple #[fileV (firstOf t) (blocksN t.h t.l.length) t.k t.l.length, .int .i64 0]) ∧
    PutEnd w G x p (endF { F with D := (write F.D (lastAd t : Nat) (lastW8 F.D.size t)).2 } t (blocksN t.h t.l.length)) (n + 1) t w') ∨
  (t.l.length % t.h ≠ 0 ∧ (write F.D (lastAd t : Nat) (lastW8 F.D.size t)).1 ≠ 0 ∧ e = .returned (.tuple #[fileV 0 0 0 0, .int .i64 (write F.D (lastAd t : Nat) (lastW8 F.D.size t)).1]) ∧
    PutEnd w G x p (endF { F with D := (write F.D (lastAd t : Nat) (lastW8 F.D.size t)).2 } t 0) (n + 1) t w')

theorem Far.four (w : World) (g : Nat) (a b c d : Value) : Far (fun k => k = g) w ((((w.setCell ⟨g, 0, none⟩ a).setCell ⟨g, 1, none⟩ b).setCell ⟨g, 2, none⟩ c).setCell ⟨g, 3, none⟩ d) :=
  ((Far.two w g 0 1 a b).set (p := ⟨g, 2, none⟩) (.inl rfl) c).set (p := ⟨g, 3, none⟩) (.inl rfl) d
/-- the end of Close: the result lies in a block rb of its own -/
theorem close_fin {w w0 W6 W7 : World} {G : Nat → Prop} {p : Wp} {F FE : Fs} {n n1 x : Nat} {t : Wt} {rb : Nat} (h : Sys w G p F n) (hst : ∀ q ∈ FE.A.st, q ∈ F.A.st) (hb0 : Below w.heap.size w w0) (hr : Row w x 136 (wrC p t)) (hx : ¬ G x) (hxb : x ≠ t.b) (hbw : t.b < w.heap.size)
    (h6 : EndTo w0 G t.b p FE n1 W6) (hrb : w.heap.size ≤ rb) (hrb2 : rb < w0.heap.size) (hf7 : Far (fun k => k = rb) W6 W7) : PutEnd w G x p FE n1 t W7 := by
  have hxw := hr.lt
  obtain ⟨G', k1, k2, k3, k4⟩ := h6
  have hr0 := hr.below hb0 hxw
  refine ⟨G', k1.far hf7 (fun k hk e => ?_) (fun q hq e => ?_), ⟨hf7.row (k2.row hr0 (by rintro (h5 | h5); exact hx h5; exact hxb h5)) (by omega), hf7.row k4 (by omega)⟩, ?_, ?_⟩
  · subst e
    rcases k3 k hk with h5 | h5
    · have := h.lt h5; omega
    · omega
  · have := (h.buf (hst q hq)).1.lt; omega
  · refine (((Far.of_below hb0 (fun k => G k ∨ k = x ∨ k = t.g ∨ k = t.b)).trans k2 fun k hk => .inl (hk.elim .inl fun h => .inr (.inr (.inr h))))).trans hf7 fun k hk => .inr (by omega)
  · intro k hk
    exact (k3 k hk).imp_right fun h => Nat.le_trans hb0.size h

set_option maxRecDepth 100000 in
theorem wclose_nil (w : World) : Calls Try.prog 35 #[.pointer none] w fun e w' => e = .returned (.tuple #[fileV 0 0 0 0, .int .i64 1]) ∧ Below w.heap.size w w' := by
  have hb := (Below.refl w.heap.size w).alloc (Nat.le_refl _) (.cells #[.int .i64 0, .int .i64 0, .int .i64 0, .int .i64 0] 30)
  have HB := Lib.hid hb
  have HC := Lib.hid (wclosed_nil (w.alloc (.cells #[.int .i64 0, .int .i64 0, .int .i64 0, .int .i64 0] 30)))
  have hr : Row (w.alloc (.cells #[.int .i64 0, .int .i64 0, .int .i64 0, .int .i64 0] 30)) w.heap.size 30 [.int .i64 0, .int .i64 0, .int .i64 0, .int .i64 0] := heap_alloc_new _ _
  have r0 := hr.cell 0
  have r1 := hr.cell 1
  have r2 := hr.cell 2
  have r3 := hr.cell 3
  clear hb hr
  go_enter Try.func35, Try.ntmps35
  go_wp2_with fail
  refine HC.out.mono ?_; rintro e w2 ⟨rfl, rfl⟩
  go_wp2
  refine bodyPost_ret (v := .tuple #[.agg #[.int .i64 0, .int .i64 0, .int .i64 0, .int .i64 0], .int .i64 1]) (by simp [results, Try.results35, go_sem, r0, r1, r2, r3]) rfl ⟨rfl, HB.out⟩
set_option maxRecDepth 100000 in
theorem wclose_shut {w : World} {x : Nat} {p : Wp} {t : Wt} (hs : WShut w x p t) : Calls Try.prog 35 #[.pointer (some ⟨x, 0, none⟩)] w fun e w' => e = .returned (.tuple #[fileV 0 0 0 0, .int .i64 1]) ∧ Below w.heap.size w w' := by
  have hb := (Below.refl w.heap.size w).alloc (Nat.le_refl _) (.cells #[.int .i64 0, .int .i64 0, .int .i64 0, .int .i64 0] 30)
  have HB := Lib.hid hb
  have HC := Lib.hid (wclosed_any (hs.1.below hb hs.1.lt) (hs.2.below hb hs.2.lt))
  have hr : Row (w.alloc (.cells #[.int .i64 0, .int .i64 0, .int .i64 0, .int .i64 0] 30)) w.heap.size 30 [.int .i64 0, .int .i64 0, .int .i64 0, .int .i64 0] := heap_alloc_new _ _
  have r0 := hr.cell 0
  have r1 := hr.cell 1
  have r2 := hr.cell 2
  have r3 := hr.cell 3
  clear hb hr hs
  go_enter Try.func35, Try.ntmps35
  go_wp2_with fail
  refine HC.out.mono ?_; rintro e w2 ⟨rfl, rfl⟩
  go_wp2
  refine bodyPost_ret (v := .tuple #[.agg #[.int .i64 0, .int .i64 0, .int .i64 0, .int .i64 0], .int .i64 1]) (by simp [results, Try.results35, go_sem, r0, r1, r2, r3]) rfl ⟨rfl, HB.out⟩

/-- the half of Close behind the last block: W2 is the world there -/
def CloseMid (w w0 : World) (G : Nat → Prop) (x : Nat) (p : Wp) (t : Wt) (F1 : Fs) (n1 : Nat) (W2 : World) : Prop := SysTo w0 G p F1 n1 W2 ∧ Row W2 x 136 (wrC p t) ∧ Row W2 w.heap.size 30 [.int .i64 0, .int .i64 0, .int .i64 0, .int .i64 0]
set_option maxHeartbeats 4000000 in
set_option maxRecDepth 100000 in
theorem wclose_any {w : World} {G : Nat → Prop} {p : Wp} {F : Fs} {n x : Nat} {t : Wt} (h : Sys w G p F n) (hn : n < 1000000) (hok : WtOk t F.D.size) (hm : WOpen w x p t F.D.size) (ho : WOut G x t) (hst : wordsAt F.A.st t.b = some F.D.size) : Calls Try.prog 35 #[.pointer (some ⟨x, 0, none⟩)] w (CloseTo w G x p F n t) := by
  obtain ⟨ws, hm, hheld⟩ := hm
  obtain ⟨hx, hbw, hgw⟩ := hm.lt
  obtain ⟨hxb, hxg, hbg⟩ := hm.apart
  have hk := hok.k
  have hh := hok.h
  have hsz := hok.sz
  have hbd := hok.bound
  have hbl := hok.blocks
  have hfi := hok.first
  have hb0 := (Below.refl w.heap.size w).alloc (Nat.le_refl _) (.cells #[.int .i64 0, .int .i64 0, .int .i64 0, .int .i64 0] 30)
  have hrb : Row (w.alloc (.cells #[.int .i64 0, .int .i64 0, .int .i64 0, .int .i64 0] 30)) w.heap.size 30 [.int .i64 0, .int .i64 0, .int .i64 0, .int .i64 0] := heap_alloc_new _ _
  have hz0 : (w.alloc (.cells #[.int .i64 0, .int .i64 0, .int .i64 0, .int .i64 0] 30)).heap.size = w.heap.size + 1 := by simp
  obtain ⟨w0, hw0⟩ : ∃ w0, w0 = w.alloc (.cells #[.int .i64 0, .int .i64 0, .int .i64 0, .int .i64 0] 30) := ⟨_, rfl⟩
  rw [← hw0] at hb0 hrb hz0
  have hnG : ¬ G w.heap.size := fun hg => by have := h.lt hg; omega
  have h0 := h.below hb0
  have hm0 := hm.below hb0
  have hx0 : x < w0.heap.size := by omega
  have HC := Lib.hid (wclosed_any hm0.row hm0.buf)
  have hd : decide (0 < F.D.size) = true := by simp; omega
  rw [hd] at HC
  -- what writeLast leaves
  have hbe := below_drew (Below.refl w0.heap.size w0)
  have HMID0 : Hid (CloseMid w w0 G x p t F n w0.drew) := ⟨SysTo.of_below h0 hbe, hm0.row.below hbe hx0, hrb.below hbe hrb.lt⟩
  have HLAST : Hid (t.l.length % t.h ≠ 0 → Calls Try.prog 60 #[.pointer (some ⟨x, 0, none⟩)] w0.drew fun e w' => e = .returned (.int .i64 (write F.D (lastAd t : Nat) (lastW8 F.D.size t)).1) ∧
      (((write F.D (lastAd t : Nat) (lastW8 F.D.size t)).1 = 0 ∧ CloseMid w w0 G x p t { F with D := (write F.D (lastAd t : Nat) (lastW8 F.D.size t)).2 } (n + 1) w') ∨
       ((write F.D (lastAd t : Nat) (lastW8 F.D.size t)).1 ≠ 0 ∧ EndTo w0 G t.b p (endF { F with D := (write F.D (lastAd t : Nat) (lastW8 F.D.size t)).2 } t 0) (n + 1) w' ∧ Row w' w.heap.size 30 [.int .i64 0, .int .i64 0, .int .i64 0, .int .i64 0]))) := fun hne => by
    have hl : 0 < t.l.length := by
      rcases Nat.eq_zero_or_pos t.l.length with h1 | h1
      · rw [h1] at hne; simp at hne
      · exact h1
    refine (wlast_any (h0.below hbe) hn hok (hm0.below hbe) ho hst hl ((held_last hh.1 hne).1 hheld)).mono ?_
    rintro e w' ⟨he, h1⟩
    refine ⟨he, ?_⟩
    rcases h1 with ⟨h2, h3⟩ | ⟨h2, h3⟩
    · exact .inl ⟨h2, h3.behind hbe, h3.row (hm0.row.below hbe hx0) ho.x, h3.row (hrb.below hbe hrb.lt) hnG⟩
    · refine .inr ⟨h2, h3.behind hbe, h3.row (hrb.below hbe hrb.lt) hnG (by omega)⟩
  -- THE WALK
  obtain ⟨nb, hnb⟩ : ∃ nb, nb = blocksN t.h t.l.length := ⟨_, rfl⟩
  obtain ⟨fst, hfst⟩ : ∃ fst, fst = firstOf t := ⟨_, rfl⟩
  have hnbl : nb ≤ t.blocks := by rw [hnb, hbl.1]; exact blocks_mono hh.1 hbd.2
  have HBL : Hid (∀ W, Calls Try.prog 48 #[.agg #[.int .i64 t.k, .int .i64 t.h], .int .i64 (t.l.length : Nat)] W fun e w' => e = .returned (.int .i64 nb) ∧ Below W.heap.size W w') := fun W => by
    rw [hnb]; exact blks_any t.k t.h t.l.length W hh.1 hh.2.2 (by omega)
  have HWEND : Hid (∀ (F1 : Fs) (n1 : Nat) (W2 : World), CloseMid w w0 G x p t F1 n1 W2 → F1.A = F.A → F1.D.size = F.D.size → ∀ W5, Below W2.heap.size W2 W5 → Calls Try.prog 55 #[.pointer (some ⟨x, 0, none⟩), .int .i64 nb] W5 fun e w6 => e = .returned (.tuple #[]) ∧ EndTo w0 G t.b p (endF F1 t nb) n1 w6 ∧ Row w6 w.heap.size 30 [.int .i64 0, .int .i64 0, .int .i64 0, .int .i64 0] ∧ ∀ fb cs, Row W5 fb 30 cs → W2.heap.size ≤ fb → Row w6 fb 30 cs) := by
    intro F1 n1 W2 ⟨hs2, hr2, hf2⟩ hA hD W5 hb5
    obtain ⟨G', k1, k2, k3⟩ := hs2
    have hx2 := hr2.lt
    have hbw2 : t.b < W2.heap.size := by have := k2.size; omega
    have hnx : ¬ G' x := fun hg => (k3 x hg).elim ho.x fun h8 => by omega
    refine (wend_any (k1.below hb5) (hr2.below hb5 hx2) hnx (by rw [hA, hD]; exact hst) hxb hfi hbl.2 nb hnbl).mono ?_
    rintro e w6 ⟨he, h6⟩
    have hnw : ¬ G' w.heap.size := fun hg => (k3 _ hg).elim hnG fun h8 => by omega
    have hf5 : Row W5 w.heap.size 30 [.int .i64 0, .int .i64 0, .int .i64 0, .int .i64 0] := hf2.below hb5 hf2.lt
    refine ⟨he, (h6.behind hb5).from k2 k3, h6.row hf5 hnw (by omega), fun fb cs hfb hl => h6.row hfb (fun hg => by have := k1.lt hg; omega) (by omega)⟩
  have HFIN : Hid (∀ (F1 : Fs) (n1 kp : Nat) (W6 W7 : World), F1.A = F.A → EndTo w0 G t.b p (endF F1 t kp) n1 W6 → Far (fun k => k = w.heap.size) W6 W7 → PutEnd w G x p (endF F1 t kp) n1 t W7) := by
    intro F1 n1 kp W6 W7 hA h6 hf7
    refine close_fin h (fun q hq => ?_) hb0 hm.row ho.x hxb hbw h6 (Nat.le_refl _) (by omega) hf7
    have hq1 : q ∈ without F1.A.st t.b := hq
    have := without_mem _ _ _ hq1
    rwa [hA] at this
  have HCELL : Hid (∀ (F1 : Fs) (n1 : Nat) (W2 : World), CloseMid w w0 G x p t F1 n1 W2 → ∀ W, Below W2.heap.size W2 W → W.cell? ⟨x, 0, none⟩ = some (.int .i64 t.k) ∧ W.cell? ⟨x, 1, none⟩ = some (.int .i64 t.h) ∧ W.cell? ⟨x, 4, none⟩ = some (.int .i64 (t.l.length : Nat)) ∧ W.cell? ⟨x, 5, none⟩ = some (.int .i64 t.first)) := by
    intro F1 n1 W2 ⟨_, hr2, _⟩ W hb
    have r := hr2.below hb hr2.lt
    exact ⟨r.cell 0, r.cell 1, r.cell 4, r.cell 5⟩
  have hse := (write_size2 F.D (lastAd t : Nat) (lastW8 F.D.size t)).1
  have HPA : Hid (t.l.length % t.h = 0 → ∀ W7, PutEnd w G x p (endF F t nb) n t W7 → CloseTo w G x p F n t (.returned (.tuple #[fileV fst nb t.k t.l.length, .int .i64 0])) W7) := fun h1 W7 h2 => by
    rw [hnb] at h2 ⊢; rw [hfst]; exact .inl ⟨h1, rfl, h2⟩
  have HPB : Hid (t.l.length % t.h ≠ 0 → (write F.D (lastAd t : Nat) (lastW8 F.D.size t)).1 = 0 → ∀ W7, PutEnd w G x p (endF { F with D := (write F.D (lastAd t : Nat) (lastW8 F.D.size t)).2 } t nb) (n + 1) t W7 → CloseTo w G x p F n t (.returned (.tuple #[fileV fst nb t.k t.l.length, .int .i64 0])) W7) := fun h1 h0 W7 h2 => by
    rw [hnb] at h2 ⊢; rw [hfst]; exact .inr (.inl ⟨h1, h0, rfl, h2⟩)
  have HPC : Hid (t.l.length % t.h ≠ 0 → (write F.D (lastAd t : Nat) (lastW8 F.D.size t)).1 ≠ 0 → ∀ W7, PutEnd w G x p (endF { F with D := (write F.D (lastAd t : Nat) (lastW8 F.D.size t)).2 } t 0) (n + 1) t W7 → CloseTo w G x p F n t (.returned (.tuple #[fileV 0 0 0 0, .int .i64 (write F.D (lastAd t : Nat) (lastW8 F.D.size t)).1])) W7) := fun h1 h0 W7 h2 => .inr (.inr ⟨h1, h0, rfl, h2⟩)
  have hmodE : Int.tmod ((t.l.length : Nat) : Int) (t.h : Int) = ((t.l.length % t.h : Nat) : Int) := rfl
  have hh0 : ¬ ((t.h : Int) = 0) := by omega
  have hmb : t.l.length % t.h ≤ 254 := by have := Nat.mod_lt t.l.length hh.1; omega
  have HZ : Hid (t.l.length = 0 → nb = 0 ∧ fst = 0) := fun h1 => ⟨by rw [hnb, h1, blocks_zero], by rw [hfst]; unfold firstOf; rw [if_pos h1]⟩
  have HNZ : Hid (t.l.length ≠ 0 → fst = t.first) := fun h1 => by rw [hfst]; unfold firstOf; rw [if_neg h1]
  have hrc0 := hm0.row.cell 0
  have a1 : w0.cell? ⟨x, 1, none⟩ = some (.int .i64 t.h) := hm0.row.cell 1
  have a4 : w0.cell? ⟨x, 4, none⟩ = some (.int .i64 (t.l.length : Nat)) := hm0.row.cell 4
  have hcb : t.l.length ≤ 100000000 := by omega
  have HRB := Lib.hid hrb
  obtain ⟨FB, hFB⟩ : ∃ FB : Fs, FB = { F with D := (write F.D (lastAd t : Nat) (lastW8 F.D.size t)).2 } := ⟨_, rfl⟩
  have HFBA : Hid (FB.A = F.A ∧ FB.D.size = F.D.size) := by unfold Hid; rw [hFB]; exact ⟨rfl, hse⟩
  have HFA : Hid (F.A = F.A ∧ F.D.size = F.D.size) := ⟨rfl, rfl⟩
  rw [← hFB] at HLAST HPB HPC
  clear hFB hse h h0 hm hm0 hok hheld hst hd hnb hfst hnbl hbl hfi hbd hrb hb0 hrc0 hz0 hbe hsz hk hnG hx hbw hgw hxb hxg hbg hx0 ho
  generalize CloseTo w G x p F n t = POST at *
  generalize (write F.D (lastAd t : Nat) (lastW8 F.D.size t)).1 = er at *
  obtain ⟨k, hh2, bound, first, blocks, b, g, l⟩ := t
  simp only at *
  obtain ⟨cnt, hcnt⟩ : ∃ cnt, cnt = l.length := ⟨_, rfl⟩
  rw [← hcnt] at hmodE hmb HZ HNZ a4 hcb HLAST HBL HCELL HPA HPB HPC
  obtain ⟨r, hr⟩ : ∃ r, r = cnt % hh2 := ⟨_, rfl⟩
  rw [← hr] at hmodE hmb HLAST HPA HPB HPC
  have HW0 := Lib.hid hw0
  clear hr hcnt hh hw0
  by_cases hr0 : r = 0
  · have gr : ¬ 0 < r := by omega
    have HP := Lib.hid (HPA.out hr0)
    have HMID := HMID0
    have HFF := HFA
    clear HPA HPB HPC HLAST HMID0 hr0 HFBA HFA
    go_enter Try.func35, Try.ntmps35
    go_wp2_with fail
    rw [← HW0.out]
    refine HC.out.mono ?_; rintro e w1 ⟨rfl, rfl⟩
    go_wp2
    go_region
    generalize w1.drew = W2 at *
    clear gr hmodE hh0 hmb a1 a4
    have HCL := Lib.hid (HCELL.out _ _ _ HMID.out)
    obtain ⟨e0, e1, e4, e5⟩ := HCL.out W2 (Below.refl _ _)
    have hxl : x < W2.heap.size := HMID.out.2.1.lt
    have hrw2 := HMID.out.2.2
    have hlw2 : w.heap.size < W2.heap.size := hrw2.lt
    have HRW2 := Lib.hid hrw2
    clear hrw2
    go_wp2
    go_region
    have hrf3 : Row (W2.alloc (.cells #[.int .i64 0, .int .i64 0, .int .i64 k, .int .i64 cnt] 30)).drew W2.heap.size 30 [.int .i64 0, .int .i64 0, .int .i64 k, .int .i64 cnt] := heap_alloc_new _ _
    have hb3 := below_drew ((Below.refl W2.heap.size W2).alloc (Nat.le_refl _) (.cells #[.int .i64 0, .int .i64 0, .int .i64 k, .int .i64 cnt] 30))
    generalize (W2.alloc (.cells #[.int .i64 0, .int .i64 0, .int .i64 k, .int .i64 cnt] 30)).drew = W3 at *
    obtain ⟨_, _, i4, _⟩ := HCL.out W3 hb3
    have HB3 := Lib.hid hb3
    have HRF3 := Lib.hid hrf3
    clear e0 e1 e4 e5
    have HEND : Hid (∀ W5, Below W2.heap.size W2 W5 → Row W5 W2.heap.size 30 [.int .i64 fst, .int .i64 nb, .int .i64 k, .int .i64 cnt] → Calls Try.prog 55 #[.pointer (some ⟨x, 0, none⟩), .int .i64 nb] W5 fun e w6 => e = .returned (.tuple #[]) ∧ (Row w6 w.heap.size 30 [.int .i64 0, .int .i64 0, .int .i64 0, .int .i64 0] ∧ Row w6 W2.heap.size 30 [.int .i64 fst, .int .i64 nb, .int .i64 k, .int .i64 cnt]) ∧ ∀ W7, Far (fun k => k = w.heap.size) w6 W7 → POST (.returned (.tuple #[fileV fst nb k cnt, .int .i64 0])) W7) := fun W5 hb5 hr5 =>
      (HWEND.out _ _ W2 HMID.out (by first | exact HFF.out.1 | rfl) (by first | exact HFF.out.2 | rfl) W5 hb5).mono fun e w6 ⟨he, h6, hz, hk⟩ => ⟨he, ⟨hz, hk _ _ hr5 (Nat.le_refl _)⟩, fun W7 hf7 => HP.out W7 (HFIN.out _ _ nb w6 W7 (by first | exact HFF.out.1 | rfl) h6 hf7)⟩
    clear HWEND HFIN HP hrf3 hb3 HRW2 HRB HC HMID HFF
    by_cases hc0 : cnt = 0
    · obtain ⟨hn0, hf0⟩ := HZ.out hc0
      subst hn0; subst hf0
      have gc : ¬ 0 < cnt := by omega
      have i5 : W3.cell? ⟨W2.heap.size, 1, none⟩ = some (.int .i64 0) := HRF3.out.cell 1
      have HE := Lib.hid (HEND.out W3 HB3.out HRF3.out)
      clear HEND hc0 HCL
      go_wp2_with fail
      refine HE.out.mono ?_; rintro e W6 ⟨rfl, ⟨hz6, hf6⟩, h7⟩
      have H7 := Lib.hid h7
      have q0 : W6.cell? ⟨w.heap.size, 0, none⟩ = some (.int .i64 0) := hz6.cell 0
      have q1 : W6.cell? ⟨w.heap.size, 1, none⟩ = some (.int .i64 0) := hz6.cell 1
      have q2 : W6.cell? ⟨w.heap.size, 2, none⟩ = some (.int .i64 0) := hz6.cell 2
      have q3 : W6.cell? ⟨w.heap.size, 3, none⟩ = some (.int .i64 0) := hz6.cell 3
      have z0 := hz6.free 0
      have z1 := hz6.free 1
      have z2 := hz6.free 2
      have z3 := hz6.free 3
      have s0 : W6.cell? ⟨W2.heap.size, 0, none⟩ = some (.int .i64 0) := hf6.cell 0
      have s1 : W6.cell? ⟨W2.heap.size, 1, none⟩ = some (.int .i64 0) := hf6.cell 1
      have s2 : W6.cell? ⟨W2.heap.size, 2, none⟩ = some (.int .i64 k) := hf6.cell 2
      have s3 : W6.cell? ⟨W2.heap.size, 3, none⟩ = some (.int .i64 cnt) := hf6.cell 3
      have HZ6 := Lib.hid hz6
      clear hz6 hf6 h7 HE
      go_wp2
      have HQ := H7.out _ (Far.four W6 w.heap.size (.int .i64 0) (.int .i64 0) (.int .i64 k) (.int .i64 cnt))
      have hr8 := (((HZ6.out.set 0 (.int .i64 0)).set 1 (.int .i64 0)).set 2 (.int .i64 k)).set 3 (.int .i64 cnt)
      have r0 := hr8.cell 0
      have r1 := hr8.cell 1
      have r2 := hr8.cell 2
      have r3 := hr8.cell 3
      refine bodyPost_ret (v := .tuple #[.agg #[.int .i64 0, .int .i64 0, .int .i64 k, .int .i64 cnt], .int .i64 0]) (by simp [results, Try.results35, go_sem, r0, r1, r2, r3]) rfl HQ
    · have gc : 0 < cnt := by omega
      have hfe := HNZ.out hc0
      have hb3d := below_drew HB3.out
      have q1 := HCL.out W3.drew hb3d
      have i5 := HCL.out W3 HB3.out
      rw [hfe] at HEND
      clear hfe i4
      have i4 := i5.2.2.1
      clear hc0
      go_wp2
      go_region_held3 (fun w' => w'.cell? ⟨x, 0, none⟩ = some (.int .i64 k) ∧ w'.cell? ⟨x, 1, none⟩ = some (.int .i64 hh2) ∧ w'.cell? ⟨x, 4, none⟩ = some (.int .i64 cnt) ∧ w'.cell? ⟨x, 5, none⟩ = some (.int .i64 first))
        (first | with_reducible exact q1 | with_reducible exact q2 | with_reducible exact q3 | with_reducible exact q4)
        (first
          | (go_at_call 48; (with_reducible refine (HBL.out _).mono ?_); rintro e w4 ⟨rfl, hbl4⟩; have hrf4 := (HRF3.out.drewN 1).below hbl4 (HRF3.out.drewN 1).lt; have hb4 := hb3d.trans (hbl4.mono hb3d.size); have q2 := HCL.out w4 hb4; have f0 : w4.cell? ⟨W2.heap.size, 0, none⟩ = some (.int .i64 0) := hrf4.cell 0; have f1 : w4.cell? ⟨W2.heap.size, 1, none⟩ = some (.int .i64 0) := hrf4.cell 1; have z0 := hrf4.free 0; have z1 := hrf4.free 1; have hb5 := hb4.setCell (p := ⟨W2.heap.size, 0, none⟩) (Nat.le_refl _) (.int .i64 first); have q3 := HCL.out _ hb5; have hb6 := hb5.setCell (p := ⟨W2.heap.size, 1, none⟩) (Nat.le_refl _) (.int .i64 nb); have q4 := HCL.out _ hb6; have HRF4 := Lib.hid hrf4; clear hrf4 hbl4))
      have hr5 := (HRF4.out.set 0 (.int .i64 first)).set 1 (.int .i64 nb)
      have HE := Lib.hid (HEND.out _ hb6 hr5)
      have i6 : ((w4.setCell ⟨W2.heap.size, 0, none⟩ (.int .i64 first)).setCell ⟨W2.heap.size, 1, none⟩ (.int .i64 nb)).cell? ⟨W2.heap.size, 1, none⟩ = some (.int .i64 nb) := hr5.cell 1
      clear HEND HCL q1 q2 q3 q4 f0 f1 z0 z1 hb4 hb5 hb6 hr5 HRF4 HRF3 HB3 i4 i5 hb3d HBL
      generalize (w4.setCell ⟨W2.heap.size, 0, none⟩ (.int .i64 first)).setCell ⟨W2.heap.size, 1, none⟩ (.int .i64 nb) = W5 at *
      go_wp2_with fail
      refine HE.out.mono ?_; rintro e W6 ⟨rfl, ⟨hz6, hf6⟩, h7⟩
      have H7 := Lib.hid h7
      have q0 : W6.cell? ⟨w.heap.size, 0, none⟩ = some (.int .i64 0) := hz6.cell 0
      have q1 : W6.cell? ⟨w.heap.size, 1, none⟩ = some (.int .i64 0) := hz6.cell 1
      have q2 : W6.cell? ⟨w.heap.size, 2, none⟩ = some (.int .i64 0) := hz6.cell 2
      have q3 : W6.cell? ⟨w.heap.size, 3, none⟩ = some (.int .i64 0) := hz6.cell 3
      have z0 := hz6.free 0
      have z1 := hz6.free 1
      have z2 := hz6.free 2
      have z3 := hz6.free 3
      have s0 : W6.cell? ⟨W2.heap.size, 0, none⟩ = some (.int .i64 first) := hf6.cell 0
      have s1 : W6.cell? ⟨W2.heap.size, 1, none⟩ = some (.int .i64 nb) := hf6.cell 1
      have s2 : W6.cell? ⟨W2.heap.size, 2, none⟩ = some (.int .i64 k) := hf6.cell 2
      have s3 : W6.cell? ⟨W2.heap.size, 3, none⟩ = some (.int .i64 cnt) := hf6.cell 3
      have HZ6 := Lib.hid hz6
      clear hz6 hf6 h7 HE
      go_wp2
      have HQ := H7.out _ (Far.four W6 w.heap.size (.int .i64 first) (.int .i64 nb) (.int .i64 k) (.int .i64 cnt))
      have hr8 := (((HZ6.out.set 0 (.int .i64 first)).set 1 (.int .i64 nb)).set 2 (.int .i64 k)).set 3 (.int .i64 cnt)
      have r0 := hr8.cell 0
      have r1 := hr8.cell 1
      have r2 := hr8.cell 2
      have r3 := hr8.cell 3
      refine bodyPost_ret (v := .tuple #[.agg #[.int .i64 first, .int .i64 nb, .int .i64 k, .int .i64 cnt], .int .i64 0]) (by simp [results, Try.results35, go_sem, r0, r1, r2, r3]) rfl HQ
  · have gr : 0 < r := by omega
    have HLA := Lib.hid (HLAST.out hr0)
    have HPB1 := Lib.hid (HPB.out hr0)
    have HPC1 := Lib.hid (HPC.out hr0)
    clear HPA HPB HPC HLAST HMID0 hr0 HFA
    by_cases he0 : er = 0
    · subst he0
      have HP := Lib.hid (HPB1.out rfl)
      clear HPB1 HPC1
      go_enter Try.func35, Try.ntmps35
      go_wp2_with fail
      rw [← HW0.out]
      refine HC.out.mono ?_; rintro e w1 ⟨rfl, rfl⟩
      go_wp2
      go_region
      go_wp2_with fail
      refine HLA.out.mono ?_; rintro e W2 ⟨rfl, h2⟩
      have HMID : Hid (CloseMid w w1 G x p ⟨k, hh2, bound, first, blocks, b, g, l⟩ FB (n + 1) W2) := by
        rcases h2 with ⟨_, h3⟩ | ⟨h3, _⟩
        · exact h3
        · exact absurd rfl h3
      have HFF := HFBA
      clear h2 HLA HFBA
      clear gr hmodE hh0 hmb a1 a4
      have HCL := Lib.hid (HCELL.out _ _ _ HMID.out)
      obtain ⟨e0, e1, e4, e5⟩ := HCL.out W2 (Below.refl _ _)
      have hxl : x < W2.heap.size := HMID.out.2.1.lt
      have hrw2 := HMID.out.2.2
      have hlw2 : w.heap.size < W2.heap.size := hrw2.lt
      have HRW2 := Lib.hid hrw2
      clear hrw2
      go_wp2
      go_region
      have hrf3 : Row (W2.alloc (.cells #[.int .i64 0, .int .i64 0, .int .i64 k, .int .i64 cnt] 30)).drew W2.heap.size 30 [.int .i64 0, .int .i64 0, .int .i64 k, .int .i64 cnt] := heap_alloc_new _ _
      have hb3 := below_drew ((Below.refl W2.heap.size W2).alloc (Nat.le_refl _) (.cells #[.int .i64 0, .int .i64 0, .int .i64 k, .int .i64 cnt] 30))
      generalize (W2.alloc (.cells #[.int .i64 0, .int .i64 0, .int .i64 k, .int .i64 cnt] 30)).drew = W3 at *
      obtain ⟨_, _, i4, _⟩ := HCL.out W3 hb3
      have HB3 := Lib.hid hb3
      have HRF3 := Lib.hid hrf3
      clear e0 e1 e4 e5
      have HEND : Hid (∀ W5, Below W2.heap.size W2 W5 → Row W5 W2.heap.size 30 [.int .i64 fst, .int .i64 nb, .int .i64 k, .int .i64 cnt] → Calls Try.prog 55 #[.pointer (some ⟨x, 0, none⟩), .int .i64 nb] W5 fun e w6 => e = .returned (.tuple #[]) ∧ (Row w6 w.heap.size 30 [.int .i64 0, .int .i64 0, .int .i64 0, .int .i64 0] ∧ Row w6 W2.heap.size 30 [.int .i64 fst, .int .i64 nb, .int .i64 k, .int .i64 cnt]) ∧ ∀ W7, Far (fun k => k = w.heap.size) w6 W7 → POST (.returned (.tuple #[fileV fst nb k cnt, .int .i64 0])) W7) := fun W5 hb5 hr5 =>
        (HWEND.out _ _ W2 HMID.out (by first | exact HFF.out.1 | rfl) (by first | exact HFF.out.2 | rfl) W5 hb5).mono fun e w6 ⟨he, h6, hz, hk⟩ => ⟨he, ⟨hz, hk _ _ hr5 (Nat.le_refl _)⟩, fun W7 hf7 => HP.out W7 (HFIN.out _ _ nb w6 W7 (by first | exact HFF.out.1 | rfl) h6 hf7)⟩
      clear HWEND HFIN HP hrf3 hb3 HRW2 HRB HC HMID HFF
      by_cases hc0 : cnt = 0
      · obtain ⟨hn0, hf0⟩ := HZ.out hc0
        subst hn0; subst hf0
        have gc : ¬ 0 < cnt := by omega
        have i5 : W3.cell? ⟨W2.heap.size, 1, none⟩ = some (.int .i64 0) := HRF3.out.cell 1
        have HE := Lib.hid (HEND.out W3 HB3.out HRF3.out)
        clear HEND hc0 HCL
        go_wp2_with fail
        refine HE.out.mono ?_; rintro e W6 ⟨rfl, ⟨hz6, hf6⟩, h7⟩
        have H7 := Lib.hid h7
        have q0 : W6.cell? ⟨w.heap.size, 0, none⟩ = some (.int .i64 0) := hz6.cell 0
        have q1 : W6.cell? ⟨w.heap.size, 1, none⟩ = some (.int .i64 0) := hz6.cell 1
        have q2 : W6.cell? ⟨w.heap.size, 2, none⟩ = some (.int .i64 0) := hz6.cell 2
        have q3 : W6.cell? ⟨w.heap.size, 3, none⟩ = some (.int .i64 0) := hz6.cell 3
        have z0 := hz6.free 0
        have z1 := hz6.free 1
        have z2 := hz6.free 2
        have z3 := hz6.free 3
        have s0 : W6.cell? ⟨W2.heap.size, 0, none⟩ = some (.int .i64 0) := hf6.cell 0
        have s1 : W6.cell? ⟨W2.heap.size, 1, none⟩ = some (.int .i64 0) := hf6.cell 1
        have s2 : W6.cell? ⟨W2.heap.size, 2, none⟩ = some (.int .i64 k) := hf6.cell 2
        have s3 : W6.cell? ⟨W2.heap.size, 3, none⟩ = some (.int .i64 cnt) := hf6.cell 3
        have HZ6 := Lib.hid hz6
        clear hz6 hf6 h7 HE
        go_wp2
        have HQ := H7.out _ (Far.four W6 w.heap.size (.int .i64 0) (.int .i64 0) (.int .i64 k) (.int .i64 cnt))
        have hr8 := (((HZ6.out.set 0 (.int .i64 0)).set 1 (.int .i64 0)).set 2 (.int .i64 k)).set 3 (.int .i64 cnt)
        have r0 := hr8.cell 0
        have r1 := hr8.cell 1
        have r2 := hr8.cell 2
        have r3 := hr8.cell 3
        refine bodyPost_ret (v := .tuple #[.agg #[.int .i64 0, .int .i64 0, .int .i64 k, .int .i64 cnt], .int .i64 0]) (by simp [results, Try.results35, go_sem, r0, r1, r2, r3]) rfl HQ
      · have gc : 0 < cnt := by omega
        have hfe := HNZ.out hc0
        have hb3d := below_drew HB3.out
        have q1 := HCL.out W3.drew hb3d
        have i5 := HCL.out W3 HB3.out
        rw [hfe] at HEND
        clear hfe i4
        have i4 := i5.2.2.1
        clear hc0
        go_wp2
        go_region_held3 (fun w' => w'.cell? ⟨x, 0, none⟩ = some (.int .i64 k) ∧ w'.cell? ⟨x, 1, none⟩ = some (.int .i64 hh2) ∧ w'.cell? ⟨x, 4, none⟩ = some (.int .i64 cnt) ∧ w'.cell? ⟨x, 5, none⟩ = some (.int .i64 first))
          (first | with_reducible exact q1 | with_reducible exact q2 | with_reducible exact q3 | with_reducible exact q4)
          (first
            | (go_at_call 48; (with_reducible refine (HBL.out _).mono ?_); rintro e w4 ⟨rfl, hbl4⟩; have hrf4 := (HRF3.out.drewN 1).below hbl4 (HRF3.out.drewN 1).lt; have hb4 := hb3d.trans (hbl4.mono hb3d.size); have q2 := HCL.out w4 hb4; have f0 : w4.cell? ⟨W2.heap.size, 0, none⟩ = some (.int .i64 0) := hrf4.cell 0; have f1 : w4.cell? ⟨W2.heap.size, 1, none⟩ = some (.int .i64 0) := hrf4.cell 1; have z0 := hrf4.free 0; have z1 := hrf4.free 1; have hb5 := hb4.setCell (p := ⟨W2.heap.size, 0, none⟩) (Nat.le_refl _) (.int .i64 first); have q3 := HCL.out _ hb5; have hb6 := hb5.setCell (p := ⟨W2.heap.size, 1, none⟩) (Nat.le_refl _) (.int .i64 nb); have q4 := HCL.out _ hb6; have HRF4 := Lib.hid hrf4; clear hrf4 hbl4))
        have hr5 := (HRF4.out.set 0 (.int .i64 first)).set 1 (.int .i64 nb)
        have HE := Lib.hid (HEND.out _ hb6 hr5)
        have i6 : ((w4.setCell ⟨W2.heap.size, 0, none⟩ (.int .i64 first)).setCell ⟨W2.heap.size, 1, none⟩ (.int .i64 nb)).cell? ⟨W2.heap.size, 1, none⟩ = some (.int .i64 nb) := hr5.cell 1
        clear HEND HCL q1 q2 q3 q4 f0 f1 z0 z1 hb4 hb5 hb6 hr5 HRF4 HRF3 HB3 i4 i5 hb3d HBL
        generalize (w4.setCell ⟨W2.heap.size, 0, none⟩ (.int .i64 first)).setCell ⟨W2.heap.size, 1, none⟩ (.int .i64 nb) = W5 at *
        go_wp2_with fail
        refine HE.out.mono ?_; rintro e W6 ⟨rfl, ⟨hz6, hf6⟩, h7⟩
        have H7 := Lib.hid h7
        have q0 : W6.cell? ⟨w.heap.size, 0, none⟩ = some (.int .i64 0) := hz6.cell 0
        have q1 : W6.cell? ⟨w.heap.size, 1, none⟩ = some (.int .i64 0) := hz6.cell 1
        have q2 : W6.cell? ⟨w.heap.size, 2, none⟩ = some (.int .i64 0) := hz6.cell 2
        have q3 : W6.cell? ⟨w.heap.size, 3, none⟩ = some (.int .i64 0) := hz6.cell 3
        have z0 := hz6.free 0
        have z1 := hz6.free 1
        have z2 := hz6.free 2
        have z3 := hz6.free 3
        have s0 : W6.cell? ⟨W2.heap.size, 0, none⟩ = some (.int .i64 first) := hf6.cell 0
        have s1 : W6.cell? ⟨W2.heap.size, 1, none⟩ = some (.int .i64 nb) := hf6.cell 1
        have s2 : W6.cell? ⟨W2.heap.size, 2, none⟩ = some (.int .i64 k) := hf6.cell 2
        have s3 : W6.cell? ⟨W2.heap.size, 3, none⟩ = some (.int .i64 cnt) := hf6.cell 3
        have HZ6 := Lib.hid hz6
        clear hz6 hf6 h7 HE
        go_wp2
        have HQ := H7.out _ (Far.four W6 w.heap.size (.int .i64 first) (.int .i64 nb) (.int .i64 k) (.int .i64 cnt))
        have hr8 := (((HZ6.out.set 0 (.int .i64 first)).set 1 (.int .i64 nb)).set 2 (.int .i64 k)).set 3 (.int .i64 cnt)
        have r0 := hr8.cell 0
        have r1 := hr8.cell 1
        have r2 := hr8.cell 2
        have r3 := hr8.cell 3
        refine bodyPost_ret (v := .tuple #[.agg #[.int .i64 first, .int .i64 nb, .int .i64 k, .int .i64 cnt], .int .i64 0]) (by simp [results, Try.results35, go_sem, r0, r1, r2, r3]) rfl HQ
    · have g9 : (er != 0) = true := by simpa using he0
      have HP := Lib.hid (HPC1.out he0)
      clear HPB1 HPC1
      go_enter Try.func35, Try.ntmps35
      go_wp2_with fail
      rw [← HW0.out]
      refine HC.out.mono ?_; rintro e w1 ⟨rfl, rfl⟩
      go_wp2
      go_region
      go_wp2_with fail
      refine HLA.out.mono ?_; rintro e W2 ⟨rfl, h2⟩
      have h3 : EndTo w1 G b p (endF FB ⟨k, hh2, bound, first, blocks, b, g, l⟩ 0) (n + 1) W2 ∧ Row W2 w.heap.size 30 [.int .i64 0, .int .i64 0, .int .i64 0, .int .i64 0] := by
        rcases h2 with ⟨h3, _⟩ | ⟨_, h3⟩
        · exact absurd h3 he0
        · exact h3
      have q0 : W2.cell? ⟨w.heap.size, 0, none⟩ = some (.int .i64 0) := h3.2.cell 0
      have q1 : W2.cell? ⟨w.heap.size, 1, none⟩ = some (.int .i64 0) := h3.2.cell 1
      have q2 : W2.cell? ⟨w.heap.size, 2, none⟩ = some (.int .i64 0) := h3.2.cell 2
      have q3 : W2.cell? ⟨w.heap.size, 3, none⟩ = some (.int .i64 0) := h3.2.cell 3
      have z0 := h3.2.free 0
      have z1 := h3.2.free 1
      have z2 := h3.2.free 2
      have z3 := h3.2.free 3
      have H3 := Lib.hid h3
      clear h2 h3 HLA
      go_wp2
      have HQ := HP.out _ (HFIN.out FB (n + 1) 0 W2 _ HFBA.out.1 H3.out.1 (Far.four W2 w.heap.size (.int .i64 0) (.int .i64 0) (.int .i64 0) (.int .i64 0)))
      have hr8 := (((H3.out.2.set 0 (.int .i64 0)).set 1 (.int .i64 0)).set 2 (.int .i64 0)).set 3 (.int .i64 0)
      have r0 := hr8.cell 0
      have r1 := hr8.cell 1
      have r2 := hr8.cell 2
      have r3 := hr8.cell 3
      refine bodyPost_ret (v := .tuple #[.agg #[.int .i64 0, .int .i64 0, .int .i64 0, .int .i64 0], .int .i64 er]) (by simp [results, Try.results35, go_sem, r0, r1, r2, r3]) rfl HQ
end Go.Proofs.Ytbkgpilmgllkiaa
