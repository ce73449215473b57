/- A writer's last block is written. -/
import Derived.Test.YtbkgpilmgllkiaaFileEnd
namespace Go.Proofs.Ytbkgpilmgllkiaa
open Go.ChangeShapes Go.WideShapes Go.ChangeAt Go.RowKit

/-- an open writer's memory: its row, its grant's, the words of it -/
structure WMem (w : World) (x : Nat) (p : Wp) (t : Wt) (sz : Nat) (ws : List Nat) : Prop where
  row : Row w x 136 (wrC p t)
  buf : Row w t.b 130 [.slice (some ⟨t.g, 0, none⟩) sz sz]
  words : Row w t.g 69 (ws.map vw)
  len : ws.length = sz
  u64 : U64s ws
/-- it lies apart from a work's memory -/
structure WOut (G : Nat → Prop) (x : Nat) (t : Wt) : Prop where
  x : ¬ G x
  b : ¬ G t.b
  g : ¬ G t.g
theorem WMem.far {w w' : World} {x : Nat} {p : Wp} {t : Wt} {sz : Nat} {ws : List Nat} {R : Nat → Prop} (h : WMem w x p t sz ws) (hf : Far R w w') (h1 : ¬ R x) (h2 : ¬ R t.b) (h3 : ¬ R t.g) : WMem w' x p t sz ws := ⟨hf.row h.row h1, hf.row h.buf h2, hf.row h.words h3, h.len, h.u64⟩
theorem WMem.below {w w' : World} {x : Nat} {p : Wp} {t : Wt} {sz : Nat} {ws : List Nat} (h : WMem w x p t sz ws) (hb : Below w.heap.size w w') : WMem w' x p t sz ws := h.far (Far.of_below hb fun _ => False) (fun h => h) (fun h => h) (fun h => h)
theorem WMem.lt {w : World} {x : Nat} {p : Wp} {t : Wt} {sz : Nat} {ws : List Nat} (h : WMem w x p t sz ws) : x < w.heap.size ∧ t.b < w.heap.size ∧ t.g < w.heap.size := ⟨h.row.lt, h.buf.lt, h.words.lt⟩
theorem WMem.apart {w : World} {x : Nat} {p : Wp} {t : Wt} {sz : Nat} {ws : List Nat} (h : WMem w x p t sz ws) : x ≠ t.b ∧ x ≠ t.g ∧ t.b ≠ t.g :=
  ⟨fun e => absurd (h.row.typed (e ▸ h.buf)) (by decide), fun e => absurd (h.row.typed (e ▸ h.words)) (by decide), fun e => absurd (h.buf.typed (e ▸ h.words)) (by decide)⟩
theorem write_size2 (s : St) (i : Int) (l : List Nat) : (write s i l).2.size = s.size ∧ (write s i l).2.blocks = s.blocks := by
  obtain ⟨e1, e2, e3, e4⟩ := begin_same s (right s i && decide (l.length = s.size))
  unfold write
  dsimp only
  split
  · exact ⟨e1, e2⟩
  · exact ⟨e1, e2⟩
/-- the device writes -/
theorem sys_write {w : World} {G : Nat → Prop} {p : Wp} {F : Fs} {n : Nat} (h : Sys w G p F n) (hn : n < 1000000) (i : Int) (hi : I64 i) (A : Option Addr) (m c : Nat) (l : List Nat) {B : Nat} (hl : Reads .u64 w B A m l) (hB : B ≤ w.heap.size) :
    Calls Try.prog 28 #[.pointer (some ⟨p.d, 0, none⟩), .int .i64 i, .slice A m c] w fun e w' => e = .returned (.int .i64 (write F.D i l).1) ∧ SysTo w G p { F with D := (write F.D i l).2 } (n + 1) w' := by
  obtain ⟨Gd, hd, hback⟩ := h.dev
  exact (write_any p.d F.D n Gd i A m c l w hd hn hi hl hB).mono fun e w' ⟨he, h1⟩ => ⟨he, hback _ _ _ h1⟩

/-- where the last block lies, and its words -/
def lastAd (t : Wt) : Nat := t.first + (blocksN t.h t.l.length - 1)
def lastW8 (sz : Nat) (t : Wt) : List Nat := sealW sz (lastAd t) t.k (flatT t.k (lastT t.h t.l))
/-- what writeLast answers, and leaves -/
def LastTo (w : World) (G : Nat → Prop) (p : Wp) (F : Fs) (n : Nat) (t : Wt) (e : Ending) (w' : World) : Prop :=
  e = .returned (.int .i64 (write F.D (lastAd t : Nat) (lastW8 F.D.size t)).1) ∧
  (((write F.D (lastAd t : Nat) (lastW8 F.D.size t)).1 = 0 ∧ SysTo w G p { F with D := (write F.D (lastAd t : Nat) (lastW8 F.D.size t)).2 } (n + 1) w') ∨
   ((write F.D (lastAd t : Nat) (lastW8 F.D.size t)).1 ≠ 0 ∧ EndTo w G t.b p (endF { F with D := (write F.D (lastAd t : Nat) (lastW8 F.D.size t)).2 } t 0) (n + 1) w'))

set_option maxHeartbeats 4000000 in
set_option maxRecDepth 100000 in
theorem wlast_any {w : World} {G : Nat → Prop} {p : Wp} {F : Fs} {n x : Nat} {t : Wt} {ws : List Nat} (h : Sys w G p F n) (hn : n < 1000000) (hok : WtOk t F.D.size) (hm : WMem w x p t F.D.size ws) (ho : WOut G x t) (hst : wordsAt F.A.st t.b = some F.D.size) (hl : 0 < t.l.length)
    (hws : ws.take ((lastT t.h t.l).length * t.k) = flatT t.k (lastT t.h t.l)) : Calls Try.prog 60 #[.pointer (some ⟨x, 0, none⟩)] w (LastTo w G p F n t) := by
  obtain ⟨i0, hi, hz0, hz1, hz2⟩ := info_parts infoW
  obtain ⟨hx, hbw, hgw⟩ := hm.lt
  obtain ⟨hxb, hxg, hbg⟩ := hm.apart
  have hsz := hok.sz
  have hk := hok.k
  have hh := hok.h
  have hbd := hok.bound
  have hbl := hok.blocks
  have hfi := hok.first
  obtain ⟨l1, l2, l3⟩ := lastT_len hh.1 hl
  have hbp := blocks_pos hh.1 hl
  have hble := blocks_le t.h t.l.length
  obtain ⟨j, hj⟩ : ∃ j, j = blocksN t.h t.l.length - 1 := ⟨_, rfl⟩
  have hj1 : ((blocksN t.h t.l.length : Nat) : Int) - 1 = (j : Int) := by omega
  obtain ⟨ad, had⟩ : ∃ ad, ad = t.first + j := ⟨_, rfl⟩
  have hadd : (t.first : Int) + (j : Int) = (ad : Int) := by omega
  have hjb : j ≤ 2000000 := by
    have h1 := blocks_mono (h := t.h) hh.1 hbd.2
    have := hbl.1; have := hbl.2; omega
  have hadb : ad ≤ 4000000 := by omega
  obtain ⟨m, hmm⟩ : ∃ m, m = (lastT t.h t.l).length * t.k := ⟨_, rfl⟩
  have hme : min t.h (t.l.length - j * t.h) * t.k = m := by rw [hmm, l3, ← hj]; congr 1; rw [l3, ← hj] at l1; omega
  have hmb : m ≤ F.D.size - 2 := by
    rw [hmm]; exact Nat.le_trans (Nat.mul_le_mul_right _ l1) hh.2.1
  have hjh : j * t.h ≤ t.l.length := by have := (blocks_last hh.1 hl).1; rw [← hj] at this; omega
  have HBL : Hid (∀ W, Calls Try.prog 48 #[.agg #[.int .i64 t.k, .int .i64 t.h], .int .i64 (t.l.length : Nat)] W fun e w' => e = .returned (.int .i64 (blocksN t.h t.l.length : Nat)) ∧ Below W.heap.size W w') := fun W => blks_any t.k t.h t.l.length W hh.1 hh.2.2 (by omega)
  have HWO : Hid (∀ W, Calls Try.prog 75 #[.agg #[.int .i64 t.k, .int .i64 t.h], .int .i64 j, .int .i64 (t.l.length : Nat)] W fun e w' => e = .returned (.int .i64 (m : Nat)) ∧ Below W.heap.size W w') := fun W => by
    have := wrds_any t.k t.h j t.l.length W hk.2 hh.2.2 (by omega) hjh
    rwa [hme] at this
  have HSZ : Hid (∀ W, Below w.heap.size w W → Calls Try.prog 50 #[.pointer (some ⟨p.d, 0, none⟩)] W fun e w' => e = .returned (.int .i64 (F.D.size : Int)) ∧ w' = W) := fun W hb => (h.below hb).dsize_any
  have hku : ∀ y ∈ flatT t.k (lastT t.h t.l), (Lit.int .u64 (y : Nat)).wf = true := fun y hy => u64_wf (flatT_u64 _ _ y hy)
  have HPUT : Hid (∀ W, Below w.heap.size w W → Calls Try.prog 78 #[.int .i64 (F.D.size : Int), .int .i64 ad, .int .u64 t.k, .slice (some ⟨t.g, 0, none⟩) m F.D.size] W fun e w' => e = .returned (.tuple #[.slice (some ⟨W.heap.size, 0, none⟩) F.D.size F.D.size, .int .i64 0]) ∧ Row w' W.heap.size 69 ((lastW8 F.D.size t).map vw) ∧ Below W.heap.size W w') := fun W hb => by
    have hrd := ((hm.words.below hb hgw).words (n := m) (by rw [hm.len]; omega) (fun y hy => u64_wf (hm.u64 y hy)))
    rw [hmm, hws] at hrd
    rw [← hmm] at hrd
    have := put_ok F.D.size ad t.k (some ⟨t.g, 0, none⟩) m F.D.size _ W hrd (Nat.le_refl _) hsz.1 hsz.2 (by omega) (by omega) hmb
    unfold lastW8 lastAd; rw [← hj, ← had]; exact this
  have HLEN : Hid ((lastW8 F.D.size t).length = F.D.size ∧ ∀ y ∈ lastW8 F.D.size t, (Lit.int .u64 (y : Nat)).wf = true) := by
    have hfl : (flatT t.k (lastT t.h t.l)).length ≤ F.D.size - 2 := by rw [flatT_len hk.2, ← hmm]; exact hmb
    exact ⟨seal_len hfl (by omega), fun y hy => u64_wf (seal_u64 (flatT_u64 _ _) (by omega) (by omega) y hy)⟩
  have HWR : Hid (∀ W g8, Below w.heap.size w W → Row W g8 69 ((lastW8 F.D.size t).map vw) → Calls Try.prog 28 #[.pointer (some ⟨p.d, 0, none⟩), .int .i64 ad, .slice (some ⟨g8, 0, none⟩) F.D.size F.D.size] W fun e w' => e = .returned (.int .i64 (write F.D (ad : Nat) (lastW8 F.D.size t)).1) ∧ SysTo w G p { F with D := (write F.D (ad : Nat) (lastW8 F.D.size t)).2 } (n + 1) w') := fun W g8 hb hr8 => by
    have hrd := hr8.words (n := F.D.size) (by rw [HLEN.out.1]; exact Nat.le_refl _) HLEN.out.2
    rw [List.take_of_length_le (by rw [HLEN.out.1]; exact Nat.le_refl _)] at hrd
    exact (sys_write (h.below hb) hn (ad : Int) (I64.of (by omega) (by omega)) _ _ _ _ hrd (Nat.le_refl _)).mono fun e w' ⟨he, h1⟩ => ⟨he, h1.behind hb⟩
  have HDR : Hid (∀ W D', D'.size = F.D.size → SysTo w G p { F with D := D' } (n + 1) W → Calls Try.prog 32 #[.pointer (some ⟨x, 0, none⟩)] W fun e w' => e = .returned (.tuple #[]) ∧ EndTo w G t.b p (endF { F with D := D' } t 0) (n + 1) w') := fun W D' hD h1 => by
    have hr1 := h1.row hm.row ho.x
    have hb1 := h1.row hm.buf ho.b
    obtain ⟨G', k1, k2, k3, k4⟩ := h1.apart
    refine (wdrop_any k1 hr1 hb1 (by omega) (k4 x hx ho.x) (show wordsAt F.A.st t.b = some D'.size by rw [hD]; exact hst) hxb hfi (by omega)).mono ?_
    rintro e w' ⟨he, h2⟩
    exact ⟨he, EndTo.from k2 k3 h2⟩
  have HSE : Hid ((write F.D (ad : Nat) (lastW8 F.D.size t)).2.size = F.D.size) := (write_size2 _ _ _).1
  have HAD : Hid (lastAd t = ad) := by unfold Hid lastAd; rw [← hj, ← had]
  have HROW := Lib.hid hm.row
  have HBUF := Lib.hid hm.buf
  have HC : Hid (∀ W, Below w.heap.size w W → W.cell? ⟨x, 0, none⟩ = some (.int .i64 t.k) ∧ W.cell? ⟨x, 1, none⟩ = some (.int .i64 t.h) ∧ W.cell? ⟨x, 4, none⟩ = some (.int .i64 (t.l.length : Nat)) ∧ W.cell? ⟨x, 7, none⟩ = some (.pointer (some ⟨t.b, 0, none⟩)) ∧ W.cell? ⟨t.b, 0, none⟩ = some (.slice (some ⟨t.g, 0, none⟩) F.D.size F.D.size)) := fun W hb =>
    have r := hm.row.below hb hx
    have rb := hm.buf.below hb hbw
    ⟨r.cell 0, r.cell 1, r.cell 4, r.cell 7, rb.cell 0⟩
  have c2 : ∀ W, Below w.heap.size w W → W.cell? ⟨x, 2, none⟩ = some (.pointer (some ⟨p.w, 0, none⟩)) ∧ W.cell? ⟨x, 5, none⟩ = some (.int .i64 t.first) ∧ W.cell? ⟨p.w, 0, none⟩ = some (.pointer (some ⟨p.d, 0, none⟩)) := fun W hb =>
    have r := hm.row.below hb hx
    have rw_ := (h.below hb).row
    ⟨r.cell 2, r.cell 5, rw_.cell 0⟩
  have HC2 := Lib.hid c2
  obtain ⟨er, her⟩ : ∃ er, er = (write F.D (ad : Nat) (lastW8 F.D.size t)).1 := ⟨_, rfl⟩
  obtain ⟨F1, hF1⟩ : ∃ F1 : Fs, F1 = { F with D := (write F.D (ad : Nat) (lastW8 F.D.size t)).2 } := ⟨_, rfl⟩
  have HDR2 : Hid (∀ W, SysTo w G p F1 (n + 1) W → Calls Try.prog 32 #[.pointer (some ⟨x, 0, none⟩)] W fun e w' => e = .returned (.tuple #[]) ∧ EndTo w G t.b p (endF F1 t 0) (n + 1) w') := fun W h1 => by
    subst hF1; exact HDR.out W _ HSE.out h1
  have HLT : Hid (∀ w', ((er = 0 ∧ SysTo w G p F1 (n + 1) w') ∨ (er ≠ 0 ∧ EndTo w G t.b p (endF F1 t 0) (n + 1) w')) → LastTo w G p F n t (.returned (.int .i64 er)) w') := fun w' h1 => by
    subst her; subst hF1
    unfold LastTo; rw [HAD.out]; exact ⟨rfl, h1⟩
  rw [← her, ← hF1] at HWR
  have hcut := fun W => run_head (P := Try.prog) W 71 69 i0 Try.underlying71 hi (some ⟨t.g, 0, none⟩) F.D.size F.D.size m (by omega) .i64 (m : Int) rfl
  generalize LastTo w G p F n t = POST at *
  generalize lastW8 F.D.size t = bk at *
  generalize endF F1 t 0 = FE at *
  clear her hF1 HDR HSE HAD hws hst hok hm ho h l1 l2 l3 hbp hble hj hme hmm hi hz0 hz1 hz2 hl had hjh hku HLEN c2
  obtain ⟨k, hh2, bound, first, blocks, b, g, l⟩ := t
  simp only at *
  generalize blocksN hh2 l.length = nb at *
  generalize l.length = cnt at *
  generalize F.D.size = size at *
  have hwj : IntKind.i64.wrap (j : Int) = (j : Int) := IntWalk.i64_in _ (by omega)
  have hwk : IntKind.u64.wrap (k : Int) = (k : Int) := IntWalk.u64_in _ ⟨by clear hwj; omega, by clear hwj; omega⟩
  clear hbl hbd hx hbw hgw hxb hxg hbg hfi
  have d1 := HC.out w (Below.refl _ _)
  have e1 := HC.out w.drew (below_drew (Below.refl _ _))
  go_enter Try.func60, Try.ntmps60
  go_wp2
  go_region_held3 (fun w' => Below w.heap.size w w' ∧ w'.cell? ⟨x, 0, none⟩ = some (.int .i64 k) ∧ w'.cell? ⟨x, 1, none⟩ = some (.int .i64 hh2) ∧ w'.cell? ⟨x, 4, none⟩ = some (.int .i64 cnt)) (first | with_reducible exact ⟨below_drew (Below.refl _ _), e1.1, e1.2.1, e1.2.2.1⟩ | with_reducible exact ⟨hb1, f1.1, f1.2.1, f1.2.2.1⟩)
    (first
      | (go_at_call 48; refine (HBL.out _).mono ?_; rintro e w1 ⟨rfl, hb1⟩; replace hb1 := (below_drew (Below.refl w.heap.size w)).trans hb1; have f1 := HC.out w1 hb1))
  obtain ⟨g2, g5, gd⟩ := HC2.out w1 hb1
  have hbd := below_drew hb1
  have q0 := HC.out w1 hb1
  have q1 := HC.out w1.drew hbd
  clear e1 f1 d1 HBL HC2
  go_wp2
  clear g2 g5 gd
  go_region_held3 (fun w' => Below w.heap.size w w' ∧ w'.cell? ⟨x, 0, none⟩ = some (.int .i64 k) ∧ w'.cell? ⟨x, 1, none⟩ = some (.int .i64 hh2) ∧ w'.cell? ⟨x, 4, none⟩ = some (.int .i64 cnt) ∧ w'.cell? ⟨x, 7, none⟩ = some (.pointer (some ⟨b, 0, none⟩)) ∧ w'.cell? ⟨b, 0, none⟩ = some (.slice (some ⟨g, 0, none⟩) size size))
    (first | with_reducible exact ⟨hbd, q1⟩ | with_reducible exact ⟨hb2, q2⟩ | with_reducible exact ⟨hb3, q3⟩)
    (first
      | (go_at_call 50; (with_reducible refine (HSZ.out _ (by first | exact hbd | exact hb2)).mono ?_); rintro e w8 ⟨rfl, rfl⟩)
      | (go_at_call 75; (with_reducible refine (HWO.out _).mono ?_); rintro e w2 ⟨rfl, hb2⟩; replace hb2 := hbd.trans (hb2.mono hbd.size); have q2 := HC.out w2 hb2)
      | (go_at_call 78; (with_reducible refine (HPUT.out _ hb2).mono ?_); rintro e w3 ⟨rfl, hr3, hb3⟩; replace hb3 := hb2.trans (hb3.mono hb2.size); have q3 := HC.out w3 hb3; have HR3 := Lib.hid hr3; clear hr3))
  clear q0 q1 q2 q3 hb2 HPUT HWO HSZ HC hcut
  by_cases he : er = 0
  · subst he
    go_wp2_with fail
    refine (HWR.out w3 _ hb3 HR3.out).mono ?_; rintro e w4 ⟨rfl, h4⟩
    have H4 := Lib.hid (HLT.out w4 (.inl ⟨by trivial, h4⟩))
    clear h4 HLT HDR2 HWR
    go_wp2
    exact H4.out
  · have g9 : (er != 0) = true := by simpa using he
    go_wp2_with fail
    refine (HWR.out w3 _ hb3 HR3.out).mono ?_; rintro e w4 ⟨rfl, h4⟩
    have H4 := Lib.hid h4
    clear h4 HWR
    go_wp2_with fail
    refine (HDR2.out w4 H4.out).mono ?_; rintro e w5 ⟨rfl, h5⟩
    have H5 := Lib.hid (HLT.out w5 (.inr ⟨he, h5⟩))
    clear h5 HLT HDR2
    go_wp2
    exact H5.out
end Go.Proofs.Ytbkgpilmgllkiaa
