/- What Put answers, and makes of a writer and of its work. -/
import Derived.Test.YtbkgpilmgllkiaaFileLast
namespace Go.Proofs.Ytbkgpilmgllkiaa
open Go.ChangeShapes Go.WideShapes Go.ChangeAt Go.RowKit

/-- an open writer: what is held of its words is what was put last -/
def WOpen (w : World) (x : Nat) (p : Wp) (t : Wt) (sz : Nat) : Prop := ∃ ws, WMem w x p t sz ws ∧ Held t.k t.h t.l ws
/-- a closed one -/
def WShut (w : World) (x : Nat) (p : Wp) (t : Wt) : Prop := Row w x 136 (wrC p t) ∧ Row w t.b 130 [.slice none 0 0]
def Wt.snoc (t : Wt) (tu : Tup) : Wt := { t with l := t.l ++ [tu] }
/-- behind a call at a writer that is open still -/
def PutOk (w : World) (G : Nat → Prop) (x : Nat) (p : Wp) (F : Fs) (n : Nat) (t : Wt) (w' : World) : Prop :=
  ∃ G', Sys w' G' p F n ∧ WOpen w' x p t F.D.size ∧ Far (fun k => G k ∨ k = x ∨ k = t.g) w w' ∧ ∀ k, G' k → G k ∨ w.heap.size ≤ k
/-- behind a call at a writer that is closed by it -/
def PutEnd (w : World) (G : Nat → Prop) (x : Nat) (p : Wp) (F : Fs) (n : Nat) (t : Wt) (w' : World) : Prop :=
  ∃ G', Sys w' G' p F n ∧ WShut w' x p t ∧ Far (fun k => G k ∨ k = x ∨ k = t.g ∨ k = t.b) w w' ∧ ∀ k, G' k → G k ∨ w.heap.size ≤ k
def PutTo (w : World) (G : Nat → Prop) (x : Nat) (p : Wp) (F : Fs) (n : Nat) (t : Wt) (tu : Tup) (e : Ending) (w' : World) : Prop :=
  (fitsT t.k tu = false ∧ e = .returned (.int .i64 1) ∧ Below w.heap.size w w') ∨
  (fitsT t.k tu = true ∧ t.l.length = t.bound ∧ e = .returned (.int .i64 5) ∧ Below w.heap.size w w') ∨
  (fitsT t.k tu = true ∧ t.l.length < t.bound ∧
    (((t.l.length + 1) % t.h ≠ 0 ∧ e = .returned (.int .i64 0) ∧ PutOk w G x p F n (t.snoc tu) w') ∨
     ((t.l.length + 1) % t.h = 0 ∧ (write F.D (lastAd (t.snoc tu) : Nat) (lastW8 F.D.size (t.snoc tu))).1 = 0 ∧ e = .returned (.int .i64 0) ∧ PutOk w G x p { F with D := (write F.D (lastAd (t.snoc tu) : Nat) (lastW8 F.D.size (t.snoc tu))).2 } (n + 1) (t.snoc tu) w') ∨
     ((t.l.length + 1) % t.h = 0 ∧ (write F.D (lastAd (t.snoc tu) : Nat) (lastW8 F.D.size (t.snoc tu))).1 ≠ 0 ∧ e = .returned (.int .i64 (write F.D (lastAd (t.snoc tu) : Nat) (lastW8 F.D.size (t.snoc tu))).1) ∧ PutEnd w G x p (endF { F with D := (write F.D (lastAd (t.snoc tu) : Nat) (lastW8 F.D.size (t.snoc tu))).2 } (t.snoc tu) 0) (n + 1) (t.snoc tu) w')))

set_option maxRecDepth 100000 in
theorem wput_nil (za zb zc zd ze : Int) (w : World) : Calls Try.prog 36 #[.pointer none, .agg #[.int .i64 za, .int .i64 zb, .int .i64 zc, .int .i64 zd, .int .i64 ze]] w fun e w' => e = .returned (.int .i64 1) ∧ Below w.heap.size w w' := by
  have HB := Lib.hid ((Below.refl w.heap.size w).alloc (Nat.le_refl _) (.cells #[.int .i64 za, .int .i64 zb, .int .i64 zc, .int .i64 zd, .int .i64 ze] 58))
  have HC : Hid (∀ w, Calls Try.prog 54 #[.pointer none] w fun e w' => e = .returned (.bool true) ∧ w' = w) := fun w => wclosed_nil w
  go_enter Try.func36, Try.ntmps36
  go_wp2
  generalize w.alloc (.cells #[.int .i64 za, .int .i64 zb, .int .i64 zc, .int .i64 zd, .int .i64 ze] 58) = w1 at *
  have HQ : Hid (∀ q, Calls Try.prog 54 #[.pointer none] (w1.drewN q) fun e w'' => e = .returned (.bool true) ∧ ∃ k, w'' = w1.drewN k) := fun q => Calls.quiet_of_same (HC.out _)
  go_quiet ((with_reducible exact HQ.out _))
  go_wp2
  go_ret
  exact ⟨rfl, below_drewN HB.out _⟩
set_option maxRecDepth 100000 in
theorem wput_shut {w : World} {x : Nat} {p : Wp} {t : Wt} (hr : WShut w x p t) (za zb zc zd ze : Int) : Calls Try.prog 36 #[.pointer (some ⟨x, 0, none⟩), .agg #[.int .i64 za, .int .i64 zb, .int .i64 zc, .int .i64 zd, .int .i64 ze]] w fun e w' => e = .returned (.int .i64 1) ∧ Below w.heap.size w w' := by
  have hb := (Below.refl w.heap.size w).alloc (Nat.le_refl _) (.cells #[.int .i64 za, .int .i64 zb, .int .i64 zc, .int .i64 zd, .int .i64 ze] 58)
  have HB := Lib.hid hb
  have HC : Hid (∀ q, Calls Try.prog 54 #[.pointer (some ⟨x, 0, none⟩)] ((w.alloc (.cells #[.int .i64 za, .int .i64 zb, .int .i64 zc, .int .i64 zd, .int .i64 ze] 58)).drewN q) fun e w'' => e = .returned (.bool true) ∧ ∃ k, w'' = (w.alloc (.cells #[.int .i64 za, .int .i64 zb, .int .i64 zc, .int .i64 zd, .int .i64 ze] 58)).drewN k) := fun q => Calls.quiet_of_same ((wclosed_any ((hr.1.below hb hr.1.lt).drewN q) ((hr.2.below hb hr.2.lt).drewN q)).mono fun _ _ h => h)
  clear hr hb
  go_enter Try.func36, Try.ntmps36
  go_wp2
  generalize w.alloc (.cells #[.int .i64 za, .int .i64 zb, .int .i64 zc, .int .i64 zd, .int .i64 ze] 58) = w1 at *
  go_quiet ((with_reducible exact HC.out _))
  go_wp2
  go_ret
  exact ⟨rfl, below_drewN HB.out _⟩
set_option maxHeartbeats 4000000 in
set_option maxRecDepth 100000 in
theorem wput_unfit {w : World} {G : Nat → Prop} {p : Wp} {F : Fs} {n x : Nat} {t : Wt} {ws : List Nat} (h : Sys w G p F n) (hok : WtOk t F.D.size) (hm : WMem w x p t F.D.size ws) (tu : Tup) (hfit : fitsT t.k tu = false) : Calls Try.prog 36 #[.pointer (some ⟨x, 0, none⟩), .agg #[.int .i64 tu.a, .int .i64 tu.b, .int .i64 tu.c, .int .i64 tu.d, .int .i64 tu.e]] w fun e w' => e = .returned (.int .i64 1) ∧ Below w.heap.size w w' := by
  obtain ⟨hx, hbw, hgw⟩ := hm.lt
  have hk := hok.k
  have hh := hok.h
  have hbd := hok.bound
  obtain ⟨za, zb, zc, zd, ze⟩ := tu
  have hbt := (Below.refl w.heap.size w).alloc (Nat.le_refl _) (.cells #[.int .i64 za, .int .i64 zb, .int .i64 zc, .int .i64 zd, .int .i64 ze] 58)
  have hrt : Row (w.alloc (.cells #[.int .i64 za, .int .i64 zb, .int .i64 zc, .int .i64 zd, .int .i64 ze] 58)) w.heap.size 58 [.int .i64 za, .int .i64 zb, .int .i64 zc, .int .i64 zd, .int .i64 ze] := heap_alloc_new _ _
  have hsz0 := hok.sz
  have hgr := fun d os => below_regrown (w.alloc (.cells #[.int .i64 za, .int .i64 zb, .int .i64 zc, .int .i64 zd, .int .i64 ze] 58)) d os
  have hup := hbt.size
  have Q1 : Hid (∀ d' os, Calls Try.prog 54 #[.pointer (some ⟨x, 0, none⟩)] (Sort.grow (redrawn (w.alloc (.cells #[.int .i64 za, .int .i64 zb, .int .i64 zc, .int .i64 zd, .int .i64 ze] 58)) d') os) fun e w'' => e = .returned (.bool false) ∧ ∃ p : Regrown, w'' = Sort.grow (redrawn (w.alloc (.cells #[.int .i64 za, .int .i64 zb, .int .i64 zc, .int .i64 zd, .int .i64 ze] 58)) p.d) p.os) := fun d' os => Calls.regrown_of ((wclosed_any (((hm.row.below hbt hx).below (hgr d' os) (Nat.lt_of_lt_of_le hx hup))) (((hm.buf.below hbt hbw).below (hgr d' os) (Nat.lt_of_lt_of_le hbw hup)))).mono fun e' w' ⟨he, hw⟩ => ⟨by rw [he, decide_eq_true (by omega)]; rfl, by subst hw; exact Below.refl _ _⟩)
  have Q2 : Hid (∀ d' os, Calls Try.prog 61 #[.agg #[.int .i64 za, .int .i64 zb, .int .i64 zc, .int .i64 zd, .int .i64 ze], .int .i64 t.k] (Sort.grow (redrawn (w.alloc (.cells #[.int .i64 za, .int .i64 zb, .int .i64 zc, .int .i64 zd, .int .i64 ze] 58)) d') os) fun e w'' => e = .returned (.bool false) ∧ ∃ p : Regrown, w'' = Sort.grow (redrawn (w.alloc (.cells #[.int .i64 za, .int .i64 zb, .int .i64 zc, .int .i64 zd, .int .i64 ze] 58)) p.d) p.os) := fun d' os => Calls.regrown_of ((within_any ⟨za, zb, zc, zd, ze⟩ t.k _ hk.1 hk.2).mono fun e' w' ⟨he, hw⟩ => ⟨by rw [he, hfit], hw⟩)
  have k0 : ∀ d' os, (Sort.grow (redrawn (w.alloc (.cells #[.int .i64 za, .int .i64 zb, .int .i64 zc, .int .i64 zd, .int .i64 ze] 58)) d') os).cell? ⟨x, 0, none⟩ = some (.int .i64 t.k) := cell_regrown ((hm.row.below hbt hx).cell 0)
  have k1 : ∀ d' os, (Sort.grow (redrawn (w.alloc (.cells #[.int .i64 za, .int .i64 zb, .int .i64 zc, .int .i64 zd, .int .i64 ze] 58)) d') os).cell? ⟨w.heap.size, 0, none⟩ = some (.int .i64 za) := cell_regrown (hrt.cell 0)
  have k2 : ∀ d' os, (Sort.grow (redrawn (w.alloc (.cells #[.int .i64 za, .int .i64 zb, .int .i64 zc, .int .i64 zd, .int .i64 ze] 58)) d') os).cell? ⟨w.heap.size, 1, none⟩ = some (.int .i64 zb) := cell_regrown (hrt.cell 1)
  have k3 : ∀ d' os, (Sort.grow (redrawn (w.alloc (.cells #[.int .i64 za, .int .i64 zb, .int .i64 zc, .int .i64 zd, .int .i64 ze] 58)) d') os).cell? ⟨w.heap.size, 2, none⟩ = some (.int .i64 zc) := cell_regrown (hrt.cell 2)
  have k4 : ∀ d' os, (Sort.grow (redrawn (w.alloc (.cells #[.int .i64 za, .int .i64 zb, .int .i64 zc, .int .i64 zd, .int .i64 ze] 58)) d') os).cell? ⟨w.heap.size, 3, none⟩ = some (.int .i64 zd) := cell_regrown (hrt.cell 3)
  have k5 : ∀ d' os, (Sort.grow (redrawn (w.alloc (.cells #[.int .i64 za, .int .i64 zb, .int .i64 zc, .int .i64 zd, .int .i64 ze] 58)) d') os).cell? ⟨w.heap.size, 4, none⟩ = some (.int .i64 ze) := cell_regrown (hrt.cell 4)
  have HBT := Lib.hid hbt
  have HRT := Lib.hid hrt
  have HM := Lib.hid hm
  have HSYS := Lib.hid h
  have HOK := Lib.hid hok
  have HFIT := Lib.hid hfit
  have HLTS : Hid (x < w.heap.size ∧ t.b < w.heap.size ∧ t.g < w.heap.size) := ⟨hx, hbw, hgw⟩
  clear hbt hrt hm h hok hx hbw hgw hgr hup hsz0 hfit
  go_enter Try.func36, Try.ntmps36
  go_wp2
  refine wp_region_quiet_below (by kernel_rfl) (by kernel_rfl) ?_
  repeat (any_goals (first | go_big_quiet_step (with_reducible first | exact Q1.out _ _ | exact Q2.out _ _) | quiet_step (with_reducible first | exact Q1.out _ _ | exact Q2.out _ _)))
  refine wpQuiet_nil ?_
  intro w5 hw5
  obtain ⟨⟨dq, osq⟩, hw5⟩ := hw5
  have hbw5 := below_regrown (w.alloc (.cells #[.int .i64 za, .int .i64 zb, .int .i64 zc, .int .i64 zd, .int .i64 ze] 58)) dq osq
  rw [← hw5] at hbw5
  clear hw5
  have HB5 := Lib.hid (HBT.out.trans (hbw5.mono (by simp)))
  have HR5 := Lib.hid (HRT.out.below hbw5 (by simp))
  clear hbw5 Q1 Q2 k0 k1 k2 k3 k4 k5 HBT HRT
  go_wp2
  go_ret
  exact ⟨rfl, HB5.out⟩
set_option maxHeartbeats 4000000 in
set_option maxRecDepth 100000 in
theorem wput_full {w : World} {G : Nat → Prop} {p : Wp} {F : Fs} {n x : Nat} {t : Wt} {ws : List Nat} (h : Sys w G p F n) (hok : WtOk t F.D.size) (hm : WMem w x p t F.D.size ws) (tu : Tup) (hfit : fitsT t.k tu = true) (hfull : t.l.length = t.bound) : Calls Try.prog 36 #[.pointer (some ⟨x, 0, none⟩), .agg #[.int .i64 tu.a, .int .i64 tu.b, .int .i64 tu.c, .int .i64 tu.d, .int .i64 tu.e]] w fun e w' => e = .returned (.int .i64 5) ∧ Below w.heap.size w w' := by
  obtain ⟨hx, hbw, hgw⟩ := hm.lt
  have hk := hok.k
  have hh := hok.h
  have hbd := hok.bound
  obtain ⟨za, zb, zc, zd, ze⟩ := tu
  have hbt := (Below.refl w.heap.size w).alloc (Nat.le_refl _) (.cells #[.int .i64 za, .int .i64 zb, .int .i64 zc, .int .i64 zd, .int .i64 ze] 58)
  have hrt : Row (w.alloc (.cells #[.int .i64 za, .int .i64 zb, .int .i64 zc, .int .i64 zd, .int .i64 ze] 58)) w.heap.size 58 [.int .i64 za, .int .i64 zb, .int .i64 zc, .int .i64 zd, .int .i64 ze] := heap_alloc_new _ _
  have hsz0 := hok.sz
  have hgr := fun d os => below_regrown (w.alloc (.cells #[.int .i64 za, .int .i64 zb, .int .i64 zc, .int .i64 zd, .int .i64 ze] 58)) d os
  have hup := hbt.size
  have Q1 : Hid (∀ d' os, Calls Try.prog 54 #[.pointer (some ⟨x, 0, none⟩)] (Sort.grow (redrawn (w.alloc (.cells #[.int .i64 za, .int .i64 zb, .int .i64 zc, .int .i64 zd, .int .i64 ze] 58)) d') os) fun e w'' => e = .returned (.bool false) ∧ ∃ p : Regrown, w'' = Sort.grow (redrawn (w.alloc (.cells #[.int .i64 za, .int .i64 zb, .int .i64 zc, .int .i64 zd, .int .i64 ze] 58)) p.d) p.os) := fun d' os => Calls.regrown_of ((wclosed_any (((hm.row.below hbt hx).below (hgr d' os) (Nat.lt_of_lt_of_le hx hup))) (((hm.buf.below hbt hbw).below (hgr d' os) (Nat.lt_of_lt_of_le hbw hup)))).mono fun e' w' ⟨he, hw⟩ => ⟨by rw [he, decide_eq_true (by omega)]; rfl, by subst hw; exact Below.refl _ _⟩)
  have Q2 : Hid (∀ d' os, Calls Try.prog 61 #[.agg #[.int .i64 za, .int .i64 zb, .int .i64 zc, .int .i64 zd, .int .i64 ze], .int .i64 t.k] (Sort.grow (redrawn (w.alloc (.cells #[.int .i64 za, .int .i64 zb, .int .i64 zc, .int .i64 zd, .int .i64 ze] 58)) d') os) fun e w'' => e = .returned (.bool true) ∧ ∃ p : Regrown, w'' = Sort.grow (redrawn (w.alloc (.cells #[.int .i64 za, .int .i64 zb, .int .i64 zc, .int .i64 zd, .int .i64 ze] 58)) p.d) p.os) := fun d' os => Calls.regrown_of ((within_any ⟨za, zb, zc, zd, ze⟩ t.k _ hk.1 hk.2).mono fun e' w' ⟨he, hw⟩ => ⟨by rw [he, hfit], hw⟩)
  have k0 : ∀ d' os, (Sort.grow (redrawn (w.alloc (.cells #[.int .i64 za, .int .i64 zb, .int .i64 zc, .int .i64 zd, .int .i64 ze] 58)) d') os).cell? ⟨x, 0, none⟩ = some (.int .i64 t.k) := cell_regrown ((hm.row.below hbt hx).cell 0)
  have k1 : ∀ d' os, (Sort.grow (redrawn (w.alloc (.cells #[.int .i64 za, .int .i64 zb, .int .i64 zc, .int .i64 zd, .int .i64 ze] 58)) d') os).cell? ⟨w.heap.size, 0, none⟩ = some (.int .i64 za) := cell_regrown (hrt.cell 0)
  have k2 : ∀ d' os, (Sort.grow (redrawn (w.alloc (.cells #[.int .i64 za, .int .i64 zb, .int .i64 zc, .int .i64 zd, .int .i64 ze] 58)) d') os).cell? ⟨w.heap.size, 1, none⟩ = some (.int .i64 zb) := cell_regrown (hrt.cell 1)
  have k3 : ∀ d' os, (Sort.grow (redrawn (w.alloc (.cells #[.int .i64 za, .int .i64 zb, .int .i64 zc, .int .i64 zd, .int .i64 ze] 58)) d') os).cell? ⟨w.heap.size, 2, none⟩ = some (.int .i64 zc) := cell_regrown (hrt.cell 2)
  have k4 : ∀ d' os, (Sort.grow (redrawn (w.alloc (.cells #[.int .i64 za, .int .i64 zb, .int .i64 zc, .int .i64 zd, .int .i64 ze] 58)) d') os).cell? ⟨w.heap.size, 3, none⟩ = some (.int .i64 zd) := cell_regrown (hrt.cell 3)
  have k5 : ∀ d' os, (Sort.grow (redrawn (w.alloc (.cells #[.int .i64 za, .int .i64 zb, .int .i64 zc, .int .i64 zd, .int .i64 ze] 58)) d') os).cell? ⟨w.heap.size, 4, none⟩ = some (.int .i64 ze) := cell_regrown (hrt.cell 4)
  have HBT := Lib.hid hbt
  have HRT := Lib.hid hrt
  have HM := Lib.hid hm
  have HSYS := Lib.hid h
  have HOK := Lib.hid hok
  have HFIT := Lib.hid hfit
  have HLTS : Hid (x < w.heap.size ∧ t.b < w.heap.size ∧ t.g < w.heap.size) := ⟨hx, hbw, hgw⟩
  clear hbt hrt hm h hok hx hbw hgw hgr hup hsz0 hfit
  have g0 : (((t.l.length : Nat) : Int) == (t.bound : Int)) = true := by simp [hfull]
  clear hfull
  go_enter Try.func36, Try.ntmps36
  go_wp2
  refine wp_region_quiet_below (by kernel_rfl) (by kernel_rfl) ?_
  repeat (any_goals (first | go_big_quiet_step (with_reducible first | exact Q1.out _ _ | exact Q2.out _ _) | quiet_step (with_reducible first | exact Q1.out _ _ | exact Q2.out _ _)))
  refine wpQuiet_nil ?_
  intro w5 hw5
  obtain ⟨⟨dq, osq⟩, hw5⟩ := hw5
  have hbw5 := below_regrown (w.alloc (.cells #[.int .i64 za, .int .i64 zb, .int .i64 zc, .int .i64 zd, .int .i64 ze] 58)) dq osq
  rw [← hw5] at hbw5
  clear hw5
  have HB5 := Lib.hid (HBT.out.trans (hbw5.mono (by simp)))
  have HR5 := Lib.hid (HRT.out.below hbw5 (by simp))
  clear hbw5 Q1 Q2 k0 k1 k2 k3 k4 k5 HBT HRT
  have c3 : w5.cell? ⟨x, 3, none⟩ = some (.int .i64 t.bound) := (HM.out.row.below HB5.out HLTS.out.1).cell 3
  have c4 : w5.cell? ⟨x, 4, none⟩ = some (.int .i64 (t.l.length : Nat)) := (HM.out.row.below HB5.out HLTS.out.1).cell 4
  go_wp2
  go_region
  go_wp2
  go_ret
  exact ⟨rfl, below_drew HB5.out⟩
theorem Sys.touch {w w' : World} {G : Nat → Prop} {p : Wp} {F : Fs} {n : Nat} (h : Sys w G p F n) {R : Nat → Prop} (hf : Far R w w') (hR : ∀ k, R k → ¬ G k ∧ ∀ v, ¬ Row w k 130 [v]) : Sys w' G p F n :=
  h.far hf (fun k hk hr => (hR k hr).1 hk) fun q hq hr => by
    obtain ⟨⟨v, hb⟩, _⟩ := h.buf hq
    exact (hR _ hr).2 v hb
theorem splice_set {α : Type} (L wl : List α) (off i : Nat) (u : α) (hi : wl[i]? = some u) (hl : off + wl.length ≤ L.length) : (splice L off (wl.take i)).set (off + i) u = splice L off (wl.take (i + 1)) := by
  have hil : i < wl.length := (List.getElem?_eq_some_iff.1 hi).1
  apply List.ext_getElem?
  intro k
  have l1 : (splice L off (wl.take i)).length = L.length := splice_length L off _ (by rw [List.length_take]; omega)
  rw [List.getElem?_set]
  by_cases hk : off + i = k
  · subst hk
    rw [if_pos rfl, if_pos (by rw [l1]; omega)]
    unfold splice
    rw [List.getElem?_append_right (by rw [List.length_take]; omega), List.getElem?_append_left (by simp; omega), List.length_take, show off + i - min off L.length = i by omega, List.getElem?_take, if_pos (by omega), hi]
  · rw [if_neg hk]
    by_cases h1 : k < off ∨ off + (i + 1) ≤ k
    · rw [splice_get_out L off _ (by rw [List.length_take]; omega) (by rw [List.length_take]; omega), splice_get_out L off _ (by rw [List.length_take]; omega) (by rw [List.length_take]; omega)]
    · unfold splice
      rw [List.getElem?_append_right (by rw [List.length_take]; omega), List.getElem?_append_left (by simp; omega), List.getElem?_append_right (by rw [List.length_take]; omega), List.getElem?_append_left (by simp; omega), List.getElem?_take, List.getElem?_take, if_pos (by simp; omega), if_pos (by simp; omega)]
/-- behind the words of one tuple more -/
theorem put_mid {w W : World} {G : Nat → Prop} {p : Wp} {F : Fs} {n x : Nat} {t : Wt} {ws : List Nat} (h : Sys w G p F n) (hok : WtOk t F.D.size) (hm : WMem w x p t F.D.size ws) (ho : WOut G x t) (hheld : Held t.k t.h t.l ws) (tu : Tup) (hless : t.l.length < t.bound)
    (hf : Far (fun k => k = x ∨ k = t.g) w W) (hr : Row W x 136 (wrC p (t.snoc tu))) (hg : Row W t.g 69 ((splice ws (t.l.length % t.h * t.k) (wordsT t.k tu)).map vw)) :
    Sys W G p F n ∧ WtOk (t.snoc tu) F.D.size ∧ WMem W x p (t.snoc tu) F.D.size (splice ws (t.l.length % t.h * t.k) (wordsT t.k tu)) ∧
      (splice ws (t.l.length % t.h * t.k) (wordsT t.k tu)).take ((lastT t.h (t.snoc tu).l).length * t.k) = flatT t.k (lastT t.h (t.snoc tu).l) := by
  obtain ⟨hxb, hxg, hbg⟩ := hm.apart
  have hwl := wordsT_len hok.k.2 tu
  have hmod := Nat.mod_lt t.l.length hok.h.1
  have hof : t.l.length % t.h * t.k + t.k ≤ t.h * t.k := by
    have := Nat.mul_le_mul_right t.k (show t.l.length % t.h + 1 ≤ t.h by omega)
    rw [Nat.add_mul, Nat.one_mul] at this; exact this
  have hfit : t.l.length % t.h * t.k + (wordsT t.k tu).length ≤ ws.length := by rw [hwl, hm.len]; have := hok.h.2.1; omega
  refine ⟨h.touch hf ?_, ⟨hok.k, hok.h, hok.sz, ⟨hok.bound.1, by show (t.l ++ [tu]).length ≤ t.bound; simp; omega⟩, hok.blocks, hok.first⟩, ⟨hr, hf.row hm.buf (by rintro (e | e); exact hxb e.symm; exact hbg e), hg, by rw [splice_length _ _ _ hfit]; exact hm.len, ?_⟩, ?_⟩
  · rintro k (rfl | rfl)
    · exact ⟨ho.x, fun v hv => absurd (hm.row.typed hv) (by decide)⟩
    · exact ⟨ho.g, fun v hv => absurd (hm.words.typed hv) (by decide)⟩
  · intro y hy
    unfold splice at hy
    rcases List.mem_append.1 hy with hy | hy
    · exact hm.u64 y (List.mem_of_mem_take hy)
    · rcases List.mem_append.1 hy with hy | hy
      · exact flatT_u64 t.k [tu] y (by rw [flatT_one]; exact hy)
      · exact hm.u64 y (List.mem_of_mem_drop hy)
  · exact held_put hok.k.2 hok.h.1 hheld (by rw [hm.len]; have := hok.h.2.1; omega) tu
theorem put_end {w W : World} {G : Nat → Prop} {p : Wp} {F : Fs} {n x : Nat} {t : Wt} {ws : List Nat} (h : Sys w G p F n) (hn : n < 1000000) (hok : WtOk t F.D.size) (hm : WMem w x p t F.D.size ws) (ho : WOut G x t) (hst : wordsAt F.A.st t.b = some F.D.size) (hheld : Held t.k t.h t.l ws) (tu : Tup) (hfit : fitsT t.k tu = true) (hless : t.l.length < t.bound)
    (hf : Far (fun k => k = x ∨ k = t.g) w W) (hr : Row W x 136 (wrC p (t.snoc tu))) (hg : Row W t.g 69 ((splice ws (t.l.length % t.h * t.k) (wordsT t.k tu)).map vw)) :
    (0 < (t.l.length + 1) % t.h → PutTo w G x p F n t tu (.returned (.int .i64 0)) W) ∧ (¬ 0 < (t.l.length + 1) % t.h → Calls Try.prog 60 #[.pointer (some ⟨x, 0, none⟩)] W fun e w' => ∃ er, e = .returned (.int .i64 er) ∧ PutTo w G x p F n t tu (.returned (.int .i64 er)) w') := by
  obtain ⟨h1, h2, h3, h4⟩ := put_mid h hok hm ho hheld tu hless hf hr hg
  obtain ⟨hxb, hxg, hbg⟩ := hm.apart
  obtain ⟨hx, hbw, hgw⟩ := hm.lt
  have hll : (t.snoc tu).l.length = t.l.length + 1 := by show (t.l ++ [tu]).length = _; simp
  have hf2 : Far (fun k => G k ∨ k = x ∨ k = t.g) w W := hf.mono fun k hk => .inr hk
  refine ⟨fun h0 => .inr (.inr ⟨hfit, hless, .inl ⟨by omega, rfl, G, h1, ⟨_, h3, ?_⟩, hf2, fun k hk => .inl hk⟩⟩), fun h0 => ?_⟩
  · exact (held_last (k := t.k) (l := (t.snoc tu).l) hok.h.1 (by rw [hll]; show (t.l.length + 1) % t.h ≠ 0; omega)).2 h4
  · refine (wlast_any h1 hn h2 h3 ⟨ho.x, ho.b, ho.g⟩ hst (by rw [hll]; omega) h4).mono ?_
    rintro e w' ⟨he, h5⟩
    refine ⟨_, he, .inr (.inr ⟨hfit, hless, ?_⟩)⟩
    rcases h5 with ⟨h6, h7⟩ | ⟨h6, h7⟩
    · refine .inr (.inl ⟨by omega, h6, by rw [h6], ?_⟩)
      obtain ⟨G', k1, k2, k3⟩ := h7
      have hse := (write_size2 F.D (lastAd (t.snoc tu) : Nat) (lastW8 F.D.size (t.snoc tu))).1
      refine ⟨G', k1, ⟨_, by show WMem w' x p (t.snoc tu) (write F.D (lastAd (t.snoc tu) : Nat) (lastW8 F.D.size (t.snoc tu))).2.size _; rw [hse]; exact h3.far k2 ho.x ho.b ho.g, ?_⟩, hf2.trans k2 fun k hk => .inl (.inl hk), fun k hk => (k3 k hk).imp id fun h => Nat.le_trans hf.size h⟩
      exact held_full _ (by rw [hll]; show (t.l.length + 1) % t.h = 0; omega)
    · refine .inr (.inr ⟨by omega, h6, rfl, ?_⟩)
      obtain ⟨G', k1, k2, k3, k4⟩ := h7
      refine ⟨G', k1, ⟨k2.row hr ?_, k4⟩, (hf2.mono (F' := fun k => G k ∨ k = x ∨ k = t.g ∨ k = t.b) fun k hk => hk.imp_right fun h => h.imp_right .inl).trans k2 fun k hk => .inl (hk.elim .inl fun h => .inr (.inr (.inr h))), fun k hk => (k3 k hk).imp id fun h => Nat.le_trans hf.size h⟩
      rintro (h8 | h8)
      · exact ho.x h8
      · exact hxb h8
set_option maxHeartbeats 4000000 in
set_option maxRecDepth 100000 in
theorem wput_go {w : World} {G : Nat → Prop} {p : Wp} {F : Fs} {n x : Nat} {t : Wt} {ws : List Nat} (h : Sys w G p F n) (hok : WtOk t F.D.size) (hm : WMem w x p t F.D.size ws) (hn : n < 1000000) (ho : WOut G x t) (hst : wordsAt F.A.st t.b = some F.D.size) (hheld : Held t.k t.h t.l ws) (tu : Tup) (hfit : fitsT t.k tu = true) (hless : t.l.length < t.bound) : Calls Try.prog 36 #[.pointer (some ⟨x, 0, none⟩), .agg #[.int .i64 tu.a, .int .i64 tu.b, .int .i64 tu.c, .int .i64 tu.d, .int .i64 tu.e]] w (PutTo w G x p F n t tu) := by
  obtain ⟨hx, hbw, hgw⟩ := hm.lt
  have hk := hok.k
  have hh := hok.h
  have hbd := hok.bound
  obtain ⟨za, zb, zc, zd, ze⟩ := tu
  have hbt := (Below.refl w.heap.size w).alloc (Nat.le_refl _) (.cells #[.int .i64 za, .int .i64 zb, .int .i64 zc, .int .i64 zd, .int .i64 ze] 58)
  have hrt : Row (w.alloc (.cells #[.int .i64 za, .int .i64 zb, .int .i64 zc, .int .i64 zd, .int .i64 ze] 58)) w.heap.size 58 [.int .i64 za, .int .i64 zb, .int .i64 zc, .int .i64 zd, .int .i64 ze] := heap_alloc_new _ _
  have hsz0 := hok.sz
  have hgr := fun d os => below_regrown (w.alloc (.cells #[.int .i64 za, .int .i64 zb, .int .i64 zc, .int .i64 zd, .int .i64 ze] 58)) d os
  have hup := hbt.size
  have Q1 : Hid (∀ d' os, Calls Try.prog 54 #[.pointer (some ⟨x, 0, none⟩)] (Sort.grow (redrawn (w.alloc (.cells #[.int .i64 za, .int .i64 zb, .int .i64 zc, .int .i64 zd, .int .i64 ze] 58)) d') os) fun e w'' => e = .returned (.bool false) ∧ ∃ p : Regrown, w'' = Sort.grow (redrawn (w.alloc (.cells #[.int .i64 za, .int .i64 zb, .int .i64 zc, .int .i64 zd, .int .i64 ze] 58)) p.d) p.os) := fun d' os => Calls.regrown_of ((wclosed_any (((hm.row.below hbt hx).below (hgr d' os) (Nat.lt_of_lt_of_le hx hup))) (((hm.buf.below hbt hbw).below (hgr d' os) (Nat.lt_of_lt_of_le hbw hup)))).mono fun e' w' ⟨he, hw⟩ => ⟨by rw [he, decide_eq_true (by omega)]; rfl, by subst hw; exact Below.refl _ _⟩)
  have Q2 : Hid (∀ d' os, Calls Try.prog 61 #[.agg #[.int .i64 za, .int .i64 zb, .int .i64 zc, .int .i64 zd, .int .i64 ze], .int .i64 t.k] (Sort.grow (redrawn (w.alloc (.cells #[.int .i64 za, .int .i64 zb, .int .i64 zc, .int .i64 zd, .int .i64 ze] 58)) d') os) fun e w'' => e = .returned (.bool true) ∧ ∃ p : Regrown, w'' = Sort.grow (redrawn (w.alloc (.cells #[.int .i64 za, .int .i64 zb, .int .i64 zc, .int .i64 zd, .int .i64 ze] 58)) p.d) p.os) := fun d' os => Calls.regrown_of ((within_any ⟨za, zb, zc, zd, ze⟩ t.k _ hk.1 hk.2).mono fun e' w' ⟨he, hw⟩ => ⟨by rw [he, hfit], hw⟩)
  have k0 : ∀ d' os, (Sort.grow (redrawn (w.alloc (.cells #[.int .i64 za, .int .i64 zb, .int .i64 zc, .int .i64 zd, .int .i64 ze] 58)) d') os).cell? ⟨x, 0, none⟩ = some (.int .i64 t.k) := cell_regrown ((hm.row.below hbt hx).cell 0)
  have k1 : ∀ d' os, (Sort.grow (redrawn (w.alloc (.cells #[.int .i64 za, .int .i64 zb, .int .i64 zc, .int .i64 zd, .int .i64 ze] 58)) d') os).cell? ⟨w.heap.size, 0, none⟩ = some (.int .i64 za) := cell_regrown (hrt.cell 0)
  have k2 : ∀ d' os, (Sort.grow (redrawn (w.alloc (.cells #[.int .i64 za, .int .i64 zb, .int .i64 zc, .int .i64 zd, .int .i64 ze] 58)) d') os).cell? ⟨w.heap.size, 1, none⟩ = some (.int .i64 zb) := cell_regrown (hrt.cell 1)
  have k3 : ∀ d' os, (Sort.grow (redrawn (w.alloc (.cells #[.int .i64 za, .int .i64 zb, .int .i64 zc, .int .i64 zd, .int .i64 ze] 58)) d') os).cell? ⟨w.heap.size, 2, none⟩ = some (.int .i64 zc) := cell_regrown (hrt.cell 2)
  have k4 : ∀ d' os, (Sort.grow (redrawn (w.alloc (.cells #[.int .i64 za, .int .i64 zb, .int .i64 zc, .int .i64 zd, .int .i64 ze] 58)) d') os).cell? ⟨w.heap.size, 3, none⟩ = some (.int .i64 zd) := cell_regrown (hrt.cell 3)
  have k5 : ∀ d' os, (Sort.grow (redrawn (w.alloc (.cells #[.int .i64 za, .int .i64 zb, .int .i64 zc, .int .i64 zd, .int .i64 ze] 58)) d') os).cell? ⟨w.heap.size, 4, none⟩ = some (.int .i64 ze) := cell_regrown (hrt.cell 4)
  have HBT := Lib.hid hbt
  have HRT := Lib.hid hrt
  have HM := Lib.hid hm
  have HSYS := Lib.hid h
  have HOK := Lib.hid hok
  have HFIT := Lib.hid hfit
  have HLTS : Hid (x < w.heap.size ∧ t.b < w.heap.size ∧ t.g < w.heap.size) := ⟨hx, hbw, hgw⟩
  clear hbt hrt hm h hok hx hbw hgw hgr hup hsz0 hfit
  have g0 : (((t.l.length : Nat) : Int) == (t.bound : Int)) = false := by simp; omega
  obtain ⟨hxb, hxg, hbg⟩ := HM.out.apart
  have hll : (t.snoc ⟨za, zb, zc, zd, ze⟩).l.length = t.l.length + 1 := by show (t.l ++ [_]).length = _; simp
  have hwl := wordsT_len hk.2 ⟨za, zb, zc, zd, ze⟩
  obtain ⟨off, hoff⟩ : ∃ off, off = t.l.length % t.h * t.k := ⟨_, rfl⟩
  have hof : off + t.k ≤ F.D.size - 2 := by
    have h1 := Nat.mul_le_mul_right t.k (show t.l.length % t.h + 1 ≤ t.h by have := Nat.mod_lt t.l.length hh.1; omega)
    rw [Nat.add_mul, Nat.one_mul] at h1
    have := hh.2.1; omega
  have hsz := HOK.out.sz
  have hcl : t.l.length < t.bound := hless
  obtain ⟨cnt, hcnt⟩ : ∃ cnt, cnt = t.l.length := ⟨_, rfl⟩
  have HEND : Hid (∀ W, Far (fun k => k = x ∨ k = t.g) w W → Row W x 136 [.int .i64 t.k, .int .i64 t.h, .pointer (some ⟨p.w, 0, none⟩), .int .i64 t.bound, .int .i64 (cnt + 1 : Nat), .int .i64 t.first, .int .i64 t.blocks, .pointer (some ⟨t.b, 0, none⟩)] → Row W t.g 69 ((splice ws off (wordsT t.k ⟨za, zb, zc, zd, ze⟩)).map vw) →
      (0 < (cnt + 1) % t.h → PutTo w G x p F n t ⟨za, zb, zc, zd, ze⟩ (.returned (.int .i64 0)) W) ∧ (¬ 0 < (cnt + 1) % t.h → Calls Try.prog 60 #[.pointer (some ⟨x, 0, none⟩)] W fun e w' => ∃ er, e = .returned (.int .i64 er) ∧ PutTo w G x p F n t ⟨za, zb, zc, zd, ze⟩ (.returned (.int .i64 er)) w')) := fun W h1 h2 h3 => by
    rw [hcnt]; rw [hcnt, ← hll] at h2; rw [hoff] at h3
    exact put_end HSYS.out hn HOK.out HM.out ho hst hheld _ HFIT.out hless h1 h2 h3
  have Q3 : Hid (∀ W, Below w.heap.size w W → ∀ d' os, Calls Try.prog 53 #[.agg #[.int .i64 t.k, .int .i64 t.h], .slice (some ⟨t.g, 0, none⟩) F.D.size F.D.size, .int .i64 cnt] (Sort.grow (redrawn W d') os) fun e w'' => e = .returned (.slice (some ⟨t.g, off, none⟩) t.k (F.D.size - off)) ∧ ∃ p : Regrown, w'' = Sort.grow (redrawn W p.d) p.os) := fun W hb d' os => Calls.regrown_of (by
    rw [hoff, hcnt]
    exact plc_any t.k t.h t.l.length t.g F.D.size _ hk.1 hk.2 hh.1 hh.2.2 (by omega) (by rw [← hoff]; omega) (by omega))
  have HCOL : Hid (∀ i, i < t.k → ∃ z, [za, zb, zc, zd, ze][i]? = some z ∧ (wordsT t.k ⟨za, zb, zc, zd, ze⟩)[i]? = some (uw z)) := fun i hi => by
    have hi5 : i < [za, zb, zc, zd, ze].length := by simp; omega
    refine ⟨_, List.getElem?_eq_getElem hi5, ?_⟩
    unfold wordsT
    rw [List.getElem?_map, List.getElem?_take, if_pos hi]
    show (([za, zb, zc, zd, ze] : List Int)[i]?).map uw = _
    rw [List.getElem?_eq_getElem hi5]; rfl
  have hwsl := HM.out.len
  have HSPL : Hid (∀ i z, i < t.k → (wordsT t.k ⟨za, zb, zc, zd, ze⟩)[i]? = some (uw z) → ((splice ws off ((wordsT t.k ⟨za, zb, zc, zd, ze⟩).take i)).map vw).set (off + i) (.int .u64 (uw z : Nat)) = (splice ws off ((wordsT t.k ⟨za, zb, zc, zd, ze⟩).take (i + 1))).map vw ∧ off + i < ((splice ws off ((wordsT t.k ⟨za, zb, zc, zd, ze⟩).take i)).map vw).length) := fun i z hi hz => by
    refine ⟨?_, ?_⟩
    · rw [← splice_set ws _ off i (uw z) hz (by rw [hwl, hwsl]; omega), List.map_set]; rfl
    · rw [List.length_map, splice_length _ _ _ (by rw [List.length_take, hwl, hwsl]; omega), hwsl]; omega
  have HS0 : Hid (ws.map vw = (splice ws off ((wordsT t.k ⟨za, zb, zc, zd, ze⟩).take 0)).map vw) := by unfold Hid splice; simp
  have HSK : Hid ((wordsT t.k ⟨za, zb, zc, zd, ze⟩).take t.k = wordsT t.k ⟨za, zb, zc, zd, ze⟩) := List.take_of_length_le (by omega)
  have HX := Lib.hid HM.out.row
  have HBF := Lib.hid HM.out.buf
  have HG := Lib.hid HM.out.words
  unfold wrC at HX
  rw [← hcnt] at HX g0 hcl
  clear hll hwl hoff hwsl HOK HSYS HFIT ho hst hheld hn hcnt
  generalize wordsT t.k ⟨za, zb, zc, zd, ze⟩ = WL at *
  generalize PutTo w G x p F n t ⟨za, zb, zc, zd, ze⟩ = POST at *
  obtain ⟨k, hh2, bound, first, blocks, b, g, l⟩ := t
  simp only at *
  generalize F.D.size = size at *
  obtain ⟨r, hr⟩ : ∃ r, r = (cnt + 1) % hh2 := ⟨_, rfl⟩
  obtain ⟨c1, hc1⟩ : ∃ c1, c1 = cnt + 1 := ⟨_, rfl⟩
  have hadd1 : (cnt : Int) + 1 = (c1 : Int) := by omega
  have hcb : c1 ≤ 100000000 := by have := hbd.1; rw [hc1]; omega
  have hrem : Int.tmod (c1 : Int) (hh2 : Int) = (r : Int) := by rw [hc1, hr]; rfl
  have hh0 : ¬ ((hh2 : Int) = 0) := by have := hh.1; omega
  have hrb : r ≤ 254 := by rw [hr]; have := Nat.mod_lt (cnt + 1) hh.1; omega
  rw [← hr, ← hc1] at HEND
  clear hr hc1 HM hbd hless hcl
  go_enter Try.func36, Try.ntmps36
  go_wp2
  refine wp_region_quiet_below (by kernel_rfl) (by kernel_rfl) ?_
  repeat (any_goals (first | go_big_quiet_step (with_reducible first | exact Q1.out _ _ | exact Q2.out _ _) | quiet_step (with_reducible first | exact Q1.out _ _ | exact Q2.out _ _)))
  refine wpQuiet_nil ?_
  intro w5 hw5
  obtain ⟨⟨dq, osq⟩, hw5⟩ := hw5
  have hbw5 := below_regrown (w.alloc (.cells #[.int .i64 za, .int .i64 zb, .int .i64 zc, .int .i64 zd, .int .i64 ze] 58)) dq osq
  rw [← hw5] at hbw5
  clear hw5
  have HB5 := Lib.hid (HBT.out.trans (hbw5.mono (by simp)))
  have HR5 := Lib.hid (HRT.out.below hbw5 (by simp))
  clear hbw5 Q1 Q2 k0 k1 k2 k3 k4 k5 HBT HRT
  have c3 : w5.cell? ⟨x, 3, none⟩ = some (.int .i64 bound) := (HX.out.below HB5.out HLTS.out.1).cell 3
  have c4 : w5.cell? ⟨x, 4, none⟩ = some (.int .i64 cnt) := (HX.out.below HB5.out HLTS.out.1).cell 4
  go_wp2
  go_region
  clear c3 c4
  have HB6 := Lib.hid (below_drew HB5.out)
  have HR6 := Lib.hid (HR5.out.drewN 1)
  clear HB5 HR5
  have hd6 : w5.drewN 1 = w5.drew := rfl
  rw [hd6] at HR6
  clear hd6
  generalize w5.drew = w6 at *
  have Q4 := Lib.hid (Q3.out w6 HB6.out)
  have k0 : ∀ d' os, (Sort.grow (redrawn w6 d') os).cell? ⟨x, 0, none⟩ = some (.int .i64 k) := cell_regrown ((HX.out.below HB6.out HLTS.out.1).cell 0)
  have k1 : ∀ d' os, (Sort.grow (redrawn w6 d') os).cell? ⟨x, 1, none⟩ = some (.int .i64 hh2) := cell_regrown ((HX.out.below HB6.out HLTS.out.1).cell 1)
  have k4 : ∀ d' os, (Sort.grow (redrawn w6 d') os).cell? ⟨x, 4, none⟩ = some (.int .i64 cnt) := cell_regrown ((HX.out.below HB6.out HLTS.out.1).cell 4)
  have k7 : ∀ d' os, (Sort.grow (redrawn w6 d') os).cell? ⟨x, 7, none⟩ = some (.pointer (some ⟨b, 0, none⟩)) := cell_regrown ((HX.out.below HB6.out HLTS.out.1).cell 7)
  have kb : ∀ d' os, (Sort.grow (redrawn w6 d') os).cell? ⟨b, 0, none⟩ = some (.slice (some ⟨g, 0, none⟩) size size) := cell_regrown ((HBF.out.below HB6.out HLTS.out.2.1).cell 0)
  go_wp2
  refine wp_region_quiet_below (by kernel_rfl) (by kernel_rfl) ?_
  repeat (any_goals (first | go_big_quiet_step (with_reducible first | exact Q4.out _ _) | quiet_step (with_reducible first | exact Q4.out _ _)))
  refine wpQuiet_nil ?_
  intro w7 hw7
  obtain ⟨⟨dq, osq⟩, hw7⟩ := hw7
  have hbw7 := below_regrown w6 dq osq
  rw [← hw7] at hbw7
  clear hw7
  have HB7 := Lib.hid (HB6.out.trans (hbw7.mono HB6.out.size))
  have HR7 := Lib.hid (HR6.out.below hbw7 HR6.out.lt)
  clear hbw7 Q4 Q3 k0 k1 k4 k7 kb HR6 HB6
  have hgw := HLTS.out.2.2
  have HG7 : Hid (Row w7 g 69 ((splice ws off (WL.take 0)).map vw)) := by unfold Hid; rw [← HS0.out]; exact HG.out.below HB7.out hgw
  have hng : w.heap.size ≠ g := by omega
  clear HG HS0
  go_wp2
  go_loopw [48] (fun iv wr => ∃ i : Nat, i ≤ k ∧ iv = .int .i64 (i : Int) ∧ Hid (Far (fun j => j = g) w7 wr) ∧ Hid (Row wr g 69 ((splice ws off (WL.take i)).map vw))) (fun iv _ => k - (intOf iv).toNat)
  case atStart => exact ⟨0, Nat.zero_le _, rfl, Far.refl _ _, HG7.out⟩
  case round =>
    obtain ⟨i, hi, rfl, HF, HRG⟩ := hrel
    by_cases hlt : i < k
    · obtain ⟨z, hz, hwz⟩ := HCOL.out i hlt
      obtain ⟨hset, hil⟩ := HSPL.out i z hlt hwz
      have ct : wr.cell? ⟨w.heap.size, i, none⟩ = some (.int .i64 z) := by
        rw [(HF.out.row HR7.out hng).cell i]
        match i, hlt, hz with
        | 0, _, hz => simpa using hz
        | 1, _, hz => simpa using hz
        | 2, _, hz => simpa using hz
        | 3, _, hz => simpa using hz
        | 4, _, hz => simpa using hz
        | i + 5, hlt, _ => omega
      have cg : ∃ v, wr.cell? ⟨g, off + i, none⟩ = some v := ⟨_, (HRG.out.cell (off + i)).trans (List.getElem?_eq_getElem hil)⟩
      obtain ⟨v0, cg⟩ := cg
      have fg := HRG.out.free (off + i)
      have HST : Hid (Row (wr.setCell ⟨g, off + i, none⟩ (.int .u64 (uw z : Nat))) g 69 ((splice ws off (WL.take (i + 1))).map vw)) := by
        have h1 := HRG.out.set (off + i) (.int .u64 (uw z : Nat))
        rw [hset] at h1; exact h1
      have HFF : Hid (Far (fun j => j = g) w7 (wr.setCell ⟨g, off + i, none⟩ (.int .u64 (uw z : Nat)))) := HF.out.set (p := ⟨g, off + i, none⟩) (.inl rfl) _
      have hj0 : (0 : Int) ≤ (i : Int) := by omega
      have hj1 : (i : Int) < (k : Int) := by omega
      have hj5 : (i : Int) < 5 := by omega
      have hwz2 : IntKind.u64.wrap z = ((uw z : Nat) : Int) := uw_wrap z
      clear hset hil hz hwz hi
      generalize uw z = u at *
      go_wp2
      go_roundw
      case rel => exact ⟨i + 1, by omega, by go_num, HFF.out, HST.out⟩
      case measure => simp [intOf]; omega
    · obtain rfl : i = k := by omega
      have hrx : Row wr x 136 [.int .i64 i, .int .i64 hh2, .pointer (some ⟨p.w, 0, none⟩), .int .i64 bound, .int .i64 cnt, .int .i64 first, .int .i64 blocks, .pointer (some ⟨b, 0, none⟩)] := HF.out.row (HX.out.below HB7.out HLTS.out.1) hxg
      have c4 : wr.cell? ⟨x, 4, none⟩ = some (.int .i64 cnt) := hrx.cell 4
      have f4 := hrx.free 4
      have hrx8 : Row (wr.setCell ⟨x, 4, none⟩ (.int .i64 c1)) x 136 [.int .i64 i, .int .i64 hh2, .pointer (some ⟨p.w, 0, none⟩), .int .i64 bound, .int .i64 c1, .int .i64 first, .int .i64 blocks, .pointer (some ⟨b, 0, none⟩)] := hrx.set 4 _
      have hrg8 : Row (wr.setCell ⟨x, 4, none⟩ (.int .i64 c1)) g 69 ((splice ws off WL).map vw) := by
        have h1 := HRG.out
        rw [HSK.out] at h1
        exact h1.far (p := ⟨x, 4, none⟩) (fun e => hxg e.symm) _
      have hf8 : Far (fun k => k = x ∨ k = g) w (wr.setCell ⟨x, 4, none⟩ (.int .i64 c1)) := (((Far.of_below HB7.out (fun k => k = x ∨ k = g)).trans HF.out fun b hb => .inl (.inr hb))).set (p := ⟨x, 4, none⟩) (.inl (.inl rfl)) _
      have d4 : (wr.setCell ⟨x, 4, none⟩ (.int .i64 c1)).cell? ⟨x, 4, none⟩ = some (.int .i64 c1) := hrx8.cell 4
      have d1 : (wr.setCell ⟨x, 4, none⟩ (.int .i64 c1)).cell? ⟨x, 1, none⟩ = some (.int .i64 hh2) := hrx8.cell 1
      have HRX := Lib.hid hrx8
      have HRG8 := Lib.hid hrg8
      have HF8 := Lib.hid hf8
      clear hrx hrx8 hrg8 hf8 HRG HF HX HSPL HCOL HSK HG7 HR7
      go_wp2
      generalize wr.setCell ⟨x, 4, none⟩ (.int .i64 c1) = w8 at *
      have HE := Lib.hid (HEND.out w8.drew (HF8.out.drew) (HRX.out.drewN 1) (HRG8.out.drewN 1))
      clear HEND HRX HRG8 HF8
      by_cases hr0 : 0 < r
      · have gr : decide ((r : Int) > 0) = true := by simp; omega
        have HE1 := Lib.hid (HE.out.1 hr0)
        clear HE
        go_region
        go_wp2
        exact HE1.out
      · have gr : decide ((r : Int) > 0) = false := by simp; omega
        have HE1 := Lib.hid (HE.out.2 hr0)
        clear HE
        go_region
        go_wp2_with fail
        refine HE1.out.mono ?_; rintro e w9 ⟨er, rfl, h9⟩
        have H9 := Lib.hid h9
        clear h9 HE1
        go_wp2
        exact H9.out
end Go.Proofs.Ytbkgpilmgllkiaa
