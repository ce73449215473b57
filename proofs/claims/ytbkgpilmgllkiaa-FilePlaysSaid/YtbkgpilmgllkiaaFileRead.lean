/- A reader in memory; what Read answers, and makes of a work; a reader's Close. -/
import Derived.Test.YtbkgpilmgllkiaaFileWrite
namespace Go.Proofs.Ytbkgpilmgllkiaa
open Go.ChangeShapes Go.WideShapes Go.ChangeAt Go.RowKit

/-- a reader: its file's width, how many tuples a block holds, the file's first block, blocks and count, how many were told, its grant's block and words -/
structure Rt where
  k : Nat
  h : Nat
  first : Nat
  blocks : Nat
  count : Nat
  pos : Nat
  b : Nat
  g : Nat
def rdC (p : Wp) (r : Rt) : List Value := [.int .i64 r.k, .int .i64 r.h, .pointer (some ⟨p.w, 0, none⟩), .int .i64 r.first, .int .i64 r.blocks, .int .i64 r.k, .int .i64 r.count, .int .i64 r.pos, .pointer (some ⟨r.b, 0, none⟩)]
structure RtOk (r : Rt) (sz : Nat) : Prop where
  k : 0 < r.k ∧ r.k ≤ 5
  h : 0 < r.h ∧ r.h * r.k ≤ sz - 2 ∧ r.h ≤ 254
  sz : 8 ≤ sz ∧ sz ≤ 256
  count : r.count ≤ 100000000 ∧ r.pos ≤ r.count
  first : r.first ≤ 2000000
structure RMem (w : World) (x : Nat) (p : Wp) (r : Rt) (sz : Nat) (ws : List Nat) : Prop where
  row : Row w x 126 (rdC p r)
  buf : Row w r.b 130 [.slice (some ⟨r.g, 0, none⟩) sz sz]
  words : Row w r.g 69 (ws.map vw)
  len : ws.length = sz
  u64 : U64s ws
structure ROut (G : Nat → Prop) (x : Nat) (r : Rt) : Prop where
  x : ¬ G x
  b : ¬ G r.b
  g : ¬ G r.g
def RShut (w : World) (x : Nat) (p : Wp) (r : Rt) : Prop := Row w x 126 (rdC p r) ∧ Row w r.b 130 [.slice none 0 0]
section
variable {w w' : World} {x : Nat} {p : Wp} {r : Rt} {sz : Nat} {ws : List Nat}
theorem RMem.far {R : Nat → Prop} (h : RMem w x p r sz ws) (hf : Far R w w') (h1 : ¬ R x) (h2 : ¬ R r.b) (h3 : ¬ R r.g) : RMem w' x p r sz ws := ⟨hf.row h.row h1, hf.row h.buf h2, hf.row h.words h3, h.len, h.u64⟩
theorem RMem.below (h : RMem w x p r sz ws) (hb : Below w.heap.size w w') : RMem w' x p r sz ws := h.far (Far.of_below hb fun _ => False) (fun h => h) (fun h => h) (fun h => h)
theorem RMem.lt (h : RMem w x p r sz ws) : x < w.heap.size ∧ r.b < w.heap.size ∧ r.g < w.heap.size := ⟨h.row.lt, h.buf.lt, h.words.lt⟩
theorem RMem.apart (h : RMem w x p r sz ws) : x ≠ r.b ∧ x ≠ r.g ∧ r.b ≠ r.g :=
  ⟨fun e => absurd (h.row.typed (e ▸ h.buf)) (by decide), fun e => absurd (h.row.typed (e ▸ h.words)) (by decide), fun e => absurd (h.buf.typed (e ▸ h.words)) (by decide)⟩
end

set_option maxRecDepth 100000 in
theorem fread_nil (a b c d : Int) (w : World) : Calls Try.prog 29 #[.pointer none, .agg #[.int .i64 a, .int .i64 b, .int .i64 c, .int .i64 d]] w fun e w' => e = .returned (.tuple #[.pointer none, .int .i64 1]) ∧ Below w.heap.size w w' := by
  have hb0 := (Below.refl w.heap.size w).alloc (Nat.le_refl _) (.cells #[.int .i64 a, .int .i64 b, .int .i64 c, .int .i64 d] 30)
  have hr0 : Row (w.alloc (.cells #[.int .i64 a, .int .i64 b, .int .i64 c, .int .i64 d] 30)) w.heap.size 30 [.int .i64 a, .int .i64 b, .int .i64 c, .int .i64 d] := heap_alloc_new _ _
  have HS := Lib.hid (shape_nil c (w.alloc (.cells #[.int .i64 a, .int .i64 b, .int .i64 c, .int .i64 d] 30)))
  have HB := Lib.hid hb0
  clear hb0
  go_enter Try.func29, Try.ntmps29
  go_wp2_with fail
  refine HS.out.mono ?_; rintro e w1 ⟨rfl, hb⟩
  have HB2 := Lib.hid (HB.out.trans (hb.mono HB.out.size))
  have HB3 : Hid (∀ q, Below w.heap.size w ((w1.alloc (.cells #[.int .i64 c, .int .i64 0] 120)).drewN q)) := fun q => below_drewN (HB2.out.alloc HB2.out.size _) q
  clear hb HB HB2 hr0
  go_wp2
  go_quiet (fail)
  go_wp2
  go_ret2
  exact ⟨rfl, HB3.out _⟩

section
variable {w : World} {x : Nat} {p : Wp} {r : Rt}
set_option maxRecDepth 100000 in
theorem rclosed_any {A : Option Addr} {m c : Nat} (hr : Row w x 126 (rdC p r)) (hb : Row w r.b 130 [.slice A m c]) : Calls Try.prog 51 #[.pointer (some ⟨x, 0, none⟩)] w fun e w' => e = .returned (.bool (!decide (0 < m))) ∧ w' = w := by
  have c7 : w.cell? ⟨x, 8, none⟩ = some (.pointer (some ⟨r.b, 0, none⟩)) := hr.cell 8
  have HS := Lib.hid (stnd_any hb)
  clear hb hr
  go_enter Try.func51, Try.ntmps51
  go_wp2_with fail
  refine HS.out.mono ?_; rintro e w1 ⟨rfl, rfl⟩
  go_wp2
  go_ret
  exact ⟨ret_bool (by simp), rfl⟩
theorem rclosed_nil (w : World) : Calls Try.prog 51 #[.pointer none] w fun e w' => e = .returned (.bool true) ∧ w' = w := by
  go_enter Try.func51, Try.ntmps51
  go_wp2
  go_ret
  exact ⟨rfl, rfl⟩
end
theorem rclose_nil (w : World) : Calls Try.prog 33 #[.pointer none] w fun e w' => e = .returned (.tuple #[]) ∧ w' = w := by
  have HC := Lib.hid (rclosed_nil w)
  go_enter Try.func33, Try.ntmps33
  go_wp2_with fail
  refine HC.out.mono ?_; rintro e w1 ⟨rfl, rfl⟩
  go_wp2
  go_end0
  exact ⟨rfl, rfl⟩
/-- behind a reader's Close -/
def REnd (w : World) (G : Nat → Prop) (x : Nat) (p : Wp) (F : Fs) (n : Nat) (r : Rt) (w' : World) : Prop :=
  ∃ G', Sys w' G' p { F with A := release F.A r.b F.D.size } n ∧ RShut w' x p r ∧ Far (fun k => G k ∨ k = r.b) w w' ∧ ∀ k, G' k → G k ∨ w.heap.size ≤ k

set_option maxHeartbeats 1000000 in
set_option maxRecDepth 100000 in
theorem rclose_any {w : World} {G : Nat → Prop} {p : Wp} {F : Fs} {n x : Nat} {r : Rt} {ws : List Nat} (h : Sys w G p F n) (hm : RMem w x p r F.D.size ws) (ho : ROut G x r) (hst : wordsAt F.A.st r.b = some F.D.size) :
    Calls Try.prog 33 #[.pointer (some ⟨x, 0, none⟩)] w fun e w' => (e = .returned (.tuple #[]) ∧ REnd w G x p F n r w') := by
  have hsz := h.size
  have hc := rclosed_any hm.row hm.buf
  rw [decide_eq_true (show 0 < F.D.size by omega)] at hc
  have HC := Lib.hid hc
  have hbe := below_drew (Below.refl w.heap.size w)
  obtain ⟨hxb, hxg, hbg⟩ := hm.apart
  have HRL : Hid (Calls Try.prog 56 #[.pointer (some ⟨p.a, 0, none⟩), .pointer (some ⟨r.b, 0, none⟩)] w.drew fun e w' => e = .returned (.bool true) ∧ REnd w G x p F n r w') := by
    refine (sys_release (h.below hbe) hst).mono ?_
    rintro e w' ⟨he, h2⟩
    obtain ⟨G', k1, k2, k3, k4⟩ := h2.behind hbe
    refine ⟨he, G', k1, ⟨k2.row hm.row ?_, k4⟩, k2, k3⟩
    rintro (h5 | h5)
    · exact ho.x h5
    · exact hxb h5
  have c2 : w.drew.cell? ⟨x, 2, none⟩ = some (.pointer (some ⟨p.w, 0, none⟩)) := hm.row.cell 2
  have c8 : w.drew.cell? ⟨x, 8, none⟩ = some (.pointer (some ⟨r.b, 0, none⟩)) := hm.row.cell 8
  have cp : w.drew.cell? ⟨p.w, 1, none⟩ = some (.pointer (some ⟨p.a, 0, none⟩)) := h.row.cell 1
  have HCELL : Hid (∀ w', REnd w G x p F n r w' → w'.cell? ⟨x, 2, none⟩ = some (.pointer (some ⟨p.w, 0, none⟩)) ∧ w'.cell? ⟨x, 8, none⟩ = some (.pointer (some ⟨r.b, 0, none⟩)) ∧ w'.cell? ⟨p.w, 1, none⟩ = some (.pointer (some ⟨p.a, 0, none⟩))) := fun w' ⟨G', k1, k2, _⟩ => ⟨k2.1.cell 2, k2.1.cell 8, k1.row.cell 1⟩
  generalize REnd w G x p F n r = POST at *
  generalize r.b = b at *
  clear hc h hm ho hst hsz hbe hxb hxg hbg
  go_enter Try.func33, Try.ntmps33
  go_wp2_with fail
  refine HC.out.mono ?_; rintro e w1 ⟨rfl, rfl⟩
  go_wp2
  go_region_held3 (fun w' => w'.cell? ⟨x, 2, none⟩ = some (.pointer (some ⟨p.w, 0, none⟩)) ∧ w'.cell? ⟨x, 8, none⟩ = some (.pointer (some ⟨b, 0, none⟩)) ∧ w'.cell? ⟨p.w, 1, none⟩ = some (.pointer (some ⟨p.a, 0, none⟩))) (first | with_reducible exact ⟨c2, c8, cp⟩ | with_reducible exact q2)
    (first
      | (go_at_call 56; (with_reducible refine HRL.out.mono ?_); rintro e w2 ⟨rfl, h2⟩; have q2 := HCELL.out w2 h2))
  have H2 := Lib.hid h2
  clear h2 q2
  go_wp2
  go_end0
  exact ⟨rfl, H2.out⟩
set_option maxRecDepth 100000 in
theorem rclose_any_shut {w : World} {p : Wp} {x : Nat} {r : Rt} (hs : RShut w x p r) :
    Calls Try.prog 33 #[.pointer (some ⟨x, 0, none⟩)] w fun e w' => (e = .returned (.tuple #[]) ∧ w' = w) := by
  have hc := rclosed_any hs.1 hs.2
  rw [decide_eq_false (Nat.lt_irrefl 0)] at hc
  have HC := Lib.hid hc
  clear hc hs
  go_enter Try.func33, Try.ntmps33
  go_wp2_with fail
  refine HC.out.mono ?_; rintro e w1 ⟨rfl, rfl⟩
  go_wp2
  go_end0
  exact ⟨rfl, rfl⟩

set_option maxHeartbeats 1000000 in
set_option maxRecDepth 100000 in
theorem rclose_def (u : FrameMode) {w : World} {G : Nat → Prop} {p : Wp} {F : Fs} {n x : Nat} {r : Rt} {ws : List Nat} (h : Sys w G p F n) (hm : RMem w x p r F.D.size ws) (ho : ROut G x r) (hst : wordsAt F.A.st r.b = some F.D.size) :
    CallsD Try.prog 33 #[.pointer (some ⟨x, 0, none⟩)] u w fun e u' w' => u' = u ∧ (e = .returned (.tuple #[]) ∧ REnd w G x p F n r w') := by
  have hsz := h.size
  have hc := rclosed_any hm.row hm.buf
  rw [decide_eq_true (show 0 < F.D.size by omega)] at hc
  have HC := Lib.hid hc
  have hbe := below_drew (Below.refl w.heap.size w)
  obtain ⟨hxb, hxg, hbg⟩ := hm.apart
  have HRL : Hid (Calls Try.prog 56 #[.pointer (some ⟨p.a, 0, none⟩), .pointer (some ⟨r.b, 0, none⟩)] w.drew fun e w' => e = .returned (.bool true) ∧ REnd w G x p F n r w') := by
    refine (sys_release (h.below hbe) hst).mono ?_
    rintro e w' ⟨he, h2⟩
    obtain ⟨G', k1, k2, k3, k4⟩ := h2.behind hbe
    refine ⟨he, G', k1, ⟨k2.row hm.row ?_, k4⟩, k2, k3⟩
    rintro (h5 | h5)
    · exact ho.x h5
    · exact hxb h5
  have c2 : w.drew.cell? ⟨x, 2, none⟩ = some (.pointer (some ⟨p.w, 0, none⟩)) := hm.row.cell 2
  have c8 : w.drew.cell? ⟨x, 8, none⟩ = some (.pointer (some ⟨r.b, 0, none⟩)) := hm.row.cell 8
  have cp : w.drew.cell? ⟨p.w, 1, none⟩ = some (.pointer (some ⟨p.a, 0, none⟩)) := h.row.cell 1
  have HCELL : Hid (∀ w', REnd w G x p F n r w' → w'.cell? ⟨x, 2, none⟩ = some (.pointer (some ⟨p.w, 0, none⟩)) ∧ w'.cell? ⟨x, 8, none⟩ = some (.pointer (some ⟨r.b, 0, none⟩)) ∧ w'.cell? ⟨p.w, 1, none⟩ = some (.pointer (some ⟨p.a, 0, none⟩))) := fun w' ⟨G', k1, k2, _⟩ => ⟨k2.1.cell 2, k2.1.cell 8, k1.row.cell 1⟩
  generalize REnd w G x p F n r = POST at *
  generalize r.b = b at *
  clear hc h hm ho hst hsz hbe hxb hxg hbg
  go_enter_d Try.func33, Try.ntmps33
  go_wp2_with fail
  refine HC.out.mono ?_; rintro e w1 ⟨rfl, rfl⟩
  go_wp2
  go_region_held3 (fun w' => w'.cell? ⟨x, 2, none⟩ = some (.pointer (some ⟨p.w, 0, none⟩)) ∧ w'.cell? ⟨x, 8, none⟩ = some (.pointer (some ⟨b, 0, none⟩)) ∧ w'.cell? ⟨p.w, 1, none⟩ = some (.pointer (some ⟨p.a, 0, none⟩))) (first | with_reducible exact ⟨c2, c8, cp⟩ | with_reducible exact q2)
    (first
      | (go_at_call 56; (with_reducible refine HRL.out.mono ?_); rintro e w2 ⟨rfl, h2⟩; have q2 := HCELL.out w2 h2))
  have H2 := Lib.hid h2
  clear h2 q2
  go_wp2
  go_end0
  exact ⟨rfl, H2.out⟩
set_option maxRecDepth 100000 in
theorem rclose_def_shut (u : FrameMode) {w : World} {p : Wp} {x : Nat} {r : Rt} (hs : RShut w x p r) :
    CallsD Try.prog 33 #[.pointer (some ⟨x, 0, none⟩)] u w fun e u' w' => u' = u ∧ (e = .returned (.tuple #[]) ∧ w' = w) := by
  have hc := rclosed_any hs.1 hs.2
  rw [decide_eq_false (Nat.lt_irrefl 0)] at hc
  have HC := Lib.hid hc
  clear hc hs
  go_enter_d Try.func33, Try.ntmps33
  go_wp2_with fail
  refine HC.out.mono ?_; rintro e w1 ⟨rfl, rfl⟩
  go_wp2
  go_end0
  exact ⟨rfl, rfl⟩

-- READ
set_option maxHeartbeats 4000000 in
set_option maxRecDepth 100000 in
theorem fread_room {w : World} {G : Nat → Prop} {p : Wp} {F : Fs} {n : Nat} (h : Sys w G p F n) (k hh first nb count : Nat) (hhe : hh = holdsI F.D.size k) (hh0 : 0 < hh) (hnb : nb = blocksN hh count) (hcount : count ≤ 100000000) (hroom : F.A.room - F.A.used < F.D.size) : Calls Try.prog 29 #[.pointer (some ⟨p.w, 0, none⟩), .agg #[.int .i64 first, .int .i64 nb, .int .i64 k, .int .i64 count]] w fun e w' => e = .returned (.tuple #[.pointer none, .int .i64 7]) ∧ Below w.heap.size w w' := by
  have hsz := h.size
  have hh254 : hh ≤ 254 := by rw [hhe]; exact Nat.le_trans (holds_le _ _) (by omega)
  have hb0 := (Below.refl w.heap.size w).alloc (Nat.le_refl _) (.cells #[.int .i64 first, .int .i64 nb, .int .i64 k, .int .i64 count] 30)
  have hr0 : Row (w.alloc (.cells #[.int .i64 first, .int .i64 nb, .int .i64 k, .int .i64 count] 30)) w.heap.size 30 [.int .i64 first, .int .i64 nb, .int .i64 k, .int .i64 count] := heap_alloc_new _ _
  have hshp := shape_any (h.below hb0) k
  rw [← hhe] at hshp
  have HS := Lib.hid hshp
  have HBL : Hid (∀ W, Calls Try.prog 48 #[.agg #[.int .i64 k, .int .i64 hh], .int .i64 count] W fun e w' => e = .returned (.int .i64 nb) ∧ Below W.heap.size W w') := fun W => by
    rw [hnb]; exact blks_any k hh count W hh0 hh254 hcount
  have HSYS : Hid (∀ W, Below w.heap.size w W → Sys W G p F n) := fun W hb => h.below hb
  have HB0 := Lib.hid hb0
  have HR0 := Lib.hid hr0
  obtain ⟨size, hsize⟩ : ∃ size, size = F.D.size := ⟨_, rfl⟩
  have g0 : ((hh : Int) == 0) = false := by simp; omega
  have g1 : decide ((count : Int) < 0) = false := by simp
  have HGQ : Hid (∀ W, Sys W G p F n → ∀ q, Calls Try.prog 49 #[.pointer (some ⟨p.a, 0, none⟩), .int .i64 size] (W.drewN q) fun e w'' => e = .returned (.tuple #[.pointer none, .int .i64 7]) ∧ ∃ k, w'' = W.drewN k) := fun W hs q => by
    rw [hsize]; exact Calls.quiet_of_same ((sys_grant_no (hs.below (below_drewN (Below.refl _ _) q)) F.D.size hroom).mono fun _ _ h => h)
  have HSQ : Hid (∀ W, Sys W G p F n → ∀ q, Calls Try.prog 50 #[.pointer (some ⟨p.d, 0, none⟩)] (W.drewN q) fun e w'' => e = .returned (.int .i64 (size : Int)) ∧ ∃ k, w'' = W.drewN k) := fun W hs q => by
    rw [hsize]; exact Calls.quiet_of_same ((hs.below (below_drewN (Below.refl _ _) q)).dsize_any.mono fun _ _ h => h)
  clear hsize hroom h hshp hb0 hr0 hhe hnb hsz
  go_enter Try.func29, Try.ntmps29
  go_wp2_with fail
  refine HS.out.mono ?_; rintro e w1 ⟨rfl, hb1⟩
  have hb2 := hb1.alloc hb1.size (.cells #[.int .i64 k, .int .i64 hh] 120)
  have hrs : Row (w1.alloc (.cells #[.int .i64 k, .int .i64 hh] 120)) w1.heap.size 120 [.int .i64 k, .int .i64 hh] := heap_alloc_new _ _
  have hrf := HR0.out.below hb2 HR0.out.lt
  have HB2 := Lib.hid (HB0.out.trans (hb2.mono HB0.out.size))
  have HL1 : Hid (w.heap.size ≤ w1.heap.size) := Nat.le_trans HB0.out.size hb1.size
  clear hb1 hb2 HB0 HR0 HS
  have HRS := Lib.hid hrs
  have HRF := Lib.hid hrf
  clear hrs hrf
  have k0 : ∀ d os, (Sort.grow (redrawn (w1.alloc (.cells #[.int .i64 k, .int .i64 hh] 120)) d) os).cell? ⟨w1.heap.size, 0, none⟩ = some (.int .i64 k) := cell_regrown (HRS.out.cell 0)
  have k1 : ∀ d os, (Sort.grow (redrawn (w1.alloc (.cells #[.int .i64 k, .int .i64 hh] 120)) d) os).cell? ⟨w1.heap.size, 1, none⟩ = some (.int .i64 hh) := cell_regrown (HRS.out.cell 1)
  have k2 : ∀ d os, (Sort.grow (redrawn (w1.alloc (.cells #[.int .i64 k, .int .i64 hh] 120)) d) os).cell? ⟨w.heap.size, 1, none⟩ = some (.int .i64 nb) := cell_regrown (HRF.out.cell 1)
  have k3 : ∀ d os, (Sort.grow (redrawn (w1.alloc (.cells #[.int .i64 k, .int .i64 hh] 120)) d) os).cell? ⟨w.heap.size, 3, none⟩ = some (.int .i64 count) := cell_regrown (HRF.out.cell 3)
  have Q1 : Hid (∀ d os, Calls Try.prog 48 #[.agg #[.int .i64 k, .int .i64 hh], .int .i64 count] (Sort.grow (redrawn (w1.alloc (.cells #[.int .i64 k, .int .i64 hh] 120)) d) os) fun e w'' => e = .returned (.int .i64 nb) ∧ ∃ p : Regrown, w'' = Sort.grow (redrawn (w1.alloc (.cells #[.int .i64 k, .int .i64 hh] 120)) p.d) p.os) := fun d os => Calls.regrown_of (HBL.out _)
  go_wp2
  refine wp_region_quiet_below (by kernel_rfl) (by kernel_rfl) ?_
  repeat (any_goals (first | go_big_quiet_step (with_reducible exact Q1.out _ _) | quiet_step (with_reducible exact Q1.out _ _)))
  refine wpQuiet_nil ?_
  intro w5 hw5
  obtain ⟨⟨dq, osq⟩, hw5⟩ := hw5
  have hbw5 := below_regrown (w1.alloc (.cells #[.int .i64 k, .int .i64 hh] 120)) dq osq
  rw [← hw5] at hbw5
  clear hw5
  have HB5 := Lib.hid (HB2.out.trans (hbw5.mono HB2.out.size))
  have HRS5 := Lib.hid (HRS.out.below hbw5 HRS.out.lt)
  have HRF5 := Lib.hid (HRF.out.below hbw5 HRF.out.lt)
  have k5 := HSYS.out w5 HB5.out
  clear hbw5 Q1 k0 k1 k2 k3 HRS HRF HB2 HBL
  have Q1 := Lib.hid (HGQ.out w5 k5)
  have Q2 := Lib.hid (HSQ.out w5 k5)
  have c0 : w5.cell? ⟨p.w, 0, none⟩ = some (.pointer (some ⟨p.d, 0, none⟩)) := k5.row.cell 0
  have c1 : w5.cell? ⟨p.w, 1, none⟩ = some (.pointer (some ⟨p.a, 0, none⟩)) := k5.row.cell 1
  clear k5 HGQ HSQ HSYS
  go_wp2
  go_quiet ((with_reducible first | exact Q1.out _ | exact Q2.out _))
  go_wp2
  go_ret2
  exact ⟨rfl, below_drewN HB5.out _⟩
/-- a new reader's memory -/
def NewR (w : World) (G : Nat → Prop) (p : Wp) (F : Fs) (n : Nat) (r : Rt) (x : Nat) (w' : World) : Prop :=
  w.heap.size ≤ x ∧ w.heap.size ≤ r.b ∧ w.heap.size ≤ r.g ∧ ∃ G', Sys w' G' p { F with A := grant F.A r.b F.D.size } n ∧ (∃ ws, RMem w' x p r F.D.size ws) ∧ ROut G' x r ∧ Far G w w' ∧ ∀ k, G' k → G k ∨ w.heap.size ≤ k
def ReadOk (w : World) (G : Nat → Prop) (p : Wp) (F : Fs) (n : Nat) (k h first nb count : Nat) (e : Ending) (w' : World) : Prop :=
  ∃ x b g, e = .returned (.tuple #[.pointer (some ⟨x, 0, none⟩), .int .i64 0]) ∧ NewR w G p F n ⟨k, h, first, nb, count, 0, b, g⟩ x w'
set_option maxHeartbeats 4000000 in
set_option maxRecDepth 100000 in
theorem fread_ok {w : World} {G : Nat → Prop} {p : Wp} {F : Fs} {n : Nat} (h : Sys w G p F n) (k hh first nb count : Nat) (hhe : hh = holdsI F.D.size k) (hh0 : 0 < hh) (hnb : nb = blocksN hh count) (hcount : count ≤ 100000000) (hroom : F.D.size ≤ F.A.room - F.A.used) : Calls Try.prog 29 #[.pointer (some ⟨p.w, 0, none⟩), .agg #[.int .i64 first, .int .i64 nb, .int .i64 k, .int .i64 count]] w (ReadOk w G p F n k hh first nb count) := by
  have hsz := h.size
  have hh254 : hh ≤ 254 := by rw [hhe]; exact Nat.le_trans (holds_le _ _) (by omega)
  have hb0 := (Below.refl w.heap.size w).alloc (Nat.le_refl _) (.cells #[.int .i64 first, .int .i64 nb, .int .i64 k, .int .i64 count] 30)
  have hr0 : Row (w.alloc (.cells #[.int .i64 first, .int .i64 nb, .int .i64 k, .int .i64 count] 30)) w.heap.size 30 [.int .i64 first, .int .i64 nb, .int .i64 k, .int .i64 count] := heap_alloc_new _ _
  have hshp := shape_any (h.below hb0) k
  rw [← hhe] at hshp
  have HS := Lib.hid hshp
  have HBL : Hid (∀ W, Calls Try.prog 48 #[.agg #[.int .i64 k, .int .i64 hh], .int .i64 count] W fun e w' => e = .returned (.int .i64 nb) ∧ Below W.heap.size W w') := fun W => by
    rw [hnb]; exact blks_any k hh count W hh0 hh254 hcount
  have HSYS : Hid (∀ W, Below w.heap.size w W → Sys W G p F n) := fun W hb => h.below hb
  have HB0 := Lib.hid hb0
  have HR0 := Lib.hid hr0
  obtain ⟨size, hsize⟩ : ∃ size, size = F.D.size := ⟨_, rfl⟩
  have g0 : ((hh : Int) == 0) = false := by simp; omega
  have g1 : decide ((count : Int) < 0) = false := by simp
  have HGR : Hid (∀ W, Sys W G p F n → Calls Try.prog 49 #[.pointer (some ⟨p.a, 0, none⟩), .int .i64 size] W.drew fun e w' => ∃ b g, e = .returned (.tuple #[.pointer (some ⟨b, 0, none⟩), .int .i64 0]) ∧
      (∃ G'', Sys w' G'' p { F with A := grant F.A b F.D.size } n ∧ Far G W w' ∧ (∀ k, G'' k → G k ∨ W.heap.size ≤ k) ∧ ¬ G'' b ∧ ¬ G'' g) ∧ Row w' b 130 [.slice (some ⟨g, 0, none⟩) size size] ∧ Row w' g 69 ((List.replicate size 0).map vw) ∧ W.heap.size ≤ b ∧ W.heap.size ≤ g) := fun W hs => by
    refine (sys_grant (hs.below (below_drew (Below.refl _ _))) size (by rw [hsize]; exact hroom) (by omega)).mono ?_
    rintro e w' ⟨b, g, he, ⟨G'', h1, h2, h3, h4⟩, h5⟩
    rw [hsize] at h1
    exact ⟨b, g, he, ⟨G'', h1, ⟨h2.os, h2.tape, h2.output, h2.size, h2.block⟩, h3, h4⟩, h5⟩
  have HSQ : Hid (∀ W, Sys W G p F n → Calls Try.prog 50 #[.pointer (some ⟨p.d, 0, none⟩)] W.drew fun e w'' => e = .returned (.int .i64 (size : Int)) ∧ w'' = W.drew) := fun W hs => by
    rw [hsize]; exact (hs.below (below_drew (Below.refl _ _))).dsize_any
  have HNG : Hid (∀ k, w.heap.size ≤ k → ¬ G k) := fun k hk hg => by have := h.lt hg; omega
  have HNEW : Hid (∀ w6 w7 b g G'', Sys w6 G'' p { F with A := grant F.A b F.D.size } n → Far G w w6 → (∀ k, G'' k → G k ∨ w.heap.size ≤ k) → ¬ G'' b → ¬ G'' g → Row w6 b 130 [.slice (some ⟨g, 0, none⟩) size size] → Row w6 g 69 ((List.replicate size 0).map vw) → w.heap.size ≤ b → w.heap.size ≤ g →
      w7 = w6.alloc (.cells #[.int .i64 k, .int .i64 hh, .pointer (some ⟨p.w, 0, none⟩), .int .i64 first, .int .i64 nb, .int .i64 k, .int .i64 count, .int .i64 0, .pointer (some ⟨b, 0, none⟩)] 126) →
      NewR w G p F n ⟨k, hh, first, nb, count, 0, b, g⟩ w6.heap.size w7) := by
    intro w6 w7 b g G'' k1 k2 k3 k4 k5 k6 k7 k8 k9 e7
    subst e7
    have hb := (Below.refl w6.heap.size w6).alloc (Nat.le_refl _) (.cells #[.int .i64 k, .int .i64 hh, .pointer (some ⟨p.w, 0, none⟩), .int .i64 first, .int .i64 nb, .int .i64 k, .int .i64 count, .int .i64 0, .pointer (some ⟨b, 0, none⟩)] 126)
    have k6' := k6.below hb k6.lt
    rw [hsize] at k6'
    refine ⟨k2.size, k8, k9, G'', k1.below hb, ⟨List.replicate size 0, ⟨heap_alloc_new _ _, k6', k7.below hb k7.lt, by rw [← hsize]; simp, ?_⟩⟩, ⟨fun hg => by have := k1.lt hg; omega, k4, k5⟩, k2.trans (Far.of_below hb fun _ => False) fun _ hf => hf.elim, k3⟩
    intro y hy
    rw [List.mem_replicate] at hy; omega
  have HPOST : Hid (∀ w7 x b g, NewR w G p F n ⟨k, hh, first, nb, count, 0, b, g⟩ x w7 → ReadOk w G p F n k hh first nb count (.returned (.tuple #[.pointer (some ⟨x, 0, none⟩), .int .i64 0])) w7) := fun w7 x b g h1 => ⟨x, b, g, rfl, h1⟩
  have HCL : Hid (∀ W G'' F2, Sys W G'' p F2 n → W.cell? ⟨p.w, 0, none⟩ = some (.pointer (some ⟨p.d, 0, none⟩)) ∧ W.cell? ⟨p.w, 1, none⟩ = some (.pointer (some ⟨p.a, 0, none⟩))) := fun W G'' F2 hs => ⟨hs.row.cell 0, hs.row.cell 1⟩
  clear hsize hroom h hshp hb0 hr0 hhe hnb hsz
  generalize ReadOk w G p F n k hh first nb count = POST at *
  go_enter Try.func29, Try.ntmps29
  go_wp2_with fail
  refine HS.out.mono ?_; rintro e w1 ⟨rfl, hb1⟩
  have hb2 := hb1.alloc hb1.size (.cells #[.int .i64 k, .int .i64 hh] 120)
  have hrs : Row (w1.alloc (.cells #[.int .i64 k, .int .i64 hh] 120)) w1.heap.size 120 [.int .i64 k, .int .i64 hh] := heap_alloc_new _ _
  have hrf := HR0.out.below hb2 HR0.out.lt
  have HB2 := Lib.hid (HB0.out.trans (hb2.mono HB0.out.size))
  have HL1 : Hid (w.heap.size ≤ w1.heap.size) := Nat.le_trans HB0.out.size hb1.size
  clear hb1 hb2 HB0 HR0 HS
  have HRS := Lib.hid hrs
  have HRF := Lib.hid hrf
  clear hrs hrf
  have k0 : ∀ d os, (Sort.grow (redrawn (w1.alloc (.cells #[.int .i64 k, .int .i64 hh] 120)) d) os).cell? ⟨w1.heap.size, 0, none⟩ = some (.int .i64 k) := cell_regrown (HRS.out.cell 0)
  have k1 : ∀ d os, (Sort.grow (redrawn (w1.alloc (.cells #[.int .i64 k, .int .i64 hh] 120)) d) os).cell? ⟨w1.heap.size, 1, none⟩ = some (.int .i64 hh) := cell_regrown (HRS.out.cell 1)
  have k2 : ∀ d os, (Sort.grow (redrawn (w1.alloc (.cells #[.int .i64 k, .int .i64 hh] 120)) d) os).cell? ⟨w.heap.size, 1, none⟩ = some (.int .i64 nb) := cell_regrown (HRF.out.cell 1)
  have k3 : ∀ d os, (Sort.grow (redrawn (w1.alloc (.cells #[.int .i64 k, .int .i64 hh] 120)) d) os).cell? ⟨w.heap.size, 3, none⟩ = some (.int .i64 count) := cell_regrown (HRF.out.cell 3)
  have Q1 : Hid (∀ d os, Calls Try.prog 48 #[.agg #[.int .i64 k, .int .i64 hh], .int .i64 count] (Sort.grow (redrawn (w1.alloc (.cells #[.int .i64 k, .int .i64 hh] 120)) d) os) fun e w'' => e = .returned (.int .i64 nb) ∧ ∃ p : Regrown, w'' = Sort.grow (redrawn (w1.alloc (.cells #[.int .i64 k, .int .i64 hh] 120)) p.d) p.os) := fun d os => Calls.regrown_of (HBL.out _)
  go_wp2
  refine wp_region_quiet_below (by kernel_rfl) (by kernel_rfl) ?_
  repeat (any_goals (first | go_big_quiet_step (with_reducible exact Q1.out _ _) | quiet_step (with_reducible exact Q1.out _ _)))
  refine wpQuiet_nil ?_
  intro w5 hw5
  obtain ⟨⟨dq, osq⟩, hw5⟩ := hw5
  have hbw5 := below_regrown (w1.alloc (.cells #[.int .i64 k, .int .i64 hh] 120)) dq osq
  rw [← hw5] at hbw5
  clear hw5
  have HB5 := Lib.hid (HB2.out.trans (hbw5.mono HB2.out.size))
  have HRS5 := Lib.hid (HRS.out.below hbw5 HRS.out.lt)
  have HRF5 := Lib.hid (HRF.out.below hbw5 HRF.out.lt)
  have k5 := HSYS.out w5 HB5.out
  clear hbw5 Q1 k0 k1 k2 k3 HRS HRF HB2 HBL
  have Q1 := Lib.hid (HGR.out w5 k5)
  have Q2 := Lib.hid (HSQ.out w5 k5)
  have c0 : w5.drew.cell? ⟨p.w, 0, none⟩ = some (.pointer (some ⟨p.d, 0, none⟩)) := k5.row.cell 0
  have c1 : w5.drew.cell? ⟨p.w, 1, none⟩ = some (.pointer (some ⟨p.a, 0, none⟩)) := k5.row.cell 1
  clear k5 HGR HSQ HSYS
  go_wp2
  go_region_held3 (fun w' => w'.cell? ⟨p.w, 0, none⟩ = some (.pointer (some ⟨p.d, 0, none⟩)) ∧ w'.cell? ⟨p.w, 1, none⟩ = some (.pointer (some ⟨p.a, 0, none⟩))) (first | with_reducible exact ⟨c0, c1⟩ | with_reducible exact d1)
    (first
      | (go_at_call 50; (with_reducible refine Q2.out.mono ?_); rintro e w8 ⟨rfl, rfl⟩)
      | (go_at_call 49; (with_reducible refine Q1.out.mono ?_); rintro e w6 ⟨b, g, rfl, ⟨G6, k1, k2, k3, k4, k5⟩, k6, k7, k8, k9⟩; have d1 := HCL.out _ _ _ k1))
  have hs6 := k2.row HRF5.out (HNG.out _ (Nat.le_refl _))
  have hs7 := k2.row HRS5.out (HNG.out _ HL1.out)
  have e0 : w6.cell? ⟨w.heap.size, 0, none⟩ = some (.int .i64 first) := hs6.cell 0
  have e1 : w6.cell? ⟨w.heap.size, 1, none⟩ = some (.int .i64 nb) := hs6.cell 1
  have e2 : w6.cell? ⟨w.heap.size, 2, none⟩ = some (.int .i64 k) := hs6.cell 2
  have e3 : w6.cell? ⟨w.heap.size, 3, none⟩ = some (.int .i64 count) := hs6.cell 3
  have e4 : w6.cell? ⟨w1.heap.size, 0, none⟩ = some (.int .i64 k) := hs7.cell 0
  have e5 : w6.cell? ⟨w1.heap.size, 1, none⟩ = some (.int .i64 hh) := hs7.cell 1
  have HN := Lib.hid (HNEW.out w6 _ b g G6 k1 ((Far.of_below HB5.out G).trans k2 fun b hb => .inl hb) (fun k hk => (k3 k hk).imp_right fun h => Nat.le_trans HB5.out.size h) k4 k5 k6 k7 (Nat.le_trans HB5.out.size k8) (Nat.le_trans HB5.out.size k9) rfl)
  clear k1 k2 k3 k4 k5 k6 k7 k8 k9 hs6 hs7 Q1 Q2 HNEW HB5 HRF5 HRS5 HCL d1 c0 c1 HNG
  go_wp2
  exact HPOST.out _ _ b g HN.out
end Go.Proofs.Ytbkgpilmgllkiaa
