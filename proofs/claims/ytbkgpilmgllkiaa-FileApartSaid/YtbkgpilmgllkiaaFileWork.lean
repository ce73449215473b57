/- Free; a work in a place of the law's; what awake answers. -/
import Derived.Test.YtbkgpilmgllkiaaFileLaid
import Derived.Test.YtbkgpilmgllkiaaFileList
namespace Go.Proofs.Ytbkgpilmgllkiaa
open Go.ChangeShapes Go.WideShapes Go.ChangeAt Go.RowKit

set_option maxRecDepth 100000 in
theorem dnew_no (size blocks : Int) (w : World) (h : ¬ (8 ≤ size ∧ size ≤ 256 ∧ 0 ≤ blocks ∧ blocks ≤ 1000000)) :
    Calls Try.prog 38 #[.int .i64 size, .int .i64 blocks] w fun e w' => e = .returned (.tuple #[.pointer none, .int .i64 1]) ∧ w' = w := by
  by_cases h1 : size < 8
  · have g1 : decide (size < 8) = true := by simpa using h1
    go_enter Try.func38, Try.ntmps38
    go_wp2
    go_ret2
    exact ⟨rfl, rfl⟩
  · have g1 : decide (size < 8) = false := by simpa using h1
    by_cases h2 : size > 256
    · have g2 : decide (size > 256) = true := by simpa using h2
      go_enter Try.func38, Try.ntmps38
      go_wp2
      go_ret2
      exact ⟨rfl, rfl⟩
    · have g2 : decide (size > 256) = false := by simpa using h2
      by_cases h3 : blocks < 0
      · have g3 : decide (blocks < 0) = true := by simpa using h3
        go_enter Try.func38, Try.ntmps38
        go_wp2
        go_ret2
        exact ⟨rfl, rfl⟩
      · have g3 : decide (blocks < 0) = false := by simpa using h3
        have g4 : decide (blocks > 1000000) = true := by simp; omega
        go_enter Try.func38, Try.ntmps38
        go_wp2
        go_ret2
        exact ⟨rfl, rfl⟩
/-- the three, made one behind the other, and a work of them -/
theorem sys_mk {wd wa ws : World} {d a s n : Nat} {D : St} {A : Ar} {S : Sp} {Gd Ga Gs : Nat → Prop} (hd : Dev wd Gd d D n) (hb1 : Below wd.heap.size wd wa) (ha : Arn wa Ga a A) (hga : ∀ k, Ga k → wd.heap.size ≤ k) (hst : A.st = []) (hb2 : Below wa.heap.size wa ws) (hs : Spc ws Gs s S) (hgs : ∀ k, Gs k → wa.heap.size ≤ k) :
    Sys (ws.alloc (.cells #[ptr d, ptr a, ptr s] 96)) (fun k => k = ws.heap.size ∨ Gd k ∨ Ga k ∨ Gs k) ⟨ws.heap.size, d, a, s⟩ ⟨D, A, S⟩ n := by
  have hb3 : Below ws.heap.size ws (ws.alloc (.cells #[ptr d, ptr a, ptr s] 96)) := (Below.refl _ _).alloc (Nat.le_refl _) _
  have z1 := hb1.size
  have z2 := hb2.size
  refine ⟨Gd, Ga, Gs, heap_alloc_new _ _, ((hd.below hb1).below (hb2.mono (Nat.le_refl _))).below hb3, ?_, ?_, fun k => Iff.rfl, fun k hk => ⟨fun h => ?_, fun h => ?_, fun h => ?_⟩, fun k hk => ⟨fun h => ?_, fun h => ?_⟩, fun k hk h => ?_, fun q hq => ?_⟩
  · exact (ha.far (Far.of_below hb2 fun _ => False) (fun _ _ h => h) (fun _ _ h => h)).far (Far.of_below hb3 fun _ => False) (fun _ _ h => h) (fun _ _ h => h)
  · exact hs.below hb3
  · have := hd.lt hk; have := hga k h; omega
  · have := hd.lt hk; have := hgs k h; omega
  · have := hd.lt hk; simp only at h; omega
  · have := ha.lt hk; have := hgs k h; omega
  · have := ha.lt hk; simp only at h; omega
  · have := hs.lt hk; simp only at h; omega
  · rw [show (⟨D, A, S⟩ : Fs).A.st = [] from hst] at hq; cases hq
set_option maxHeartbeats 1000000 in
set_option maxRecDepth 100000 in
theorem flay_nil (width : Int) (w : World) : Calls Try.prog 11 #[.pointer none, .int .i64 width, .slice none 0 0] w fun e w' => e = .returned (.tuple #[fileV 0 0 0 0, .int .i64 1]) ∧ Below w.heap.size w w' := by
  have hb := (Below.refl w.heap.size w).alloc (Nat.le_refl _) (.cells #[.int .i64 0, .int .i64 0, .int .i64 0, .int .i64 0] 30)
  have hr0 : Row (w.alloc (.cells #[.int .i64 0, .int .i64 0, .int .i64 0, .int .i64 0] 30)) w.heap.size 30 [.int .i64 0, .int .i64 0, .int .i64 0, .int .i64 0] := heap_alloc_new _ _
  have HW := Lib.hid (fwrite_nil width 0 (w.alloc (.cells #[.int .i64 0, .int .i64 0, .int .i64 0, .int .i64 0] 30)))
  have HB := Lib.hid hb
  have HR := Lib.hid hr0
  clear hb hr0
  go_enter_defers Try.func11, Try.ntmps11
  go_wp2_with fail
  refine HW.out.mono ?_
  rintro e w1 ⟨rfl, hb1⟩
  have HR1 := Lib.hid (HR.out.below hb1 HR.out.lt)
  have HB1 := Lib.hid (HB.out.trans (hb1.mono HB.out.size))
  clear hb1 HB HR HW
  have z0 : w1.cell? ⟨w.heap.size, 0, none⟩ = some (.int .i64 0) := HR1.out.cell 0
  have z1 : w1.cell? ⟨w.heap.size, 1, none⟩ = some (.int .i64 0) := HR1.out.cell 1
  have z2 : w1.cell? ⟨w.heap.size, 2, none⟩ = some (.int .i64 0) := HR1.out.cell 2
  have z3 : w1.cell? ⟨w.heap.size, 3, none⟩ = some (.int .i64 0) := HR1.out.cell 3
  have f0 := HR1.out.free 0
  have f1 := HR1.out.free 1
  have f2 := HR1.out.free 2
  have f3 := HR1.out.free 3
  have HR9 : Hid (Row ((((w1.setCell ⟨w.heap.size, 0, none⟩ (.int .i64 0)).setCell ⟨w.heap.size, 1, none⟩ (.int .i64 0)).setCell ⟨w.heap.size, 2, none⟩ (.int .i64 0)).setCell ⟨w.heap.size, 3, none⟩ (.int .i64 0)) w.heap.size 30 [.int .i64 0, .int .i64 0, .int .i64 0, .int .i64 0]) := (((HR1.out.set 0 (.int .i64 0)).set 1 (.int .i64 0)).set 2 (.int .i64 0)).set 3 (.int .i64 0)
  have HF9 := Lib.hid (Far.four w1 w.heap.size (.int .i64 0) (.int .i64 0) (.int .i64 0) (.int .i64 0))
  go_wp2
  have r0 := HR9.out.cell 0
  have r1 := HR9.out.cell 1
  have r2 := HR9.out.cell 2
  have r3 := HR9.out.cell 3
  simp only [List.getElem?_cons_zero, List.getElem?_cons_succ] at r0 r1 r2 r3
  exact ⟨.tuple #[.agg #[.int .i64 0, .int .i64 0, .int .i64 0, .int .i64 0], .int .i64 1], by simp [results, Try.results11, go_sem, r0, r1, r2, r3], rfl, HB1.out.trans (HF9.out.below HB1.out.size fun b hb => by rw [hb]; exact Nat.le_refl _)⟩
set_option maxHeartbeats 1000000 in
set_option maxRecDepth 100000 in
theorem flist_nil (a b c d : Int) (w : World) : Calls Try.prog 19 #[.pointer none, .agg #[.int .i64 a, .int .i64 b, .int .i64 c, .int .i64 d]] w fun e w' => e = .returned (.tuple #[.slice none 0 0, .int .i64 1]) ∧ Below w.heap.size w w' := by
  have hb := (Below.refl w.heap.size w).alloc (Nat.le_refl _) (.cells #[.int .i64 a, .int .i64 b, .int .i64 c, .int .i64 d] 30)
  have hr0 : Row (w.alloc (.cells #[.int .i64 a, .int .i64 b, .int .i64 c, .int .i64 d] 30)) w.heap.size 30 [.int .i64 a, .int .i64 b, .int .i64 c, .int .i64 d] := heap_alloc_new _ _
  have c0 := hr0.cell 0
  have c1 := hr0.cell 1
  have c2 := hr0.cell 2
  have c3 := hr0.cell 3
  simp only [List.getElem?_cons_zero, List.getElem?_cons_succ] at c0 c1 c2 c3
  have HW := Lib.hid (fread_nil a b c d (w.alloc (.cells #[.int .i64 a, .int .i64 b, .int .i64 c, .int .i64 d] 30)))
  have HB := Lib.hid hb
  clear hb hr0
  go_enter_defers Try.func19, Try.ntmps19
  go_wp2_with fail
  refine HW.out.mono ?_
  rintro e w1 ⟨rfl, hb1⟩
  have HB1 := Lib.hid (HB.out.trans (hb1.mono HB.out.size))
  clear hb1 HB HW
  go_wp2
  exact ⟨.tuple #[.slice none 0 0, .int .i64 1], by simp [results, Try.results19, go_sem], rfl, HB1.out⟩
set_option maxRecDepth 100000 in
theorem ffree_nil (a b c d : Int) (w : World) : Calls Try.prog 22 #[.pointer none, .agg #[.int .i64 a, .int .i64 b, .int .i64 c, .int .i64 d]] w fun e w' => e = .returned (.int .i64 1) ∧ Below w.heap.size w w' := by
  have HB := Lib.hid ((Below.refl w.heap.size w).alloc (Nat.le_refl _) (.cells #[.int .i64 a, .int .i64 b, .int .i64 c, .int .i64 d] 30))
  go_enter Try.func22, Try.ntmps22
  go_wp2
  go_ret
  exact ⟨rfl, HB.out⟩
/-- the space gives -/
theorem sys_give {w : World} {G : Nat → Prop} {p : Wp} {F : Fs} {n : Nat} (h : Sys w G p F n) (f m : Nat) (hf : f ≤ 100000000) (hm : m ≤ 100000000) :
    Calls Try.prog 42 #[.pointer (some ⟨p.s, 0, none⟩), .int .i64 f, .int .i64 m] w fun e w' => e = .returned (.int .i64 ((giveS F.S f m).2 : Nat)) ∧ SysTo w G p { F with S := (giveS F.S f m).1 } n w' := by
  obtain ⟨Gs, hs, hback⟩ := h.spc
  exact (give_any p.s F.S Gs f m w hs (I64.of (by omega) (by omega)) (I64.of (by omega) (by omega))).mono fun e w' ⟨he, h1⟩ => ⟨he, hback _ _ h1⟩
set_option maxHeartbeats 1000000 in
set_option maxRecDepth 100000 in
theorem ffree_any {w : World} {G : Nat → Prop} {p : Wp} {F : Fs} {n : Nat} (h : Sys w G p F n) (f m k c : Nat) (hf : f ≤ 100000000) (hm : m ≤ 100000000) :
    Calls Try.prog 22 #[.pointer (some ⟨p.w, 0, none⟩), .agg #[.int .i64 f, .int .i64 m, .int .i64 k, .int .i64 c]] w fun e w' => e = .returned (.int .i64 (if m = 0 then 0 else (giveS F.S f m).2 : Nat)) ∧ SysTo w G p { F with S := giveN F.S f m } n w' := by
  have hb := (Below.refl w.heap.size w).alloc (Nat.le_refl _) (.cells #[.int .i64 f, .int .i64 m, .int .i64 k, .int .i64 c] 30)
  have hr0 : Row (w.alloc (.cells #[.int .i64 f, .int .i64 m, .int .i64 k, .int .i64 c] 30)) w.heap.size 30 [.int .i64 f, .int .i64 m, .int .i64 k, .int .i64 c] := heap_alloc_new _ _
  by_cases hm0 : m = 0
  · subst hm0
    have c1 : (w.alloc (.cells #[.int .i64 f, .int .i64 (0 : Nat), .int .i64 k, .int .i64 c] 30)).cell? ⟨w.heap.size, 1, none⟩ = some (.int .i64 (0 : Nat)) := hr0.cell 1
    have HP : Hid (SysTo w G p { F with S := giveN F.S f 0 } n (w.alloc (.cells #[.int .i64 f, .int .i64 (0 : Nat), .int .i64 k, .int .i64 c] 30))) := SysTo.of_below h hb
    clear hr0 hb h
    generalize SysTo w G p { F with S := giveN F.S f 0 } n = POST at *
    go_enter Try.func22, Try.ntmps22
    go_wp2
    go_ret
    exact ⟨rfl, HP.out⟩
  · have HB := Lib.hid hb
    have HG1 : Hid (Calls Try.prog 42 #[.pointer (some ⟨p.s, 0, none⟩), .int .i64 f, .int .i64 m] (w.alloc (.cells #[.int .i64 f, .int .i64 m, .int .i64 k, .int .i64 c] 30)).drew fun e w' => e = .returned (.int .i64 ((giveS F.S f m).2 : Nat)) ∧ SysTo w G p { F with S := giveN F.S f m } n w' ∧ (w'.cell? ⟨w.heap.size, 0, none⟩ = some (.int .i64 f) ∧ w'.cell? ⟨w.heap.size, 1, none⟩ = some (.int .i64 m) ∧ w'.cell? ⟨p.w, 2, none⟩ = some (.pointer (some ⟨p.s, 0, none⟩)))) := by
      have e : giveN F.S f m = (giveS F.S f m).1 := by unfold giveN; rw [if_neg hm0]
      rw [e]
      exact (sys_give (h.below (below_drew hb)) f m hf hm).mono fun e w' ⟨h1, h2⟩ => by
        have hr := h2.row (hr0.drewN 1) (fun hg => by have := h.lt hg; omega)
        exact ⟨h1, h2.behind (below_drew hb), hr.cell 0, hr.cell 1, h2.cell.2.2⟩
    have c0 : (w.alloc (.cells #[.int .i64 f, .int .i64 m, .int .i64 k, .int .i64 c] 30)).drew.cell? ⟨w.heap.size, 0, none⟩ = some (.int .i64 f) := hr0.cell 0
    have c1 : (w.alloc (.cells #[.int .i64 f, .int .i64 m, .int .i64 k, .int .i64 c] 30)).cell? ⟨w.heap.size, 1, none⟩ = some (.int .i64 m) := hr0.cell 1
    have d1 : (w.alloc (.cells #[.int .i64 f, .int .i64 m, .int .i64 k, .int .i64 c] 30)).drew.cell? ⟨w.heap.size, 1, none⟩ = some (.int .i64 m) := hr0.cell 1
    have c2 : (w.alloc (.cells #[.int .i64 f, .int .i64 m, .int .i64 k, .int .i64 c] 30)).drew.cell? ⟨p.w, 2, none⟩ = some (.pointer (some ⟨p.s, 0, none⟩)) := (h.below hb).row.cell 2
    have g1 : ((m : Int) == 0) = false := by simp; omega
    rw [if_neg hm0]
    clear hr0 hb h
    generalize SysTo w G p { F with S := giveN F.S f m } n = POST at *
    generalize (giveS F.S f m).2 = er at *
    go_enter Try.func22, Try.ntmps22
    go_wp2
    go_region_held3 (fun w' => w'.cell? ⟨w.heap.size, 0, none⟩ = some (.int .i64 f) ∧ w'.cell? ⟨w.heap.size, 1, none⟩ = some (.int .i64 m) ∧ w'.cell? ⟨p.w, 2, none⟩ = some (.pointer (some ⟨p.s, 0, none⟩))) (first | with_reducible exact ⟨c0, d1, c2⟩ | with_reducible exact q2)
      (first
        | (go_at_call 42; (with_reducible refine HG1.out.mono ?_); rintro e w2 ⟨rfl, h2, q2⟩))
    have H2 := Lib.hid h2
    clear h2 q2
    go_wp2
    go_ret
    exact ⟨rfl, H2.out⟩
/-- the law's places -/
def PlaceOk (size blocks room : Int) : Prop := (8 ≤ size ∧ size ≤ 256) ∧ (0 ≤ blocks ∧ blocks ≤ 5000) ∧ room ≤ 100000
def placeF (size blocks room : Int) : Fs := ⟨fresh size.toNat blocks, empty room.toNat, newSp 0 blocks.toNat⟩
set_option maxHeartbeats 2000000 in
set_option maxRecDepth 100000 in
theorem work_any (size blocks room : Int) (w : World) (h0 : I64 size) (h1 : I64 blocks) (h2 : I64 room) : Calls Try.prog 9 #[.agg #[.int .i64 size, .int .i64 blocks, .int .i64 room]] w fun e w' =>
    (¬ PlaceOk size blocks room ∧ e = .returned (.tuple #[.pointer none, .bool false]) ∧ Below w.heap.size w w') ∨
    (PlaceOk size blocks room ∧ ∃ p G, e = .returned (.tuple #[.pointer (some ⟨p.w, 0, none⟩), .bool true]) ∧ Sys w' G p (placeF size blocks room) 0 ∧ (∀ k, G k → w.heap.size ≤ k) ∧ Below w.heap.size w w') := by
  have hr0 : Row (w.alloc (.cells #[.int .i64 size, .int .i64 blocks, .int .i64 room] 23)) w.heap.size 23 [.int .i64 size, .int .i64 blocks, .int .i64 room] := heap_alloc_new _ _
  have hb0 : Below w.heap.size w (w.alloc (.cells #[.int .i64 size, .int .i64 blocks, .int .i64 room] 23)) := (Below.refl w.heap.size w).alloc (Nat.le_refl _) _
  by_cases hn : 8 ≤ size ∧ size ≤ 256 ∧ 0 ≤ blocks ∧ blocks ≤ 1000000
  · obtain ⟨n, rfl⟩ : ∃ n : Nat, size = (n : Int) := ⟨size.toNat, by omega⟩
    have HN := Lib.hid (new_any n blocks (w.alloc (.cells #[.int .i64 n, .int .i64 blocks, .int .i64 room] 23)) (by omega) ⟨hn.2.2.1, hn.2.2.2⟩)
    have HR0 := Lib.hid hr0
    have HB0 := Lib.hid hb0
    have c0 := hr0.cell 0
    have c1 := hr0.cell 1
    simp only [List.getElem?_cons_zero, List.getElem?_cons_succ] at c0 c1
    clear hr0 hb0
    by_cases hp : PlaceOk n blocks room
    · have HP := Lib.hid hp
      obtain ⟨p1, p2, p3⟩ := hp
      obtain ⟨bn, rfl⟩ : ∃ bn : Nat, blocks = (bn : Int) := ⟨blocks.toNat, by omega⟩
      have hrb := h2.bounds
      have HAN : Hid (∀ W, Calls Try.prog 39 #[.int .i64 room] W fun e w' => e = .returned (.pointer (some ⟨W.heap.size, 0, none⟩)) ∧ Arn w' (fun k => k = W.heap.size) W.heap.size (empty room.toNat) ∧ Below W.heap.size W w') := fun W => arnew_any room W hrb.1 (by omega)
      have HSN : Hid (∀ W, Calls Try.prog 40 #[.int .i64 0, .int .i64 bn] W fun e w' => ∃ p G, e = .returned (.pointer (some ⟨p, 0, none⟩)) ∧ Spc w' G p (newSp 0 bn) ∧ (∀ k, G k → W.heap.size ≤ k) ∧ Below W.heap.size W w') := fun W => spnew_any 0 bn W (by omega) (by omega)
      have HFN : Hid (∀ W d a s, Calls Try.prog 37 #[.pointer (some ⟨d, 0, none⟩), .pointer (some ⟨a, 0, none⟩), .pointer (some ⟨s, 0, none⟩)] W fun e w' => e = .returned (.pointer (some ⟨W.heap.size, 0, none⟩)) ∧ w' = W.alloc (.cells #[ptr d, ptr a, ptr s] 96)) := fun W d a s => fnew_any d a s W
      have g3 : decide (room > 100000) = false := by simp; omega
      have g4 : decide ((bn : Int) > 5000) = false := by simp; omega
      clear hn p1 p2 p3 hrb h0 h1 h2
      go_enter Try.func9, Try.ntmps9
      go_wp2_with fail
      refine HN.out.mono ?_
      rintro e w1 ⟨d, Gd, rfl, hd, hgd, hb1⟩
      have HD := Lib.hid hd
      have HGD := Lib.hid hgd
      have HB1 := Lib.hid hb1
      have hr1 := HR0.out.below hb1 HR0.out.lt
      have d0 : w1.cell? ⟨w.heap.size, 0, none⟩ = some (.int .i64 n) := hr1.cell 0
      have d1 : w1.cell? ⟨w.heap.size, 1, none⟩ = some (.int .i64 bn) := hr1.cell 1
      have d2 : w1.cell? ⟨w.heap.size, 2, none⟩ = some (.int .i64 room) := hr1.cell 2
      have HCC : Hid (∀ W, Below w1.heap.size w1 W → W.cell? ⟨w.heap.size, 1, none⟩ = some (.int .i64 bn) ∧ W.cell? ⟨w.heap.size, 2, none⟩ = some (.int .i64 room)) := fun W hb => by
        have hr := (HR0.out.below hb1 HR0.out.lt)
        have hr2 := hr.below hb hr.lt
        exact ⟨hr2.cell 1, hr2.cell 2⟩
      have e1 := HCC.out w1.drew (below_drew (Below.refl _ _))
      clear hd hgd hb1 hr1 HN
      go_wp2
      go_region_held3 (fun w' => w'.cell? ⟨w.heap.size, 1, none⟩ = some (.int .i64 bn) ∧ w'.cell? ⟨w.heap.size, 2, none⟩ = some (.int .i64 room)) (first | with_reducible exact e1 | with_reducible exact q2 | with_reducible exact q3 | with_reducible exact q4)
        (first
          | (go_at_call 39; (with_reducible refine (HAN.out _).mono ?_); rintro e w2 ⟨rfl, ha, hb2⟩; have hb12 : Below w1.heap.size w1 w2 := (below_drew (Below.refl _ _)).trans hb2; have q2 := HCC.out w2 hb12)
          | (go_at_call 40; (with_reducible refine (HSN.out _).mono ?_); rintro e w3 ⟨s, Gs, rfl, hs, hgs, hb3⟩; have hb13 : Below w1.heap.size w1 w3 := hb12.trans (hb3.mono hb12.size); have q3 := HCC.out w3 hb13)
          | (go_at_call 37; (with_reducible refine (HFN.out _ _ _ _).mono ?_); rintro e w4 ⟨rfl, hw4⟩; have q4 := HCC.out (w3.alloc (.cells #[ptr d, ptr w1.heap.size, ptr s] 96)) (hb13.alloc hb13.size _)))
      have hsy : Sys w4 (fun k => k = w3.heap.size ∨ Gd k ∨ k = w1.heap.size ∨ Gs k) ⟨w3.heap.size, d, w1.heap.size, s⟩ (placeF n bn room) 0 := by
        rw [hw4]
        exact sys_mk HD.out (below_drew (Below.refl _ _) |>.trans hb2) ha (fun k hk => by rw [hk]; exact Nat.le_refl _) rfl hb3 hs (fun k hk => hgs k hk)
      have HSY := Lib.hid hsy
      have hb4 : Below w1.heap.size w1 w4 := by rw [hw4]; exact hb13.alloc hb13.size _
      have HBB := Lib.hid ((HB0.out.trans (HB1.out.mono HB0.out.size)).trans (hb4.mono (Nat.le_trans HB0.out.size HB1.out.size)))
      have HGA : Hid (∀ k, (k = w3.heap.size ∨ Gd k ∨ k = w1.heap.size ∨ Gs k) → w.heap.size ≤ k) := by
        have z1 := HB0.out.size
        have z2 := HB1.out.size
        have z3 := hb13.size
        have z4 := hb12.size
        rintro k (rfl | h | rfl | h)
        · omega
        · exact Nat.le_trans z1 (HGD.out k h)
        · omega
        · have := hgs k h; omega
      subst hw4
      clear hsy ha hs hgs hb2 hb3 hb4 hb12 hb13 q2 q3 q4
      go_wp2
      go_ret2
      exact .inr ⟨HP.out, ⟨w3.heap.size, d, w1.heap.size, s⟩, _, rfl, HSY.out, HGA.out, HBB.out⟩
    · have HP := Lib.hid hp
      by_cases h3 : room > 100000
      · have g3 : decide (room > 100000) = true := by simp; omega
        clear hn h0 h1 h2 hp
        go_enter Try.func9, Try.ntmps9
        go_wp2_with fail
        refine HN.out.mono ?_
        rintro e w1 ⟨d, Gd, rfl, hd, hgd, hb1⟩
        have hr1 := HR0.out.below hb1 HR0.out.lt
        have d0 : w1.cell? ⟨w.heap.size, 0, none⟩ = some (.int .i64 n) := hr1.cell 0
        have d1 : w1.cell? ⟨w.heap.size, 1, none⟩ = some (.int .i64 blocks) := hr1.cell 1
        have d2 : w1.cell? ⟨w.heap.size, 2, none⟩ = some (.int .i64 room) := hr1.cell 2
        have HBB := Lib.hid (HB0.out.trans (hb1.mono HB0.out.size))
        clear hd hgd hb1 hr1 HN
        go_wp2
        go_ret2
        exact .inl ⟨HP.out, rfl, HBB.out⟩
      · have g3 : decide (room > 100000) = false := by simp; omega
        have g4 : decide (blocks > 5000) = true := by
          have : ¬ blocks ≤ 5000 := fun h => hp ⟨⟨hn.1, hn.2.1⟩, ⟨hn.2.2.1, h⟩, by omega⟩
          simp; omega
        clear hn h0 h1 h2 hp
        go_enter Try.func9, Try.ntmps9
        go_wp2_with fail
        refine HN.out.mono ?_
        rintro e w1 ⟨d, Gd, rfl, hd, hgd, hb1⟩
        have hr1 := HR0.out.below hb1 HR0.out.lt
        have d0 : w1.cell? ⟨w.heap.size, 0, none⟩ = some (.int .i64 n) := hr1.cell 0
        have d1 : w1.cell? ⟨w.heap.size, 1, none⟩ = some (.int .i64 blocks) := hr1.cell 1
        have d2 : w1.cell? ⟨w.heap.size, 2, none⟩ = some (.int .i64 room) := hr1.cell 2
        have HBB := Lib.hid (HB0.out.trans (hb1.mono HB0.out.size))
        clear hd hgd hb1 hr1 HN
        go_wp2
        go_ret2
        exact .inl ⟨HP.out, rfl, HBB.out⟩
  · have HN := Lib.hid (dnew_no size blocks (w.alloc (.cells #[.int .i64 size, .int .i64 blocks, .int .i64 room] 23)) hn)
    have HP : Hid (¬ PlaceOk size blocks room) := fun h => hn ⟨h.1.1, h.1.2, h.2.1.1, by have := h.2.1.2; omega⟩
    have c0 := hr0.cell 0
    have c1 := hr0.cell 1
    simp only [List.getElem?_cons_zero, List.getElem?_cons_succ] at c0 c1
    have HB0 := Lib.hid hb0
    clear hr0 hb0 hn h0 h1 h2
    go_enter Try.func9, Try.ntmps9
    go_wp2_with fail
    refine HN.out.mono ?_
    rintro e w1 ⟨rfl, rfl⟩
    go_wp2
    go_ret2
    exact .inl ⟨HP.out, rfl, HB0.out⟩
theorem taken_range {S S1 : Sp} {a m : Nat} (h : S.ok) (ht : Taken S S1 a m) {b : Int} (hb : ((S.first + S.blocks : Nat) : Int) ≤ b) : ((a + m : Nat) : Int) ≤ b := by
  rcases taken_in h ht with h1 | ⟨rfl, rfl⟩ <;> omega
theorem dead_calm {w w' : World} {G : Nat → Prop} {p : Wp} {F : Fs} {n : Nat} {t : Wt} {l : List Tup} {er : Int} (h : LayDead w G p F n t l er w') (hc : Calm F.D) (hin : ((t.first + t.blocks : Nat) : Int) ≤ F.D.blocks) : False := by
  obtain ⟨hne, D1, m, i, ws, h1, h2, h3, h4, _⟩ := h
  rw [h2, write_ok (h1.calm hc) (h3 hin) h4] at hne
  exact hne rfl
theorem dead_alive {w w' : World} {G : Nat → Prop} {p : Wp} {F : Fs} {n : Nat} {t : Wt} {l : List Tup} {er : Int} (h : LayDead w G p F n t l er w') (hc : F.D.down = false ∧ F.D.fb = false) (hin : ((t.first + t.blocks : Nat) : Int) ≤ F.D.blocks) : er = 6 := by
  obtain ⟨hne, D1, m, i, ws, h1, h2, h3, h4, _⟩ := h
  rw [h2] at hne ⊢
  exact write_code (h1.alive hc) (h3 hin) h4 hne
theorem readsT_one {W : World} {b : Nat} {t : Tup} (h : Row W b 58 (tupC t)) (ht : TupOk t) : ReadsT W W.heap.size (some ⟨b, 0, none⟩) 1 [t] := by
  refine ⟨rfl, by simpa using ht, fun _ => ⟨b, 0, rfl, h.lt, fun i hi j u hj => ?_⟩⟩
  obtain rfl : i = 0 := by omega
  have := h.cell (0 + 0 * 5 + j)
  rw [this, show 0 + 0 * 5 + j = j by omega]; exact hj
theorem placeF_range (size blocks room : Int) (h : 0 ≤ blocks) : (((placeF size blocks room).S.first + (placeF size blocks room).S.blocks : Nat) : Int) ≤ (placeF size blocks room).D.blocks := by
  show ((0 + blocks.toNat : Nat) : Int) ≤ blocks
  omega
theorem small_ok {t : Tup} (h : ∀ x ∈ t.cols, 0 ≤ x ∧ x ≤ 1000) : TupOk t := fun x hx => I64.of (by have := h x hx; omega) (by have := h x hx; omega)
theorem newsp_room {m n : Nat} (h : m ≤ n) : roomB (newSp 0 n) 0 m := by
  intro b _ hb
  unfold newSp
  simp only
  rw [if_neg (by omega)]
  exact ⟨(0, n), by simp, by simp, by simp; omega⟩
theorem newsp_none {m n k : Nat} (hm : 0 < m) (h : n < m) : ¬ roomB (newSp 0 n) k m := by
  intro hr
  obtain ⟨x, hx, h1, h2⟩ := hr (k + m - 1) (by omega) (by omega)
  unfold newSp at hx
  simp only at hx
  split at hx
  · cases hx
  · simp only [List.mem_singleton] at hx; subst hx
    simp only at h1 h2
    omega
/-- Lay with nothing in its way -/
theorem lay_good {w w' : World} {G : Nat → Prop} {p : Wp} {F : Fs} {n : Nat} {width : Int} {l : List Tup} {e : Ending} (h : LayTo w G p F n width l e w') (hsok : F.S.ok) (hc : Calm F.D) (hin : ((F.S.first + F.S.blocks : Nat) : Int) ≤ F.D.blocks) (ha : WArgs F width (l.length : Int)) (hroom : F.D.size ≤ F.A.room - F.A.used)
    (hsp : ∃ k, roomB F.S k (blocksN (holdsI F.D.size width) l.length)) (hfit : ∀ k : Nat, (k : Int) = width → ∀ u ∈ l, fitsT k u = true) :
    ∃ t S1, e = .returned (.tuple #[fileV t.first t.blocks t.k l.length, .int .i64 0]) ∧ LayDone w G p F n t S1 l w' ∧ (t.k : Int) = width ∧ t.h = holdsI F.D.size width ∧ t.blocks = blocksN t.h l.length ∧ Taken F.S S1 t.first t.blocks ∧ t.first ≤ 2000000 ∧ ∀ q ∈ F.A.st, q.1 ≠ t.b := by
  rcases h with ⟨er, _, (⟨_, h1⟩ | ⟨_, _, h1⟩ | ⟨_, _, _, _, h1⟩), _⟩ | ⟨t, S1, ⟨_, _, h3, h4, h5, h6, h7, h8⟩, ⟨er, _, _, ⟨u, hu, hf⟩, _⟩ | ⟨er, _, hd⟩ | ⟨he, hd⟩⟩
  · exact absurd ha h1
  · omega
  · obtain ⟨k, hk⟩ := hsp
    exact absurd hk (h1 k)
  · rw [hfit t.k h3 u hu] at hf; cases hf
  · exact (dead_calm hd hc (taken_range hsok h6 hin)).elim
  · exact ⟨t, S1, he, hd, h3, h4, h5, h6, h7, h8⟩
set_option maxHeartbeats 2000000 in
set_option maxRecDepth 100000 in
theorem awake_any (w : World) : Calls Try.prog 10 #[] w fun e w' => e = .returned (.bool true) ∧ Below w.heap.size w w' := by
  have HW := Lib.hid (work_any 8 9 100 w (I64.of (by omega) (by omega)) (I64.of (by omega) (by omega)) (I64.of (by omega) (by omega)))
  have HP : Hid (PlaceOk 8 9 100) := ⟨by omega, by omega, by omega⟩
  go_enter Try.func10, Try.ntmps10
  go_wp2_with fail
  refine HW.out.mono ?_
  rintro e w1 (⟨hno, _⟩ | ⟨_, p, G, rfl, hs, hG, hb⟩)
  · exact absurd HP.out hno
  have HS := Lib.hid hs
  have HG := Lib.hid hG
  have HB := Lib.hid hb
  have HH : Hid (Calls Try.prog 30 #[.pointer (some ⟨p.w, 0, none⟩), .int .i64 2] w1 fun e w' => e = .returned (.int .i64 3) ∧ w' = w1) := hol_any hs 2
  clear hs hG hb HW HP
  go_wp2_with fail
  refine HH.out.mono ?_
  rintro e w2 ⟨rfl, rfl⟩
  have hbt : Below w2.heap.size w2 (w2.alloc (.cells #[.int .i64 1, .int .i64 2, .int .i64 0, .int .i64 0, .int .i64 0] 58)) := (Below.refl _ _).alloc (Nat.le_refl _) _
  have hrt : Row (w2.alloc (.cells #[.int .i64 1, .int .i64 2, .int .i64 0, .int .i64 0, .int .i64 0] 58)) w2.heap.size 58 (tupC ⟨1, 2, 0, 0, 0⟩) := heap_alloc_new _ _
  have hok : TupOk ⟨1, 2, 0, 0, 0⟩ := small_ok (by simp [Tup.cols])
  have HL := Lib.hid (flay_any (HS.out.below hbt) 2 (c := 1) (readsT_one hrt hok) (fun _ b off e hg => by
    injection e with e; injection e with e _
    subst e
    exact Nat.lt_irrefl _ (HS.out.lt hg)) (by simp))
  have HFB := Lib.hid (HB.out.trans (hbt.mono HB.out.size))
  have HLG : Hid (Calls Try.prog 11 #[.pointer (some ⟨p.w, 0, none⟩), .int .i64 2, .slice (some ⟨w2.heap.size, 0, none⟩) 1 1] (w2.alloc (.cells #[.int .i64 1, .int .i64 2, .int .i64 0, .int .i64 0, .int .i64 0] 58)) fun e w' => ∃ f : Nat, e = .returned (.tuple #[.agg #[.int .i64 f, .int .i64 1, .int .i64 2, .int .i64 1], .int .i64 0]) ∧ Below w.heap.size w w') := by
    refine HL.out.mono ?_
    intro e w' hl
    obtain ⟨t, S1, rfl, ⟨_, D', _, _, hs'⟩, h3, h4, h5, _⟩ := lay_good hl HS.out.sok (fresh_calm _ _) (placeF_range 8 9 100 (by omega)) ⟨by show (holdsI 8 2 : Nat) ≠ 0; decide, by simp, by simp⟩ (by show 8 ≤ 100 - 0; omega) ⟨0, newsp_room (by show blocksN (holdsI 8 2) 1 ≤ 9; decide)⟩ (by
      intro k hk u hu
      obtain rfl : k = 2 := by omega
      simp at hu; subst hu; rfl)
    have e4 : t.h = 3 := h4
    have e5 : t.blocks = 1 := by rw [h5, e4]; rfl
    have e3 : t.k = 2 := by omega
    refine ⟨t.first, by rw [e5, e3]; rfl, ?_⟩
    obtain ⟨G', k1, k2, _⟩ := hs'
    refine HFB.out.trans ?_
    exact k2.below (by have := HFB.out.size; exact this) fun k hk => HG.out k hk
  clear hbt hrt hok HH HL HFB HS HG
  go_wp2_with fail
  refine HLG.out.mono ?_
  rintro e w5 ⟨f, rfl, hb5⟩
  have HB5 : Hid (Below w.heap.size w (w5.alloc (.cells #[.int .i64 f, .int .i64 1, .int .i64 2, .int .i64 1] 30))) := hb5.alloc hb5.size _
  clear hb5 HLG
  go_wp2
  go_ret
  exact ⟨rfl, HB5.out⟩
end Go.Proofs.Ytbkgpilmgllkiaa
