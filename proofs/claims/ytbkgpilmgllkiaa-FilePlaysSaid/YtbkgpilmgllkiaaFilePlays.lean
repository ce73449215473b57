/-
  FilePlays: whatever place and acts; no condition.
-/
import Derived.Test.YtbkgpilmgllkiaaRows
import Derived.Test.YtbkgpilmgllkiaaFilePlayM
import Derived.WalkKit
import Derived.ProofKit
import Derived.OpenShut
import Derived.ShutString
import Derived.ChangeOld
import Derived.Below
namespace Go.Proofs.Ytbkgpilmgllkiaa.filePlays
open Go.ChangeShapes Go.WideShapes Go.ChangeAt Go.RowKit
open Go.ChangeMaps (open_string shut_string)
set_option linter.unusedVariables false

theorem own : ownKnob Try.prog.godebug = none := by kernel_rfl
theorem laidOut : laidOutB Try.prog = true := by kernel_rfl

/-- i acts were done -/
def LpF (w0 : World) (p : Wp) (sb sz : Nat) (bl : Int) (i : Nat) (W : World) : Prop := ∃ n ws fs rs, n ≤ i ∧ ws.length ≤ i ∧ fs.length ≤ i ∧ rs.length ≤ i ∧ Play w0 p sb n sz bl ws fs rs W
theorem lpF_next {w0 W W' : World} {p : Wp} {sb sz : Nat} {bl : Int} {i n : Nat} {ws : List Pw} {fs : List Pf} {rs : List Pr} (h : n ≤ i ∧ ws.length ≤ i ∧ fs.length ≤ i ∧ rs.length ≤ i) (ha : After w0 p sb n sz bl ws fs rs W') : LpF w0 p sb sz bl (i + 1) W' := by
  obtain ⟨n', ws', fs', rs', h1, h2, h3, h4, h5⟩ := ha
  exact ⟨n', ws', fs', rs', by omega, by omega, by omega, by omega, h5⟩
theorem LpF.bel {w0 W : World} {p : Wp} {sb sz : Nat} {bl : Int} {i : Nat} (h : LpF w0 p sb sz bl i W) : Below w0.heap.size w0 W := by
  obtain ⟨_, _, _, _, _, _, _, _, ⟨F, G, V, hm, _⟩, _⟩ := h
  exact hm.bel


set_option maxHeartbeats 4000000 in
set_option maxRecDepth 100000 in
theorem walk (x0 x1 x2 : Int) (a1 : Option Addr) (len1 cap1 : Nat) (l1 : List Opx) (w : World) (y0 : I64 x0) (y1 : I64 x1) (y2 : I64 x2) (wr1 : ReadsO w w.heap.size a1 len1 l1) (wm1 : len1 ≤ maxLen) :
    Calls Try.prog 4 #[.agg #[.int .i64 x0, .int .i64 x1, .int .i64 x2], .slice a1 len1 cap1] w fun e w' => e = .returned (.bool true) ∧ Below w.heap.size w w' := by
  have HAWK : Hid (∀ W, Calls Try.prog 10 #[] W fun e w' => e = .returned (.bool true) ∧ Below W.heap.size W w') := fun W => awake_any W
  have hbp : Below w.heap.size w (w.alloc (.cells #[.int .i64 x0, .int .i64 x1, .int .i64 x2] 23)) := (Below.refl _ _).alloc (Nat.le_refl _) _
  have hrp : Row (w.alloc (.cells #[.int .i64 x0, .int .i64 x1, .int .i64 x2] 23)) w.heap.size 23 [.int .i64 x0, .int .i64 x1, .int .i64 x2] := heap_alloc_new _ _
  have c0 := hrp.cell 0
  have c1 := hrp.cell 1
  have c2 := hrp.cell 2
  simp only [List.getElem?_cons_zero, List.getElem?_cons_succ] at c0 c1 c2
  have HWK := Lib.hid (work_any x0 x1 x2 (w.alloc (.cells #[.int .i64 x0, .int .i64 x1, .int .i64 x2] 23)) y0 y1 y2)
  have HBP := Lib.hid hbp
  have HRP := Lib.hid hrp
  have HLR := Lib.hid wr1
  have hm1 : len1 ≤ 9223372036854775807 := by unfold maxLen at wm1; omega
  clear hbp hrp y0 y1 y2 wr1 wm1
  go_enter Try.func4, Try.ntmps4
  go_wp2_with fail
  refine HWK.out.mono ?_
  rintro e w2 (⟨hno, rfl, hb⟩ | ⟨hpl, p, G, rfl, hs, hG, hb⟩)
  · have HB2 := Lib.hid (HBP.out.trans (hb.mono HBP.out.size))
    clear hno hb HWK c0 c1 c2
    go_wp2_with fail
    refine (HAWK.out _).mono ?_; rintro e w3 ⟨rfl, hb⟩
    have HB3 := Lib.hid (HB2.out.trans (hb.mono HB2.out.size))
    clear hb
    go_wp2_with fail
    refine (HAWK.out _).mono ?_; rintro e w4 ⟨rfl, hb⟩
    have HB4 := Lib.hid (HB3.out.trans (hb.mono HB3.out.size))
    clear hb
    go_wp2
    go_ret
    exact ⟨rfl, HB4.out⟩
  · obtain ⟨n, rfl⟩ : ∃ n : Nat, x0 = (n : Int) := ⟨x0.toNat, by have := hpl.1.1; omega⟩
    obtain ⟨b, rfl⟩ : ∃ b : Nat, x1 = (b : Int) := ⟨x1.toNat, by have := hpl.2.1.1; omega⟩
    generalize x2 = room at *
    have hn8 : 8 ≤ n ∧ n ≤ 256 := by have := hpl.1; omega
    have Hn8 := Lib.hid hn8
    have Hhs := Lib.hid hs
    have HhG := Lib.hid hG
    have Hhb := Lib.hid hb
    clear hpl hs hG hb HWK c0 c1 c2
    go_wp2_with fail
    refine (HAWK.out _).mono ?_; rintro e w3 ⟨rfl, hb⟩
    have Hb3 := Lib.hid hb
    have HB3 := Lib.hid ((HBP.out.trans (Hhb.out.mono HBP.out.size)).trans (hb.mono (HBP.out.trans (Hhb.out.mono HBP.out.size)).size))
    clear hb
    by_cases h80 : len1 ≤ 80
    case neg =>
      have g5 : decide ((len1 : Int) > 80) = true := by simp; omega
      go_wp2_with fail
      refine (HAWK.out _).mono ?_; rintro e w4 ⟨rfl, hb⟩
      have HB4 := Lib.hid (HB3.out.trans (hb.mono HB3.out.size))
      clear hb
      go_wp2
      go_ret
      exact ⟨rfl, HB4.out⟩
    case pos =>
    have g5 : decide ((len1 : Int) > 80) = false := by simp; omega
    have HP0 : Hid (LpF (w.alloc (.cells #[.int .i64 n, .int .i64 b, .int .i64 room] 23)) p w3.heap.size n b 0 (w3.alloc (.cells #[.pointer (some ⟨p.w, 0, none⟩), .slice none 0 0, .slice none 0 0, .slice none 0 0, .slice none 0 0, .slice none 0 0, .slice none 0 0, .slice none 0 0, .slice none 0 0, .slice none 0 0, .slice none 0 0, .slice none 0 0, .slice none 0 0] 56))) :=
      ⟨0, [], [], [], Nat.le_refl _, Nat.le_refl _, Nat.le_refl _, Nat.le_refl _, play_start (F := placeF n b room) (Hhs.out.below Hb3.out) HhG.out (Hhb.out.trans (Hb3.out.mono Hhb.out.size)) (fresh_calm _ _) rfl rfl ⟨rfl, rfl⟩ rfl⟩
    have KS : Hid (∀ W, Below (w.alloc (.cells #[.int .i64 n, .int .i64 b, .int .i64 room] 23)).heap.size (w.alloc (.cells #[.int .i64 n, .int .i64 b, .int .i64 room] 23)) W → W.cell? ⟨w.heap.size, 0, none⟩ = some (.int .i64 n) ∧ Below w.heap.size w W) := fun W hb => ⟨(hb.cell (p := ⟨w.heap.size, _, none⟩) HRP.out.lt).trans (HRP.out.cell 0), HBP.out.trans (hb.mono HBP.out.size)⟩
    clear Hhs HhG Hhb Hb3 HB3 HBP HRP
    go_wp2_with fail
    generalize w3.alloc (.cells #[.pointer (some ⟨p.w, 0, none⟩), .slice none 0 0, .slice none 0 0, .slice none 0 0, .slice none 0 0, .slice none 0 0, .slice none 0 0, .slice none 0 0, .slice none 0 0, .slice none 0 0, .slice none 0 0, .slice none 0 0, .slice none 0 0] 56) = w4 at *
    generalize w3.heap.size = sb at *
    generalize w.alloc (.cells #[.int .i64 n, .int .i64 b, .int .i64 room] 23) = w0 at *
    go_loopw [8] (fun iv wr => ∃ i : Nat, i ≤ len1 ∧ iv = .int .i64 (i : Int) ∧ Hid (LpF w0 p sb n b i wr)) (fun iv _ => len1 - (intOf iv).toNat)
    case atStart => exact ⟨0, Nat.zero_le _, rfl, HP0.out⟩
    case round =>
      obtain ⟨i, hi, rfl, HL⟩ := hrel
      clear HP0
      by_cases hlt : i < len1
      · have g1 : decide ((i : Int) < (len1 : Int)) = true := by simp; omega
        have i0 : (0 : Int) ≤ (i : Int) := by omega
        have i1 : (i : Int) < (len1 : Int) := by omega
        obtain ⟨bb, off, o, rfl, hbb, ⟨hoz, hok, hot⟩, hcl⟩ := HLR.out.at_ hlt
        obtain ⟨nn, ws, fs, rs, hle⟩ := HL.out
        obtain ⟨h1, h2, h3, h4, hpl⟩ := hle
        have HLE := Lib.hid (And.intro h1 (And.intro h2 (And.intro h3 h4)))
        obtain ⟨oz, ok, owd, obd, ot⟩ := o
        obtain ⟨oa, obx, oc, od, oe⟩ := ot
        simp only at hoz hok hot
        have KC : Hid (∀ W, Below w0.heap.size w0 W → W.cell? ⟨bb, off + i * 9, none⟩ = some (.int .i64 oz) ∧ W.cell? ⟨bb, off + i * 9 + 1, none⟩ = some (.int .i64 ok) ∧ W.cell? ⟨bb, off + i * 9 + 2, none⟩ = some (.int .i64 owd) ∧ W.cell? ⟨bb, off + i * 9 + 3, none⟩ = some (.int .i64 obd) ∧ W.cell? ⟨bb, off + i * 9 + 4, none⟩ = some (.int .i64 oa) ∧ W.cell? ⟨bb, off + i * 9 + 5, none⟩ = some (.int .i64 obx) ∧ W.cell? ⟨bb, off + i * 9 + 6, none⟩ = some (.int .i64 oc) ∧ W.cell? ⟨bb, off + i * 9 + 7, none⟩ = some (.int .i64 od) ∧ W.cell? ⟨bb, off + i * 9 + 8, none⟩ = some (.int .i64 oe) ∧ W.cell? ⟨w.heap.size, 0, none⟩ = some (.int .i64 n)) := fun W hb => by
          obtain ⟨k1, k2⟩ := KS.out W hb
          have hc : ∀ (j : Nat) (u : Value), (opC ⟨oz, ok, owd, obd, ⟨oa, obx, oc, od, oe⟩⟩)[j]? = some u → W.cell? ⟨bb, off + i * 9 + j, none⟩ = some u := fun j u hu => (k2.cell (p := ⟨bb, _, none⟩) hbb).trans (hcl j u hu)
          exact ⟨hc 0 _ rfl, hc 1 _ rfl, hc 2 _ rfl, hc 3 _ rfl, hc 4 _ rfl, hc 5 _ rfl, hc 6 _ rfl, hc 7 _ rfl, hc 8 _ rfl, k1⟩
        have HW : Hid (Calls Try.prog 23 #[.pointer (some ⟨sb, 0, none⟩), .agg #[.int .i64 oz, .int .i64 ok, .int .i64 owd, .int .i64 obd, .int .i64 oa, .int .i64 obx, .int .i64 oc, .int .i64 od, .int .i64 oe], .int .i64 n] wr.drew fun e w' => e = .returned (.bool true) ∧ LpF w0 p sb n b (i + 1) w') := by
          refine (stwrite_any (hpl.below (below_drew (Below.refl _ _))) oz ok owd obd oa obx oc od oe hok hot (by omega) (by omega) (by omega) hn8).mono ?_
          rintro e w' ⟨he, ha⟩
          exact ⟨he, lpF_next (W := wr) HLE.out ha⟩
        have HR : Hid (Calls Try.prog 24 #[.pointer (some ⟨sb, 0, none⟩), .agg #[.int .i64 oz, .int .i64 ok, .int .i64 owd, .int .i64 obd, .int .i64 oa, .int .i64 obx, .int .i64 oc, .int .i64 od, .int .i64 oe]] wr.drew fun e w' => e = .returned (.bool true) ∧ LpF w0 p sb n b (i + 1) w') := by
          refine (stread_any (hpl.below (below_drew (Below.refl _ _))) oz ok owd obd oa obx oc od oe hok (by omega) (by omega) (by omega)).mono ?_
          rintro e w' ⟨he, ha⟩
          exact ⟨he, lpF_next (W := wr) HLE.out ha⟩
        obtain ⟨y0, y1, y2, y3, y4, y5, y6, y7, y8, y9⟩ := KC.out wr.drew (HL.out.bel.trans (below_drew (Below.refl _ _)))
        clear hbb hcl hpl h1 h2 h3 h4 hoz hok hot HL hi hlt HLE
        by_cases hz : oz ≤ 4
        · have gz : decide (oz ≤ 4) = true := by simpa using hz
          have gz2 : decide (oz > 4) = false := by simp; omega
          clear HR
          go_wp2
          refine wp_region_held_drew (S := fun W => W.cell? ⟨bb, off + i * 9, none⟩ = some (.int .i64 oz) ∧ W.cell? ⟨bb, off + i * 9 + 1, none⟩ = some (.int .i64 ok) ∧ W.cell? ⟨bb, off + i * 9 + 2, none⟩ = some (.int .i64 owd) ∧ W.cell? ⟨bb, off + i * 9 + 3, none⟩ = some (.int .i64 obd) ∧ W.cell? ⟨bb, off + i * 9 + 4, none⟩ = some (.int .i64 oa) ∧ W.cell? ⟨bb, off + i * 9 + 5, none⟩ = some (.int .i64 obx) ∧ W.cell? ⟨bb, off + i * 9 + 6, none⟩ = some (.int .i64 oc) ∧ W.cell? ⟨bb, off + i * 9 + 7, none⟩ = some (.int .i64 od) ∧ W.cell? ⟨bb, off + i * 9 + 8, none⟩ = some (.int .i64 oe) ∧ W.cell? ⟨w.heap.size, 0, none⟩ = some (.int .i64 n)) (by kernel_rfl) ⟨y0, y1, y2, y3, y4, y5, y6, y7, y8, y9⟩ (fun hHeld => ?_)
          refine wpAnyH_take (i := 0) (oi := { dst := some 38, op := Op.move (Operand.tmp 1), type := 47, pos := "law.go:185", after := #[], guard := none }) (v := ?_) rfl (by kernel_rfl) (by kernel_rfl) (by kernel_rfl) (fun _ _ _ h => h) (Or.inl ⟨by rfl, ?_⟩) hHeld ?_
          rotate_left
          · (intro w' hSw; (try dsimp only at hSw); go_simp <;> with_reducible rfl)
          try simp only [Act.put, List.setIfInBounds_toArray, List.set_cons_zero, List.set_cons_succ]
          refine wpAnyH_take (i := 1) (oi := { dst := some 39, op := Op.move (Operand.tmp 8), type := 3, pos := "law.go:185", after := #[], guard := none }) (v := ?_) rfl (by kernel_rfl) (by kernel_rfl) (by kernel_rfl) (fun _ _ _ h => h) (Or.inl ⟨by rfl, ?_⟩) hHeld ?_
          rotate_left
          · (intro w' hSw; (try dsimp only at hSw); go_simp <;> with_reducible rfl)
          try simp only [Act.put, List.setIfInBounds_toArray, List.set_cons_zero, List.set_cons_succ]
          refine wpAnyH_take (i := 2) (oi := { dst := some 40, op := Op.indexAddr 47 (Operand.tmp 38) (Operand.tmp 39), type := 0, pos := "law.go:185", after := #[{ on := 0, ground := Ground.data }, { on := 1, ground := Ground.data }], guard := none }) (v := ?_) rfl (by kernel_rfl) (by kernel_rfl) (by kernel_rfl) (fun _ _ _ h => h) (Or.inl ⟨by rfl, ?_⟩) hHeld ?_
          rotate_left
          · (intro w' hSw; (try dsimp only at hSw); go_simp <;> with_reducible rfl)
          try simp only [Act.put, List.setIfInBounds_toArray, List.set_cons_zero, List.set_cons_succ]
          refine wpAnyH_take (i := 3) (oi := { dst := some 41, op := Op.fieldAddr 60 (Operand.tmp 40) 0, type := 0, pos := "law.go:185", after := #[{ on := 2, ground := Ground.data }], guard := none }) (v := ?_) rfl (by kernel_rfl) (by kernel_rfl) (by kernel_rfl) (fun _ _ _ h => h) (Or.inl ⟨by rfl, ?_⟩) hHeld ?_
          rotate_left
          · (intro w' hSw; (try dsimp only at hSw); go_simp <;> with_reducible rfl)
          try simp only [Act.put, List.setIfInBounds_toArray, List.set_cons_zero, List.set_cons_succ]
          refine wpAnyH_take (i := 4) (oi := { dst := some 42, op := Op.load 3 (Operand.tmp 41), type := 3, pos := "law.go:185", after := #[{ on := 3, ground := Ground.data }], guard := none }) (v := ?_) rfl (by kernel_rfl) (by kernel_rfl) (by kernel_rfl) (fun _ _ _ h => h) (Or.inl ⟨by rfl, ?_⟩) hHeld ?_
          rotate_left
          · (intro w' hSw; (try dsimp only at hSw); go_simp <;> with_reducible rfl)
          try simp only [Act.put, List.setIfInBounds_toArray, List.set_cons_zero, List.set_cons_succ]
          refine wpAnyH_take (i := 5) (oi := { dst := some 43, op := Op.binOp BinOp.leq 3 (Operand.tmp 42) (Operand.const (Value.int IntKind.i64 4)) 3, type := 4, pos := "law.go:185", after := #[{ on := 4, ground := Ground.data }], guard := none }) (v := ?_) rfl (by kernel_rfl) (by kernel_rfl) (by kernel_rfl) (fun _ _ _ h => h) (Or.inl ⟨by rfl, ?_⟩) hHeld ?_
          rotate_left
          · (intro w' hSw; (try dsimp only at hSw); go_simp <;> with_reducible rfl)
          try simp only [Act.put, List.setIfInBounds_toArray, List.set_cons_zero, List.set_cons_succ]
          refine wpAnyH_take (i := 6) (oi := { dst := some 44, op := Op.move (Operand.tmp 43), type := 4, pos := "law.go:185", after := #[{ on := 5, ground := Ground.data }], guard := none }) (v := ?_) rfl (by kernel_rfl) (by kernel_rfl) (by kernel_rfl) (fun _ _ _ h => h) (Or.inl ⟨by rfl, ?_⟩) hHeld ?_
          rotate_left
          · (intro w' hSw; (try dsimp only at hSw); go_simp <;> with_reducible rfl)
          try simp only [Act.put, List.setIfInBounds_toArray, List.set_cons_zero, List.set_cons_succ]
          refine wpAnyH_take (i := 7) (oi := { dst := some 45, op := Op.move (Operand.tmp 7), type := 48, pos := "law.go:185", after := #[{ on := 6, ground := Ground.guard }], guard := some (6, true) }) (v := ?_) rfl (by kernel_rfl) (by kernel_rfl) (by kernel_rfl) (fun _ _ _ h => h) (Or.inl ⟨by rfl, ?_⟩) hHeld ?_
          rotate_left
          · (intro w' hSw; (try dsimp only at hSw); go_simp <;> with_reducible rfl)
          try simp only [Act.put, List.setIfInBounds_toArray, List.set_cons_zero, List.set_cons_succ]
          refine wpAnyH_take (i := 8) (oi := { dst := some 46, op := Op.move (Operand.tmp 1), type := 47, pos := "law.go:185", after := #[{ on := 6, ground := Ground.guard }], guard := some (6, true) }) (v := ?_) rfl (by kernel_rfl) (by kernel_rfl) (by kernel_rfl) (fun _ _ _ h => h) (Or.inl ⟨by rfl, ?_⟩) hHeld ?_
          rotate_left
          · (intro w' hSw; (try dsimp only at hSw); go_simp <;> with_reducible rfl)
          try simp only [Act.put, List.setIfInBounds_toArray, List.set_cons_zero, List.set_cons_succ]
          refine wpAnyH_take (i := 9) (oi := { dst := some 47, op := Op.move (Operand.tmp 8), type := 3, pos := "law.go:185", after := #[{ on := 6, ground := Ground.guard }], guard := some (6, true) }) (v := ?_) rfl (by kernel_rfl) (by kernel_rfl) (by kernel_rfl) (fun _ _ _ h => h) (Or.inl ⟨by rfl, ?_⟩) hHeld ?_
          rotate_left
          · (intro w' hSw; (try dsimp only at hSw); go_simp <;> with_reducible rfl)
          try simp only [Act.put, List.setIfInBounds_toArray, List.set_cons_zero, List.set_cons_succ]
          refine wpAnyH_take (i := 10) (oi := { dst := some 48, op := Op.indexAddr 47 (Operand.tmp 46) (Operand.tmp 47), type := 0, pos := "law.go:185", after := #[{ on := 8, ground := Ground.data }, { on := 9, ground := Ground.data }, { on := 6, ground := Ground.guard }], guard := some (6, true) }) (v := ?_) rfl (by kernel_rfl) (by kernel_rfl) (by kernel_rfl) (fun _ _ _ h => h) (Or.inl ⟨by rfl, ?_⟩) hHeld ?_
          rotate_left
          · (intro w' hSw; (try dsimp only at hSw); go_simp <;> with_reducible rfl)
          try simp only [Act.put, List.setIfInBounds_toArray, List.set_cons_zero, List.set_cons_succ]
          refine wpAnyH_take (i := 11) (oi := { dst := some 49, op := Op.load 60 (Operand.tmp 48), type := 60, pos := "law.go:185", after := #[{ on := 10, ground := Ground.data }, { on := 6, ground := Ground.guard }], guard := some (6, true) }) (v := ?_) rfl (by kernel_rfl) (by kernel_rfl) (by kernel_rfl) (fun _ _ _ h => h) (Or.inl ⟨by rfl, ?_⟩) hHeld ?_
          rotate_left
          · (intro w' hSw; (try dsimp only at hSw); go_simp <;> with_reducible rfl)
          try simp only [Act.put, List.setIfInBounds_toArray, List.set_cons_zero, List.set_cons_succ]
          refine wpAnyH_take (i := 12) (oi := { dst := some 50, op := Op.fieldAddr 23 (Operand.tmp 2) 0, type := 0, pos := "law.go:185", after := #[{ on := 6, ground := Ground.guard }], guard := some (6, true) }) (v := ?_) rfl (by kernel_rfl) (by kernel_rfl) (by kernel_rfl) (fun _ _ _ h => h) (Or.inl ⟨by rfl, ?_⟩) hHeld ?_
          rotate_left
          · (intro w' hSw; (try dsimp only at hSw); go_simp <;> with_reducible rfl)
          try simp only [Act.put, List.setIfInBounds_toArray, List.set_cons_zero, List.set_cons_succ]
          refine wpAnyH_take (i := 13) (oi := { dst := some 51, op := Op.load 3 (Operand.tmp 50), type := 3, pos := "law.go:185", after := #[{ on := 12, ground := Ground.data }, { on := 6, ground := Ground.guard }], guard := some (6, true) }) (v := ?_) rfl (by kernel_rfl) (by kernel_rfl) (by kernel_rfl) (fun _ _ _ h => h) (Or.inl ⟨by rfl, ?_⟩) hHeld ?_
          rotate_left
          · (intro w' hSw; (try dsimp only at hSw); go_simp <;> with_reducible rfl)
          try simp only [Act.put, List.setIfInBounds_toArray, List.set_cons_zero, List.set_cons_succ]
          refine wpAnyH_ready (rs := [14]) (by kernel_rfl) (by simp) ?_
          refine AllReadyH.cons (o := { dst := some 52, op := Op.call { callee := Callee.value (Operand.func 23), args := #[Operand.tmp 45, Operand.tmp 49, Operand.tmp 51], argTypes := #[48, 60, 3] }, type := 4, pos := "law.go:185", after := #[{ on := 7, ground := Ground.data }, { on := 11, ground := Ground.data }, { on := 13, ground := Ground.data }, { on := 6, ground := Ground.chain }, { on := 6, ground := Ground.guard }], guard := some (6, true) }) rfl (fun K hK => ?_) AllReadyH.nil
          go_simp
          go_at_call 23
          (with_reducible refine HW.out.mono ?_); rintro e w5 ⟨rfl, h5⟩; have q2 := KC.out _ h5.bel
          go_wp2_with fail
          refine hK.out _ _ q2 (fun hHeld => ?_)
          clear hK K
          try simp only [Act.put, List.setIfInBounds_toArray, List.set_cons_zero, List.set_cons_succ]
          refine wpAnyH_take (i := 15) (oi := { dst := some 53, op := Op.unOp UnOp.not 4 (Operand.tmp 52), type := 4, pos := "law.go:185", after := #[{ on := 14, ground := Ground.data }, { on := 6, ground := Ground.guard }], guard := some (6, true) }) (v := ?_) rfl (by kernel_rfl) (by kernel_rfl) (by kernel_rfl) (fun _ _ _ h => h) (Or.inl ⟨by rfl, ?_⟩) hHeld ?_
          rotate_left
          · (intro w' hSw; (try dsimp only at hSw); go_simp <;> with_reducible rfl)
          try simp only [Act.put, List.setIfInBounds_toArray, List.set_cons_zero, List.set_cons_succ]
          refine wpAnyH_take (i := 16) (oi := { dst := some 54, op := Op.pick (Operand.tmp 44) (Operand.tmp 53) (Operand.const (Value.bool false)), type := 4, pos := "law.go:185", after := #[{ on := 6, ground := Ground.data }, { on := 15, ground := Ground.data }], guard := none }) (v := ?_) rfl (by kernel_rfl) (by kernel_rfl) (by kernel_rfl) (fun _ _ _ h => h) (Or.inl ⟨by rfl, ?_⟩) hHeld ?_
          rotate_left
          · (intro w' hSw; (try dsimp only at hSw); go_simp <;> with_reducible rfl)
          try simp only [Act.put, List.setIfInBounds_toArray, List.set_cons_zero, List.set_cons_succ]
          refine wpAnyH_take (i := 17) (oi := { dst := some 55, op := Op.move (Operand.tmp 54), type := 4, pos := "law.go:185", after := #[{ on := 16, ground := Ground.data }, { on := 14, ground := Ground.chain }], guard := none }) (v := ?_) rfl (by kernel_rfl) (by kernel_rfl) (by kernel_rfl) (fun _ _ _ h => h) (Or.inl ⟨by rfl, ?_⟩) hHeld ?_
          rotate_left
          · (intro w' hSw; (try dsimp only at hSw); go_simp <;> with_reducible rfl)
          try simp only [Act.put, List.setIfInBounds_toArray, List.set_cons_zero, List.set_cons_succ]
          refine wpAnyH_take (i := 18) (oi := { dst := some 56, op := Op.move (Operand.tmp 1), type := 47, pos := "law.go:185", after := #[{ on := 17, ground := Ground.guard }], guard := some (17, false) }) (v := ?_) rfl (by kernel_rfl) (by kernel_rfl) (by kernel_rfl) (fun _ _ _ h => h) (Or.inl ⟨by rfl, ?_⟩) hHeld ?_
          rotate_left
          · (intro w' hSw; (try dsimp only at hSw); go_simp <;> with_reducible rfl)
          try simp only [Act.put, List.setIfInBounds_toArray, List.set_cons_zero, List.set_cons_succ]
          refine wpAnyH_take (i := 19) (oi := { dst := some 57, op := Op.move (Operand.tmp 8), type := 3, pos := "law.go:185", after := #[{ on := 17, ground := Ground.guard }], guard := some (17, false) }) (v := ?_) rfl (by kernel_rfl) (by kernel_rfl) (by kernel_rfl) (fun _ _ _ h => h) (Or.inl ⟨by rfl, ?_⟩) hHeld ?_
          rotate_left
          · (intro w' hSw; (try dsimp only at hSw); go_simp <;> with_reducible rfl)
          try simp only [Act.put, List.setIfInBounds_toArray, List.set_cons_zero, List.set_cons_succ]
          refine wpAnyH_take (i := 20) (oi := { dst := some 58, op := Op.indexAddr 47 (Operand.tmp 56) (Operand.tmp 57), type := 0, pos := "law.go:185", after := #[{ on := 18, ground := Ground.data }, { on := 19, ground := Ground.data }, { on := 17, ground := Ground.guard }], guard := some (17, false) }) (v := ?_) rfl (by kernel_rfl) (by kernel_rfl) (by kernel_rfl) (fun _ _ _ h => h) (Or.inl ⟨by rfl, ?_⟩) hHeld ?_
          rotate_left
          · (intro w' hSw; (try dsimp only at hSw); go_simp <;> with_reducible rfl)
          try simp only [Act.put, List.setIfInBounds_toArray, List.set_cons_zero, List.set_cons_succ]
          refine wpAnyH_take (i := 21) (oi := { dst := some 59, op := Op.fieldAddr 60 (Operand.tmp 58) 0, type := 0, pos := "law.go:185", after := #[{ on := 20, ground := Ground.data }, { on := 17, ground := Ground.guard }], guard := some (17, false) }) (v := ?_) rfl (by kernel_rfl) (by kernel_rfl) (by kernel_rfl) (fun _ _ _ h => h) (Or.inl ⟨by rfl, ?_⟩) hHeld ?_
          rotate_left
          · (intro w' hSw; (try dsimp only at hSw); go_simp <;> with_reducible rfl)
          try simp only [Act.put, List.setIfInBounds_toArray, List.set_cons_zero, List.set_cons_succ]
          refine wpAnyH_take (i := 22) (oi := { dst := some 60, op := Op.load 3 (Operand.tmp 59), type := 3, pos := "law.go:185", after := #[{ on := 21, ground := Ground.data }, { on := 17, ground := Ground.guard }], guard := some (17, false) }) (v := ?_) rfl (by kernel_rfl) (by kernel_rfl) (by kernel_rfl) (fun _ _ _ h => h) (Or.inl ⟨by rfl, ?_⟩) hHeld ?_
          rotate_left
          · (intro w' hSw; (try dsimp only at hSw); go_simp <;> with_reducible rfl)
          try simp only [Act.put, List.setIfInBounds_toArray, List.set_cons_zero, List.set_cons_succ]
          refine wpAnyH_take (i := 23) (oi := { dst := some 61, op := Op.binOp BinOp.gtr 3 (Operand.tmp 60) (Operand.const (Value.int IntKind.i64 4)) 3, type := 4, pos := "law.go:185", after := #[{ on := 22, ground := Ground.data }, { on := 17, ground := Ground.guard }], guard := some (17, false) }) (v := ?_) rfl (by kernel_rfl) (by kernel_rfl) (by kernel_rfl) (fun _ _ _ h => h) (Or.inl ⟨by rfl, ?_⟩) hHeld ?_
          rotate_left
          · (intro w' hSw; (try dsimp only at hSw); go_simp <;> with_reducible rfl)
          try simp only [Act.put, List.setIfInBounds_toArray, List.set_cons_zero, List.set_cons_succ]
          refine wpAnyH_take (i := 24) (oi := { dst := some 62, op := Op.move (Operand.tmp 61), type := 4, pos := "law.go:185", after := #[{ on := 23, ground := Ground.data }, { on := 17, ground := Ground.chain }, { on := 17, ground := Ground.guard }], guard := some (17, false) }) (v := ?_) rfl (by kernel_rfl) (by kernel_rfl) (by kernel_rfl) (fun _ _ _ h => h) (Or.inl ⟨by rfl, ?_⟩) hHeld ?_
          rotate_left
          · (intro w' hSw; (try dsimp only at hSw); go_simp <;> with_reducible rfl)
          try simp only [Act.put, List.setIfInBounds_toArray, List.set_cons_zero, List.set_cons_succ]
          refine wpAnyH_take (i := 25) (oi := { dst := some 63, op := Op.move (Operand.tmp 7), type := 48, pos := "law.go:185", after := #[{ on := 24, ground := Ground.guard }], guard := some (24, true) }) (v := undef) rfl (by kernel_rfl) (by kernel_rfl) (by kernel_rfl) (fun _ _ _ h => h) (Or.inr ⟨by rfl, rfl⟩) hHeld ?_
          try simp only [Act.put, List.setIfInBounds_toArray, List.set_cons_zero, List.set_cons_succ]
          refine wpAnyH_take (i := 26) (oi := { dst := some 64, op := Op.move (Operand.tmp 1), type := 47, pos := "law.go:185", after := #[{ on := 24, ground := Ground.guard }], guard := some (24, true) }) (v := undef) rfl (by kernel_rfl) (by kernel_rfl) (by kernel_rfl) (fun _ _ _ h => h) (Or.inr ⟨by rfl, rfl⟩) hHeld ?_
          try simp only [Act.put, List.setIfInBounds_toArray, List.set_cons_zero, List.set_cons_succ]
          refine wpAnyH_take (i := 27) (oi := { dst := some 65, op := Op.move (Operand.tmp 8), type := 3, pos := "law.go:185", after := #[{ on := 24, ground := Ground.guard }], guard := some (24, true) }) (v := undef) rfl (by kernel_rfl) (by kernel_rfl) (by kernel_rfl) (fun _ _ _ h => h) (Or.inr ⟨by rfl, rfl⟩) hHeld ?_
          try simp only [Act.put, List.setIfInBounds_toArray, List.set_cons_zero, List.set_cons_succ]
          refine wpAnyH_take (i := 28) (oi := { dst := some 66, op := Op.indexAddr 47 (Operand.tmp 64) (Operand.tmp 65), type := 0, pos := "law.go:185", after := #[{ on := 26, ground := Ground.data }, { on := 27, ground := Ground.data }, { on := 24, ground := Ground.guard }], guard := some (24, true) }) (v := undef) rfl (by kernel_rfl) (by kernel_rfl) (by kernel_rfl) (fun _ _ _ h => h) (Or.inr ⟨by rfl, rfl⟩) hHeld ?_
          try simp only [Act.put, List.setIfInBounds_toArray, List.set_cons_zero, List.set_cons_succ]
          refine wpAnyH_take (i := 29) (oi := { dst := some 67, op := Op.load 60 (Operand.tmp 66), type := 60, pos := "law.go:185", after := #[{ on := 28, ground := Ground.data }, { on := 24, ground := Ground.guard }], guard := some (24, true) }) (v := undef) rfl (by kernel_rfl) (by kernel_rfl) (by kernel_rfl) (fun _ _ _ h => h) (Or.inr ⟨by rfl, rfl⟩) hHeld ?_
          try simp only [Act.put, List.setIfInBounds_toArray, List.set_cons_zero, List.set_cons_succ]
          refine wpAnyH_take (i := 30) (oi := { dst := some 68, op := Op.call { callee := Callee.value (Operand.func 24), args := #[Operand.tmp 63, Operand.tmp 67], argTypes := #[48, 60] }, type := 4, pos := "law.go:185", after := #[{ on := 25, ground := Ground.data }, { on := 29, ground := Ground.data }, { on := 24, ground := Ground.chain }, { on := 24, ground := Ground.guard }], guard := some (24, true) }) (v := undef) rfl (by kernel_rfl) (by kernel_rfl) (by kernel_rfl) (fun _ _ _ h => h) (Or.inr ⟨by rfl, rfl⟩) hHeld ?_
          try simp only [Act.put, List.setIfInBounds_toArray, List.set_cons_zero, List.set_cons_succ]
          refine wpAnyH_take (i := 31) (oi := { dst := some 69, op := Op.unOp UnOp.not 4 (Operand.tmp 68), type := 4, pos := "law.go:185", after := #[{ on := 30, ground := Ground.data }, { on := 24, ground := Ground.guard }], guard := some (24, true) }) (v := undef) rfl (by kernel_rfl) (by kernel_rfl) (by kernel_rfl) (fun _ _ _ h => h) (Or.inr ⟨by rfl, rfl⟩) hHeld ?_
          try simp only [Act.put, List.setIfInBounds_toArray, List.set_cons_zero, List.set_cons_succ]
          refine wpAnyH_take (i := 32) (oi := { dst := some 70, op := Op.pick (Operand.tmp 62) (Operand.tmp 69) (Operand.const (Value.bool false)), type := 4, pos := "law.go:185", after := #[{ on := 24, ground := Ground.data }, { on := 31, ground := Ground.data }, { on := 17, ground := Ground.guard }], guard := some (17, false) }) (v := ?_) rfl (by kernel_rfl) (by kernel_rfl) (by kernel_rfl) (fun _ _ _ h => h) (Or.inl ⟨by rfl, ?_⟩) hHeld ?_
          rotate_left
          · (intro w' hSw; (try dsimp only at hSw); go_simp <;> with_reducible rfl)
          try simp only [Act.put, List.setIfInBounds_toArray, List.set_cons_zero, List.set_cons_succ]
          refine wpAnyH_take (i := 33) (oi := { dst := some 71, op := Op.pick (Operand.tmp 55) (Operand.const (Value.bool true)) (Operand.tmp 70), type := 4, pos := "law.go:185", after := #[{ on := 17, ground := Ground.data }, { on := 32, ground := Ground.data }], guard := none }) (v := ?_) rfl (by kernel_rfl) (by kernel_rfl) (by kernel_rfl) (fun _ _ _ h => h) (Or.inl ⟨by rfl, ?_⟩) hHeld ?_
          rotate_left
          · (intro w' hSw; (try dsimp only at hSw); go_simp <;> with_reducible rfl)
          try simp only [Act.put, List.setIfInBounds_toArray, List.set_cons_zero, List.set_cons_succ]
          refine wpAnyH_done (by kernel_rfl) ?_ _
          have H5 := Lib.hid h5
          have HPS := Lib.hid (KS.out _ h5.bel).1
          obtain ⟨nn2, ws2, fs2, rs2, hle1, hle2, hle3, hle4, hpl⟩ := h5
          obtain ⟨A4, c4, A11, c11, x4, x11, hW, hR, hA, hU, -⟩ := play_counts hpl
          have HWC := Lib.hid hW
          have HRC := Lib.hid hR
          have HQA := Lib.hid (fun q => Calls.quiet_of_same (hA q))
          have HQU := Lib.hid (fun q => Calls.quiet_of_same (hU q))
          have Hw80 : Hid (ws2.length ≤ 81 ∧ rs2.length ≤ 81) := ⟨by omega, by omega⟩
          have hw8 : ws2.length ≤ 81 := by omega
          have hr8 : rs2.length ≤ 81 := by omega
          clear hpl hle1 hle2 hle3 hle4 hW hR hA hU q2 y0 y1 y2 y3 y4 y5 y6 y7 y8 y9
          go_wp2_with fail
          go_loopw [9, 10] (fun nv kv wr => ∃ k c : Nat, k ≤ ws2.length ∧ kv = .int .i64 (k : Int) ∧ nv = .int .i64 (c : Int) ∧ c ≤ k ∧ Hid (c = cntT ((ws2.map (·.o)).take k)) ∧ w5 = wr) (fun _ kv _ => ws2.length - (intOf kv).toNat)
          case atStart => exact ⟨0, 0, Nat.zero_le _, rfl, rfl, Nat.le_refl _, rfl, by trivial⟩
          case round =>
            obtain ⟨k, c, hk, rfl, rfl, hck, HC, rfl⟩ := hrel
            by_cases hkl : k < ws2.length
            · have g1 : decide ((k : Int) < (ws2.length : Int)) = true := by simp; omega
              have k0 : (0 : Int) ≤ (k : Int) := by omega
              have k1 : (k : Int) < (ws2.length : Int) := by omega
              obtain ⟨g, b4, rfl, y4, hob⟩ := HWC.out k hkl
              have HC2 := Lib.hid (cntT_take hob)
              clear hob
              cases b4 with
              | false =>
                have HC3 : Hid (c = cntT ((ws2.map (·.o)).take (k + 1))) := by
                  have := HC2.out
                  rw [this, ← HC.out]; rfl
                clear HC2 HC
                go_wp2
                go_roundw
                case rel => exact ⟨k + 1, c, by omega, by go_num, rfl, by omega, HC3.out, by trivial⟩
                case measure => simp [intOf]; omega
              | true =>
                have HC3 : Hid (c + 1 = cntT ((ws2.map (·.o)).take (k + 1))) := by
                  have := HC2.out
                  rw [this, ← HC.out]; rfl
                clear HC2 HC
                go_wp2
                go_roundw
                case rel => exact ⟨k + 1, c + 1, by omega, by go_num, by go_num, by omega, HC3.out, by trivial⟩
                case measure => simp [intOf]; omega
            · have hkk : k = ws2.length := by omega
              have g1 : decide ((k : Int) < (ws2.length : Int)) = false := by simp; omega
              have HC3 : Hid (c = cntT (ws2.map (·.o))) := by
                have := HC.out
                rwa [List.take_of_length_le (by rw [List.length_map]; omega)] at this
              have hc81 : c ≤ 81 := by omega
              clear HC hkk hck
              go_wp2_with fail
              go_loopw [9, 11] (fun nv kv wr => ∃ k2 c2 : Nat, k2 ≤ rs2.length ∧ kv = .int .i64 (k2 : Int) ∧ nv = .int .i64 (c2 : Int) ∧ c2 ≤ 81 + k2 ∧ Hid (c2 = c + cntT ((rs2.map (·.o)).take k2)) ∧ w5 = wr) (fun _ kv _ => rs2.length - (intOf kv).toNat)
              case atStart => exact ⟨0, c, Nat.zero_le _, rfl, rfl, by omega, rfl, by trivial⟩
              case round =>
                obtain ⟨k2, c2, hk2, rfl, rfl, hck2, HD, rfl⟩ := hrel
                by_cases hkl2 : k2 < rs2.length
                · have g2 : decide ((k2 : Int) < (rs2.length : Int)) = true := by simp; omega
                  have k20 : (0 : Int) ≤ (k2 : Int) := by omega
                  have k21 : (k2 : Int) < (rs2.length : Int) := by omega
                  obtain ⟨g, b4, rfl, y4, hob⟩ := HRC.out k2 hkl2
                  have HC2 := Lib.hid (cntT_take hob)
                  clear hob
                  cases b4 with
                  | false =>
                    have HD3 : Hid (c2 = c + cntT ((rs2.map (·.o)).take (k2 + 1))) := by
                      have := HC2.out
                      rw [this]; exact HD.out
                    clear HC2 HD
                    go_wp2
                    go_roundw
                    case rel => exact ⟨k2 + 1, c2, by omega, by go_num, rfl, by omega, HD3.out, by trivial⟩
                    case measure => simp [intOf]; omega
                  | true =>
                    have HD3 : Hid (c2 + 1 = c + cntT ((rs2.map (·.o)).take (k2 + 1))) := by
                      have := HC2.out
                      have h9 := HD.out
                      unfold Hid
                      rw [this, if_pos rfl]; omega
                    clear HC2 HD
                    go_wp2
                    go_roundw
                    case rel => exact ⟨k2 + 1, c2 + 1, by omega, by go_num, by go_num, by omega, HD3.out, by trivial⟩
                    case measure => simp [intOf]; omega
                · have hkk2 : k2 = rs2.length := by omega
                  have g2 : decide ((k2 : Int) < (rs2.length : Int)) = false := by simp; omega
                  have he : (cntT (ws2.map (·.o)) + cntT (rs2.map (·.o))) * n = c2 * n := by
                    have h1 := HC3.out
                    have h2 := HD.out
                    rw [List.take_of_length_le (by rw [List.length_map]; omega)] at h2
                    rw [h2, h1]
                  rw [he] at HQU
                  have hub : c2 * n ≤ 200 * 256 := Nat.mul_le_mul (by omega) Hn8.out.2
                  obtain ⟨u, hu⟩ : ∃ u, u = c2 * n := ⟨_, rfl⟩
                  have hmul : (c2 : Int) * (n : Int) = (u : Int) := by rw [hu]; exact (Int.natCast_mul c2 n).symm
                  rw [← hu] at HQU hub
                  have y9 : ∀ q, (w5.drewN q).cell? ⟨w.heap.size, 0, none⟩ = some (.int .i64 n) := fun _ => HPS.out
                  have HN : Hid (∀ q, LpF w0 p sb n b (i + 1) (w5.drewN q)) := fun q => by
                    obtain ⟨nn3, ws3, fs3, rs3, e1, e2, e3, e4, e5⟩ := H5.out
                    exact ⟨nn3, ws3, fs3, rs3, e1, e2, e3, e4, e5.below (below_drewN2 (Below.refl _ _) q)⟩
                  clear he hu HD HC3 hkk2 hck2 H5 HWC HRC
                  go_wp2
                  go_quiet ((with_reducible first | exact HQA.out _ | exact HQU.out _))
                  go_wp2
                  go_roundw
                  case rel => exact ⟨i + 1, by omega, by go_num, HN.out _⟩
                  case measure => simp [intOf]; omega
        · have gz : decide (oz ≤ 4) = false := by simpa using hz
          have gz2 : decide (oz > 4) = true := by simp; omega
          clear HW
          go_wp2
          refine wp_region_held_drew (S := fun W => W.cell? ⟨bb, off + i * 9, none⟩ = some (.int .i64 oz) ∧ W.cell? ⟨bb, off + i * 9 + 1, none⟩ = some (.int .i64 ok) ∧ W.cell? ⟨bb, off + i * 9 + 2, none⟩ = some (.int .i64 owd) ∧ W.cell? ⟨bb, off + i * 9 + 3, none⟩ = some (.int .i64 obd) ∧ W.cell? ⟨bb, off + i * 9 + 4, none⟩ = some (.int .i64 oa) ∧ W.cell? ⟨bb, off + i * 9 + 5, none⟩ = some (.int .i64 obx) ∧ W.cell? ⟨bb, off + i * 9 + 6, none⟩ = some (.int .i64 oc) ∧ W.cell? ⟨bb, off + i * 9 + 7, none⟩ = some (.int .i64 od) ∧ W.cell? ⟨bb, off + i * 9 + 8, none⟩ = some (.int .i64 oe) ∧ W.cell? ⟨w.heap.size, 0, none⟩ = some (.int .i64 n)) (by kernel_rfl) ⟨y0, y1, y2, y3, y4, y5, y6, y7, y8, y9⟩ (fun hHeld => ?_)
          refine wpAnyH_take (i := 0) (oi := { dst := some 38, op := Op.move (Operand.tmp 1), type := 47, pos := "law.go:185", after := #[], guard := none }) (v := ?_) rfl (by kernel_rfl) (by kernel_rfl) (by kernel_rfl) (fun _ _ _ h => h) (Or.inl ⟨by rfl, ?_⟩) hHeld ?_
          rotate_left
          · (intro w' hSw; (try dsimp only at hSw); go_simp <;> with_reducible rfl)
          try simp only [Act.put, List.setIfInBounds_toArray, List.set_cons_zero, List.set_cons_succ]
          refine wpAnyH_take (i := 1) (oi := { dst := some 39, op := Op.move (Operand.tmp 8), type := 3, pos := "law.go:185", after := #[], guard := none }) (v := ?_) rfl (by kernel_rfl) (by kernel_rfl) (by kernel_rfl) (fun _ _ _ h => h) (Or.inl ⟨by rfl, ?_⟩) hHeld ?_
          rotate_left
          · (intro w' hSw; (try dsimp only at hSw); go_simp <;> with_reducible rfl)
          try simp only [Act.put, List.setIfInBounds_toArray, List.set_cons_zero, List.set_cons_succ]
          refine wpAnyH_take (i := 2) (oi := { dst := some 40, op := Op.indexAddr 47 (Operand.tmp 38) (Operand.tmp 39), type := 0, pos := "law.go:185", after := #[{ on := 0, ground := Ground.data }, { on := 1, ground := Ground.data }], guard := none }) (v := ?_) rfl (by kernel_rfl) (by kernel_rfl) (by kernel_rfl) (fun _ _ _ h => h) (Or.inl ⟨by rfl, ?_⟩) hHeld ?_
          rotate_left
          · (intro w' hSw; (try dsimp only at hSw); go_simp <;> with_reducible rfl)
          try simp only [Act.put, List.setIfInBounds_toArray, List.set_cons_zero, List.set_cons_succ]
          refine wpAnyH_take (i := 3) (oi := { dst := some 41, op := Op.fieldAddr 60 (Operand.tmp 40) 0, type := 0, pos := "law.go:185", after := #[{ on := 2, ground := Ground.data }], guard := none }) (v := ?_) rfl (by kernel_rfl) (by kernel_rfl) (by kernel_rfl) (fun _ _ _ h => h) (Or.inl ⟨by rfl, ?_⟩) hHeld ?_
          rotate_left
          · (intro w' hSw; (try dsimp only at hSw); go_simp <;> with_reducible rfl)
          try simp only [Act.put, List.setIfInBounds_toArray, List.set_cons_zero, List.set_cons_succ]
          refine wpAnyH_take (i := 4) (oi := { dst := some 42, op := Op.load 3 (Operand.tmp 41), type := 3, pos := "law.go:185", after := #[{ on := 3, ground := Ground.data }], guard := none }) (v := ?_) rfl (by kernel_rfl) (by kernel_rfl) (by kernel_rfl) (fun _ _ _ h => h) (Or.inl ⟨by rfl, ?_⟩) hHeld ?_
          rotate_left
          · (intro w' hSw; (try dsimp only at hSw); go_simp <;> with_reducible rfl)
          try simp only [Act.put, List.setIfInBounds_toArray, List.set_cons_zero, List.set_cons_succ]
          refine wpAnyH_take (i := 5) (oi := { dst := some 43, op := Op.binOp BinOp.leq 3 (Operand.tmp 42) (Operand.const (Value.int IntKind.i64 4)) 3, type := 4, pos := "law.go:185", after := #[{ on := 4, ground := Ground.data }], guard := none }) (v := ?_) rfl (by kernel_rfl) (by kernel_rfl) (by kernel_rfl) (fun _ _ _ h => h) (Or.inl ⟨by rfl, ?_⟩) hHeld ?_
          rotate_left
          · (intro w' hSw; (try dsimp only at hSw); go_simp <;> with_reducible rfl)
          try simp only [Act.put, List.setIfInBounds_toArray, List.set_cons_zero, List.set_cons_succ]
          refine wpAnyH_take (i := 6) (oi := { dst := some 44, op := Op.move (Operand.tmp 43), type := 4, pos := "law.go:185", after := #[{ on := 5, ground := Ground.data }], guard := none }) (v := ?_) rfl (by kernel_rfl) (by kernel_rfl) (by kernel_rfl) (fun _ _ _ h => h) (Or.inl ⟨by rfl, ?_⟩) hHeld ?_
          rotate_left
          · (intro w' hSw; (try dsimp only at hSw); go_simp <;> with_reducible rfl)
          try simp only [Act.put, List.setIfInBounds_toArray, List.set_cons_zero, List.set_cons_succ]
          refine wpAnyH_take (i := 7) (oi := { dst := some 45, op := Op.move (Operand.tmp 7), type := 48, pos := "law.go:185", after := #[{ on := 6, ground := Ground.guard }], guard := some (6, true) }) (v := undef) rfl (by kernel_rfl) (by kernel_rfl) (by kernel_rfl) (fun _ _ _ h => h) (Or.inr ⟨by rfl, rfl⟩) hHeld ?_
          try simp only [Act.put, List.setIfInBounds_toArray, List.set_cons_zero, List.set_cons_succ]
          refine wpAnyH_take (i := 8) (oi := { dst := some 46, op := Op.move (Operand.tmp 1), type := 47, pos := "law.go:185", after := #[{ on := 6, ground := Ground.guard }], guard := some (6, true) }) (v := undef) rfl (by kernel_rfl) (by kernel_rfl) (by kernel_rfl) (fun _ _ _ h => h) (Or.inr ⟨by rfl, rfl⟩) hHeld ?_
          try simp only [Act.put, List.setIfInBounds_toArray, List.set_cons_zero, List.set_cons_succ]
          refine wpAnyH_take (i := 9) (oi := { dst := some 47, op := Op.move (Operand.tmp 8), type := 3, pos := "law.go:185", after := #[{ on := 6, ground := Ground.guard }], guard := some (6, true) }) (v := undef) rfl (by kernel_rfl) (by kernel_rfl) (by kernel_rfl) (fun _ _ _ h => h) (Or.inr ⟨by rfl, rfl⟩) hHeld ?_
          try simp only [Act.put, List.setIfInBounds_toArray, List.set_cons_zero, List.set_cons_succ]
          refine wpAnyH_take (i := 10) (oi := { dst := some 48, op := Op.indexAddr 47 (Operand.tmp 46) (Operand.tmp 47), type := 0, pos := "law.go:185", after := #[{ on := 8, ground := Ground.data }, { on := 9, ground := Ground.data }, { on := 6, ground := Ground.guard }], guard := some (6, true) }) (v := undef) rfl (by kernel_rfl) (by kernel_rfl) (by kernel_rfl) (fun _ _ _ h => h) (Or.inr ⟨by rfl, rfl⟩) hHeld ?_
          try simp only [Act.put, List.setIfInBounds_toArray, List.set_cons_zero, List.set_cons_succ]
          refine wpAnyH_take (i := 11) (oi := { dst := some 49, op := Op.load 60 (Operand.tmp 48), type := 60, pos := "law.go:185", after := #[{ on := 10, ground := Ground.data }, { on := 6, ground := Ground.guard }], guard := some (6, true) }) (v := undef) rfl (by kernel_rfl) (by kernel_rfl) (by kernel_rfl) (fun _ _ _ h => h) (Or.inr ⟨by rfl, rfl⟩) hHeld ?_
          try simp only [Act.put, List.setIfInBounds_toArray, List.set_cons_zero, List.set_cons_succ]
          refine wpAnyH_take (i := 12) (oi := { dst := some 50, op := Op.fieldAddr 23 (Operand.tmp 2) 0, type := 0, pos := "law.go:185", after := #[{ on := 6, ground := Ground.guard }], guard := some (6, true) }) (v := undef) rfl (by kernel_rfl) (by kernel_rfl) (by kernel_rfl) (fun _ _ _ h => h) (Or.inr ⟨by rfl, rfl⟩) hHeld ?_
          try simp only [Act.put, List.setIfInBounds_toArray, List.set_cons_zero, List.set_cons_succ]
          refine wpAnyH_take (i := 13) (oi := { dst := some 51, op := Op.load 3 (Operand.tmp 50), type := 3, pos := "law.go:185", after := #[{ on := 12, ground := Ground.data }, { on := 6, ground := Ground.guard }], guard := some (6, true) }) (v := undef) rfl (by kernel_rfl) (by kernel_rfl) (by kernel_rfl) (fun _ _ _ h => h) (Or.inr ⟨by rfl, rfl⟩) hHeld ?_
          try simp only [Act.put, List.setIfInBounds_toArray, List.set_cons_zero, List.set_cons_succ]
          refine wpAnyH_take (i := 14) (oi := { dst := some 52, op := Op.call { callee := Callee.value (Operand.func 23), args := #[Operand.tmp 45, Operand.tmp 49, Operand.tmp 51], argTypes := #[48, 60, 3] }, type := 4, pos := "law.go:185", after := #[{ on := 7, ground := Ground.data }, { on := 11, ground := Ground.data }, { on := 13, ground := Ground.data }, { on := 6, ground := Ground.chain }, { on := 6, ground := Ground.guard }], guard := some (6, true) }) (v := undef) rfl (by kernel_rfl) (by kernel_rfl) (by kernel_rfl) (fun _ _ _ h => h) (Or.inr ⟨by rfl, rfl⟩) hHeld ?_
          try simp only [Act.put, List.setIfInBounds_toArray, List.set_cons_zero, List.set_cons_succ]
          refine wpAnyH_take (i := 15) (oi := { dst := some 53, op := Op.unOp UnOp.not 4 (Operand.tmp 52), type := 4, pos := "law.go:185", after := #[{ on := 14, ground := Ground.data }, { on := 6, ground := Ground.guard }], guard := some (6, true) }) (v := undef) rfl (by kernel_rfl) (by kernel_rfl) (by kernel_rfl) (fun _ _ _ h => h) (Or.inr ⟨by rfl, rfl⟩) hHeld ?_
          try simp only [Act.put, List.setIfInBounds_toArray, List.set_cons_zero, List.set_cons_succ]
          refine wpAnyH_take (i := 16) (oi := { dst := some 54, op := Op.pick (Operand.tmp 44) (Operand.tmp 53) (Operand.const (Value.bool false)), type := 4, pos := "law.go:185", after := #[{ on := 6, ground := Ground.data }, { on := 15, ground := Ground.data }], guard := none }) (v := ?_) rfl (by kernel_rfl) (by kernel_rfl) (by kernel_rfl) (fun _ _ _ h => h) (Or.inl ⟨by rfl, ?_⟩) hHeld ?_
          rotate_left
          · (intro w' hSw; (try dsimp only at hSw); go_simp <;> with_reducible rfl)
          try simp only [Act.put, List.setIfInBounds_toArray, List.set_cons_zero, List.set_cons_succ]
          refine wpAnyH_take (i := 17) (oi := { dst := some 55, op := Op.move (Operand.tmp 54), type := 4, pos := "law.go:185", after := #[{ on := 16, ground := Ground.data }, { on := 14, ground := Ground.chain }], guard := none }) (v := ?_) rfl (by kernel_rfl) (by kernel_rfl) (by kernel_rfl) (fun _ _ _ h => h) (Or.inl ⟨by rfl, ?_⟩) hHeld ?_
          rotate_left
          · (intro w' hSw; (try dsimp only at hSw); go_simp <;> with_reducible rfl)
          try simp only [Act.put, List.setIfInBounds_toArray, List.set_cons_zero, List.set_cons_succ]
          refine wpAnyH_take (i := 18) (oi := { dst := some 56, op := Op.move (Operand.tmp 1), type := 47, pos := "law.go:185", after := #[{ on := 17, ground := Ground.guard }], guard := some (17, false) }) (v := ?_) rfl (by kernel_rfl) (by kernel_rfl) (by kernel_rfl) (fun _ _ _ h => h) (Or.inl ⟨by rfl, ?_⟩) hHeld ?_
          rotate_left
          · (intro w' hSw; (try dsimp only at hSw); go_simp <;> with_reducible rfl)
          try simp only [Act.put, List.setIfInBounds_toArray, List.set_cons_zero, List.set_cons_succ]
          refine wpAnyH_take (i := 19) (oi := { dst := some 57, op := Op.move (Operand.tmp 8), type := 3, pos := "law.go:185", after := #[{ on := 17, ground := Ground.guard }], guard := some (17, false) }) (v := ?_) rfl (by kernel_rfl) (by kernel_rfl) (by kernel_rfl) (fun _ _ _ h => h) (Or.inl ⟨by rfl, ?_⟩) hHeld ?_
          rotate_left
          · (intro w' hSw; (try dsimp only at hSw); go_simp <;> with_reducible rfl)
          try simp only [Act.put, List.setIfInBounds_toArray, List.set_cons_zero, List.set_cons_succ]
          refine wpAnyH_take (i := 20) (oi := { dst := some 58, op := Op.indexAddr 47 (Operand.tmp 56) (Operand.tmp 57), type := 0, pos := "law.go:185", after := #[{ on := 18, ground := Ground.data }, { on := 19, ground := Ground.data }, { on := 17, ground := Ground.guard }], guard := some (17, false) }) (v := ?_) rfl (by kernel_rfl) (by kernel_rfl) (by kernel_rfl) (fun _ _ _ h => h) (Or.inl ⟨by rfl, ?_⟩) hHeld ?_
          rotate_left
          · (intro w' hSw; (try dsimp only at hSw); go_simp <;> with_reducible rfl)
          try simp only [Act.put, List.setIfInBounds_toArray, List.set_cons_zero, List.set_cons_succ]
          refine wpAnyH_take (i := 21) (oi := { dst := some 59, op := Op.fieldAddr 60 (Operand.tmp 58) 0, type := 0, pos := "law.go:185", after := #[{ on := 20, ground := Ground.data }, { on := 17, ground := Ground.guard }], guard := some (17, false) }) (v := ?_) rfl (by kernel_rfl) (by kernel_rfl) (by kernel_rfl) (fun _ _ _ h => h) (Or.inl ⟨by rfl, ?_⟩) hHeld ?_
          rotate_left
          · (intro w' hSw; (try dsimp only at hSw); go_simp <;> with_reducible rfl)
          try simp only [Act.put, List.setIfInBounds_toArray, List.set_cons_zero, List.set_cons_succ]
          refine wpAnyH_take (i := 22) (oi := { dst := some 60, op := Op.load 3 (Operand.tmp 59), type := 3, pos := "law.go:185", after := #[{ on := 21, ground := Ground.data }, { on := 17, ground := Ground.guard }], guard := some (17, false) }) (v := ?_) rfl (by kernel_rfl) (by kernel_rfl) (by kernel_rfl) (fun _ _ _ h => h) (Or.inl ⟨by rfl, ?_⟩) hHeld ?_
          rotate_left
          · (intro w' hSw; (try dsimp only at hSw); go_simp <;> with_reducible rfl)
          try simp only [Act.put, List.setIfInBounds_toArray, List.set_cons_zero, List.set_cons_succ]
          refine wpAnyH_take (i := 23) (oi := { dst := some 61, op := Op.binOp BinOp.gtr 3 (Operand.tmp 60) (Operand.const (Value.int IntKind.i64 4)) 3, type := 4, pos := "law.go:185", after := #[{ on := 22, ground := Ground.data }, { on := 17, ground := Ground.guard }], guard := some (17, false) }) (v := ?_) rfl (by kernel_rfl) (by kernel_rfl) (by kernel_rfl) (fun _ _ _ h => h) (Or.inl ⟨by rfl, ?_⟩) hHeld ?_
          rotate_left
          · (intro w' hSw; (try dsimp only at hSw); go_simp <;> with_reducible rfl)
          try simp only [Act.put, List.setIfInBounds_toArray, List.set_cons_zero, List.set_cons_succ]
          refine wpAnyH_take (i := 24) (oi := { dst := some 62, op := Op.move (Operand.tmp 61), type := 4, pos := "law.go:185", after := #[{ on := 23, ground := Ground.data }, { on := 17, ground := Ground.chain }, { on := 17, ground := Ground.guard }], guard := some (17, false) }) (v := ?_) rfl (by kernel_rfl) (by kernel_rfl) (by kernel_rfl) (fun _ _ _ h => h) (Or.inl ⟨by rfl, ?_⟩) hHeld ?_
          rotate_left
          · (intro w' hSw; (try dsimp only at hSw); go_simp <;> with_reducible rfl)
          try simp only [Act.put, List.setIfInBounds_toArray, List.set_cons_zero, List.set_cons_succ]
          refine wpAnyH_take (i := 25) (oi := { dst := some 63, op := Op.move (Operand.tmp 7), type := 48, pos := "law.go:185", after := #[{ on := 24, ground := Ground.guard }], guard := some (24, true) }) (v := ?_) rfl (by kernel_rfl) (by kernel_rfl) (by kernel_rfl) (fun _ _ _ h => h) (Or.inl ⟨by rfl, ?_⟩) hHeld ?_
          rotate_left
          · (intro w' hSw; (try dsimp only at hSw); go_simp <;> with_reducible rfl)
          try simp only [Act.put, List.setIfInBounds_toArray, List.set_cons_zero, List.set_cons_succ]
          refine wpAnyH_take (i := 26) (oi := { dst := some 64, op := Op.move (Operand.tmp 1), type := 47, pos := "law.go:185", after := #[{ on := 24, ground := Ground.guard }], guard := some (24, true) }) (v := ?_) rfl (by kernel_rfl) (by kernel_rfl) (by kernel_rfl) (fun _ _ _ h => h) (Or.inl ⟨by rfl, ?_⟩) hHeld ?_
          rotate_left
          · (intro w' hSw; (try dsimp only at hSw); go_simp <;> with_reducible rfl)
          try simp only [Act.put, List.setIfInBounds_toArray, List.set_cons_zero, List.set_cons_succ]
          refine wpAnyH_take (i := 27) (oi := { dst := some 65, op := Op.move (Operand.tmp 8), type := 3, pos := "law.go:185", after := #[{ on := 24, ground := Ground.guard }], guard := some (24, true) }) (v := ?_) rfl (by kernel_rfl) (by kernel_rfl) (by kernel_rfl) (fun _ _ _ h => h) (Or.inl ⟨by rfl, ?_⟩) hHeld ?_
          rotate_left
          · (intro w' hSw; (try dsimp only at hSw); go_simp <;> with_reducible rfl)
          try simp only [Act.put, List.setIfInBounds_toArray, List.set_cons_zero, List.set_cons_succ]
          refine wpAnyH_take (i := 28) (oi := { dst := some 66, op := Op.indexAddr 47 (Operand.tmp 64) (Operand.tmp 65), type := 0, pos := "law.go:185", after := #[{ on := 26, ground := Ground.data }, { on := 27, ground := Ground.data }, { on := 24, ground := Ground.guard }], guard := some (24, true) }) (v := ?_) rfl (by kernel_rfl) (by kernel_rfl) (by kernel_rfl) (fun _ _ _ h => h) (Or.inl ⟨by rfl, ?_⟩) hHeld ?_
          rotate_left
          · (intro w' hSw; (try dsimp only at hSw); go_simp <;> with_reducible rfl)
          try simp only [Act.put, List.setIfInBounds_toArray, List.set_cons_zero, List.set_cons_succ]
          refine wpAnyH_take (i := 29) (oi := { dst := some 67, op := Op.load 60 (Operand.tmp 66), type := 60, pos := "law.go:185", after := #[{ on := 28, ground := Ground.data }, { on := 24, ground := Ground.guard }], guard := some (24, true) }) (v := ?_) rfl (by kernel_rfl) (by kernel_rfl) (by kernel_rfl) (fun _ _ _ h => h) (Or.inl ⟨by rfl, ?_⟩) hHeld ?_
          rotate_left
          · (intro w' hSw; (try dsimp only at hSw); go_simp <;> with_reducible rfl)
          try simp only [Act.put, List.setIfInBounds_toArray, List.set_cons_zero, List.set_cons_succ]
          refine wpAnyH_ready (rs := [30]) (by kernel_rfl) (by simp) ?_
          refine AllReadyH.cons (o := { dst := some 68, op := Op.call { callee := Callee.value (Operand.func 24), args := #[Operand.tmp 63, Operand.tmp 67], argTypes := #[48, 60] }, type := 4, pos := "law.go:185", after := #[{ on := 25, ground := Ground.data }, { on := 29, ground := Ground.data }, { on := 24, ground := Ground.chain }, { on := 24, ground := Ground.guard }], guard := some (24, true) }) rfl (fun K hK => ?_) AllReadyH.nil
          go_simp
          go_at_call 24
          (with_reducible refine HR.out.mono ?_); rintro e w5 ⟨rfl, h5⟩; have q2 := KC.out _ h5.bel
          go_wp2_with fail
          refine hK.out _ _ q2 (fun hHeld => ?_)
          clear hK K
          try simp only [Act.put, List.setIfInBounds_toArray, List.set_cons_zero, List.set_cons_succ]
          refine wpAnyH_take (i := 31) (oi := { dst := some 69, op := Op.unOp UnOp.not 4 (Operand.tmp 68), type := 4, pos := "law.go:185", after := #[{ on := 30, ground := Ground.data }, { on := 24, ground := Ground.guard }], guard := some (24, true) }) (v := ?_) rfl (by kernel_rfl) (by kernel_rfl) (by kernel_rfl) (fun _ _ _ h => h) (Or.inl ⟨by rfl, ?_⟩) hHeld ?_
          rotate_left
          · (intro w' hSw; (try dsimp only at hSw); go_simp <;> with_reducible rfl)
          try simp only [Act.put, List.setIfInBounds_toArray, List.set_cons_zero, List.set_cons_succ]
          refine wpAnyH_take (i := 32) (oi := { dst := some 70, op := Op.pick (Operand.tmp 62) (Operand.tmp 69) (Operand.const (Value.bool false)), type := 4, pos := "law.go:185", after := #[{ on := 24, ground := Ground.data }, { on := 31, ground := Ground.data }, { on := 17, ground := Ground.guard }], guard := some (17, false) }) (v := ?_) rfl (by kernel_rfl) (by kernel_rfl) (by kernel_rfl) (fun _ _ _ h => h) (Or.inl ⟨by rfl, ?_⟩) hHeld ?_
          rotate_left
          · (intro w' hSw; (try dsimp only at hSw); go_simp <;> with_reducible rfl)
          try simp only [Act.put, List.setIfInBounds_toArray, List.set_cons_zero, List.set_cons_succ]
          refine wpAnyH_take (i := 33) (oi := { dst := some 71, op := Op.pick (Operand.tmp 55) (Operand.const (Value.bool true)) (Operand.tmp 70), type := 4, pos := "law.go:185", after := #[{ on := 17, ground := Ground.data }, { on := 32, ground := Ground.data }], guard := none }) (v := ?_) rfl (by kernel_rfl) (by kernel_rfl) (by kernel_rfl) (fun _ _ _ h => h) (Or.inl ⟨by rfl, ?_⟩) hHeld ?_
          rotate_left
          · (intro w' hSw; (try dsimp only at hSw); go_simp <;> with_reducible rfl)
          try simp only [Act.put, List.setIfInBounds_toArray, List.set_cons_zero, List.set_cons_succ]
          refine wpAnyH_done (by kernel_rfl) ?_ _
          have H5 := Lib.hid h5
          have HPS := Lib.hid (KS.out _ h5.bel).1
          obtain ⟨nn2, ws2, fs2, rs2, hle1, hle2, hle3, hle4, hpl⟩ := h5
          obtain ⟨A4, c4, A11, c11, x4, x11, hW, hR, hA, hU, -⟩ := play_counts hpl
          have HWC := Lib.hid hW
          have HRC := Lib.hid hR
          have HQA := Lib.hid (fun q => Calls.quiet_of_same (hA q))
          have HQU := Lib.hid (fun q => Calls.quiet_of_same (hU q))
          have Hw80 : Hid (ws2.length ≤ 81 ∧ rs2.length ≤ 81) := ⟨by omega, by omega⟩
          have hw8 : ws2.length ≤ 81 := by omega
          have hr8 : rs2.length ≤ 81 := by omega
          clear hpl hle1 hle2 hle3 hle4 hW hR hA hU q2 y0 y1 y2 y3 y4 y5 y6 y7 y8 y9
          go_wp2_with fail
          go_loopw [9, 10] (fun nv kv wr => ∃ k c : Nat, k ≤ ws2.length ∧ kv = .int .i64 (k : Int) ∧ nv = .int .i64 (c : Int) ∧ c ≤ k ∧ Hid (c = cntT ((ws2.map (·.o)).take k)) ∧ w5 = wr) (fun _ kv _ => ws2.length - (intOf kv).toNat)
          case atStart => exact ⟨0, 0, Nat.zero_le _, rfl, rfl, Nat.le_refl _, rfl, by trivial⟩
          case round =>
            obtain ⟨k, c, hk, rfl, rfl, hck, HC, rfl⟩ := hrel
            by_cases hkl : k < ws2.length
            · have g1 : decide ((k : Int) < (ws2.length : Int)) = true := by simp; omega
              have k0 : (0 : Int) ≤ (k : Int) := by omega
              have k1 : (k : Int) < (ws2.length : Int) := by omega
              obtain ⟨g, b4, rfl, y4, hob⟩ := HWC.out k hkl
              have HC2 := Lib.hid (cntT_take hob)
              clear hob
              cases b4 with
              | false =>
                have HC3 : Hid (c = cntT ((ws2.map (·.o)).take (k + 1))) := by
                  have := HC2.out
                  rw [this, ← HC.out]; rfl
                clear HC2 HC
                go_wp2
                go_roundw
                case rel => exact ⟨k + 1, c, by omega, by go_num, rfl, by omega, HC3.out, by trivial⟩
                case measure => simp [intOf]; omega
              | true =>
                have HC3 : Hid (c + 1 = cntT ((ws2.map (·.o)).take (k + 1))) := by
                  have := HC2.out
                  rw [this, ← HC.out]; rfl
                clear HC2 HC
                go_wp2
                go_roundw
                case rel => exact ⟨k + 1, c + 1, by omega, by go_num, by go_num, by omega, HC3.out, by trivial⟩
                case measure => simp [intOf]; omega
            · have hkk : k = ws2.length := by omega
              have g1 : decide ((k : Int) < (ws2.length : Int)) = false := by simp; omega
              have HC3 : Hid (c = cntT (ws2.map (·.o))) := by
                have := HC.out
                rwa [List.take_of_length_le (by rw [List.length_map]; omega)] at this
              have hc81 : c ≤ 81 := by omega
              clear HC hkk hck
              go_wp2_with fail
              go_loopw [9, 11] (fun nv kv wr => ∃ k2 c2 : Nat, k2 ≤ rs2.length ∧ kv = .int .i64 (k2 : Int) ∧ nv = .int .i64 (c2 : Int) ∧ c2 ≤ 81 + k2 ∧ Hid (c2 = c + cntT ((rs2.map (·.o)).take k2)) ∧ w5 = wr) (fun _ kv _ => rs2.length - (intOf kv).toNat)
              case atStart => exact ⟨0, c, Nat.zero_le _, rfl, rfl, by omega, rfl, by trivial⟩
              case round =>
                obtain ⟨k2, c2, hk2, rfl, rfl, hck2, HD, rfl⟩ := hrel
                by_cases hkl2 : k2 < rs2.length
                · have g2 : decide ((k2 : Int) < (rs2.length : Int)) = true := by simp; omega
                  have k20 : (0 : Int) ≤ (k2 : Int) := by omega
                  have k21 : (k2 : Int) < (rs2.length : Int) := by omega
                  obtain ⟨g, b4, rfl, y4, hob⟩ := HRC.out k2 hkl2
                  have HC2 := Lib.hid (cntT_take hob)
                  clear hob
                  cases b4 with
                  | false =>
                    have HD3 : Hid (c2 = c + cntT ((rs2.map (·.o)).take (k2 + 1))) := by
                      have := HC2.out
                      rw [this]; exact HD.out
                    clear HC2 HD
                    go_wp2
                    go_roundw
                    case rel => exact ⟨k2 + 1, c2, by omega, by go_num, rfl, by omega, HD3.out, by trivial⟩
                    case measure => simp [intOf]; omega
                  | true =>
                    have HD3 : Hid (c2 + 1 = c + cntT ((rs2.map (·.o)).take (k2 + 1))) := by
                      have := HC2.out
                      have h9 := HD.out
                      unfold Hid
                      rw [this, if_pos rfl]; omega
                    clear HC2 HD
                    go_wp2
                    go_roundw
                    case rel => exact ⟨k2 + 1, c2 + 1, by omega, by go_num, by go_num, by omega, HD3.out, by trivial⟩
                    case measure => simp [intOf]; omega
                · have hkk2 : k2 = rs2.length := by omega
                  have g2 : decide ((k2 : Int) < (rs2.length : Int)) = false := by simp; omega
                  have he : (cntT (ws2.map (·.o)) + cntT (rs2.map (·.o))) * n = c2 * n := by
                    have h1 := HC3.out
                    have h2 := HD.out
                    rw [List.take_of_length_le (by rw [List.length_map]; omega)] at h2
                    rw [h2, h1]
                  rw [he] at HQU
                  have hub : c2 * n ≤ 200 * 256 := Nat.mul_le_mul (by omega) Hn8.out.2
                  obtain ⟨u, hu⟩ : ∃ u, u = c2 * n := ⟨_, rfl⟩
                  have hmul : (c2 : Int) * (n : Int) = (u : Int) := by rw [hu]; exact (Int.natCast_mul c2 n).symm
                  rw [← hu] at HQU hub
                  have y9 : ∀ q, (w5.drewN q).cell? ⟨w.heap.size, 0, none⟩ = some (.int .i64 n) := fun _ => HPS.out
                  have HN : Hid (∀ q, LpF w0 p sb n b (i + 1) (w5.drewN q)) := fun q => by
                    obtain ⟨nn3, ws3, fs3, rs3, e1, e2, e3, e4, e5⟩ := H5.out
                    exact ⟨nn3, ws3, fs3, rs3, e1, e2, e3, e4, e5.below (below_drewN2 (Below.refl _ _) q)⟩
                  clear he hu HD HC3 hkk2 hck2 H5 HWC HRC
                  go_wp2
                  go_quiet ((with_reducible first | exact HQA.out _ | exact HQU.out _))
                  go_wp2
                  go_roundw
                  case rel => exact ⟨i + 1, by omega, by go_num, HN.out _⟩
                  case measure => simp [intOf]; omega
      · obtain rfl : i = len1 := by omega
        have g1 : decide ((i : Int) < (i : Int)) = false := by simp
        have HE := Lib.hid (KS.out _ HL.out.bel).2
        clear HL
        go_wp2
        go_ret
        exact ⟨rfl, HE.out⟩

set_option maxRecDepth 100000 in
theorem lifted (os : Os) (started : os.Started) (H : Type) (enc : TypeId × Value → H) :
    ReturnsInHanded {} Try.checked os 4 .any (Rows.filePlaysSpec.pre6 enc Try.prog Try.f4 Rows.filePlaysRow.domain false) (Rows.filePlaysSpec.post enc Try.prog Try.f4 false true false false) := by
  refine returnsInHanded_of_change (C := Try.checked) own started (by kernel_rfl) Try.func4
    (ChangeSpec.witness6 (enc := enc) (C := Try.checked) false ⟨#[], #[.agg #[.int .i64 0, .int .i64 0, .int .i64 0], .slice none 0 0], []⟩ 8 (by kernel_rfl) (by kernel_rfl) (by kernel_rfl) (by kernel_rfl)) ?_
  intro W base args ds gs before hval0 hW hcnd _
  have hval : ∀ (j : Nat) t v, Try.f4.params[j]? = some t → args[j]? = some v → Value.okWide Try.prog W .any base t v := hval0
  have hW' := hW
  obtain ⟨p, q, hA0, hV, rfl, hfz, hnd⟩ := hW
  have hA : DataW.TrodAll enc Try.prog W 0 (fun _ => true) true Try.f4.params.toList args.toList ds p := hA0
  rw [Try.params4] at hA hval
  obtain ⟨v0, vs0, d0, ds0, p0, q0, hargs, rfl, rfl, h0, r0⟩ := trodAll_cons hA
  obtain ⟨v1, vs1, d1, ds1, p1, q1, rfl, rfl, rfl, h1, r1⟩ := trodAll_cons r0
  obtain ⟨rfl, rfl, rfl⟩ := trodAll_nil r1
  obtain rfl : args = #[v0, v1] := by cases args; simp_all
  obtain ⟨rfl, rfl⟩ := trodVars_none hV
  have k0 := h0
  have lt0 : ∀ x ∈ p0, x.block < W.heap.size := by obtain ⟨m, hm⟩ := k0; exact DataW.trod_lt m _ _ _ hm
  have k1 := h1
  have lt1 : ∀ x ∈ p1, x.block < W.heap.size := by obtain ⟨m, hm⟩ := k1; exact DataW.trod_lt m _ _ _ hm
  obtain ⟨x0, x1, x2, rfl, y0, y1, y2⟩ := open_struct3 Try.underlying23 (by kernel_rfl) (by kernel_rfl) Try.underlying3 rfl rfl rfl (hval 0 23 v0 rfl rfl) h0
  obtain ⟨a1, len1, cap1, rfl⟩ := okWide_slice Try.underlying47 (hval 1 47 v1 rfl rfl)
  obtain ⟨l1, wr1, wm1⟩ : ∃ l1, ReadsO W W.heap.size a1 len1 l1 ∧ len1 ≤ maxLen := by
    obtain ⟨fuel1, hf1⟩ := h1
    obtain ⟨a', len', cap', l', he', hr', hm'⟩ := open_opxs Try.underlying47 (by kernel_rfl) (fun n cs x h => opx_cells Try.underlying60 (by kernel_rfl) Try.underlying3 (by kernel_rfl) Try.underlying58 Try.underlying2 (by kernel_rfl) (by kernel_rfl) ⟨rfl, rfl⟩ ⟨rfl, rfl⟩ ⟨rfl, rfl⟩ ⟨rfl, rfl⟩ ⟨rfl, rfl⟩ h) hf1
    injection he' with e1 e2 e3
    subst e1; subst e2
    exact ⟨l', hr', hm'⟩
  clear hA0 hval0
  refine (walk x0 x1 x2 a1 len1 cap1 l1 W y0 y1 y2 wr1 wm1).mono fun e W' ⟨he, bel⟩ => ?_
  subst he
  exact ⟨_, rfl, _, _, _, [], _, [], hW', trodAll_mk1 (shut_bool Try.underlying4 _), (trodAll_cons_mk (Below.trod laidOut (by kernel_rfl) (of_decide_eq_true (by kernel_rfl)) k0 bel lt0) (trodAll_cons_mk (Below.trod laidOut (by kernel_rfl) (of_decide_eq_true (by kernel_rfl)) k1 bel lt1) trodAll_mk0)), rfl, bel.frame _, fun h => by cases h⟩

theorem over : Rows.filePlaysRow.holds Try.pinned (OpenSpec.ofChange Rows.filePlaysSpec) :=
  OpenClaim.holds_of_wide 4 Try.f4 rfl rfl rfl rfl rfl rfl rfl ⟨rfl, rfl, rfl, rfl, rfl⟩ rfl rfl rfl rfl rfl (by kernel_rfl) Try.func4 (by kernel_rfl)
    (of_decide_eq_true (by kernel_rfl)) (by unfold Func.isWrapper; first | (rw [if_pos (by decide +kernel)]; kernel_rfl) | (rw [if_neg (by decide +kernel)]; exact ⟨rfl, rfl⟩))
    (fun os started H enc _ => lifted os started H enc)

theorem proved : Rows.FilePlaysSaid := over
end Go.Proofs.Ytbkgpilmgllkiaa.filePlays
