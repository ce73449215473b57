/- What Lay answers, and makes of a work. -/
import Derived.Test.YtbkgpilmgllkiaaFileLay
namespace Go.Proofs.Ytbkgpilmgllkiaa
open Go.ChangeShapes Go.WideShapes Go.ChangeAt Go.RowKit

/-- Lay's answer: an error of Write, or what its writer comes to -/
def LayTo (w : World) (G : Nat → Prop) (p : Wp) (F : Fs) (n : Nat) (width : Int) (l : List Tup) (e : Ending) (w' : World) : Prop :=
  (∃ er, e = .returned (.tuple #[fileV 0 0 0 0, .int .i64 er]) ∧ WErr F width (l.length : Int) er ∧ SysTo w G p F n w') ∨
  (∃ t S1, (WArgs F width (l.length : Int) ∧ F.D.size ≤ F.A.room - F.A.used ∧ (t.k : Int) = width ∧ t.h = holdsI F.D.size width ∧ t.blocks = blocksN t.h l.length ∧ Taken F.S S1 t.first t.blocks ∧ t.first ≤ 2000000 ∧ ∀ q ∈ F.A.st, q.1 ≠ t.b) ∧
    ((∃ er, e = .returned (.tuple #[fileV 0 0 0 0, .int .i64 er]) ∧ LayUnfit w G p F n t l er w') ∨ (∃ er, e = .returned (.tuple #[fileV 0 0 0 0, .int .i64 er]) ∧ LayDead w G p F n t l er w') ∨
     (e = .returned (.tuple #[fileV t.first t.blocks t.k l.length, .int .i64 0]) ∧ LayDone w G p F n t S1 l w')))
section
variable {w w0 wr : World} {G : Nat → Prop} {p : Wp} {F : Fs} {n x : Nat} {t : Wt} {S1 : Sp} {l : List Tup}
theorem lay_own {F' : Fs} {n' R : Nat} {w3 : World} (h : SysTo w0 G p F' n' wr) (hb0 : Below w.heap.size w w0) (hG : ∀ k, G k → k < w.heap.size) (hR1 : w.heap.size ≤ R) (hR2 : R < w0.heap.size) (hst : ∀ q ∈ F'.A.st, q.1 ≠ R) (hf : Far (fun k => k = R) wr w3) : SysTo w G p F' n' w3 := h.own hb0 hR1 hR2 hG hst hf
end

set_option maxHeartbeats 4000000 in
set_option maxRecDepth 100000 in
theorem flay_any {w : World} {G : Nat → Prop} {p : Wp} {F : Fs} {n : Nat} (h : Sys w G p F n) (width : Int) {A : Option Addr} {m c : Nat} {l : List Tup} (hl : ReadsT w w.heap.size A m l) (hlG : 0 < m → ∀ b off, A = some ⟨b, off, none⟩ → ¬ G b) (hn : n + l.length + 1 ≤ 1000000) :
    Calls Try.prog 11 #[.pointer (some ⟨p.w, 0, none⟩), .int .i64 width, .slice A m c] w (LayTo w G p F n width l) := by
  obtain ⟨w0, hw0⟩ : ∃ w0, w0 = w.alloc (.cells #[.int .i64 0, .int .i64 0, .int .i64 0, .int .i64 0] 30) := ⟨_, rfl⟩
  have hb0 : Below w.heap.size w w0 := by rw [hw0]; exact (Below.refl w.heap.size w).alloc (Nat.le_refl _) _
  have hr0 : Row w0 w.heap.size 30 [.int .i64 0, .int .i64 0, .int .i64 0, .int .i64 0] := by rw [hw0]; exact heap_alloc_new _ _
  have hlen := hl.1
  have HG : Hid (∀ k, G k → k < w.heap.size) := fun k hk => h.lt hk
  have hwri : Calls Try.prog 34 #[.pointer (some ⟨p.w, 0, none⟩), .int .i64 width, .int .i64 m] (w.alloc (.cells #[.int .i64 0, .int .i64 0, .int .i64 0, .int .i64 0] 30)) (WriteTo w0 G p F n width (m : Int)) := by rw [← hw0]; exact fwrite_any (h.below hb0) width (m : Int)
  have HWRI := Lib.hid hwri
  have HB0 : Hid (Below w.heap.size w w0) := hb0
  have HR0 : Hid (Row w0 w.heap.size 30 [.int .i64 0, .int .i64 0, .int .i64 0, .int .i64 0]) := hr0
  have HST : Hid (∀ q ∈ F.A.st, q.1 < w.heap.size) := fun q hq => (h.buf hq).1.lt
  have HSOK := Lib.hid h.sok
  have HLR : Hid (ReadsT w0 w.heap.size A m l) := hl.keep hb0
  have HLG := Lib.hid hlG
  have HNGR : Hid (¬ G w.heap.size) := fun hg => by have := HG.out _ hg; omega
  have HN := Lib.hid hn
  have HLEN := Lib.hid hlen
  clear hwri hl hlG hn hb0 hr0 h hw0
  subst hlen
  generalize hPO : LayTo w G p F n width l = POST at *
  replace hPO := Lib.hid hPO
  go_enter_defers Try.func11, Try.ntmps11
  go_wp2_with fail
  refine HWRI.out.mono ?_
  rintro e w1 (⟨er, rfl, hwe, hs1⟩ | ⟨x, t, S1, rfl, hwa, hrm, htk, htb, hth, htl, htbl, htt, hok, hN⟩)
  · have HR1 : Hid (Row w1 w.heap.size 30 [.int .i64 0, .int .i64 0, .int .i64 0, .int .i64 0]) := hs1.row HR0.out HNGR.out
    have HS1 := Lib.hid hs1
    have HWE := Lib.hid hwe
    clear hs1 hwe HWRI
    have her : (er != 0) = true := by
      rcases HWE.out with ⟨rfl, _⟩ | ⟨rfl, _⟩ | ⟨rfl, _⟩ <;> rfl
    have z0 : w1.cell? ⟨w.heap.size, 0, none⟩ = some (.int .i64 0) := HR1.out.cell 0
    have z1 : w1.cell? ⟨w.heap.size, 1, none⟩ = some (.int .i64 0) := HR1.out.cell 1
    have z2 : w1.cell? ⟨w.heap.size, 2, none⟩ = some (.int .i64 0) := HR1.out.cell 2
    have z3 : w1.cell? ⟨w.heap.size, 3, none⟩ = some (.int .i64 0) := HR1.out.cell 3
    have f0 := HR1.out.free 0
    have f1 := HR1.out.free 1
    have f2 := HR1.out.free 2
    have f3 := HR1.out.free 3
    go_wp2
    have HR9 : Hid (Row ((((w1.setCell ⟨w.heap.size, 0, none⟩ (.int .i64 0)).setCell ⟨w.heap.size, 1, none⟩ (.int .i64 0)).setCell ⟨w.heap.size, 2, none⟩ (.int .i64 0)).setCell ⟨w.heap.size, 3, none⟩ (.int .i64 0)) w.heap.size 30 [.int .i64 0, .int .i64 0, .int .i64 0, .int .i64 0]) := (((HR1.out.set 0 (.int .i64 0)).set 1 (.int .i64 0)).set 2 (.int .i64 0)).set 3 (.int .i64 0)
    have HF9 := Lib.hid (Far.four w1 w.heap.size (.int .i64 0) (.int .i64 0) (.int .i64 0) (.int .i64 0))
    have r0 := HR9.out.cell 0
    have r1 := HR9.out.cell 1
    have r2 := HR9.out.cell 2
    have r3 := HR9.out.cell 3
    simp only [List.getElem?_cons_zero, List.getElem?_cons_succ] at r0 r1 r2 r3
    exact ⟨.tuple #[.agg #[.int .i64 0, .int .i64 0, .int .i64 0, .int .i64 0], .int .i64 er], by simp [results, Try.results11, go_sem, r0, r1, r2, r3], by rw [← hPO.out]; exact .inl ⟨er, rfl, HWE.out, lay_own HS1.out HB0.out HG.out (Nat.le_refl _) HR0.out.lt (fun q hq => Nat.ne_of_lt (HST.out q hq)) HF9.out⟩⟩
  · obtain ⟨k1, k2, k3, G1, k4, k5, k6, k7, k8⟩ := hN
    have hwp := hok.h.1
    have hlb : l.length ≤ 1000000 := by have := HN.out; omega
    have hbb : t.bound = l.length := by omega
    have HOK : Hid (LayOk w0 F n x t S1 l) := ⟨HN.out, HSOK.out, htt, by rw [htbl, hbb], hok, hbb, k1, k2, k3, fun q hq => Nat.lt_of_lt_of_le (HST.out q hq) HB0.out.size⟩
    have HTOP : Hid (WArgs F width (l.length : Int) ∧ F.D.size ≤ F.A.room - F.A.used ∧ (t.k : Int) = width ∧ t.h = holdsI F.D.size width ∧ t.blocks = blocksN t.h l.length ∧ Taken F.S S1 t.first t.blocks ∧ t.first ≤ 2000000 ∧ ∀ q ∈ F.A.st, q.1 ≠ t.b) := ⟨hwa, hrm, htk, hth, by rw [htbl, hbb], htt, hok.first, fun q hq e => by have := HST.out q hq; have := HB0.out.size; omega⟩
    have HAT0 : Hid (LayAt w0 G p F n x t S1 l 0 w1) := by
      refine ⟨G1, F.D, k4, ?_, ⟨k6.x, k6.b, k6.g⟩, k7, k8, ?_, wstand_nil (by unfold tk; simp), by simp⟩
      · have e : tk t l 0 = t := by unfold tk; rw [List.take_zero, ← htl]
        rw [e]; exact k5
      · rw [Nat.zero_div]; exact Wrote.refl _
    have HEND : Hid (∀ (F' : Fs) (n' : Nat) w8 w9, (∀ q ∈ F'.A.st, q ∈ F.A.st ∨ q.1 = t.b) → SysTo w0 G p F' n' w8 → Far (fun k => k = w.heap.size) w8 w9 → SysTo w G p F' n' w9) := fun F' n' w8 w9 hst hs hf => lay_own hs HB0.out HG.out (Nat.le_refl _) HR0.out.lt (fun q hq e => by
      rcases hst q hq with h | h
      · have := HST.out q h; omega
      · have := HR0.out.lt; omega) hf
    clear hwa hrm htk hth hwp htbl htt hok k1 k2 k3 k4 k5 k6 k7 k8 HWRI hbb htl htb
    go_wp2_with fail
    go_loopw [28] (fun iv wr => ∃ i : Nat, i ≤ l.length ∧ iv = .int .i64 (i : Int) ∧ Hid (LayAt w0 G p F n x t S1 l i wr)) (fun iv _ => l.length - (intOf iv).toNat)
    case atStart => exact ⟨0, Nat.zero_le _, rfl, HAT0.out⟩
    case round =>
      obtain ⟨i, hi, rfl, HAT⟩ := hrel
      by_cases hlt : i < l.length
      · have hfw : Far G w0 wr := by obtain ⟨_, _, _, _, _, h, _⟩ := HAT.out; exact h
        obtain ⟨bb, off, tu, rfl, hbl, q0, q1, q2, q3, q4, _, htu⟩ := (HLR.out.far HB0.out.size hfw fun hm b off e => HLG.out hm b off e).at_ hlt
        have hi0 : (0 : Int) ≤ (i : Int) := by omega
        have hi1 : (i : Int) < (l.length : Int) := by omega
        have g0 : decide ((i : Int) < (l.length : Int)) = true := by simpa using hlt
        have HPUT := Lib.hid (lay_put HOK.out HAT.out hlt htu.out ((Below.refl wr.heap.size wr).alloc (Nat.le_refl _) (.cells #[.int .i64 tu.a, .int .i64 tu.b, .int .i64 tu.c, .int .i64 tu.d, .int .i64 tu.e] 58)))
        clear hfw
        obtain ⟨ta, tb, tc, td, te⟩ := tu
        simp only at q0 q1 q2 q3 q4 HPUT
        go_wp2_with fail
        refine HPUT.out.mono ?_
        rintro e w5 ⟨er, rfl, ⟨rfl, hno, hat⟩ | ⟨rfl, hat⟩ | ⟨hdead, l', hsh1, hsh2⟩⟩
        · have hfw : Far G w0 w5 := by obtain ⟨_, _, _, _, _, h, _⟩ := hat; exact h
          have HR5 : Hid (Row w5 w.heap.size 30 [.int .i64 0, .int .i64 0, .int .i64 0, .int .i64 0]) := hfw.row HR0.out HNGR.out
          have HAT5 := Lib.hid hat
          have HNO := Lib.hid hno
          clear hfw hat hno HPUT q0 q1 q2 q3 q4 HAT
          have z0 : w5.cell? ⟨w.heap.size, 0, none⟩ = some (.int .i64 0) := HR5.out.cell 0
          have z1 : w5.cell? ⟨w.heap.size, 1, none⟩ = some (.int .i64 0) := HR5.out.cell 1
          have z2 : w5.cell? ⟨w.heap.size, 2, none⟩ = some (.int .i64 0) := HR5.out.cell 2
          have z3 : w5.cell? ⟨w.heap.size, 3, none⟩ = some (.int .i64 0) := HR5.out.cell 3
          have f0 := HR5.out.free 0
          have f1 := HR5.out.free 1
          have f2 := HR5.out.free 2
          have f3 := HR5.out.free 3
          have HR9 : Hid (Row ((((w5.setCell ⟨w.heap.size, 0, none⟩ (.int .i64 0)).setCell ⟨w.heap.size, 1, none⟩ (.int .i64 0)).setCell ⟨w.heap.size, 2, none⟩ (.int .i64 0)).setCell ⟨w.heap.size, 3, none⟩ (.int .i64 0)) w.heap.size 30 [.int .i64 0, .int .i64 0, .int .i64 0, .int .i64 0]) := (((HR5.out.set 0 (.int .i64 0)).set 1 (.int .i64 0)).set 2 (.int .i64 0)).set 3 (.int .i64 0)
          have HF9 := Lib.hid (Far.four w5 w.heap.size (.int .i64 0) (.int .i64 0) (.int .i64 0) (.int .i64 0))
          have HDR := fun u => lay_drop u HOK.out HAT5.out (Nat.le_of_lt hlt) HB0.out HG.out (Nat.le_refl _) HR0.out.lt HR5.out HF9.out HR9.out
          replace HDR := Lib.hid HDR
          clear HAT5 HR9 HF9
          go_wp2
          refine leaves_cons (f := 32) (args := #[.pointer (some ⟨x, 0, none⟩)]) (by simp) (by simp [go_sem]) ?_
          refine (HDR.out _).mono ?_
          rintro e u' w'' ⟨rfl, rfl, hr9, D', m, hw9, hs9⟩
          have HR10 := Lib.hid hr9
          have HFN : Hid (POST (.returned (.tuple #[.agg #[.int .i64 0, .int .i64 0, .int .i64 0, .int .i64 0], .int .i64 1])) w'') := by rw [← hPO.out]; exact .inr ⟨t, S1, HTOP.out, .inl ⟨1, rfl, rfl, HNO.out, D', m, hw9, hs9⟩⟩
          have r0 := HR10.out.cell 0
          have r1 := HR10.out.cell 1
          have r2 := HR10.out.cell 2
          have r3 := HR10.out.cell 3
          simp only [List.getElem?_cons_zero, List.getElem?_cons_succ] at r0 r1 r2 r3
          exact ⟨.tuple #[.agg #[.int .i64 0, .int .i64 0, .int .i64 0, .int .i64 0], .int .i64 1], by simp [results, Try.results11, go_sem, r0, r1, r2, r3], HFN.out⟩
        · have HAT5 := Lib.hid hat
          clear hat HPUT q0 q1 q2 q3 q4 HAT
          go_wp2
          go_roundw
          case rel => exact ⟨i + 1, by omega, by go_num, HAT5.out⟩
          case measure => simp [intOf]; omega
        · obtain ⟨hne, D1, m, j, ws, e1, e2, e3, e4, hs5⟩ := hdead
          have HR5 : Hid (Row w5 w.heap.size 30 [.int .i64 0, .int .i64 0, .int .i64 0, .int .i64 0]) := hs5.row HR0.out HNGR.out
          have her : (er != 0) = true := by simpa using hne
          have z0 : w5.cell? ⟨w.heap.size, 0, none⟩ = some (.int .i64 0) := HR5.out.cell 0
          have z1 : w5.cell? ⟨w.heap.size, 1, none⟩ = some (.int .i64 0) := HR5.out.cell 1
          have z2 : w5.cell? ⟨w.heap.size, 2, none⟩ = some (.int .i64 0) := HR5.out.cell 2
          have z3 : w5.cell? ⟨w.heap.size, 3, none⟩ = some (.int .i64 0) := HR5.out.cell 3
          have f0 := HR5.out.free 0
          have f1 := HR5.out.free 1
          have f2 := HR5.out.free 2
          have f3 := HR5.out.free 3
          have HR9 : Hid (Row ((((w5.setCell ⟨w.heap.size, 0, none⟩ (.int .i64 0)).setCell ⟨w.heap.size, 1, none⟩ (.int .i64 0)).setCell ⟨w.heap.size, 2, none⟩ (.int .i64 0)).setCell ⟨w.heap.size, 3, none⟩ (.int .i64 0)) w.heap.size 30 [.int .i64 0, .int .i64 0, .int .i64 0, .int .i64 0]) := (((HR5.out.set 0 (.int .i64 0)).set 1 (.int .i64 0)).set 2 (.int .i64 0)).set 3 (.int .i64 0)
          have HF9 := Lib.hid (Far.four w5 w.heap.size (.int .i64 0) (.int .i64 0) (.int .i64 0) (.int .i64 0))
          have HS9 := Lib.hid (HEND.out _ _ _ _ layE_st hs5 HF9.out)
          have HFN : Hid (POST (.returned (.tuple #[.agg #[.int .i64 0, .int .i64 0, .int .i64 0, .int .i64 0], .int .i64 er])) ((((w5.setCell ⟨w.heap.size, 0, none⟩ (.int .i64 0)).setCell ⟨w.heap.size, 1, none⟩ (.int .i64 0)).setCell ⟨w.heap.size, 2, none⟩ (.int .i64 0)).setCell ⟨w.heap.size, 3, none⟩ (.int .i64 0))) := by rw [← hPO.out]; exact .inr ⟨t, S1, HTOP.out, .inr (.inl ⟨er, rfl, hne, D1, m, j, ws, e1, e2, e3, e4, HS9.out⟩)⟩
          have hsh : Hid (Row ((((w5.setCell ⟨w.heap.size, 0, none⟩ (.int .i64 0)).setCell ⟨w.heap.size, 1, none⟩ (.int .i64 0)).setCell ⟨w.heap.size, 2, none⟩ (.int .i64 0)).setCell ⟨w.heap.size, 3, none⟩ (.int .i64 0)) x 136 (wrC p { t with l := l' })) ∧ Hid (Row ((((w5.setCell ⟨w.heap.size, 0, none⟩ (.int .i64 0)).setCell ⟨w.heap.size, 1, none⟩ (.int .i64 0)).setCell ⟨w.heap.size, 2, none⟩ (.int .i64 0)).setCell ⟨w.heap.size, 3, none⟩ (.int .i64 0)) t.b 130 [.slice none 0 0]) := ⟨HF9.out.row hsh1 (fun e => by have := HOK.out.x; have := HR0.out.lt; omega), HF9.out.row hsh2 (fun e => by have := HOK.out.b; have := HR0.out.lt; omega)⟩
          clear hne e1 e2 e3 e4 hs5 HS9 HF9 hsh1 hsh2 HPUT q0 q1 q2 q3 q4 HAT
          go_wp2
          refine leaves_cons (f := 32) (args := #[.pointer (some ⟨x, 0, none⟩)]) (by simp) (by simp [go_sem]) ?_
          refine (wdrop_def_shut _ (hsh.1.out) (hsh.2.out)).mono ?_
          rintro e u' w'' ⟨rfl, rfl, rfl⟩
          have r0 := HR9.out.cell 0
          have r1 := HR9.out.cell 1
          have r2 := HR9.out.cell 2
          have r3 := HR9.out.cell 3
          simp only [List.getElem?_cons_zero, List.getElem?_cons_succ] at r0 r1 r2 r3
          exact ⟨.tuple #[.agg #[.int .i64 0, .int .i64 0, .int .i64 0, .int .i64 0], .int .i64 er], by simp [results, Try.results11, go_sem, r0, r1, r2, r3], HFN.out⟩
      · obtain rfl : i = l.length := by omega
        have g0 : decide ((l.length : Int) < (l.length : Int)) = false := by simp
        have HCL := Lib.hid (lay_close HOK.out HAT.out)
        unfold fileV at HCL
        clear HAT
        go_wp2_with fail
        refine HCL.out.mono ?_
        rintro e w5 ⟨er, x1, x2, x3, x4, rfl, ⟨l', hsh1, hsh2⟩, hcase⟩
        have hs5 : Row w5 w.heap.size 30 [.int .i64 0, .int .i64 0, .int .i64 0, .int .i64 0] := by
          rcases hcase with ⟨_, _, _, _, _, _, h⟩ | ⟨_, _, _, _, _, _, _, _, _, _, h⟩
          · exact h.row HR0.out HNGR.out
          · exact h.row HR0.out HNGR.out
        have HR5 := Lib.hid hs5
        have z0 : w5.cell? ⟨w.heap.size, 0, none⟩ = some (.int .i64 0) := HR5.out.cell 0
        have z1 : w5.cell? ⟨w.heap.size, 1, none⟩ = some (.int .i64 0) := HR5.out.cell 1
        have z2 : w5.cell? ⟨w.heap.size, 2, none⟩ = some (.int .i64 0) := HR5.out.cell 2
        have z3 : w5.cell? ⟨w.heap.size, 3, none⟩ = some (.int .i64 0) := HR5.out.cell 3
        have f0 := HR5.out.free 0
        have f1 := HR5.out.free 1
        have f2 := HR5.out.free 2
        have f3 := HR5.out.free 3
        have HR9 : Hid (Row ((((w5.setCell ⟨w.heap.size, 0, none⟩ (.int .i64 x1)).setCell ⟨w.heap.size, 1, none⟩ (.int .i64 x2)).setCell ⟨w.heap.size, 2, none⟩ (.int .i64 x3)).setCell ⟨w.heap.size, 3, none⟩ (.int .i64 x4)) w.heap.size 30 [.int .i64 x1, .int .i64 x2, .int .i64 x3, .int .i64 x4]) := (((HR5.out.set 0 (.int .i64 x1)).set 1 (.int .i64 x2)).set 2 (.int .i64 x3)).set 3 (.int .i64 x4)
        have HF9 := Lib.hid (Far.four w5 w.heap.size (.int .i64 x1) (.int .i64 x2) (.int .i64 x3) (.int .i64 x4))
        have HFN : Hid (POST (.returned (.tuple #[.agg #[.int .i64 x1, .int .i64 x2, .int .i64 x3, .int .i64 x4], .int .i64 er])) ((((w5.setCell ⟨w.heap.size, 0, none⟩ (.int .i64 x1)).setCell ⟨w.heap.size, 1, none⟩ (.int .i64 x2)).setCell ⟨w.heap.size, 2, none⟩ (.int .i64 x3)).setCell ⟨w.heap.size, 3, none⟩ (.int .i64 x4))) := by
          rw [← hPO.out]
          rcases hcase with ⟨rfl, ⟨rfl, rfl, rfl, rfl⟩, e1, D', e2, e3, e4⟩ | ⟨⟨rfl, rfl, rfl, rfl⟩, hne, D1, m, j, ws, e1, e2, e3, e4, e5⟩
          · exact .inr ⟨t, S1, HTOP.out, .inr (.inr ⟨rfl, e1, D', e2, e3, HEND.out _ _ _ _ layE_st e4 HF9.out⟩)⟩
          · exact .inr ⟨t, S1, HTOP.out, .inr (.inl ⟨er, rfl, hne, D1, m, j, ws, e1, e2, e3, e4, HEND.out _ _ _ _ layE_st e5 HF9.out⟩)⟩
        have hsh : Hid (Row ((((w5.setCell ⟨w.heap.size, 0, none⟩ (.int .i64 x1)).setCell ⟨w.heap.size, 1, none⟩ (.int .i64 x2)).setCell ⟨w.heap.size, 2, none⟩ (.int .i64 x3)).setCell ⟨w.heap.size, 3, none⟩ (.int .i64 x4)) x 136 (wrC p { t with l := l' })) ∧ Hid (Row ((((w5.setCell ⟨w.heap.size, 0, none⟩ (.int .i64 x1)).setCell ⟨w.heap.size, 1, none⟩ (.int .i64 x2)).setCell ⟨w.heap.size, 2, none⟩ (.int .i64 x3)).setCell ⟨w.heap.size, 3, none⟩ (.int .i64 x4)) t.b 130 [.slice none 0 0]) := ⟨HF9.out.row hsh1 (fun e => by have := HOK.out.x; have := HR0.out.lt; omega), HF9.out.row hsh2 (fun e => by have := HOK.out.b; have := HR0.out.lt; omega)⟩
        clear hcase hs5 HF9 hsh1 hsh2 HCL
        go_wp2
        refine leaves_cons (f := 32) (args := #[.pointer (some ⟨x, 0, none⟩)]) (by simp) (by simp [go_sem]) ?_
        refine (wdrop_def_shut _ (hsh.1.out) (hsh.2.out)).mono ?_
        rintro e u' w'' ⟨rfl, rfl, rfl⟩
        have r0 := HR9.out.cell 0
        have r1 := HR9.out.cell 1
        have r2 := HR9.out.cell 2
        have r3 := HR9.out.cell 3
        simp only [List.getElem?_cons_zero, List.getElem?_cons_succ] at r0 r1 r2 r3
        exact ⟨.tuple #[.agg #[.int .i64 x1, .int .i64 x2, .int .i64 x3, .int .i64 x4], .int .i64 er], by simp [results, Try.results11, go_sem, r0, r1, r2, r3], HFN.out⟩
end Go.Proofs.Ytbkgpilmgllkiaa
