/-
  DeviceKeeps: for whatever acts, whether all or nothing is kept; no condition.
-/
import Derived.Test.YtcnmbddlaaopgaaRows
import Derived.Test.YtcnmbddlaaopgaaDevMore
import Derived.WalkKit
import Derived.ProofKit
import Derived.OpenShut
import Derived.ShutString
import Derived.ChangeOld
import Derived.Below
namespace Go.Proofs.Ytcnmbddlaaopgaa.deviceKeeps
open Go.ChangeShapes Go.WideShapes Go.ChangeAt Go.RowKit
open Go.ChangeMaps (open_string shut_string)
set_option linter.unusedVariables false

theorem own : ownKnob Try.prog.godebug = none := by kernel_rfl
theorem laidOut : laidOutB Try.prog = true := by kernel_rfl

theorem infoB : (Try.prog.info? 4).map (fun i => (i.zero, i.size, i.bytes)) = some (some (.bool false), 1, 1) := by kernel_rfl

set_option maxHeartbeats 4000000 in
set_option maxRecDepth 100000 in
theorem walk (a0 : Option Addr) (len0 cap0 : Nat) (l0 : List OpV) (a1 : Bool) (w : World) (wr0 : ReadsO w w.heap.size a0 len0 l0) (wm0 : len0 ≤ maxLen) :
    Calls Try.prog 3 #[.slice a0 len0 cap0, .bool a1] w fun e w' => e = .returned (.bool true) ∧ Below w.heap.size w w' := by
  have hm0 : len0 ≤ 9223372036854775807 := by unfold maxLen at wm0; omega
  have HR0 := Lib.hid wr0
  go_enter Try.func3, Try.ntmps3
  go_wp2_with fail
  refine (awake_any _).mono ?_; rintro e w1 ⟨rfl, hb1⟩
  have HB1 := Lib.hid hb1
  have hs1 := hb1.size
  have hfew := few_any a0 len0 cap0 l0 w1 (HR0.out.keep hb1) wm0
  clear hb1 wr0 wm0
  go_wp2_with fail
  refine hfew.mono ?_; rintro e w2 ⟨r, rfl, rfl, hr80⟩
  clear hfew
  cases r
  · go_wp2_with fail
    refine (awake_any _).mono ?_; rintro e w3 ⟨rfl, hb3⟩
    have HB3 := Lib.hid (HB1.out.trans (hb3.mono hs1))
    clear hb3
    go_wp2
    go_ret
    exact ⟨rfl, HB3.out⟩
  have h80 : len0 ≤ 80 := hr80 rfl
  clear hr80 hm0
  go_wp2_with fail
  refine (new_any 8 6 _ (by omega) (by omega)).mono ?_; rintro e w3 ⟨p, G, rfl, hd3, hG3, hb3⟩
  have HB3 := Lib.hid (HB1.out.trans (hb3.mono hs1))
  have hs3 := HB3.out.size
  have HG3 : Hid (∀ k, G k → w.heap.size ≤ k) := fun k hk => Nat.le_trans hs1 (hG3 k hk)
  obtain ⟨nb, hnb⟩ : ∃ nb, w3.heap.size = nb := ⟨_, rfl⟩
  have hNG : ∀ j, nb ≤ j → ¬ G j := fun j hj h => by have := hd3.lt h; omega
  have HNG := Lib.hid hNG
  have hz0 : ([0, 0, 0, 0, 0, 0] : List Nat) = [0, 0, 0, 0, 0, 0] := rfl
  have hr4 : Row ((w3.alloc (.cells #[.int .u64 0, .int .u64 0, .int .u64 0, .int .u64 0, .int .u64 0, .int .u64 0] 30)).alloc (.cells #[.int .u64 0, .int .u64 0, .int .u64 0, .int .u64 0, .int .u64 0, .int .u64 0] 30)) nb 30 (arr [0, 0, 0, 0, 0, 0]) := by
    have : Row (w3.alloc (.cells #[.int .u64 0, .int .u64 0, .int .u64 0, .int .u64 0, .int .u64 0, .int .u64 0] 30)) w3.heap.size 30 (arr [0, 0, 0, 0, 0, 0]) := heap_alloc_new _ _
    rw [← hnb]; exact this.alloc _
  have hr4' : Row ((w3.alloc (.cells #[.int .u64 0, .int .u64 0, .int .u64 0, .int .u64 0, .int .u64 0, .int .u64 0] 30)).alloc (.cells #[.int .u64 0, .int .u64 0, .int .u64 0, .int .u64 0, .int .u64 0, .int .u64 0] 30)) (nb + 1) 30 (arr [0, 0, 0, 0, 0, 0]) := by
    have : Row _ (w3.alloc (.cells #[.int .u64 0, .int .u64 0, .int .u64 0, .int .u64 0, .int .u64 0, .int .u64 0] 30)).heap.size 30 (arr [0, 0, 0, 0, 0, 0]) := heap_alloc_new (w3.alloc (.cells #[.int .u64 0, .int .u64 0, .int .u64 0, .int .u64 0, .int .u64 0, .int .u64 0] 30)) (.cells #[.int .u64 0, .int .u64 0, .int .u64 0, .int .u64 0, .int .u64 0, .int .u64 0] 30)
    rw [← hnb]
    simpa using this
  have hbb := ((Below.refl w3.heap.size w3).alloc (Nat.le_refl _) (.cells #[.int .u64 0, .int .u64 0, .int .u64 0, .int .u64 0, .int .u64 0, .int .u64 0] 30)).alloc (by simp) (.cells #[.int .u64 0, .int .u64 0, .int .u64 0, .int .u64 0, .int .u64 0, .int .u64 0] 30)
  have HD4 := Lib.hid (hd3.below hbb)
  have HB4 := Lib.hid (HB3.out.trans (hbb.mono hs3))
  have HR4 := Lib.hid hr4
  have HR4' := Lib.hid hr4'
  have hnb0 : w.heap.size ≤ nb := by omega
  clear hb3 hd3 hG3 hbb hr4 hr4' hNG hz0
  go_wp2
  go_loopw [9, 10] (fun nv iv wr => ∃ (i : Nat) (nw sy : List Nat) (G' : Nat → Prop) (s : St), i ≤ len0 ∧ iv = .int .i64 (i : Int) ∧ nv = .int .i64 (s.later.length : Int) ∧ s.later.length ≤ i ∧ Hid (Says s nw sy) ∧ Hid (Dev wr G' p s i) ∧ Hid (Row wr nb 30 (arr nw)) ∧ Hid (Row wr (nb + 1) 30 (arr sy)) ∧ Hid (∀ k, G' k → w.heap.size ≤ k ∧ k ≠ nb ∧ k ≠ nb + 1) ∧ Hid (Below w.heap.size w wr)) (fun _ iv _ => len0 - (intOf iv).toNat)
  case atStart => exact ⟨0, _, _, G, fresh 8 6, by omega, rfl, rfl, Nat.le_refl _, says_fresh, HD4.out, HR4.out, HR4'.out, fun k hk => ⟨HG3.out k hk, fun e => HNG.out k (by omega) hk, fun e => HNG.out k (by omega) hk⟩, HB4.out⟩
  case round =>
    obtain ⟨i, nw, sy, G', s, hi, rfl, rfl, hcnt, HS, HD, HN, HY, HG, HB⟩ := hrel
    by_cases hlt : i < len0
    · obtain ⟨b, off, o, rfl, hbb, d0, d1, d2, d3, d4, ho, _⟩ := (HR0.out.keep HB.out).at_ hlt
      obtain ⟨ok, oi, ox, od, ka, kl, kc⟩ := o
      obtain ⟨_, _, wx, _⟩ := ho
      simp only at d0 d1 d2 d3 d4 wx
      obtain ⟨x, rfl⟩ := Int.eq_ofNat_of_zero_le (u64_nonneg _ wx)
      obtain ⟨u, hu, _⟩ := wrap_nat oi
      obtain ⟨k, hk⟩ : ∃ k, u % 6 = k := ⟨_, rfl⟩
      have hk6 : k < 6 := by omega
      have hm : (u : Int) % 6 = (k : Int) := by omega
      have hj0 : (0 : Int) ≤ (i : Int) := by omega
      have hj1 : (i : Int) < (len0 : Int) := by omega
      have hbw : b < wr.heap.size := by have := HB.out.size; omega
      clear hk
      have hob : Row (wr.alloc (.cells #[.int .i64 ok, .int .i64 oi, .int .u64 (x : Int), .bool od, .slice ka kl kc] 33)) wr.heap.size 33 [.int .i64 ok, .int .i64 oi, .int .u64 (x : Int), .bool od, .slice ka kl kc] := heap_alloc_new _ _
      have HOB := Lib.hid hob
      have hbo := (Below.refl wr.heap.size wr).alloc (Nat.le_refl _) (.cells #[.int .i64 ok, .int .i64 oi, .int .u64 (x : Int), .bool od, .slice ka kl kc] 33)
      have HDO := Lib.hid (HD.out.below hbo)
      have HNO := Lib.hid (HN.out.alloc (.cells #[.int .i64 ok, .int .i64 oi, .int .u64 (x : Int), .bool od, .slice ka kl kc] 33))
      have HYO := Lib.hid (HY.out.alloc (.cells #[.int .i64 ok, .int .i64 oi, .int .u64 (x : Int), .bool od, .slice ka kl kc] 33))
      have hsr := HB.out.size
      have HBO := Lib.hid (HB.out.trans (hbo.mono hsr))
      have HNOB : Hid (¬ G' wr.heap.size ∧ ¬ G' (wr.heap.size + 1)) := ⟨fun h => by have := HD.out.lt h; omega, fun h => by have := HD.out.lt h; omega⟩
      have hsy1 : nb + 1 < wr.heap.size := HY.out.lt
      have HZO : Hid ((wr.alloc (.cells #[.int .i64 ok, .int .i64 oi, .int .u64 (x : Int), .bool od, .slice ka kl kc] 33)).heap.size = wr.heap.size + 1) := by unfold Hid; simp
      clear hob hbo
      by_cases h2 : ok = 2
      · have gk : (ok == 2) = true := by simp [h2]
        have gk3 : (ok == 3) = false := by simp [h2]
        clear h2
        have hbl := (Below.refl (wr.alloc (.cells #[.int .i64 ok, .int .i64 oi, .int .u64 (x : Int), .bool od, .slice ka kl kc] 33)).heap.size (wr.alloc (.cells #[.int .i64 ok, .int .i64 oi, .int .u64 (x : Int), .bool od, .slice ka kl kc] 33))).alloc (Nat.le_refl _) (.cells ((wordsOf x).map fun c : Nat => Value.int .u64 c).toArray 29)
        have hrd := alloc_reads (k := .u64) (wr.alloc (.cells #[.int .i64 ok, .int .i64 oi, .int .u64 (x : Int), .bool od, .slice ka kl kc] 33)) 29 _ (wordsOf x) rfl (wordsOf_wf (u64_lt wx))
        have hwr := write_any p s i G' (k : Int) (some ⟨(wr.alloc (.cells #[.int .i64 ok, .int .i64 oi, .int .u64 (x : Int), .bool od, .slice ka kl kc] 33)).heap.size, 0, none⟩) 8 8 (wordsOf x) _ (HDO.out.below hbl) (by omega) (I64.of (by omega) (by omega)) hrd (by simp)
        obtain ⟨y1, y2, y3⟩ := says_write HS.out (z := x) hk6
        rw [y1] at hwr
        have HB5 := Lib.hid (HBO.out.trans (hbl.mono (by rw [HZO.out]; omega)))
        have HN5 := Lib.hid (HNO.out.alloc (.cells ((wordsOf x).map fun c : Nat => Value.int .u64 c).toArray 29))
        have HY5 := Lib.hid (HYO.out.alloc (.cells ((wordsOf x).map fun c : Nat => Value.int .u64 c).toArray 29))
        have HO5 := Lib.hid (HOB.out.alloc (.cells ((wordsOf x).map fun c : Nat => Value.int .u64 c).toArray 29))
        have HZ5 : Hid (((wr.alloc (.cells #[.int .i64 ok, .int .i64 oi, .int .u64 (x : Int), .bool od, .slice ka kl kc] 33)).alloc (.cells ((wordsOf x).map fun c : Nat => Value.int .u64 c).toArray 29)).heap.size = wr.heap.size + 2) := by unfold Hid; simp
        have HS5 := Lib.hid y2
        have HC5 := Lib.hid y3
        clear hbl hrd y1 y2 y3
        rw [HZO.out] at hwr
        go_wp2_with fail
        refine (show Calls Try.prog 11 #[.pointer (some ⟨p, 0, none⟩), .int .i64 (k : Int), .slice (some ⟨wr.heap.size + 1, 0, none⟩) 8 8] ((wr.alloc (.cells #[.int .i64 ok, .int .i64 oi, .int .u64 (x : Int), .bool od, .slice ka kl kc] 33)).alloc (.cells #[.int .u64 (x : Int), .int .u64 0, .int .u64 0, .int .u64 0, .int .u64 0, .int .u64 0, .int .u64 0, .int .u64 0] 29)) _ from hwr).mono ?_
        rintro e w5 ⟨rfl, G5, hd5, hf5, hg5⟩
        have HB6 : Hid (Below w.heap.size w w5) := HB5.out.trans (hf5.below HB5.out.size fun k hk => (HG.out k hk).1)
        have hn5 := hf5.row HN5.out fun h => (HG.out nb h).2.1 rfl
        have hy5 := hf5.row HY5.out fun h => (HG.out (nb + 1) h).2.2 rfl
        have ho5 := hf5.row HO5.out HNOB.out.1
        have HG5 : Hid (∀ k, G5 k → w.heap.size ≤ k ∧ k ≠ nb ∧ k ≠ nb + 1) := fun k hk => by
          rcases hg5 k hk with h | h
          · exact HG.out k h
          · have := HZ5.out; omega
        have hz5 : wr.heap.size + 2 ≤ w5.heap.size := by have := hf5.size; have := HZ5.out; omega
        have hl6 : nw.length = 6 := HS.out.2.2.2.1
        have e2 : w5.cell? ⟨wr.heap.size, 2, none⟩ = some (.int .u64 (x : Int)) := ho5.cell 2
        have fk := hn5.free k
        have ek : w5.cell? ⟨nb, k, none⟩ = some (.int .u64 (nw.getD k 0 : Nat)) := (hn5.cell k).trans (arr_at nw (by omega))
        have hk0 : (0 : Int) ≤ (k : Int) := by omega
        have hk1 : (k : Int) < 6 := by omega
        have HD5 := Lib.hid hd5
        have HN6 := Lib.hid hn5
        have HY6 := Lib.hid hy5
        have HO6 := Lib.hid ho5
        clear hd5 hf5 hg5 hn5 hy5 ho5 hwr
        have hn7 : Row (w5.setCell ⟨nb, k, none⟩ (.int .u64 (x : Int))) nb 30 (arr (nw.set k x)) := by have := HN6.out.set k (.int .u64 (x : Int)); rw [arr_set] at this; exact this
        have hy7 : Row (w5.setCell ⟨nb, k, none⟩ (.int .u64 (x : Int))) (nb + 1) 30 (arr sy) := HY6.out.far (by show nb + 1 ≠ nb; omega) _
        have ho7 : Row (w5.setCell ⟨nb, k, none⟩ (.int .u64 (x : Int))) wr.heap.size 33 _ := HO6.out.far (by show wr.heap.size ≠ nb; omega) _
        have hd7 : Dev (w5.setCell ⟨nb, k, none⟩ (.int .u64 (x : Int))) G5 p _ (i + 1) := HD5.out.keep (fun j hj => heap_setCell_other w5 ⟨nb, k, none⟩ j _ (HG5.out j hj).2.1) (by simp)
        have hb7 := HB6.out.setCell (p := ⟨nb, k, none⟩) hnb0 (.int .u64 (x : Int))
        have e0 : (w5.setCell ⟨nb, k, none⟩ (.int .u64 (x : Int))).cell? ⟨wr.heap.size, 0, none⟩ = some (.int .i64 ok) := ho7.cell 0
        have HN7 := Lib.hid hn7
        have HY7 := Lib.hid hy7
        have HD7 := Lib.hid hd7
        have HB7 := Lib.hid hb7
        clear hn7 hy7 ho7 hd7 hb7
        go_wp2
        go_roundw
        case rel => exact ⟨i + 1, nw.set k x, sy, G5, _, by omega, by go_num, by rw [HC5.out]; go_num, by rw [HC5.out]; omega, HS5.out, HD7.out, HN7.out, HY7.out, HG5.out, HB7.out⟩
        case measure => simp [intOf]; omega
      · by_cases h3 : ok = 3
        · have gk : (ok == 2) = false := by simp [h3]
          have gk3 : (ok == 3) = true := by simp [h3]
          clear h2 h3
          have hsy := sync_any p s i G' _ HDO.out (by omega)
          obtain ⟨y1, y2, y3⟩ := says_sync HS.out
          rw [y1] at hsy
          have HS5 := Lib.hid y2
          have HC5 := Lib.hid y3
          clear y1 y2 y3
          go_wp2_with fail
          refine hsy.mono ?_
          rintro e w5 ⟨rfl, G5, hd5, hf5, hg5⟩
          have HB6 : Hid (Below w.heap.size w w5) := HBO.out.trans (hf5.below HBO.out.size fun k hk => (HG.out k hk).1)
          have hn5 := hf5.row HNO.out fun h => (HG.out nb h).2.1 rfl
          have hy5 := hf5.row HYO.out fun h => (HG.out (nb + 1) h).2.2 rfl
          have HG5 : Hid (∀ k, G5 k → w.heap.size ≤ k ∧ k ≠ nb ∧ k ≠ nb + 1) := fun k hk => by
            rcases hg5 k hk with h | h
            · exact HG.out k h
            · have := HZO.out; omega
          have hl6 : nw.length = 6 := HS.out.2.2.2.1
          have hl6' : sy.length = 6 := HS.out.2.2.2.2.1
          have HD5 := Lib.hid hd5
          have HY6 := Lib.hid hy5
          have HN6 := Lib.hid hn5
          match nw, hl6, sy, hl6' with
          | [n0, n1, n2, n3, n4, n5], _, [s0, s1, s2, s3, s4, s5], _ =>
            have x0 : w5.cell? ⟨nb, 0, none⟩ = some (.int .u64 (n0 : Int)) := hn5.cell 0
            have x1 : w5.cell? ⟨nb, 1, none⟩ = some (.int .u64 (n1 : Int)) := hn5.cell 1
            have x2 : w5.cell? ⟨nb, 2, none⟩ = some (.int .u64 (n2 : Int)) := hn5.cell 2
            have x3 : w5.cell? ⟨nb, 3, none⟩ = some (.int .u64 (n3 : Int)) := hn5.cell 3
            have x4 : w5.cell? ⟨nb, 4, none⟩ = some (.int .u64 (n4 : Int)) := hn5.cell 4
            have x5 : w5.cell? ⟨nb, 5, none⟩ = some (.int .u64 (n5 : Int)) := hn5.cell 5
            have z0 : w5.cell? ⟨nb + 1, 0, none⟩ = some (.int .u64 (s0 : Int)) := hy5.cell 0
            have z1 : w5.cell? ⟨nb + 1, 1, none⟩ = some (.int .u64 (s1 : Int)) := hy5.cell 1
            have z2 : w5.cell? ⟨nb + 1, 2, none⟩ = some (.int .u64 (s2 : Int)) := hy5.cell 2
            have z3 : w5.cell? ⟨nb + 1, 3, none⟩ = some (.int .u64 (s3 : Int)) := hy5.cell 3
            have z4 : w5.cell? ⟨nb + 1, 4, none⟩ = some (.int .u64 (s4 : Int)) := hy5.cell 4
            have z5 : w5.cell? ⟨nb + 1, 5, none⟩ = some (.int .u64 (s5 : Int)) := hy5.cell 5
            have f0 := hy5.free 0
            have f1 := hy5.free 1
            have f2 := hy5.free 2
            have f3 := hy5.free 3
            have f4 := hy5.free 4
            have f5 := hy5.free 5
            clear hd5 hf5 hg5 hn5 hy5 hsy
            have hy7 := (((((HY6.out.set 0 (.int .u64 (n0 : Int))).set 1 (.int .u64 (n1 : Int))).set 2 (.int .u64 (n2 : Int))).set 3 (.int .u64 (n3 : Int))).set 4 (.int .u64 (n4 : Int))).set 5 (.int .u64 (n5 : Int))
            have hf7 := ((((((Far.refl (fun b => b = nb + 1) w5).set (p := ⟨nb + 1, 0, none⟩) (.inl rfl) (.int .u64 (n0 : Int))).set (p := ⟨nb + 1, 1, none⟩) (.inl rfl) (.int .u64 (n1 : Int))).set (p := ⟨nb + 1, 2, none⟩) (.inl rfl) (.int .u64 (n2 : Int))).set (p := ⟨nb + 1, 3, none⟩) (.inl rfl) (.int .u64 (n3 : Int))).set (p := ⟨nb + 1, 4, none⟩) (.inl rfl) (.int .u64 (n4 : Int))).set (p := ⟨nb + 1, 5, none⟩) (.inl rfl) (.int .u64 (n5 : Int))
            have HD7 := Lib.hid (HD5.out.far hf7 fun j hj e => (HG5.out j hj).2.2 e)
            have HN7 := Lib.hid (hf7.row HN6.out (by omega))
            have HY7 := Lib.hid hy7
            have HB7 := Lib.hid (HB6.out.trans (hf7.below HB6.out.size fun j hj => by omega))
            clear hy7 hf7
            go_wp2
            go_roundw
            case rel => exact ⟨i + 1, [n0, n1, n2, n3, n4, n5], [n0, n1, n2, n3, n4, n5], G5, _, by omega, by go_num, by rw [HC5.out]; rfl, by rw [HC5.out]; exact Nat.zero_le _, HS5.out, HD7.out, HN7.out, HY7.out, HG5.out, HB7.out⟩
            case measure => simp [intOf]; omega
        · have gk : (ok == 2) = false := by simpa using h2
          have gk3 : (ok == 3) = false := by simpa using h3
          clear h2 h3
          go_wp2
          have HS5 := Lib.hid HS.out
          have HD5 := Lib.hid (HDO.out.mono (Nat.le_succ i) (by omega))
          go_roundw
          case rel => exact ⟨i + 1, nw, sy, G', s, by omega, by go_num, rfl, by omega, HS.out, HD5.out, HNO.out, HYO.out, HG.out, HBO.out⟩
          case measure => simp [intOf]; omega
    · obtain rfl : i = len0 := by omega
      have hni : ¬ ((i : Int) < (i : Int)) := by omega
      generalize wr = wo at *
      obtain ⟨m, hm⟩ : ∃ m, s.later.length = m := ⟨_, rfl⟩
      rw [hm] at hcnt ⊢
      have HM := Lib.hid hm
      obtain ⟨i0, hi0, hz0, hz1, hz2⟩ := info_parts infoB
      obtain ⟨kb, hkb⟩ : ∃ kb, wo.heap.size = kb := ⟨_, rfl⟩
      have HKB := Lib.hid hkb
      have hpk : p < kb := by rw [← hkb]; exact HD.out.lt HD.out.mine
      have hnk : nb + 1 < kb := by rw [← hkb]; exact HY.out.lt
      have hwk : w.heap.size ≤ kb := by rw [← hkb]; exact HB.out.size
      clear hm
      go_wp2_with (with_reducible refine stopAt 74 ?_)
      unfold Hid
      refine wpList_make_row _ rfl _ _ 31 rfl 4 i0 (.bool false) Try.underlying31 hi0 hz0 hz1 rfl .i64 .i64 _ _ m rfl rfl rfl rfl (by rw [hz2]; omega) (by omega) ?_
      intro wa hra hba hsa
      rw [hkb] at hra hba hsa ⊢
      have HRA := Lib.hid hra
      have HBA := Lib.hid hba
      have HSA := Lib.hid hsa
      clear hra hba hsa hkb
      go_wp2
      go_loopw [14] (fun jv wr => ∃ j : Nat, j ≤ m ∧ jv = .int .i64 (j : Int) ∧ Hid (Row wr kb 4 (List.replicate j (.bool a1) ++ List.replicate (m - j) (.bool false))) ∧ Hid (Below kb wa wr)) (fun jv _ => m - (intOf jv).toNat)
      case atStart => exact ⟨0, Nat.zero_le _, rfl, by have := HRA.out; unfold Hid; simpa using this, Below.refl _ _⟩
      case round =>
        obtain ⟨j, hj, rfl, HRJ, HBJ⟩ := hrel
        by_cases hjm : j < m
        · have hj0 : (0 : Int) ≤ (j : Int) := by omega
          have hj1 : (j : Int) < (m : Int) := by omega
          have fj := HRJ.out.free j
          have ej : wr.cell? ⟨kb, j, none⟩ = some (.bool false) := by
            rw [HRJ.out.cell j, List.getElem?_append_right (by simp), List.length_replicate, Nat.sub_self, List.getElem?_replicate, if_pos (by omega)]
          have HRJ2 : Hid (Row (wr.setCell ⟨kb, j, none⟩ (.bool a1)) kb 4 (List.replicate (j + 1) (.bool a1) ++ List.replicate (m - (j + 1)) (.bool false))) := by
            have := HRJ.out.set j (.bool a1); rw [fill_set a1 hjm] at this; exact this
          have HBJ2 := Lib.hid (HBJ.out.setCell (p := ⟨kb, j, none⟩) (Nat.le_refl _) (.bool a1))
          go_wp2
          go_roundw
          case rel => exact ⟨j + 1, by omega, by go_num, HRJ2.out, HBJ2.out⟩
          case measure => simp [intOf]; omega
        · obtain rfl : j = m := by omega
          have hnj : ¬ ((j : Int) < (j : Int)) := by omega
          have hrb := fill_reads HRJ.out (Nat.lt_succ_self kb)
          have hbw : Below kb wo wr := HBA.out.trans HBJ.out
          have hbw' : Below wo.heap.size wo wr := by rw [HKB.out]; exact hbw
          have hcr := crash_any p s i G' (some ⟨kb, 0, none⟩) j j (List.replicate j a1) wr (HD.out.below hbw') hrb HRJ.out.lt (fun _ b off he => by injection he with he; injection he with he; omega) (by omega)
          have HN2 := Lib.hid (HN.out.below hbw (by omega))
          have HY2 := Lib.hid (HY.out.below hbw hnk)
          have HB2 := Lib.hid (HB.out.trans (hbw.mono hwk))
          have hw2s : kb < wr.heap.size := HRJ.out.lt
          have hsx : ∃ zs : List Nat, (a1 = true → zs = nw) ∧ (a1 = false → zs = sy) ∧ ∀ k : Nat, k < 6 → (crash s (List.replicate j a1)).now k = wordsOf (zs.getD k 0) := by
            obtain ⟨x1, x2, x3, x4, x5, x6⟩ := HS.out
            cases a1
            · refine ⟨sy, fun h => (by cases h), fun _ => rfl, fun k hk => ?_⟩
              rw [← (x6 k hk).2]
              unfold St.now
              show blk s.size (lay (lay s.fl (kept (List.replicate j false) s.later)) [] k) = _
              rw [← HM.out, kept_none, x1]; rfl
            · refine ⟨nw, fun _ => rfl, fun h => (by cases h), fun k hk => ?_⟩
              rw [← (x6 k hk).1]
              unfold St.now
              show blk s.size (lay (lay s.fl (kept (List.replicate j true) s.later)) [] k) = _
              rw [← HM.out, kept_all]; rfl
          obtain ⟨zs, hza, hzb, hnow⟩ := hsx
          have hcs : (crash s (List.replicate j a1)).size = 8 := HS.out.1
          have hcb : (crash s (List.replicate j a1)).blocks = 6 := HS.out.2.1
          have hcc := crash_calm s (List.replicate j a1)
          clear hrb hbw hbw'
          generalize crash s (List.replicate j a1) = sx at *
          have HZA := Lib.hid hza
          have HZB := Lib.hid hzb
          have HNOW := Lib.hid hnow
          have HCB := Lib.hid hcb
          have HCC := Lib.hid hcc
          clear hza hzb hnow hcs hcb hcc HRJ HBJ HRA HBA HSA HKB
          go_wp2_with fail
          refine hcr.mono ?_
          rintro e w5 ⟨p', GX, rfl, hd5, hf5, hg5, bl5, bf5, v5, hr5⟩
          have HN5 := Lib.hid (hf5.row HN2.out (by have := (HG.out p HD.out.mine).2.1; exact fun e => this e.symm))
          have HY5 := Lib.hid (hf5.row HY2.out (by have := (HG.out p HD.out.mine).2.2; exact fun e => this e.symm))
          have HB5 := Lib.hid (HB2.out.trans (hf5.below HB2.out.size fun k hk => by subst hk; exact (HG.out _ HD.out.mine).1))
          have HP5 := Lib.hid hr5
          have HD5 : Hid (Dev w5 GX p' { sx with acts := sx.acts + ((0 : Nat) : Int) } (i + 0)) := by
            have e : ({ sx with acts := sx.acts + ((0 : Nat) : Int) } : St) = sx := by cases sx; simp
            unfold Hid
            rw [e]; exact hd5
          have HGX : Hid (∀ k, GX k → w.heap.size ≤ k ∧ k ≠ nb ∧ k ≠ nb + 1 ∧ k ≠ p) := fun k hk => by
            rcases hg5 k hk with ⟨h, h'⟩ | h
            · exact ⟨(HG.out k h).1, (HG.out k h).2.1, (HG.out k h).2.2, h'⟩
            · exact ⟨by omega, by omega, by omega, by omega⟩
          clear hd5 hf5 hg5 hr5 hcr
          go_wp2
          go_loopw [16] (fun kv wr => ∃ k : Nat, k ≤ 6 ∧ kv = .int .i64 (k : Int) ∧ Hid (Dev wr GX p' { sx with acts := sx.acts + (k : Int) } (i + k)) ∧ Hid (Row wr nb 30 (arr nw)) ∧ Hid (Row wr (nb + 1) 30 (arr sy)) ∧ Hid (Row wr p 60 (cellsOf { s with down := true } bl5 bf5 v5)) ∧ Hid (Below w.heap.size w wr)) (fun kv _ => 6 - (intOf kv).toNat)
          case atStart => exact ⟨0, by omega, rfl, HD5.out, HN5.out, HY5.out, HP5.out, HB5.out⟩
          case round =>
            obtain ⟨k, hk, rfl, HDK, HNK, HYK, HPK, HBK⟩ := hrel
            by_cases hk6 : k < 6
            · have hrd := read_any p' _ (i + k) GX (k : Int) wr HDK.out (by omega) (I64.of (by omega) (by omega))
              rw [read_ok (s := { sx with acts := sx.acts + (k : Int) }) HCC.out (by show (decide ((0 : Int) ≤ (k : Int)) && decide ((k : Int) < sx.blocks)) = true; rw [HCB.out]; simp; omega), show St.now { sx with acts := sx.acts + (k : Int) } (k : Int) = sx.now k from rfl, HNOW.out k hk6] at hrd
              go_wp2_with fail
              refine hrd.mono ?_
              rintro e w6 ⟨v6, rfl, _, hw6, hd6, hf6⟩
              obtain ⟨g6, c6, rfl, e0⟩ := words8 (hw6 (by trivial))
              have hne : ∀ z, z = nb ∨ z = nb + 1 ∨ z = p → ¬ (z = p') := fun z hz e => by
                have := HGX.out p' HDK.out.mine
                omega
              have hn6 := hf6.row HNK.out (hne nb (.inl rfl))
              have hy6 := hf6.row HYK.out (hne (nb + 1) (.inr (.inl rfl)))
              have HP6 := Lib.hid (hf6.row HPK.out (hne p (.inr (.inr rfl))))
              have HB6 := Lib.hid (HBK.out.trans (hf6.below HBK.out.size fun z hz => by subst hz; exact (HGX.out _ HDK.out.mine).1))
              have hl6 : nw.length = 6 := HS.out.2.2.2.1
              have hl6' : sy.length = 6 := HS.out.2.2.2.2.1
              have en : w6.cell? ⟨nb, k, none⟩ = some (.int .u64 (nw.getD k 0 : Nat)) := (hn6.cell k).trans (arr_at nw (by omega))
              have ey : w6.cell? ⟨nb + 1, k, none⟩ = some (.int .u64 (sy.getD k 0 : Nat)) := (hy6.cell k).trans (arr_at sy (by omega))
              have HN6 := Lib.hid hn6
              have HY6 := Lib.hid hy6
              have HD6 : Hid (Dev w6 GX p' { sx with acts := sx.acts + ((k + 1 : Nat) : Int) } (i + (k + 1))) := by
                have e : sx.acts + (k : Int) + 1 = sx.acts + ((k + 1 : Nat) : Int) := by push_cast; omega
                unfold Hid
                rw [← e]; exact hd6
              have hk0 : (0 : Int) ≤ (k : Int) := by omega
              have hk1 : (k : Int) < 6 := by omega
              clear hw6 hd6 hf6 hn6 hy6 hrd hne
              cases a1
              · obtain rfl := HZB.out rfl
                generalize zs.getD k 0 = zk at *
                go_wp2
                go_quiet (fail)
                go_wp2
                go_roundw
                case rel => exact ⟨k + 1, by omega, by go_num, HD6.out, HN6.out, HY6.out, HP6.out, below_drewN HB6.out _⟩
                case measure => simp [intOf]; omega
              · obtain rfl := HZA.out rfl
                generalize zs.getD k 0 = zk at *
                go_wp2
                go_quiet (fail)
                go_wp2
                go_roundw
                case rel => exact ⟨k + 1, by omega, by go_num, HD6.out, HN6.out, HY6.out, HP6.out, below_drewN HB6.out _⟩
                case measure => simp [intOf]; omega
            · obtain rfl : k = 6 := by omega
              have hrl := read_lost p _ bl5 bf5 v5 0 wr HPK.out rfl
              go_wp2_with fail
              refine hrl.mono ?_
              rintro e w6 ⟨rfl, rfl⟩
              go_wp2
              go_ret
              exact ⟨rfl, HBK.out⟩

set_option maxRecDepth 100000 in
theorem lifted (os : Os) (started : os.Started) (H : Type) (enc : TypeId × Value → H) :
    ReturnsInHanded {} Try.checked os 3 .any (Rows.deviceKeepsSpec.pre6 enc Try.prog Try.f3 Rows.deviceKeepsRow.domain false) (Rows.deviceKeepsSpec.post enc Try.prog Try.f3 false true false false) := by
  refine returnsInHanded_of_change (C := Try.checked) own started (by kernel_rfl) Try.func3
    (ChangeSpec.witness6 (enc := enc) (C := Try.checked) false ⟨#[], #[.slice none 0 0, .bool false], []⟩ 8 (by kernel_rfl) (by kernel_rfl) (by kernel_rfl) (by kernel_rfl)) ?_
  intro W base args ds gs before hval0 hW hcnd _
  have hval : ∀ (j : Nat) t v, Try.f3.params[j]? = some t → args[j]? = some v → Value.okWide Try.prog W .any base t v := hval0
  have hW' := hW
  obtain ⟨p, q, hA0, hV, rfl, hfz, hnd⟩ := hW
  have hA : DataW.TrodAll enc Try.prog W 0 (fun _ => true) true Try.f3.params.toList args.toList ds p := hA0
  rw [Try.params3] at hA hval
  obtain ⟨v0, vs0, d0, ds0, p0, q0, hargs, rfl, rfl, h0, r0⟩ := trodAll_cons hA
  obtain ⟨v1, vs1, d1, ds1, p1, q1, rfl, rfl, rfl, h1, r1⟩ := trodAll_cons r0
  obtain ⟨rfl, rfl, rfl⟩ := trodAll_nil r1
  obtain rfl : args = #[v0, v1] := by cases args; simp_all
  obtain ⟨rfl, rfl⟩ := trodVars_none hV
  have k0 := h0
  have lt0 : ∀ x ∈ p0, x.block < W.heap.size := by obtain ⟨m, hm⟩ := k0; exact DataW.trod_lt m _ _ _ hm
  have k1 := h1
  have lt1 : ∀ x ∈ p1, x.block < W.heap.size := by obtain ⟨m, hm⟩ := k1; exact DataW.trod_lt m _ _ _ hm
  obtain ⟨a0, len0, cap0, rfl⟩ := okWide_slice Try.underlying22 (hval 0 22 v0 rfl rfl)
  obtain ⟨l0, wr0, wm0⟩ : ∃ l0, ReadsO W W.heap.size a0 len0 l0 ∧ len0 ≤ maxLen := by
    obtain ⟨fuel0, hf0⟩ := h0
    obtain ⟨a', len', cap', l', he', hr', hm'⟩ := open_ops Try.underlying22 Try.underlying33 (by kernel_rfl) (by kernel_rfl) Try.underlying3 Try.underlying29 Try.underlying4 Try.underlying31 rfl rfl rfl rfl rfl hf0
    injection he' with e1 e2 e3
    subst e1; subst e2
    exact ⟨l', hr', hm'⟩
  obtain ⟨a1, rfl, rfl, rfl⟩ := open_bool Try.underlying4 (hval 1 4 v1 rfl rfl) h1
  clear hA0 hval0
  refine (walk a0 len0 cap0 l0 a1 W wr0 wm0).mono fun e W' ⟨he, bel⟩ => ?_
  subst he
  exact ⟨_, rfl, _, _, _, [], _, [], hW', trodAll_mk1 (shut_bool Try.underlying4 _), (trodAll_cons_mk (Below.trod laidOut (by kernel_rfl) (of_decide_eq_true (by kernel_rfl)) k0 bel lt0) (trodAll_cons_mk (Below.trod laidOut (by kernel_rfl) (of_decide_eq_true (by kernel_rfl)) k1 bel lt1) trodAll_mk0)), rfl, bel.frame _, fun h => by cases h⟩

theorem over : Rows.deviceKeepsRow.holds Try.pinned (OpenSpec.ofChange Rows.deviceKeepsSpec) :=
  OpenClaim.holds_of_wide 3 Try.f3 rfl rfl rfl rfl rfl rfl rfl ⟨rfl, rfl, rfl, rfl, rfl⟩ rfl rfl rfl rfl rfl (by kernel_rfl) Try.func3 (by kernel_rfl)
    (of_decide_eq_true (by kernel_rfl)) (by unfold Func.isWrapper; first | (rw [if_pos (by decide +kernel)]; kernel_rfl) | (rw [if_neg (by decide +kernel)]; exact ⟨rfl, rfl⟩))
    (fun os started H enc _ => lifted os started H enc)

theorem proved : Rows.DeviceKeepsSaid := over
end Go.Proofs.Ytcnmbddlaaopgaa.deviceKeeps
