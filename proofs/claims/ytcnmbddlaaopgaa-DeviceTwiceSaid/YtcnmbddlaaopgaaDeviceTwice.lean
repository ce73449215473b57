/-
  DeviceTwice: for whatever acts and whatever is kept; no condition.
-/
import Derived.Test.YtcnmbddlaaopgaaRows
import Derived.Test.YtcnmbddlaaopgaaDevMore
import Derived.WalkKit
import Derived.ProofKit
import Derived.OpenShut
import Derived.ShutString
import Derived.ChangeOld
import Derived.Below
namespace Go.Proofs.Ytcnmbddlaaopgaa.deviceTwice
open Go.ChangeShapes Go.WideShapes Go.ChangeAt Go.RowKit
open Go.ChangeMaps (open_string shut_string)
set_option linter.unusedVariables false

theorem own : ownKnob Try.prog.godebug = none := by kernel_rfl
theorem laidOut : laidOutB Try.prog = true := by kernel_rfl

/-- a device of six blocks of eight words, with power -/
def Six (s : St) : Prop := s.size = 8 ∧ s.blocks = 6 ∧ Calm s
theorem six_right {s : St} (h : Six s) {k : Nat} (hk : k < 6) : right s k = true := by
  unfold right; rw [h.2.1]; simp; omega
theorem six_write {s : St} (h : Six s) {k : Nat} (hk : k < 6) {l : List Nat} (hl : l.length = 8) : (write s k l).1 = 0 ∧ Six (write s k l).2 ∧ (write s k l).2.fl = s.fl := by
  rw [write_ok h.2.2 (six_right h hk) (by rw [h.1]; exact hl)]
  exact ⟨rfl, h, rfl⟩
theorem six_sync {s : St} (h : Six s) : (sync s).1 = 0 ∧ Six (sync s).2 := by
  rw [sync_ok h.2.2]; exact ⟨rfl, h⟩
theorem six_crash {s : St} (h : Six s) (k : List Bool) : Six (crash s k) ∧ (crash s k).later = [] ∧ (crash s k).acts = s.acts := ⟨⟨h.1, h.2.1, crash_calm s k⟩, rfl, rfl⟩
theorem crash_nil_fl (s : St) : (crash s []).fl = s.fl := by
  show lay s.fl (kept [] s.later) = s.fl
  rw [kept_nil]; rfl
theorem now_flat {s : St} (h : s.later = []) (x : Int) : s.now x = blk s.size (s.fl x) := by unfold St.now; rw [h]; rfl
theorem readsB_nil (w : World) (B : Nat) : ReadsB w B none 0 [] := ⟨rfl, fun h => absurd h (by omega)⟩
theorem put_six (p : Nat) (s : St) (n : Nat) (G : Nat → Prop) (k : Nat) (A : Option Addr) (c : Nat) (l : List Nat) (w : World) (hS : Six s) (h : Dev w G p s n) (hn : n < 1000000) (hk : k < 6) (hl : Reads .u64 w w.heap.size A 8 l) :
    Calls Try.prog 11 #[.pointer (some ⟨p, 0, none⟩), .int .i64 (k : Int), .slice A 8 c] w fun e w' => e = .returned (.int .i64 0) ∧ ∃ G' s', Six s' ∧ s'.fl = s.fl ∧ Dev w' G' p s' (n + 1) ∧ Far G w w' ∧ ∀ k, G' k → G k ∨ w.heap.size ≤ k := by
  obtain ⟨y1, y2, y3⟩ := six_write hS hk hl.1
  have hw := write_any p s n G (k : Int) A 8 c l w h hn (I64.of (by omega) (by omega)) hl (Nat.le_refl _)
  rw [y1] at hw
  exact hw.mono fun e w' ⟨he, G', hd, hf, hg⟩ => ⟨he, G', _, y2, y3, hd, hf, hg⟩
theorem acts_six (p : Nat) (s : St) (n : Nat) (G : Nat → Prop) (w : World) (h : Dev w G p s n) : Calls Try.prog 17 #[.pointer (some ⟨p, 0, none⟩)] w fun e w' => e = .returned (.int .i64 s.acts) ∧ w' = w := by
  obtain ⟨bl, bf, v, nl, hr, _⟩ := id h.2
  exact acts_any p s bl bf v w hr
theorem read_six (p : Nat) (s : St) (n : Nat) (G : Nat → Prop) (k : Nat) (w : World) (hS : Six s) (hl : s.later = []) (h : Dev w G p s n) (hn : n < 1000000) (hk : k < 6) :
    Calls Try.prog 14 #[.pointer (some ⟨p, 0, none⟩), .int .i64 (k : Int)] w fun e w' => ∃ A c s', e = .returned (.tuple #[.slice A 8 c, .int .i64 0]) ∧ Reads .u64 w' w'.heap.size A 8 (blk 8 (s.fl k)) ∧ Six s' ∧ s'.fl = s.fl ∧ s'.later = [] ∧ Dev w' G p s' (n + 1) ∧ Far (fun k => k = p) w w' := by
  have hr := read_any p s n G (k : Int) w h hn (I64.of (by omega) (by omega))
  rw [read_ok hS.2.2 (six_right hS hk), now_flat hl, hS.1] at hr
  have hlen : (blk 8 (s.fl k)).length = 8 := by
    rcases hf : s.fl k with _ | l
    · simp [blk]
    · have := h.fits.fl k l hf; rw [hS.1] at this; exact this
  refine hr.mono fun e w' ⟨v, he, _, hw, hd, hf⟩ => ?_
  obtain ⟨A, c, rfl, _, hrd⟩ := Words.reads (hw rfl)
  rw [hlen] at he hrd
  refine ⟨A, c, _, he, hrd, ?_, ?_, ?_, hd, hf⟩
  · exact ⟨rfl, hS.2.1, hS.2.2⟩
  · rfl
  · exact hl
theorem crash_six (p : Nat) (s : St) (n : Nat) (G : Nat → Prop) (A : Option Addr) (m c : Nat) (keep : List Bool) (w : World) {B : Nat} (hS : Six s) (h : Dev w G p s n) (hk : ReadsB w B A m keep) (hB : B ≤ w.heap.size) (hG : 0 < m → ∀ b off, A = some ⟨b, off, none⟩ → b ≠ p) (hm : m ≤ 1000000) :
    Calls Try.prog 13 #[.pointer (some ⟨p, 0, none⟩), .slice A m c] w fun e w' => ∃ p' G' s', e = .returned (.pointer (some ⟨p', 0, none⟩)) ∧ Six s' ∧ s'.later = [] ∧ s'.acts = s.acts ∧ (keep = [] → s'.fl = s.fl) ∧ Dev w' G' p' s' n ∧ Far (fun k => k = p) w w' ∧ (∀ k, G' k → (G k ∧ k ≠ p) ∨ w.heap.size ≤ k) ∧ (∃ bl bf v, Row w' p 60 (cellsOf { s with down := true } bl bf v)) := by
  refine (crash_any p s n G A m c keep w h hk hB hG hm).mono fun e w' ⟨p', G', he, hd, hf, hg, hr⟩ => ?_
  obtain ⟨x1, x2, x3⟩ := six_crash hS keep
  exact ⟨p', G', _, he, x1, x2, x3, fun hk => by rw [hk]; exact crash_nil_fl s, hd, hf, hg, hr⟩
/-- a row of the law's own reads as it was laid -/
theorem own_row_reads {w : World} {g : Nat} {cs : List Value} {l : List Nat} (hr : Row w g 29 cs) (hl : l.length = 8) (ht : cs.take 8 = l.map fun x : Nat => Value.int .u64 x) (hw : ∀ x ∈ l, (Lit.int .u64 (x : Nat)).wf = true) : Reads .u64 w (g + 1) (some ⟨g, 0, none⟩) 8 l := by
  refine hr.reads hl hw (fun i hi => ?_) (Nat.lt_succ_self _)
  have h1 : (cs.take 8)[i]? = cs[i]? := by rw [List.getElem?_take, if_pos hi]
  rw [← h1, ht, List.getElem?_map, List.getElem?_eq_getElem (by omega), List.getD_eq_getElem?_getD, List.getElem?_eq_getElem (by omega)]; rfl
theorem below_of_drew {w w1 : World} (h : Below w.drew.heap.size w.drew w1) : Below w.heap.size w w1 := ⟨h.os, h.tape, h.output, h.size, h.block⟩
theorem block_step {w0 W w5 : World} {G : Nat → Prop} {p n g B : Nat} {s : St} {c1 c2 : Value} {A : Option Addr} {l : List Nat} (hb : Below W.drew.heap.size W.drew w5) (hd : Dev W G p s n) (h0 : Below B w0 W) (hB : B ≤ W.heap.size) (hg : g < W.heap.size) (e1 : W.cell? ⟨g, 1, none⟩ = some c1) (e2 : W.cell? ⟨g, 2, none⟩ = some c2) (hr : Reads .u64 w5 w5.heap.size A 8 l) (hl : l.length = 8) :
    w5.cell? ⟨g, 1, none⟩ = some c1 ∧ w5.cell? ⟨g, 2, none⟩ = some c2 ∧ Hid (Dev w5 G p s n) ∧ Hid (Below B w0 w5) ∧ Hid (Reads .u64 w5 w5.heap.size A 8 l) ∧ Hid (l.length = 8) ∧ Hid (g < w5.heap.size) :=
  ⟨((below_of_drew hb).cell (p := ⟨g, 1, none⟩) hg).trans e1, ((below_of_drew hb).cell (p := ⟨g, 2, none⟩) hg).trans e2, hd.below (below_of_drew hb), h0.trans ((below_of_drew hb).mono hB), hr, hl, Nat.lt_of_lt_of_le hg (below_of_drew hb).size⟩
theorem put_step {w0 w5 w6 : World} {G G6 : Nat → Prop} {p n g B : Nat} {s : St} {c1 c2 : Value} (hd : Dev w6 G6 p s n) (hf : Far G w5 w6) (hg6 : ∀ k, G6 k → G k ∨ w5.heap.size ≤ k) (h0 : Below B w0 w5) (hB : B ≤ w5.heap.size) (hGB : ∀ k, G k → B ≤ k) (hg : g < w5.heap.size) (hng : ¬ G g) (e1 : w5.cell? ⟨g, 1, none⟩ = some c1) (e2 : w5.cell? ⟨g, 2, none⟩ = some c2) :
    w6.cell? ⟨g, 1, none⟩ = some c1 ∧ w6.cell? ⟨g, 2, none⟩ = some c2 ∧ Hid (Dev w6 G6 p s n) ∧ Hid (Below B w0 w6) ∧ Hid (∀ z, G6 z → B ≤ z) :=
  ⟨(World.cell?_of_block (hf.block _ hg hng)).trans e1, (World.cell?_of_block (hf.block _ hg hng)).trans e2, hd, h0.trans (hf.below hB hGB), fun z hz => (hg6 z hz).elim (hGB z) (fun h => Nat.le_trans hB h)⟩

set_option maxHeartbeats 4000000 in
set_option maxRecDepth 100000 in
theorem walk (a0 : Option Addr) (len0 cap0 : Nat) (l0 : List OpV) (a1 : Option Addr) (len1 cap1 : Nat) (l1 : List Bool) (w : World) (wr0 : ReadsO w w.heap.size a0 len0 l0) (wm0 : len0 ≤ maxLen) (wr1 : ReadsB w w.heap.size a1 len1 l1) (wm1 : len1 ≤ maxLen) :
    Calls Try.prog 7 #[.slice a0 len0 cap0, .slice a1 len1 cap1] w fun e w' => e = .returned (.bool true) ∧ Below w.heap.size w w' := by
  have hm0 : len0 ≤ 9223372036854775807 := by unfold maxLen at wm0; omega
  have hm1 : len1 ≤ 9223372036854775807 := by unfold maxLen at wm1; omega
  have HR0 := Lib.hid wr0
  have HR1 := Lib.hid wr1
  go_enter Try.func7, Try.ntmps7
  go_wp2_with fail
  refine (awake_any _).mono ?_; rintro e w1 ⟨rfl, hb1⟩
  have HB1 := Lib.hid hb1
  have hs1 := hb1.size
  have hfew := few_any a0 len0 cap0 l0 w1 (HR0.out.keep hb1) wm0
  clear hb1 wr0 wm0 wr1 wm1
  go_wp2_with fail
  refine hfew.mono ?_; rintro e w2 ⟨r, rfl, rfl, hr80⟩
  clear hfew
  cases r
  · go_wp2_with fail
    refine (awake_any _).mono ?_; rintro e w3 ⟨rfl, hb3⟩
    have HB3 := Lib.hid (HB1.out.trans (hb3.mono hs1))
    clear hb3
    go_wp2
    go_ret
    exact ⟨rfl, HB3.out⟩
  have h80 : len0 ≤ 80 := hr80 rfl
  clear hr80 hm0
  by_cases hbig : len1 > 200
  · have g : decide ((len1 : Int) > 200) = true := by simp; omega
    go_wp2_with fail
    refine (awake_any _).mono ?_; rintro e w3 ⟨rfl, hb3⟩
    have HB3 := Lib.hid (HB1.out.trans (hb3.mono hs1))
    clear hb3
    go_wp2
    go_ret
    exact ⟨rfl, HB3.out⟩
  have g : decide ((len1 : Int) > 200) = false := by simp; omega
  go_wp2_with fail
  refine (new_any 8 6 _ (by omega) (by omega)).mono ?_; rintro e w3 ⟨p, G, rfl, hd3, hG3, hb3⟩
  have HB3 := Lib.hid (HB1.out.trans (hb3.mono hs1))
  have HG3 : Hid (∀ k, G k → w.heap.size ≤ k) := fun k hk => Nat.le_trans hs1 (hG3 k hk)
  have HD3 := Lib.hid hd3
  clear hb3 hd3 hG3
  go_wp2
  go_loopw [7] (fun iv wr => ∃ (i : Nat) (G' : Nat → Prop) (s : St), i ≤ len0 ∧ iv = .int .i64 (i : Int) ∧ Hid (Six s) ∧ Hid (Dev wr G' p s i) ∧ Hid (∀ k, G' k → w.heap.size ≤ k) ∧ Hid (Below w.heap.size w wr)) (fun iv _ => len0 - (intOf iv).toNat)
  case atStart => exact ⟨0, G, fresh 8 6, by omega, rfl, ⟨rfl, rfl, fresh_calm 8 6⟩, HD3.out, HG3.out, HB3.out⟩
  case round =>
    obtain ⟨i, G', s, hi, rfl, HS, HD, HG, HB⟩ := hrel
    by_cases hlt : i < len0
    · obtain ⟨b, off, o, rfl, hbb, d0, d1, d2, d3, d4, ho, _⟩ := (HR0.out.keep HB.out).at_ hlt
      obtain ⟨ok, oi, ox, od, ka, kl, kc⟩ := o
      simp only at d0 d1 d2 d3 d4
      obtain ⟨u, hu, _⟩ := wrap_nat oi
      obtain ⟨k, hk⟩ : ∃ k, u % 6 = k := ⟨_, rfl⟩
      have hk6 : k < 6 := by omega
      have hm : (u : Int) % 6 = (k : Int) := by omega
      have ht : (u : Int).tmod 6 = (k : Int) := by rw [Int.tmod_eq_emod_of_nonneg (by omega)]; exact hm
      have hwk : IntKind.i64.wrap (k : Int) = (k : Int) := IntWalk.i64_in _ (by omega)
      have hj0 : (0 : Int) ≤ (i : Int) := by omega
      have hj1 : (i : Int) < (len0 : Int) := by omega
      have hbw : b < wr.heap.size := by have := HB.out.size; omega
      have hob : Row (wr.alloc (.cells #[.int .i64 ok, .int .i64 oi, .int .u64 ox, .bool od, .slice ka kl kc] 33)) wr.heap.size 33 [.int .i64 ok, .int .i64 oi, .int .u64 ox, .bool od, .slice ka kl kc] := heap_alloc_new _ _
      have HOB := Lib.hid hob
      have hbo := (Below.refl wr.heap.size wr).alloc (Nat.le_refl _) (.cells #[.int .i64 ok, .int .i64 oi, .int .u64 ox, .bool od, .slice ka kl kc] 33)
      have HDO := Lib.hid (HD.out.below hbo)
      have hsr := HB.out.size
      have HBO := Lib.hid (HB.out.trans (hbo.mono hsr))
      have HNOB : Hid (¬ G' wr.heap.size) := fun h => by have := HD.out.lt h; omega
      clear hob hbo hk
      by_cases h2 : ok = 2
      · have gk : (ok == 2) = true := by simp [h2]
        have gk3 : (ok == 3) = false := by simp [h2]
        clear h2
        have e1 : (wr.alloc (.cells #[.int .i64 ok, .int .i64 oi, .int .u64 ox, .bool od, .slice ka kl kc] 33)).cell? ⟨wr.heap.size, 1, none⟩ = some (.int .i64 oi) := HOB.out.cell 1
        have e2 : (wr.alloc (.cells #[.int .i64 ok, .int .i64 oi, .int .u64 ox, .bool od, .slice ka kl kc] 33)).cell? ⟨wr.heap.size, 2, none⟩ = some (.int .u64 ox) := HOB.out.cell 2
        have e1d : (wr.alloc (.cells #[.int .i64 ok, .int .i64 oi, .int .u64 ox, .bool od, .slice ka kl kc] 33)).drew.cell? ⟨wr.heap.size, 1, none⟩ = some (.int .i64 oi) := e1
        have e2d : (wr.alloc (.cells #[.int .i64 ok, .int .i64 oi, .int .u64 ox, .bool od, .slice ka kl kc] 33)).drew.cell? ⟨wr.heap.size, 2, none⟩ = some (.int .u64 ox) := e2
        have hbl := block_any ox (wr.alloc (.cells #[.int .i64 ok, .int .i64 oi, .int .u64 ox, .bool od, .slice ka kl kc] 33)).drew
        have hlt1 : wr.heap.size < (wr.alloc (.cells #[.int .i64 ok, .int .i64 oi, .int .u64 ox, .bool od, .slice ka kl kc] 33)).heap.size := by simp
        go_wp2
        go_region_held3 (fun w' => w'.cell? ⟨wr.heap.size, 1, none⟩ = some (.int .i64 oi) ∧ w'.cell? ⟨wr.heap.size, 2, none⟩ = some (.int .u64 ox)) (first | with_reducible exact ⟨e1d, e2d⟩ | with_reducible exact ⟨d51, d52⟩ | with_reducible exact ⟨d61, d62⟩) (first
          | (go_at_call 21; refine hbl.mono ?_; rintro e w5 ⟨A5, c5, l5, rfl, hl5, hr5, hb5⟩; obtain ⟨d51, d52, HD5, HB5, HR5, HL5, HZ5⟩ := block_step hb5 HDO.out HBO.out HBO.out.size hlt1 e1 e2 hr5 hl5; clear hr5 hl5 hb5)
          | (go_at_call 11; refine (put_six p s i G' k A5 c5 l5 w5 HS.out HD5.out (by omega) hk6 HR5.out).mono ?_; rintro e w6 ⟨rfl, G6, s6, hs6, _, hd6, hf6, hg6⟩; obtain ⟨d61, d62, HD6, HB6, HG6⟩ := put_step hd6 hf6 hg6 HB5.out HB5.out.size HG.out HZ5.out HNOB.out d51 d52; clear hd6 hf6 hg6))
        have HS6 := Lib.hid hs6
        clear d51 d52 d61 d62 e1 e2 e1d e2d hbl
        go_wp2
        go_roundw
        case rel => exact ⟨i + 1, G6, s6, by omega, by go_num, HS6.out, HD6.out, HG6.out, HB6.out⟩
        case measure => simp [intOf]; omega
      · by_cases h3 : ok = 3
        · have gk : (ok == 2) = false := by simp [h3]
          have gk3 : (ok == 3) = true := by simp [h3]
          clear h2 h3
          have hsy := sync_any p s i G' _ HDO.out (by omega)
          have HS5 := Lib.hid (six_sync HS.out).2
          go_wp2_with fail
          refine hsy.mono ?_
          rintro e w5 ⟨rfl, G5, hd5, hf5, hg5⟩
          have HB6 : Hid (Below w.heap.size w w5) := HBO.out.trans (hf5.below HBO.out.size HG.out)
          have HG5 : Hid (∀ k, G5 k → w.heap.size ≤ k) := fun k hk => by
            rcases hg5 k hk with h | h
            · exact HG.out k h
            · exact Nat.le_trans HBO.out.size h
          have HD5 := Lib.hid hd5
          clear hd5 hf5 hg5 hsy
          go_wp2
          go_roundw
          case rel => exact ⟨i + 1, G5, _, by omega, by go_num, HS5.out, HD5.out, HG5.out, HB6.out⟩
          case measure => simp [intOf]; omega
        · have gk : (ok == 2) = false := by simpa using h2
          have gk3 : (ok == 3) = false := by simpa using h3
          clear h2 h3
          go_wp2
          have HD5 := Lib.hid (HDO.out.mono (Nat.le_succ i) (by omega))
          go_roundw
          case rel => exact ⟨i + 1, G', s, by omega, by go_num, HS.out, HD5.out, HG.out, HBO.out⟩
          case measure => simp [intOf]; omega
    · obtain rfl : i = len0 := by omega
      have hni : ¬ ((i : Int) < (i : Int)) := by omega
      generalize wr = wo at *
      have HK : Hid (∀ w', Below w.heap.size w w' → ReadsB w' w.heap.size a1 len1 l1) := fun w' hb => HR1.out.keep hb
      have HKA : Hid (∀ q, w.heap.size ≤ q → 0 < len1 → ∀ b off, a1 = some ⟨b, off, none⟩ → b ≠ q) := fun q hq hm b off hA => by
        obtain ⟨b', off', hA', hb', _⟩ := HR1.out.2 hm
        rw [hA] at hA'; injection hA' with hA'; injection hA' with hA'; omega
      have hc1 := crash_six p s i G' a1 len1 cap1 l1 wo HS.out HD.out (HK.out wo HB.out) HB.out.size (HKA.out p (HG.out p HD.out.mine)) (by omega)
      have hpo : p < wo.heap.size := HD.out.lt HD.out.mine
      have hp0 := HG.out p HD.out.mine
      go_wp2_with fail
      refine hc1.mono ?_
      rintro e w5 ⟨p1, G1, s1, rfl, hS1, hl1, ha1, _, hd1, hf1, hg1, bl1, bf1, v1, hr1⟩
      have HB5 := Lib.hid (HB.out.trans (hf1.below HB.out.size fun k hk => by subst hk; exact hp0))
      have HG1 : Hid (∀ k, G1 k → w.heap.size ≤ k ∧ k ≠ p) := fun k hk => by
        rcases hg1 k hk with ⟨h, h'⟩ | h
        · exact ⟨HG.out k h, h'⟩
        · exact ⟨Nat.le_trans HB.out.size h, by omega⟩
      have HD1 := Lib.hid hd1
      have HS1 := Lib.hid hS1
      have HA1 := Lib.hid ha1
      have HR5 := Lib.hid hr1
      have hac := acts_six p1 s1 i G1 w5 hd1
      rw [ha1] at hac
      clear hS1 hl1 ha1 hd1 hf1 hg1 hr1 hc1
      go_wp2_with fail
      refine hac.mono ?_
      rintro e w5' ⟨rfl, rfl⟩
      have hc2 := crash_six p1 s1 i G1 a1 len1 cap1 l1 w5' HS1.out HD1.out (HK.out _ HB5.out) HB5.out.size (HKA.out p1 (HG1.out p1 HD1.out.mine).1) (by omega)
      clear hac
      go_wp2_with fail
      refine hc2.mono ?_
      rintro e w6 ⟨p2, G2, s2, rfl, hS2, hl2, ha2, _, hd2, hf2, hg2, _⟩
      have hp1 := HG1.out p1 HD1.out.mine
      have hr6 := hf2.row HR5.out fun h => hp1.2 h.symm
      have HB6 := Lib.hid (HB5.out.trans (hf2.below HB5.out.size fun k hk => by subst hk; exact hp1.1))
      have HG2 : Hid (∀ k, G2 k → w.heap.size ≤ k) := fun k hk => by
        rcases hg2 k hk with ⟨h, _⟩ | h
        · exact (HG1.out k h).1
        · exact Nat.le_trans HB5.out.size h
      have HD2 := Lib.hid hd2
      have HS2 := Lib.hid hS2
      have hac1 := acts_any p _ bl1 bf1 v1 w6 hr6
      have hac2 := acts_six p2 s2 i G2 w6 hd2
      rw [ha2, HA1.out] at hac2
      clear hS2 hl2 ha2 hd2 hf2 hg2 hr6 hc2
      go_wp2_with fail
      refine hac1.mono ?_
      rintro e w6' ⟨rfl, rfl⟩
      go_wp2_with fail
      refine hac2.mono ?_
      rintro e w6'' ⟨rfl, rfl⟩
      have hc3 := crash_six p2 s2 i G2 none 0 0 [] w6'' HS2.out HD2.out (readsB_nil _ 0) (Nat.zero_le _) (fun h => absurd h (by omega)) (by omega)
      clear hac1 hac2
      go_wp2_with fail
      refine hc3.mono ?_
      rintro e w7 ⟨p3, G3, s3, rfl, hS3, hl3, _, _, hd3, hf3, hg3, _⟩
      have HB7 := Lib.hid (HB6.out.trans (hf3.below HB6.out.size fun k hk => by subst hk; exact HG2.out _ HD2.out.mine))
      have HG3' : Hid (∀ k, G3 k → w.heap.size ≤ k) := fun k hk => by
        rcases hg3 k hk with ⟨h, _⟩ | h
        · exact HG2.out k h
        · exact Nat.le_trans HB6.out.size h
      have HD3' := Lib.hid hd3
      have HS3 := Lib.hid hS3
      have HL3 := Lib.hid hl3
      clear hS3 hl3 hd3 hf3 hg3 hc3
      go_wp2
      go_loopw [12, 13] (fun zv iv wr => ∃ (k pz : Nat) (GZ : Nat → Prop) (sz : St), k ≤ 6 ∧ zv = .pointer (some ⟨pz, 0, none⟩) ∧ iv = .int .i64 (k : Int) ∧ Hid (Six sz) ∧ Hid (sz.later = []) ∧ Hid (Dev wr GZ pz sz (i + 3 * k)) ∧ Hid (∀ z, GZ z → w.heap.size ≤ z) ∧ Hid (Below w.heap.size w wr)) (fun _ iv _ => 6 - (intOf iv).toNat)
      case atStart => exact ⟨0, p3, G3, s3, by omega, rfl, rfl, HS3.out, HL3.out, HD3'.out, HG3'.out, HB7.out⟩
      case round =>
        obtain ⟨k, pz, GZ, sz, hk, rfl, rfl, HSZ, HLZ, HDZ, HGZ, HBZ⟩ := hrel
        by_cases hk6 : k < 6
        · have hrd := read_six pz sz (i + 3 * k) GZ k wr HSZ.out HLZ.out HDZ.out (by omega) hk6
          go_wp2_with fail
          refine hrd.mono ?_
          rintro e wa ⟨Aa, ca, sa, rfl, hra, hsa, hfa, _, hda, hxa⟩
          have HBa := Lib.hid (HBZ.out.trans (hxa.below HBZ.out.size fun z hz => by subst hz; exact HGZ.out _ HDZ.out.mine))
          have HLTZ : Hid (∀ z, GZ z → z < wa.heap.size) := fun z hz => Nat.lt_of_lt_of_le (HDZ.out.lt hz) hxa.size
          obtain ⟨L, hL⟩ : ∃ L, blk 8 (sz.fl k) = L := ⟨_, rfl⟩
          rw [hL] at hra
          have HL := Lib.hid hL
          have HRa := Lib.hid hra
          have HDa := Lib.hid hda
          have HSa := Lib.hid hsa
          have HFa := Lib.hid hfa
          obtain ⟨i0, hi0, hz0, hz1, hz2⟩ := info_parts infoU
          clear hra hda hsa hfa hxa hrd hL
          go_wp2_with (with_reducible refine stopAt 106 ?_)
          unfold Hid
          refine wpList_append_list _ rfl _ _ 36 rfl wa.heap.size 29 i0 (.int .u64 0) 8 Try.underlying36 hi0 hz0 hz1 hz2 rfl (.slice none 0 0) 0 [] rfl (World.ownsRow_nil _ _ _ _) Aa 8 ca (L.map fun x : Nat => Value.int .u64 x) rfl (by rw [List.length_map]; exact HRa.out.1) HRa.out.source cells_int (by omega) (by omega) (Nat.le_refl _) ?_
          intro vb wb hownb hbb
          rw [Nat.zero_add, List.nil_append] at hownb
          obtain ⟨g, cap, cs, rfl, hga, hrg, hcap, hcapm, _, htk⟩ := own_row hownb (by omega)
          have HRG := Lib.hid hrg
          have HTK := Lib.hid htk
          have HBb := Lib.hid (HBa.out.trans (hbb.mono HBa.out.size))
          have HDb := Lib.hid (HDa.out.below hbb)
          have HNZ : Hid (¬ GZ g) := fun h => by have := HLTZ.out g h; omega
          have hgs : g < wb.heap.size := hrg.lt
          obtain ⟨q, hq⟩ : ∃ q, (k + 1) % 6 = q := ⟨_, rfl⟩
          have hq6 : q < 6 := by omega
          have hm : ((k : Int) + 1) % 6 = (q : Int) := by omega
          have hbl := block_any 99 wb
          clear hownb hbb hrg htk hq
          go_wp2_with fail
          refine hbl.mono ?_
          rintro e wc ⟨A8, c8, l8, rfl, hl8, hr8, hb8⟩
          have HBc := Lib.hid (HBb.out.trans (hb8.mono HBb.out.size))
          have HDc := Lib.hid (HDb.out.below hb8)
          have HRGc := Lib.hid (HRG.out.below hb8 hgs)
          have hpt := put_six pz sa (i + 3 * k + 1) GZ q A8 c8 l8 wc HSa.out HDc.out (by omega) hq6 hr8
          clear hr8 hb8 hl8 hbl
          go_wp2_with fail
          refine hpt.mono ?_
          rintro e wd ⟨rfl, Gd, sd, hsd, hfd, hdd, hxd, hgd⟩
          have HBd := Lib.hid (HBc.out.trans (hxd.below HBc.out.size HGZ.out))
          have HGd : Hid (∀ z, Gd z → w.heap.size ≤ z) := fun z hz => (hgd z hz).elim (HGZ.out z) fun h => Nat.le_trans HBc.out.size h
          have hrgd := hxd.row HRGc.out HNZ.out
          have HNd : Hid (¬ Gd g) := fun h => (hgd g h).elim HNZ.out fun h => by have := HRGc.out.lt; omega
          have hcz := crash_six pz sd (i + 3 * k + 1 + 1) Gd none 0 0 [] wd hsd hdd (readsB_nil _ 0) (Nat.zero_le _) (fun h => absurd h (by omega)) (by omega)
          have HDd := Lib.hid hdd
          have HRGd := Lib.hid hrgd
          have HFd := Lib.hid hfd
          clear hsd hfd hdd hxd hgd hrgd hpt
          go_wp2_with fail
          refine hcz.mono ?_
          rintro e we ⟨pe, Ge, se, rfl, hse, hle, _, hfe, hde, hxe, hge, _⟩
          have HBe := Lib.hid (HBd.out.trans (hxe.below HBd.out.size fun z hz => by subst hz; exact HGd.out _ HDd.out.mine))
          have HGe : Hid (∀ z, Ge z → w.heap.size ≤ z) := fun z hz => (hge z hz).elim (fun h => HGd.out z h.1) fun h => Nat.le_trans HBd.out.size h
          have hrge := hxe.row HRGd.out fun h => HNd.out (by rw [h]; exact HDd.out.mine)
          have HNe : Hid (¬ Ge g) := fun h => (hge g h).elim (fun h => HNd.out h.1) fun h => by have := HRGd.out.lt; omega
          have hfl : se.fl = sz.fl := by rw [hfe (by trivial), HFd.out, HFa.out]
          have hre := read_six pe se (i + 3 * k + 1 + 1) Ge k we hse hle hde (by omega) hk6
          rw [hfl, HL.out] at hre
          have HDe := Lib.hid hde
          have HRGe := Lib.hid hrge
          clear hse hfe hde hxe hge hrge hcz hfl
          go_wp2_with fail
          refine hre.mono ?_
          rintro e wf ⟨Af, cf, sf, rfl, hrf, hsf, hff, hlf, hdf, hxf⟩
          have HBf := Lib.hid (HBe.out.trans (hxf.below HBe.out.size fun z hz => by subst hz; exact HGe.out _ HDe.out.mine))
          have hrgf := hxf.row HRGe.out fun h => HNe.out (by rw [h]; exact HDe.out.mine)
          have hown := own_row_reads hrgf hrf.1 HTK.out hrf.2.1
          have hsm := same_any (some ⟨g, 0, none⟩) Af 8 cap cf L wf hown hrf (by omega)
          have HDf := Lib.hid hdf
          have HSf := Lib.hid hsf
          have HLf := Lib.hid hlf
          clear hrf hsf hff hdf hxf hrgf hown hre hle hlf
          go_wp2_with fail
          refine hsm.mono ?_
          rintro e wg ⟨rfl, mm, rfl⟩
          clear hsm
          go_wp2
          go_roundw
          case rel => exact ⟨k + 1, pe, Ge, sf, by omega, rfl, by go_num, HSf.out, HLf.out, HDf.out, HGe.out, below_drewN HBf.out _⟩
          case measure => simp [intOf]; omega
        · obtain rfl : k = 6 := by omega
          go_wp2
          go_ret
          exact ⟨rfl, HBZ.out⟩

set_option maxRecDepth 100000 in
theorem lifted (os : Os) (started : os.Started) (H : Type) (enc : TypeId × Value → H) :
    ReturnsInHanded {} Try.checked os 7 .any (Rows.deviceTwiceSpec.pre6 enc Try.prog Try.f7 Rows.deviceTwiceRow.domain false) (Rows.deviceTwiceSpec.post enc Try.prog Try.f7 false true false false) := by
  refine returnsInHanded_of_change (C := Try.checked) own started (by kernel_rfl) Try.func7
    (ChangeSpec.witness6 (enc := enc) (C := Try.checked) false ⟨#[], #[.slice none 0 0, .slice none 0 0], []⟩ 8 (by kernel_rfl) (by kernel_rfl) (by kernel_rfl) (by kernel_rfl)) ?_
  intro W base args ds gs before hval0 hW hcnd _
  have hval : ∀ (j : Nat) t v, Try.f7.params[j]? = some t → args[j]? = some v → Value.okWide Try.prog W .any base t v := hval0
  have hW' := hW
  obtain ⟨p, q, hA0, hV, rfl, hfz, hnd⟩ := hW
  have hA : DataW.TrodAll enc Try.prog W 0 (fun _ => true) true Try.f7.params.toList args.toList ds p := hA0
  rw [Try.params7] at hA hval
  obtain ⟨v0, vs0, d0, ds0, p0, q0, hargs, rfl, rfl, h0, r0⟩ := trodAll_cons hA
  obtain ⟨v1, vs1, d1, ds1, p1, q1, rfl, rfl, rfl, h1, r1⟩ := trodAll_cons r0
  obtain ⟨rfl, rfl, rfl⟩ := trodAll_nil r1
  obtain rfl : args = #[v0, v1] := by cases args; simp_all
  obtain ⟨rfl, rfl⟩ := trodVars_none hV
  have k0 := h0
  have lt0 : ∀ x ∈ p0, x.block < W.heap.size := by obtain ⟨m, hm⟩ := k0; exact DataW.trod_lt m _ _ _ hm
  have k1 := h1
  have lt1 : ∀ x ∈ p1, x.block < W.heap.size := by obtain ⟨m, hm⟩ := k1; exact DataW.trod_lt m _ _ _ hm
  obtain ⟨a0, len0, cap0, rfl⟩ := okWide_slice Try.underlying22 (hval 0 22 v0 rfl rfl)
  obtain ⟨l0, wr0, wm0⟩ : ∃ l0, ReadsO W W.heap.size a0 len0 l0 ∧ len0 ≤ maxLen := by
    obtain ⟨fuel0, hf0⟩ := h0
    obtain ⟨a', len', cap', l', he', hr', hm'⟩ := open_ops Try.underlying22 Try.underlying33 (by kernel_rfl) (by kernel_rfl) Try.underlying3 Try.underlying29 Try.underlying4 Try.underlying31 rfl rfl rfl rfl rfl hf0
    injection he' with e1 e2 e3
    subst e1; subst e2
    exact ⟨l', hr', hm'⟩
  obtain ⟨a1, len1, cap1, rfl⟩ := okWide_slice Try.underlying31 (hval 1 31 v1 rfl rfl)
  obtain ⟨l1, wr1, wm1⟩ : ∃ l1, ReadsB W W.heap.size a1 len1 l1 ∧ len1 ≤ maxLen := by
    obtain ⟨fuel1, hf1⟩ := h1
    obtain ⟨a', len', cap', l', he', hr', hm'⟩ := open_keep Try.underlying31 Try.underlying4 (by kernel_rfl) hf1
    injection he' with e1 e2 e3
    subst e1; subst e2
    exact ⟨l', hr', hm'⟩
  clear hA0 hval0
  refine (walk a0 len0 cap0 l0 a1 len1 cap1 l1 W wr0 wm0 wr1 wm1).mono fun e W' ⟨he, bel⟩ => ?_
  subst he
  exact ⟨_, rfl, _, _, _, [], _, [], hW', trodAll_mk1 (shut_bool Try.underlying4 _), (trodAll_cons_mk (Below.trod laidOut (by kernel_rfl) (of_decide_eq_true (by kernel_rfl)) k0 bel lt0) (trodAll_cons_mk (Below.trod laidOut (by kernel_rfl) (of_decide_eq_true (by kernel_rfl)) k1 bel lt1) trodAll_mk0)), rfl, bel.frame _, fun h => by cases h⟩

theorem over : Rows.deviceTwiceRow.holds Try.pinned (OpenSpec.ofChange Rows.deviceTwiceSpec) :=
  OpenClaim.holds_of_wide 7 Try.f7 rfl rfl rfl rfl rfl rfl rfl ⟨rfl, rfl, rfl, rfl, rfl⟩ rfl rfl rfl rfl rfl (by kernel_rfl) Try.func7 (by kernel_rfl)
    (of_decide_eq_true (by kernel_rfl)) (by unfold Func.isWrapper; first | (rw [if_pos (by decide +kernel)]; kernel_rfl) | (rw [if_neg (by decide +kernel)]; exact ⟨rfl, rfl⟩))
    (fun os started H enc _ => lifted os started H enc)

theorem proved : Rows.DeviceTwiceSaid := over
end Go.Proofs.Ytcnmbddlaaopgaa.deviceTwice
