/-
  DeviceFaults: for whatever place, kinds of acts and fuse or fault; no condition.
-/
import Derived.Test.YtcnmbddlaaopgaaRows
import Derived.Test.YtcnmbddlaaopgaaDevLaw
import Derived.WalkKit
import Derived.ProofKit
import Derived.OpenShut
import Derived.ShutString
import Derived.ChangeOld
import Derived.Below
namespace Go.Proofs.Ytcnmbddlaaopgaa.deviceFaults
open Go.ChangeShapes Go.WideShapes Go.ChangeAt Go.RowKit
open Go.ChangeMaps (open_string shut_string)
set_option linter.unusedVariables false

theorem own : ownKnob Try.prog.godebug = none := by kernel_rfl
theorem laidOut : laidOutB Try.prog = true := by kernel_rfl

/-- the words of a block -/
def wordsOf (z : Nat) : List Nat := [z, 0, 0, 0, 0, 0, 0, 0]
/-- the device ahead of act i, done of them being done -/
def Run (fuse : Bool) (n i : Nat) (s : St) (done : Nat) : Prop :=
  s.size = 8 ∧ s.blocks = 1 ∧ s.acts = done ∧ done ≤ i ∧
  ((fuse = true ∧ s.tb = false ∧ s.fb = true ∧ ((i ≤ n ∧ s.down = false ∧ s.fn = (n : Int) - i ∧ done = i) ∨ (n < i ∧ s.down = true ∧ done = n))) ∨
   (fuse = false ∧ s.fb = false ∧ s.down = false ∧ ((i ≤ n ∧ s.tb = true ∧ s.tn = (n : Int) - i ∧ done = i) ∨ (n < i ∧ s.tb = false ∧ done + 1 = i))))
def bad (fuse : Bool) (n i : Nat) : Prop := i = n ∨ (fuse = true ∧ n < i)
theorem run_step {fuse : Bool} {n i done : Nat} {s : St} (h : Run fuse n i s done) :
    (bad fuse n i ∧ (begin s true).1 = (if fuse then 8 else 6) ∧ Run fuse n (i + 1) (begin s true).2 done) ∨ (¬ bad fuse n i ∧ (begin s true).1 = 0 ∧ Run fuse n (i + 1) (begin s true).2 (done + 1)) := by
  obtain ⟨h1, h2, h3, h4, h5⟩ := h
  rcases h5 with ⟨rfl, a1, a2, a3⟩ | ⟨rfl, a1, a2, a3⟩
  · rcases a3 with ⟨b1, b2, b3, b4⟩ | ⟨b1, b2, b3⟩
    · by_cases e : i = n
      · refine .inl ⟨.inl e, ?_, ?_⟩
        · unfold begin; simp [b2, a2, b3, e]
        · have : (begin s true).2 = { s with down := true } := by unfold begin; simp [b2, a2, b3, e]
          rw [this]
          exact ⟨h1, h2, h3, by omega, .inl ⟨rfl, a1, a2, .inr ⟨by omega, rfl, by omega⟩⟩⟩
      · have hn0 : ¬ (s.fn = 0) := by omega
        refine .inr ⟨fun hb => by rcases hb with hb | hb <;> omega, ?_, ?_⟩
        · unfold begin; simp [b2, a2, a1, hn0]
        · have : (begin s true).2 = { s with fn := s.fn - 1, acts := s.acts + 1 } := by unfold begin; simp [b2, a2, a1, hn0]
          rw [this]
          exact ⟨h1, h2, by show s.acts + 1 = _; rw [h3]; push_cast; rfl, by omega, .inl ⟨rfl, a1, a2, .inl ⟨by omega, b2, by show s.fn - 1 = _; rw [b3]; push_cast; omega, by omega⟩⟩⟩
    · refine .inl ⟨.inr ⟨rfl, b1⟩, ?_, ?_⟩
      · rw [begin_down s true b2]; rfl
      · rw [begin_down s true b2]
        exact ⟨h1, h2, h3, by omega, .inl ⟨rfl, a1, a2, .inr ⟨by omega, b2, b3⟩⟩⟩
  · rcases a3 with ⟨b1, b2, b3, b4⟩ | ⟨b1, b2, b3⟩
    · by_cases e : i = n
      · refine .inl ⟨.inl e, ?_, ?_⟩
        · unfold begin; simp [a1, a2, b2, b3, e]
        · have : (begin s true).2 = { s with tb := false, tn := 0 } := by unfold begin; simp [a1, a2, b2, b3, e]
          rw [this]
          exact ⟨h1, h2, h3, by omega, .inr ⟨rfl, a1, a2, .inr ⟨by omega, rfl, by omega⟩⟩⟩
      · have hn0 : ¬ (s.tn = 0) := by omega
        refine .inr ⟨fun hb => (by rcases hb with hb | ⟨hb, _⟩; omega; cases hb), ?_, ?_⟩
        · unfold begin; simp [a1, a2, b2, hn0]
        · have : (begin s true).2 = { s with tn := s.tn - 1, acts := s.acts + 1 } := by unfold begin; simp [a1, a2, b2, hn0]
          rw [this]
          exact ⟨h1, h2, by show s.acts + 1 = _; rw [h3]; push_cast; rfl, by omega, .inr ⟨rfl, a1, a2, .inl ⟨by omega, b2, by show s.tn - 1 = _; rw [b3]; push_cast; omega, by omega⟩⟩⟩
    · refine .inr ⟨fun hb => (by rcases hb with hb | ⟨hb, _⟩; omega; cases hb), ?_, ?_⟩
      · rw [begin_ok s a2 a1 b2]
      · rw [begin_ok s a2 a1 b2]
        exact ⟨h1, h2, by show s.acts + 1 = _; rw [h3]; push_cast; rfl, by omega, .inr ⟨rfl, a1, a2, .inr ⟨by omega, b2, by omega⟩⟩⟩
theorem run_read {fuse : Bool} {n i done : Nat} {s : St} (h : Run fuse n i s done) : read s 0 = begin s true := by
  unfold read right; rw [h.2.1]; rfl
theorem run_write {fuse : Bool} {n i done z : Nat} {s : St} (h : Run fuse n i s done) : write s 0 (wordsOf z) = if (begin s true).1 = 0 then (0, { (begin s true).2 with later := s.later ++ [(0, wordsOf z)] }) else begin s true := by
  have : (right s 0 && decide ((wordsOf z).length = s.size)) = true := by unfold right; rw [h.2.1, h.1]; rfl
  unfold write; rw [this]
theorem now_begin (s : St) (b : Bool) (x : Int) : St.now (begin s b).2 x = s.now x := by
  obtain ⟨e1, _, e3, e4⟩ := begin_same s b
  unfold St.now; rw [e1, e3, e4]
theorem run_more {fuse : Bool} {n i done : Nat} {s : St} (h : Run fuse n i s done) (fl : Int → Option (List Nat)) (l : List (Int × List Nat)) : Run fuse n i { s with fl := fl, later := l } done := h
/-- what an act makes: read, write, sync -/
theorem run_acts {fuse : Bool} {n i done : Nat} {s : St} (h : Run fuse n i s done) (z : Nat) :
    ∃ er done', ((bad fuse n i ∧ er = (if fuse then 8 else 6) ∧ done' = done) ∨ (¬ bad fuse n i ∧ er = 0 ∧ done' = done + 1)) ∧
      ((read s 0).1 = er ∧ Run fuse n (i + 1) (read s 0).2 done' ∧ (read s 0).2.now 0 = s.now 0) ∧
      ((write s 0 (wordsOf z)).1 = er ∧ Run fuse n (i + 1) (write s 0 (wordsOf z)).2 done' ∧ (write s 0 (wordsOf z)).2.now 0 = if er = 0 then wordsOf z else s.now 0) ∧
      ((sync s).1 = er ∧ Run fuse n (i + 1) (sync s).2 done' ∧ (sync s).2.now 0 = s.now 0) := by
  have hs := run_step h
  have hne : (if fuse = true then (8 : Int) else 6) ≠ 0 := by split <;> decide
  have hsz := (begin_same s true).1
  rcases hs with ⟨a1, a2, a3⟩ | ⟨a1, a2, a3⟩
  · have h0 : (begin s true).1 ≠ 0 := by rw [a2]; exact hne
    have hs2 : sync s = begin s true := by unfold sync; dsimp only; rw [if_neg h0]
    refine ⟨_, done, .inl ⟨a1, rfl, rfl⟩, ?_, ?_, ?_⟩
    · rw [run_read h]; exact ⟨a2, a3, now_begin s true 0⟩
    · rw [run_write h, if_neg h0, if_neg hne]; exact ⟨a2, a3, now_begin s true 0⟩
    · rw [hs2]; exact ⟨a2, a3, now_begin s true 0⟩
  · have hs2 : sync s = (0, { (begin s true).2 with fl := lay s.fl s.later, later := [] }) := by unfold sync; dsimp only; rw [if_pos a2]
    refine ⟨0, done + 1, .inr ⟨a1, rfl, rfl⟩, ?_, ?_, ?_⟩
    · rw [run_read h]; exact ⟨a2, a3, now_begin s true 0⟩
    · rw [run_write h, if_pos a2, if_pos rfl]
      refine ⟨rfl, a3, ?_⟩
      unfold St.now
      show blk _ (lay _ (s.later ++ [(0, wordsOf z)]) 0) = _
      rw [lay_snoc, upd_same]; rfl
    · rw [hs2]
      refine ⟨rfl, a3, ?_⟩
      unfold St.now
      show blk (begin s true).2.size (lay (lay s.fl s.later) [] 0) = _
      rw [hsz]; rfl
theorem words8 {w : World} {G : Nat → Prop} {v : Value} {z : Nat} (h : Words w G v (wordsOf z)) : ∃ g c, v = .slice (some ⟨g, 0, none⟩) 8 c ∧ w.cell? ⟨g, 0, none⟩ = some (.int .u64 (z : Int)) := by
  obtain ⟨g, c, cs, rfl, hr, _, _, _, _, _, ht⟩ := h
  refine ⟨g, c, rfl, ?_⟩
  have h0 : (cs.take (wordsOf z).length)[0]? = cs[0]? := by rw [List.getElem?_take, if_pos (by show 0 < 8; decide)]
  rw [hr.cell 0, ← h0, ht]; rfl
theorem wordsOf_wf {z : Nat} (hz : z < 18446744073709551616) : ∀ x ∈ wordsOf z, (Lit.int .u64 (x : Nat)).wf = true := by
  intro x hx
  rcases List.mem_cons.1 hx with rfl | hx
  · exact u64_wf hz
  · have : x = 0 := by simpa using hx
    subst this; decide

set_option maxHeartbeats 4000000 in
set_option maxRecDepth 100000 in
theorem walk (a0 : Int) (a1 : Option Addr) (len1 cap1 : Nat) (z1 : List Int) (a2 : Bool) (w : World) (w0 : (Lit.int .u8 a0).wf = true) (w1 : IsRow .u8 w a1 len1 cap1 z1) :
    Calls Try.prog 4 #[.int .u8 a0, .slice a1 len1 cap1, .bool a2] w fun e w' => e = .returned (.bool true) ∧ Below w.heap.size w w' := by
  have hn0 := u8_nonneg a0 w0
  obtain ⟨n, rfl⟩ := Int.eq_ofNat_of_zero_le hn0
  have hn := u8_lt w0
  obtain ⟨l1, hr1⟩ := w1.reads u8_nonneg
  have hcap := w1.cap
  have HR1 := Lib.hid hr1
  clear hn0 w0 w1 hr1
  go_enter Try.func4, Try.ntmps4
  go_wp2_with fail
  refine (awake_any _).mono ?_; rintro e w1 ⟨rfl, hb1⟩
  have HB1 := Lib.hid hb1
  have hs1 := hb1.size
  clear hb1
  by_cases hbig : len1 > 60
  · have g : decide ((len1 : Int) > 60) = true := by simp; omega
    go_wp2_with fail
    refine (awake_any _).mono ?_; rintro e w2 ⟨rfl, hb2⟩
    have HB2 := Lib.hid (HB1.out.trans (hb2.mono hs1))
    clear hb2
    go_wp2
    go_ret
    exact ⟨rfl, HB2.out⟩
  have g : decide ((len1 : Int) > 60) = false := by simp; omega
  go_wp2_with fail
  refine (new_any 8 1 _ (by omega) (by omega)).mono ?_; rintro e w2 ⟨p, G, rfl, hd2, hG2, hb2⟩
  have HB2 := Lib.hid (HB1.out.trans (hb2.mono hs1))
  have hs2 := HB2.out.size
  have HG2 : Hid (∀ k, G k → w.heap.size ≤ k) := fun k hk => Nat.le_trans hs1 (hG2 k hk)
  have HD2 := Lib.hid hd2
  clear hb2 hd2 hG2
  have hsf := setFuse_any p (fresh 8 1) 0 G (n : Int) w2 HD2.out (by omega) (by omega)
  have hst := setFault_any p (fresh 8 1) 0 G (n : Int) w2 HD2.out (by omega) (by omega)
  cases a2
  · go_wp2_with fail
    refine hst.mono ?_
    rintro e w3 ⟨rfl, hd3, hf3⟩
    have HB3 : Hid (Below w.heap.size w w3) := HB2.out.trans (hf3.below hs2 fun k hk => by subst hk; exact HG2.out _ HD2.out.mine)
    have HD3 := Lib.hid hd3
    have HRUN3 : Hid (Run false n 0 { fresh 8 1 with tb := true, tn := (n : Int) } 0) := ⟨rfl, rfl, rfl, Nat.le_refl _, .inr ⟨rfl, rfl, rfl, .inl ⟨Nat.zero_le _, rfl, by simp, rfl⟩⟩⟩
    clear hd3 hf3 hsf hst
    go_wp2
    go_loopw [9, 10, 11] (fun lastv donev iv wr => ∃ (i done last : Nat) (G' : Nat → Prop) (s : St), i ≤ len1 ∧ iv = .int .i64 (i : Int) ∧ donev = .int .i64 (done : Int) ∧ lastv = .int .u64 (last : Int) ∧ last ≤ 100 ∧ Hid (Run false n i s done) ∧ Hid (Dev wr G' p s i) ∧ Hid (s.now 0 = wordsOf last) ∧ Hid (∀ k, G' k → w.heap.size ≤ k) ∧ Hid (Below w.heap.size w wr)) (fun _ _ iv _ => len1 - (intOf iv).toNat)
    case atStart => exact ⟨0, 0, 0, G, _, by omega, rfl, rfl, rfl, by omega, HRUN3.out, HD3.out, rfl, HG2.out, HB3.out⟩
    case round =>
      obtain ⟨i, done, last, G', s, hi, rfl, rfl, rfl, hlast, HRUN, HD, HNOW, HG, HB⟩ := hrel
      have hdone : done ≤ i := HRUN.out.2.2.2.1
      by_cases hlt : i < len1
      · obtain ⟨kb, off, c, rfl, hkb, hc, wc, _⟩ := (HR1.out.keep HB.out).at_ hlt
        have hc256 := u8_lt wc
        obtain ⟨r, hr⟩ : ∃ r, c % 3 = r := ⟨_, rfl⟩
        have hr3 : r < 3 := by omega
        have hm : (c : Int) % 3 = (r : Int) := by omega
        have hj0 : (0 : Int) ≤ (i : Int) := by omega
        have hj1 : (i : Int) < (len1 : Int) := by omega
        clear hr wc
        rcases Nat.lt_trichotomy i n with hin | hin | hin
        · have hbad : ¬ bad false n i := fun h => (by rcases h with h | ⟨h, _⟩; omega; cases h)
          have hact : ((read s 0).1 = 0 ∧ Run false n (i + 1) (read s 0).2 (done + 1) ∧ (read s 0).2.now 0 = s.now 0) ∧
              ((write s 0 (wordsOf (i + 1))).1 = 0 ∧ Run false n (i + 1) (write s 0 (wordsOf (i + 1))).2 (done + 1) ∧ (write s 0 (wordsOf (i + 1))).2.now 0 = if (0 : Int) = 0 then wordsOf (i + 1) else s.now 0) ∧
              ((sync s).1 = 0 ∧ Run false n (i + 1) (sync s).2 (done + 1) ∧ (sync s).2.now 0 = s.now 0) := by
            obtain ⟨er, done', hh, h⟩ := run_acts HRUN.out (i + 1)
            rcases hh with ⟨x1, x2, x3⟩ | ⟨x1, x2, x3⟩
            · exact absurd x1 hbad
            · rw [x2, x3] at h; exact h
          have HACT := Lib.hid hact
          clear hact hbad
          have g1 : ((i : Int) == (n : Int)) = false := by simp; omega
          have g2 : decide ((i : Int) > (n : Int)) = false := by simp; omega
          obtain rfl | rfl | rfl : r = 0 ∨ r = 1 ∨ r = 2 := by omega
          · have hrd := read_any p s i G' 0 wr HD.out (by omega) (I64.of (by omega) (by omega))
            rw [HACT.out.1.1] at hrd
            go_wp2_with fail
            refine hrd.mono ?_
            rintro e w4 ⟨v4, rfl, hv4, hq4, hd4, hf4⟩
            have HD4 := Lib.hid hd4
            obtain ⟨G4, rfl⟩ : ∃ G4, G4 = G' := ⟨_, rfl⟩
            have HRUN4 := Lib.hid HACT.out.1.2.1
            have HNOW4 : Hid ((read s 0).2.now 0 = wordsOf last) := HACT.out.1.2.2.trans HNOW.out
            have HG4 := HG
            have HB4 : Hid (Below w.heap.size w w4) := HB.out.trans (hf4.below HB.out.size fun k hk => by subst hk; exact HG.out _ HD.out.mine)
            have hq4 := hq4 (by trivial)
            rw [HNOW.out] at hq4
            obtain ⟨g4, c4, rfl, e0⟩ := words8 hq4
            clear hv4 hq4 hd4 hf4 hrd
            go_wp2
            go_roundw
            case rel => exact ⟨i + 1, done + 1, last, G4, _, by omega, by go_num, by go_num, by go_num, by omega, HRUN4.out, HD4.out, HNOW4.out, HG4.out, HB4.out⟩
            case measure => simp [intOf]; omega
          · have hz : (i : Int) + 1 = ((i + 1 : Nat) : Int) := by push_cast; rfl
            have hbl := (Below.refl wr.heap.size wr).alloc (Nat.le_refl _) (.cells ((wordsOf (i + 1)).map fun c : Nat => Value.int .u64 c).toArray 29)
            have hrd := alloc_reads (k := .u64) wr 29 _ (wordsOf (i + 1)) rfl (wordsOf_wf (by omega))
            have hwr := write_any p s i G' 0 (some ⟨wr.heap.size, 0, none⟩) 8 8 (wordsOf (i + 1)) _ (HD.out.below hbl) (by omega) (I64.of (by omega) (by omega)) hrd (by simp)
            rw [HACT.out.2.1.1] at hwr
            have HB3 := Lib.hid (HB.out.trans (hbl.mono HB.out.size))
            have HW3 : Hid ((wr.alloc (.cells ((wordsOf (i + 1)).map fun c : Nat => Value.int .u64 c).toArray 29)).heap.size = wr.heap.size + 1) := by unfold Hid; simp
            clear hbl hrd
            have hcall : Calls Try.prog 11 #[.pointer (some ⟨p, 0, none⟩), .int .i64 0, .slice (some ⟨wr.heap.size, 0, none⟩) 8 8] (wr.alloc (.cells #[.int .u64 ((i : Int) + 1), .int .u64 0, .int .u64 0, .int .u64 0, .int .u64 0, .int .u64 0, .int .u64 0, .int .u64 0] 29)) _ := hwr
            clear hwr hz
            go_wp2_with fail
            refine hcall.mono ?_
            rintro e w4 ⟨rfl, G4, hd4, hf4, hg4⟩
            have HD4 := Lib.hid hd4
            have HRUN4 := Lib.hid HACT.out.2.1.2.1
            have HNOW4 : Hid ((write s 0 (wordsOf (i + 1))).2.now 0 = wordsOf (i + 1)) := by have h := HACT.out.2.1.2.2; simp at h; exact h
            have HG4 : Hid (∀ k, G4 k → w.heap.size ≤ k) := fun k hk => by
              rcases hg4 k hk with h | h
              · exact HG.out k h
              · exact Nat.le_trans HB3.out.size h
            have HB4 : Hid (Below w.heap.size w w4) := HB3.out.trans (hf4.below HB3.out.size HG.out)
            clear hd4 hf4 hg4 hcall
            go_wp2
            go_roundw
            case rel => exact ⟨i + 1, done + 1, i + 1, G4, _, by omega, by go_num, by go_num, by go_num, by omega, HRUN4.out, HD4.out, HNOW4.out, HG4.out, HB4.out⟩
            case measure => simp [intOf]; omega
          · have hsy := sync_any p s i G' wr HD.out (by omega)
            rw [HACT.out.2.2.1] at hsy
            go_wp2_with fail
            refine hsy.mono ?_
            rintro e w4 ⟨rfl, G4, hd4, hf4, hg4⟩
            have HD4 := Lib.hid hd4
            have HRUN4 := Lib.hid HACT.out.2.2.2.1
            have HNOW4 : Hid ((sync s).2.now 0 = wordsOf last) := HACT.out.2.2.2.2.trans HNOW.out
            have HG4 : Hid (∀ k, G4 k → w.heap.size ≤ k) := fun k hk => by
              rcases hg4 k hk with h | h
              · exact HG.out k h
              · exact Nat.le_trans HB.out.size h
            have HB4 : Hid (Below w.heap.size w w4) := HB.out.trans (hf4.below HB.out.size HG.out)
            clear hd4 hf4 hg4 hsy
            go_wp2
            go_roundw
            case rel => exact ⟨i + 1, done + 1, last, G4, _, by omega, by go_num, by go_num, by go_num, by omega, HRUN4.out, HD4.out, HNOW4.out, HG4.out, HB4.out⟩
            case measure => simp [intOf]; omega
        · have hin1 : i ≤ n := by omega
          have hin2 : n ≤ i := by omega
          clear hin
          have hbad : bad false n i := .inl (by omega)
          have hact : ((read s 0).1 = 6 ∧ Run false n (i + 1) (read s 0).2 (done) ∧ (read s 0).2.now 0 = s.now 0) ∧
              ((write s 0 (wordsOf (i + 1))).1 = 6 ∧ Run false n (i + 1) (write s 0 (wordsOf (i + 1))).2 (done) ∧ (write s 0 (wordsOf (i + 1))).2.now 0 = if (6 : Int) = 0 then wordsOf (i + 1) else s.now 0) ∧
              ((sync s).1 = 6 ∧ Run false n (i + 1) (sync s).2 (done) ∧ (sync s).2.now 0 = s.now 0) := by
            obtain ⟨er, done', hh, h⟩ := run_acts HRUN.out (i + 1)
            rcases hh with ⟨x1, x2, x3⟩ | ⟨x1, x2, x3⟩
            · rw [x2, x3] at h; exact h
            · exact absurd hbad x1
          have HACT := Lib.hid hact
          clear hact hbad
          have g1 : ((i : Int) == (n : Int)) = true := by simp; omega
          obtain rfl | rfl | rfl : r = 0 ∨ r = 1 ∨ r = 2 := by omega
          · have hrd := read_any p s i G' 0 wr HD.out (by omega) (I64.of (by omega) (by omega))
            rw [HACT.out.1.1] at hrd
            go_wp2_with fail
            refine hrd.mono ?_
            rintro e w4 ⟨v4, rfl, hv4, hq4, hd4, hf4⟩
            have HD4 := Lib.hid hd4
            obtain ⟨G4, rfl⟩ : ∃ G4, G4 = G' := ⟨_, rfl⟩
            have HRUN4 := Lib.hid HACT.out.1.2.1
            have HNOW4 : Hid ((read s 0).2.now 0 = wordsOf last) := HACT.out.1.2.2.trans HNOW.out
            have HG4 := HG
            have HB4 : Hid (Below w.heap.size w w4) := HB.out.trans (hf4.below HB.out.size fun k hk => by subst hk; exact HG.out _ HD.out.mine)
            have hv4 := hv4 (by decide)
            subst hv4
            clear hq4 hd4 hf4 hrd
            go_wp2
            go_roundw
            case rel => exact ⟨i + 1, done, last, G4, _, by omega, by go_num, by go_num, by go_num, by omega, HRUN4.out, HD4.out, HNOW4.out, HG4.out, HB4.out⟩
            case measure => simp [intOf]; omega
          · have hz : (i : Int) + 1 = ((i + 1 : Nat) : Int) := by push_cast; rfl
            have hbl := (Below.refl wr.heap.size wr).alloc (Nat.le_refl _) (.cells ((wordsOf (i + 1)).map fun c : Nat => Value.int .u64 c).toArray 29)
            have hrd := alloc_reads (k := .u64) wr 29 _ (wordsOf (i + 1)) rfl (wordsOf_wf (by omega))
            have hwr := write_any p s i G' 0 (some ⟨wr.heap.size, 0, none⟩) 8 8 (wordsOf (i + 1)) _ (HD.out.below hbl) (by omega) (I64.of (by omega) (by omega)) hrd (by simp)
            rw [HACT.out.2.1.1] at hwr
            have HB3 := Lib.hid (HB.out.trans (hbl.mono HB.out.size))
            have HW3 : Hid ((wr.alloc (.cells ((wordsOf (i + 1)).map fun c : Nat => Value.int .u64 c).toArray 29)).heap.size = wr.heap.size + 1) := by unfold Hid; simp
            clear hbl hrd
            have hcall : Calls Try.prog 11 #[.pointer (some ⟨p, 0, none⟩), .int .i64 0, .slice (some ⟨wr.heap.size, 0, none⟩) 8 8] (wr.alloc (.cells #[.int .u64 ((i : Int) + 1), .int .u64 0, .int .u64 0, .int .u64 0, .int .u64 0, .int .u64 0, .int .u64 0, .int .u64 0] 29)) _ := hwr
            clear hwr hz
            go_wp2_with fail
            refine hcall.mono ?_
            rintro e w4 ⟨rfl, G4, hd4, hf4, hg4⟩
            have HD4 := Lib.hid hd4
            have HRUN4 := Lib.hid HACT.out.2.1.2.1
            have HNOW4 : Hid ((write s 0 (wordsOf (i + 1))).2.now 0 = wordsOf (last)) := by have h := HACT.out.2.1.2.2; simp at h; exact h.trans HNOW.out
            have HG4 : Hid (∀ k, G4 k → w.heap.size ≤ k) := fun k hk => by
              rcases hg4 k hk with h | h
              · exact HG.out k h
              · exact Nat.le_trans HB3.out.size h
            have HB4 : Hid (Below w.heap.size w w4) := HB3.out.trans (hf4.below HB3.out.size HG.out)
            clear hd4 hf4 hg4 hcall
            go_wp2
            go_roundw
            case rel => exact ⟨i + 1, done, last, G4, _, by omega, by go_num, by go_num, by go_num, by omega, HRUN4.out, HD4.out, HNOW4.out, HG4.out, HB4.out⟩
            case measure => simp [intOf]; omega
          · have hsy := sync_any p s i G' wr HD.out (by omega)
            rw [HACT.out.2.2.1] at hsy
            go_wp2_with fail
            refine hsy.mono ?_
            rintro e w4 ⟨rfl, G4, hd4, hf4, hg4⟩
            have HD4 := Lib.hid hd4
            have HRUN4 := Lib.hid HACT.out.2.2.2.1
            have HNOW4 : Hid ((sync s).2.now 0 = wordsOf last) := HACT.out.2.2.2.2.trans HNOW.out
            have HG4 : Hid (∀ k, G4 k → w.heap.size ≤ k) := fun k hk => by
              rcases hg4 k hk with h | h
              · exact HG.out k h
              · exact Nat.le_trans HB.out.size h
            have HB4 : Hid (Below w.heap.size w w4) := HB.out.trans (hf4.below HB.out.size HG.out)
            clear hd4 hf4 hg4 hsy
            go_wp2
            go_roundw
            case rel => exact ⟨i + 1, done, last, G4, _, by omega, by go_num, by go_num, by go_num, by omega, HRUN4.out, HD4.out, HNOW4.out, HG4.out, HB4.out⟩
            case measure => simp [intOf]; omega
        · have hbad : ¬ bad false n i := fun h => (by rcases h with h | ⟨h, _⟩; omega; cases h)
          have hact : ((read s 0).1 = 0 ∧ Run false n (i + 1) (read s 0).2 (done + 1) ∧ (read s 0).2.now 0 = s.now 0) ∧
              ((write s 0 (wordsOf (i + 1))).1 = 0 ∧ Run false n (i + 1) (write s 0 (wordsOf (i + 1))).2 (done + 1) ∧ (write s 0 (wordsOf (i + 1))).2.now 0 = if (0 : Int) = 0 then wordsOf (i + 1) else s.now 0) ∧
              ((sync s).1 = 0 ∧ Run false n (i + 1) (sync s).2 (done + 1) ∧ (sync s).2.now 0 = s.now 0) := by
            obtain ⟨er, done', hh, h⟩ := run_acts HRUN.out (i + 1)
            rcases hh with ⟨x1, x2, x3⟩ | ⟨x1, x2, x3⟩
            · exact absurd x1 hbad
            · rw [x2, x3] at h; exact h
          have HACT := Lib.hid hact
          clear hact hbad
          have g1 : ((i : Int) == (n : Int)) = false := by simp; omega
          have g2 : decide ((i : Int) > (n : Int)) = true := by simp; omega
          obtain rfl | rfl | rfl : r = 0 ∨ r = 1 ∨ r = 2 := by omega
          · have hrd := read_any p s i G' 0 wr HD.out (by omega) (I64.of (by omega) (by omega))
            rw [HACT.out.1.1] at hrd
            go_wp2_with fail
            refine hrd.mono ?_
            rintro e w4 ⟨v4, rfl, hv4, hq4, hd4, hf4⟩
            have HD4 := Lib.hid hd4
            obtain ⟨G4, rfl⟩ : ∃ G4, G4 = G' := ⟨_, rfl⟩
            have HRUN4 := Lib.hid HACT.out.1.2.1
            have HNOW4 : Hid ((read s 0).2.now 0 = wordsOf last) := HACT.out.1.2.2.trans HNOW.out
            have HG4 := HG
            have HB4 : Hid (Below w.heap.size w w4) := HB.out.trans (hf4.below HB.out.size fun k hk => by subst hk; exact HG.out _ HD.out.mine)
            have hq4 := hq4 (by trivial)
            rw [HNOW.out] at hq4
            obtain ⟨g4, c4, rfl, e0⟩ := words8 hq4
            clear hv4 hq4 hd4 hf4 hrd
            go_wp2
            go_roundw
            case rel => exact ⟨i + 1, done + 1, last, G4, _, by omega, by go_num, by go_num, by go_num, by omega, HRUN4.out, HD4.out, HNOW4.out, HG4.out, HB4.out⟩
            case measure => simp [intOf]; omega
          · have hz : (i : Int) + 1 = ((i + 1 : Nat) : Int) := by push_cast; rfl
            have hbl := (Below.refl wr.heap.size wr).alloc (Nat.le_refl _) (.cells ((wordsOf (i + 1)).map fun c : Nat => Value.int .u64 c).toArray 29)
            have hrd := alloc_reads (k := .u64) wr 29 _ (wordsOf (i + 1)) rfl (wordsOf_wf (by omega))
            have hwr := write_any p s i G' 0 (some ⟨wr.heap.size, 0, none⟩) 8 8 (wordsOf (i + 1)) _ (HD.out.below hbl) (by omega) (I64.of (by omega) (by omega)) hrd (by simp)
            rw [HACT.out.2.1.1] at hwr
            have HB3 := Lib.hid (HB.out.trans (hbl.mono HB.out.size))
            have HW3 : Hid ((wr.alloc (.cells ((wordsOf (i + 1)).map fun c : Nat => Value.int .u64 c).toArray 29)).heap.size = wr.heap.size + 1) := by unfold Hid; simp
            clear hbl hrd
            have hcall : Calls Try.prog 11 #[.pointer (some ⟨p, 0, none⟩), .int .i64 0, .slice (some ⟨wr.heap.size, 0, none⟩) 8 8] (wr.alloc (.cells #[.int .u64 ((i : Int) + 1), .int .u64 0, .int .u64 0, .int .u64 0, .int .u64 0, .int .u64 0, .int .u64 0, .int .u64 0] 29)) _ := hwr
            clear hwr hz
            go_wp2_with fail
            refine hcall.mono ?_
            rintro e w4 ⟨rfl, G4, hd4, hf4, hg4⟩
            have HD4 := Lib.hid hd4
            have HRUN4 := Lib.hid HACT.out.2.1.2.1
            have HNOW4 : Hid ((write s 0 (wordsOf (i + 1))).2.now 0 = wordsOf (i + 1)) := by have h := HACT.out.2.1.2.2; simp at h; exact h
            have HG4 : Hid (∀ k, G4 k → w.heap.size ≤ k) := fun k hk => by
              rcases hg4 k hk with h | h
              · exact HG.out k h
              · exact Nat.le_trans HB3.out.size h
            have HB4 : Hid (Below w.heap.size w w4) := HB3.out.trans (hf4.below HB3.out.size HG.out)
            clear hd4 hf4 hg4 hcall
            go_wp2
            go_roundw
            case rel => exact ⟨i + 1, done + 1, i + 1, G4, _, by omega, by go_num, by go_num, by go_num, by omega, HRUN4.out, HD4.out, HNOW4.out, HG4.out, HB4.out⟩
            case measure => simp [intOf]; omega
          · have hsy := sync_any p s i G' wr HD.out (by omega)
            rw [HACT.out.2.2.1] at hsy
            go_wp2_with fail
            refine hsy.mono ?_
            rintro e w4 ⟨rfl, G4, hd4, hf4, hg4⟩
            have HD4 := Lib.hid hd4
            have HRUN4 := Lib.hid HACT.out.2.2.2.1
            have HNOW4 : Hid ((sync s).2.now 0 = wordsOf last) := HACT.out.2.2.2.2.trans HNOW.out
            have HG4 : Hid (∀ k, G4 k → w.heap.size ≤ k) := fun k hk => by
              rcases hg4 k hk with h | h
              · exact HG.out k h
              · exact Nat.le_trans HB.out.size h
            have HB4 : Hid (Below w.heap.size w w4) := HB.out.trans (hf4.below HB.out.size HG.out)
            clear hd4 hf4 hg4 hsy
            go_wp2
            go_roundw
            case rel => exact ⟨i + 1, done + 1, last, G4, _, by omega, by go_num, by go_num, by go_num, by omega, HRUN4.out, HD4.out, HNOW4.out, HG4.out, HB4.out⟩
            case measure => simp [intOf]; omega
      · obtain rfl : i = len1 := by omega
        obtain ⟨bl, bf, v, nl, hr, _⟩ := id HD.out.2
        have hacts := acts_any p s bl bf v wr hr
        have hdown := down_any p s bl bf v wr hr
        rw [HRUN.out.2.2.1] at hacts
        have hj1 : ¬ ((i : Int) < (i : Int)) := by omega
        clear hr
        have hdn : s.down = false := by
          rcases HRUN.out.2.2.2.2 with ⟨h, _⟩ | ⟨_, _, h, _⟩
          · cases h
          · exact h
        rw [hdn] at hdown
        go_wp2_with fail
        refine hacts.mono ?_
        rintro e w4 ⟨rfl, rfl⟩
        go_wp2_with fail
        refine hdown.mono ?_
        rintro e w5 ⟨rfl, rfl⟩
        go_wp2
        go_ret
        exact ⟨rfl, HB.out⟩
  · go_wp2_with fail
    refine hsf.mono ?_
    rintro e w3 ⟨rfl, hd3, hf3⟩
    have HB3 : Hid (Below w.heap.size w w3) := HB2.out.trans (hf3.below hs2 fun k hk => by subst hk; exact HG2.out _ HD2.out.mine)
    have HD3 := Lib.hid hd3
    have HRUN3 : Hid (Run true n 0 { fresh 8 1 with fb := true, fn := (n : Int) } 0) := ⟨rfl, rfl, rfl, Nat.le_refl _, .inl ⟨rfl, rfl, rfl, .inl ⟨Nat.zero_le _, rfl, by simp, rfl⟩⟩⟩
    clear hd3 hf3 hsf hst
    go_wp2
    go_loopw [9, 10, 11] (fun lastv donev iv wr => ∃ (i done last : Nat) (G' : Nat → Prop) (s : St), i ≤ len1 ∧ iv = .int .i64 (i : Int) ∧ donev = .int .i64 (done : Int) ∧ lastv = .int .u64 (last : Int) ∧ last ≤ 100 ∧ Hid (Run true n i s done) ∧ Hid (Dev wr G' p s i) ∧ Hid (s.now 0 = wordsOf last) ∧ Hid (∀ k, G' k → w.heap.size ≤ k) ∧ Hid (Below w.heap.size w wr)) (fun _ _ iv _ => len1 - (intOf iv).toNat)
    case atStart => exact ⟨0, 0, 0, G, _, by omega, rfl, rfl, rfl, by omega, HRUN3.out, HD3.out, rfl, HG2.out, HB3.out⟩
    case round =>
      obtain ⟨i, done, last, G', s, hi, rfl, rfl, rfl, hlast, HRUN, HD, HNOW, HG, HB⟩ := hrel
      have hdone : done ≤ i := HRUN.out.2.2.2.1
      by_cases hlt : i < len1
      · obtain ⟨kb, off, c, rfl, hkb, hc, wc, _⟩ := (HR1.out.keep HB.out).at_ hlt
        have hc256 := u8_lt wc
        obtain ⟨r, hr⟩ : ∃ r, c % 3 = r := ⟨_, rfl⟩
        have hr3 : r < 3 := by omega
        have hm : (c : Int) % 3 = (r : Int) := by omega
        have hj0 : (0 : Int) ≤ (i : Int) := by omega
        have hj1 : (i : Int) < (len1 : Int) := by omega
        clear hr wc
        rcases Nat.lt_trichotomy i n with hin | hin | hin
        · have hbad : ¬ bad true n i := fun h => by rcases h with h | ⟨_, h⟩ <;> omega
          have hact : ((read s 0).1 = 0 ∧ Run true n (i + 1) (read s 0).2 (done + 1) ∧ (read s 0).2.now 0 = s.now 0) ∧
              ((write s 0 (wordsOf (i + 1))).1 = 0 ∧ Run true n (i + 1) (write s 0 (wordsOf (i + 1))).2 (done + 1) ∧ (write s 0 (wordsOf (i + 1))).2.now 0 = if (0 : Int) = 0 then wordsOf (i + 1) else s.now 0) ∧
              ((sync s).1 = 0 ∧ Run true n (i + 1) (sync s).2 (done + 1) ∧ (sync s).2.now 0 = s.now 0) := by
            obtain ⟨er, done', hh, h⟩ := run_acts HRUN.out (i + 1)
            rcases hh with ⟨x1, x2, x3⟩ | ⟨x1, x2, x3⟩
            · exact absurd x1 hbad
            · rw [x2, x3] at h; exact h
          have HACT := Lib.hid hact
          clear hact hbad
          have g1 : ((i : Int) == (n : Int)) = false := by simp; omega
          have g2 : decide ((i : Int) > (n : Int)) = false := by simp; omega
          obtain rfl | rfl | rfl : r = 0 ∨ r = 1 ∨ r = 2 := by omega
          · have hrd := read_any p s i G' 0 wr HD.out (by omega) (I64.of (by omega) (by omega))
            rw [HACT.out.1.1] at hrd
            go_wp2_with fail
            refine hrd.mono ?_
            rintro e w4 ⟨v4, rfl, hv4, hq4, hd4, hf4⟩
            have HD4 := Lib.hid hd4
            obtain ⟨G4, rfl⟩ : ∃ G4, G4 = G' := ⟨_, rfl⟩
            have HRUN4 := Lib.hid HACT.out.1.2.1
            have HNOW4 : Hid ((read s 0).2.now 0 = wordsOf last) := HACT.out.1.2.2.trans HNOW.out
            have HG4 := HG
            have HB4 : Hid (Below w.heap.size w w4) := HB.out.trans (hf4.below HB.out.size fun k hk => by subst hk; exact HG.out _ HD.out.mine)
            have hq4 := hq4 (by trivial)
            rw [HNOW.out] at hq4
            obtain ⟨g4, c4, rfl, e0⟩ := words8 hq4
            clear hv4 hq4 hd4 hf4 hrd
            go_wp2
            go_roundw
            case rel => exact ⟨i + 1, done + 1, last, G4, _, by omega, by go_num, by go_num, by go_num, by omega, HRUN4.out, HD4.out, HNOW4.out, HG4.out, HB4.out⟩
            case measure => simp [intOf]; omega
          · have hz : (i : Int) + 1 = ((i + 1 : Nat) : Int) := by push_cast; rfl
            have hbl := (Below.refl wr.heap.size wr).alloc (Nat.le_refl _) (.cells ((wordsOf (i + 1)).map fun c : Nat => Value.int .u64 c).toArray 29)
            have hrd := alloc_reads (k := .u64) wr 29 _ (wordsOf (i + 1)) rfl (wordsOf_wf (by omega))
            have hwr := write_any p s i G' 0 (some ⟨wr.heap.size, 0, none⟩) 8 8 (wordsOf (i + 1)) _ (HD.out.below hbl) (by omega) (I64.of (by omega) (by omega)) hrd (by simp)
            rw [HACT.out.2.1.1] at hwr
            have HB3 := Lib.hid (HB.out.trans (hbl.mono HB.out.size))
            have HW3 : Hid ((wr.alloc (.cells ((wordsOf (i + 1)).map fun c : Nat => Value.int .u64 c).toArray 29)).heap.size = wr.heap.size + 1) := by unfold Hid; simp
            clear hbl hrd
            have hcall : Calls Try.prog 11 #[.pointer (some ⟨p, 0, none⟩), .int .i64 0, .slice (some ⟨wr.heap.size, 0, none⟩) 8 8] (wr.alloc (.cells #[.int .u64 ((i : Int) + 1), .int .u64 0, .int .u64 0, .int .u64 0, .int .u64 0, .int .u64 0, .int .u64 0, .int .u64 0] 29)) _ := hwr
            clear hwr hz
            go_wp2_with fail
            refine hcall.mono ?_
            rintro e w4 ⟨rfl, G4, hd4, hf4, hg4⟩
            have HD4 := Lib.hid hd4
            have HRUN4 := Lib.hid HACT.out.2.1.2.1
            have HNOW4 : Hid ((write s 0 (wordsOf (i + 1))).2.now 0 = wordsOf (i + 1)) := by have h := HACT.out.2.1.2.2; simp at h; exact h
            have HG4 : Hid (∀ k, G4 k → w.heap.size ≤ k) := fun k hk => by
              rcases hg4 k hk with h | h
              · exact HG.out k h
              · exact Nat.le_trans HB3.out.size h
            have HB4 : Hid (Below w.heap.size w w4) := HB3.out.trans (hf4.below HB3.out.size HG.out)
            clear hd4 hf4 hg4 hcall
            go_wp2
            go_roundw
            case rel => exact ⟨i + 1, done + 1, i + 1, G4, _, by omega, by go_num, by go_num, by go_num, by omega, HRUN4.out, HD4.out, HNOW4.out, HG4.out, HB4.out⟩
            case measure => simp [intOf]; omega
          · have hsy := sync_any p s i G' wr HD.out (by omega)
            rw [HACT.out.2.2.1] at hsy
            go_wp2_with fail
            refine hsy.mono ?_
            rintro e w4 ⟨rfl, G4, hd4, hf4, hg4⟩
            have HD4 := Lib.hid hd4
            have HRUN4 := Lib.hid HACT.out.2.2.2.1
            have HNOW4 : Hid ((sync s).2.now 0 = wordsOf last) := HACT.out.2.2.2.2.trans HNOW.out
            have HG4 : Hid (∀ k, G4 k → w.heap.size ≤ k) := fun k hk => by
              rcases hg4 k hk with h | h
              · exact HG.out k h
              · exact Nat.le_trans HB.out.size h
            have HB4 : Hid (Below w.heap.size w w4) := HB.out.trans (hf4.below HB.out.size HG.out)
            clear hd4 hf4 hg4 hsy
            go_wp2
            go_roundw
            case rel => exact ⟨i + 1, done + 1, last, G4, _, by omega, by go_num, by go_num, by go_num, by omega, HRUN4.out, HD4.out, HNOW4.out, HG4.out, HB4.out⟩
            case measure => simp [intOf]; omega
        · have hin1 : i ≤ n := by omega
          have hin2 : n ≤ i := by omega
          clear hin
          have hbad : bad true n i := .inl (by omega)
          have hact : ((read s 0).1 = 8 ∧ Run true n (i + 1) (read s 0).2 (done) ∧ (read s 0).2.now 0 = s.now 0) ∧
              ((write s 0 (wordsOf (i + 1))).1 = 8 ∧ Run true n (i + 1) (write s 0 (wordsOf (i + 1))).2 (done) ∧ (write s 0 (wordsOf (i + 1))).2.now 0 = if (8 : Int) = 0 then wordsOf (i + 1) else s.now 0) ∧
              ((sync s).1 = 8 ∧ Run true n (i + 1) (sync s).2 (done) ∧ (sync s).2.now 0 = s.now 0) := by
            obtain ⟨er, done', hh, h⟩ := run_acts HRUN.out (i + 1)
            rcases hh with ⟨x1, x2, x3⟩ | ⟨x1, x2, x3⟩
            · rw [x2, x3] at h; exact h
            · exact absurd hbad x1
          have HACT := Lib.hid hact
          clear hact hbad
          have g1 : ((i : Int) == (n : Int)) = true := by simp; omega
          obtain rfl | rfl | rfl : r = 0 ∨ r = 1 ∨ r = 2 := by omega
          · have hrd := read_any p s i G' 0 wr HD.out (by omega) (I64.of (by omega) (by omega))
            rw [HACT.out.1.1] at hrd
            go_wp2_with fail
            refine hrd.mono ?_
            rintro e w4 ⟨v4, rfl, hv4, hq4, hd4, hf4⟩
            have HD4 := Lib.hid hd4
            obtain ⟨G4, rfl⟩ : ∃ G4, G4 = G' := ⟨_, rfl⟩
            have HRUN4 := Lib.hid HACT.out.1.2.1
            have HNOW4 : Hid ((read s 0).2.now 0 = wordsOf last) := HACT.out.1.2.2.trans HNOW.out
            have HG4 := HG
            have HB4 : Hid (Below w.heap.size w w4) := HB.out.trans (hf4.below HB.out.size fun k hk => by subst hk; exact HG.out _ HD.out.mine)
            have hv4 := hv4 (by decide)
            subst hv4
            clear hq4 hd4 hf4 hrd
            go_wp2
            go_roundw
            case rel => exact ⟨i + 1, done, last, G4, _, by omega, by go_num, by go_num, by go_num, by omega, HRUN4.out, HD4.out, HNOW4.out, HG4.out, HB4.out⟩
            case measure => simp [intOf]; omega
          · have hz : (i : Int) + 1 = ((i + 1 : Nat) : Int) := by push_cast; rfl
            have hbl := (Below.refl wr.heap.size wr).alloc (Nat.le_refl _) (.cells ((wordsOf (i + 1)).map fun c : Nat => Value.int .u64 c).toArray 29)
            have hrd := alloc_reads (k := .u64) wr 29 _ (wordsOf (i + 1)) rfl (wordsOf_wf (by omega))
            have hwr := write_any p s i G' 0 (some ⟨wr.heap.size, 0, none⟩) 8 8 (wordsOf (i + 1)) _ (HD.out.below hbl) (by omega) (I64.of (by omega) (by omega)) hrd (by simp)
            rw [HACT.out.2.1.1] at hwr
            have HB3 := Lib.hid (HB.out.trans (hbl.mono HB.out.size))
            have HW3 : Hid ((wr.alloc (.cells ((wordsOf (i + 1)).map fun c : Nat => Value.int .u64 c).toArray 29)).heap.size = wr.heap.size + 1) := by unfold Hid; simp
            clear hbl hrd
            have hcall : Calls Try.prog 11 #[.pointer (some ⟨p, 0, none⟩), .int .i64 0, .slice (some ⟨wr.heap.size, 0, none⟩) 8 8] (wr.alloc (.cells #[.int .u64 ((i : Int) + 1), .int .u64 0, .int .u64 0, .int .u64 0, .int .u64 0, .int .u64 0, .int .u64 0, .int .u64 0] 29)) _ := hwr
            clear hwr hz
            go_wp2_with fail
            refine hcall.mono ?_
            rintro e w4 ⟨rfl, G4, hd4, hf4, hg4⟩
            have HD4 := Lib.hid hd4
            have HRUN4 := Lib.hid HACT.out.2.1.2.1
            have HNOW4 : Hid ((write s 0 (wordsOf (i + 1))).2.now 0 = wordsOf (last)) := by have h := HACT.out.2.1.2.2; simp at h; exact h.trans HNOW.out
            have HG4 : Hid (∀ k, G4 k → w.heap.size ≤ k) := fun k hk => by
              rcases hg4 k hk with h | h
              · exact HG.out k h
              · exact Nat.le_trans HB3.out.size h
            have HB4 : Hid (Below w.heap.size w w4) := HB3.out.trans (hf4.below HB3.out.size HG.out)
            clear hd4 hf4 hg4 hcall
            go_wp2
            go_roundw
            case rel => exact ⟨i + 1, done, last, G4, _, by omega, by go_num, by go_num, by go_num, by omega, HRUN4.out, HD4.out, HNOW4.out, HG4.out, HB4.out⟩
            case measure => simp [intOf]; omega
          · have hsy := sync_any p s i G' wr HD.out (by omega)
            rw [HACT.out.2.2.1] at hsy
            go_wp2_with fail
            refine hsy.mono ?_
            rintro e w4 ⟨rfl, G4, hd4, hf4, hg4⟩
            have HD4 := Lib.hid hd4
            have HRUN4 := Lib.hid HACT.out.2.2.2.1
            have HNOW4 : Hid ((sync s).2.now 0 = wordsOf last) := HACT.out.2.2.2.2.trans HNOW.out
            have HG4 : Hid (∀ k, G4 k → w.heap.size ≤ k) := fun k hk => by
              rcases hg4 k hk with h | h
              · exact HG.out k h
              · exact Nat.le_trans HB.out.size h
            have HB4 : Hid (Below w.heap.size w w4) := HB.out.trans (hf4.below HB.out.size HG.out)
            clear hd4 hf4 hg4 hsy
            go_wp2
            go_roundw
            case rel => exact ⟨i + 1, done, last, G4, _, by omega, by go_num, by go_num, by go_num, by omega, HRUN4.out, HD4.out, HNOW4.out, HG4.out, HB4.out⟩
            case measure => simp [intOf]; omega
        · have hbad : bad true n i := .inr ⟨rfl, hin⟩
          have hact : ((read s 0).1 = 8 ∧ Run true n (i + 1) (read s 0).2 (done) ∧ (read s 0).2.now 0 = s.now 0) ∧
              ((write s 0 (wordsOf (i + 1))).1 = 8 ∧ Run true n (i + 1) (write s 0 (wordsOf (i + 1))).2 (done) ∧ (write s 0 (wordsOf (i + 1))).2.now 0 = if (8 : Int) = 0 then wordsOf (i + 1) else s.now 0) ∧
              ((sync s).1 = 8 ∧ Run true n (i + 1) (sync s).2 (done) ∧ (sync s).2.now 0 = s.now 0) := by
            obtain ⟨er, done', hh, h⟩ := run_acts HRUN.out (i + 1)
            rcases hh with ⟨x1, x2, x3⟩ | ⟨x1, x2, x3⟩
            · rw [x2, x3] at h; exact h
            · exact absurd hbad x1
          have HACT := Lib.hid hact
          clear hact hbad
          have g1 : ((i : Int) == (n : Int)) = false := by simp; omega
          have g2 : decide ((i : Int) > (n : Int)) = true := by simp; omega
          obtain rfl | rfl | rfl : r = 0 ∨ r = 1 ∨ r = 2 := by omega
          · have hrd := read_any p s i G' 0 wr HD.out (by omega) (I64.of (by omega) (by omega))
            rw [HACT.out.1.1] at hrd
            go_wp2_with fail
            refine hrd.mono ?_
            rintro e w4 ⟨v4, rfl, hv4, hq4, hd4, hf4⟩
            have HD4 := Lib.hid hd4
            obtain ⟨G4, rfl⟩ : ∃ G4, G4 = G' := ⟨_, rfl⟩
            have HRUN4 := Lib.hid HACT.out.1.2.1
            have HNOW4 : Hid ((read s 0).2.now 0 = wordsOf last) := HACT.out.1.2.2.trans HNOW.out
            have HG4 := HG
            have HB4 : Hid (Below w.heap.size w w4) := HB.out.trans (hf4.below HB.out.size fun k hk => by subst hk; exact HG.out _ HD.out.mine)
            have hv4 := hv4 (by decide)
            subst hv4
            clear hq4 hd4 hf4 hrd
            go_wp2
            go_roundw
            case rel => exact ⟨i + 1, done, last, G4, _, by omega, by go_num, by go_num, by go_num, by omega, HRUN4.out, HD4.out, HNOW4.out, HG4.out, HB4.out⟩
            case measure => simp [intOf]; omega
          · have hz : (i : Int) + 1 = ((i + 1 : Nat) : Int) := by push_cast; rfl
            have hbl := (Below.refl wr.heap.size wr).alloc (Nat.le_refl _) (.cells ((wordsOf (i + 1)).map fun c : Nat => Value.int .u64 c).toArray 29)
            have hrd := alloc_reads (k := .u64) wr 29 _ (wordsOf (i + 1)) rfl (wordsOf_wf (by omega))
            have hwr := write_any p s i G' 0 (some ⟨wr.heap.size, 0, none⟩) 8 8 (wordsOf (i + 1)) _ (HD.out.below hbl) (by omega) (I64.of (by omega) (by omega)) hrd (by simp)
            rw [HACT.out.2.1.1] at hwr
            have HB3 := Lib.hid (HB.out.trans (hbl.mono HB.out.size))
            have HW3 : Hid ((wr.alloc (.cells ((wordsOf (i + 1)).map fun c : Nat => Value.int .u64 c).toArray 29)).heap.size = wr.heap.size + 1) := by unfold Hid; simp
            clear hbl hrd
            have hcall : Calls Try.prog 11 #[.pointer (some ⟨p, 0, none⟩), .int .i64 0, .slice (some ⟨wr.heap.size, 0, none⟩) 8 8] (wr.alloc (.cells #[.int .u64 ((i : Int) + 1), .int .u64 0, .int .u64 0, .int .u64 0, .int .u64 0, .int .u64 0, .int .u64 0, .int .u64 0] 29)) _ := hwr
            clear hwr hz
            go_wp2_with fail
            refine hcall.mono ?_
            rintro e w4 ⟨rfl, G4, hd4, hf4, hg4⟩
            have HD4 := Lib.hid hd4
            have HRUN4 := Lib.hid HACT.out.2.1.2.1
            have HNOW4 : Hid ((write s 0 (wordsOf (i + 1))).2.now 0 = wordsOf (last)) := by have h := HACT.out.2.1.2.2; simp at h; exact h.trans HNOW.out
            have HG4 : Hid (∀ k, G4 k → w.heap.size ≤ k) := fun k hk => by
              rcases hg4 k hk with h | h
              · exact HG.out k h
              · exact Nat.le_trans HB3.out.size h
            have HB4 : Hid (Below w.heap.size w w4) := HB3.out.trans (hf4.below HB3.out.size HG.out)
            clear hd4 hf4 hg4 hcall
            go_wp2
            go_roundw
            case rel => exact ⟨i + 1, done, last, G4, _, by omega, by go_num, by go_num, by go_num, by omega, HRUN4.out, HD4.out, HNOW4.out, HG4.out, HB4.out⟩
            case measure => simp [intOf]; omega
          · have hsy := sync_any p s i G' wr HD.out (by omega)
            rw [HACT.out.2.2.1] at hsy
            go_wp2_with fail
            refine hsy.mono ?_
            rintro e w4 ⟨rfl, G4, hd4, hf4, hg4⟩
            have HD4 := Lib.hid hd4
            have HRUN4 := Lib.hid HACT.out.2.2.2.1
            have HNOW4 : Hid ((sync s).2.now 0 = wordsOf last) := HACT.out.2.2.2.2.trans HNOW.out
            have HG4 : Hid (∀ k, G4 k → w.heap.size ≤ k) := fun k hk => by
              rcases hg4 k hk with h | h
              · exact HG.out k h
              · exact Nat.le_trans HB.out.size h
            have HB4 : Hid (Below w.heap.size w w4) := HB.out.trans (hf4.below HB.out.size HG.out)
            clear hd4 hf4 hg4 hsy
            go_wp2
            go_roundw
            case rel => exact ⟨i + 1, done, last, G4, _, by omega, by go_num, by go_num, by go_num, by omega, HRUN4.out, HD4.out, HNOW4.out, HG4.out, HB4.out⟩
            case measure => simp [intOf]; omega
      · obtain rfl : i = len1 := by omega
        obtain ⟨bl, bf, v, nl, hr, _⟩ := id HD.out.2
        have hacts := acts_any p s bl bf v wr hr
        have hdown := down_any p s bl bf v wr hr
        rw [HRUN.out.2.2.1] at hacts
        have hj1 : ¬ ((i : Int) < (i : Int)) := by omega
        clear hr
        by_cases hin : i ≤ n
        · have hdn : s.down = false := by
            rcases HRUN.out.2.2.2.2 with ⟨_, _, _, ⟨_, h, _⟩ | ⟨h, _⟩⟩ | ⟨h, _⟩
            · exact h
            · omega
            · cases h
          have g2 : decide ((i : Int) > (n : Int)) = false := by simp; omega
          have g3 : decide (n < i) = false := by simp; omega
          rw [hdn] at hdown
          go_wp2_with fail
          refine hacts.mono ?_
          rintro e w4 ⟨rfl, rfl⟩
          go_wp2_with fail
          refine hdown.mono ?_
          rintro e w5 ⟨rfl, rfl⟩
          go_wp2
          go_ret
          exact ⟨rfl, HB.out⟩
        · have hdn : s.down = true := by
            rcases HRUN.out.2.2.2.2 with ⟨_, _, _, ⟨h, _, _⟩ | ⟨_, h, _⟩⟩ | ⟨h, _⟩
            · omega
            · exact h
            · cases h
          have g2 : decide ((i : Int) > (n : Int)) = true := by simp; omega
          have g3 : decide (n < i) = true := by simp; omega
          rw [hdn] at hdown
          go_wp2_with fail
          refine hacts.mono ?_
          rintro e w4 ⟨rfl, rfl⟩
          go_wp2_with fail
          refine hdown.mono ?_
          rintro e w5 ⟨rfl, rfl⟩
          go_wp2
          go_ret
          exact ⟨rfl, HB.out⟩

set_option maxRecDepth 100000 in
theorem lifted (os : Os) (started : os.Started) (H : Type) (enc : TypeId × Value → H) :
    ReturnsInHanded {} Try.checked os 4 .any (Rows.deviceFaultsSpec.pre6 enc Try.prog Try.f4 Rows.deviceFaultsRow.domain false) (Rows.deviceFaultsSpec.post enc Try.prog Try.f4 false true false false) := by
  refine returnsInHanded_of_change (C := Try.checked) own started (by kernel_rfl) Try.func4
    (ChangeSpec.witness6 (enc := enc) (C := Try.checked) false ⟨#[], #[.int .u8 0, .slice none 0 0, .bool false], []⟩ 8 (by kernel_rfl) (by kernel_rfl) (by kernel_rfl) (by kernel_rfl)) ?_
  intro W base args ds gs before hval0 hW hcnd _
  have hval : ∀ (j : Nat) t v, Try.f4.params[j]? = some t → args[j]? = some v → Value.okWide Try.prog W .any base t v := hval0
  have hW' := hW
  obtain ⟨p, q, hA0, hV, rfl, hfz, hnd⟩ := hW
  have hA : DataW.TrodAll enc Try.prog W 0 (fun _ => true) true Try.f4.params.toList args.toList ds p := hA0
  rw [Try.params4] at hA hval
  obtain ⟨v0, vs0, d0, ds0, p0, q0, hargs, rfl, rfl, h0, r0⟩ := trodAll_cons hA
  obtain ⟨v1, vs1, d1, ds1, p1, q1, rfl, rfl, rfl, h1, r1⟩ := trodAll_cons r0
  obtain ⟨v2, vs2, d2, ds2, p2, q2, rfl, rfl, rfl, h2, r2⟩ := trodAll_cons r1
  obtain ⟨rfl, rfl, rfl⟩ := trodAll_nil r2
  obtain rfl : args = #[v0, v1, v2] := by cases args; simp_all
  obtain ⟨rfl, rfl⟩ := trodVars_none hV
  have k0 := h0
  have lt0 : ∀ x ∈ p0, x.block < W.heap.size := by obtain ⟨m, hm⟩ := k0; exact DataW.trod_lt m _ _ _ hm
  have k1 := h1
  have lt1 : ∀ x ∈ p1, x.block < W.heap.size := by obtain ⟨m, hm⟩ := k1; exact DataW.trod_lt m _ _ _ hm
  have k2 := h2
  have lt2 : ∀ x ∈ p2, x.block < W.heap.size := by obtain ⟨m, hm⟩ := k2; exact DataW.trod_lt m _ _ _ hm
  obtain ⟨a0, rfl, rfl, rfl, w0⟩ := open_int Try.underlying5 (hval 0 5 v0 rfl rfl) h0
  obtain ⟨a1, len1, cap1, rfl⟩ := okWide_slice Try.underlying42 (hval 1 42 v1 rfl rfl)
  obtain ⟨z1, w1⟩ : ∃ zs, IsRow .u8 W a1 len1 cap1 zs := by
    obtain ⟨fuel, hf⟩ := h1
    rcases open_ints Try.underlying42 Try.underlying5 (by kernel_rfl) hf with ⟨hcs, _⟩ | ⟨x, l, c, zs, hcs, _, hl, hm, hz, _, hcell, hwz⟩
    · simp [Value.cells] at hcs
      obtain ⟨rfl, rfl, rfl⟩ := hcs
      exact ⟨[], .inl ⟨rfl, rfl, rfl, rfl⟩⟩
    · simp [Value.cells] at hcs
      obtain ⟨rfl, rfl, rfl⟩ := hcs
      exact ⟨zs, .inr ⟨_, rfl, hl, hm, by simpa using hz, hcell, hwz⟩⟩
  obtain ⟨a2, rfl, rfl, rfl⟩ := open_bool Try.underlying4 (hval 2 4 v2 rfl rfl) h2
  clear hA0 hval0
  refine (walk a0 a1 len1 cap1 z1 a2 W w0 w1).mono fun e W' ⟨he, bel⟩ => ?_
  subst he
  exact ⟨_, rfl, _, _, _, [], _, [], hW', trodAll_mk1 (shut_bool Try.underlying4 _), (trodAll_cons_mk (Below.trod laidOut (by kernel_rfl) (of_decide_eq_true (by kernel_rfl)) k0 bel lt0) (trodAll_cons_mk (Below.trod laidOut (by kernel_rfl) (of_decide_eq_true (by kernel_rfl)) k1 bel lt1) (trodAll_cons_mk (Below.trod laidOut (by kernel_rfl) (of_decide_eq_true (by kernel_rfl)) k2 bel lt2) trodAll_mk0))), rfl, bel.frame _, fun h => by cases h⟩

theorem over : Rows.deviceFaultsRow.holds Try.pinned (OpenSpec.ofChange Rows.deviceFaultsSpec) :=
  OpenClaim.holds_of_wide 4 Try.f4 rfl rfl rfl rfl rfl rfl rfl ⟨rfl, rfl, rfl, rfl, rfl⟩ rfl rfl rfl rfl rfl (by kernel_rfl) Try.func4 (by kernel_rfl)
    (of_decide_eq_true (by kernel_rfl)) (by unfold Func.isWrapper; first | (rw [if_pos (by decide +kernel)]; kernel_rfl) | (rw [if_neg (by decide +kernel)]; exact ⟨rfl, rfl⟩))
    (fun os started H enc _ => lifted os started H enc)

theorem proved : Rows.DeviceFaultsSaid := over
end Go.Proofs.Ytcnmbddlaaopgaa.deviceFaults
