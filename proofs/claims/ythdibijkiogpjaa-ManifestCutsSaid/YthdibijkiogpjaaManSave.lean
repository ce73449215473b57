/- What Save answers, and what it makes of the device. -/
import Derived.Test.YthdibijkiogpjaaManUnp
namespace Go.Proofs.Ythdibijkiogpjaa
open Go.ChangeShapes Go.WideShapes Go.ChangeAt Go.RowKit

/-- the block i of a manifest -/
def blockE (size k g : Nat) (l : List Ent) (i : Nat) : List Nat := sealW size (k * (g % 2) + i) g (partE (size - 2) i (wordsE g l))
def saveGo (size k g : Nat) (l : List Ent) : Nat → Nat → St → Int × St
  | 0, _, s => sync s
  | r + 1, i, s =>
    let q := write s ((k * (g % 2) + i : Nat) : Int) (blockE size k g l i)
    if q.1 = 0 then saveGo size k g l r (i + 1) q.2 else q
def saveE (s : St) (g : Nat) (l : List Ent) : Int × St := saveGo s.size (slotE s.size) g l (slotE s.size) 0 s
theorem slot_pos {size : Nat} (h8 : 8 ≤ size) (h256 : size ≤ 256) : 0 < slotE size ∧ slotE size ≤ 11 ∧ 62 ≤ slotE size * (size - 2) := by
  unfold slotE
  obtain ⟨p, hp⟩ : ∃ p, p = size - 2 := ⟨_, rfl⟩
  rw [← hp]
  have hb : 6 ≤ p ∧ p ≤ 254 := by omega
  refine ⟨Nat.div_pos (by omega) (by omega), ?_, ?_⟩
  · have h1 : 61 + p < 12 * p := by omega
    exact Nat.le_of_lt_succ (Nat.div_lt_of_lt_mul (by rw [Nat.mul_comm]; exact h1))
  · have h1 := Nat.div_add_mod (61 + p) p
    have h2 := Nat.mod_lt (61 + p) (show p > 0 by omega)
    rw [Nat.mul_comm] at h1; omega
theorem write_size (s : St) (i : Int) (l : List Nat) : (write s i l).2.size = s.size ∧ (write s i l).2.blocks = s.blocks := by
  obtain ⟨e1, e2, e3, e4⟩ := begin_same s (right s i && decide (l.length = s.size))
  unfold write
  dsimp only
  split
  · exact ⟨e1, e2⟩
  · exact ⟨e1, e2⟩
section
variable {w : World} {G : Nat → Prop} {p : Nat} {s : St} {n : Nat}
theorem dev_size (h : Dev w G p s n) : Calls Try.prog 31 #[.pointer (some ⟨p, 0, none⟩)] w fun e w' => e = .returned (.int .i64 (s.size : Int)) ∧ w' = w := by
  obtain ⟨bl, bf, v, nl, hr, _⟩ := h.2
  exact size_any p s bl bf v w hr
theorem dev_down (h : Dev w G p s n) : Calls Try.prog 27 #[.pointer (some ⟨p, 0, none⟩)] w fun e w' => e = .returned (.bool s.down) ∧ w' = w := by
  obtain ⟨bl, bf, v, nl, hr, _⟩ := h.2
  exact down_any p s bl bf v w hr
theorem dev_slots (h : Dev w G p s n) (hb : 2 * (slotE s.size : Int) ≤ s.blocks) : Calls Try.prog 28 #[.pointer (some ⟨p, 0, none⟩)] w fun e w' => e = .returned (.bool true) ∧ w' = w := by
  obtain ⟨bl, bf, v, nl, hr, _⟩ := h.2
  have := hasslots_any p s bl bf v w hr h.fits.size
  rw [decide_eq_true hb] at this; exact this
end
theorem part_u64 {p i : Nat} {ws : List Nat} (h : ∀ x ∈ ws, x < 18446744073709551616) : ∀ x ∈ partE p i ws, x < 18446744073709551616 := fun x hx => h x (List.mem_of_mem_drop (List.mem_of_mem_take hx))

set_option maxHeartbeats 4000000 in
set_option maxRecDepth 100000 in
theorem save_any (p : Nat) (s : St) (n : Nat) (G : Nat → Prop) (g : Nat) (a : Option Addr) (m c : Nat) (l : List Ent) (w : World) {B : Nat} (h : Dev w G p s n) (hn : n ≤ 900000) (hdn : s.down = false) (hbk : 2 * (slotE s.size : Int) ≤ s.blocks) (hl : ReadsN w B a m l) (hB : B ≤ w.heap.size) (hm : m ≤ maxLen) (hf : FormedP l) (hg : GenP g) :
    Calls Try.prog 17 #[.pointer (some ⟨p, 0, none⟩), .int .u64 g, .slice a m c] w fun e w' => e = .returned (.int .i64 (saveE s g l).1) ∧ ∃ G', Dev w' G' p (saveE s g l).2 (n + slotE s.size + 1) ∧ Far G w w' ∧ ∀ k, G' k → G k ∨ w.heap.size ≤ k := by
  have hsz := h.fits.size
  obtain ⟨hk0, hk11, hk62⟩ := slot_pos hsz.1 hsz.2
  have hdc := dev_down h
  rw [hdn] at hdc
  have hfo := formed_any a m c l w hl hB hm
  rw [decide_eq_true hf] at hfo
  have hgen := fun w => isgen_any g w
  rw [decide_eq_true hg] at hgen
  have HGEN := Lib.hid hgen
  have HSAVE : Hid (saveE s g l = saveGo s.size (slotE s.size) g l (slotE s.size) 0 s) := rfl
  have HSLOT : Hid (∀ w, Calls Try.prog 12 #[.int .i64 (s.size : Int)] w fun e w' => e = .returned (.int .i64 (slotE s.size : Int)) ∧ w = w') := fun w => by
    have hs := slot_any (s.size : Int) w
    rw [if_pos (by omega), Int.toNat_natCast] at hs; exact hs
  have HD := Lib.hid h
  have HBK := Lib.hid hbk
  have HL := Lib.hid hl
  have HF := Lib.hid hf
  have hgl : g < 18446744073709551616 := by have := hg.2; omega
  have hgb := hg
  unfold GenP at hgb
  have HLT : Hid (∀ k, G k → k < w.heap.size) := fun k hk => h.lt hk
  obtain ⟨size, hsize⟩ : ∃ size, size = s.size := ⟨_, rfl⟩
  have HSZ := Lib.hid hsize
  rw [← hsize] at hsz HSLOT HSAVE hk0 hk11 hk62 ⊢
  obtain ⟨k, hk⟩ : ∃ k, k = slotE size := ⟨_, rfl⟩
  rw [← hk] at HSLOT HSAVE hk0 hk11 hk62 ⊢
  have HK := Lib.hid hk
  obtain ⟨ps, hps⟩ : ∃ ps, ps = k * (g % 2) := ⟨_, rfl⟩
  obtain ⟨gm, hgm⟩ : ∃ gm, gm = g % 2 := ⟨_, rfl⟩
  have hmod : (g : Int) % 2 = (gm : Int) := by omega
  have hmul : (k : Int) * (gm : Int) = (ps : Int) := by rw [hps, hgm]; exact (Int.natCast_mul k (g % 2)).symm
  have hgm2 : gm ≤ 1 := by omega
  have hps11 : ps ≤ 11 := by
    rw [hps, ← hgm]
    have : k * gm ≤ 11 * 1 := Nat.mul_le_mul hk11 hgm2
    omega
  have HPS : Hid (k * (g % 2) = ps) := hps.symm
  have hwm : IntKind.i64.wrap (gm : Int) = (gm : Int) := IntWalk.i64_in _ (by omega)
  clear h hl hf hg hsize hk hps hgm hbk hgen hdn
  go_enter Try.func17, Try.ntmps17
  go_wp2_with fail
  refine hdc.mono ?_; rintro e w1 ⟨rfl, rfl⟩
  go_wp2_with fail
  refine hfo.mono ?_; rintro e w2 ⟨rfl, hb2⟩
  have HB2 := Lib.hid hb2
  have HD2 := Lib.hid (HD.out.below hb2)
  clear hb2 hfo hdc
  go_wp2_with fail
  refine (HGEN.out _).mono ?_; rintro e w3 ⟨rfl, rfl⟩
  go_wp2_with fail
  refine (dev_slots HD2.out HBK.out).mono ?_; rintro e w4 ⟨rfl, rfl⟩
  go_wp2_with fail
  refine (wordsof_any g a m c l _ (HL.out.keep (HB2.out.mono hB)) (Nat.le_trans hB HB2.out.size) hgl HF.out).mono ?_
  rintro e w5 ⟨gg, cc, cs, rfl, hgg, hrow, hcc, hcm, hrd, hb5⟩
  have HB5 := Lib.hid (HB2.out.trans (hb5.mono HB2.out.size))
  have HD5 := Lib.hid (HD2.out.below hb5)
  have HRD := Lib.hid hrd
  have hgl5 : gg < w5.heap.size := hrow.lt
  have hgw : w1.heap.size ≤ gg := Nat.le_trans HB2.out.size hgg
  clear hb5 hrd hrow
  go_wp2_with fail
  refine (dev_size HD5.out).mono ?_; rintro e w6 ⟨rfl, rfl⟩
  rw [← HSZ.out]
  go_wp2_with fail
  refine (HSLOT.out _).mono ?_; rintro e w7 ⟨rfl, rfl⟩
  go_wp2
  go_loopw [40] (fun iv wr => ∃ i : Nat, i ≤ k ∧ iv = .int .i64 (i : Int) ∧ ∃ G' s', Hid (Dev wr G' p s' (n + i)) ∧ Hid (Far G w1 wr) ∧ Hid (∀ k, G' k → G k ∨ w6.heap.size ≤ k) ∧ Hid (s'.size = size) ∧ Hid (saveGo size k g l (k - i) i s' = saveE s g l) ∧ Hid (Reads .u64 wr w6.heap.size (some ⟨gg, 0, none⟩) (2 + m * 5) (wordsE g l)) ∧ Hid (w6.heap.size ≤ wr.heap.size)) (fun iv _ => k - (intOf iv).toNat)
  case atStart =>
    exact ⟨0, by omega, rfl, G, s, HD5.out, Far.of_below HB5.out G, fun k hk => .inl hk, HSZ.out.symm, HSAVE.out.symm, HRD.out, Nat.le_refl _⟩
  case round =>
    obtain ⟨i, hi, rfl, G', s', HD', HF', HG', HS', HGO, HR', HW'⟩ := hrel
    by_cases hlt : i < k
    · have hj0 : (0 : Int) ≤ (i : Int) := by omega
      have hj1 : (i : Int) < (k : Int) := by omega
      have g0 : decide ((i : Int) < (k : Int)) = true := by simpa using hlt
      go_wp2_with fail
      refine (dev_size HD'.out).mono ?_; rintro e wa ⟨rfl, rfl⟩
      rw [HS'.out]
      go_wp2_with fail
      refine (dev_size HD'.out).mono ?_; rintro e wb ⟨rfl, rfl⟩
      rw [HS'.out]
      go_wp2_with fail
      refine (payof_any gg (2 + m * 5) cc i size _ _ HR'.out hcc hcm hsz.1 hsz.2 (by omega)).mono ?_
      rintro e wc ⟨A, mm, c2, rfl, hpr, hmc, hcm2, rfl⟩
      have hpu := part_u64 (p := size - 2) (i := i) (words_u64 hgl HF.out)
      have hpl : mm ≤ size - 2 := by rw [← hpr.1]; exact part_len _ _ _
      obtain ⟨ad, had⟩ : ∃ ad, ad = ps + i := ⟨_, rfl⟩
      have hadd : (ps : Int) + (i : Int) = (ad : Int) := by omega
      have hadl : ad ≤ 100 := by omega
      have HBL : Hid (sealW size ad g (partE (size - 2) i (wordsE g l)) = blockE size k g l i) := by
        unfold Hid blockE; rw [HPS.out, had]
      have HSTEP : Hid (saveGo size k g l (k - i) i s' = if (write s' (ad : Int) (blockE size k g l i)).1 = 0 then saveGo size k g l (k - (i + 1)) (i + 1) (write s' (ad : Int) (blockE size k g l i)).2 else write s' (ad : Int) (blockE size k g l i)) := by
        unfold Hid
        rw [show k - i = (k - (i + 1)) + 1 by omega]
        show (let q := write s' ((k * (g % 2) + i : Nat) : Int) (blockE size k g l i); if q.1 = 0 then saveGo size k g l (k - (i + 1)) (i + 1) q.2 else q) = _
        rw [HPS.out, ← had]
      have hlen : (sealW size ad g (partE (size - 2) i (wordsE g l))).length = size := seal_len (Nat.le_trans (part_len _ _ _) (Nat.le_refl _)) (by omega)
      have hu : ∀ x ∈ sealW size ad g (partE (size - 2) i (wordsE g l)), (Lit.int .u64 (x : Nat)).wf = true := fun x hx => u64_wf (seal_u64 (fun y hy => hpu y hy) hgl (by have := part_len (size - 2) i (wordsE g l); omega) x hx)
      have HLEN := Lib.hid hlen
      have HU := Lib.hid hu
      have hpo := put_ok size ad g A mm c2 _ wb hpr HW'.out hsz.1 hsz.2 (by omega) hgl hpl
      rw [HBL.out] at hpo HLEN HU
      have HPO := Lib.hid hpo
      generalize blockE size k g l i = bk at *
      clear hpo hu hlen had hpu hpr
      go_wp2_with fail
      refine HPO.out.mono ?_; rintro e wd ⟨rfl, hrd, hbd⟩
      have HDD := Lib.hid (HD'.out.below hbd)
      have HRW : Hid (Reads .u64 wd wd.heap.size (some ⟨wb.heap.size, 0, none⟩) size bk) := by
        have h := hrd.words (n := size) (by rw [HLEN.out]; exact Nat.le_refl _) HU.out
        rw [List.take_of_length_le (by rw [HLEN.out]; exact Nat.le_refl _)] at h; exact h
      have HBD := Lib.hid hbd
      clear hrd hbd
      go_wp2_with fail
      refine (write_any p s' (n + i) G' (ad : Int) (some ⟨wb.heap.size, 0, none⟩) size size bk wd HDD.out (by omega) (I64.of (by omega) (by omega)) HRW.out (Nat.le_refl _)).mono ?_
      rintro e we ⟨rfl, G8, hd8, hf8, hg8⟩
      have h5 := HB5.out.size
      have h6 := HW'.out
      have hbz := HBD.out.size
      have HF8 : Hid (Far G w1 we) := HF'.out.trans ((Far.of_below HBD.out G').trans hf8 fun b hb => .inl hb) fun b hb => (HG'.out b hb).imp_right fun h => by omega
      have HG8 : Hid (∀ k, G8 k → G k ∨ w6.heap.size ≤ k) := fun k hk => by
        rcases hg8 k hk with h | h
        · exact HG'.out k h
        · exact .inr (by omega)
      have HR8 : Hid (Reads .u64 we w6.heap.size (some ⟨gg, 0, none⟩) (2 + m * 5) (wordsE g l)) := by
        refine (HR'.out.keep (HBD.out.mono h6)).far (F := G') (by omega) hf8 fun _ b off e hb => ?_
        injection e with e; injection e with e1 e2; subst e1
        rcases HG'.out _ hb with h | h
        · have := HLT.out _ h; omega
        · omega
      have hw8 := hf8.size
      have HW8 : Hid (w6.heap.size ≤ we.heap.size) := by unfold Hid; omega
      have HS8 : Hid ((write s' (ad : Int) bk).2.size = size) := by unfold Hid; rw [(write_size s' ad bk).1]; exact HS'.out
      have HD8 := Lib.hid hd8
      clear hd8 hf8 hg8 hw8
      generalize write s' (ad : Int) bk = q at *
      obtain ⟨er, s8⟩ := q
      simp only at HSTEP HS8 HD8 ⊢
      by_cases he : er = 0
      · subst he
        have HGO8 : Hid (saveGo size k g l (k - (i + 1)) (i + 1) s8 = saveE s g l) := by
          have := HSTEP.out
          rw [if_pos rfl, HGO.out] at this; exact this.symm
        go_wp2
        go_roundw
        case rel => exact ⟨_, _, _, _, .int .i64 ((i : Int) + 1), ⟨i + 1, by omega, by go_num, G8, s8, HD8.out, HG8.out, HS8.out, HGO8.out⟩, rfl, rfl, rfl, rfl, rfl⟩
        case measure => simp [intOf]; omega
      · have HE8 : Hid (saveE s g l = (er, s8)) := by
          have := HSTEP.out
          rw [if_neg he, HGO.out] at this; exact this
        have g9 : (er != 0) = true := by simpa using he
        go_wp2
        go_ret
        rw [HE8.out]
        refine ⟨rfl, G8, HD8.out.mono (by omega) (by omega), HF8.out, fun k hk => (HG8.out k hk).imp_right fun h => by omega⟩
    · obtain rfl : i = k := by omega
      have g0 : decide ((i : Int) < (i : Int)) = false := by simp
      have HE : Hid (sync s' = saveE s g l) := by
        have := HGO.out
        rw [Nat.sub_self] at this; exact this
      go_wp2_with fail
      refine (sync_any p s' (n + i) G' _ HD'.out (by omega)).mono ?_
      rintro e w8 ⟨rfl, G8, hd8, hf8, hg8⟩
      rw [HE.out] at hd8 ⊢
      have HD8 := Lib.hid hd8
      have HF8 := Lib.hid (HF'.out.trans hf8 fun b hb => (HG'.out b hb).imp_right fun h => by have := HB5.out.size; omega)
      have HG8 : Hid (∀ k, G8 k → G k ∨ w1.heap.size ≤ k) := fun k hk => by
        have h5 := HB5.out.size
        have h6 := HW'.out
        rcases hg8 k hk with h | h
        · exact (HG'.out k h).imp_right fun h => by omega
        · exact .inr (by omega)
      clear hd8 hf8 hg8
      go_wp2
      go_ret
      exact ⟨rfl, G8, HD8.out, HF8.out, HG8.out⟩
end Go.Proofs.Ythdibijkiogpjaa
