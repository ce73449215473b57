/- What Load answers of a calm device that has two slots. -/
import Derived.Test.YthdibijkiogpjaaManStand
namespace Go.Proofs.Ythdibijkiogpjaa
open Go.ChangeShapes Go.WideShapes Go.ChangeAt Go.RowKit

/-- behind i slots: what stands, its generation, the highest tag -/
def pickE (now : Int → List Nat) (k size : Nat) : Nat → List Ent × Nat × Nat
  | 0 => ([], 0, 0)
  | i + 1 =>
    let c := pickE now k size i
    let b := standE (partsE now k i) i size
    (if b.2 > c.2.1 then b.1 else c.1, if b.2 > c.2.1 then b.2 else c.2.1, max c.2.2 (highE (partsE now k i)))
def loadP (now : Int → List Nat) (size : Nat) : List Ent × Nat × Nat :=
  let c := pickE now (slotE size) size 2
  (c.1, c.2.1, nextE c.2.1 c.2.2)
theorem stand_le (ps : List (List Nat × Nat)) (s size : Nat) : (standE ps s size).2 ≤ 4611686018427387904 := by
  unfold standE
  split
  · next h =>
    split
    · split
      · exact h.1.2
      · show 0 ≤ _; omega
    · show 0 ≤ _; omega
  · show 0 ≤ _; omega
theorem own_far {F : Nat → Prop} {w w' : World} {base : Nat} {e : TypeId} {s n : Nat} {v : Value} {xs : List Value} (h : w.ownsRow base e s v n xs) (hf : Far F w w') (hF : ∀ b, F b → b < base) : w'.ownsRow base e s v n xs :=
  ownsRow_same h fun k hk => hf.block k (h.lt k hk).2 fun hb => by have := (h.lt k hk).1; have := hF k hb; omega

set_option maxHeartbeats 4000000 in
set_option maxRecDepth 100000 in
theorem load_any (p : Nat) (s : St) (n : Nat) (G : Nat → Prop) (w : World) (h : Dev w G p s n) (hn : n ≤ 800000) (hcalm : Calm s) (hbk : 2 * (slotE s.size : Int) ≤ s.blocks) :
    Calls Try.prog 15 #[.pointer (some ⟨p, 0, none⟩)] w fun e w' => ∃ v, e = .returned (.tuple #[v, .int .u64 ((loadP s.now s.size).2.1 : Nat), .int .u64 ((loadP s.now s.size).2.2 : Nat), .int .i64 0]) ∧ w'.ownsRow w.heap.size 54 5 v (loadP s.now s.size).1.length (flatN (loadP s.now s.size).1) ∧ Dev w' G p { s with acts := s.acts + ((2 * slotE s.size : Nat) : Int) } (n + 2 * slotE s.size) ∧ Far (fun b => b = p) w w' := by
  have hsz := h.fits.size
  obtain ⟨hk0, hk11, hk62⟩ := slot_pos hsz.1 hsz.2
  have hdc := dev_down h
  rw [hcalm.1] at hdc
  have hds := dev_slots h hbk
  have HD := Lib.hid h
  have HC := Lib.hid hcalm
  have HBK := Lib.hid hbk
  have HPLT := Lib.hid (h.lt h.mine)
  obtain ⟨size, hsize⟩ : ∃ size, size = s.size := ⟨_, rfl⟩
  have HSZ := Lib.hid hsize
  rw [← hsize] at hsz hk0 hk11 hk62 ⊢
  obtain ⟨k, hk⟩ : ∃ k, k = slotE size := ⟨_, rfl⟩
  have HK : Hid (slotE s.size = k) := by unfold Hid; rw [← hsize, hk]
  have HLP : Hid (loadP s.now size = ((pickE s.now k size 2).1, (pickE s.now k size 2).2.1, nextE (pickE s.now k size 2).2.1 (pickE s.now k size 2).2.2)) := by
    unfold Hid loadP; rw [← hk]
  rw [← hk] at hk0 hk11 hk62 ⊢
  clear h hcalm hsize hk hbk
  go_enter Try.func15, Try.ntmps15
  go_wp2_with fail
  refine hdc.mono ?_; rintro e w1 ⟨rfl, rfl⟩
  go_wp2_with fail
  refine hds.mono ?_; rintro e w2 ⟨rfl, rfl⟩
  clear hdc hds
  go_wp2
  go_loopw [19, 6, 7, 8] (fun iv ev gv hv wr => ∃ i g hh : Nat, i ≤ 2 ∧ iv = .int .i64 (i : Int) ∧ gv = .int .u64 (g : Int) ∧ hv = .int .u64 (hh : Int) ∧ g ≤ 4611686018427387904 ∧ hh ≤ 4611686018427387904 ∧ ∃ l : List Ent, Hid (pickE s.now k size i = (l, g, hh)) ∧ Hid (wr.ownsRow w2.heap.size 54 5 ev l.length (flatN l)) ∧ Hid (Dev wr G p { s with acts := s.acts + ((i * k : Nat) : Int) } (n + i * k)) ∧ Hid (Far (fun b => b = p) w2 wr)) (fun iv _ _ _ _ => 2 - (intOf iv).toNat)
  case atStart =>
    exact ⟨0, 0, 0, by omega, rfl, rfl, rfl, by omega, by omega, [], rfl, World.ownsRow_nil _ _ _ _, (by
      have e : ({ s with acts := s.acts + ((0 * k : Nat) : Int) } : St) = s := by cases s; simp
      unfold Hid
      rw [e, Nat.zero_mul]; exact HD.out), Far.refl _ _⟩
  case round =>
    obtain ⟨i, g, hh, hi, rfl, rfl, rfl, hg, hhl, l, HPK, HO, HD', HF'⟩ := hrel
    by_cases hlt : i < 2
    · have hik : i * k ≤ 22 := by
        have : i * k ≤ 2 * 11 := Nat.mul_le_mul (by omega) hk11
        omega
      have hj0 : (0 : Int) ≤ (i : Int) := by omega
      have hj1 : (i : Int) < 2 := by omega
      have hrs := readslot_any p { s with acts := s.acts + ((i * k : Nat) : Int) } (n + i * k) G i wr HD'.out (by omega) HC.out HBK.out (by omega)
      have hnow : ({ s with acts := s.acts + ((i * k : Nat) : Int) } : St).now = s.now := rfl
      have hsz2 : ({ s with acts := s.acts + ((i * k : Nat) : Int) } : St).size = s.size := rfl
      rw [hnow, hsz2, HK.out] at hrs
      have HRS := Lib.hid hrs
      clear hrs hnow hsz2
      go_wp2_with fail
      refine HRS.out.mono ?_
      rintro e w3 ⟨gp, rfl, hgp, hpi, hd3, hf3⟩
      have HP3 := Lib.hid hpi
      have HF3 := Lib.hid (HF'.out.trans hf3 fun b hb => .inl hb)
      have HD3 : Hid (Dev w3 G p { s with acts := s.acts + (((i + 1) * k : Nat) : Int) } (n + (i + 1) * k)) := by
        have e : ({ s with acts := s.acts + (((i + 1) * k : Nat) : Int) } : St) = { s with acts := s.acts + ((i * k : Nat) : Int) + (k : Int) } := by
          cases s; simp; rw [Int.add_mul, Int.one_mul]; omega
        unfold Hid
        rw [e, show n + (i + 1) * k = n + i * k + k by rw [Nat.add_mul, Nat.one_mul]; omega]; exact hd3
      have HO3 := Lib.hid (own_far HO.out hf3 fun b hb => by have := HPLT.out; omega)
      clear hpi hd3 hf3 HRS
      go_wp2_with fail
      refine (dev_size HD3.out).mono ?_; rintro e w4 ⟨rfl, rfl⟩
      have hsz3 : ((({ s with acts := s.acts + (((i + 1) * k : Nat) : Int) } : St).size : Nat) : Int) = (size : Int) := by rw [HSZ.out]
      rw [hsz3]
      clear hsz3
      go_wp2_with fail
      refine (standing_any gp k i size _ _ HP3.out ⟨hk0, hk11⟩ hsz.1 hsz.2 (by omega)).mono ?_
      rintro e w5 ⟨v5, rfl, hown5, hb5⟩
      have HST := Lib.hid (stand_le (partsE s.now k i) i size)
      have HPK2 : Hid (pickE s.now k size (i + 1) = (if (standE (partsE s.now k i) i size).2 > g then (standE (partsE s.now k i) i size).1 else l, if (standE (partsE s.now k i) i size).2 > g then (standE (partsE s.now k i) i size).2 else g, max hh (highE (partsE s.now k i)))) := by
        unfold Hid
        show (let c := pickE s.now k size i; let b := standE (partsE s.now k i) i size; ((if b.2 > c.2.1 then b.1 else c.1, if b.2 > c.2.1 then b.2 else c.2.1, max c.2.2 (highE (partsE s.now k i))) : List Ent × Nat × Nat)) = _
        rw [HPK.out]
      have HHI := Lib.hid (high_le (partsE s.now k i))
      have hwz : w2.heap.size ≤ w4.heap.size := HF3.out.size
      have HP5 := Lib.hid (HP3.out.below hb5)
      have HD5 := Lib.hid (HD3.out.below hb5)
      have HO5 := Lib.hid (own_keep HO3.out hb5)
      have HN5 := Lib.hid (ownN_base hown5 hwz)
      have HF5 := Lib.hid (HF3.out.trans (Far.of_below hb5 (fun b => b = p)) fun b hb => .inl hb)
      have hsz5 := hb5.size
      clear hown5 hb5
      generalize partsE s.now k i = ps at *
      generalize standE ps i size = b at *
      obtain ⟨bl, bg⟩ := b
      simp only at HST HPK2 HN5 ⊢
      have hst := HST.out
      have HHC : Hid (∀ W, PartsIn W gp k ps → Calls Try.prog 32 #[.slice (some ⟨gp, 0, none⟩) k k] W fun e w' => e = .returned (.int .u64 (highE ps : Nat)) ∧ Below W.heap.size W w') := fun W h => high_any gp k k ps W h (by omega)
      have hhi := HHI.out
      generalize highE ps = ht at *
      obtain ⟨z, hz⟩ : ∃ z, z = max hh ht := ⟨_, rfl⟩
      rw [← hz] at HPK2
      have hzz : (if (hh : Int) < (ht : Int) then (ht : Int) else (hh : Int)) = (z : Int) := by split <;> omega
      have hzn : (if hh < ht then (ht : Int) else (hh : Int)) = (z : Int) := by split <;> omega
      have hzl : z ≤ 4611686018427387904 := by omega
      clear hz
      by_cases hbg : bg > g
      · have g0 : decide ((bg : Int) > (g : Int)) = true := by simp; omega
        rw [if_pos hbg, if_pos hbg] at HPK2
        go_wp2_with fail
        refine (HHC.out _ HP5.out).mono ?_
        rintro e w6 ⟨rfl, hb6⟩
        have HD6 := Lib.hid (HD5.out.below hb6)
        have HO6 := Lib.hid (own_keep HN5.out hb6)
        have HF6 := Lib.hid (HF5.out.trans (Far.of_below hb6 (fun b => b = p)) fun b hb => .inl hb)
        clear hb6
        go_wp2
        go_roundw
        case rel => exact ⟨i + 1, bg, z, by omega, by go_num, rfl, rfl, hst, hzl, bl, HPK2.out, HO6.out, HD6.out, HF6.out⟩
        case measure => simp [intOf]; omega
      · have g0 : decide ((bg : Int) > (g : Int)) = false := by simp; omega
        rw [if_neg hbg, if_neg hbg] at HPK2
        go_wp2_with fail
        refine (HHC.out _ HP5.out).mono ?_
        rintro e w6 ⟨rfl, hb6⟩
        have HD6 := Lib.hid (HD5.out.below hb6)
        have HO6 := Lib.hid (own_keep HO5.out hb6)
        have HF6 := Lib.hid (HF5.out.trans (Far.of_below hb6 (fun b => b = p)) fun b hb => .inl hb)
        clear hb6
        go_wp2
        go_roundw
        case rel => exact ⟨i + 1, g, z, by omega, by go_num, rfl, rfl, hg, hzl, l, HPK2.out, HO6.out, HD6.out, HF6.out⟩
        case measure => simp [intOf]; omega
    · obtain rfl : i = 2 := by omega
      have HE : Hid (loadP s.now size = (l, g, nextE g hh)) := by
        unfold Hid; rw [HLP.out, HPK.out]
      go_wp2_with fail
      refine (next_any9 g hh _ hhl hg).mono ?_; rintro e w3 ⟨rfl, rfl⟩
      go_wp2
      refine bodyPost_ret (v := .tuple #[u6, .int .u64 (g : Int), .int .u64 ((nextE g hh : Nat) : Int), .int .i64 0]) (by simp [results, Try.results15, go_sem]) rfl ?_
      rw [HE.out]
      exact ⟨u6, rfl, HO.out, by rw [HSZ.out]; exact HD'.out, HF'.out⟩
end Go.Proofs.Ythdibijkiogpjaa
