/- The parts of a slot: readSlot, highestTag. -/
import Derived.Test.YthdibijkiogpjaaManSave
namespace Go.Proofs.Ythdibijkiogpjaa
open Go.ChangeShapes Go.WideShapes Go.ChangeAt Go.RowKit

theorem infoP : (Try.prog.info? 90).map (fun i => (i.zero, i.size, i.bytes)) = some (some (.agg #[.slice none 0 0, .int .u64 0]), 2, 32) := by kernel_rfl
def r0 : Value × Nat := (.slice none 0 0, 0)
def flatR (rs : List (Value × Nat)) : List Value := rs.flatMap fun r => [r.1, .int .u64 (r.2 : Nat)]
theorem flatR_cons (r : Value × Nat) (rs : List (Value × Nat)) : flatR (r :: rs) = r.1 :: .int .u64 (r.2 : Nat) :: flatR rs := rfl
theorem flatR_len (rs : List (Value × Nat)) : (flatR rs).length = rs.length * 2 := by
  induction rs with
  | nil => rfl
  | cons r rs ih => rw [flatR_cons, List.length_cons, List.length_cons, ih, List.length_cons]; omega
theorem flatR_at : ∀ (rs : List (Value × Nat)) (i : Nat), i < rs.length → (flatR rs)[i * 2]? = some (rs.getD i r0).1 ∧ (flatR rs)[i * 2 + 1]? = some (.int .u64 ((rs.getD i r0).2 : Nat))
  | [], i, h => by simp at h
  | r :: rs, 0, _ => ⟨rfl, rfl⟩
  | r :: rs, i + 1, h => by
    have := flatR_at rs i (by simpa using h)
    rw [flatR_cons, show (i + 1) * 2 = i * 2 + 1 + 1 by omega, show i * 2 + 1 + 1 + 1 = (i * 2 + 1) + 1 + 1 by omega]
    simpa using this
theorem flatR_set : ∀ (rs : List (Value × Nat)) (i : Nat) (v : Value) (t : Nat), i < rs.length → ((flatR rs).set (i * 2) v).set (i * 2 + 1) (.int .u64 (t : Nat)) = flatR (rs.set i (v, t))
  | [], i, _, _, h => by simp at h
  | r :: rs, 0, v, t, _ => rfl
  | r :: rs, i + 1, v, t, h => by
    have := flatR_set rs i v t (by simpa using h)
    rw [flatR_cons, show (i + 1) * 2 = i * 2 + 1 + 1 by omega, show i * 2 + 1 + 1 + 1 = (i * 2 + 1) + 1 + 1 by omega]
    simp only [List.set_cons_succ]
    rw [this]; rfl
theorem made_parts (n : Nat) : (madeCells #[.slice none 0 0, .int .u64 0] (n * 2)).toList = flatR (List.replicate n r0) := by
  refine List.ext_getElem? fun j => ?_
  by_cases hj : j < n * 2
  · have h1 := flatR_at (List.replicate n r0) (j / 2) (by rw [List.length_replicate]; omega)
    have h2 : (List.replicate n r0).getD (j / 2) r0 = r0 := by
      rw [List.getD_eq_getElem?_getD, List.getElem?_replicate]; split <;> rfl
    rw [h2] at h1
    rcases Nat.mod_two_eq_zero_or_one j with h | h
    · rw [show j / 2 * 2 = j by omega] at h1
      rw [h1.1]
      simp [madeCells, hj, h, r0]
    · rw [show j / 2 * 2 + 1 = j by omega] at h1
      rw [h1.2]
      simp [madeCells, hj, h, r0]
  · rw [List.getElem?_eq_none (by simp [madeCells]; omega), List.getElem?_eq_none (by rw [flatR_len, List.length_replicate]; omega)]
set_option maxRecDepth 100000 in
/-- 'make([]part, n)' -/
theorem wpList_make_parts (w : World) {ops : Array Oper} {rest : List Oper} {o : Oper} {a : Act} {Q : Exit → Act → World → Prop}
    (hg : o.guard = none) (l c : Operand) (hop : o.op = Op.makeSlice 61 l c)
    (kl kc : IntKind) (L C : Int) (n : Nat) (hl : a.eval l = .int kl L) (hc : a.eval c = .int kc C) (hL : L = (n : Int)) (hC : C = (n : Int)) (b2 : n ≤ 1000000)
    (hK : ∀ w', Row w' w.heap.size 90 (flatR (List.replicate n r0)) → Below w.heap.size w w' → w'.heap.size = w.heap.size + 1 → wpList Try.prog ops Q rest (a.put o.dst (.slice (some ⟨w.heap.size, 0, none⟩) n n)) w') :
    wpList Try.prog ops Q (o :: rest) a w := by
  obtain ⟨i, h2, h3, h4, hby⟩ := info_parts infoP
  refine wpList_plain hg fun K hK' => ?_
  have hb' : (i.bytes : Int) * (n : Int) ≤ 281474976710656 := by
    rw [hby]; omega
  have hrun := run_make (P := Try.prog) w 61 90 i _ Try.underlying61 h2 h3 kl kc n n (by omega) (Int.le_refl _) hb' (by omega)
  subst hL
  subst hC
  simp only [Int.toNat_natCast] at hrun
  unfold Oper.wp
  simp [execOp, hop, hl, hc, hrun, Result.andThen]
  refine hK' _ _ (hK _ ?_ ((Below.refl _ _).alloc (Nat.le_refl _) _) (by simp))
  show _ = _
  rw [heap_alloc_new, h4]
  congr 2
  refine Array.toList_inj.1 ?_
  rw [← made_parts]; rfl

/-- a part in memory -/
def Pay (w : World) (g : Nat) (r : Value × Nat) (x : List Nat × Nat) : Prop :=
  (r.2 = x.2 ∧ x.2 < 18446744073709551616) ∧ ∃ A m c, r.1 = .slice A m c ∧ Reads .u64 w w.heap.size A m x.1 ∧ (0 < m → ∀ b off, A = some ⟨b, off, none⟩ → g < b) ∧ m ≤ c ∧ c ≤ maxLen ∧ m ≤ 254
theorem Pay.far {w w' : World} {g : Nat} {r : Value × Nat} {x : List Nat × Nat} {F : Nat → Prop} (h : Pay w g r x) (hf : Far F w w') (hF : ∀ b, F b → b ≤ g) : Pay w' g r x := by
  obtain ⟨h1, A, m, c, h2, h3, h4, h5⟩ := h
  exact ⟨h1, A, m, c, h2, (h3.far (Nat.le_refl _) hf fun hm b off e hb => by have := h4 hm b off e; have := hF b hb; omega).mono hf.size, h4, h5⟩
/-- the row g is the parts ps -/
def PartsIn (w : World) (g k : Nat) (ps : List (List Nat × Nat)) : Prop :=
  ∃ rs : List (Value × Nat), rs.length = k ∧ ps.length = k ∧ Row w g 90 (flatR rs) ∧ ∀ i, i < k → Pay w g (rs.getD i r0) (ps.getD i nop)
theorem PartsIn.far {w w' : World} {g k : Nat} {ps : List (List Nat × Nat)} {F : Nat → Prop} (h : PartsIn w g k ps) (hf : Far F w w') (hF : ∀ b, F b → b < g) : PartsIn w' g k ps := by
  obtain ⟨rs, h1, h2, h3, h4⟩ := h
  exact ⟨rs, h1, h2, hf.row h3 (fun h => by have := hF g h; omega), fun i hi => (h4 i hi).far hf fun b hb => by have := hF b hb; omega⟩
theorem PartsIn.below {w w' : World} {g k : Nat} {ps : List (List Nat × Nat)} (h : PartsIn w g k ps) (hb : Below w.heap.size w w') : PartsIn w' g k ps := h.far (Far.of_below hb fun _ => False) fun _ h => h.elim
theorem PartsIn.at_ {w : World} {g k : Nat} {ps : List (List Nat × Nat)} (h : PartsIn w g k ps) {i : Nat} (hi : i < k) :
    ∃ A m c t, w.cell? ⟨g, i * 2, none⟩ = some (.slice A m c) ∧ w.cell? ⟨g, i * 2 + 1, none⟩ = some (.int .u64 (t : Nat)) ∧ Reads .u64 w w.heap.size A m (ps.getD i nop).1 ∧ Hid (t = (ps.getD i nop).2) ∧ t < 18446744073709551616 ∧ m ≤ c ∧ c ≤ maxLen ∧ m ≤ 254 := by
  obtain ⟨rs, h1, h2, h3, h4⟩ := h
  obtain ⟨⟨e1, e2⟩, A, m, c, e3, e4, e5, e6, e7, e8⟩ := h4 i hi
  obtain ⟨c0, c1⟩ := flatR_at rs i (by omega)
  rw [e3] at c0
  exact ⟨A, m, c, (rs.getD i r0).2, (h3.cell _).trans c0, (h3.cell _).trans c1, e4, e1, by omega, e6, e7, e8⟩

theorem now_len {s : St} {n : Nat} (h : Fits s n) (x : Int) : (s.now x).length = s.size := by
  unfold St.now blk
  split
  · next l hl => exact lay_all (fun l => l.length = s.size) s.later s.fl h.fl (fun e he => (h.later e he).2) x l hl
  · simp
theorem partOf_len {b : List Nat} {ad n : Nat} (h : b.length = n) (h2 : 2 ≤ n) : (partOf b ad).1.length ≤ n - 2 := by
  unfold partOf
  split
  · next hok =>
    have := ok_parts h h2 hok
    rw [List.length_take]; omega
  · simp
theorem tag_u64 {b : List Nat} (h : ∀ x ∈ b, x < 18446744073709551616) : tagW b < 18446744073709551616 := by
  unfold tagW
  rw [List.getD_eq_getElem?_getD]
  rcases hx : b[b.length - 2]? with _ | x
  · simp
  · exact h x (List.mem_of_getElem? hx)

set_option maxHeartbeats 800000 in
theorem get_part (a : Option Addr) (n c ad : Nat) (l : List Nat) (w : World) {B : Nat} (hl : Reads .u64 w B a n l) (hB : B ≤ w.heap.size) (hc : n ≤ c) (h8 : 8 ≤ n) (h256 : n ≤ 256) (had : ad ≤ 9223372036854775807) :
    Calls Try.prog 46 #[.slice a n c, .int .i64 ad] w fun e w' => ∃ A m c' er t, e = .returned (.tuple #[.slice A m c', .int .u64 (t : Nat), .int .i64 er]) ∧ Reads .u64 w' w'.heap.size A m (partOf l ad).1 ∧ t = (partOf l ad).2 ∧ t < 18446744073709551616 ∧ (0 < m → ∀ b off, A = some ⟨b, off, none⟩ → w.heap.size ≤ b) ∧ m ≤ c' ∧ c' ≤ maxLen ∧ m ≤ 254 ∧ Below w.heap.size w w' := by
  have hlen := partOf_len (ad := ad) hl.1 (by omega)
  refine (get_may a n c ad l w hl hB hc h8 h256 had).mono ?_
  rintro e w' (⟨hno, rfl, hb⟩ | ⟨hok, v, rfl, hown, hb⟩)
  · have e : partOf l ad = ([], 0) := by unfold partOf; rw [hno]; rfl
    rw [e]
    exact ⟨none, 0, 0, 6, 0, rfl, ⟨rfl, by simp, fun h => absurd h (by omega)⟩, rfl, by omega, fun h => absurd h (by omega), by omega, by unfold maxLen; omega, by omega, hb⟩
  · have e : partOf l ad = (l.take (numW l - 1), tagW l) := by unfold partOf; rw [if_pos hok]
    rw [e] at hlen ⊢
    obtain ⟨A, c', rfl, hrd, hl2⟩ := own_reads (k := .u64) (l := l.take (numW l - 1)) hown (fun x hx => hl.2.1 x (List.mem_of_mem_take hx))
    have hcap : numW l - 1 ≤ c' ∧ c' ≤ maxLen ∧ (0 < numW l - 1 → ∀ b off, A = some ⟨b, off, none⟩ → w.heap.size ≤ b) := by
      rcases hown.2 with ⟨e1, e2⟩ | ⟨g, cap, cur, e1, e2, _, e3, e4, _⟩
      · injection e1 with e1 _ e3
        subst e3
        exact ⟨by omega, by unfold maxLen; omega, fun h => by omega⟩
      · injection e1 with e1 _ e5
        subst e5; subst e1
        refine ⟨e3, e4, fun _ b off e => ?_⟩
        injection e with e; injection e with e _; subst e; exact e2
    simp only at hlen
    exact ⟨A, _, c', 0, tagW l, rfl, hrd, rfl, tag_u64 fun x hx => u64_lt (hl.2.1 x hx), hcap.2.2, hcap.1, hcap.2.1, by omega, hb⟩

set_option maxHeartbeats 4000000 in
set_option maxRecDepth 100000 in
theorem readslot_any (p : Nat) (s : St) (n : Nat) (G : Nat → Prop) (sl : Nat) (w : World) (h : Dev w G p s n) (hn : n ≤ 900000) (hcalm : Calm s) (hbk : 2 * (slotE s.size : Int) ≤ s.blocks) (hsl : sl ≤ 1) :
    Calls Try.prog 29 #[.pointer (some ⟨p, 0, none⟩), .int .i64 sl] w fun e w' => ∃ g, e = .returned (.tuple #[.slice (some ⟨g, 0, none⟩) (slotE s.size) (slotE s.size), .int .i64 0]) ∧ w.heap.size ≤ g ∧ PartsIn w' g (slotE s.size) (partsE s.now (slotE s.size) sl) ∧ Dev w' G p { s with acts := s.acts + slotE s.size } (n + slotE s.size) ∧ Far (fun b => b = p) w w' := by
  have hsz := h.fits.size
  obtain ⟨hk0, hk11, hk62⟩ := slot_pos hsz.1 hsz.2
  have HSLOT : Hid (∀ w, Calls Try.prog 12 #[.int .i64 (s.size : Int)] w fun e w' => e = .returned (.int .i64 (slotE s.size : Int)) ∧ w = w') := fun w => by
    have hs := slot_any (s.size : Int) w
    rw [if_pos (by omega), Int.toNat_natCast] at hs; exact hs
  have HD := Lib.hid h
  have HC := Lib.hid hcalm
  have HPLT := Lib.hid (h.lt h.mine)
  obtain ⟨k, hk⟩ : ∃ k, k = slotE s.size := ⟨_, rfl⟩
  rw [← hk] at HSLOT hk0 hk11 hk62 hbk ⊢
  have hsd := dev_size h
  obtain ⟨ps, hps⟩ : ∃ ps, ps = k * sl := ⟨_, rfl⟩
  have hmul : (k : Int) * (sl : Int) = (ps : Int) := by rw [hps]; exact (Int.natCast_mul k sl).symm
  have hps11 : ps ≤ k := by
    rw [hps]
    have : k * sl ≤ k * 1 := Nat.mul_le_mul (Nat.le_refl _) hsl
    omega
  have HPE : Hid (∀ i, i < k → (partsE s.now k sl).getD i nop = partOf (s.now ((ps + i : Nat) : Int)) (ps + i)) := by
    intro i hi
    unfold partsE
    rw [List.getD_eq_getElem?_getD, List.getElem?_map, List.getElem?_range hi, hps]; rfl
  have HPL : Hid ((partsE s.now k sl).length = k) := by unfold Hid partsE; simp
  clear h hk hcalm hps
  go_enter Try.func29, Try.ntmps29
  go_wp2_with fail
  refine hsd.mono ?_; rintro e w1 ⟨rfl, rfl⟩
  go_wp2_with fail
  refine (HSLOT.out _).mono ?_; rintro e w2 ⟨rfl, rfl⟩
  clear hsd
  go_wp2_with (with_reducible refine stopAt 16 ?_)
  unfold Hid
  refine wpList_make_parts _ rfl _ _ rfl .i64 .i64 _ _ k rfl rfl rfl rfl (by omega) ?_
  intro w3 hr3 hb3 hz3
  obtain ⟨g, hg⟩ : ∃ g, g = w1.heap.size := ⟨_, rfl⟩
  rw [← hg] at hr3 hz3 ⊢
  have HR3 := Lib.hid hr3
  have HB3 := Lib.hid hb3
  have hgw : w1.heap.size ≤ g ∧ g ≤ w1.heap.size := by omega
  have hz3' : w3.heap.size ≤ g + 1 ∧ g + 1 ≤ w3.heap.size := by omega
  clear hr3 hb3 hz3 hg
  go_wp2
  go_loopw [19] (fun iv wr => ∃ i : Nat, i ≤ k ∧ iv = .int .i64 (i : Int) ∧ ∃ rs : List (Value × Nat), Hid (rs.length = k) ∧ Hid (Row wr g 90 (flatR rs)) ∧ Hid (∀ j, j < i → Pay wr g (rs.getD j r0) ((partsE s.now k sl).getD j nop)) ∧ Hid (Dev wr G p { s with acts := s.acts + i } (n + i)) ∧ Hid (Far (fun b => b = p) w1 wr)) (fun iv _ => k - (intOf iv).toNat)
  case atStart =>
    exact ⟨0, by omega, rfl, List.replicate k r0, by simp [Hid], HR3.out, fun j hj => absurd hj (by omega), (by
      have := HD.out.below HB3.out
      have e : ({ s with acts := s.acts + (0 : Nat) } : St) = s := by cases s; simp
      rw [e]; exact this), Far.of_below HB3.out _⟩
  case round =>
    obtain ⟨i, hi, rfl, rs, HRL, HRW, HPY, HD', HF'⟩ := hrel
    by_cases hlt : i < k
    · have hj0 : (0 : Int) ≤ (i : Int) := by omega
      have hj1 : (i : Int) < (k : Int) := by omega
      have g0 : decide ((i : Int) < (k : Int)) = true := by simpa using hlt
      obtain ⟨ad, had⟩ : ∃ ad, ad = ps + i := ⟨_, rfl⟩
      have hadd : (ps : Int) + (i : Int) = (ad : Int) := by omega
      have hadl : ad ≤ 100 := by omega
      have HPA : Hid ((partsE s.now k sl).getD i nop = partOf (s.now (ad : Int)) ad) := by rw [had]; exact HPE.out i hlt
      have hcm : Calm ({ s with acts := s.acts + i } : St) := HC.out
      have hrt : right ({ s with acts := s.acts + i } : St) (ad : Int) = true := by
        unfold right; simp; omega
      have hro := read_ok hcm hrt
      have hre := read_any p { s with acts := s.acts + i } (n + i) G (ad : Int) wr HD'.out (by omega) (I64.of (by omega) (by omega))
      rw [hro] at hre
      have HRE := Lib.hid hre
      clear hre hro hrt hcm had
      go_wp2_with fail
      refine HRE.out.mono ?_
      rintro e w4 ⟨v, rfl, _, hw4, hd4, hf4⟩
      have hw4 := hw4 (by trivial)
      have hnow : ({ s with acts := s.acts + (i : Int) } : St).now (ad : Int) = s.now (ad : Int) := rfl
      rw [hnow] at hw4
      have hnl := now_len HD.out.fits (ad : Int)
      have HWL : Hid (∃ A c, v = .slice A s.size c ∧ s.size ≤ c ∧ Reads .u64 w4 w4.heap.size A s.size (s.now (ad : Int))) := by
        obtain ⟨A, c, e1, _, e2⟩ := hw4.reads
        obtain ⟨g', c', cs, e3, _, _, e4, _⟩ := id hw4
        rw [hnl] at e1 e2 e4 e3
        rw [e1] at e3
        injection e3 with e3 _ e5
        exact ⟨A, c, e1, by omega, e2⟩
      have HF4 := Lib.hid hf4
      have HD4 : Hid (Dev w4 G p { s with acts := s.acts + ((i + 1 : Nat) : Int) } (n + (i + 1))) := by
        have e : ({ s with acts := s.acts + ((i + 1 : Nat) : Int) } : St) = { s with acts := s.acts + (i : Int) + 1 } := by
          cases s; simp; omega
        unfold Hid
        rw [e, ← Nat.add_assoc]; exact hd4
      clear hw4 hd4 hf4 hnow hnl HRE
      obtain ⟨A, c, rfl, hsc, hra⟩ := HWL.out
      have hgp := get_part A s.size c ad _ w4 hra (Nat.le_refl _) hsc hsz.1 hsz.2 (by omega)
      rw [← HPA.out] at hgp
      have HGP := Lib.hid hgp
      have HRA := Lib.hid hra
      have hp4 := HF4.out.size
      have hwrg : w1.heap.size ≤ wr.heap.size := HF'.out.size
      have hglt : g < wr.heap.size := HRW.out.lt
      clear hgp hra HWL
      have hgp1 : g ≠ p := by have := HPLT.out; omega
      have hr4 : Row w4 g 90 (flatR rs) := HF4.out.row HRW.out hgp1
      have HR4 := Lib.hid hr4
      clear hr4
      go_wp2_with fail
      refine HGP.out.mono ?_
      rintro e w5 ⟨A5, m5, c5, er5, t5, rfl, hr5, ht5, htl, hab5, hmc5, hcm5, hm5, hb5⟩
      have HR5 := Lib.hid (HR4.out.below hb5 HR4.out.lt)
      have HF5 := Lib.hid (HF'.out.trans (HF4.out.trans (Far.of_below hb5 (fun b => b = p)) (fun b hb => .inl hb)) (fun b hb => .inl hb))
      have HD5 := Lib.hid (HD4.out.below hb5)
      have HF45 := Lib.hid (HF4.out.trans (Far.of_below hb5 (fun b => b = p)) (fun b hb => .inl hb))
      have HPN : Hid (Pay w5 g (.slice A5 m5 c5, t5) ((partsE s.now k sl).getD i nop)) := by
        refine ⟨⟨ht5, by rw [← ht5]; exact htl⟩, A5, m5, c5, rfl, hr5, fun hm b off e => ?_, hmc5, hcm5, hm5⟩
        have := hab5 hm b off e
        omega
      obtain ⟨c0, c1⟩ := flatR_at rs i (by rw [HRL.out]; exact hlt)
      have k0 : w5.cell? ⟨g, i * 2, none⟩ = some (rs.getD i r0).1 := (HR5.out.cell _).trans c0
      have k1 : w5.cell? ⟨g, i * 2 + 1, none⟩ = some (.int .u64 ((rs.getD i r0).2 : Nat)) := (HR5.out.cell _).trans c1
      have z0 := HR5.out.free (i * 2)
      have z1 := HR5.out.free (i * 2 + 1)
      have HR6 : Hid (Row ((w5.setCell ⟨g, i * 2, none⟩ (.slice A5 m5 c5)).setCell ⟨g, i * 2 + 1, none⟩ (.int .u64 (t5 : Nat))) g 90 (flatR (rs.set i (.slice A5 m5 c5, t5)))) := by
        have h := (HR5.out.set (i * 2) (.slice A5 m5 c5)).set (i * 2 + 1) (.int .u64 (t5 : Nat))
        rw [flatR_set rs i _ _ (by rw [HRL.out]; exact hlt)] at h; exact h
      have hset : Far (fun b => b = g) w5 ((w5.setCell ⟨g, i * 2, none⟩ (.slice A5 m5 c5)).setCell ⟨g, i * 2 + 1, none⟩ (.int .u64 (t5 : Nat))) := ((Far.refl (fun b => b = g) w5).set (p := ⟨g, i * 2, none⟩) (.inl rfl) _).set (p := ⟨g, i * 2 + 1, none⟩) (.inl rfl) _
      have HSET := Lib.hid hset
      clear ht5 hr5 hab5 hmc5 hcm5 hm5 hb5 c0 c1 hset
      go_wp2
      generalize (w5.setCell ⟨g, i * 2, none⟩ (.slice A5 m5 c5)).setCell ⟨g, i * 2 + 1, none⟩ (.int .u64 (t5 : Nat)) = w6 at *
      have HPY6 : Hid (∀ j, j < i + 1 → Pay w6 g ((rs.set i (.slice A5 m5 c5, t5)).getD j r0) ((partsE s.now k sl).getD j nop)) := by
        intro j hj
        rw [List.getD_eq_getElem?_getD, List.getElem?_set]
        by_cases e : i = j
        · subst e
          rw [if_pos rfl, if_pos (by rw [HRL.out]; exact hlt)]
          exact HPN.out.far HSET.out fun b hb => by omega
        · rw [if_neg e, ← List.getD_eq_getElem?_getD]
          exact ((HPY.out j (by omega)).far HF45.out fun b hb => by have := HPLT.out; omega).far HSET.out fun b hb => by omega
      have HD6 := Lib.hid (HD5.out.far HSET.out fun b hb e => by have := HD.out.lt hb; omega)
      have HF6 := Lib.hid (HF5.out.trans HSET.out fun b hb => .inr (by omega))
      have HRL6 : Hid ((rs.set i (.slice A5 m5 c5, t5)).length = k) := by unfold Hid; rw [List.length_set]; exact HRL.out
      go_roundw
      case rel => exact ⟨i + 1, by omega, by go_num, rs.set i (.slice A5 m5 c5, t5), HRL6.out, HR6.out, HPY6.out, HD6.out, HF6.out⟩
      case measure => simp [intOf]; omega
    · obtain rfl : i = k := by omega
      have g0 : decide ((i : Int) < (i : Int)) = false := by simp
      have HP : Hid (PartsIn wr g i (partsE s.now i sl)) := ⟨rs, HRL.out, HPL.out, HRW.out, HPY.out⟩
      go_wp2
      go_ret2
      exact ⟨g, rfl, hgw.1, HP.out, HD'.out, HF'.out⟩

theorem high_snoc (ps : List (List Nat × Nat)) {i : Nat} (hi : i < ps.length) : highE (ps.take (i + 1)) = if GenP (ps.getD i nop).2 then max (highE (ps.take i)) (ps.getD i nop).2 else highE (ps.take i) := by
  unfold highE
  rw [List.take_add_one, List.getElem?_eq_getElem hi, Option.toList_some, List.foldl_append, List.getD_eq_getElem?_getD, List.getElem?_eq_getElem hi]; rfl
theorem high_le (ps : List (List Nat × Nat)) : highE ps ≤ 4611686018427387904 := by
  have key : ∀ (l : List (List Nat × Nat)) (h : Nat), h ≤ 4611686018427387904 → l.foldl (fun h x => if GenP x.2 then max h x.2 else h) h ≤ 4611686018427387904 := by
    intro l
    induction l with
    | nil => intro h hh; exact hh
    | cons x l ih =>
      intro h hh
      rw [List.foldl_cons]
      apply ih
      split
      · next hg => have := hg.2; omega
      · exact hh
  exact key ps 0 (by omega)

set_option maxHeartbeats 1600000 in
set_option maxRecDepth 100000 in
theorem high_any (g k c : Nat) (ps : List (List Nat × Nat)) (w : World) (h : PartsIn w g k ps) (hk : k ≤ 100000) :
    Calls Try.prog 32 #[.slice (some ⟨g, 0, none⟩) k c] w fun e w' => e = .returned (.int .u64 (highE ps : Nat)) ∧ Below w.heap.size w w' := by
  have HP := Lib.hid h
  have HL : Hid (ps.length = k) := by obtain ⟨_, _, h2, _⟩ := h; exact h2
  clear h
  go_enter Try.func32, Try.ntmps32
  go_wp2
  go_loopw [8, 3] (fun iv hv wr => ∃ i hh : Nat, i ≤ k ∧ iv = .int .i64 (i : Int) ∧ hv = .int .u64 (hh : Int) ∧ hh ≤ 4611686018427387904 ∧ Hid (hh = highE (ps.take i)) ∧ Hid (Below w.heap.size w wr)) (fun iv _ _ => k - (intOf iv).toNat)
  case atStart => exact ⟨0, 0, by omega, rfl, rfl, by omega, rfl, Below.refl _ _⟩
  case round =>
    obtain ⟨i, hh, hi, rfl, rfl, hhl, HH, HBW⟩ := hrel
    by_cases hlt : i < k
    · have hj0 : (0 : Int) ≤ (i : Int) := by omega
      have hj1 : (i : Int) < (k : Int) := by omega
      obtain ⟨A, m, cc, t, c0, c1, _, HT, htl, _, _, _⟩ := (HP.out.below HBW.out).at_ hlt
      have HS := Lib.hid (high_snoc ps (show i < ps.length by rw [HL.out]; exact hlt))
      rw [← HT.out, ← HH.out] at HS
      have hr : Row (wr.alloc (.cells #[.slice A m cc, .int .u64 (t : Int)] 90)) wr.heap.size 90 [.slice A m cc, .int .u64 (t : Int)] := heap_alloc_new _ _
      have d1 : (wr.alloc (.cells #[.slice A m cc, .int .u64 (t : Int)] 90)).cell? ⟨wr.heap.size, 1, none⟩ = some (.int .u64 (t : Int)) := hr.cell 1
      have HB2 : Hid (Below w.heap.size w (wr.alloc (.cells #[.slice A m cc, .int .u64 (t : Int)] 90))) := HBW.out.alloc HBW.out.size _
      clear hr
      have HG := Lib.hid (fun w => isgen_any t w)
      by_cases hgp : GenP t
      · rw [decide_eq_true hgp] at HG
        rw [if_pos hgp] at HS
        have hgb := hgp.2
        obtain ⟨z, hz⟩ : ∃ z, z = max hh t := ⟨_, rfl⟩
        rw [← hz] at HS
        have hzz : (if (hh : Int) < (t : Int) then (t : Int) else (hh : Int)) = (z : Int) := by split <;> omega
        have hzn : (if hh < t then (t : Int) else (hh : Int)) = (z : Int) := by split <;> omega
        have hzl : z ≤ 4611686018427387904 := by omega
        clear hz
        go_wp2_with fail
        refine (HG.out _).mono ?_; rintro e w3 ⟨rfl, rfl⟩
        go_wp2
        go_roundw
        case rel => exact ⟨i + 1, z, by omega, by go_num, rfl, hzl, HS.out.symm, HB2.out⟩
        case measure => simp [intOf]; omega
      · rw [decide_eq_false hgp] at HG
        rw [if_neg hgp] at HS
        go_wp2_with fail
        refine (HG.out _).mono ?_; rintro e w3 ⟨rfl, rfl⟩
        go_wp2
        go_roundw
        case rel => exact ⟨i + 1, hh, by omega, by go_num, rfl, hhl, HS.out.symm, HB2.out⟩
        case measure => simp [intOf]; omega
    · obtain rfl : i = k := by omega
      have HE : Hid (hh = highE ps) := by unfold Hid; rw [HH.out, List.take_of_length_le (by rw [HL.out]; exact Nat.le_refl _)]
      go_wp2
      go_ret
      exact ⟨ret_int (by rw [HE.out]), HBW.out⟩
end Go.Proofs.Ythdibijkiogpjaa
