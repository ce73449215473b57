/- What Write answers, and makes of a work. -/
import Derived.Test.YtbkgpilmgllkiaaFilePut
namespace Go.Proofs.Ytbkgpilmgllkiaa
open Go.ChangeShapes Go.WideShapes Go.ChangeAt Go.RowKit

/-- may there be a writer of that width, for at most so many tuples -/
def WArgs (F : Fs) (width bound : Int) : Prop := holdsI F.D.size width ≠ 0 ∧ 0 ≤ bound ∧ bound ≤ 100000000
/-- why there is none -/
def WErr (F : Fs) (width bound er : Int) : Prop :=
  (er = 1 ∧ ¬ WArgs F width bound) ∨ (er = 7 ∧ WArgs F width bound ∧ F.A.room - F.A.used < F.D.size) ∨
  (er = 5 ∧ WArgs F width bound ∧ F.D.size ≤ F.A.room - F.A.used ∧ 0 < blocksN (holdsI F.D.size width) bound.toNat ∧ ∀ k, ¬ roomB F.S k (blocksN (holdsI F.D.size width) bound.toNat))
/-- the blocks that a writer takes -/
def Taken (S S' : Sp) (a m : Nat) : Prop := (m = 0 ∧ a = 0 ∧ S' = S) ∨ (0 < m ∧ Took S S' a m ∧ ∀ k, roomB S k m → a ≤ k)
/-- what is taken and given again -/
theorem give_take {S S' : Sp} {a m : Nat} (hm : 0 < m) (h : S.ok) (ht : Took S S' a m) : (giveS S' a m).1 = S := by
  have hr := h.2.2
  have h1 := hr.has (ht.room a (Nat.le_refl _) (by omega))
  have h2 := hr.has (ht.room (a + m - 1) (by omega) (by omega))
  rcases giveS_spec ht.ok (a : Int) (m : Int) with ⟨s', a', m', e1, e2, h3, e3, hg⟩ | ⟨e3, hno⟩
  · have ea : a' = a := by omega
    have em : m' = m := by omega
    subst ea; subst em
    rw [e3]
    have hf : s'.first = S.first := hg.first.trans ht.first
    have hb : s'.blocks = S.blocks := hg.blocks.trans ht.blocks
    have hfr : s'.fr = S.fr := by
      have hc := hg.ok.2.2
      rw [hf, hb] at hc
      refine Canon.only hc hr fun b => ?_
      rw [hg.has, ht.has]
      constructor
      · rintro (h4 | h4)
        · exact h4.1
        · exact ht.room b h4.1 h4.2
      · intro h4
        by_cases h5 : a' ≤ b ∧ b < a' + m'
        · exact .inr h5
        · exact .inl ⟨h4, h5⟩
    obtain ⟨f1, b1, l1⟩ := s'
    obtain ⟨f2, b2, l2⟩ := S
    simp only at hf hb hfr
    subst hf; subst hb; subst hfr; rfl
  · refine absurd ?_ (hno a m rfl rfl (by omega))
    rw [ht.first, ht.blocks]
    exact ⟨h1.1, by omega, fun b hb1 hb2 hh => ((ht.has b).1 hh).2 ⟨hb1, hb2⟩⟩
theorem took_le {S S' : Sp} {a m : Nat} (hm : 0 < m) (h : S.ok) (ht : Took S S' a m) : a + m ≤ S.first + S.blocks ∧ S.first ≤ a := by
  have hr := h.2.2
  have h1 := hr.has (ht.room a (Nat.le_refl _) (by omega))
  have h2 := hr.has (ht.room (a + m - 1) (by omega) (by omega))
  omega
/-- what take answers -/
theorem takeN_spec {S : Sp} (h : S.ok) (m : Nat) : (∃ S' a, takeN S m = (S', a, m, 0) ∧ Taken S S' a m ∧ giveN S' a m = S ∧ a + m ≤ 2000000) ∨ (takeN S m = (S, 0, 0, 5) ∧ 0 < m ∧ ∀ k, ¬ roomB S k m) := by
  by_cases hm : m = 0
  · subst hm; exact .inl ⟨S, 0, rfl, .inl ⟨rfl, rfl, rfl⟩, rfl, by omega⟩
  · have hm' : 0 < m := by omega
    unfold takeN
    rw [if_neg hm]
    rcases takeS_spec h (n := m) hm' with ⟨S', a, e, ht, hl⟩ | ⟨e, hno⟩
    · rw [e, if_pos rfl]
      refine .inl ⟨S', a, rfl, .inr ⟨hm', ht, hl⟩, ?_, ?_⟩
      · unfold giveN; rw [if_neg hm]; exact give_take hm' h ht
      · have := took_le hm' h ht; have := h.1; have := h.2.1; omega
    · rw [e, if_neg (show ¬ ((5 : Nat) = 0) by decide)]
      exact .inr ⟨rfl, hm', hno⟩
theorem holds_pos {size : Nat} {width : Int} (h : holdsI size width ≠ 0) : ∃ k : Nat, width = (k : Int) ∧ 0 < k ∧ k ≤ 5 ∧ holdsI size width * k ≤ size - 2 := by
  unfold holdsI at h ⊢
  by_cases hc : width < 1 ∨ 5 < width
  · rw [if_pos hc] at h; exact absurd rfl h
  · rw [if_neg hc]
    refine ⟨width.toNat, by omega, by omega, by omega, ?_⟩
    exact Nat.div_mul_le_self _ _
set_option maxRecDepth 100000 in
theorem fwrite_nil (width bound : Int) (w : World) : Calls Try.prog 34 #[.pointer none, .int .i64 width, .int .i64 bound] w fun e w' => e = .returned (.tuple #[.pointer none, .int .i64 1]) ∧ Below w.heap.size w w' := by
  have HS := Lib.hid (shape_nil width w)
  go_enter Try.func34, Try.ntmps34
  go_wp2_with fail
  refine HS.out.mono ?_; rintro e w1 ⟨rfl, hb⟩
  have HB := Lib.hid (hb.alloc hb.size (.cells #[.int .i64 width, .int .i64 0] 120))
  clear hb
  go_wp2
  go_ret2
  exact ⟨rfl, HB.out⟩
set_option maxHeartbeats 4000000 in
set_option maxRecDepth 100000 in
theorem fwrite_bad {w : World} {G : Nat → Prop} {p : Wp} {F : Fs} {n : Nat} (h : Sys w G p F n) (width bound : Int) (hno : ¬ WArgs F width bound) : Calls Try.prog 34 #[.pointer (some ⟨p.w, 0, none⟩), .int .i64 width, .int .i64 bound] w fun e w' => e = .returned (.tuple #[.pointer none, .int .i64 1]) ∧ Below w.heap.size w w' := by
  have HS := Lib.hid (shape_any h width)
  by_cases h0 : holdsI F.D.size width = 0
  · rw [h0] at HS
    clear h0 hno h
    go_enter Try.func34, Try.ntmps34
    go_wp2_with fail
    refine HS.out.mono ?_; rintro e w1 ⟨rfl, hb⟩
    have HB := Lib.hid (hb.alloc hb.size (.cells #[.int .i64 width, .int .i64 0] 120))
    clear hb
    go_wp2
    go_ret2
    exact ⟨rfl, HB.out⟩
  · have g0 : (((holdsI F.D.size width : Nat) : Int) == 0) = false := by simpa using h0
    by_cases h1 : bound < 0
    · have g1 : decide (bound < 0) = true := by simpa using h1
      generalize holdsI F.D.size width = hh at *
      clear h0 hno h h1
      go_enter Try.func34, Try.ntmps34
      go_wp2_with fail
      refine HS.out.mono ?_; rintro e w1 ⟨rfl, hb⟩
      have HB := Lib.hid (hb.alloc hb.size (.cells #[.int .i64 width, .int .i64 hh] 120))
      clear hb
      go_wp2
      go_ret2
      exact ⟨rfl, HB.out⟩
    · have g1 : decide (bound < 0) = false := by simpa using h1
      have g2 : decide (bound > 100000000) = true := by
        have : ¬ bound ≤ 100000000 := fun h2 => hno ⟨h0, by omega, h2⟩
        simp; omega
      generalize holdsI F.D.size width = hh at *
      clear h0 hno h h1
      go_enter Try.func34, Try.ntmps34
      go_wp2_with fail
      refine HS.out.mono ?_; rintro e w1 ⟨rfl, hb⟩
      have HB := Lib.hid (hb.alloc hb.size (.cells #[.int .i64 width, .int .i64 hh] 120))
      clear hb
      go_wp2
      go_ret2
      exact ⟨rfl, HB.out⟩
set_option maxHeartbeats 4000000 in
set_option maxRecDepth 100000 in
theorem fwrite_none {w : World} {G : Nat → Prop} {p : Wp} {F : Fs} {n : Nat} (h : Sys w G p F n) (width bound : Int) (ha : WArgs F width bound) (htk : takeN F.S (blocksN (holdsI F.D.size width) bound.toNat) = (F.S, 0, 0, 5)) (e7 : Bool) (he7 : e7 = decide (F.A.room - F.A.used < F.D.size)) : Calls Try.prog 34 #[.pointer (some ⟨p.w, 0, none⟩), .int .i64 width, .int .i64 bound] w fun e w' => e = .returned (.tuple #[.pointer none, .int .i64 (if e7 then 7 else 5)]) ∧ SysTo w G p F n w' := by
  have hsz := h.size
  have hh254 : holdsI F.D.size width ≤ 254 := Nat.le_trans (holds_le _ _) (by omega)
  obtain ⟨ha0, hab0, hab1⟩ := ha
  obtain ⟨bn, rfl⟩ : ∃ bn : Nat, bound = (bn : Int) := ⟨bound.toNat, by omega⟩
  rw [Int.toNat_natCast] at htk
  obtain ⟨k, rfl, hk0, hk5, hhk⟩ := holds_pos ha0
  have hbm : blocksN (holdsI F.D.size k) bn ≤ 100000000 := Nat.le_trans (blocks_le _ _) (by omega)
  have HS := Lib.hid (shape_any h k)
  have HBL : Hid (∀ W, Calls Try.prog 48 #[.agg #[.int .i64 k, .int .i64 (holdsI F.D.size k : Nat)], .int .i64 bn] W fun e w' => e = .returned (.int .i64 (blocksN (holdsI F.D.size k) bn : Nat)) ∧ Below W.heap.size W w') := fun W => blks_any k (holdsI F.D.size k) bn W (by omega) hh254 (by omega)
  have HTK : Hid (∀ W, Below w.heap.size w W → Calls Try.prog 57 #[.pointer (some ⟨p.w, 0, none⟩), .int .i64 (blocksN (holdsI F.D.size k) bn : Nat)] W fun e w' => e = .returned (.tuple #[.agg #[.int .i64 0, .int .i64 0], .int .i64 5]) ∧ SysTo W G p F n w' ∧ ∀ g t cs, Row W g t cs → ¬ G g → Row w' g t cs) := fun W hb => by
    have h1 := ftake_any (h.below hb) (blocksN (holdsI F.D.size k) bn) hbm
    rw [htk] at h1
    exact h1.mono fun e w' ⟨he, h2⟩ => ⟨he, h2, fun g t cs hr hg => h2.row hr hg⟩
  have HNG : Hid (∀ k, w.heap.size ≤ k → ¬ G k) := fun k hk hg => by have := h.lt hg; omega
  have HLQ : Hid (∀ W G', Sys W G' p F n → ∀ q, Calls Try.prog 58 #[.pointer (some ⟨p.a, 0, none⟩)] (W.drewN q) fun e w'' => e = .returned (.int .i64 ((F.A.room - F.A.used : Nat) : Int)) ∧ ∃ k, w'' = W.drewN k) := fun W G' hs q => Calls.quiet_of_same ((hs.below (below_drewN (Below.refl _ _) q)).left_any.mono fun _ _ h => h)
  have HSQ : Hid (∀ W G', Sys W G' p F n → ∀ q, Calls Try.prog 50 #[.pointer (some ⟨p.d, 0, none⟩)] (W.drewN q) fun e w'' => e = .returned (.int .i64 (F.D.size : Int)) ∧ ∃ k, w'' = W.drewN k) := fun W G' hs q => Calls.quiet_of_same ((hs.below (below_drewN (Below.refl _ _) q)).dsize_any.mono fun _ _ h => h)
  obtain ⟨left, hleft⟩ : ∃ left, left = F.A.room - F.A.used := ⟨_, rfl⟩
  rw [← hleft] at HLQ he7
  have g0 : (((holdsI F.D.size (k : Int) : Nat) : Int) == 0) = false := by simpa using ha0
  have g1 : decide ((bn : Int) < 0) = false := by simp
  have g2 : decide ((bn : Int) > 100000000) = false := by simp; omega
  clear hleft htk h ha0 hab0 hhk hh254
  generalize blocksN (holdsI F.D.size k) bn = nb at *
  generalize holdsI F.D.size k = hh at *
  cases e7
  · have gl : ¬ left < F.D.size := by simpa using he7
    clear he7
    go_enter Try.func34, Try.ntmps34
    go_wp2_with fail
    refine HS.out.mono ?_; rintro e w1 ⟨rfl, hb1⟩
    have hb2 := hb1.alloc hb1.size (.cells #[.int .i64 k, .int .i64 hh] 120)
    have hr2 : Row (w1.alloc (.cells #[.int .i64 k, .int .i64 hh] 120)) w1.heap.size 120 [.int .i64 k, .int .i64 hh] := heap_alloc_new _ _
    have hl1 := hb1.size
    clear hb1
    go_wp2_with fail
    refine (HBL.out _).mono ?_; rintro e w3 ⟨rfl, hb3⟩
    have hr3 := hr2.below hb3 hr2.lt
    have hb3' := hb2.trans (hb3.mono hb2.size)
    have HR3 := Lib.hid hr3
    have HB3 := Lib.hid hb3'
    have HL1 := Lib.hid hl1
    clear hb2 hr2 hb3 hr3 hb3' hl1
    go_wp2_with fail
    refine (HTK.out _ HB3.out).mono ?_; rintro e w4 ⟨rfl, h4, hk4⟩
    have hr4 := hk4 _ _ _ HR3.out (HNG.out _ HL1.out)
    obtain ⟨G', k1, k2', k3'⟩ := h4
    have hsb : ¬ G' w1.heap.size := fun hg => (k3' _ hg).elim (HNG.out _ HL1.out) fun h => by have := HR3.out.lt; omega
    have k2 : Far G w w4 := (Far.of_below HB3.out G).trans k2' fun b hb => .inl hb
    have k3 : ∀ k, G' k → G k ∨ w.heap.size ≤ k := fun k hk => (k3' k hk).imp id fun h => Nat.le_trans HB3.out.size h
    clear k2' k3'
    have hb5 := (Below.refl w4.heap.size w4).alloc (Nat.le_refl _) (.cells #[.int .i64 0, .int .i64 0] 98)
    have hr5 := hr4.below hb5 hr4.lt
    have hre5 : Row (w4.alloc (.cells #[.int .i64 0, .int .i64 0] 98)) w4.heap.size 98 [.int .i64 0, .int .i64 0] := heap_alloc_new _ _
    have k5 := k1.below hb5
    have hw4 := k2.size
    go_wp2
    generalize w4.alloc (.cells #[.int .i64 0, .int .i64 0] 98) = w5 at *
    have Q1 := Lib.hid (HLQ.out w5 G' k5)
    have Q2 := Lib.hid (HSQ.out w5 G' k5)
    have c0 : w5.cell? ⟨p.w, 0, none⟩ = some (.pointer (some ⟨p.d, 0, none⟩)) := k5.row.cell 0
    have c1 : w5.cell? ⟨p.w, 1, none⟩ = some (.pointer (some ⟨p.a, 0, none⟩)) := k5.row.cell 1
    have HEND : Hid (∀ q, SysTo w G p F n (w5.drewN q)) := fun q => SysTo.ahead (SysTo.ahead ⟨G', k1, k2, k3⟩ hb5) (below_drewN (Below.refl _ _) q)
    clear k1 k2 k3 k5 hb5 hr5 hre5 hr4 hk4 HBL HTK HS HLQ HSQ HR3 HB3
    go_quiet ((with_reducible first | exact Q1.out _ | exact Q2.out _))
    go_wp2
    go_ret2
    exact ⟨rfl, HEND.out _⟩
  · have gl : left < F.D.size := by simpa using he7
    clear he7
    go_enter Try.func34, Try.ntmps34
    go_wp2_with fail
    refine HS.out.mono ?_; rintro e w1 ⟨rfl, hb1⟩
    have hb2 := hb1.alloc hb1.size (.cells #[.int .i64 k, .int .i64 hh] 120)
    have hr2 : Row (w1.alloc (.cells #[.int .i64 k, .int .i64 hh] 120)) w1.heap.size 120 [.int .i64 k, .int .i64 hh] := heap_alloc_new _ _
    have hl1 := hb1.size
    clear hb1
    go_wp2_with fail
    refine (HBL.out _).mono ?_; rintro e w3 ⟨rfl, hb3⟩
    have hr3 := hr2.below hb3 hr2.lt
    have hb3' := hb2.trans (hb3.mono hb2.size)
    have HR3 := Lib.hid hr3
    have HB3 := Lib.hid hb3'
    have HL1 := Lib.hid hl1
    clear hb2 hr2 hb3 hr3 hb3' hl1
    go_wp2_with fail
    refine (HTK.out _ HB3.out).mono ?_; rintro e w4 ⟨rfl, h4, hk4⟩
    have hr4 := hk4 _ _ _ HR3.out (HNG.out _ HL1.out)
    obtain ⟨G', k1, k2', k3'⟩ := h4
    have hsb : ¬ G' w1.heap.size := fun hg => (k3' _ hg).elim (HNG.out _ HL1.out) fun h => by have := HR3.out.lt; omega
    have k2 : Far G w w4 := (Far.of_below HB3.out G).trans k2' fun b hb => .inl hb
    have k3 : ∀ k, G' k → G k ∨ w.heap.size ≤ k := fun k hk => (k3' k hk).imp id fun h => Nat.le_trans HB3.out.size h
    clear k2' k3'
    have hb5 := (Below.refl w4.heap.size w4).alloc (Nat.le_refl _) (.cells #[.int .i64 0, .int .i64 0] 98)
    have hr5 := hr4.below hb5 hr4.lt
    have hre5 : Row (w4.alloc (.cells #[.int .i64 0, .int .i64 0] 98)) w4.heap.size 98 [.int .i64 0, .int .i64 0] := heap_alloc_new _ _
    have k5 := k1.below hb5
    have hw4 := k2.size
    go_wp2
    generalize w4.alloc (.cells #[.int .i64 0, .int .i64 0] 98) = w5 at *
    have Q1 := Lib.hid (HLQ.out w5 G' k5)
    have Q2 := Lib.hid (HSQ.out w5 G' k5)
    have c0 : w5.cell? ⟨p.w, 0, none⟩ = some (.pointer (some ⟨p.d, 0, none⟩)) := k5.row.cell 0
    have c1 : w5.cell? ⟨p.w, 1, none⟩ = some (.pointer (some ⟨p.a, 0, none⟩)) := k5.row.cell 1
    have HEND : Hid (∀ q, SysTo w G p F n (w5.drewN q)) := fun q => SysTo.ahead (SysTo.ahead ⟨G', k1, k2, k3⟩ hb5) (below_drewN (Below.refl _ _) q)
    clear k1 k2 k3 k5 hb5 hr5 hre5 hr4 hk4 HBL HTK HS HLQ HSQ HR3 HB3
    go_quiet ((with_reducible first | exact Q1.out _ | exact Q2.out _))
    go_wp2
    go_ret2
    exact ⟨rfl, HEND.out _⟩

theorem sys_grant_no {w : World} {G : Nat → Prop} {p : Wp} {F : Fs} {n : Nat} (h : Sys w G p F n) (m : Nat) (hm : F.A.room - F.A.used < m) : Calls Try.prog 49 #[.pointer (some ⟨p.a, 0, none⟩), .int .i64 m] w fun e w' => e = .returned (.tuple #[.pointer none, .int .i64 7]) ∧ w' = w := by
  obtain ⟨Ga, ha, _⟩ := h.arn
  have h1 := grant_no p.a F.A Ga (m : Int) w ha (.inr (by omega))
  rw [if_neg (by omega)] at h1
  exact h1
theorem sys_grant {w : World} {G : Nat → Prop} {p : Wp} {F : Fs} {n : Nat} (h : Sys w G p F n) (m : Nat) (hm : m ≤ F.A.room - F.A.used) (h8 : m ≤ 256) : Calls Try.prog 49 #[.pointer (some ⟨p.a, 0, none⟩), .int .i64 m] w fun e w' => ∃ b g, e = .returned (.tuple #[.pointer (some ⟨b, 0, none⟩), .int .i64 0]) ∧
    (∃ G', Sys w' G' p { F with A := grant F.A b m } n ∧ Far G w w' ∧ (∀ k, G' k → G k ∨ w.heap.size ≤ k) ∧ ¬ G' b ∧ ¬ G' g) ∧ Row w' b 130 [.slice (some ⟨g, 0, none⟩) m m] ∧ Row w' g 69 ((List.replicate m 0).map vw) ∧ w.heap.size ≤ b ∧ w.heap.size ≤ g := by
  obtain ⟨Ga, ha, hg, _⟩ := h.arn
  refine (grant_any p.a F.A Ga m w ha hm (by omega)).mono ?_
  rintro e w' ⟨b, g, Ga', he, h1, h2, h3, h4, h5, h6⟩
  refine ⟨b, g, he, hg w' b g m ⟨Ga', h1, h2, h3, h4, h5, h6⟩, h2, ?_, h4, h5⟩
  rw [List.map_replicate]; exact h3

set_option maxHeartbeats 4000000 in
set_option maxRecDepth 100000 in
theorem fwrite_room {w : World} {G : Nat → Prop} {p : Wp} {F : Fs} {n : Nat} (h : Sys w G p F n) (width bound : Int) (ha : WArgs F width bound) (S1 : Sp) (a : Nat) (htk : takeN F.S (blocksN (holdsI F.D.size width) bound.toNat) = (S1, a, blocksN (holdsI F.D.size width) bound.toNat, 0)) (hgb : giveN S1 a (blocksN (holdsI F.D.size width) bound.toNat) = F.S) (hal : a ≤ 2000000) (hroom : F.A.room - F.A.used < F.D.size) : Calls Try.prog 34 #[.pointer (some ⟨p.w, 0, none⟩), .int .i64 width, .int .i64 bound] w fun e w' => e = .returned (.tuple #[.pointer none, .int .i64 7]) ∧ SysTo w G p F n w' := by
  have hsz := h.size
  have hh254 : holdsI F.D.size width ≤ 254 := Nat.le_trans (holds_le _ _) (by omega)
  obtain ⟨ha0, hab0, hab1⟩ := ha
  obtain ⟨bn, rfl⟩ : ∃ bn : Nat, bound = (bn : Int) := ⟨bound.toNat, by omega⟩
  rw [Int.toNat_natCast] at htk
  obtain ⟨k, rfl, hk0, hk5, hhk⟩ := holds_pos ha0
  have hbm : blocksN (holdsI F.D.size k) bn ≤ 100000000 := Nat.le_trans (blocks_le _ _) (by omega)
  have HS := Lib.hid (shape_any h k)
  have HBL : Hid (∀ W, Calls Try.prog 48 #[.agg #[.int .i64 k, .int .i64 (holdsI F.D.size k : Nat)], .int .i64 bn] W fun e w' => e = .returned (.int .i64 (blocksN (holdsI F.D.size k) bn : Nat)) ∧ Below W.heap.size W w') := fun W => blks_any k (holdsI F.D.size k) bn W (by omega) hh254 (by omega)
  have HTK : Hid (∀ W, Below w.heap.size w W → Calls Try.prog 57 #[.pointer (some ⟨p.w, 0, none⟩), .int .i64 (blocksN (holdsI F.D.size k) bn : Nat)] W fun e w' => e = .returned (.tuple #[.agg #[.int .i64 a, .int .i64 (blocksN (holdsI F.D.size k) bn : Nat)], .int .i64 0]) ∧ SysTo W G p { F with S := S1 } n w' ∧ ∀ g t cs, Row W g t cs → ¬ G g → Row w' g t cs) := fun W hb => by
    have h1 := ftake_any (h.below hb) (blocksN (holdsI F.D.size k) bn) hbm
    rw [htk] at h1
    exact h1.mono fun e w' ⟨he, h2⟩ => ⟨he, h2, fun g t cs hr hg => h2.row hr hg⟩
  have HNG : Hid (∀ k, w.heap.size ≤ k → ¬ G k) := fun k hk hg => by have := h.lt hg; omega
  rw [Int.toNat_natCast] at hgb
  obtain ⟨F1, hF1⟩ : ∃ F1 : Fs, F1 = { F with S := S1 } := ⟨_, rfl⟩
  rw [← hF1] at HTK
  have HGQ : Hid (∀ W G', Sys W G' p F1 n → ∀ q, Calls Try.prog 49 #[.pointer (some ⟨p.a, 0, none⟩), .int .i64 F.D.size] (W.drewN q) fun e w'' => e = .returned (.tuple #[.pointer none, .int .i64 7]) ∧ ∃ k, w'' = W.drewN k) := fun W G' hs q => Calls.quiet_of_same ((sys_grant_no (hs.below (below_drewN (Below.refl _ _) q)) F.D.size (by rw [hF1]; exact hroom)).mono fun _ _ h => h)
  have HSQ : Hid (∀ W G', Sys W G' p F1 n → ∀ q, Calls Try.prog 50 #[.pointer (some ⟨p.d, 0, none⟩)] (W.drewN q) fun e w'' => e = .returned (.int .i64 (F.D.size : Int)) ∧ ∃ k, w'' = W.drewN k) := fun W G' hs q => by
    have h1 := (hs.below (below_drewN (Below.refl _ _) q)).dsize_any
    rw [hF1] at h1
    exact Calls.quiet_of_same (h1.mono fun _ _ h => h)
  have HGV : Hid (∀ W G', Sys W G' p F1 n → Calls Try.prog 59 #[.pointer (some ⟨p.w, 0, none⟩), .agg #[.int .i64 a, .int .i64 (blocksN (holdsI F.D.size k) bn : Nat)]] W fun e w' => e = .returned (.tuple #[]) ∧ SysTo W G' p F n w') := fun W G' hs => by
    have h1 := fgive_any hs a (blocksN (holdsI F.D.size k) bn) (by omega) hbm
    rw [hF1] at h1
    simp only [hgb] at h1
    exact h1
  have g0 : (((holdsI F.D.size (k : Int) : Nat) : Int) == 0) = false := by simpa using ha0
  have g1 : decide ((bn : Int) < 0) = false := by simp
  have g2 : decide ((bn : Int) > 100000000) = false := by simp; omega
  clear hF1 htk h ha0 hab0 hhk hh254 hgb hroom
  generalize blocksN (holdsI F.D.size k) bn = nb at *
  generalize holdsI F.D.size k = hh at *
  go_enter Try.func34, Try.ntmps34
  go_wp2_with fail
  refine HS.out.mono ?_; rintro e w1 ⟨rfl, hb1⟩
  have hb2 := hb1.alloc hb1.size (.cells #[.int .i64 k, .int .i64 hh] 120)
  have hr2 : Row (w1.alloc (.cells #[.int .i64 k, .int .i64 hh] 120)) w1.heap.size 120 [.int .i64 k, .int .i64 hh] := heap_alloc_new _ _
  have hl1 := hb1.size
  clear hb1
  go_wp2_with fail
  refine (HBL.out _).mono ?_; rintro e w3 ⟨rfl, hb3⟩
  have hr3 := hr2.below hb3 hr2.lt
  have hb3' := hb2.trans (hb3.mono hb2.size)
  have HR3 := Lib.hid hr3
  have HB3 := Lib.hid hb3'
  have HL1 := Lib.hid hl1
  clear hb2 hr2 hb3 hr3 hb3' hl1
  go_wp2_with fail
  refine (HTK.out _ HB3.out).mono ?_; rintro e w4 ⟨rfl, h4, hk4⟩
  have hr4 := hk4 _ _ _ HR3.out (HNG.out _ HL1.out)
  obtain ⟨G', k1, k2', k3'⟩ := h4
  have hsb : ¬ G' w1.heap.size := fun hg => (k3' _ hg).elim (HNG.out _ HL1.out) fun h => by have := HR3.out.lt; omega
  have k2 : Far G w w4 := (Far.of_below HB3.out G).trans k2' fun b hb => .inl hb
  have k3 : ∀ k, G' k → G k ∨ w.heap.size ≤ k := fun k hk => (k3' k hk).imp id fun h => Nat.le_trans HB3.out.size h
  clear k2' k3'
  have hb5 := (Below.refl w4.heap.size w4).alloc (Nat.le_refl _) (.cells #[.int .i64 a, .int .i64 nb] 98)
  have hr5 := hr4.below hb5 hr4.lt
  have hre5 : Row (w4.alloc (.cells #[.int .i64 a, .int .i64 nb] 98)) w4.heap.size 98 [.int .i64 a, .int .i64 nb] := heap_alloc_new _ _
  have k5 := k1.below hb5
  have hw4 := k2.size
  go_wp2
  generalize w4.alloc (.cells #[.int .i64 a, .int .i64 nb] 98) = w5 at *
  have Q1 := Lib.hid (HGQ.out w5 G' k5)
  have Q2 := Lib.hid (HSQ.out w5 G' k5)
  have c0 : w5.cell? ⟨p.w, 0, none⟩ = some (.pointer (some ⟨p.d, 0, none⟩)) := k5.row.cell 0
  have c1 : w5.cell? ⟨p.w, 1, none⟩ = some (.pointer (some ⟨p.a, 0, none⟩)) := k5.row.cell 1
  have e0 : w5.cell? ⟨w4.heap.size, 0, none⟩ = some (.int .i64 a) := hre5.cell 0
  have e1 : w5.cell? ⟨w4.heap.size, 1, none⟩ = some (.int .i64 nb) := hre5.cell 1
  have HGE : Hid (∀ q, Calls Try.prog 59 #[.pointer (some ⟨p.w, 0, none⟩), .agg #[.int .i64 a, .int .i64 nb]] (w5.drewN q) fun e w' => e = .returned (.tuple #[]) ∧ SysTo w G p F n w') := fun q => by
    refine (HGV.out _ G' (k5.below (below_drewN (Below.refl _ _) q))).mono ?_
    rintro e w' ⟨he, h6⟩
    refine ⟨he, ?_⟩
    obtain ⟨G'', m1, m2, m3⟩ := h6
    have k2' : Far G w (w5.drewN q) := (k2.trans (Far.of_below hb5 fun _ => False) fun _ hf => hf.elim).drewN q
    exact ⟨G'', m1, k2'.trans m2 k3, fun k hk => (m3 k hk).elim (fun h => k3 k h) fun h => .inr (Nat.le_trans k2'.size h)⟩
  clear k1 k2 k3 k5 hb5 hr5 hre5 hr4 hk4 HBL HTK HS HGQ HSQ HR3 HB3 HGV
  go_quiet ((with_reducible first | exact Q1.out _ | exact Q2.out _))
  clear Q1 Q2 c0 c1
  go_wp2_with fail
  refine (HGE.out _).mono ?_; rintro e w6 ⟨rfl, h6⟩
  have H6 := Lib.hid h6
  clear h6 HGE
  go_wp2
  go_ret2
  exact ⟨rfl, H6.out⟩

/-- a new writer's memory -/
def NewW (w : World) (G : Nat → Prop) (p : Wp) (F : Fs) (n : Nat) (S1 : Sp) (t : Wt) (x : Nat) (w' : World) : Prop :=
  w.heap.size ≤ x ∧ w.heap.size ≤ t.b ∧ w.heap.size ≤ t.g ∧ ∃ G', Sys w' G' p { F with S := S1, A := grant F.A t.b F.D.size } n ∧ WOpen w' x p t F.D.size ∧ WOut G' x t ∧ Far G w w' ∧ ∀ k, G' k → G k ∨ w.heap.size ≤ k
def WriteOk (w : World) (G : Nat → Prop) (p : Wp) (F : Fs) (n : Nat) (S1 : Sp) (a k h bn nb : Nat) (e : Ending) (w' : World) : Prop :=
  ∃ x b g, e = .returned (.tuple #[.pointer (some ⟨x, 0, none⟩), .int .i64 0]) ∧ NewW w G p F n S1 ⟨k, h, bn, a, nb, b, g, []⟩ x w'
set_option maxHeartbeats 4000000 in
set_option maxRecDepth 100000 in
theorem fwrite_ok {w : World} {G : Nat → Prop} {p : Wp} {F : Fs} {n : Nat} (h : Sys w G p F n) (width bound : Int) (ha : WArgs F width bound) (S1 : Sp) (a : Nat) (htk : takeN F.S (blocksN (holdsI F.D.size width) bound.toNat) = (S1, a, blocksN (holdsI F.D.size width) bound.toNat, 0)) (hroom : F.D.size ≤ F.A.room - F.A.used) :
    Calls Try.prog 34 #[.pointer (some ⟨p.w, 0, none⟩), .int .i64 width, .int .i64 bound] w (WriteOk w G p F n S1 a width.toNat (holdsI F.D.size width) bound.toNat (blocksN (holdsI F.D.size width) bound.toNat)) := by
  have hsz := h.size
  have hh254 : holdsI F.D.size width ≤ 254 := Nat.le_trans (holds_le _ _) (by omega)
  obtain ⟨ha0, hab0, hab1⟩ := ha
  obtain ⟨bn, rfl⟩ : ∃ bn : Nat, bound = (bn : Int) := ⟨bound.toNat, by omega⟩
  rw [Int.toNat_natCast] at htk
  obtain ⟨k, rfl, hk0, hk5, hhk⟩ := holds_pos ha0
  have hbm : blocksN (holdsI F.D.size k) bn ≤ 100000000 := Nat.le_trans (blocks_le _ _) (by omega)
  have HS := Lib.hid (shape_any h k)
  have HBL : Hid (∀ W, Calls Try.prog 48 #[.agg #[.int .i64 k, .int .i64 (holdsI F.D.size k : Nat)], .int .i64 bn] W fun e w' => e = .returned (.int .i64 (blocksN (holdsI F.D.size k) bn : Nat)) ∧ Below W.heap.size W w') := fun W => blks_any k (holdsI F.D.size k) bn W (by omega) hh254 (by omega)
  have HTK : Hid (∀ W, Below w.heap.size w W → Calls Try.prog 57 #[.pointer (some ⟨p.w, 0, none⟩), .int .i64 (blocksN (holdsI F.D.size k) bn : Nat)] W fun e w' => e = .returned (.tuple #[.agg #[.int .i64 a, .int .i64 (blocksN (holdsI F.D.size k) bn : Nat)], .int .i64 0]) ∧ SysTo W G p { F with S := S1 } n w' ∧ ∀ g t cs, Row W g t cs → ¬ G g → Row w' g t cs) := fun W hb => by
    have h1 := ftake_any (h.below hb) (blocksN (holdsI F.D.size k) bn) hbm
    rw [htk] at h1
    exact h1.mono fun e w' ⟨he, h2⟩ => ⟨he, h2, fun g t cs hr hg => h2.row hr hg⟩
  have HNG : Hid (∀ k, w.heap.size ≤ k → ¬ G k) := fun k hk hg => by have := h.lt hg; omega
  simp only [Int.toNat_natCast]
  obtain ⟨F1, hF1⟩ : ∃ F1 : Fs, F1 = { F with S := S1 } := ⟨_, rfl⟩
  rw [← hF1] at HTK
  obtain ⟨size, hsize⟩ : ∃ size, size = F.D.size := ⟨_, rfl⟩
  have HGR : Hid (∀ W G', Sys W G' p F1 n → Calls Try.prog 49 #[.pointer (some ⟨p.a, 0, none⟩), .int .i64 size] W.drew fun e w' => ∃ b g, e = .returned (.tuple #[.pointer (some ⟨b, 0, none⟩), .int .i64 0]) ∧
      (∃ G'', Sys w' G'' p { F with S := S1, A := grant F.A b F.D.size } n ∧ Far G' W w' ∧ (∀ k, G'' k → G' k ∨ W.heap.size ≤ k) ∧ ¬ G'' b ∧ ¬ G'' g) ∧ Row w' b 130 [.slice (some ⟨g, 0, none⟩) size size] ∧ Row w' g 69 ((List.replicate size 0).map vw) ∧ W.heap.size ≤ b ∧ W.heap.size ≤ g) := fun W G' hs => by
    refine (sys_grant (hs.below (below_drew (Below.refl _ _))) size (by rw [hF1, hsize]; exact hroom) (by omega)).mono ?_
    rintro e w' ⟨b, g, he, ⟨G'', h1, h2, h3, h4⟩, h5⟩
    rw [hF1, hsize] at h1
    exact ⟨b, g, he, ⟨G'', h1, ⟨h2.os, h2.tape, h2.output, h2.size, h2.block⟩, h3, h4⟩, h5⟩
  have HSQ : Hid (∀ W G', Sys W G' p F1 n → Calls Try.prog 50 #[.pointer (some ⟨p.d, 0, none⟩)] W.drew fun e w'' => e = .returned (.int .i64 (size : Int)) ∧ w'' = W.drew) := fun W G' hs => by
    have h1 := (hs.below (below_drew (Below.refl _ _))).dsize_any
    rw [hF1] at h1
    rw [hsize]; exact h1
  have HNEW : Hid (∀ w6 w7 b g G'', Sys w6 G'' p { F with S := S1, A := grant F.A b F.D.size } n → Far G w w6 → (∀ k, G'' k → G k ∨ w.heap.size ≤ k) → ¬ G'' b → ¬ G'' g → Row w6 b 130 [.slice (some ⟨g, 0, none⟩) size size] → Row w6 g 69 ((List.replicate size 0).map vw) → w.heap.size ≤ b → w.heap.size ≤ g →
      w7 = w6.alloc (.cells #[.int .i64 k, .int .i64 (holdsI F.D.size k : Nat), .pointer (some ⟨p.w, 0, none⟩), .int .i64 bn, .int .i64 0, .int .i64 a, .int .i64 (blocksN (holdsI F.D.size k) bn : Nat), .pointer (some ⟨b, 0, none⟩)] 136) →
      NewW w G p F n S1 ⟨k, holdsI F.D.size k, bn, a, blocksN (holdsI F.D.size k) bn, b, g, []⟩ w6.heap.size w7) := by
    intro w6 w7 b g G'' k1 k2 k3 k4 k5 k6 k7 k8 k9 e7
    subst e7
    have hb := (Below.refl w6.heap.size w6).alloc (Nat.le_refl _) (.cells #[.int .i64 k, .int .i64 (holdsI F.D.size k : Nat), .pointer (some ⟨p.w, 0, none⟩), .int .i64 bn, .int .i64 0, .int .i64 a, .int .i64 (blocksN (holdsI F.D.size k) bn : Nat), .pointer (some ⟨b, 0, none⟩)] 136)
    refine ⟨k2.size, k8, k9, G'', k1.below hb, ⟨List.replicate size 0, ⟨heap_alloc_new _ _, by have k6' := k6.below hb k6.lt; rw [hsize] at k6'; exact k6', k7.below hb k7.lt, by rw [← hsize]; simp, ?_⟩, held_nil _ _ _⟩, ⟨fun hg => by have := k1.lt hg; omega, k4, k5⟩, k2.trans (Far.of_below hb fun _ => False) fun _ hf => hf.elim, k3⟩
    intro y hy
    rw [List.mem_replicate] at hy; omega
  have g0 : (((holdsI F.D.size (k : Int) : Nat) : Int) == 0) = false := by simpa using ha0
  have g1 : decide ((bn : Int) < 0) = false := by simp
  have g2 : decide ((bn : Int) > 100000000) = false := by simp; omega
  have HPOST : Hid (∀ w7 x b g, NewW w G p F n S1 ⟨k, holdsI F.D.size k, bn, a, blocksN (holdsI F.D.size k) bn, b, g, []⟩ x w7 → WriteOk w G p F n S1 a k (holdsI F.D.size k) bn (blocksN (holdsI F.D.size k) bn) (.returned (.tuple #[.pointer (some ⟨x, 0, none⟩), .int .i64 0])) w7) := fun w7 x b g h1 => ⟨x, b, g, rfl, h1⟩
  clear hF1 hsize htk h ha0 hab0 hhk hh254 hroom
  generalize WriteOk w G p F n S1 a k (holdsI F.D.size k) bn (blocksN (holdsI F.D.size k) bn) = POST at *
  generalize blocksN (holdsI F.D.size k) bn = nb at *
  generalize holdsI F.D.size k = hh at *
  go_enter Try.func34, Try.ntmps34
  go_wp2_with fail
  refine HS.out.mono ?_; rintro e w1 ⟨rfl, hb1⟩
  have hb2 := hb1.alloc hb1.size (.cells #[.int .i64 k, .int .i64 hh] 120)
  have hr2 : Row (w1.alloc (.cells #[.int .i64 k, .int .i64 hh] 120)) w1.heap.size 120 [.int .i64 k, .int .i64 hh] := heap_alloc_new _ _
  have hl1 := hb1.size
  clear hb1
  go_wp2_with fail
  refine (HBL.out _).mono ?_; rintro e w3 ⟨rfl, hb3⟩
  have hr3 := hr2.below hb3 hr2.lt
  have hb3' := hb2.trans (hb3.mono hb2.size)
  have HR3 := Lib.hid hr3
  have HB3 := Lib.hid hb3'
  have HL1 := Lib.hid hl1
  clear hb2 hr2 hb3 hr3 hb3' hl1
  go_wp2_with fail
  refine (HTK.out _ HB3.out).mono ?_; rintro e w4 ⟨rfl, h4, hk4⟩
  have hr4 := hk4 _ _ _ HR3.out (HNG.out _ HL1.out)
  obtain ⟨G', k1, k2', k3'⟩ := h4
  have hsb : ¬ G' w1.heap.size := fun hg => (k3' _ hg).elim (HNG.out _ HL1.out) fun h => by have := HR3.out.lt; omega
  have k2 : Far G w w4 := (Far.of_below HB3.out G).trans k2' fun b hb => .inl hb
  have k3 : ∀ k, G' k → G k ∨ w.heap.size ≤ k := fun k hk => (k3' k hk).imp id fun h => Nat.le_trans HB3.out.size h
  clear k2' k3'
  have hb5 := (Below.refl w4.heap.size w4).alloc (Nat.le_refl _) (.cells #[.int .i64 a, .int .i64 nb] 98)
  have hr5 := hr4.below hb5 hr4.lt
  have hre5 : Row (w4.alloc (.cells #[.int .i64 a, .int .i64 nb] 98)) w4.heap.size 98 [.int .i64 a, .int .i64 nb] := heap_alloc_new _ _
  have k5 := k1.below hb5
  have hw4 := k2.size
  go_wp2
  have HE5 := Lib.hid hre5
  have HR5 := Lib.hid hr5
  have HB5 := Lib.hid hb5
  generalize w4.alloc (.cells #[.int .i64 a, .int .i64 nb] 98) = w5 at *
  have Q1 := Lib.hid (HGR.out w5 G' k5)
  have Q2 := Lib.hid (HSQ.out w5 G' k5)
  have HF5 : Hid (Far G w w5) := k2.trans (Far.of_below hb5 fun _ => False) fun _ hf => hf.elim
  have HG5 := Lib.hid k3
  have c0 : w5.drew.cell? ⟨p.w, 0, none⟩ = some (.pointer (some ⟨p.d, 0, none⟩)) := k5.row.cell 0
  have c1 : w5.drew.cell? ⟨p.w, 1, none⟩ = some (.pointer (some ⟨p.a, 0, none⟩)) := k5.row.cell 1
  have HCL : Hid (∀ W G'' F2, Sys W G'' p F2 n → W.cell? ⟨p.w, 0, none⟩ = some (.pointer (some ⟨p.d, 0, none⟩)) ∧ W.cell? ⟨p.w, 1, none⟩ = some (.pointer (some ⟨p.a, 0, none⟩))) := fun W G'' F2 hs => ⟨hs.row.cell 0, hs.row.cell 1⟩
  have HNE : Hid (¬ G' w4.heap.size) := fun hg => by have := k1.lt hg; omega
  have HSB := Lib.hid hsb
  clear k1 k2 k3 k5 hb5 hr5 hre5 hr4 hk4 HBL HTK HS HGR HSQ HR3 HB3 hsb
  go_region_held3 (fun w' => w'.cell? ⟨p.w, 0, none⟩ = some (.pointer (some ⟨p.d, 0, none⟩)) ∧ w'.cell? ⟨p.w, 1, none⟩ = some (.pointer (some ⟨p.a, 0, none⟩))) (first | with_reducible exact ⟨c0, c1⟩ | with_reducible exact d1)
    (first
      | (go_at_call 50; (with_reducible refine Q2.out.mono ?_); rintro e w8 ⟨rfl, rfl⟩)
      | (go_at_call 49; (with_reducible refine Q1.out.mono ?_); rintro e w6 ⟨b, g, rfl, ⟨G6, k1, k2, k3, k4, k5⟩, k6, k7, k8, k9⟩; have d1 := HCL.out _ _ _ k1))
  have hs6 := k2.row HE5.out HNE.out
  have hs7 := k2.row HR5.out HSB.out
  have e0 : w6.cell? ⟨w4.heap.size, 0, none⟩ = some (.int .i64 a) := hs6.cell 0
  have e1 : w6.cell? ⟨w4.heap.size, 1, none⟩ = some (.int .i64 nb) := hs6.cell 1
  have e2 : w6.cell? ⟨w1.heap.size, 0, none⟩ = some (.int .i64 k) := hs7.cell 0
  have e3 : w6.cell? ⟨w1.heap.size, 1, none⟩ = some (.int .i64 hh) := hs7.cell 1
  have HN := Lib.hid (HNEW.out w6 _ b g G6 k1 (HF5.out.trans k2 HG5.out) (fun k hk => (k3 k hk).elim (fun h => HG5.out k h) fun h => .inr (Nat.le_trans HF5.out.size h)) k4 k5 k6 k7 (Nat.le_trans HF5.out.size k8) (Nat.le_trans HF5.out.size k9) rfl)
  clear k1 k2 k3 k4 k5 k6 k7 k8 k9 hs6 hs7 Q1 Q2 HNEW HE5 HR5 HB5 HF5 HG5 HCL HNE HSB d1 c0 c1
  go_wp2
  exact HPOST.out _ _ b g HN.out

/-- what Write answers, and leaves -/
def WriteTo (w : World) (G : Nat → Prop) (p : Wp) (F : Fs) (n : Nat) (width bound : Int) (e : Ending) (w' : World) : Prop :=
  (∃ er, e = .returned (.tuple #[.pointer none, .int .i64 er]) ∧ WErr F width bound er ∧ SysTo w G p F n w') ∨
  (∃ x t S', e = .returned (.tuple #[.pointer (some ⟨x, 0, none⟩), .int .i64 0]) ∧ WArgs F width bound ∧ F.D.size ≤ F.A.room - F.A.used ∧ (t.k : Int) = width ∧ (t.bound : Int) = bound ∧ t.h = holdsI F.D.size width ∧ t.l = [] ∧ t.blocks = blocksN t.h t.bound ∧ Taken F.S S' t.first t.blocks ∧ WtOk t F.D.size ∧ NewW w G p F n S' t x w')
theorem fwrite_any {w : World} {G : Nat → Prop} {p : Wp} {F : Fs} {n : Nat} (h : Sys w G p F n) (width bound : Int) : Calls Try.prog 34 #[.pointer (some ⟨p.w, 0, none⟩), .int .i64 width, .int .i64 bound] w (WriteTo w G p F n width bound) := by
  by_cases ha : WArgs F width bound
  · obtain ⟨ha0, hab0, hab1⟩ := id ha
    obtain ⟨k, hk, hk0, hk5, hhk⟩ := holds_pos ha0
    have hsz := h.size
    have hsok := h.sok
    have hh254 : holdsI F.D.size width ≤ 254 := Nat.le_trans (holds_le _ _) (by omega)
    rcases takeN_spec h.sok (blocksN (holdsI F.D.size width) bound.toNat) with ⟨S1, a, e, ht, hg, hal⟩ | ⟨e, hm, hno⟩
    · by_cases hr : F.D.size ≤ F.A.room - F.A.used
      · refine (fwrite_ok h width bound ha S1 a e hr).mono ?_
        rintro e w' ⟨x, b, g, he, hN⟩
        refine .inr ⟨x, ⟨width.toNat, holdsI F.D.size width, bound.toNat, a, blocksN (holdsI F.D.size width) bound.toNat, b, g, []⟩, S1, he, ha, hr, ?_, ?_, rfl, rfl, rfl, ht, ⟨⟨?_, ?_⟩, ⟨by show 0 < holdsI F.D.size width; omega, ?_, hh254⟩, hsz, ⟨?_, Nat.zero_le _⟩, ⟨rfl, by show blocksN (holdsI F.D.size width) bound.toNat ≤ 2000000; omega⟩, by show a ≤ 2000000; omega⟩, hN⟩
        · show ((width.toNat : Nat) : Int) = width; omega
        · show ((bound.toNat : Nat) : Int) = bound; omega
        · show 0 < width.toNat; omega
        · show width.toNat ≤ 5; omega
        · show holdsI F.D.size width * width.toNat ≤ F.D.size - 2
          rw [hk] at hhk ⊢; rw [Int.toNat_natCast]; exact hhk
        · show bound.toNat ≤ 100000000; omega
      · exact (fwrite_room h width bound ha S1 a e hg (by omega) (by omega)).mono fun e w' ⟨he, h1⟩ => .inl ⟨7, he, .inr (.inl ⟨rfl, ha, by omega⟩), h1⟩
    · refine (fwrite_none h width bound ha e (decide (F.A.room - F.A.used < F.D.size)) rfl).mono ?_
      rintro e w' ⟨he, h1⟩
      by_cases hr : F.A.room - F.A.used < F.D.size
      · rw [decide_eq_true hr, if_pos rfl] at he
        exact .inl ⟨7, he, .inr (.inl ⟨rfl, ha, hr⟩), h1⟩
      · rw [decide_eq_false hr, if_neg (by decide)] at he
        exact .inl ⟨5, he, .inr (.inr ⟨rfl, ha, by omega, hm, hno⟩), h1⟩
  · exact (fwrite_bad h width bound ha).mono fun e w' ⟨he, hb⟩ => .inl ⟨1, he, .inl ⟨rfl, ha⟩, SysTo.of_below h hb⟩
end Go.Proofs.Ytbkgpilmgllkiaa
