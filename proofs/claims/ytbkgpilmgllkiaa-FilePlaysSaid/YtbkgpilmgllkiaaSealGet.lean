/- What seal.Get answers: the payload in a row of its own, and the tag; or ErrFault; or ErrArg. -/
import Derived.Test.YtbkgpilmgllkiaaSealPut
namespace Go.Proofs.Ytbkgpilmgllkiaa
open Go.ChangeShapes Go.WideShapes Go.ChangeAt Go.RowKit

set_option maxHeartbeats 1600000 in
set_option maxRecDepth 100000 in
theorem get_arg (a : Option Addr) (n c : Nat) (ad : Int) (w : World) (h : mayW n ad = false) :
    Calls Try.prog 74 #[.slice a n c, .int .i64 ad] w fun e w' => e = .returned (.tuple #[.slice none 0 0, .int .u64 0, .int .i64 1]) ∧ w = w' := by
  have HM := fun w => may_any n ad w
  rw [h] at HM
  have HM := Lib.hid HM
  clear h
  go_enter Try.func74, Try.ntmps74
  go_wp2_with fail
  refine (HM.out _).mono ?_; rintro e w1 ⟨rfl, rfl⟩
  go_wp2
  go_ret3
  exact ⟨rfl, rfl⟩

theorem Reads.mid {k : IntKind} {w : World} {B b off n i m : Nat} {l : List Nat} (h : Reads k w B (some ⟨b, off, none⟩) n l) (him : i + m ≤ n) : Reads k w B (some ⟨b, off + i, none⟩) m ((l.drop i).take m) := by
  obtain ⟨h1, h2, h3⟩ := h
  refine ⟨by rw [List.length_take, List.length_drop]; omega, fun x hx => h2 x (List.mem_of_mem_drop (List.mem_of_mem_take hx)), fun hp => ?_⟩
  obtain ⟨b', off', e, hb, hc⟩ := h3 (by omega)
  injection e with e; injection e with e1 e2; subst e1; subst e2
  refine ⟨b, off + i, rfl, hb, fun j hj => ?_⟩
  rw [Nat.add_assoc, hc (i + j) (by omega)]
  congr 3
  rw [List.getD_eq_getElem?_getD, List.getD_eq_getElem?_getD, List.getElem?_take, if_pos hj, List.getElem?_drop]

set_option maxHeartbeats 3200000 in
set_option maxRecDepth 100000 in
theorem get_may (a : Option Addr) (n c ad : Nat) (l : List Nat) (w : World) {B : Nat} (hl : Reads .u64 w B a n l) (hB : B ≤ w.heap.size) (hc : n ≤ c) (h8 : 8 ≤ n) (h256 : n ≤ 256) (had : ad ≤ 9223372036854775807) :
    Calls Try.prog 74 #[.slice a n c, .int .i64 ad] w fun e w' => (okW l ad = false ∧ e = .returned (.tuple #[.slice none 0 0, .int .u64 0, .int .i64 6]) ∧ Below w.heap.size w w') ∨
      (okW l ad = true ∧ ∃ v, e = .returned (.tuple #[v, .int .u64 (tagW l), .int .i64 0]) ∧ w'.ownsRow w.heap.size 69 1 v (numW l - 1) ((l.take (numW l - 1)).map vw) ∧ Below w.heap.size w w') := by
  obtain ⟨i0, hi, hz0, hz1, hz2⟩ := info_parts infoW
  have hlen := hl.1
  have HM : Hid (∀ w, Calls Try.prog 82 #[.int .i64 n, .int .i64 ad] w fun e w' => e = .returned (.bool true) ∧ w = w') := fun w => by
    have h := may_any n ad w
    have e : mayW n ad = true := by unfold mayW; simp; omega
    rwa [e] at h
  obtain ⟨b, o, rfl, hbB, hcell⟩ := hl.2.2 (by omega)
  obtain ⟨s1, hs1⟩ : ∃ s1, s1 = n - 1 := ⟨_, rfl⟩
  obtain ⟨s2, hs2⟩ : ∃ s2, s2 = n - 2 := ⟨_, rfl⟩
  obtain ⟨num, hnum⟩ : ∃ num, num = numW l := ⟨_, rfl⟩
  obtain ⟨tag, htag⟩ : ∃ tag, tag = tagW l := ⟨_, rfl⟩
  obtain ⟨z, hz⟩ : ∃ z, z = l.getD s1 0 := ⟨_, rfl⟩
  have c1 : w.cell? ⟨b, o + s1, none⟩ = some (.int .u64 (z : Nat)) := by rw [hz]; exact hcell s1 (by omega)
  have c2 : w.cell? ⟨b, o + s2, none⟩ = some (.int .u64 (tag : Nat)) := by
    rw [htag]; unfold tagW; rw [hlen, ← hs2]; exact hcell s2 (by omega)
  have hnz : num = z / 4294967296 := by rw [hnum, hz]; unfold numW; rw [hlen, hs1]
  have hzlt : z < 18446744073709551616 := by
    rw [hz]; exact u64_lt (hl.2.1 _ (by rw [List.getD_eq_getElem?_getD, List.getElem?_eq_getElem (by omega)]; exact List.getElem_mem _))
  have hdiv : (z : Int) / 4294967296 = (num : Int) := by omega
  have hnlt : num < 4294967296 := by omega
  have b1 : s1 + 1 ≤ n ∧ n ≤ s1 + 1 := by omega
  have b2 : s2 + 2 ≤ n ∧ n ≤ s2 + 2 := by omega
  have hsub1 : (n : Int) - 1 = (s1 : Int) := by omega
  have hsub2 : (n : Int) - 2 = (s2 : Int) := by omega
  have i10 : (0 : Int) ≤ (s1 : Int) := by omega
  have i11 : (s1 : Int) < (n : Int) := by omega
  have i20 : (0 : Int) ≤ (s2 : Int) := by omega
  have i21 : (s2 : Int) < (n : Int) := by omega
  have HL := Lib.hid hl
  have HLL := Lib.hid hlen
  have HB := Lib.hid hB
  rw [← htag]
  rw [← hnum]
  have HNUM := Lib.hid hnum
  have HZ := Lib.hid hz
  have HS1 := Lib.hid hs1
  have HS2 := Lib.hid hs2
  clear hcell hlen hl hs1 hs2 hnum htag hz hnz
  by_cases h1 : num < 1
  · have HNO : Hid (okW l ad = false) := by
      unfold Hid okW; rw [← HNUM.out]; simp; omega
    have g1 : decide ((num : Int) < 1) = true := by simp; omega
    go_enter Try.func74, Try.ntmps74
    go_wp2_with fail
    refine (HM.out _).mono ?_; rintro e w1 ⟨rfl, rfl⟩
    go_wp2
    go_ret3
    exact .inl ⟨HNO.out, rfl, Below.refl _ _⟩
  have g1 : decide ((num : Int) < 1) = false := by simp; omega
  by_cases h2 : s1 < num
  · have HNO : Hid (okW l ad = false) := by
      unfold Hid okW; rw [← HNUM.out, HLL.out, ← HS1.out]; simp; omega
    have g2 : decide ((num : Int) > (s1 : Int)) = true := by simp; omega
    go_enter Try.func74, Try.ntmps74
    go_wp2_with fail
    refine (HM.out _).mono ?_; rintro e w1 ⟨rfl, rfl⟩
    go_wp2
    go_ret3
    exact .inl ⟨HNO.out, rfl, Below.refl _ _⟩
  have g2 : decide ((num : Int) > (s1 : Int)) = false := by simp; omega
  obtain ⟨p, hp⟩ : ∃ p, p = num - 1 := ⟨_, rfl⟩
  obtain ⟨m, hm⟩ : ∃ m, m = s2 - p := ⟨_, rfl⟩
  obtain ⟨cp, hcp⟩ : ∃ cp, cp = c - p := ⟨_, rfl⟩
  have bp : p + 1 ≤ num ∧ num ≤ p + 1 := by omega
  have bm : p + m ≤ s2 ∧ s2 ≤ p + m := by omega
  have hsubp : (num : Int) - 1 = (p : Int) := by omega
  have HIFF : Hid (okW l ad = true ↔ zeroW ((l.drop p).take m) = true ∧ z = lastW (l.take s1) num ad) := by
    have h := ok_iff (ad := ad) HLL.out (by omega) (show 1 ≤ numW l by rw [← HNUM.out]; omega) (by rw [← HNUM.out]; omega)
    rw [← HNUM.out, ← hp, ← HS2.out, ← HS1.out, ← hm, ← HZ.out] at h
    unfold Hid zeroW
    rw [decide_eq_true_eq]; exact h
  have k1 := fun W => run_head (P := Try.prog) W 71 69 i0 Try.underlying71 hi (some ⟨b, o, none⟩) n c p (by omega) .u64 (p : Int) rfl
  have k2 := fun W => run_cut (P := Try.prog) W 71 69 i0 Try.underlying71 hi hz1 b o n c p s2 (by omega) (by omega) (by omega) .u64 .i64 (p : Int) (s2 : Int) rfl rfl
  have k3 := fun W => run_head (P := Try.prog) W 71 69 i0 Try.underlying71 hi (some ⟨b, o, none⟩) n c s1 (by omega) .i64 (s1 : Int) rfl
  rw [← hm, ← hcp] at k2
  have HZR := Lib.hid (HL.out.mid (i := p) (m := m) (by omega))
  have HFR := Lib.hid (HL.out.take (m := s1) (by omega))
  have HPR := Lib.hid (HL.out.take (m := p) (by omega))
  rw [← hp]
  have H1 : Hid (∀ r q, Calls Try.prog 83 #[.slice (some ⟨b, o + p, none⟩) m cp] (w.drewN (r + q)) fun e w' => e = .returned (.bool (zeroW ((l.drop p).take m))) ∧ ∃ j, w' = w.drewN (r + j)) := fun r q =>
    ((allz_any _ m cp _ _ (HZR.out.drewN (r + q)) (by omega)).mono fun _ _ h => ⟨h.1, q, h.2.symm⟩)
  have H2 : Hid (∀ r q, Calls Try.prog 84 #[.slice (some ⟨b, o, none⟩) s1 c, .int .u64 num, .int .i64 ad] (w.drewN (r + q)) fun e w' => e = .returned (.int .u64 (lastW (l.take s1) num ad)) ∧ ∃ j, w' = w.drewN (r + j)) := fun r q =>
    ((lastw_any _ s1 c _ num ad _ (HFR.out.drewN (r + q)) (by omega) hnlt had).mono fun _ _ h => ⟨h.1, q, h.2.symm⟩)
  generalize lastW (l.take s1) num ad = zz at *
  have c1' : ∀ q, (w.drewN q).cell? ⟨b, o + s1, none⟩ = some (.int .u64 (z : Nat)) := fun _ => c1
  clear hp hm hcp
  cases hzz : zeroW ((l.drop p).take m) with
  | false =>
    rw [hzz] at H1
    have HNO : Hid (okW l ad = false) := by
      unfold Hid
      rw [Bool.eq_false_iff]; intro h
      have := (HIFF.out.1 h).1
      rw [hzz] at this; cases this
    clear hzz HIFF
    go_enter Try.func74, Try.ntmps74
    go_wp2_with fail
    refine (HM.out _).mono ?_; rintro e w1 ⟨rfl, rfl⟩
    go_wp2
    go_quiet (fail)
    go_wp2
    go_quiet (with_reducible first | exact H1.out _ _ | exact H2.out _ _)
    go_wp2
    go_ret3
    exact .inl ⟨HNO.out, rfl, below_drewN (below_drewN (Below.refl _ _) _) _⟩
  | true =>
    rw [hzz] at H1
    by_cases he : z = zz
    · subst he
      have HYES : Hid (okW l ad = true) := HIFF.out.2 ⟨hzz, rfl⟩
      clear hzz HIFF
      have HCL : Hid (∀ q, Calls Try.prog 46 #[.slice (some ⟨b, o, none⟩) p c] (w.drewN q) fun e w' => ∃ v, e = .returned v ∧ w'.ownsRow w.heap.size 69 1 v p ((l.take p).map vw) ∧ Below w.heap.size w w') := fun q =>
        (wclone_any (some ⟨b, o, none⟩) p c (l.take p) (w.drewN q) (HPR.out.drewN q) (by simp) (by omega) HB.out).mono fun e w' ⟨v, h1, h2, h3⟩ => ⟨v, h1, h2, (below_drewN (Below.refl w.heap.size w) q).trans h3⟩
      have c2' : ∀ q, (w.drewN q).cell? ⟨b, o + s2, none⟩ = some (.int .u64 (tag : Nat)) := fun _ => c2
      go_enter Try.func74, Try.ntmps74
      go_wp2_with fail
      refine (HM.out _).mono ?_; rintro e w1 ⟨rfl, rfl⟩
      go_wp2
      go_quiet (fail)
      go_wp2
      go_quiet (with_reducible first | exact H1.out _ _ | exact H2.out _ _)
      go_wp2
      have hwr : IntKind.i64.wrap (s2 : Int) = (s2 : Int) := IntWalk.i64_in _ (by omega)
      go_region_held3 (fun w' => w'.cell? ⟨b, o + s2, none⟩ = some (.int .u64 (tag : Nat)))
        (first | exact c2 | exact e2) ((go_at_call 46; refine (HCL.out _).mono ?_; rintro e w2 ⟨v, rfl, ho3, hb3⟩; have e2 : w2.cell? ⟨b, o + s2, none⟩ = some (.int .u64 (tag : Nat)) := (hb3.cell (p := ⟨b, o + s2, none⟩) (Nat.lt_of_lt_of_le hbB HB.out)).trans c2))
      have HO := Lib.hid ho3
      have HB3 := Lib.hid hb3
      clear ho3 hb3
      go_wp2
      go_ret3
      exact .inr ⟨HYES.out, v, rfl, HO.out, HB3.out⟩
    · have HNO : Hid (okW l ad = false) := by
        unfold Hid
        rw [Bool.eq_false_iff]; intro h
        exact he (HIFF.out.1 h).2
      have g3 : ((z : Int) != (zz : Int)) = true := by simp; omega
      clear hzz HIFF
      go_enter Try.func74, Try.ntmps74
      go_wp2_with fail
      refine (HM.out _).mono ?_; rintro e w1 ⟨rfl, rfl⟩
      go_wp2
      go_quiet (fail)
      go_wp2
      go_quiet (with_reducible first | exact H1.out _ _ | exact H2.out _ _)
      go_wp2
      go_ret3
      exact .inl ⟨HNO.out, rfl, below_drewN (below_drewN (Below.refl _ _) _) _⟩
end Go.Proofs.Ytbkgpilmgllkiaa
