/- The reference's name, small, Formed and Slot. -/
import Derived.Test.YthdibijkiogpjaaManBack
namespace Go.Proofs.Ythdibijkiogpjaa
open Go.ChangeShapes Go.WideShapes Go.ChangeAt Go.RowKit

theorem bless_total : ∀ a b : List UInt8, (Op.bytesLess a b || a == b) = !Op.bytesLess b a
  | [], [] => rfl
  | [], _ :: _ => rfl
  | _ :: _, [] => rfl
  | x :: a, y :: b => by
    have ih := bless_total a b
    unfold Op.bytesLess
    rw [List.cons_beq_cons]
    by_cases h1 : x < y
    · have h2 : ¬ y < x := fun h => by have h1 := UInt8.lt_iff_toNat_lt.1 h1; have h := UInt8.lt_iff_toNat_lt.1 h; omega
      have h3 : ¬ y = x := fun h => by have h1 := UInt8.lt_iff_toNat_lt.1 h1; rw [h] at h1; omega
      simp [h1, h2, h3]
    · by_cases h2 : x = y
      · subst h2
        have h3 : ¬ x < x := fun h => by have h := UInt8.lt_iff_toNat_lt.1 h; omega
        simp only [h3, decide_false, Bool.false_or, beq_self_eq_true, Bool.true_and]
        exact ih
      · have h3 : y < x := UInt8.lt_iff_toNat_lt.2 (by
          have h1 : ¬ x.toNat < y.toNat := fun h => h1 (UInt8.lt_iff_toNat_lt.2 h)
          have h4 : x.toNat ≠ y.toNat := fun h => h2 (UInt8.toNat_inj.1 h)
          omega)
        have h4 : ¬ y = x := fun h => h2 h.symm
        simp [h1, h2, h3]

set_option maxRecDepth 100000 in
theorem rname_any (s : ByteArray) (w : World) (hs : s.size ≤ 9223372036854775807) : Calls Try.prog 24 #[.string s] w fun e w' => e = .returned (.bool (decide (NameP s))) ∧ w = w' := by
  have hb := get_nb s
  go_enter Try.func24, Try.ntmps24
  go_wp2
  go_loopw [3] (fun iv wr => ∃ i : Nat, i ≤ s.size ∧ iv = .int .i64 (i : Int) ∧ w = wr ∧ Hid (∀ k, k < i → CharP (nb s k))) (fun iv _ => s.size - (intOf iv).toNat)
  case atStart => exact ⟨0, by omega, rfl, by trivial, fun k hk => absurd hk (by omega)⟩
  case round =>
    obtain ⟨i, hi, rfl, rfl, HC⟩ := hrel
    by_cases hlt : i < s.size
    · have hj0 : (0 : Int) ≤ (i : Int) := by omega
      have hj1 : (i : Int) < (s.size : Int) := by omega
      obtain ⟨c, hc⟩ : ∃ c, c = nb s i := ⟨_, rfl⟩
      have hcl : c < 256 := by rw [hc]; exact nb_lt s i
      have HCC := Lib.hid hc
      by_cases hok : CharP c
      · have hok2 := hok
        unfold CharP at hok2
        have HC2 : Hid (∀ k, k < i + 1 → CharP (nb s k)) := by
          intro k hk
          by_cases e : k = i
          · subst e; rw [← HCC.out]; exact hok
          · exact HC.out k (by omega)
        go_wp2
        all_goals first
          | (exfalso; omega)
          | (go_roundw
             case rel => exact ⟨i + 1, by omega, by go_num, by trivial, HC2.out⟩
             case measure => simp [intOf]; omega)
      · have HNO : Hid (decide (NameP s) = false) := by
          unfold Hid
          rw [decide_eq_false_iff_not]
          intro h
          have := h.2 i hlt
          rw [← HCC.out] at this; exact hok this
        unfold CharP at hok
        go_wp2
        all_goals first
          | (exfalso; omega)
          | (go_ret; exact ⟨ret_bool HNO.out.symm, rfl⟩)
    · obtain rfl : i = s.size := by omega
      have HF : Hid ((decide ((s.size : Int) ≥ 1) && decide ((s.size : Int) ≤ 8)) = decide (NameP s)) := by
        unfold Hid
        rw [← Bool.decide_and, decide_eq_decide]
        exact ⟨fun h => ⟨⟨by omega, by omega⟩, HC.out⟩, fun h => ⟨by have := h.1.1; omega, by have := h.1.2; omega⟩⟩
      by_cases g1 : s.size ≥ 1
      · have g1' : decide ((s.size : Int) ≥ 1) = true := by simp; omega
        rw [g1'] at HF
        go_wp2
        go_ret
        exact ⟨ret_bool HF.out, rfl⟩
      · have g1' : decide ((s.size : Int) ≥ 1) = false := by simp; omega
        rw [g1'] at HF
        go_wp2
        go_ret
        exact ⟨ret_bool HF.out, rfl⟩
set_option maxRecDepth 100000 in
theorem rsmall_any (x : Int) (w : World) : Calls Try.prog 25 #[.int .i64 x] w fun e w' => e = .returned (.bool (decide (SmP x))) ∧ w = w' := by
  have HX : Hid (decide (SmP x) = (decide (0 ≤ x) && decide (x ≤ 1099511627776))) := by
    unfold Hid; rw [← Bool.decide_and]; exact decide_eq_decide.2 Iff.rfl
  by_cases h1 : 0 ≤ x
  · have g1 : decide (x ≥ 0) = true := by simp; omega
    by_cases h2 : x ≤ 1099511627776
    · have g2 : decide (x ≤ 1099511627776) = true := by simp; omega
      go_enter Try.func25, Try.ntmps25
      go_wp2
      go_ret
      exact ⟨ret_bool (by rw [HX.out]; simp [h1, h2]), rfl⟩
    · have g2 : decide (x ≤ 1099511627776) = false := by simp; omega
      go_enter Try.func25, Try.ntmps25
      go_wp2
      go_ret
      exact ⟨ret_bool (by rw [HX.out]; simp [h2]), rfl⟩
  · have g1 : decide (x ≥ 0) = false := by simp; omega
    go_enter Try.func25, Try.ntmps25
    go_wp2
    go_ret
    exact ⟨ret_bool (by rw [HX.out, decide_eq_false (show ¬ 0 ≤ x by omega)]; rfl), rfl⟩
theorem slot_lt {p i : Nat} (hp : 0 < p) : i < (61 + p) / p ↔ i * p < 62 := by
  rw [← Nat.succ_le_iff, Nat.le_div_iff_mul_le hp, Nat.succ_mul]; omega
set_option maxRecDepth 100000 in
theorem rslot_any (size : Int) (w : World) : Calls Try.prog 13 #[.int .i64 size] w fun e w' => e = .returned (.int .i64 (if 8 ≤ size ∧ size ≤ 256 then (slotE size.toNat : Int) else 0)) ∧ w = w' := by
  by_cases h1 : size < 8
  · have g1 : decide (size < 8) = true := by simpa using h1
    rw [if_neg (by omega)]
    go_enter Try.func13, Try.ntmps13
    go_wp2
    go_ret
    exact ⟨rfl, rfl⟩
  · have g1 : decide (size < 8) = false := by simp; omega
    by_cases h2 : size > 256
    · have g2 : decide (size > 256) = true := by simpa using h2
      rw [if_neg (by omega)]
      go_enter Try.func13, Try.ntmps13
      go_wp2
      go_ret
      exact ⟨rfl, rfl⟩
    · have g2 : decide (size > 256) = false := by simp; omega
      rw [if_pos (by omega)]
      obtain ⟨p, hp⟩ : ∃ p : Nat, (p : Int) = size - 2 := ⟨(size - 2).toNat, by omega⟩
      have hs : size.toNat = p + 2 := by omega
      have HS : Hid (slotE size.toNat = (61 + p) / p) := by unfold Hid slotE; rw [hs]; rfl
      have hsz : size - 2 = (p : Int) := hp.symm
      have hb : 6 ≤ p ∧ p ≤ 254 := by omega
      have HLT : Hid (∀ i, i < (61 + p) / p ↔ i * p < 62) := fun i => slot_lt (by omega)
      have hql : (61 + p) / p ≤ 61 + p := Nat.div_le_self _ _
      rw [HS.out]
      clear hs hp HS
      generalize (61 + p) / p = q at *
      go_enter Try.func13, Try.ntmps13
      go_wp2
      go_loopw [3] (fun iv wr => ∃ i : Nat, i ≤ q ∧ iv = .int .i64 (i : Int) ∧ w = wr) (fun iv _ => q - (intOf iv).toNat)
      case atStart => exact ⟨0, by omega, rfl, by trivial⟩
      case round =>
        obtain ⟨i, hi, rfl, rfl⟩ := hrel
        obtain ⟨m, hm⟩ : ∃ m, m = i * p := ⟨_, rfl⟩
        have hmul : (i : Int) * (p : Int) = (m : Int) := by rw [hm, Int.natCast_mul]
        have hml : m ≤ 400 * 254 := by rw [hm]; exact Nat.mul_le_mul (by omega) hb.2
        by_cases hlt : i < q
        · have hmb : m < 62 := by rw [hm]; exact (HLT.out i).1 hlt
          have g0 : decide ((m : Int) < 62) = true := by simp; omega
          clear hm
          go_wp2
          go_roundw
          case rel => exact ⟨i + 1, by omega, by go_num, by trivial⟩
          case measure => simp [intOf]; omega
        · have hmb : ¬ m < 62 := by rw [hm]; exact fun h => hlt ((HLT.out i).2 h)
          have g0 : decide ((m : Int) < 62) = false := by simp; omega
          obtain rfl : i = q := by omega
          clear hm
          go_wp2
          go_ret
          exact ⟨rfl, rfl⟩

set_option maxHeartbeats 3200000 in
set_option maxRecDepth 100000 in
theorem rformed_any (a : Option Addr) (n c : Nat) (l : List Ent) (w : World) {B : Nat} (hl : ReadsN w B a n l) (hB : B ≤ w.heap.size) (hn : n ≤ maxLen) :
    Calls Try.prog 10 #[.slice a n c] w fun e w' => e = .returned (.bool (decide (FormedP l))) ∧ Below w.heap.size w w' := by
  have hlen := hl.1
  have HLEN := Lib.hid hlen
  have hn2 : n ≤ 9223372036854775807 := by unfold maxLen at hn; omega
  by_cases h12 : n ≤ 12
  · have g12 : decide ((n : Int) > 12) = false := by simp; omega
    have HB := Lib.hid hB
    have HL := Lib.hid hl
    clear hlen hl hB hn
    go_enter Try.func10, Try.ntmps10
    go_wp2
    go_loopw [3] (fun iv wr => ∃ i : Nat, i ≤ n ∧ iv = .int .i64 (i : Int) ∧ Hid (Below w.heap.size w wr) ∧ Hid (∀ k, k < i → EntP (l.getD k ent0) ∧ (0 < k → lessN (l.getD (k - 1) ent0).nm (l.getD k ent0).nm = true))) (fun iv _ => n - (intOf iv).toNat)
    case atStart => exact ⟨0, by omega, rfl, Below.refl _ _, fun k hk => absurd hk (by omega)⟩
    case round =>
      obtain ⟨i, hi, rfl, HBW, HC⟩ := hrel
      by_cases hlt : i < n
      · have hj0 : (0 : Int) ≤ (i : Int) := by omega
        have hj1 : (i : Int) < (n : Int) := by omega
        have hlw := HL.out.keep (HBW.out.mono HB.out)
        have hszw := HBW.out.size
        obtain ⟨b, off, e, rfl, hb, d0, d1, d2, d3, d4, hok, HE⟩ := hlw.at_ hlt
        obtain ⟨nm, fi, bl, wi, co⟩ := e
        simp only at d0 d1 d2 d3 d4
        have hnm : nm.size ≤ 9223372036854775807 := by have := hok.2; unfold maxLen at this; simpa using this
        have hbw : b < wr.heap.size := by have := HB.out; omega
        have hr : Row (wr.alloc (.cells #[.string nm, .int .i64 fi, .int .i64 bl, .int .i64 wi, .int .i64 co] 55)) wr.heap.size 55 [.string nm, .int .i64 fi, .int .i64 bl, .int .i64 wi, .int .i64 co] := heap_alloc_new _ _
        have hb2 : Below wr.heap.size wr (wr.alloc (.cells #[.string nm, .int .i64 fi, .int .i64 bl, .int .i64 wi, .int .i64 co] 55)) := (Below.refl _ wr).alloc (Nat.le_refl _) _
        have HB3 := Lib.hid (HBW.out.trans (hb2.mono hszw))
        have k0 : ∀ q, ((wr.alloc (.cells #[.string nm, .int .i64 fi, .int .i64 bl, .int .i64 wi, .int .i64 co] 55)).drewN q).cell? ⟨wr.heap.size, 0, none⟩ = some (.string nm) := fun _ => hr.cell 0
        have k1 : ∀ q, ((wr.alloc (.cells #[.string nm, .int .i64 fi, .int .i64 bl, .int .i64 wi, .int .i64 co] 55)).drewN q).cell? ⟨wr.heap.size, 1, none⟩ = some (.int .i64 fi) := fun _ => hr.cell 1
        have k2 : ∀ q, ((wr.alloc (.cells #[.string nm, .int .i64 fi, .int .i64 bl, .int .i64 wi, .int .i64 co] 55)).drewN q).cell? ⟨wr.heap.size, 2, none⟩ = some (.int .i64 bl) := fun _ => hr.cell 2
        have k3 : ∀ q, ((wr.alloc (.cells #[.string nm, .int .i64 fi, .int .i64 bl, .int .i64 wi, .int .i64 co] 55)).drewN q).cell? ⟨wr.heap.size, 3, none⟩ = some (.int .i64 wi) := fun _ => hr.cell 3
        have k4 : ∀ q, ((wr.alloc (.cells #[.string nm, .int .i64 fi, .int .i64 bl, .int .i64 wi, .int .i64 co] 55)).drewN q).cell? ⟨wr.heap.size, 4, none⟩ = some (.int .i64 co) := fun _ => hr.cell 4
        have Q0 : Hid (∀ q, Calls Try.prog 24 #[.string nm] ((wr.alloc (.cells #[.string nm, .int .i64 fi, .int .i64 bl, .int .i64 wi, .int .i64 co] 55)).drewN q) fun e w' => e = .returned (.bool (decide (NameP nm))) ∧ ∃ m, w' = (wr.alloc (.cells #[.string nm, .int .i64 fi, .int .i64 bl, .int .i64 wi, .int .i64 co] 55)).drewN m) := fun q => (rname_any nm _ hnm).mono fun e w' h => ⟨h.1, q, h.2.symm⟩
        have QS : Hid (∀ x q, Calls Try.prog 25 #[.int .i64 x] ((wr.alloc (.cells #[.string nm, .int .i64 fi, .int .i64 bl, .int .i64 wi, .int .i64 co] 55)).drewN q) fun e w' => e = .returned (.bool (decide (SmP x))) ∧ ∃ m, w' = (wr.alloc (.cells #[.string nm, .int .i64 fi, .int .i64 bl, .int .i64 wi, .int .i64 co] 55)).drewN m) := fun x q => (rsmall_any x _).mono fun e w' h => ⟨h.1, q, h.2.symm⟩
        have Q1 : Hid (∀ q, Calls Try.prog 25 #[.int .i64 fi] ((wr.alloc (.cells #[.string nm, .int .i64 fi, .int .i64 bl, .int .i64 wi, .int .i64 co] 55)).drewN q) fun e w' => e = .returned (.bool (decide (SmP fi))) ∧ ∃ m, w' = (wr.alloc (.cells #[.string nm, .int .i64 fi, .int .i64 bl, .int .i64 wi, .int .i64 co] 55)).drewN m) := fun q => QS.out fi q
        have Q2 : Hid (∀ q, Calls Try.prog 25 #[.int .i64 bl] ((wr.alloc (.cells #[.string nm, .int .i64 fi, .int .i64 bl, .int .i64 wi, .int .i64 co] 55)).drewN q) fun e w' => e = .returned (.bool (decide (SmP bl))) ∧ ∃ m, w' = (wr.alloc (.cells #[.string nm, .int .i64 fi, .int .i64 bl, .int .i64 wi, .int .i64 co] 55)).drewN m) := fun q => QS.out bl q
        have Q3 : Hid (∀ q, Calls Try.prog 25 #[.int .i64 wi] ((wr.alloc (.cells #[.string nm, .int .i64 fi, .int .i64 bl, .int .i64 wi, .int .i64 co] 55)).drewN q) fun e w' => e = .returned (.bool (decide (SmP wi))) ∧ ∃ m, w' = (wr.alloc (.cells #[.string nm, .int .i64 fi, .int .i64 bl, .int .i64 wi, .int .i64 co] 55)).drewN m) := fun q => QS.out wi q
        have Q4 : Hid (∀ q, Calls Try.prog 25 #[.int .i64 co] ((wr.alloc (.cells #[.string nm, .int .i64 fi, .int .i64 bl, .int .i64 wi, .int .i64 co] 55)).drewN q) fun e w' => e = .returned (.bool (decide (SmP co))) ∧ ∃ m, w' = (wr.alloc (.cells #[.string nm, .int .i64 fi, .int .i64 bl, .int .i64 wi, .int .i64 co] 55)).drewN m) := fun q => QS.out co q
        have HEP : Hid (EntP (l.getD i ent0) ↔ ((SmP fi ∧ SmP bl ∧ SmP wi ∧ SmP co) ∧ NameP nm)) := by unfold Hid; rw [HE.out]; exact Iff.rfl
        have HBAD : Hid (¬ EntP (l.getD i ent0) → decide (FormedP l) = false) := by
          intro h
          rw [decide_eq_false_iff_not]
          exact fun h2 => h (h2.2 i (by rw [HLEN.out]; exact hlt)).1
        clear hr hb2 QS
        by_cases h0 : NameP nm
        · rw [decide_eq_true h0] at Q0
          have H0 := Lib.hid h0
          clear h0
          by_cases h1 : SmP fi
          · rw [decide_eq_true h1] at Q1
            have H1 := Lib.hid h1
            clear h1
            by_cases h2 : SmP bl
            · rw [decide_eq_true h2] at Q2
              have H2 := Lib.hid h2
              clear h2
              by_cases h3 : SmP wi
              · rw [decide_eq_true h3] at Q3
                have H3 := Lib.hid h3
                clear h3
                by_cases h4 : SmP co
                · rw [decide_eq_true h4] at Q4
                  have H4 := Lib.hid h4
                  clear h4
                  have HOK : Hid (EntP (l.getD i ent0)) := HEP.out.2 ⟨⟨H1.out, H2.out, H3.out, H4.out⟩, H0.out⟩
                  by_cases hi0 : 0 < i
                  · obtain ⟨j, hj⟩ : ∃ j, j = i - 1 := ⟨_, rfl⟩
                    have hsub : (i : Int) - 1 = (j : Int) := by omega
                    have hb1 : j + 1 ≤ i ∧ i ≤ j + 1 := by omega
                    have hi0' : (0 : Int) ≤ (j : Int) := by omega
                    have hi1 : (j : Int) < (n : Int) := by omega
                    have HJ := Lib.hid hj
                    clear hj
                    obtain ⟨b', off', e', hA', _, p0, _, _, _, _, _, HP⟩ := hlw.at_ (show j < n by omega)
                    injection hA' with hA'
                    injection hA' with x1 x2
                    subst x1; subst x2
                    obtain ⟨pn, _, _, _, _⟩ := e'
                    simp only at p0
                    have kp : ∀ q, ((wr.alloc (.cells #[.string nm, .int .i64 fi, .int .i64 bl, .int .i64 wi, .int .i64 co] 55)).drewN q).cell? ⟨b, off + j * 5, none⟩ = some (.string pn) := fun _ => (((Below.refl _ wr).alloc (Nat.le_refl _) _).cell (p := ⟨b, off + j * 5, none⟩) hbw).trans p0
                    have g0 : decide ((i : Int) > 0) = true := by simp; omega
                    have HLT : Hid (lessN (l.getD (i - 1) ent0).nm (l.getD i ent0).nm = Op.bytesLess pn.toList nm.toList) := by
                      unfold Hid lessN; rw [← HJ.out, HP.out, HE.out]
                    have HTOT := Lib.hid (bless_total nm.toList pn.toList)
                    clear hlw HL p0
                    have HBAD2 : Hid (Op.bytesLess pn.toList nm.toList = false → decide (FormedP l) = false) := by
                      intro h
                      rw [decide_eq_false_iff_not]
                      intro h2
                      have h3 := (h2.2 i (by rw [HLEN.out]; exact hlt)).2 hi0
                      rw [HLT.out, h] at h3; cases h3
                    have HGOOD : Hid (Op.bytesLess pn.toList nm.toList = true → ∀ k, k < i + 1 → EntP (l.getD k ent0) ∧ (0 < k → lessN (l.getD (k - 1) ent0).nm (l.getD k ent0).nm = true)) := by
                      intro h k hk
                      by_cases e : k = i
                      · subst e; exact ⟨HOK.out, fun _ => by rw [HLT.out]; exact h⟩
                      · exact HC.out k (by omega)
                    generalize Op.bytesLess pn.toList nm.toList = z at *
                    cases hx1 : Op.bytesLess nm.toList pn.toList
                    · cases hx2 : (nm.toList == pn.toList)
                      · rw [hx1, hx2] at HTOT
                        obtain rfl : z = true := by have := HTOT.out; cases z <;> simp_all
                        have HC2 := Lib.hid (HGOOD.out rfl)
                        go_wp2
                        go_quiet (with_reducible first | exact Q0.out _ | exact Q1.out _ | exact Q2.out _ | exact Q3.out _ | exact Q4.out _)
                        go_wp2
                        go_roundw
                        case rel => exact ⟨i + 1, by omega, by go_num, below_drewN HB3.out _, HC2.out⟩
                        case measure => simp [intOf]; omega
                      · rw [hx1, hx2] at HTOT
                        obtain rfl : z = false := by have := HTOT.out; cases z <;> simp_all
                        have HNO := Lib.hid (HBAD2.out rfl)
                        go_wp2
                        go_quiet (with_reducible first | exact Q0.out _ | exact Q1.out _ | exact Q2.out _ | exact Q3.out _ | exact Q4.out _)
                        go_wp2
                        go_ret
                        exact ⟨ret_bool HNO.out.symm, below_drewN HB3.out _⟩
                    · rw [hx1] at HTOT
                      obtain rfl : z = false := by have := HTOT.out; cases z <;> simp_all
                      have HNO := Lib.hid (HBAD2.out rfl)
                      go_wp2
                      go_quiet (with_reducible first | exact Q0.out _ | exact Q1.out _ | exact Q2.out _ | exact Q3.out _ | exact Q4.out _)
                      go_wp2
                      go_ret
                      exact ⟨ret_bool HNO.out.symm, below_drewN HB3.out _⟩
                  · have g0 : decide ((i : Int) > 0) = false := by simp; omega
                    have HC2 : Hid (∀ k, k < i + 1 → EntP (l.getD k ent0) ∧ (0 < k → lessN (l.getD (k - 1) ent0).nm (l.getD k ent0).nm = true)) := by
                      intro k hk
                      by_cases e : k = i
                      · subst e; exact ⟨HOK.out, fun h => absurd h hi0⟩
                      · exact HC.out k (by omega)
                    clear hlw HL
                    go_wp2
                    go_quiet (with_reducible first | exact Q0.out _ | exact Q1.out _ | exact Q2.out _ | exact Q3.out _ | exact Q4.out _)
                    go_wp2
                    go_roundw
                    case rel => exact ⟨i + 1, by omega, by go_num, below_drewN HB3.out _, HC2.out⟩
                    case measure => simp [intOf]; omega
                · rw [decide_eq_false h4] at Q4
                  have HNO := Lib.hid (HBAD.out fun h => h4 (HEP.out.1 h).1.2.2.2)
                  clear h4 hlw HL
                  go_wp2
                  go_quiet (with_reducible first | exact Q0.out _ | exact Q1.out _ | exact Q2.out _ | exact Q3.out _ | exact Q4.out _)
                  go_wp2
                  go_ret
                  exact ⟨ret_bool HNO.out.symm, below_drewN HB3.out _⟩
              · rw [decide_eq_false h3] at Q3
                have HNO := Lib.hid (HBAD.out fun h => h3 (HEP.out.1 h).1.2.2.1)
                clear h3 hlw HL
                go_wp2
                go_quiet (with_reducible first | exact Q0.out _ | exact Q1.out _ | exact Q2.out _ | exact Q3.out _ | exact Q4.out _)
                go_wp2
                go_ret
                exact ⟨ret_bool HNO.out.symm, below_drewN HB3.out _⟩
            · rw [decide_eq_false h2] at Q2
              have HNO := Lib.hid (HBAD.out fun h => h2 (HEP.out.1 h).1.2.1)
              clear h2 hlw HL
              go_wp2
              go_quiet (with_reducible first | exact Q0.out _ | exact Q1.out _ | exact Q2.out _ | exact Q3.out _ | exact Q4.out _)
              go_wp2
              go_ret
              exact ⟨ret_bool HNO.out.symm, below_drewN HB3.out _⟩
          · rw [decide_eq_false h1] at Q1
            have HNO := Lib.hid (HBAD.out fun h => h1 (HEP.out.1 h).1.1)
            clear h1 hlw HL
            go_wp2
            go_quiet (with_reducible first | exact Q0.out _ | exact Q1.out _ | exact Q2.out _ | exact Q3.out _ | exact Q4.out _)
            go_wp2
            go_ret
            exact ⟨ret_bool HNO.out.symm, below_drewN HB3.out _⟩
        · rw [decide_eq_false h0] at Q0
          have HNO := Lib.hid (HBAD.out fun h => h0 (HEP.out.1 h).2)
          clear h0 hlw HL
          go_wp2
          go_quiet (with_reducible first | exact Q0.out _ | exact Q1.out _ | exact Q2.out _ | exact Q3.out _ | exact Q4.out _)
          go_wp2
          go_ret
          exact ⟨ret_bool HNO.out.symm, below_drewN HB3.out _⟩
      · obtain rfl : i = n := by omega
        have HF : Hid (decide (FormedP l) = true) := by
          unfold Hid
          rw [decide_eq_true_eq]
          exact ⟨by rw [HLEN.out]; exact h12, fun k hk => HC.out k (by rw [HLEN.out] at hk; exact hk)⟩
        go_wp2
        go_ret
        exact ⟨ret_bool HF.out.symm, HBW.out⟩
  · have g12 : decide ((n : Int) > 12) = true := by simp; omega
    have HF : Hid (decide (FormedP l) = false) := by
      unfold Hid
      rw [decide_eq_false_iff_not]
      rintro ⟨h, _⟩
      rw [hlen] at h; exact h12 h
    clear hlen hl hB hn
    go_enter Try.func10, Try.ntmps10
    go_wp2
    go_ret
    exact ⟨ret_bool HF.out.symm, Below.refl _ _⟩
end Go.Proofs.Ythdibijkiogpjaa
