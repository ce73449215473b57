/- The small functions of the manifest: isGeneration, isName, Slot, nextOf, pack. -/
import Derived.Test.YthdibijkiogpjaaManMath
namespace Go.Proofs.Ythdibijkiogpjaa
open Go.ChangeShapes Go.WideShapes Go.ChangeAt Go.RowKit

set_option maxRecDepth 100000 in
theorem isgen_any (g : Nat) (w : World) : Calls Try.prog 35 #[.int .u64 g] w fun e w' => e = .returned (.bool (decide (GenP g))) ∧ w = w' := by
  have HX : Hid (decide (GenP g) = (decide (1 ≤ g) && decide (g ≤ 4611686018427387904))) := by
    unfold Hid; rw [← Bool.decide_and]; exact decide_eq_decide.2 Iff.rfl
  by_cases h1 : 1 ≤ g
  · have g1 : decide ((g : Int) ≥ 1) = true := by simp; omega
    by_cases h2 : g ≤ 4611686018427387904
    · have g2 : decide ((g : Int) ≤ 4611686018427387904) = true := by simp; omega
      go_enter Try.func35, Try.ntmps35
      go_wp2
      go_ret
      exact ⟨ret_bool (by rw [HX.out]; simp [h1, h2]), rfl⟩
    · have g2 : decide ((g : Int) ≤ 4611686018427387904) = false := by simp; omega
      go_enter Try.func35, Try.ntmps35
      go_wp2
      go_ret
      exact ⟨ret_bool (by rw [HX.out]; simp [h2]), rfl⟩
  · have g1 : decide ((g : Int) ≥ 1) = false := by simp; omega
    go_enter Try.func35, Try.ntmps35
    go_wp2
    go_ret
    exact ⟨ret_bool (by rw [HX.out]; simp [h1]), rfl⟩

set_option maxRecDepth 100000 in
theorem slot_any (size : Int) (w : World) : Calls Try.prog 12 #[.int .i64 size] w fun e w' => e = .returned (.int .i64 (if 8 ≤ size ∧ size ≤ 256 then (slotE size.toNat : Int) else 0)) ∧ w = w' := by
  by_cases h1 : size < 8
  · have g1 : decide (size < 8) = true := by simpa using h1
    rw [if_neg (by omega)]
    go_enter Try.func12, Try.ntmps12
    go_wp2
    go_ret
    exact ⟨rfl, rfl⟩
  · have g1 : decide (size < 8) = false := by simp; omega
    by_cases h2 : size > 256
    · have g2 : decide (size > 256) = true := by simpa using h2
      rw [if_neg (by omega)]
      go_enter Try.func12, Try.ntmps12
      go_wp2
      go_ret
      exact ⟨rfl, rfl⟩
    · have g2 : decide (size > 256) = false := by simp; omega
      rw [if_pos (by omega)]
      obtain ⟨p, hp⟩ : ∃ p : Nat, (p : Int) = size - 2 := ⟨(size - 2).toNat, by omega⟩
      have hs : size.toNat = p + 2 := by omega
      have HS : Hid (slotE size.toNat = (61 + p) / p) := by unfold Hid slotE; rw [hs]; rfl
      have hsz : size - 2 = (p : Int) := hp.symm
      have hb : 6 ≤ p ∧ p ≤ 254 := by omega
      have hq : Int.tdiv (62 + (p : Int) - 1) (p : Int) = (((61 + p) / p : Nat) : Int) := by
        rw [show (62 + (p : Int) - 1) = ((61 + p : Nat) : Int) by omega]; rfl
      have hp0 : ¬ ((p : Int) = 0) := by omega
      have hql : (61 + p) / p ≤ 61 + p := Nat.div_le_self _ _
      rw [HS.out]
      clear hs hp HS
      generalize (61 + p) / p = q at *
      go_enter Try.func12, Try.ntmps12
      go_wp2
      go_ret
      exact ⟨rfl, rfl⟩

set_option maxRecDepth 100000 in
theorem next_any9 (g h : Nat) (w : World) (hh : h ≤ 4611686018427387904) (hg : g ≤ 4611686018427387904) : Calls Try.prog 33 #[.int .u64 g, .int .u64 h] w fun e w' => e = .returned (.int .u64 (nextE g h : Nat)) ∧ w = w' := by
  have e1 : IntKind.u64.wrap ((h : Int) + 1) = ((h + 1 : Nat) : Int) := by rw [IntWalk.u64_in _ (by omega)]; omega
  have e2 : IntKind.u64.wrap (((h + 1 : Nat) : Int) + 1) = ((h + 2 : Nat) : Int) := by rw [IntWalk.u64_in _ (by omega)]; omega
  have HN : Hid (nextE g h = if 0 < g ∧ (h + 1) % 2 = g % 2 then h + 2 else h + 1) := rfl
  obtain ⟨n, hn⟩ : ∃ n : Nat, n = h + 1 := ⟨_, rfl⟩
  have hadd : (h : Int) + 1 = (n : Int) := by omega
  have bn : 1 ≤ n ∧ n ≤ 4611686018427387905 := by omega
  have bh : h + 1 ≤ n ∧ n ≤ h + 1 := by omega
  rw [← hn] at HN
  clear hn e1 e2 hh
  by_cases h0 : 0 < g
  · have g0 : decide ((g : Int) > 0) = true := by simp; omega
    by_cases h1 : n % 2 = g % 2
    · have g1 : (((n : Int) % 2) == ((g : Int) % 2)) = true := by simp; omega
      have g1' : (((n : Int).tmod 2) == ((g : Int).tmod 2)) = true := by
        rw [show (n : Int).tmod 2 = (n : Int) % 2 from rfl, show (g : Int).tmod 2 = (g : Int) % 2 from rfl]; exact g1
      go_enter Try.func33, Try.ntmps33
      go_wp2
      go_ret
      exact ⟨ret_int (by rw [HN.out, if_pos ⟨h0, h1⟩]; first | rfl | omega), rfl⟩
    · have g1 : (((n : Int) % 2) == ((g : Int) % 2)) = false := by simp; omega
      have g1' : (((n : Int).tmod 2) == ((g : Int).tmod 2)) = false := by
        rw [show (n : Int).tmod 2 = (n : Int) % 2 from rfl, show (g : Int).tmod 2 = (g : Int) % 2 from rfl]; exact g1
      go_enter Try.func33, Try.ntmps33
      go_wp2
      go_ret
      exact ⟨ret_int (by rw [HN.out, if_neg (fun h => h1 h.2)]; first | done | rfl | omega), rfl⟩
  · have g0 : decide ((g : Int) > 0) = false := by simp; omega
    go_enter Try.func33, Try.ntmps33
    go_wp2
    go_ret
    exact ⟨ret_int (by rw [HN.out, if_neg (fun h => h0 h.1)]; first | done | rfl | omega), rfl⟩

theorem ret_decide {p : Prop} [Decidable p] {b : Bool} (h : b = decide p) : Ending.returned (.bool b) = .returned (.bool (decide p)) := by rw [h]
set_option maxRecDepth 100000 in
theorem isname_any (s : ByteArray) (w : World) (hs : s.size ≤ 9223372036854775807) : Calls Try.prog 44 #[.string s] w fun e w' => e = .returned (.bool (decide (NameP s))) ∧ w = w' := by
  have hb := get_nb s
  go_enter Try.func44, Try.ntmps44
  go_wp2
  go_loopw [7] (fun iv wr => ∃ i : Nat, i ≤ s.size ∧ iv = .int .i64 (i : Int) ∧ w = wr ∧ Hid (∀ k, k < i → CharP (nb s k))) (fun iv _ => s.size - (intOf iv).toNat)
  case atStart => exact ⟨0, by omega, rfl, by trivial, fun k hk => absurd hk (by omega)⟩
  case round =>
    obtain ⟨i, hi, rfl, rfl, HC⟩ := hrel
    by_cases hlt : i < s.size
    · have hj0 : (0 : Int) ≤ (i : Int) := by omega
      have hj1 : (i : Int) < (s.size : Int) := by omega
      obtain ⟨c, hc⟩ : ∃ c, c = nb s i := ⟨_, rfl⟩
      have hcl : c < 256 := by rw [hc]; exact nb_lt s i
      have HCC := Lib.hid hc
      by_cases hok : CharP c
      · have hok2 := hok
        unfold CharP at hok2
        have HC2 : Hid (∀ k, k < i + 1 → CharP (nb s k)) := by
          intro k hk
          by_cases e : k = i
          · subst e; rw [← HCC.out]; exact hok
          · exact HC.out k (by omega)
        go_wp2
        all_goals first
          | (exfalso; omega)
          | (go_roundw
             case rel => exact ⟨i + 1, by omega, by go_num, by trivial, HC2.out⟩
             case measure => simp [intOf]; omega)
      · have HNO : Hid (decide (NameP s) = false) := by
          unfold Hid
          rw [decide_eq_false_iff_not]
          intro h
          have := h.2 i hlt
          rw [← HCC.out] at this; exact hok this
        unfold CharP at hok
        go_wp2
        all_goals first
          | (exfalso; omega)
          | (go_ret; exact ⟨ret_bool HNO.out.symm, rfl⟩)
    · obtain rfl : i = s.size := by omega
      have HF : Hid ((decide ((s.size : Int) ≥ 1) && decide ((s.size : Int) ≤ 8)) = decide (NameP s)) := by
        unfold Hid
        rw [← Bool.decide_and, decide_eq_decide]
        exact ⟨fun h => ⟨⟨by omega, by omega⟩, HC.out⟩, fun h => ⟨by have := h.1.1; omega, by have := h.1.2; omega⟩⟩
      by_cases g1 : s.size ≥ 1
      · have g1' : decide ((s.size : Int) ≥ 1) = true := by simp; omega
        rw [g1'] at HF
        go_wp2
        go_ret
        exact ⟨ret_bool HF.out, rfl⟩
      · have g1' : decide ((s.size : Int) ≥ 1) = false := by simp; omega
        rw [g1'] at HF
        go_wp2
        go_ret
        exact ⟨ret_bool HF.out, rfl⟩

set_option maxRecDepth 100000 in
theorem pack_any (s : ByteArray) (w : World) (hs : s.size ≤ 8) : Calls Try.prog 49 #[.string s] w fun e w' => e = .returned (.int .u64 (packE s : Nat)) ∧ w = w' := by
  have hb := get_nb s
  go_enter Try.func49, Try.ntmps49
  go_wp2
  go_loopw [7, 3] (fun iv xv wr => ∃ i x : Nat, i ≤ s.size ∧ iv = .int .i64 (i : Int) ∧ xv = .int .u64 (x : Int) ∧ w = wr ∧ x < 18446744073709551616 ∧ Hid (x = packR 8 ((bts s).take i))) (fun iv _ _ => s.size - (intOf iv).toNat)
  case atStart => exact ⟨0, 0, by omega, rfl, rfl, by trivial, by omega, (packR_nil 8).symm⟩
  case round =>
    obtain ⟨i, x, hi, rfl, rfl, rfl, hx, HX⟩ := hrel
    by_cases hlt : i < s.size
    · have hj0 : (0 : Int) ≤ (i : Int) := by omega
      have hj1 : (i : Int) < (s.size : Int) := by omega
      obtain ⟨c, hc⟩ : ∃ c, c = nb s i := ⟨_, rfl⟩
      have hcl : c < 256 := by rw [hc]; exact nb_lt s i
      have HCC := Lib.hid hc
      have HNX : Hid (x ||| c * 256 ^ (7 - i) = packR 8 ((bts s).take (i + 1))) := by
        unfold Hid
        have hl : ((bts s).take i).length = i := by rw [List.length_take, bts_len]; omega
        have h := packR_or ((bts s).take i) c (by omega) hcl
        rw [hl, ← HX.out] at h
        rw [h, List.take_add_one, bts_at s hlt, HCC.out]; rfl
      have hpw : c * 256 ^ (7 - i) < 18446744073709551616 := by
        have h1 : c * 256 ^ (7 - i) ≤ 255 * 256 ^ (7 - i) := Nat.mul_le_mul_right _ (by omega)
        have h2 : 256 ^ (7 - i) ≤ 256 ^ 7 := Nat.pow_le_pow_right (by decide) (by omega)
        have h3 : (256 : Nat) ^ 7 = 72057594037927936 := by decide
        omega
      obtain ⟨z, hz⟩ : ∃ z, z = x ||| c * 256 ^ (7 - i) := ⟨_, rfl⟩
      have hzl : z < 18446744073709551616 := by rw [hz]; exact Nat.or_lt_two_pow (n := 64) hx hpw
      have hor : bits .or .u64 (x : Int) (IntKind.u64.wrap (IntKind.u64.wrap (nb s i : Int) * 2 ^ (56 - 8 * i))) = (z : Int) := by
        rw [IntWalk.u64_in (nb s i : Int) (by omega)]
        have e : ((nb s i : Int) * 2 ^ (56 - 8 * i)) = ((c * 256 ^ (7 - i) : Nat) : Int) := by
          rw [pow256, show 8 * (7 - i) = 56 - 8 * i by omega, Int.natCast_mul, Int.natCast_pow, hc]; rfl
        rw [e, IntWalk.u64_in _ (by omega), u64_or_nat _ _ hx hpw, hz]
      rw [← hz] at HNX
      clear hz hpw hc
      go_wp2
      go_roundw
      case rel => exact ⟨i + 1, z, by omega, by go_num, rfl, by trivial, by omega, HNX.out⟩
      case measure => simp [intOf]; omega
    · obtain rfl : i = s.size := by omega
      have HF : Hid (x = packE s) := by unfold Hid packE; rw [HX.out, List.take_of_length_le (by rw [bts_len]; omega)]
      go_wp2
      go_ret
      exact ⟨ret_int (by rw [HF.out]), rfl⟩
end Go.Proofs.Ythdibijkiogpjaa
