/- What seal's small functions answer: may, lastWord, allZero (with slices.ContainsFunc and IndexFunc), slices.Clone of words. -/
import Derived.Test.YtbkgpilmgllkiaaCrcWalk
import Derived.Test.YtbkgpilmgllkiaaSealMath
import Derived.Test.YtbkgpilmgllkiaaFar
import Derived.Lib.SliceRun
namespace Go.Proofs.Ytbkgpilmgllkiaa
open Go.ChangeShapes Go.WideShapes Go.ChangeAt Go.RowKit

def mayW (s a : Int) : Bool := decide (8 ≤ s) && decide (s ≤ 256) && decide (0 ≤ a)
set_option maxRecDepth 100000 in
theorem may_any (s a : Int) (w : World) : Calls Try.prog 82 #[.int .i64 s, .int .i64 a] w fun e w' => e = .returned (.bool (mayW s a)) ∧ w = w' := by
  by_cases h1 : 8 ≤ s
  · have g1 : decide (s ≥ 8) = true := by simpa using h1
    by_cases h2 : s ≤ 256
    · have g2 : decide (s ≤ 256) = true := by simpa using h2
      have HR : Hid (mayW s a = decide (a ≥ 0)) := by unfold Hid mayW; simp [h1, h2]
      rw [HR.out]
      go_enter Try.func82, Try.ntmps82
      go_wp2
      go_ret
      exact ⟨rfl, rfl⟩
    · have g2 : decide (s ≤ 256) = false := by simp; omega
      have HR : Hid (mayW s a = false) := by unfold Hid mayW; simp [h2]
      rw [HR.out]
      go_enter Try.func82, Try.ntmps82
      go_wp2
      go_ret
      exact ⟨rfl, rfl⟩
  · have g1 : decide (s ≥ 8) = false := by simp; omega
    have HR : Hid (mayW s a = false) := by unfold Hid mayW; simp [h1]
    rw [HR.out]
    go_enter Try.func82, Try.ntmps82
    go_wp2
    go_ret
    exact ⟨rfl, rfl⟩

theorem sm_nil : sm [] = 0 := rfl
theorem sm_two (l : List Nat) (a b : Nat) : nx (nx (sm l) a) b = sm (l ++ [a, b]) := by
  rw [← sm_snoc, ← sm_snoc]; simp

set_option maxHeartbeats 800000 in
set_option maxRecDepth 100000 in
theorem lastw_any (a : Option Addr) (n cap : Nat) (l : List Nat) (num ad : Nat) (w : World) {B : Nat} (hl : Reads .u64 w B a n l) (hn : n ≤ 1000000) (hnum : num < 4294967296) (had : ad ≤ 9223372036854775807) :
    Calls Try.prog 84 #[.slice a n cap, .int .u64 num, .int .i64 ad] w fun e w' => e = .returned (.int .u64 (lastW l num ad)) ∧ w = w' := by
  have HLEN := Lib.hid hl.1
  have hs0 := sm_lt l
  have hs1 := nx_lt num hs0
  have hs2 := nx_lt ad hs1
  have HS2 : Hid (nx (nx (sm l) num) ad = sm (l ++ [num, ad])) := sm_two l num ad
  have HOR : Hid (bits .or .u64 ((num : Int) * 4294967296) (IntKind.u64.wrap ((sm (l ++ [num, ad]) : Nat) : Int)) = (lastW l num ad : Int)) := by
    unfold Hid
    have e : IntKind.u64.wrap ((sm (l ++ [num, ad]) : Nat) : Int) = ((sm (l ++ [num, ad]) : Nat) : Int) := by
      have := sm_lt (l ++ [num, ad]); exact IntWalk.u64_in _ (by omega)
    rw [e]
    have h := u64_or_nat (num * 4294967296) (sm (l ++ [num, ad])) (by omega) (by have := sm_lt (l ++ [num, ad]); omega)
    rw [last_or] at h
    rw [← h]; simp
  go_enter Try.func84, Try.ntmps84
  go_wp2_with fail
  refine (sum_any none 0 0 [] w (B := 0) ⟨rfl, by simp, fun h => absurd h (by omega)⟩ (by omega)).mono ?_; rintro e w' ⟨rfl, rfl⟩
  go_wp2
  go_loop [7, 13] (fun sv kv => ∃ k s : Nat, k ≤ n ∧ s < 4294967296 ∧ kv = .int .i64 k ∧ sv = .int .u32 s ∧ Hid (s = sm (l.take k))) (fun _ kv => n - (intOf kv).toNat)
  case atStart => exact ⟨0, 0, by omega, by omega, rfl, rfl, rfl⟩
  case round =>
    obtain ⟨k, s, hk, hs, rfl, rfl, HN⟩ := hrel
    by_cases hlt : k < n
    · obtain ⟨b, o, c, rfl, hb, hc, hw, HC⟩ := hl.at_ hlt
      have hc64 := u64_lt hw
      have HS : Hid (nx s c = sm (l.take (k + 1))) := by
        unfold Hid; rw [HN.out]; exact sm_next HLEN.out hlt HC.out
      have HL := nx_lt c hs
      go_wp2_with fail
      refine (next_any s c _ hs hc64).mono ?_; rintro e w' ⟨rfl, rfl⟩
      go_wp2
      go_round
      case rel => exact ⟨k + 1, _, by omega, HL, by go_num, rfl, HS.out⟩
      case measure => simp [intOf]; omega
    · obtain rfl : k = n := by omega
      have HSK : Hid (s = sm l) := by
        unfold Hid; rw [HN.out, List.take_of_length_le (by have := HLEN.out; omega)]
      go_wp2_with fail
      refine (next_any s num _ hs (by omega)).mono ?_; rintro e w' ⟨rfl, rfl⟩
      go_wp2_with fail
      refine (next_any (nx s num) ad _ (nx_lt num hs) (by omega)).mono ?_; rintro e w' ⟨rfl, rfl⟩
      have HF : Hid (nx (nx s num) ad = sm (l ++ [num, ad])) := by unfold Hid; rw [HSK.out]; exact HS2.out
      rw [HF.out]
      go_wp2
      go_ret
      exact ⟨ret_int HOR.out, rfl⟩

set_option maxRecDepth 100000 in
theorem zclos_any (x : Nat) (w : World) : Calls Try.prog 93 #[.int .u64 x] w fun e w' => e = .returned (.bool (decide (x ≠ 0))) ∧ w = w' := by
  by_cases h : x = 0
  · subst h
    go_enter Try.func93, Try.ntmps93
    go_wp2
    go_ret
    exact ⟨rfl, rfl⟩
  · have HR : Hid (decide (x ≠ 0) = true) := by unfold Hid; simpa using h
    rw [HR.out]
    have g : ((x : Int) != 0) = true := by simp; omega
    go_enter Try.func93, Try.ntmps93
    go_wp2
    go_ret
    exact ⟨rfl, rfl⟩

def zeroW (l : List Nat) : Bool := decide (∀ x ∈ l, x = 0)
set_option maxHeartbeats 800000 in
set_option maxRecDepth 100000 in
/-- slices.IndexFunc by 'x is not 0' -/
theorem idxf_any (a : Option Addr) (n cap : Nat) (l : List Nat) (w : World) {B : Nat} (hl : Reads .u64 w B a n l) (hn : n ≤ 1000000) :
    Calls Try.prog 97 #[.slice a n cap, .func (.func 93) #[] #[]] w fun e w' => (zeroW l = true ∧ e = .returned (.int .i64 (-1)) ∧ w = w') ∨ (zeroW l = false ∧ ∃ i : Nat, e = .returned (.int .i64 i) ∧ w = w') := by
  have HLEN := Lib.hid hl.1
  go_enter Try.func97, Try.ntmps97
  go_wp2
  go_loop [5, 8] (fun _ kv => ∃ k : Nat, k ≤ n ∧ kv = .int .i64 k ∧ Hid (∀ x ∈ l.take k, x = 0)) (fun _ kv => n - (intOf kv).toNat)
  case atStart => exact ⟨0, by omega, rfl, by unfold Hid; simp⟩
  case round =>
    obtain ⟨k, hk, rfl, HN⟩ := hrel
    by_cases hlt : k < n
    · obtain ⟨b, o, c, rfl, hb, hc, hw, HC⟩ := hl.at_ hlt
      have hclo := zclos_any c w
      by_cases h0 : c = 0
      · have HS : Hid (∀ x ∈ l.take (k + 1), x = 0) := by
          intro x hx
          have hkl : k < l.length := by have := HLEN.out; omega
          rw [List.take_succ_eq_append_getElem hkl] at hx
          rcases List.mem_append.1 hx with hx | hx
          · exact HN.out x hx
          · simp at hx
            have := HC.out
            rw [List.getD_eq_getElem?_getD, List.getElem?_eq_getElem hkl] at this
            rw [hx, ← h0, this]; rfl
        have hd : decide (c ≠ 0) = false := by simpa using h0
        rw [hd] at hclo
        have HCL := Lib.hid hclo
        clear hclo hd h0
        go_wp2_with fail
        refine HCL.out.mono ?_; rintro e w' ⟨rfl, rfl⟩
        go_wp2
        go_round
        case rel => exact ⟨k + 1, by omega, by go_num, HS.out⟩
        case measure => simp [intOf]; omega
      · have HZ : Hid (zeroW l = false) := by
          unfold Hid zeroW
          rw [decide_eq_false_iff_not]
          intro h
          have hkl : k < l.length := by have := HLEN.out; omega
          have h1 := h l[k] (List.getElem_mem hkl)
          have := HC.out
          rw [List.getD_eq_getElem?_getD, List.getElem?_eq_getElem hkl] at this
          exact h0 (by rw [this]; exact h1)
        have hd : decide (c ≠ 0) = true := by simpa using h0
        rw [hd] at hclo
        have HCL := Lib.hid hclo
        clear hclo hd h0
        go_wp2_with fail
        refine HCL.out.mono ?_; rintro e w' ⟨rfl, rfl⟩
        go_wp2
        go_ret
        exact .inr ⟨HZ.out, k, rfl, rfl⟩
    · have HZ : Hid (zeroW l = true) := by
        unfold Hid zeroW
        rw [decide_eq_true_eq]
        have h := HN.out
        rwa [List.take_of_length_le (by have := HLEN.out; omega)] at h
      go_wp2
      go_ret
      exact .inl ⟨HZ.out, rfl, rfl⟩

set_option maxRecDepth 100000 in
theorem cont_any (a : Option Addr) (n cap : Nat) (l : List Nat) (w : World) {B : Nat} (hl : Reads .u64 w B a n l) (hn : n ≤ 1000000) :
    Calls Try.prog 92 #[.slice a n cap, .func (.func 93) #[] #[]] w fun e w' => e = .returned (.bool (!zeroW l)) ∧ w = w' := by
  have hx := idxf_any a n cap l w hl hn
  cases hz : zeroW l with
  | true =>
    rw [hz] at hx
    have HX := Lib.hid hx
    clear hx hz
    go_enter Try.func92, Try.ntmps92
    go_wp2_with fail
    refine HX.out.mono ?_
    rintro e w' (⟨_, rfl, rfl⟩ | ⟨hz, _⟩)
    · go_wp2
      go_ret
      exact ⟨rfl, rfl⟩
    · cases hz
  | false =>
    rw [hz] at hx
    have HX := Lib.hid hx
    clear hx hz
    go_enter Try.func92, Try.ntmps92
    go_wp2_with fail
    refine HX.out.mono ?_
    rintro e w' (⟨hz, _⟩ | ⟨_, i, rfl, rfl⟩)
    · cases hz
    · have hi : decide ((i : Int) ≥ 0) = true := by simp
      go_wp2
      go_ret
      exact ⟨rfl, rfl⟩
set_option maxRecDepth 100000 in
theorem allz_any (a : Option Addr) (n cap : Nat) (l : List Nat) (w : World) {B : Nat} (hl : Reads .u64 w B a n l) (hn : n ≤ 1000000) :
    Calls Try.prog 83 #[.slice a n cap] w fun e w' => e = .returned (.bool (zeroW l)) ∧ w = w' := by
  have hx := cont_any a n cap l w hl hn
  cases hz : zeroW l with
  | true =>
    rw [hz] at hx
    have HX := Lib.hid hx
    clear hx hz
    go_enter Try.func83, Try.ntmps83
    go_wp2_with fail
    refine HX.out.mono ?_
    rintro e w' ⟨rfl, rfl⟩
    go_wp2
    go_ret
    exact ⟨rfl, rfl⟩
  | false =>
    rw [hz] at hx
    have HX := Lib.hid hx
    clear hx hz
    go_enter Try.func83, Try.ntmps83
    go_wp2_with fail
    refine HX.out.mono ?_
    rintro e w' ⟨rfl, rfl⟩
    go_wp2
    go_ret
    exact ⟨rfl, rfl⟩

theorem infoW : (Try.prog.info? 69).map (fun i => (i.zero, i.size, i.bytes)) = some (some (.int .u64 0), 1, 8) := by kernel_rfl
theorem sizeW : (Try.prog.info? 69).map (·.size) = some 1 := by kernel_rfl
theorem owns_made (w : World) (e : TypeId) : (w.alloc (.cells #[] e)).ownsRow w.heap.size e 1 (.slice (some ⟨w.heap.size, 0, none⟩) 0 0) 0 [] :=
  ⟨rfl, .inr ⟨w.heap.size, 0, #[], rfl, Nat.le_refl _, heap_alloc_new _ _, Nat.le_refl _, Nat.zero_le _, rfl, rfl⟩⟩
set_option maxHeartbeats 800000 in
set_option maxRecDepth 100000 in
/-- slices.Clone of words: a row of its own, nil for nil -/
theorem wclone_any (A : Option Addr) (n c : Nat) (l : List Nat) (w : World) {B : Nat} (hl : Reads .u64 w B A n l) (hA : A ≠ none) (hn2 : n ≤ 1000000) (hB : B ≤ w.heap.size) :
    Calls Try.prog 46 #[.slice A n c] w fun e w' => ∃ v, e = .returned v ∧ w'.ownsRow w.heap.size 69 1 v n (l.map fun x : Nat => Value.int .u64 x) ∧ Below w.heap.size w w' := by
  obtain ⟨i0, hi, hz0, hz1, hz2⟩ := info_parts infoW
  rcases A with _ | ⟨b, off, z⟩
  · exact absurd rfl hA
  have HL := Lib.hid hl
  have HL0 := Lib.hid hl.1
  clear hl hA
  have hq := fun w => Go.Lib.run_eql_slice_nil (P := Try.prog) w 71 69 (some ⟨b, off, z⟩) n c 0 0 Try.underlying71
  go_enter Try.func46, Try.ntmps46
  go_wp2_with (with_reducible refine stopAt 7 ?_)
  unfold Hid
  refine wpList_append_list _ rfl _ _ 71 rfl w.heap.size 69 i0 (.int .u64 0) 8 Try.underlying71 hi hz0 hz1 hz2 rfl _ 0 [] rfl (owns_made w 69) (some ⟨b, off, z⟩) n c (l.map fun x : Nat => Value.int .u64 x) rfl (by rw [List.length_map]; exact HL0.out) (HL.out.keep ((Below.refl _ w).alloc (by omega) _ : Below B w _)).source cells_int (by omega) (by omega) (by simp) ?_
  intro v' w' hown hb
  rw [Nat.zero_add, List.nil_append] at hown
  have HO := Lib.hid hown
  have HB := Lib.hid (((Below.refl w.heap.size w).alloc (Nat.le_refl _) _).trans hb)
  clear hown hb
  go_wp2
  go_ret
  exact ⟨v', rfl, HO.out, HB.out⟩
end Go.Proofs.Ytbkgpilmgllkiaa
