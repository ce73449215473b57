/- The small calls of files: what a work has, how many tuples a block holds, how many blocks and words they need, where one stands, whether a grant stands, whether a tuple fits. -/
import Derived.Test.YtbkgpilmgllkiaaFileMem
import Derived.ChangeKeysEq
import Derived.Laws.StructEq
namespace Go.Proofs.Ytbkgpilmgllkiaa
open Go.ChangeShapes Go.WideShapes Go.ChangeAt Go.RowKit

section
variable {w : World} {p : Wp}
theorem wdev_any (h : Row w p.w 96 [ptr p.d, ptr p.a, ptr p.s]) : Calls Try.prog 25 #[.pointer (some ⟨p.w, 0, none⟩)] w fun e w' => e = .returned (.pointer (some ⟨p.d, 0, none⟩)) ∧ w' = w := by
  have c0 : w.cell? ⟨p.w, 0, none⟩ = some (.pointer (some ⟨p.d, 0, none⟩)) := h.cell 0
  go_enter Try.func25, Try.ntmps25
  go_wp2
  go_ret
  exact ⟨rfl, rfl⟩
theorem warn_any (h : Row w p.w 96 [ptr p.d, ptr p.a, ptr p.s]) : Calls Try.prog 16 #[.pointer (some ⟨p.w, 0, none⟩)] w fun e w' => e = .returned (.pointer (some ⟨p.a, 0, none⟩)) ∧ w' = w := by
  have c0 : w.cell? ⟨p.w, 1, none⟩ = some (.pointer (some ⟨p.a, 0, none⟩)) := h.cell 1
  go_enter Try.func16, Try.ntmps16
  go_wp2
  go_ret
  exact ⟨rfl, rfl⟩
theorem wspc_any (h : Row w p.w 96 [ptr p.d, ptr p.a, ptr p.s]) : Calls Try.prog 14 #[.pointer (some ⟨p.w, 0, none⟩)] w fun e w' => e = .returned (.pointer (some ⟨p.s, 0, none⟩)) ∧ w' = w := by
  have c0 : w.cell? ⟨p.w, 2, none⟩ = some (.pointer (some ⟨p.s, 0, none⟩)) := h.cell 2
  go_enter Try.func14, Try.ntmps14
  go_wp2
  go_ret
  exact ⟨rfl, rfl⟩
end
theorem wdev_nil (w : World) : Calls Try.prog 25 #[.pointer none] w fun e w' => e = .returned (.pointer none) ∧ w' = w := by
  go_enter Try.func25, Try.ntmps25
  go_wp2
  go_ret
  exact ⟨rfl, rfl⟩
theorem warn_nil (w : World) : Calls Try.prog 16 #[.pointer none] w fun e w' => e = .returned (.pointer none) ∧ w' = w := by
  go_enter Try.func16, Try.ntmps16
  go_wp2
  go_ret
  exact ⟨rfl, rfl⟩
theorem wspc_nil (w : World) : Calls Try.prog 14 #[.pointer none] w fun e w' => e = .returned (.pointer none) ∧ w' = w := by
  go_enter Try.func14, Try.ntmps14
  go_wp2
  go_ret
  exact ⟨rfl, rfl⟩

set_option maxRecDepth 100000 in
theorem fnew_any (d a s : Nat) (w : World) : Calls Try.prog 37 #[.pointer (some ⟨d, 0, none⟩), .pointer (some ⟨a, 0, none⟩), .pointer (some ⟨s, 0, none⟩)] w fun e w' => e = .returned (.pointer (some ⟨w.heap.size, 0, none⟩)) ∧ w' = w.alloc (.cells #[ptr d, ptr a, ptr s] 96) := by
  go_enter Try.func37, Try.ntmps37
  go_wp2
  go_ret
  exact ⟨rfl, rfl⟩
theorem fnew_nil (a s : Option Addr) (w : World) : Calls Try.prog 37 #[.pointer none, .pointer a, .pointer s] w fun e w' => e = .returned (.pointer none) ∧ w' = w := by
  go_enter Try.func37, Try.ntmps37
  go_wp2
  go_ret
  exact ⟨rfl, rfl⟩

theorem hol_nil (width : Int) (w : World) : Calls Try.prog 30 #[.pointer none, .int .i64 width] w fun e w' => e = .returned (.int .i64 0) ∧ w' = w := by
  go_enter Try.func30, Try.ntmps30
  go_wp2
  go_ret
  exact ⟨rfl, rfl⟩
theorem holds_le (size : Nat) (width : Int) : holdsI size width ≤ size - 2 := by
  unfold holdsI; split
  · exact Nat.zero_le _
  · exact Nat.div_le_self _ _
set_option maxRecDepth 100000 in
theorem hol_any {w : World} {G : Nat → Prop} {p : Wp} {F : Fs} {n : Nat} (h : Sys w G p F n) (width : Int) : Calls Try.prog 30 #[.pointer (some ⟨p.w, 0, none⟩), .int .i64 width] w fun e w' => e = .returned (.int .i64 (holdsI F.D.size width : Nat)) ∧ w' = w := by
  by_cases h1 : width < 1
  · have g1 : decide (width < 1) = true := by simpa using h1
    have e0 : holdsI F.D.size width = 0 := by unfold holdsI; rw [if_pos (.inl h1)]
    rw [e0]
    go_enter Try.func30, Try.ntmps30
    go_wp2
    go_ret
    exact ⟨rfl, rfl⟩
  have g1 : decide (width < 1) = false := by simpa using h1
  by_cases h2 : width > 5
  · have g2 : decide (width > 5) = true := by simpa using h2
    have e0 : holdsI F.D.size width = 0 := by unfold holdsI; rw [if_pos (.inr h2)]
    rw [e0]
    clear h1
    go_enter Try.func30, Try.ntmps30
    go_wp2
    go_ret
    exact ⟨rfl, rfl⟩
  have g2 : decide (width > 5) = false := by simpa using h2
  have e0 : holdsI F.D.size width = (F.D.size - 2) / width.toNat := by unfold holdsI; rw [if_neg (by omega)]
  obtain ⟨k, rfl⟩ : ∃ k : Nat, width = (k : Int) := ⟨width.toNat, by omega⟩
  rw [Int.toNat_natCast] at e0
  have hsz := h.size
  have c0 : w.cell? ⟨p.w, 0, none⟩ = some (.pointer (some ⟨p.d, 0, none⟩)) := h.row.cell 0
  have hs := h.dsize_any
  rw [e0]
  obtain ⟨m, hm⟩ : ∃ m, m = F.D.size - 2 := ⟨_, rfl⟩
  have hsub : (F.D.size : Int) - 2 = (m : Int) := by omega
  have hmb : 6 ≤ m ∧ m ≤ 254 := by omega
  have hq : Int.tdiv (m : Int) (k : Int) = ((m / k : Nat) : Int) := rfl
  have hk0 : ¬ ((k : Int) = 0) := by omega
  have hql : m / k ≤ m := Nat.div_le_self _ _
  rw [← hm]
  have HS := Lib.hid hs
  have hmax : (if m < 0 then (0 : Int) else (m : Int)) = (m : Int) := by simp
  clear hs hm e0 h h1 h2
  generalize m / k = q at *
  go_enter Try.func30, Try.ntmps30
  go_wp2_with fail
  refine HS.out.mono ?_; rintro e w1 ⟨rfl, rfl⟩
  go_wp2
  go_ret
  exact ⟨rfl, rfl⟩

set_option maxRecDepth 100000 in
theorem shape_any {w : World} {G : Nat → Prop} {p : Wp} {F : Fs} {n : Nat} (h : Sys w G p F n) (width : Int) : Calls Try.prog 47 #[.pointer (some ⟨p.w, 0, none⟩), .int .i64 width] w fun e w' => e = .returned (.agg #[.int .i64 width, .int .i64 (holdsI F.D.size width : Nat)]) ∧ Below w.heap.size w w' := by
  have HH : Hid (Calls Try.prog 30 #[.pointer (some ⟨p.w, 0, none⟩), .int .i64 width] (w.alloc (.cells #[.int .i64 0, .int .i64 0] 120)) fun e w' => e = .returned (.int .i64 (holdsI F.D.size width : Nat)) ∧ w' = w.alloc (.cells #[.int .i64 0, .int .i64 0] 120)) := hol_any (h.below ((Below.refl _ w).alloc (Nat.le_refl _) _)) width
  have HB : Hid (Below w.heap.size w (w.alloc (.cells #[.int .i64 0, .int .i64 0] 120))) := (Below.refl _ w).alloc (Nat.le_refl _) _
  generalize holdsI F.D.size width = q at *
  clear h
  go_enter Try.func47, Try.ntmps47
  go_wp2_with fail
  refine HH.out.mono ?_; rintro e w1 ⟨rfl, rfl⟩
  go_wp2
  have HB2 : Below w.heap.size w (w.alloc (.cells #[.int .i64 width, .int .i64 (q : Int)] 120)) := (Below.refl _ w).alloc (Nat.le_refl _) _
  refine bodyPost_ret (v := .agg #[.int .i64 width, .int .i64 (q : Int)]) ?_ rfl ⟨rfl, HB2⟩
  have hr : Row (w.alloc (.cells #[.int .i64 width, .int .i64 (q : Int)] 120)) w.heap.size 120 [.int .i64 width, .int .i64 (q : Int)] := heap_alloc_new _ _
  have r0 := hr.cell 0
  have r1 := hr.cell 1
  simp [results, Try.results47, go_sem, r0, r1]
theorem shape_nil (width : Int) (w : World) : Calls Try.prog 47 #[.pointer none, .int .i64 width] w fun e w' => e = .returned (.agg #[.int .i64 width, .int .i64 0]) ∧ Below w.heap.size w w' := by
  have HH := Lib.hid (hol_nil width (w.alloc (.cells #[.int .i64 0, .int .i64 0] 120)))
  go_enter Try.func47, Try.ntmps47
  go_wp2_with fail
  refine HH.out.mono ?_; rintro e w1 ⟨rfl, rfl⟩
  go_wp2
  have HB2 : Below w.heap.size w (w.alloc (.cells #[.int .i64 width, .int .i64 0] 120)) := (Below.refl _ w).alloc (Nat.le_refl _) _
  refine bodyPost_ret (v := .agg #[.int .i64 width, .int .i64 0]) ?_ rfl ⟨rfl, HB2⟩
  have hr : Row (w.alloc (.cells #[.int .i64 width, .int .i64 0] 120)) w.heap.size 120 [.int .i64 width, .int .i64 0] := heap_alloc_new _ _
  have r0 := hr.cell 0
  have r1 := hr.cell 1
  simp [results, Try.results47, go_sem, r0, r1]

set_option maxRecDepth 100000 in
theorem blks_any (k h c : Nat) (w : World) (hh : 0 < h) (hh2 : h ≤ 254) (hc : c ≤ 100000000) : Calls Try.prog 48 #[.agg #[.int .i64 k, .int .i64 h], .int .i64 c] w fun e w' => e = .returned (.int .i64 (blocksN h c : Nat)) ∧ Below w.heap.size w w' := by
  have HB := Lib.hid ((Below.refl w.heap.size w).alloc (Nat.le_refl _) (.cells #[.int .i64 k, .int .i64 h] 120))
  have hq : Int.tdiv (c : Int) (h : Int) = ((c / h : Nat) : Int) := rfl
  have ht : Int.tmod (c : Int) (h : Int) = ((c % h : Nat) : Int) := rfl
  have hh0 : ¬ ((h : Int) = 0) := by omega
  have hql : c / h ≤ c := Nat.div_le_self _ _
  have hml : c % h < h := Nat.mod_lt _ hh
  by_cases hm : 0 < c % h
  · have HE : Hid (blocksN h c = c / h + 1) := by unfold Hid blocksN; rw [if_pos hm]
    rw [HE.out]
    have g1 : decide (((c % h : Nat) : Int) > 0) = true := by simp; omega
    clear HE hh
    generalize c / h = q at *
    generalize c % h = m at *
    go_enter Try.func48, Try.ntmps48
    go_wp2
    go_ret
    exact ⟨by rfl, HB.out⟩
  · have HE : Hid (blocksN h c = c / h) := by unfold Hid blocksN; rw [if_neg hm]
    rw [HE.out]
    have g1 : decide (((c % h : Nat) : Int) > 0) = false := by simp; omega
    clear HE hh
    generalize c / h = q at *
    generalize c % h = m at *
    go_enter Try.func48, Try.ntmps48
    go_wp2
    go_ret
    exact ⟨rfl, HB.out⟩

set_option maxRecDepth 100000 in
theorem wrds_any (k h j c : Nat) (w : World) (hk : k ≤ 5) (hh2 : h ≤ 254) (hc : c ≤ 100000000) (hj : j * h ≤ c) : Calls Try.prog 75 #[.agg #[.int .i64 k, .int .i64 h], .int .i64 j, .int .i64 c] w fun e w' => e = .returned (.int .i64 (min h (c - j * h) * k : Nat)) ∧ Below w.heap.size w w' := by
  have HB := Lib.hid ((Below.refl w.heap.size w).alloc (Nat.le_refl _) (.cells #[.int .i64 k, .int .i64 h] 120))
  obtain ⟨jh, hjh⟩ : ∃ jh, jh = j * h := ⟨_, rfl⟩
  have hmul : (j : Int) * (h : Int) = (jh : Int) := by rw [hjh]; exact (Int.natCast_mul j h).symm
  rw [← hjh] at hj ⊢
  obtain ⟨d, hd⟩ : ∃ d, d = c - jh := ⟨_, rfl⟩
  have hsub : (c : Int) - (jh : Int) = (d : Int) := by omega
  rw [← hd]
  obtain ⟨lo, hlo⟩ : ∃ lo, lo = min h d := ⟨_, rfl⟩
  have hmin : (if d < h then (d : Int) else (h : Int)) = (lo : Int) := by rw [hlo]; split <;> omega
  have hmin2 : (if h < d then (h : Int) else (d : Int)) = (lo : Int) := by rw [hlo]; split <;> omega
  have hlo2 : lo ≤ 254 := by omega
  rw [← hlo]
  obtain ⟨m, hm⟩ : ∃ m, m = lo * k := ⟨_, rfl⟩
  have hmul2 : (lo : Int) * (k : Int) = (m : Int) := by rw [hm]; exact (Int.natCast_mul lo k).symm
  have hm2 : m ≤ 1270 := by rw [hm]; exact Nat.mul_le_mul hlo2 hk
  rw [← hm]
  have hjb : jh ≤ 100000000 := by omega
  have hdb : d ≤ 100000000 := by omega
  clear hm hlo hd hjh hj
  go_enter Try.func75, Try.ntmps75
  go_wp2
  go_ret
  exact ⟨rfl, HB.out⟩

set_option maxRecDepth 100000 in
theorem plc_any (k h i g n : Nat) (w : World) (hk0 : 0 < k) (hk : k ≤ 5) (hh : 0 < h) (hh2 : h ≤ 254) (_hi : i ≤ 100000000) (hn : i % h * k + k ≤ n) (hn2 : n ≤ 256) : Calls Try.prog 53 #[.agg #[.int .i64 k, .int .i64 h], .slice (some ⟨g, 0, none⟩) n n, .int .i64 i] w fun e w' => e = .returned (.slice (some ⟨g, i % h * k, none⟩) k (n - i % h * k)) ∧ Below w.heap.size w w' := by
  have hb1 := (Below.refl w.heap.size w).alloc (Nat.le_refl _) (.cells #[.int .i64 k, .int .i64 h] 120)
  have HB := Lib.hid hb1
  have hr : Row (w.alloc (.cells #[.int .i64 k, .int .i64 h] 120)) w.heap.size 120 [.int .i64 k, .int .i64 h] := heap_alloc_new _ _
  have c0 : (w.alloc (.cells #[.int .i64 k, .int .i64 h] 120)).cell? ⟨w.heap.size, 0, none⟩ = some (.int .i64 k) := hr.cell 0
  have c1 : (w.alloc (.cells #[.int .i64 k, .int .i64 h] 120)).cell? ⟨w.heap.size, 1, none⟩ = some (.int .i64 h) := hr.cell 1
  have ht : Int.tmod (i : Int) (h : Int) = ((i % h : Nat) : Int) := rfl
  have hh0 : ¬ ((h : Int) = 0) := by omega
  have hml : i % h < h := Nat.mod_lt _ hh
  obtain ⟨m, hm⟩ : ∃ m, m = i % h := ⟨_, rfl⟩
  rw [← hm] at ht hml hn ⊢
  obtain ⟨a, ha⟩ : ∃ a, a = m * k := ⟨_, rfl⟩
  have hmul : (m : Int) * (k : Int) = (a : Int) := by rw [ha]; exact (Int.natCast_mul m k).symm
  rw [← ha] at hn ⊢
  obtain ⟨u, hu⟩ : ∃ u, u = a + k := ⟨_, rfl⟩
  have hadd : (a : Int) + (k : Int) = (u : Int) := by omega
  have hua : u - a = k := by omega
  have hcut := fun W => run_mid (P := Try.prog) W 71 69 _ Try.underlying71 (info_parts infoW).choose_spec.1 (info_parts infoW).choose_spec.2.2.1 (some ⟨g, 0, none⟩) n n a u (by omega) (by omega) .i64 .i64 (a : Int) (u : Int) rfl rfl
  rw [hua, tailA_lt (by omega), Nat.zero_add, Nat.mul_one] at hcut
  have ha2 : a ≤ 256 := by omega
  have hu2 : u ≤ 256 := by omega
  clear hr hm ha hu hua hb1 hh hn
  go_enter Try.func53, Try.ntmps53
  go_wp2
  generalize w.alloc (.cells #[.int .i64 k, .int .i64 h] 120) = w1 at *
  go_region
  go_wp2
  go_ret
  exact ⟨rfl, below_drew HB.out⟩

set_option maxRecDepth 100000 in
theorem stnd_any {b : Nat} {A : Option Addr} {n c : Nat} {w : World} (h : Row w b 130 [.slice A n c]) : Calls Try.prog 72 #[.pointer (some ⟨b, 0, none⟩)] w fun e w' => e = .returned (.bool (decide (0 < n))) ∧ w' = w := by
  have c0 : w.cell? ⟨b, 0, none⟩ = some (.slice A n c) := h.cell 0
  go_enter Try.func72, Try.ntmps72
  go_wp2
  go_ret
  exact ⟨ret_bool (by simp), rfl⟩

/-- 'clear(s)' of the head of a row, exactly -/
theorem run_clear_cells {P : Program} {w : World} (t e ty : TypeId) (z : Value) (ht : P.underlying t = some (.slice e)) (hv : ∀ w, (zeroValue e).run P w = .ok z w) (hz : z.cells = #[z]) (h1 : z.oneCell' = true)
    (n c g : Nat) (cur : List Value) (tt : TypeId) (hg : Row w g tt cur) (hfit : n ≤ cur.length) (hn : 0 < n) :
    ∃ w', (Builtin.clear_ #[t] ty #[.slice (some ⟨g, 0, none⟩) n c]).run P w = .ok (.tuple #[]) w' ∧ Row w' g tt (List.replicate n z ++ cur.drop n) ∧ Far (fun k => k = g) w w' := by
  obtain ⟨m, rfl⟩ : ∃ m, n = m + 1 := ⟨n - 1, by omega⟩
  have hzl : (Builtin.zeroCells z.cells (m + 1)).toList = List.replicate (m + 1) z := by
    rw [hz]
    apply List.ext_getElem?
    intro i
    simp [Builtin.zeroCells, List.getElem?_replicate]
    by_cases hi : i < m + 1 <;> simp [hi, Nat.mod_one]
  have hst := run_storeCells_at P g 0 tt (Builtin.zeroCells z.cells (m + 1)).toList 0 cur.toArray w hg (by rw [hzl]; simpa using hfit) (by rw [hzl]; intro v hv; rw [List.mem_replicate] at hv; rw [hv.2]; exact h1)
  simp only [Nat.add_zero] at hst
  rw [hzl] at hst
  refine ⟨_, ?_, setRow_heap w g cur.toArray _ tt (0, 0) hg, Far.setRow w g _⟩
  simp [Builtin.clear_, run_underlying ht, hv, hzl, hst]

theorem zeroI64 (w : World) : (zeroValue 2).run Try.prog w = .ok (.int .i64 0) w := by kernel_rfl
theorem eq_tup (w : World) (a b c d e a' b' c' d' e' : Int) : (binOp .eql 58 (.agg #[.int .i64 a, .int .i64 b, .int .i64 c, .int .i64 d, .int .i64 e]) (.agg #[.int .i64 a', .int .i64 b', .int .i64 c', .int .i64 d', .int .i64 e'])).run Try.prog w = .ok (.bool (a == a' && (b == b' && (c == c' && (d == d' && e == e'))))) w := by
  obtain ⟨i0, hi⟩ : ∃ i, Try.prog.info? 2 = some i := by
    rcases h : Try.prog.info? 2 with _ | i
    · have : (Try.prog.info? 2).isSome = true := by kernel_rfl
      rw [h] at this; cases this
    · exact ⟨i, rfl⟩
  have hc1 : Try.prog.cellsOf 2 = 1 := by kernel_rfl
  have p0 : ∀ (a b c d e : Int) w, (part 2 #[.int .i64 a, .int .i64 b, .int .i64 c, .int .i64 d, .int .i64 e] 0).run Try.prog w = .ok (.int .i64 a) w := fun a b c d e w => run_part_plain (P := Try.prog) w (by kernel_rfl) rfl
  have p1 : ∀ (a b c d e : Int) w, (part 2 #[.int .i64 a, .int .i64 b, .int .i64 c, .int .i64 d, .int .i64 e] 1).run Try.prog w = .ok (.int .i64 b) w := fun a b c d e w => run_part_plain (P := Try.prog) w (by kernel_rfl) rfl
  have p2 : ∀ (a b c d e : Int) w, (part 2 #[.int .i64 a, .int .i64 b, .int .i64 c, .int .i64 d, .int .i64 e] 2).run Try.prog w = .ok (.int .i64 c) w := fun a b c d e w => run_part_plain (P := Try.prog) w (by kernel_rfl) rfl
  have p3 : ∀ (a b c d e : Int) w, (part 2 #[.int .i64 a, .int .i64 b, .int .i64 c, .int .i64 d, .int .i64 e] 3).run Try.prog w = .ok (.int .i64 d) w := fun a b c d e w => run_part_plain (P := Try.prog) w (by kernel_rfl) rfl
  have p4 : ∀ (a b c d e : Int) w, (part 2 #[.int .i64 a, .int .i64 b, .int .i64 c, .int .i64 d, .int .i64 e] 4).run Try.prog w = .ok (.int .i64 e) w := fun a b c d e w => run_part_plain (P := Try.prog) w (by kernel_rfl) rfl
  rw [run_eql_struct, show (10000 : Nat) = 9998 + 1 + 1 from rfl, run_equalIn_array w (9998 + 1) _ _ Try.underlying58 hi, hc1]
  have q := fun (a b : Int) (w : World) => run_equalIn_int (P := Try.prog) w 9998 2 .i64 .i64 a b Try.underlying2
  have q' : ∀ (a b : Int) (w : World), (Op.equalIn 9999 2 (.int .i64 a) (.int .i64 b)).run Try.prog w = .ok (a == b) w := q
  simp only [Op.eqItems, List.range, List.range.loop, Sem.run_bind, Nat.mul_one, p0, Result.andThen_ok, q]
  by_cases h1 : a = a' <;> by_cases h2 : b = b' <;> by_cases h3 : c = c' <;> by_cases h4 : d = d' <;> by_cases h5 : e = e' <;> simp [h1, h2, h3, h4, h5, p1, p2, p3, p4, q']
theorem guard_tup (w : World) (op : BinOp) (x y : Operand) (xs ys : Array Value) : (eqGuard op 58 x y (.agg xs) (.agg ys)).run Try.prog w = .ok () w :=
  run_eqGuard_agg w op 58 x y _ _ (by kernel_rfl)
def tupV (t : Tup) : Value := .agg #[.int .i64 t.a, .int .i64 t.b, .int .i64 t.c, .int .i64 t.d, .int .i64 t.e]

set_option maxHeartbeats 1000000 in
set_option maxRecDepth 100000 in
theorem within_any (t : Tup) (k : Nat) (w : World) (hk0 : 0 < k) (hk : k ≤ 5) : Calls Try.prog 61 #[.agg #[.int .i64 t.a, .int .i64 t.b, .int .i64 t.c, .int .i64 t.d, .int .i64 t.e], .int .i64 k] w fun e w' => e = .returned (.bool (fitsT k t)) ∧ Below w.heap.size w w' := by
  obtain ⟨a, b, c, d, e⟩ := t
  have hr : Row (w.alloc (.cells #[.int .i64 a, .int .i64 b, .int .i64 c, .int .i64 d, .int .i64 e] 58)) w.heap.size 58 [.int .i64 a, .int .i64 b, .int .i64 c, .int .i64 d, .int .i64 e] := heap_alloc_new _ _
  obtain ⟨w2, hcl, hr2, hf2⟩ := run_clear_cells (P := Try.prog) 149 2 0 (.int .i64 0) Try.underlying149 zeroI64 rfl rfl k 5 w.heap.size _ 58 hr (by simpa using hk) hk0
  have HR2 := Lib.hid hr2
  have HB2 := Lib.hid (((Below.refl w.heap.size w).alloc (Nat.le_refl _) (.cells #[.int .i64 a, .int .i64 b, .int .i64 c, .int .i64 d, .int .i64 e] 58)).trans (hf2.below (B := w.heap.size) (by simp) (fun b hb => by rw [hb]; exact Nat.le_refl _)))
  have hsl : ∀ W, (Instr.sliceAt 58 (.pointer (some ⟨w.heap.size, 0, none⟩)) none (some (.int .i64 (k : Int))) none).run Try.prog W = .ok (.slice (some ⟨w.heap.size, 0, none⟩) k 5) W := fun W => by
    have hal : Try.prog.arrayLen 58 = 5 := by kernel_rfl
    have hel : Try.prog.elem 58 = 2 := by kernel_rfl
    obtain ⟨i0, hi⟩ : ∃ i, Try.prog.info? 2 = some i := by
      rcases h : Try.prog.info? 2 with _ | i
      · have : (Try.prog.info? 2).isSome = true := by kernel_rfl
        rw [h] at this; cases this
      · exact ⟨i, rfl⟩
    rw [run_sliceAt_array_h W 58 ⟨w.heap.size, 0, none⟩ (by rw [hal, hel]; exact Try.underlying58) .i64 (k : Int) (by omega) (by rw [hal]; omega), hal, hel]
    simp [sizeOf, typeInfo, hi, slicedAt, Addr.add]
  have hq := fun W a b c d e => eq_tup W a b c d e 0 0 0 0 0
  have hg := guard_tup
  have hw1 : ∀ (i : Nat) (x : Int), i < 5 → [a, b, c, d, e][i]? = some x → w2.cell? ⟨w.heap.size, i, none⟩ = some (.int .i64 (if i < k then 0 else x)) := fun i x hi hx => by
    rw [HR2.out.cell i]
    by_cases hik : i < k
    · rw [List.getElem?_append_left (by simpa using hik), if_pos hik]; simp [hik]
    · rw [List.getElem?_append_right (by simpa using hik), if_neg hik, List.length_replicate, List.getElem?_drop, show k + (i - k) = i by omega]
      match i, hi, hx with
      | 0, _, hx => simp at hx; simp [hx]
      | 1, _, hx => simp at hx; simp [hx]
      | 2, _, hx => simp at hx; simp [hx]
      | 3, _, hx => simp at hx; simp [hx]
      | 4, _, hx => simp at hx; simp [hx]
  obtain ⟨z0, hz0⟩ : ∃ z, z = if 0 < k then 0 else a := ⟨_, rfl⟩
  obtain ⟨z1, hz1⟩ : ∃ z, z = if 1 < k then 0 else b := ⟨_, rfl⟩
  obtain ⟨z2, hz2⟩ : ∃ z, z = if 2 < k then 0 else c := ⟨_, rfl⟩
  obtain ⟨z3, hz3⟩ : ∃ z, z = if 3 < k then 0 else d := ⟨_, rfl⟩
  obtain ⟨z4, hz4⟩ : ∃ z, z = if 4 < k then 0 else e := ⟨_, rfl⟩
  have c0 := hw1 0 a (by omega) rfl
  have c1 := hw1 1 b (by omega) rfl
  have c2 := hw1 2 c (by omega) rfl
  have c3 := hw1 3 d (by omega) rfl
  have c4 := hw1 4 e (by omega) rfl
  rw [← hz0] at c0; rw [← hz1] at c1; rw [← hz2] at c2; rw [← hz3] at c3; rw [← hz4] at c4
  have HE : Hid ((z0 == 0 && (z1 == 0 && (z2 == 0 && (z3 == 0 && z4 == 0)))) = fitsT k ⟨a, b, c, d, e⟩) := by
    unfold Hid
    rw [hz0, hz1, hz2, hz3, hz4]
    match k, hk0, hk with
    | 1, _, _ => simp [fitsT, Tup.cols]
    | 2, _, _ => simp [fitsT, Tup.cols]
    | 3, _, _ => simp [fitsT, Tup.cols]
    | 4, _, _ => simp [fitsT, Tup.cols]
    | 5, _, _ => simp [fitsT, Tup.cols]
  rw [← HE.out]
  clear hr2 hf2 hr hw1 HR2 hz0 hz1 hz2 hz3 hz4 HE
  go_enter Try.func61, Try.ntmps61
  go_wp2
  go_ret
  exact ⟨ret_bool (by simp), HB2.out⟩
end Go.Proofs.Ytbkgpilmgllkiaa
