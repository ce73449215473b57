/- A manifest's words, a block's share of them; whether a device has two slots. -/
import Derived.Test.YthdibijkiogpjaaManRows
import Derived.Test.YthdibijkiogpjaaSealGet
import Derived.Test.YthdibijkiogpjaaDevCrash
namespace Go.Proofs.Ythdibijkiogpjaa
open Go.ChangeShapes Go.WideShapes Go.ChangeAt Go.RowKit

theorem flat_snoc (l : List Ent) {i : Nat} {e : Ent} (hi : i < l.length) (he : l.getD i ent0 = e) : (l.take (i + 1)).flatMap entW = (l.take i).flatMap entW ++ entW e := by
  rw [List.take_add_one, List.getElem?_eq_getElem hi]
  rw [List.getD_eq_getElem?_getD, List.getElem?_eq_getElem hi] at he
  simp only [Option.getD_some] at he
  rw [he]; simp
theorem entw_u64 {e : Ent} (h : EntP e) : ∀ x ∈ entW e, x < 18446744073709551616 := by
  obtain ⟨⟨h1, h2, h3, h4⟩, _⟩ := h
  intro x hx
  unfold SmP at *
  have hp : packE e.nm < 18446744073709551616 := packR_lt 8 (bts e.nm) (bts_lt e.nm)
  simp only [entW, List.mem_cons, List.not_mem_nil, or_false] at hx
  rcases hx with rfl | rfl | rfl | rfl | rfl <;> omega
theorem words_u64 {g : Nat} {l : List Ent} (hg : g < 18446744073709551616) (h : FormedP l) : ∀ x ∈ wordsE g l, x < 18446744073709551616 := by
  intro x hx
  unfold wordsE at hx
  rcases List.mem_cons.1 hx with rfl | hx
  · exact hg
  rcases List.mem_cons.1 hx with rfl | hx
  · have := h.1; omega
  obtain ⟨e, he, hx⟩ := List.mem_flatMap.1 hx
  obtain ⟨i, hi⟩ := List.mem_iff_getElem?.1 he
  have hil := (List.getElem?_eq_some_iff.1 hi).1
  have := (h.2 i hil).1
  rw [List.getD_eq_getElem?_getD, hi] at this
  exact entw_u64 this x hx

set_option maxHeartbeats 1600000 in
set_option maxRecDepth 100000 in
theorem wordsof_any (g : Nat) (a : Option Addr) (n c : Nat) (l : List Ent) (w : World) {B : Nat} (hl : ReadsN w B a n l) (hB : B ≤ w.heap.size) (hg : g < 18446744073709551616) (hf : FormedP l) :
    Calls Try.prog 36 #[.int .u64 g, .slice a n c] w fun e w' => ∃ gg cc cs, e = .returned (.slice (some ⟨gg, 0, none⟩) (2 + n * 5) cc) ∧ w.heap.size ≤ gg ∧ Row w' gg 38 cs ∧ 2 + n * 5 ≤ cc ∧ cc ≤ maxLen ∧ Reads .u64 w' w'.heap.size (some ⟨gg, 0, none⟩) (2 + n * 5) (wordsE g l) ∧ Below w.heap.size w w' := by
  obtain ⟨i0, hi0, hz0, hz1, hz2⟩ := info_parts infoU
  have hlen := hl.1
  have h12 : n ≤ 12 := by rw [← hlen]; exact hf.1
  have HLEN := Lib.hid hlen
  have HL := Lib.hid hl
  have HB := Lib.hid hB
  have HF := Lib.hid hf
  have hwn : IntKind.u64.wrap (n : Int) = (n : Int) := IntWalk.u64_in _ (by omega)
  clear hlen hl hB hf
  go_enter Try.func36, Try.ntmps36
  go_wp2
  have HO0 : Hid ((w.alloc (.cells #[.int .u64 (g : Int), .int .u64 (n : Int)] 38)).ownsRow w.heap.size 38 1 (.slice (some ⟨w.heap.size, 0, none⟩) 2 2) 2 (([g, n] ++ ((l.take 0).flatMap entW)).map vw)) := by
    refine ⟨rfl, .inr ⟨w.heap.size, 2, #[.int .u64 (g : Int), .int .u64 (n : Int)], rfl, Nat.le_refl _, heap_alloc_new _ _, by omega, by unfold maxLen; omega, rfl, rfl⟩⟩
  have HB0 : Hid (Below w.heap.size w (w.alloc (.cells #[.int .u64 (g : Int), .int .u64 (n : Int)] 38))) := (Below.refl _ w).alloc (Nat.le_refl _) _
  go_loopw [15, 5] (fun iv dv wr => ∃ i : Nat, i ≤ n ∧ iv = .int .i64 (i : Int) ∧ Hid (wr.ownsRow w.heap.size 38 1 dv (2 + i * 5) (([g, n] ++ ((l.take i).flatMap entW)).map vw)) ∧ Hid (Below w.heap.size w wr)) (fun iv _ _ => n - (intOf iv).toNat)
  case atStart => exact ⟨0, by omega, rfl, HO0.out, HB0.out⟩
  case round =>
    obtain ⟨i, hi, rfl, HO, HBW⟩ := hrel
    by_cases hlt : i < n
    · have hj0 : (0 : Int) ≤ (i : Int) := by omega
      have hj1 : (i : Int) < (n : Int) := by omega
      have hlw := HL.out.keep (HBW.out.mono HB.out)
      have hszw := HBW.out.size
      obtain ⟨b, off, e, rfl, hb, d0, d1, d2, d3, d4, hok, HE⟩ := hlw.at_ hlt
      have HP := (HF.out.2 i (by rw [HLEN.out]; exact hlt)).1
      have HSN := Lib.hid (flat_snoc l (show i < l.length by rw [HLEN.out]; exact hlt) HE.out)
      rw [HE.out] at HP
      obtain ⟨nm, fi, bl, wi, co⟩ := e
      obtain ⟨⟨s1, s2, s3, s4⟩, s5⟩ := HP
      unfold SmP at s1 s2 s3 s4
      simp only at d0 d1 d2 d3 d4 s1 s2 s3 s4 s5
      obtain ⟨x1, rfl⟩ : ∃ x : Nat, fi = (x : Int) := ⟨fi.toNat, by omega⟩
      obtain ⟨x2, rfl⟩ : ∃ x : Nat, bl = (x : Int) := ⟨bl.toNat, by omega⟩
      obtain ⟨x3, rfl⟩ : ∃ x : Nat, wi = (x : Int) := ⟨wi.toNat, by omega⟩
      obtain ⟨x4, rfl⟩ : ∃ x : Nat, co = (x : Int) := ⟨co.toNat, by omega⟩
      have v1 : IntKind.u64.wrap (x1 : Int) = (x1 : Int) := IntWalk.u64_in _ (by omega)
      have v2 : IntKind.u64.wrap (x2 : Int) = (x2 : Int) := IntWalk.u64_in _ (by omega)
      have v3 : IntKind.u64.wrap (x3 : Int) = (x3 : Int) := IntWalk.u64_in _ (by omega)
      have v4 : IntKind.u64.wrap (x4 : Int) = (x4 : Int) := IntWalk.u64_in _ (by omega)
      have h8 : nm.size ≤ 8 := s5.1.2
      have hr : Row (wr.alloc (.cells #[.string nm, .int .i64 (x1 : Int), .int .i64 (x2 : Int), .int .i64 (x3 : Int), .int .i64 (x4 : Int)] 54)) wr.heap.size 54 [.string nm, .int .i64 (x1 : Int), .int .i64 (x2 : Int), .int .i64 (x3 : Int), .int .i64 (x4 : Int)] := heap_alloc_new _ _
      have c0 := hr.cell 0
      have c1 := hr.cell 1
      have c2 := hr.cell 2
      have c3 := hr.cell 3
      have c4 := hr.cell 4
      simp only [List.getElem?_cons_zero, List.getElem?_cons_succ] at c0 c1 c2 c3 c4
      have HO3 := Lib.hid (HO.out.alloc (.cells #[.string nm, .int .i64 (x1 : Int), .int .i64 (x2 : Int), .int .i64 (x3 : Int), .int .i64 (x4 : Int)] 54))
      have HB3 := Lib.hid (HBW.out.trans (((Below.refl _ wr).alloc (Nat.le_refl _) (.cells #[.string nm, .int .i64 (x1 : Int), .int .i64 (x2 : Int), .int .i64 (x3 : Int), .int .i64 (x4 : Int)] 54)).mono hszw))
      have HAG : Hid (u5.ownBlock ≠ some wr.heap.size) := fun h => by have := (HO.out.lt _ h).2; omega
      have HEW : Hid (([g, n] ++ ((l.take i).flatMap entW)).map vw ++ [.int .u64 ((packE nm : Nat) : Int), .int .u64 (x1 : Int), .int .u64 (x2 : Int), .int .u64 (x3 : Int), .int .u64 (x4 : Int)] = ([g, n] ++ ((l.take (i + 1)).flatMap entW)).map vw) := by
        unfold Hid; rw [HSN.out, ← List.append_assoc, List.map_append, List.map_append]; rfl
      have HPK : Hid (∀ W, Calls Try.prog 49 #[.string nm] W fun e w' => e = .returned (.int .u64 ((packE nm : Nat) : Int)) ∧ W = w') := fun W => pack_any nm W h8
      have hpk : packE nm < 18446744073709551616 := packR_lt 8 (bts nm) (bts_lt nm)
      generalize packE nm = pk at *
      clear hr hlw HE s5 hok HSN
      have hz3 : (wr.alloc (.cells #[.string nm, .int .i64 (x1 : Int), .int .i64 (x2 : Int), .int .i64 (x3 : Int), .int .i64 (x4 : Int)] 54)).heap.size = wr.heap.size + 1 := by simp
      go_wp2
      generalize wr.alloc (.cells #[.string nm, .int .i64 (x1 : Int), .int .i64 (x2 : Int), .int .i64 (x3 : Int), .int .i64 (x4 : Int)] 54) = w3 at *
      obtain ⟨bx, hbx⟩ : ∃ bx, bx = wr.heap.size := ⟨_, rfl⟩
      rw [← hbx] at c0 c1 c2 c3 c4 HAG ⊢
      have hbx3 : bx < w3.heap.size := by omega
      have hz3' : w.heap.size ≤ w3.heap.size := by omega
      clear d0 d1 d2 d3 d4 hz3 hbx
      go_region_held3 (fun w' => w'.cell? ⟨bx, 0, none⟩ = some (.string nm) ∧ w'.cell? ⟨bx, 1, none⟩ = some (.int .i64 (x1 : Int)) ∧ w'.cell? ⟨bx, 2, none⟩ = some (.int .i64 (x2 : Int)) ∧ w'.cell? ⟨bx, 3, none⟩ = some (.int .i64 (x3 : Int)) ∧ w'.cell? ⟨bx, 4, none⟩ = some (.int .i64 (x4 : Int)))
        (first
          | go_keep
          | (go_split_ands
             refine ⟨?_, ?_, ?_, ?_, ?_⟩ <;> (rw [hgrow.cell_far _ (by simp; omega) (Ne.symm HAG.out)]; assumption)))
        (first
          | (go_at_call 49; refine (HPK.out _).mono ?_; rintro e w4 ⟨rfl, rfl⟩)
          | (refine step_append_lies _ (by rfl) _ _ _ (by rfl) w.heap.size 38 i0 _ 1 8 Try.underlying47 hi0 hz0 hz1 hz2 rfl (by omega) _ (2 + i * 5) _ (by rfl) ((HO3.out.alloc _).drew)
                ⟨w3.heap.size, 0, none⟩ 5 5 [.int .u64 (pk : Int), .int .u64 (x1 : Int), .int .u64 (x2 : Int), .int .u64 (x3 : Int), .int .u64 (x4 : Int)] (by rfl) (by rfl) (World.news_of_block (cs := #[.int .u64 (pk : Int), .int .u64 (x1 : Int), .int .u64 (x2 : Int), .int .u64 (x3 : Int), .int .u64 (x4 : Int)]) (t := 38) (fr := (0, 0)) (heap_alloc_new w3 _)) (by simp [Value.oneCell'])
                (by omega) (by unfold maxLen; omega) (by omega) (by simp; omega) (w3.heap.size + 1) (by simp) ?_; intro gg cap w1 hown1 hgrow hat hlt2))
      have hb4 : Below w.heap.size w w1 := ((below_drewN (HB3.out.alloc hz3' _) 1).grown hgrow (by simp; omega) fun k hk => (HO.out.lt k hk).1)
      have HO4 : Hid (w1.ownsRow w.heap.size 38 1 (.slice (some ⟨gg, 0, none⟩) (2 + i * 5 + 5) cap) (2 + (i + 1) * 5) (([g, n] ++ ((l.take (i + 1)).flatMap entW)).map vw)) := by
        unfold Hid
        rw [← HEW.out, show 2 + (i + 1) * 5 = 2 + i * 5 + 5 by omega]
        exact hown1
      have HB4 := Lib.hid hb4
      clear hown1 hgrow hat HO HO3 hb4
      go_wp2
      go_roundw
      case rel => exact ⟨i + 1, by omega, by go_num, HO4.out, HB4.out⟩
      case measure => simp [intOf]; omega
    · obtain rfl : i = n := by omega
      obtain ⟨gg, cc, cs, rfl, hgg, hrow, hcc, hcm, _, _⟩ := own_row HO.out (by omega)
      have hE : [g, i] ++ (l.take i).flatMap entW = wordsE g l := by
        rw [List.take_of_length_le (by have := HLEN.out; omega)]
        unfold wordsE; rw [HLEN.out]; rfl
      have HRD : Hid (Reads .u64 wr wr.heap.size (some ⟨gg, 0, none⟩) (2 + i * 5) (wordsE g l)) := by
        have h := HO.out
        rw [hE] at h
        obtain ⟨A, c', e1, e2, _⟩ := own_reads (k := .u64) (l := wordsE g l) h (fun x hx => u64_wf (words_u64 hg HF.out x hx))
        injection e1 with e1; subst e1; exact e2
      have HRW := Lib.hid hrow
      clear hrow hE
      go_wp2
      go_ret
      exact ⟨gg, cc, cs, rfl, hgg, HRW.out, hcc, hcm, HRD.out, HBW.out⟩

set_option maxRecDepth 100000 in
theorem payof_det (gg n cc i size : Nat) (ws : List Nat) (hlen : ws.length = n) (hn : n ≤ cc) (hc : cc ≤ maxLen) (h8 : 8 ≤ size) (h256 : size ≤ 256) (hi : i ≤ 100) :
    ∃ A m c2, (∀ (w : World) (B : Nat), Reads .u64 w B (some ⟨gg, 0, none⟩) n ws → Reads .u64 w B A m (partE (size - 2) i ws)) ∧ (m ≤ c2 ∧ c2 ≤ maxLen) ∧
      ∀ w, Calls Try.prog 38 #[.slice (some ⟨gg, 0, none⟩) n cc, .int .i64 i, .int .i64 size] w fun e w' => e = .returned (.slice A m c2) ∧ w = w' := by
  obtain ⟨i0, hi0, hz0, hz1, hz2⟩ := info_parts infoU
  obtain ⟨p, hp⟩ : ∃ p, p = size - 2 := ⟨_, rfl⟩
  have hsub : (size : Int) - 2 = (p : Int) := by omega
  have hb : 6 ≤ p ∧ p ≤ 254 := by omega
  obtain ⟨m1, hm1⟩ : ∃ m1, m1 = p * i := ⟨_, rfl⟩
  obtain ⟨m2, hm2⟩ : ∃ m2, m2 = p * (i + 1) := ⟨_, rfl⟩
  have h12 : m2 = m1 + p := by rw [hm1, hm2, Nat.mul_add, Nat.mul_one]
  have e1 : (p : Int) * (i : Int) = (m1 : Int) := by rw [hm1, Int.natCast_mul]
  have e2 : (p : Int) * ((i : Int) + 1) = (m2 : Int) := by rw [hm2, Int.natCast_mul]; rfl
  have b1 : m1 ≤ 25400 := by rw [hm1]; exact Nat.mul_le_mul hb.2 hi
  have b2 : m1 ≤ m2 ∧ m2 ≤ m1 + 254 := by omega
  have hcut := part_cut p i ws
  rw [← hm1, ← hm2, hlen, hp] at hcut
  rw [← hcut]
  obtain ⟨lo, hlo⟩ : ∃ lo, lo = min m1 n := ⟨_, rfl⟩
  obtain ⟨hh, hhi⟩ : ∃ hh, hh = min m2 n := ⟨_, rfl⟩
  have hlh : lo ≤ hh ∧ hh ≤ n := by omega
  rw [← hlo, ← hhi]
  have el : (if n < m1 then (n : Int) else (m1 : Int)) = (lo : Int) := by split <;> omega
  have eh : (if n < m2 then (n : Int) else (m2 : Int)) = (hh : Int) := by split <;> omega
  have hn2 : n ≤ 9223372036854775807 := by unfold maxLen at hc; omega
  have HEND : hh - lo ≤ cc - lo ∧ cc - lo ≤ maxLen := ⟨by omega, by omega⟩
  have HR1 : ¬ cc = lo → ∀ (w : World) (B : Nat), Reads .u64 w B (some ⟨gg, 0, none⟩) n ws → Reads .u64 w B (some ⟨gg, lo, none⟩) (hh - lo) ((ws.drop lo).take (hh - lo)) := by
    intro _ w B hr
    have h := hr.mid (i := lo) (m := hh - lo) (by omega)
    rw [Nat.zero_add] at h; exact h
  clear hp hm1 hm2 hcut h12 hlen hlo hhi
  by_cases hcl : cc = lo
  · have h0 : hh - lo = 0 := by omega
    have h1 : hh ≤ lo ∧ lo ≤ hh := by omega
    refine ⟨some ⟨gg, 0, none⟩, 0, 0, fun w B _ => ?_, ⟨by omega, by omega⟩, fun w => ?_⟩
    · rw [h0, List.take_zero]; exact ⟨rfl, by simp, fun h => absurd h (by omega)⟩
    · clear HR1 HEND h0
      go_enter Try.func38, Try.ntmps38
      go_wp2
      all_goals go_ret
      all_goals exact ⟨rfl, rfl⟩
  · refine ⟨some ⟨gg, lo, none⟩, hh - lo, cc - lo, HR1 hcl, HEND, fun w => ?_⟩
    clear HR1 HEND
    go_enter Try.func38, Try.ntmps38
    go_wp2
    all_goals go_ret
    all_goals exact ⟨rfl, rfl⟩
theorem payof_any (gg n cc i size : Nat) (ws : List Nat) (w : World) {B : Nat} (hr : Reads .u64 w B (some ⟨gg, 0, none⟩) n ws) (hn : n ≤ cc) (hc : cc ≤ maxLen) (h8 : 8 ≤ size) (h256 : size ≤ 256) (hi : i ≤ 100) :
    Calls Try.prog 38 #[.slice (some ⟨gg, 0, none⟩) n cc, .int .i64 i, .int .i64 size] w fun e w' => ∃ A m c2, e = .returned (.slice A m c2) ∧ Reads .u64 w B A m (partE (size - 2) i ws) ∧ m ≤ c2 ∧ c2 ≤ maxLen ∧ w = w' := by
  obtain ⟨A, m, c2, h1, h2, h3⟩ := payof_det gg n cc i size ws hr.1 hn hc h8 h256 hi
  refine (h3 w).mono ?_
  rintro e w' ⟨rfl, rfl⟩
  exact ⟨A, m, c2, rfl, h1 _ _ hr, h2.1, h2.2, rfl⟩

set_option maxRecDepth 100000 in
theorem hasslots_any (p : Nat) (s : St) (bl bf : Nat) (v : Value) (w : World) (hr : Row w p 74 (cellsOf s bl bf v)) (h8 : 8 ≤ s.size ∧ s.size ≤ 256) :
    Calls Try.prog 28 #[.pointer (some ⟨p, 0, none⟩)] w fun e w' => e = .returned (.bool (decide (2 * (slotE s.size : Int) ≤ s.blocks))) ∧ w' = w := by
  have hz := size_any p s bl bf v w hr
  have hb := blocks_any p s bl bf v w hr
  have hs := slot_any (s.size : Int) w
  rw [if_pos (by omega), Int.toNat_natCast] at hs
  have hpos : 0 < slotE s.size ∧ slotE s.size ≤ 400 := by
    unfold slotE
    constructor
    · exact Nat.div_pos (by omega) (by omega)
    · exact Nat.le_trans (Nat.div_le_self _ _) (by omega)
  generalize slotE s.size = k at *
  have g0 : decide ((k : Int) > 0) = true := by simp; omega
  have g1 : decide (s.blocks ≥ 2 * (k : Int)) = decide (2 * (k : Int) ≤ s.blocks) := rfl
  go_enter Try.func28, Try.ntmps28
  go_wp2_with fail
  refine hz.mono ?_; rintro e w1 ⟨rfl, rfl⟩
  go_wp2_with fail
  refine hs.mono ?_; rintro e w2 ⟨rfl, rfl⟩
  go_wp2_with fail
  refine hb.mono ?_; rintro e w3 ⟨rfl, rfl⟩
  go_wp2
  go_ret
  exact ⟨ret_bool (by simp), rfl⟩
end Go.Proofs.Ythdibijkiogpjaa
