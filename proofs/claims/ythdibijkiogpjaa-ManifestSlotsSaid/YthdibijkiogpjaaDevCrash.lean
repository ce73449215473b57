/- What the device's Crash answers. -/
import Derived.Test.YthdibijkiogpjaaDevSync
namespace Go.Proofs.Ythdibijkiogpjaa
open Go.ChangeShapes Go.WideShapes Go.ChangeAt Go.RowKit Go.Maps

/-- two lists of writes that are alike, write by write -/
def Pair (R : Value → List Nat → Prop) : List (Int × Value) → List (Int × List Nat) → Prop
  | [], [] => True
  | a :: xs, b :: ys => (a.1 = b.1 ∧ R a.2 b.2) ∧ Pair R xs ys
  | _, _ => False
theorem Pair.of {R : Value → List Nat → Prop} : ∀ (xs : List (Int × Value)) (ys : List (Int × List Nat)), xs.length = ys.length → (∀ (i : Nat) (r : Int × Value) (e : Int × List Nat), xs[i]? = some r → ys[i]? = some e → r.1 = e.1 ∧ R r.2 e.2) → Pair R xs ys
  | [], [], _, _ => trivial
  | a :: xs, b :: ys, hl, h => ⟨h 0 a b rfl rfl, Pair.of xs ys (by simpa using hl) fun i r e hr he => h (i + 1) r e (by simpa using hr) (by simpa using he)⟩
  | [], b :: ys, hl, _ => by simp at hl
  | a :: xs, [], hl, _ => by simp at hl
theorem Pair.kept {R : Value → List Nat → Prop} : ∀ (keep : List Bool) (xs : List (Int × Value)) (ys : List (Int × List Nat)), Pair R xs ys → Pair R (kept keep xs) (kept keep ys)
  | keep, [], [], _ => by cases keep <;> trivial
  | [], a :: xs, b :: ys, _ => trivial
  | k :: keep, a :: xs, b :: ys, h => by
    have := Pair.kept keep xs ys h.2
    cases k
    · exact this
    · exact ⟨h.1, this⟩
  | _, [], b :: ys, h => h.elim
  | _, a :: xs, [], h => h.elim
theorem Pair.lay {w : World} {G : Nat → Prop} : ∀ (xs : List (Int × Value)) (ys : List (Int × List Nat)) (f : Int → Option Value) (g : Int → Option (List Nat)), Pair (Words w G) xs ys → (∀ x, Rel w G (f x) (g x)) → ∀ x, Rel w G (lay f xs x) (lay g ys x)
  | [], [], f, g, _, h => h
  | a :: xs, b :: ys, f, g, hp, h => by
    refine Pair.lay xs ys (upd f a.1 a.2) (upd g b.1 b.2) hp.2 fun x => ?_
    rw [← hp.1.1]
    by_cases e : x = a.1
    · subst e; rw [upd_same, upd_same]; exact hp.1.2
    · rw [upd_other _ _ e, upd_other _ _ e]; exact h x
  | [], b :: ys, _, _, h, _ => h.elim
  | a :: xs, [], _, _, h, _ => h.elim

/-- the new device -/
theorem crash_end {G : Nat → Prop} {p p' n bc nl : Nat} {s : St} {keep : List Bool} {w w3 w4 : World} {v : Value} {bl bf : Nat} {gl : Int → Option Value} {rs : List (Int × Value)}
    (hfit : Fits s n) (k1 : Row w p 74 (cellsOf s bl bf v)) (k9 : ∀ k, G k → k < w.heap.size) (k10 : nl + s.later.length ≤ n)
    (hrl : ∀ x, Rel w G (gl x) (s.fl x)) (o2 : rs.length = s.later.length) (o3 : ∀ (i : Nat) (r : Int × Value) (e : Int × List Nat), rs[i]? = some r → s.later[i]? = some e → r.1 = e.1 ∧ Words w G r.2 e.2)
    (F3 : Far (fun k => k = p ∨ k = bc) w w3) (hbc : w.heap.size ≤ bc) (hm3 : MapF w3 bc (nl + s.later.length) (lay gl (kept keep rs)))
    (hb4 : Below w3.heap.size w3 w4) (hp' : p' = w3.heap.size + 1) (hm4 : MapF w4 w3.heap.size 0 nothing) (hr4 : Row w4 p' 74 (cellsOf (fresh s.size s.blocks) bc w3.heap.size (.slice none 0 0))) (hz4 : w4.heap.size = w3.heap.size + 2) :
    ∃ G', Dev (w4.setCell ⟨p', 10, none⟩ (.int .i64 s.acts)) G' p' (crash s keep) n ∧ Far (fun k => k = p) w (w4.setCell ⟨p', 10, none⟩ (.int .i64 s.acts)) ∧ ∀ k, G' k → (G k ∧ k ≠ p) ∨ w.heap.size ≤ k := by
  have hz3 := F3.size
  have F4 : Far (fun k => k = p ∨ k = bc) w w4 := F3.trans (Far.of_below hb4 fun _ => False) fun _ hf => hf.elim
  have F5 : Far (fun k => k = p) w (w4.setCell ⟨p', 10, none⟩ (.int .i64 s.acts)) := by
    have h1 : Far (fun k => k = p) w w4 := ⟨F4.os, F4.tape, F4.output, F4.size, fun k hk hn => F4.block k hk fun hf => by
      rcases hf with hf | hf
      · exact hn hf
      · omega⟩
    exact h1.set (.inr (by show w.heap.size ≤ p'; omega)) _
  have hrows : ∀ k cs, Row w k 38 cs → k ≠ p := fun k cs hk e => by
    subst e; unfold Row at k1 hk; rw [k1] at hk; injection hk with hk; injection hk with _ hk; exact absurd hk (by decide)
  have hkeep : ∀ k cs, Row w k 38 cs → G k → (w4.setCell ⟨p', 10, none⟩ (.int .i64 s.acts)).heap[k]? = w.heap[k]? := fun k cs hk _ => F5.block k hk.lt (hrows k cs hk)
  have z5 : (w4.setCell ⟨p', 10, none⟩ (.int .i64 s.acts)).heap.size = w4.heap.size := by simp
  have h5r : Row (w4.setCell ⟨p', 10, none⟩ (.int .i64 s.acts)) p' 74 (cellsOf (crash s keep) bc w3.heap.size (.slice none 0 0)) := hr4.set 10 _
  have hold : ∀ k, k ≠ p' → (w4.setCell ⟨p', 10, none⟩ (.int .i64 s.acts)).heap[k]? = w4.heap[k]? := fun k hk => heap_setCell_other w4 ⟨p', 10, none⟩ k _ hk
  have hbc3 := hm3.lt
  refine ⟨fun k => (G k ∧ k ≠ p) ∨ k = bc ∨ k = w3.heap.size ∨ k = p', ⟨⟨hfit.size, hfit.blocks, ⟨Int.le_refl 0, (by decide : (0 : Int) ≤ 1000000)⟩, ⟨Int.le_refl 0, (by decide : (0 : Int) ≤ 1000000)⟩, hfit.acts, hfit.small, fun e he => (by cases he), ?_⟩, bc, w3.heap.size, .slice none 0 0, nl + s.later.length, h5r, ⟨_, ((hm3.same (hb4.block bc hbc3)).same (hold bc (by omega))), fun x => ?_⟩, ⟨nothing, hm4.same (hold _ (by omega)), fun x => trivial⟩, Later.nil _ _, by omega, .inr (.inr (.inr rfl)), .inr (.inl rfl), .inr (.inr (.inl rfl)), fun k hk => ?_, k10⟩, F5, fun k hk => ?_⟩
  · exact lay_all (fun l => l.length = s.size) (kept keep s.later) s.fl hfit.fl fun e he => (hfit.later e (kept_mem keep s.later e he)).2
  · refine Pair.lay (kept keep rs) (kept keep s.later) gl s.fl (Pair.kept keep rs s.later (Pair.of rs s.later o2 fun i r e hr he => ⟨(o3 i r e hr he).1, (o3 i r e hr he).2.keep hkeep fun k cs hk hg => .inl ⟨hg, hrows k cs hk⟩⟩)) (fun x => (hrl x).keep hkeep fun k cs hk hg => .inl ⟨hg, hrows k cs hk⟩) x
  · rw [z5, hz4]
    rcases hk with hk | hk | hk | hk
    · have := k9 k hk.1; omega
    · omega
    · omega
    · omega
  · rcases hk with hk | hk | hk | hk
    · exact .inl hk
    · exact .inr (by omega)
    · exact .inr (by omega)
    · exact .inr (by omega)

set_option maxHeartbeats 1600000 in
set_option maxRecDepth 100000 in
theorem crash_any (p : Nat) (s : St) (n : Nat) (G : Nat → Prop) (A : Option Addr) (m c : Nat) (keep : List Bool) (w : World) {B : Nat} (h : Dev w G p s n) (hk : ReadsB w B A m keep) (hB : B ≤ w.heap.size) (hG : 0 < m → ∀ b off, A = some ⟨b, off, none⟩ → b ≠ p) (hm : m ≤ 1000000) :
    Calls Try.prog 18 #[.pointer (some ⟨p, 0, none⟩), .slice A m c] w fun e w' => ∃ p' G', e = .returned (.pointer (some ⟨p', 0, none⟩)) ∧ Dev w' G' p' (crash s keep) n ∧ Far (fun k => k = p) w w' ∧ (∀ k, G' k → (G k ∧ k ≠ p) ∨ w.heap.size ≤ k) ∧
      (∃ bl bf v, Row w' p 74 (cellsOf { s with down := true } bl bf v)) := by
  obtain ⟨hfit, bl, bf, v, nl, k1, k2, k3, k4, k5, k6, k7, k8, k9, k10⟩ := id h
  obtain ⟨gl, hml, hrl⟩ := k2
  obtain ⟨A1, q1, rfl⟩ := k4.form
  obtain ⟨rs, o1, o2, o3, o4⟩ := id k4
  have f9 := k1.free 9
  have c9 : w.cell? ⟨p, 9, none⟩ = some (.bool s.down) := k1.cell 9
  have hr1 : Row (w.setCell ⟨p, 9, none⟩ (.bool true)) p 74 (cellsOf { s with down := true } bl bf (.slice A1 s.later.length q1)) := k1.cellsSet 9 _ rfl
  have hsm := hfit.small
  have HPB : Hid (p ≠ bl) := hml.not_row k1
  have hml1 : MapF (w.setCell ⟨p, 9, none⟩ (.bool true)) bl nl gl := hml.same (heap_setCell_other w ⟨p, 9, none⟩ bl _ HPB.out.symm)
  have hcl := mclone_any bl nl gl (w.setCell ⟨p, 9, none⟩ (.bool true)) hml1
  have c2 : (w.setCell ⟨p, 9, none⟩ (.bool true)).cell? ⟨p, 2, none⟩ = some (.map (some bl)) := hr1.cell 2
  have HF1 := Lib.hid (far_p (Far.refl (fun k => k = p) w) 9 (.bool true))
  have HR1 := Lib.hid hr1
  have hz1 : (w.setCell ⟨p, 9, none⟩ (.bool true)).heap.size = w.heap.size := by simp
  have HZ1 := Lib.hid hz1
  have HO1 : Hid ((w.setCell ⟨p, 9, none⟩ (.bool true)).ownsRow 0 82 2 (.slice A1 s.later.length q1) s.later.length (flatW rs)) := ownsRow_same o1 fun k hk => heap_setCell_other w ⟨p, 9, none⟩ k _ fun e => k4.not_row k1 (by decide) (by rw [hk]; exact congrArg some e)
  have HOL := Lib.hid o1.lt
  have HVP : Hid ((Value.slice A1 s.later.length q1).ownBlock ≠ some p) := k4.not_row k1 (by decide)
  have HEND := Lib.hid (fun (w3 w4 : World) (bc p' : Nat) (F3 : Far (fun k => k = p ∨ k = bc) w w3) (hbc : w.heap.size ≤ bc) (hm3 : MapF w3 bc (nl + s.later.length) (lay gl (kept keep rs))) (hb4 : Below w3.heap.size w3 w4) (hp' : p' = w3.heap.size + 1) (hm4 : MapF w4 w3.heap.size 0 nothing) hr4 hz4 =>
    crash_end hfit k1 k9 k10 hrl o2 o3 F3 hbc hm3 hb4 hp' hm4 hr4 hz4)
  have HSH : Hid (∀ (i : Nat) (r : Int × Value), rs[i]? = some r → I64 r.1 ∧ ∃ a b c, r.2 = .slice a b c) := by
    intro i r hr
    have hi : i < rs.length := (List.getElem?_eq_some_iff.1 hr).1
    have he : s.later[i]? = some (s.later[i]'(by omega)) := List.getElem?_eq_getElem (by omega)
    obtain ⟨a1, g, cc, cs, a2, _⟩ := o3 i r _ hr he
    exact ⟨by rw [a1]; exact (hfit.later _ (List.getElem_mem _)).1, _, _, _, a2⟩
  have HLEN := Lib.hid o2
  have hll : s.later.length ≤ 1000000 := by omega
  have hnl : nl + s.later.length ≤ 1000000 := by omega
  have HML := Lib.hid hml1
  have HKB : Hid (ReadsB (w.setCell ⟨p, 9, none⟩ (.bool true)) B A m keep) := hk.far hB HF1.out fun hm b off hA e => hG hm b off hA e
  have hkl := hk.1
  have HKL := Lib.hid hkl
  have HPLT := Lib.hid k1.lt
  clear k1 k3 k4 k5 k6 k7 k8 k9 k10 hrl o1 o2 o3 o4 hml hml1 hr1 hfit h hk hkl hsm hz1
  go_enter Try.func18, Try.ntmps18
  go_wp2_with fail
  refine hcl.mono ?_
  rintro e w2 ⟨rfl, hm2, hb2, hz2⟩
  rw [HZ1.out] at hm2 hb2 hz2 ⊢
  have hr2 := HR1.out.below hb2 (by have := HPLT.out; omega)
  have c4 : w2.cell? ⟨p, 4, none⟩ = some (.slice A1 s.later.length q1) := hr2.cell 4
  have HR2 := Lib.hid hr2
  have HO2 := Lib.hid (ownsRow_same HO1.out fun k hk => hb2.block k (HOL.out k hk).2)
  have HM2 := Lib.hid hm2
  have HK2 := Lib.hid (HKB.out.keep (hb2.mono hB))
  have HF2 := Lib.hid (HF1.out.trans (Far.of_below (by rw [HZ1.out]; exact hb2) fun _ => False) fun _ hf => hf.elim)
  obtain ⟨bc, hbc⟩ : ∃ bc, w.heap.size = bc := ⟨_, rfl⟩
  rw [hbc] at hm2 hb2 hz2 HM2 ⊢
  have HBC := Lib.hid hbc
  have HZ2 := Lib.hid hz2
  have HPL : Hid (p < bc) := by unfold Hid; rw [← hbc]; exact HPLT.out
  have HOL2 : Hid (∀ k, (Value.slice A1 s.later.length q1).ownBlock = some k → k < bc) := fun k hk => by have := (HOL.out k hk).2; rw [hbc] at this; exact this
  clear hr2 hm2 hb2 hz2 hcl hbc c2 c9 f9
  go_wp2
  go_loopw [24] (fun iv wr => ∃ k : Nat, iv = .int .i64 (k : Int) ∧ k ≤ s.later.length ∧ Hid (MapF wr bc (nl + k) (lay gl (kept keep (rs.take k)))) ∧ Hid (Far (fun b => b = bc) w2 wr)) (fun iv _ => s.later.length - (intOf iv).toNat)
  case atStart =>
    refine ⟨0, rfl, Nat.zero_le _, ?_, Far.refl _ _⟩
    rw [List.take_zero]
    have : kept keep ([] : List (Int × Value)) = [] := by cases keep <;> rfl
    rw [this]; exact HM2.out
  case round =>
    obtain ⟨k, rfl, hkl, HM, HF⟩ := hrel
    have HBW : Hid (Below bc w2 wr) := HF.out.below (by have := HZ2.out; omega) fun b hb => by omega
    have hzr := HF.out.size
    by_cases hlt : k < s.later.length
    · obtain ⟨g, hA1⟩ : ∃ g, A1 = some ⟨g, 0, none⟩ := by
        rcases HO2.out.2 with ⟨_, h0⟩ | ⟨g, cap, cur, hv, _⟩
        · omega
        · injection hv with hv; exact ⟨g, hv⟩
      subst hA1
      have hgb : g < bc := HOL2.out g rfl
      have hown := ownsRow_same HO2.out (w' := wr) fun k' hk' => HBW.out.block k' (HOL2.out k' hk')
      have hrk : rs[k]? = some (rs[k]'(by rw [HLEN.out]; exact hlt)) := List.getElem?_eq_getElem _
      generalize rs[k]'(by rw [HLEN.out]; exact hlt) = r at hrk
      obtain ⟨i, u⟩ := r
      obtain ⟨hi, a, b, cc, hu⟩ := HSH.out k _ hrk
      simp only at hi hu
      subst hu
      obtain ⟨x0, x1⟩ := flatW_at rs k _ hrk
      have d0 : wr.cell? ⟨g, k * 2, none⟩ = some (.int .i64 i) := by have := hown.cells (g := g) rfl _ _ x0; rw [add_row] at this; exact this
      have d1 : wr.cell? ⟨g, k * 2 + 1, none⟩ = some (.slice a b cc) := by have := hown.cells (g := g) rfl _ _ x1; rw [add_row] at this; exact this
      have HTK : Hid (kept keep (rs.take (k + 1)) = if keep.getD k false then kept keep (rs.take k) ++ [(i, .slice a b cc)] else kept keep (rs.take k)) := kept_take keep rs hrk
      have hj0 : (0 : Int) ≤ (k : Int) := by omega
      have hj1 : (k : Int) < (s.later.length : Int) := by omega
      have hgw : g < wr.heap.size := by have := HZ2.out; omega
      have HKR := Lib.hid (HK2.out.keep (HBW.out.mono (by rw [← HBC.out]; exact hB)))
      have HRA : Hid (wr.heap.size ≠ g) := Nat.ne_of_gt hgw
      clear hown x0 x1 hrk
      obtain ⟨q, hq⟩ : ∃ q, keep.getD k false = q := ⟨_, rfl⟩
      have HQ := Lib.hid hq
      -- the two ways: kept or not
      have hput : ∀ (w5 : World) (D : DataW Value), q = true → (wr.alloc (.cells #[.int .i64 i, .slice a b cc] 82)).grownBy w5 (some bc) → w5.ownsMap Try.prog 3 keepV bc (nl + k + 1) D → Fn D (upd (lay gl (kept keep (rs.take k))) i (.slice a b cc)) →
          Hid (MapF w5 bc (nl + (k + 1)) (lay gl (kept keep (rs.take (k + 1))))) ∧ Hid (Far (fun b => b = bc) w2 w5) := by
        intro w5 D hq1 hg5 hD hFn
        refine ⟨?_, (HF.out.alloc _).grown hg5 fun k' hk' => by injection hk' with hk'; exact .inl hk'.symm⟩
        have e : lay gl (kept keep (rs.take (k + 1))) = upd (lay gl (kept keep (rs.take k))) i (.slice a b cc) := by
          rw [HTK.out, HQ.out, hq1, if_pos rfl, lay_snoc]
        unfold Hid
        rw [e]
        exact ⟨D, hD.mono (by omega), hFn⟩
      have hskip : ∀ (o : Obj), q = false → Hid (MapF (wr.alloc o) bc (nl + (k + 1)) (lay gl (kept keep (rs.take (k + 1))))) ∧ Hid (Far (fun b => b = bc) w2 (wr.alloc o)) := by
        intro o hq0
        refine ⟨?_, HF.out.alloc _⟩
        have e : kept keep (rs.take (k + 1)) = kept keep (rs.take k) := by rw [HTK.out, HQ.out, hq0]; rfl
        unfold Hid
        rw [e]
        exact (HM.out.same (Below.heap_alloc _ _ _ HM.out.lt)).mono (by omega)
      have HPUT := Lib.hid hput
      have HSKIP := Lib.hid hskip
      clear hput hskip hq
      by_cases hkm : k < m
      · obtain ⟨_, hc⟩ := HKR.out
        obtain ⟨kb, koff, rfl, hkb, hc⟩ := hc (by omega)
        have e0 : wr.cell? ⟨kb, koff + k, none⟩ = some (.bool q) := by rw [← HQ.out]; exact hc k hkm
        have hj2 : (k : Int) < (m : Int) := by omega
        have hkw : kb < wr.heap.size := by have := HZ2.out; have := HBC.out; omega
        have g0 : decide ((k : Int) < (m : Int)) = true := by simpa using hkm
        clear hc
        cases q
        · go_wp2
          obtain ⟨x1, x2⟩ := HSKIP.out (.cells #[.int .i64 i, .slice a b cc] 82) rfl
          go_roundw
          case rel => exact ⟨k + 1, by go_num, by omega, x1, x2⟩
          case measure => simp [intOf]; omega
        · go_wp2_with (with_reducible refine stopMap ?_)
          unfold Hid
          have hMA := HM.out.same (w' := wr.alloc (.cells #[.int .i64 i, .slice a b cc] 82)) (Below.heap_alloc _ _ _ HM.out.lt)
          obtain ⟨D, hD, hFn⟩ := hMA
          refine wpList_mapUpdate_own _ rfl _ _ _ 59 rfl 3 47 law Try.underlying59 keepV bc _ D rfl hD (by unfold maxLen; omega) _ _ _ rfl rfl (keyI hi) (.held _) [] rfl ?_
          intro w5 hD5 hg5
          obtain ⟨x1, x2⟩ := HPUT.out w5 _ (by trivial) hg5 hD5 (hFn.put hi _)
          clear hD hFn hD5 hg5
          go_wp2
          go_roundw
          case rel => exact ⟨k + 1, by go_num, by omega, x1, x2⟩
          case measure => simp [intOf]; omega
      · have g0 : decide ((k : Int) < (m : Int)) = false := by simpa using hkm
        have hq0 : q = false := by
          rw [← HQ.out, List.getD_eq_getElem?_getD, List.getElem?_eq_none (by have := HKL.out; omega)]; rfl
        go_wp2
        obtain ⟨x1, x2⟩ := HSKIP.out (.cells #[.int .i64 i, .slice a b cc] 82) hq0
        go_roundw
        case rel => exact ⟨k + 1, by go_num, by omega, x1, x2⟩
        case measure => simp [intOf]; omega
    · obtain rfl : k = s.later.length := by omega
      have hm3 : MapF wr bc (nl + s.later.length) (lay gl (kept keep rs)) := by
        have := HM.out
        rw [← HLEN.out, List.take_length] at this
        rw [← HLEN.out]; exact this
      have hr3 := HR2.out.below HBW.out HPL.out
      have c0 : wr.cell? ⟨p, 0, none⟩ = some (.int .i64 (s.size : Int)) := hr3.cell 0
      have c1 : wr.cell? ⟨p, 1, none⟩ = some (.int .i64 s.blocks) := hr3.cell 1
      have c10 : wr.cell? ⟨p, 10, none⟩ = some (.int .i64 s.acts) := hr3.cell 10
      have HR3 := Lib.hid hr3
      have hho := holding_any s.size s.blocks bc wr.drew
      have hF3 : Far (fun k => k = p ∨ k = bc) w wr := (HF2.out.mono fun b hb => .inl hb).trans (HF.out.mono fun b hb => (.inr hb : b = p ∨ b = bc)) fun b hb => .inl hb
      have HF3 := Lib.hid hF3
      have HM3 := Lib.hid hm3
      have hpw : p < wr.heap.size := hr3.lt
      clear hm3 hr3 hF3
      go_wp2
      go_region_held3 (fun w' => w'.cell? ⟨p, 0, none⟩ = some (.int .i64 (s.size : Int)) ∧ w'.cell? ⟨p, 1, none⟩ = some (.int .i64 s.blocks)) (first | exact ⟨c0, c1⟩ | exact ⟨e0, e1⟩) ((go_at_call 26; refine hho.mono ?_; rintro e w4 ⟨rfl, hm4, hr4, hb4, hz4⟩; obtain ⟨e0, e1, e10, HM4, HR4, HB4, HZ4⟩ : w4.cell? ⟨p, 0, none⟩ = some (.int .i64 (s.size : Int)) ∧ w4.cell? ⟨p, 1, none⟩ = some (.int .i64 s.blocks) ∧ w4.cell? ⟨p, 10, none⟩ = some (.int .i64 s.acts) ∧ Hid (MapF w4 wr.heap.size 0 nothing) ∧ Hid (Row w4 (wr.heap.size + 1) 74 (cellsOf (fresh s.size s.blocks) bc wr.heap.size (.slice none 0 0))) ∧ Hid (Below wr.heap.size wr w4) ∧ Hid (w4.heap.size = wr.heap.size + 2) := ⟨(hb4.cell (p := ⟨p, 0, none⟩) hpw).trans c0, (hb4.cell (p := ⟨p, 1, none⟩) hpw).trans c1, (hb4.cell (p := ⟨p, 10, none⟩) hpw).trans c10, hm4, hr4, ⟨hb4.os, hb4.tape, hb4.output, hb4.size, hb4.block⟩, hz4⟩))
      have f10 : w4.frozen? ⟨wr.heap.size + 1, 10, none⟩ = false := HR4.out.free 10
      have d10 : w4.cell? ⟨wr.heap.size + 1, 10, none⟩ = some (.int .i64 0) := HR4.out.cell 10
      obtain ⟨G', hd5, hf5, hg5⟩ := HEND.out wr w4 bc (wr.heap.size + 1) HF3.out (by rw [HBC.out]; exact Nat.le_refl _) HM3.out HB4.out rfl HM4.out HR4.out HZ4.out
      have HD5 := Lib.hid hd5
      have HF5 := Lib.hid hf5
      have HG5 := Lib.hid hg5
      clear hd5 hf5 hg5 hho hm4 hr4 hb4 hz4 e0 e1 c0 c1 c10
      go_wp2
      go_ret
      refine ⟨_, G', rfl, HD5.out, HF5.out, HG5.out, bl, bf, .slice A1 s.later.length q1, ?_⟩
      exact ((HR3.out.below HB4.out hpw).far (p := ⟨wr.heap.size + 1, 10, none⟩) (by show p ≠ wr.heap.size + 1; omega) _)
theorem crash_nil (v : Value) (w : World) : Calls Try.prog 18 #[.pointer none, v] w fun e w' => e = .returned (.pointer none) ∧ w' = w := by
  go_enter Try.func18, Try.ntmps18
  go_wp2
  go_ret
  exact ⟨rfl, rfl⟩
end Go.Proofs.Ythdibijkiogpjaa
