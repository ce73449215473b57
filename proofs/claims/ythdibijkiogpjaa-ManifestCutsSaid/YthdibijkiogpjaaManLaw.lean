/- Entries that came in; what few, plain, the reference's Same and awake answer. -/
import Derived.Test.YthdibijkiogpjaaManInv
import Derived.Laws.StructEq
namespace Go.Proofs.Ythdibijkiogpjaa
open Go.ChangeShapes Go.WideShapes Go.ChangeAt Go.RowKit

section
variable {H : Type} {enc : TypeId × Value → H} {P : Program} {w : World} {base b0 : Nat} {spare : Nat → Bool} {held : Bool}
open Go.Joins Go.Deep
/-- A slice of entries that came in. -/
theorem open_entries {t e i s : TypeId} {f0 f1 f2 f3 f4 : Field} {fuel : Nat} {v : Value} {x : DataW H × List MemPlace} (ht : P.underlying t = some (.slice e)) (he : P.underlying e = some (.struct #[f0, f1, f2, f3, f4]))
    (hone : oneCellFields P #[f0, f1, f2, f3, f4] = true) (hC : P.cellsOf e = 5) (hi : P.underlying i = some (.int .i64)) (hs : P.underlying s = some .string) (h0 : f0.type = s) (h1 : f1.type = i) (h2 : f2.type = i) (h3 : f3.type = i) (h4 : f4.type = i)
    (h : DataW.trod enc P w base spare held fuel t [v] = some x) :
    ∃ a len cap l, v = .slice a len cap ∧ ReadsN w w.heap.size a len l ∧ len ≤ maxLen := by
  rcases open_slice_fields ht he hone hC h with h2 | ⟨a, len, cap, m, hcs, hl, hm, hlm, hf⟩
  · injection h2 with h2; subst h2
    exact ⟨none, 0, 0, [], rfl, ReadsN.nil _ _ _, Nat.zero_le _⟩
  · injection hcs with hcs; subst hcs
    have hex : ∀ k, k < len → ∃ o : Ent, EntOk o ∧ ∀ (j : Nat) (u : Value), (entC o)[j]? = some u → w.cell? (a.add (k * 5 + j)) = some u := by
      intro k hk
      obtain ⟨c0, n0, y0, e0, t0⟩ := hf k (by omega) 0 f0 rfl
      obtain ⟨c1, n1, y1, e1, t1⟩ := hf k (by omega) 1 f1 rfl
      obtain ⟨c2, n2, y2, e2, t2⟩ := hf k (by omega) 2 f2 rfl
      obtain ⟨c3, n3, y3, e3, t3⟩ := hf k (by omega) 3 f3 rfl
      obtain ⟨c4, n4, y4, e4, t4⟩ := hf k (by omega) 4 f4 rfl
      obtain ⟨z0, q0, _, w0⟩ := DataW.trod_string (h0 ▸ hs) t0
      obtain ⟨z1, q1, _, w1⟩ := DataW.trod_int (h1 ▸ hi) t1
      obtain ⟨z2, q2, _, w2⟩ := DataW.trod_int (h2 ▸ hi) t2
      obtain ⟨z3, q3, _, w3⟩ := DataW.trod_int (h3 ▸ hi) t3
      obtain ⟨z4, q4, _, w4⟩ := DataW.trod_int (h4 ▸ hi) t4
      injection q0 with q0; injection q1 with q1; injection q2 with q2; injection q3 with q3; injection q4 with q4
      subst q0; subst q1; subst q2; subst q3; subst q4
      refine ⟨⟨z0, z1, z2, z3, z4⟩, ⟨⟨w1, w2, w3, w4⟩, w0⟩, fun j u hj => ?_⟩
      match j, hj with
      | 0, hj => simp [entC] at hj; subst hj; exact e0
      | 1, hj => simp [entC] at hj; subst hj; exact e1
      | 2, hj => simp [entC] at hj; subst hj; exact e2
      | 3, hj => simp [entC] at hj; subst hj; exact e3
      | 4, hj => simp [entC] at hj; subst hj; exact e4
      | j + 5, hj => simp [entC] at hj
    obtain ⟨f, hf⟩ : ∃ f : Nat → Ent, ∀ k, k < len → EntOk (f k) ∧ ∀ (j : Nat) (u : Value), (entC (f k))[j]? = some u → w.cell? (a.add (k * 5 + j)) = some u := by
      have : ∀ k, ∃ o : Ent, k < len → EntOk o ∧ ∀ (j : Nat) (u : Value), (entC o)[j]? = some u → w.cell? (a.add (k * 5 + j)) = some u := fun k => by
        by_cases hk : k < len
        · obtain ⟨o, ho⟩ := hex k hk; exact ⟨o, fun _ => ho⟩
        · exact ⟨ent0, fun h => absurd h hk⟩
      exact ⟨fun k => (this k).choose, fun k => (this k).choose_spec⟩
    have hspot : 0 < len → a.spot = none := fun hp => by
      have := (hf 0 hp).2 0 _ rfl
      simpa [Addr.add] using World.cell?_spot this
    obtain ⟨b, off, spot⟩ := a
    have e : ∀ k j, spot = none → (⟨b, off, spot⟩ : Addr).add (k * 5 + j) = ⟨b, off + k * 5 + j, none⟩ := by
      intro k j hs; subst hs; unfold Addr.add; split <;> simp_all [Nat.add_assoc]
    refine ⟨_, len, cap, (List.range len).map f, rfl, ⟨by simp, ?_, fun hpos => ?_⟩, by omega⟩
    · intro o ho
      obtain ⟨k, hk, rfl⟩ := List.mem_map.1 ho
      exact (hf k (List.mem_range.1 hk)).1
    · have hs : spot = none := hspot hpos
      subst hs
      refine ⟨b, off, rfl, ?_, fun k hkl j u hj => ?_⟩
      · have := (hf 0 hpos).2 0 _ rfl; rw [e _ _ rfl] at this; exact block_lt_of_cell this
      · have hD : ((List.range len).map f).getD k ent0 = f k := by
          rw [List.getD_eq_getElem?_getD, List.getElem?_map, List.getElem?_range hkl]; rfl
        rw [hD] at hj
        have := (hf k hkl).2 j u hj
        rw [e _ _ rfl] at this; exact this
end

/-- few's answer -/
def FewP (v : Value) (n : Nat) : Prop := ∃ r, v = .bool r ∧ (r = true → n ≤ 20)
set_option maxRecDepth 100000 in
theorem few_any (a : Option Addr) (n c : Nat) (l : List Ent) (w : World) {B : Nat} (hl : ReadsN w B a n l) (hn : n ≤ maxLen) :
    Calls Try.prog 8 #[.slice a n c] w fun e w' => ∃ v, e = .returned v ∧ w' = w ∧ FewP v n := by
  have hn2 : n ≤ 9223372036854775807 := by unfold maxLen at hn; omega
  go_enter Try.func8, Try.ntmps8
  go_wp2
  go_loopw [3] (fun iv wr => ∃ i : Nat, i ≤ n ∧ i ≤ 30 ∧ iv = .int .i64 (i : Int) ∧ wr = w) (fun iv _ => n - (intOf iv).toNat)
  case atStart => exact ⟨0, by omega, by omega, rfl, by trivial⟩
  case round =>
    obtain ⟨i, hi, hi2, rfl, rfl⟩ := hrel
    by_cases hlt : i < n
    · have g0 : decide ((i : Int) < (n : Int)) = true := by simpa using hlt
      by_cases h100 : i < 30
      · have g1 : decide ((i : Int) < 30) = true := by simp; omega
        obtain ⟨b, off, o, rfl, hb, d0, d1, d2, d3, d4, ho, _⟩ := hl.at_ hlt
        have hj0 : (0 : Int) ≤ (i : Int) := by omega
        have hj1 : (i : Int) < (n : Int) := by omega
        obtain ⟨nm, _, _, _, _⟩ := o
        have hns := ho.2
        unfold maxLen at hns
        simp only at d0 hns
        by_cases hk : nm.size > 1000
        · have g2 : decide ((nm.size : Int) > 1000) = true := by simp; omega
          go_wp2
          go_ret
          exact ⟨_, rfl, rfl, false, rfl, fun h => by cases h⟩
        · have g2 : decide ((nm.size : Int) > 1000) = false := by simp; omega
          go_wp2
          go_roundw
          case rel => exact ⟨i + 1, by omega, by omega, by go_num, by trivial⟩
          case measure => simp [intOf]; omega
      · have g1 : decide ((i : Int) < 30) = false := by simp; omega
        go_wp2
        go_ret
        exact ⟨_, rfl, rfl, _, rfl, fun h => by have := of_decide_eq_true h; omega⟩
    · have g0 : decide ((i : Int) < (n : Int)) = false := by simpa using hlt
      go_wp2
      go_ret
      exact ⟨_, rfl, rfl, _, rfl, fun h => by have := of_decide_eq_true h; omega⟩

theorem infoRE : (Try.prog.info? 55).map (fun i => (i.zero, i.size, i.bytes)) = some (some (.agg #[.string ⟨#[]⟩, .int .i64 0, .int .i64 0, .int .i64 0, .int .i64 0]), 5, 48) := by kernel_rfl
set_option maxHeartbeats 1600000 in
set_option maxRecDepth 100000 in
theorem plain_any (a : Option Addr) (n c : Nat) (l : List Ent) (w : World) {B : Nat} (hl : ReadsN w B a n l) (hB : B ≤ w.heap.size) (hn : n ≤ 1000000) :
    Calls Try.prog 11 #[.slice a n c] w fun e w' => ∃ v, e = .returned v ∧ w'.ownsRow w.heap.size 55 5 v n (flatN l) ∧ Below w.heap.size w w' := by
  obtain ⟨i0, hi0, hz0, hz1, hz2⟩ := info_parts infoRE
  have HLEN := Lib.hid hl.1
  have HL := Lib.hid hl
  clear hl
  go_enter Try.func11, Try.ntmps11
  go_wp2
  go_loopw [4, 3] (fun iv dv wr => ∃ i : Nat, i ≤ n ∧ iv = .int .i64 (i : Int) ∧ Hid (wr.ownsRow w.heap.size 55 5 dv i (flatN (l.take i))) ∧ Hid (Below w.heap.size w wr)) (fun iv _ _ => n - (intOf iv).toNat)
  case atStart => exact ⟨0, by omega, rfl, World.ownsRow_nil _ _ _ _, Below.refl _ _⟩
  case round =>
    obtain ⟨i, hi, rfl, HO, HBW⟩ := hrel
    by_cases hlt : i < n
    · have hj0 : (0 : Int) ≤ (i : Int) := by omega
      have hj1 : (i : Int) < (n : Int) := by omega
      have hszw := HBW.out.size
      obtain ⟨b, off, e, rfl, hb, d0, d1, d2, d3, d4, hok, HE⟩ := (HL.out.keep (HBW.out.mono hB)).at_ hlt
      have HSN : Hid (flatN (l.take (i + 1)) = flatN (l.take i) ++ entC e) := by
        unfold Hid
        have hil : i < l.length := by rw [HLEN.out]; exact hlt
        have he := HE.out
        rw [List.getD_eq_getElem?_getD, List.getElem?_eq_getElem hil] at he
        simp only [Option.getD_some] at he
        rw [List.take_add_one, List.getElem?_eq_getElem hil, Option.toList_some, he, flatN_snoc]
      obtain ⟨nm, fi, bl, wi, co⟩ := e
      simp only at d0 d1 d2 d3 d4
      have HSN : Hid (flatN (l.take (i + 1)) = flatN (l.take i) ++ [.string nm, .int .i64 fi, .int .i64 bl, .int .i64 wi, .int .i64 co]) := HSN.out
      go_wp2_with (with_reducible refine stopAt 17 ?_)
      unfold Hid
      refine wpList_append_own_at _ rfl _ _ 26 rfl w.heap.size 55 i0 _ 5 48 Try.underlying26 hi0 hz0 hz1 hz2 rfl (by decide) u3 i (flatN (l.take i)) rfl (HO.out.alloc _) _ 1 1 [.string nm, .int .i64 fi, .int .i64 bl, .int .i64 wi, .int .i64 co] rfl rfl (newsN rfl) (by simp [Value.oneCell']) (by unfold maxLen; omega) (by omega) (by simp; omega) ?_
      intro v5 w5 hown5 hg5 _ _
      rw [← HSN.out] at hown5
      have HO5 := Lib.hid hown5
      have HB5 : Hid (Below w.heap.size w w5) := (HBW.out.alloc hszw _).grown hg5 (by simp; omega) fun k hk => (HO.out.lt k hk).1
      clear hown5 hg5
      go_wp2
      go_roundw
      case rel => exact ⟨i + 1, by omega, by go_num, HO5.out, HB5.out⟩
      case measure => simp [intOf]; omega
    · obtain rfl : i = n := by omega
      have HO2 : Hid (wr.ownsRow w.heap.size 55 5 u3 i (flatN l)) := by
        have h := HO.out
        rw [List.take_of_length_le (by rw [HLEN.out]; exact Nat.le_refl _)] at h; exact h
      go_wp2
      go_ret
      exact ⟨_, rfl, HO2.out, HBW.out⟩

def eqE (e1 e2 : Ent) : Bool := (e1.nm.toList == e2.nm.toList) && ((e1.fi == e2.fi) && ((e1.bl == e2.bl) && ((e1.wi == e2.wi) && (e1.co == e2.co))))
theorem toList_inj {a b : ByteArray} (h : a.toList = b.toList) : a = b := by
  rw [ByteArray.toList_eq, ByteArray.toList_eq] at h
  obtain ⟨x⟩ := a
  obtain ⟨y⟩ := b
  congr 1
  exact Array.toList_inj.1 h
theorem eqE_iff (e1 e2 : Ent) : eqE e1 e2 = true ↔ e1 = e2 := by
  obtain ⟨a1, a2, a3, a4, a5⟩ := e1
  obtain ⟨b1, b2, b3, b4, b5⟩ := e2
  unfold eqE
  simp only [Bool.and_eq_true, beq_iff_eq, Ent.mk.injEq]
  constructor
  · rintro ⟨h1, h2, h3, h4, h5⟩
    exact ⟨toList_inj h1, h2, h3, h4, h5⟩
  · rintro ⟨h1, h2, h3, h4, h5⟩
    exact ⟨by rw [h1], h2, h3, h4, h5⟩
instance : DecidableEq Ent := fun a b => decidable_of_iff (eqE a b = true) (eqE_iff a b)
theorem neq_ent (w : World) (n1 : ByteArray) (a1 a2 a3 a4 : Int) (n2 : ByteArray) (b1 b2 b3 b4 : Int) : (binOp .neq 55 (.agg #[.string n1, .int .i64 a1, .int .i64 a2, .int .i64 a3, .int .i64 a4]) (.agg #[.string n2, .int .i64 b1, .int .i64 b2, .int .i64 b3, .int .i64 b4])).run Try.prog w = .ok (.bool (!(eqE ⟨n1, a1, a2, a3, a4⟩ ⟨n2, b1, b2, b3, b4⟩))) w := by
  have u3 := Try.underlying3
  have u9 := Try.underlying9
  have hS : Try.prog.underlying 55 = some (.struct (Try.prog.fieldsOf 55)) := by kernel_rfl
  have hp : Try.prog.stoodInHeld 55 = false := by kernel_rfl
  rw [run_neq_struct, show (10000 : Nat) = 9999 + 1 from rfl, run_equalIn_agg w 9999 55 _ _ hS hp]
  simp only [Program.fieldsOf, Try.underlying55]
  go_simp
  unfold eqE
  dsimp only
  by_cases h1 : (n1.toList == n2.toList) = true <;> by_cases h2 : a1 = b1 <;> by_cases h3 : a2 = b2 <;> by_cases h4 : a3 = b3 <;> by_cases h5 : a4 = b4 <;> simp_all
theorem guard_ent (w : World) (x y : Operand) (n1 : ByteArray) (a1 a2 a3 a4 : Int) (n2 : ByteArray) (b1 b2 b3 b4 : Int) : (eqGuard .neq 55 x y (.agg #[.string n1, .int .i64 a1, .int .i64 a2, .int .i64 a3, .int .i64 a4]) (.agg #[.string n2, .int .i64 b1, .int .i64 b2, .int .i64 b3, .int .i64 b4])).run Try.prog w = .ok () w :=
  run_eqGuard_agg w .neq 55 x y _ _ (by kernel_rfl)
theorem ents_ne {l m : List Ent} {i : Nat} {x y : Ent} (hx : l.getD i ent0 = x) (hy : m.getD i ent0 = y) (h : x ≠ y) : l ≠ m := by
  intro e; subst e; exact h (hx.symm.trans hy)
theorem ents_more {l m : List Ent} {i n : Nat} {x : Ent} (hl : l.length = n) (hm : m.length = n) (hi : i < n) (hx : l.getD i ent0 = x) (hy : m.getD i ent0 = x) (h : l.take i = m.take i) : l.take (i + 1) = m.take (i + 1) := by
  rw [List.take_succ_eq_append_getElem (by omega), List.take_succ_eq_append_getElem (by omega), h]
  congr 2
  rw [List.getD_eq_getElem?_getD, List.getElem?_eq_getElem (by omega)] at hx hy
  exact hx.trans hy.symm
set_option maxHeartbeats 1600000 in
set_option maxRecDepth 100000 in
theorem rsame_any (a1 a2 : Option Addr) (n1 n2 c1 c2 : Nat) (l1 l2 : List Ent) (w : World) {B1 B2 : Nat} (h1 : ReadsN w B1 a1 n1 l1) (h2 : ReadsN w B2 a2 n2 l2) (hn : n1 ≤ 1000000) :
    Calls Try.prog 19 #[.slice a1 n1 c1, .slice a2 n2 c2] w fun e w' => e = .returned (.bool (decide (l1 = l2))) ∧ ∃ m, w' = w.drewN m := by
  by_cases hlen : n1 = n2
  · subst hlen
    have HL1 := Lib.hid h1.1
    have HL2 := Lib.hid h2.1
    go_enter Try.func19, Try.ntmps19
    go_wp2
    go_loopw [5] (fun iv wr => ∃ i : Nat, i ≤ n1 ∧ iv = .int .i64 (i : Int) ∧ (∃ m, wr = w.drewN m) ∧ Hid (l1.take i = l2.take i)) (fun iv _ => n1 - (intOf iv).toNat)
    case atStart => exact ⟨0, by omega, rfl, ⟨0, rfl⟩, by unfold Hid; simp⟩
    case round =>
      obtain ⟨i, hi, rfl, ⟨m, rfl⟩, HT⟩ := hrel
      by_cases hlt : i < n1
      · obtain ⟨b1, o1, x, rfl, hb1, d0, d1, d2, d3, d4, _, hx⟩ := h1.at_ hlt
        obtain ⟨b2, o2, y, rfl, hb2, f0, f1, f2, f3, f4, _, hy⟩ := h2.at_ hlt
        have hj0 : (0 : Int) ≤ (i : Int) := by omega
        have hj1 : (i : Int) < (n1 : Int) := by omega
        obtain ⟨xn, xa, xb, xc, xd⟩ := x
        obtain ⟨yn, ya, yb, yc, yd⟩ := y
        simp only at d0 d1 d2 d3 d4 f0 f1 f2 f3 f4
        have d0' : ∀ q, (w.drewN q).cell? ⟨b1, o1 + i * 5, none⟩ = some (.string xn) := fun _ => d0
        have d1' : ∀ q, (w.drewN q).cell? ⟨b1, o1 + i * 5 + 1, none⟩ = some (.int .i64 xa) := fun _ => d1
        have d2' : ∀ q, (w.drewN q).cell? ⟨b1, o1 + i * 5 + 2, none⟩ = some (.int .i64 xb) := fun _ => d2
        have d3' : ∀ q, (w.drewN q).cell? ⟨b1, o1 + i * 5 + 3, none⟩ = some (.int .i64 xc) := fun _ => d3
        have d4' : ∀ q, (w.drewN q).cell? ⟨b1, o1 + i * 5 + 4, none⟩ = some (.int .i64 xd) := fun _ => d4
        have f0' : ∀ q, (w.drewN q).cell? ⟨b2, o2 + i * 5, none⟩ = some (.string yn) := fun _ => f0
        have f1' : ∀ q, (w.drewN q).cell? ⟨b2, o2 + i * 5 + 1, none⟩ = some (.int .i64 ya) := fun _ => f1
        have f2' : ∀ q, (w.drewN q).cell? ⟨b2, o2 + i * 5 + 2, none⟩ = some (.int .i64 yb) := fun _ => f2
        have f3' : ∀ q, (w.drewN q).cell? ⟨b2, o2 + i * 5 + 3, none⟩ = some (.int .i64 yc) := fun _ => f3
        have f4' : ∀ q, (w.drewN q).cell? ⟨b2, o2 + i * 5 + 4, none⟩ = some (.int .i64 yd) := fun _ => f4
        have hq := fun W => neq_ent W xn xa xb xc xd yn ya yb yc yd
        have hg := fun W x y => guard_ent W x y xn xa xb xc xd yn ya yb yc yd
        have HEQ := Lib.hid (eqE_iff ⟨xn, xa, xb, xc, xd⟩ ⟨yn, ya, yb, yc, yd⟩)
        generalize eqE ⟨xn, xa, xb, xc, xd⟩ ⟨yn, ya, yb, yc, yd⟩ = q at *
        cases q
        · have HNE : Hid (decide (l1 = l2) = false) := by
            unfold Hid
            rw [decide_eq_false_iff_not]
            exact ents_ne hx.out hy.out fun e => by have := HEQ.out.2 e; cases this
          go_wp2
          go_quiet (fail)
          go_wp2
          go_ret
          exact ⟨ret_bool HNE.out.symm, _, World.drewN_drewN _ _ _⟩
        · have HT2 : Hid (l1.take (i + 1) = l2.take (i + 1)) := by
            have he := HEQ.out.1 rfl
            refine ents_more HL1.out HL2.out hlt hx.out ?_ HT.out
            rw [he]; exact hy.out
          go_wp2
          go_quiet (fail)
          go_wp2
          go_roundw
          case rel => exact ⟨i + 1, by omega, by go_num, ⟨_, rfl⟩, HT2.out⟩
          case measure => simp [intOf]; omega
      · have HE : Hid (decide (l1 = l2) = true) := by
          have h := HT.out
          rw [List.take_of_length_le (by have := HL1.out; omega), List.take_of_length_le (by have := HL2.out; omega)] at h
          exact decide_eq_true h
        go_wp2
        go_ret
        exact ⟨ret_bool HE.out.symm, m, rfl⟩
  · have HNE : Hid (decide (l1 = l2) = false) := by
      unfold Hid
      rw [decide_eq_false_iff_not]
      intro e; exact hlen (by rw [← h1.1, ← h2.1, e])
    have g : ((n1 : Int) != (n2 : Int)) = true := by simp; omega
    clear hlen
    go_enter Try.func19, Try.ntmps19
    go_wp2
    go_ret
    exact ⟨ret_bool HNE.out.symm, 0, rfl⟩

theorem load_fresh {size : Nat} {b : Int} (h8 : 8 ≤ size) (h256 : size ≤ 256) : loadP (fresh size b).now size = ([], 0, 1) := by
  obtain ⟨hk0, _, _⟩ := slot_pos h8 h256
  obtain ⟨l, g, nx, e, q1, q2, q3, q4, q5⟩ := load_inv (H := 0) rfl h8 h256 (inv_fresh size (slotE size) fun _ => []) (now := (fresh size b).now) (fun _ => rfl) (fun _ _ _ _ => Nat.le_refl _)
  have hn := q4 0 ⟨0, 0, by omega, hk0, rfl⟩ (fun _ _ _ _ => Nat.le_refl _)
  rcases q5 with ⟨d1, d2, _⟩ | ⟨d1, d2, _⟩
  · rw [e, d2, hn, d1]; rfl
  · exact absurd (d2.2 0 hk0).symm d2.1
set_option maxHeartbeats 800000 in
set_option maxRecDepth 100000 in
theorem awake_any (w : World) : Calls Try.prog 7 #[] w fun e w' => e = .returned (.bool true) ∧ Below w.heap.size w w' := by
  have HNEW := Lib.hid (new_any 64 4 w (by omega) (by omega))
  have HF := Lib.hid (load_fresh (size := 64) (b := 4) (by omega) (by omega))
  have h64 : slotE 64 = 1 := by decide
  have HS := Lib.hid (slot_any 8)
  have h8 : slotE (8 : Int).toNat = 11 := by decide
  rw [h8] at HS
  go_enter Try.func7, Try.ntmps7
  go_wp2_with fail
  refine HNEW.out.mono ?_
  rintro e w1 ⟨p, G, rfl, hd, hG, hb1⟩
  have hl := load_any p (fresh 64 4) 0 G w1 hd (by omega) (fresh_calm 64 4) (by show 2 * ((slotE 64 : Nat) : Int) ≤ 4; rw [h64]; decide)
  have hfs : (fresh 64 4).size = 64 := rfl
  rw [hfs, HF.out] at hl
  have HL := Lib.hid hl
  have HP := Lib.hid (hG p hd.mine)
  have HB1 := Lib.hid hb1
  clear hl hd hG hb1
  go_wp2_with fail
  refine HL.out.mono ?_
  rintro e w2 ⟨v, rfl, _, _, hf⟩
  have HB2 := Lib.hid (HB1.out.trans (hf.below HB1.out.size fun b hb => by have := HP.out; omega))
  clear hf
  go_wp2_with fail
  refine (HS.out _).mono ?_
  rintro e w3 ⟨rfl, rfl⟩
  go_wp2
  go_ret
  exact ⟨rfl, HB2.out⟩
end Go.Proofs.Ythdibijkiogpjaa
