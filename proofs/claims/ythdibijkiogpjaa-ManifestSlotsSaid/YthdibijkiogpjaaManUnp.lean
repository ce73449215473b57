/- What unpack answers, and the entries of words. -/
import Derived.Test.YthdibijkiogpjaaManWords
namespace Go.Proofs.Ythdibijkiogpjaa
open Go.ChangeShapes Go.WideShapes Go.ChangeAt Go.RowKit

theorem info8 : (Try.prog.info? 5).map (fun i => (i.zero, i.size, i.bytes)) = some (some (.int .u8 0), 1, 1) := by kernel_rfl
theorem unpackF_u8 : ∀ f w, w < 18446744073709551616 → ∀ x ∈ unpackF f w, x < 256
  | 0, _, _ => by intro x hx; cases hx
  | f + 1, w, h => by
    intro x hx
    unfold unpackF at hx
    split at hx
    · cases hx
    · rcases List.mem_cons.1 hx with rfl | hx
      · omega
      · exact unpackF_u8 f _ (Nat.mod_lt _ (by decide)) x hx
theorem unpack_u8 {w : Nat} (h : w < 18446744073709551616) : ∀ x ∈ unpackE w, x < 256 := unpackF_u8 8 w h
theorem unpack_len (w : Nat) : (unpackE w).length ≤ 8 := unpackF_len 8 w
def vb (x : Nat) : Value := .int .u8 x

set_option maxHeartbeats 1600000 in
set_option maxRecDepth 100000 in
theorem unpack_any (x : Nat) (w : World) (hx : x < 18446744073709551616) :
    Calls Try.prog 57 #[.int .u64 x] w fun e w' => e = .returned (.string (strOf (unpackE x))) ∧ Below w.heap.size w w' := by
  obtain ⟨i0, hi0, hz0, hz1, hz2⟩ := info_parts info8
  go_enter Try.func57, Try.ntmps57
  go_wp2
  go_loopw [0, 3] (fun xv dv wr => ∃ (k y : Nat) (acc : List Nat), k ≤ 8 ∧ y < 18446744073709551616 ∧ xv = .int .u64 (y : Int) ∧ Hid (y % 256 ^ k = 0) ∧ Hid (acc.length = k) ∧ Hid (acc ++ unpackF (8 - k) y = unpackE x) ∧ Hid (wr.ownsRow w.heap.size 5 1 dv k (acc.map vb)) ∧ Hid (Below w.heap.size w wr) ∧ Hid (∀ z ∈ acc, z < 256)) (fun xv dv _ => 8 - (match dv with | .slice _ n _ => n | _ => 0))
  case atStart => exact ⟨0, x, [], by omega, hx, rfl, Nat.mod_one _, rfl, rfl, World.ownsRow_nil _ _ _ _, Below.refl _ _, fun z hz => by cases hz⟩
  case round =>
    obtain ⟨k, y, acc, hk, hy, rfl, HM, HLN, HA, HO, HBW, HU⟩ := hrel
    obtain ⟨A, cc, rfl, hcc⟩ := own_form HO.out
    by_cases h0 : y = 0
    · subst h0
      have HE : Hid (acc = unpackE x) := by
        unfold Hid; rw [← HA.out]
        have : unpackF (8 - k) 0 = [] := by cases (8 - k) <;> rfl
        rw [this, List.append_nil]
      have HRD : Hid (Reads .u8 wr wr.heap.size A k acc) := by
        obtain ⟨A', c', e1, hrd, _⟩ := own_reads HO.out (fun z hz => u8_wf (HU.out z hz))
        injection e1 with e1 _ e2
        subst e1; exact hrd
      have hcv : (convert 105 9 (.slice A k cc)).run Try.prog wr = .ok (.string (strOf (unpackE x))) wr := by
        rw [← HE.out]
        rcases HO.out.2 with ⟨e1, e2⟩ | ⟨g, cap, cur, e1, _⟩
        · injection e1 with e1 _ e3
          subst e1
          have : acc = [] := List.eq_nil_of_length_eq_zero (by rw [HLN.out]; exact e2)
          rw [this]
          exact run_convert_bytes_nil wr 105 5 Try.underlying105 Try.underlying5 k cc 9 Try.underlying9
        · injection e1 with e1
          subst e1
          refine run_string wr 105 9 5 Try.underlying105 Try.underlying5 Try.underlying9 g 0 k cc acc HLN.out fun i hi => ?_
          obtain ⟨_, _, hcl⟩ := HRD.out
          obtain ⟨b, off, e2, _, hcl⟩ := hcl (by omega)
          injection e2 with e2; injection e2 with e2 e3
          subst e2; subst e3
          exact hcl i hi
      go_wp2
      go_ret
      exact ⟨rfl, HBW.out⟩
    · have hk8 : k < 8 := by
        rcases Nat.lt_or_ge k 8 with h | h
        · exact h
        · exfalso
          have hk' : k = 8 := by omega
          have := HM.out
          rw [hk'] at this
          omega
      have g0 : ((y : Int) != 0) = true := by simp; omega
      obtain ⟨b1, hb1⟩ : ∃ b1, b1 = y / 72057594037927936 := ⟨_, rfl⟩
      obtain ⟨y2, hy2⟩ : ∃ y2, y2 = y * 256 % 18446744073709551616 := ⟨_, rfl⟩
      have hb1l : b1 < 256 := by omega
      have hdiv : (y : Int) / 72057594037927936 = (b1 : Int) := by omega
      have hw8 : IntKind.u8.wrap (b1 : Int) = (b1 : Int) := IntWalk.u8_in _ (by omega)
      have hshl : IntKind.u64.wrap ((y : Int) * 256) = (y2 : Int) := by rw [IntKind.wrap_u64]; omega
      have HA2 : Hid ((acc ++ [b1]) ++ unpackF (8 - (k + 1)) y2 = unpackE x) := by
        unfold Hid
        rw [← HA.out, show 8 - k = (8 - (k + 1)) + 1 by omega, List.append_assoc]
        congr 1
        conv => rhs; unfold unpackF
        rw [if_neg h0, hb1, hy2]; rfl
      have HM2 : Hid (y2 % 256 ^ (k + 1) = 0) := by
        unfold Hid
        rw [hy2, Nat.mod_mod_of_dvd _ (by
          have h : (18446744073709551616 : Nat) = 256 ^ 8 := by decide
          rw [h]; exact Nat.pow_dvd_pow 256 (by omega)), Nat.pow_succ, Nat.mul_mod_mul_right, HM.out, Nat.zero_mul]
      have HU2 : Hid (∀ z ∈ acc ++ [b1], z < 256) := by
        intro z hz
        rcases List.mem_append.1 hz with hz | hz
        · exact HU.out z hz
        · simp at hz; omega
      have HLN2 : Hid ((acc ++ [b1]).length = k + 1) := by unfold Hid; rw [List.length_append, HLN.out]; rfl
      have hszw := HBW.out.size
      have hy2l : y2 < 18446744073709551616 := by omega
      clear hb1 hy2
      go_wp2_with (with_reducible refine stopAt 13 ?_)
      unfold Hid
      refine wpList_append_list _ rfl _ _ 105 rfl w.heap.size 5 i0 (.int .u8 0) 1 Try.underlying105 hi0 hz0 hz1 hz2 rfl (.slice A k cc) k (acc.map vb) rfl (HO.out.alloc _) _ 1 1 [.int .u8 (b1 : Int)] rfl rfl (fun _ => ⟨_, rfl, cells1⟩) (by simp; rfl) (by omega) (by omega) (by simp; omega) ?_
      intro v5 w5 hown5 hb5
      have HO5 : Hid (w5.ownsRow w.heap.size 5 1 v5 (k + 1) ((acc ++ [b1]).map vb)) := by unfold Hid; rw [List.map_append]; exact hown5
      have HB5 := Lib.hid (HBW.out.trans (((Below.refl _ wr).alloc (by omega) (.cells #[.int .u8 (b1 : Int)] 5)).trans hb5))
      obtain ⟨A5, c5, rfl, _⟩ := own_form HO5.out
      clear hown5 hb5
      go_wp2
      go_roundw
      case rel => exact ⟨k + 1, y2, acc ++ [b1], by omega, hy2l, rfl, HM2.out, HLN2.out, HA2.out, HO5.out, HB5.out, HU2.out⟩
      case measure => (show 8 - (k + 1) < 8 - k); omega

theorem infoE : (Try.prog.info? 54).map (fun i => (i.zero, i.size, i.bytes)) = some (some (.agg #[.string ⟨#[]⟩, .int .i64 0, .int .i64 0, .int .i64 0, .int .i64 0]), 5, 48) := by kernel_rfl
/-- the cells of entries -/
def flatN (l : List Ent) : List Value := l.flatMap entC
theorem flatN_len (l : List Ent) : (flatN l).length = l.length * 5 := by
  unfold flatN
  induction l with
  | nil => rfl
  | cons e l ih => rw [List.flatMap_cons, List.length_append, ih, List.length_cons]; show 5 + _ = _; omega
theorem flatN_snoc (l : List Ent) (e : Ent) : flatN (l ++ [e]) = flatN l ++ entC e := by unfold flatN; simp
theorem flatN_at : ∀ (l : List Ent) (i : Nat), i < l.length → ∀ (j : Nat) (u : Value), (entC (l.getD i ent0))[j]? = some u → (flatN l)[i * 5 + j]? = some u
  | [], i, h => by simp at h
  | e :: l, 0, _ => by
    intro j u h
    have hj : j < (entC e).length := (List.getElem?_eq_some_iff.1 h).1
    show (entC e ++ flatN l)[0 * 5 + j]? = _
    rw [Nat.zero_mul, Nat.zero_add, List.getElem?_append_left hj]; exact h
  | e :: l, i + 1, hi => by
    intro j u h
    show (entC e ++ flatN l)[(i + 1) * 5 + j]? = _
    rw [List.getElem?_append_right (by show 5 ≤ _; omega), show (i + 1) * 5 + j - (entC e).length = i * 5 + j by show _ - 5 = _; omega]
    exact flatN_at l i (by simpa using hi) j u (by simpa using h)
/-- what is owned, and holds entries, is read as such -/
theorem ownN_reads {w : World} {base : Nat} {t : TypeId} {v : Value} {n : Nat} {l : List Ent} (h : w.ownsRow base t 5 v n (flatN l)) (hw : ∀ e ∈ l, EntOk e) : ∃ A c, v = .slice A n c ∧ ReadsN w w.heap.size A n l ∧ l.length = n ∧ c ≤ maxLen ∧ n ≤ c := by
  obtain ⟨hl, h2⟩ := h
  have hl' : l.length = n := by rw [flatN_len] at hl; omega
  rcases h2 with ⟨rfl, rfl⟩ | ⟨g, cap, cur, rfl, hg, hh, hcap, hm, hs, ht⟩
  · exact ⟨none, 0, rfl, ⟨hl', hw, fun h => absurd h (by omega)⟩, hl', by unfold maxLen; omega, Nat.le_refl _⟩
  · refine ⟨some ⟨g, 0, none⟩, cap, rfl, ⟨hl', hw, fun _ => ⟨g, 0, rfl, ?_, fun i hi j u hj => ?_⟩⟩, hl', hm, hcap⟩
    · exact lt_of_some hh
    · have h3 : w.cell? ⟨g, 0 + i * 5 + j, none⟩ = cur[0 + i * 5 + j]? := by simp [World.cell?, hh]
      rw [h3, Nat.zero_add]
      have hj5 : j < 5 := (List.getElem?_eq_some_iff.1 hj).1
      have h4 : (cur.toList.take (n * 5))[i * 5 + j]? = cur.toList[i * 5 + j]? := by rw [List.getElem?_take, if_pos (by omega)]
      rw [ht, flatN_at l i (by omega) j u hj] at h4
      rw [← Array.getElem?_toList]; exact h4.symm
theorem iw_ok (x : Nat) : I64 (iw x) := by
  unfold iw I64
  rw [IntKind.wrap_i64]
  simp [Lit.wf, IntKind.min, IntKind.max, IntKind.signed, IntKind.bits]; omega
theorem strOf_size (l : List Nat) : (strOf l).size = l.length := by unfold strOf; rw [strOfNums_size, List.length_map]
theorem entAt_ok (ws : List Nat) (i : Nat) : EntOk (entAt ws i) := by
  refine ⟨⟨iw_ok _, iw_ok _, iw_ok _, iw_ok _⟩, ?_⟩
  show (strOf _).size ≤ _
  rw [strOf_size]
  have := unpack_len (ws.getD i 0)
  unfold maxLen; omega
theorem ents_ok (ws : List Nat) : ∀ e ∈ entsE ws, EntOk e := by
  intro e he
  unfold entsE at he
  obtain ⟨j, _, rfl⟩ := List.mem_map.1 he
  exact entAt_ok _ _
theorem range_snoc (f : Nat → Ent) (j : Nat) : (List.range (j + 1)).map f = (List.range j).map f ++ [f j] := by rw [List.range_succ, List.map_append]; rfl

theorem own_keep {w w' : World} {base : Nat} {e : TypeId} {s n : Nat} {v : Value} {xs : List Value} (h : w.ownsRow base e s v n xs) (hb : Below w.heap.size w w') : w'.ownsRow base e s v n xs :=
  ownsRow_same h fun k hk => hb.block k (h.lt k hk).2
/-- what a region of entriesOf keeps -/
def UQ (w0 : World) (base : Nat) (u : Value) (n : Nat) (xs : List Value) (b off x0 x1 x2 x3 x4 : Nat) (w' : World) : Prop :=
  Below base w0 w' ∧ w'.ownsRow base 54 5 u n xs ∧ base ≤ w'.heap.size ∧ w'.cell? ⟨b, off, none⟩ = some (.int .u64 (x0 : Int)) ∧ w'.cell? ⟨b, off + 1, none⟩ = some (.int .u64 (x1 : Int)) ∧ w'.cell? ⟨b, off + 2, none⟩ = some (.int .u64 (x2 : Int)) ∧ w'.cell? ⟨b, off + 3, none⟩ = some (.int .u64 (x3 : Int)) ∧ w'.cell? ⟨b, off + 4, none⟩ = some (.int .u64 (x4 : Int))
section
variable {w0 w1 w2 : World} {base : Nat} {u : Value} {n : Nat} {xs : List Value} {b off x0 x1 x2 x3 x4 : Nat}
theorem uq_of (q1 : Below base w0 w1) (q2 : w1.ownsRow base 54 5 u n xs) (q3 : base ≤ w1.heap.size) (q4 : w1.cell? ⟨b, off, none⟩ = some (.int .u64 (x0 : Int))) (q5 : w1.cell? ⟨b, off + 1, none⟩ = some (.int .u64 (x1 : Int))) (q6 : w1.cell? ⟨b, off + 2, none⟩ = some (.int .u64 (x2 : Int))) (q7 : w1.cell? ⟨b, off + 3, none⟩ = some (.int .u64 (x3 : Int))) (q8 : w1.cell? ⟨b, off + 4, none⟩ = some (.int .u64 (x4 : Int))) : UQ w0 base u n xs b off x0 x1 x2 x3 x4 w1 := ⟨q1, q2, q3, q4, q5, q6, q7, q8⟩
theorem UQ.call (h : UQ w0 base u n xs b off x0 x1 x2 x3 x4 w1) (hb : b < base) (h2 : Below w1.heap.size w1 w2) : UQ w0 base u n xs b off x0 x1 x2 x3 x4 w2 := by
  obtain ⟨q1, q2, q3, q4, q5, q6, q7, q8⟩ := h
  have hc : ∀ o, w2.cell? ⟨b, o, none⟩ = w1.cell? ⟨b, o, none⟩ := fun o => h2.cell (p := ⟨b, o, none⟩) (Nat.lt_of_lt_of_le hb q3)
  exact ⟨q1.trans (h2.mono q3), own_keep q2 h2, Nat.le_trans q3 h2.size, (hc _).trans q4, (hc _).trans q5, (hc _).trans q6, (hc _).trans q7, (hc _).trans q8⟩
theorem UQ.app (h : UQ w0 base u n xs b off x0 x1 x2 x3 x4 w1) (hb : b < base) (hk : w2.ownsRow base 54 5 u n xs) (hg : w1.grownBy w2 u.ownBlock) : UQ w0 base u n xs b off x0 x1 x2 x3 x4 w2 := by
  obtain ⟨q1, q2, q3, q4, q5, q6, q7, q8⟩ := h
  have h2 : Below base w1 w2 := (Below.refl _ _).grown hg q3 fun k hk => (q2.lt k hk).1
  have hc : ∀ o, w2.cell? ⟨b, o, none⟩ = w1.cell? ⟨b, o, none⟩ := fun o => h2.cell (p := ⟨b, o, none⟩) hb
  exact ⟨q1.trans h2, hk, Nat.le_trans q3 hg.size, (hc _).trans q4, (hc _).trans q5, (hc _).trans q6, (hc _).trans q7, (hc _).trans q8⟩
end
theorem newsN {w : World} {t : TypeId} {cs : List Value} {k : Nat} (hk : w.heap.size = k) : ∀ j v, cs[j]? = some v → (w.alloc (.cells cs.toArray t)).cell? ((⟨k, 0, none⟩ : Addr).add j) = some v := by
  subst hk
  intro j v hj
  have r1 : Row (w.alloc (.cells cs.toArray t)) w.heap.size t cs := heap_alloc_new _ _
  rw [Addr.add_lit, Nat.zero_add, r1.cell]; exact hj

set_option maxHeartbeats 3200000 in
set_option maxRecDepth 100000 in
theorem entsof_any (a : Option Addr) (n c : Nat) (ws : List Nat) (w : World) {B : Nat} (hl : Reads .u64 w B a n ws) (hB : B ≤ w.heap.size) (hn : n ≤ 100000) (hc : n ≤ c ∧ c ≤ maxLen) :
    Calls Try.prog 47 #[.slice a n c] w fun e w' => ∃ v, e = .returned v ∧ w'.ownsRow w.heap.size 54 5 v (entsE ws).length (flatN (entsE ws)) ∧ Below w.heap.size w w' := by
  obtain ⟨i0, hi0, hz0, hz1, hz2⟩ := info_parts infoE
  have hlen := hl.1
  have HLEN := Lib.hid hlen
  have HL := Lib.hid hl
  have HB := Lib.hid hB
  obtain ⟨m, hm⟩ : ∃ m, m = (n - 2) / 5 := ⟨_, rfl⟩
  have HM : Hid ((entsE ws).length = m) := by unfold Hid entsE; rw [List.length_map, List.length_range, hlen, hm]
  have HE : Hid (entsE ws = (List.range m).map fun j => entAt ws (2 + j * 5)) := by unfold Hid entsE; rw [hlen, hm]
  have hc2 : c ≤ 9223372036854775807 := by have := hc.2; unfold maxLen at this; exact this
  have hm1 : m * 5 ≤ n - 2 ∧ n < m * 5 + 7 := by omega
  clear hlen hl hB hm
  go_enter Try.func47, Try.ntmps47
  go_wp2
  go_loopw [4, 3] (fun iv dv wr => ∃ j i : Nat, j ≤ m ∧ iv = .int .i64 (i : Int) ∧ Hid (i = 2 + j * 5) ∧ Hid (wr.ownsRow w.heap.size 54 5 dv j (flatN ((List.range j).map fun j => entAt ws (2 + j * 5)))) ∧ Hid (Below w.heap.size w wr)) (fun iv _ _ => 2 + m * 5 - (intOf iv).toNat)
  case atStart => exact ⟨0, 2, by omega, rfl, rfl, World.ownsRow_nil _ _ _ _, Below.refl _ _⟩
  case round =>
    obtain ⟨j, i, hj, rfl, HI, HO, HBW⟩ := hrel
    have hij : i ≤ 2 + j * 5 ∧ 2 + j * 5 ≤ i := by have := HI.out; omega
    by_cases hlt : j < m
    · have hin : i + 5 ≤ n := by omega
      have hlw := HL.out.keep (HBW.out.mono HB.out)
      have hszw := HBW.out.size
      obtain ⟨b, off, x0, rfl, hb, d0, k0, hx0⟩ := hlw.at_ (show i < n by omega)
      obtain ⟨b', off', x1, hA1, _, d1, k1, hx1⟩ := hlw.at_ (show i + 1 < n by omega)
      injection hA1 with hA1; injection hA1 with y1 y2; subst y1; subst y2
      obtain ⟨b', off', x2, hA1, _, d2, k2, hx2⟩ := hlw.at_ (show i + 2 < n by omega)
      injection hA1 with hA1; injection hA1 with y1 y2; subst y1; subst y2
      obtain ⟨b', off', x3, hA1, _, d3, k3, hx3⟩ := hlw.at_ (show i + 3 < n by omega)
      injection hA1 with hA1; injection hA1 with y1 y2; subst y1; subst y2
      obtain ⟨b', off', x4, hA1, _, d4, k4, hx4⟩ := hlw.at_ (show i + 4 < n by omega)
      injection hA1 with hA1; injection hA1 with y1 y2; subst y1; subst y2
      have k0 := u64_lt k0
      have HNW : Hid (entC (entAt ws (2 + j * 5)) = [.string (strOf (unpackE x0)), .int .i64 (IntKind.i64.wrap (x1 : Int)), .int .i64 (IntKind.i64.wrap (x2 : Int)), .int .i64 (IntKind.i64.wrap (x3 : Int)), .int .i64 (IntKind.i64.wrap (x4 : Int))]) := by
        unfold Hid
        rw [← HI.out, hx0.out, hx1.out, hx2.out, hx3.out, hx4.out]; rfl
      rw [← Nat.add_assoc] at d1 d2 d3 d4
      have hci : c - i ≤ 9223372036854775807 := by omega
      clear hlw hx0 hx1 hx2 hx3 hx4
      have hbw : b < w.heap.size := by have := HB.out; omega
      have HUQ : Hid (UQ w w.heap.size u3 j (flatN ((List.range j).map fun j => entAt ws (2 + j * 5))) b (off + i) x0 x1 x2 x3 x4 wr) := ⟨HBW.out, HO.out, hszw, d0, d1, d2, d3, d4⟩
      have HUN : Hid (∀ W, Calls Try.prog 57 #[.int .u64 x0] W fun e w' => e = .returned (.string (strOf (unpackE x0))) ∧ Below W.heap.size W w') := fun W => unpack_any x0 W k0
      have HXS : Hid (flatN ((List.range (j + 1)).map fun j => entAt ws (2 + j * 5)) = flatN ((List.range j).map fun j => entAt ws (2 + j * 5)) ++ [.string (strOf (unpackE x0)), .int .i64 (IntKind.i64.wrap (x1 : Int)), .int .i64 (IntKind.i64.wrap (x2 : Int)), .int .i64 (IntKind.i64.wrap (x3 : Int)), .int .i64 (IntKind.i64.wrap (x4 : Int))]) := by
        unfold Hid; rw [range_snoc, flatN_snoc, HNW.out]
      generalize strOf (unpackE x0) = nm at *
      generalize flatN ((List.range j).map fun j => entAt ws (2 + j * 5)) = XS at *
      go_wp2
      clear d0 d1 d2 d3 d4
      go_region_held3 (fun w' => Below w.heap.size w w' ∧ w'.ownsRow w.heap.size 54 5 u3 j XS ∧ w.heap.size ≤ w'.heap.size ∧ w'.cell? ⟨b, off + i, none⟩ = some (.int .u64 (x0 : Int)) ∧ w'.cell? ⟨b, off + i + 1, none⟩ = some (.int .u64 (x1 : Int)) ∧ w'.cell? ⟨b, off + i + 2, none⟩ = some (.int .u64 (x2 : Int)) ∧ w'.cell? ⟨b, off + i + 3, none⟩ = some (.int .u64 (x3 : Int)) ∧ w'.cell? ⟨b, off + i + 4, none⟩ = some (.int .u64 (x4 : Int)))
        (first
          | (exact UQ.call HUQ.out hbw (below_drewN (Below.refl _ _) 1))
          | (exact hacc)
          | (go_split_ands; exact UQ.call (uq_of (by assumption) (by assumption) (by assumption) (by assumption) (by assumption) (by assumption) (by assumption) (by assumption)) hbw ((Below.refl _ _).alloc (Nat.le_refl _) _))
          | (exact hacc2))
        (first
          | (go_split_ands; go_at_call 57; refine (HUN.out _).mono ?_; rintro e w4 ⟨rfl, hb3⟩; have hacc : UQ w w.heap.size u3 j XS b (off + i) x0 x1 x2 x3 x4 w4 := UQ.call (uq_of (by assumption) (by assumption) (by assumption) (by assumption) (by assumption) (by assumption) (by assumption) (by assumption)) hbw hb3)
          | (go_split_ands; refine step_append_keep rfl _ _ 22 rfl w.heap.size 54 i0 _ 5 48 Try.underlying22 hi0 hz0 hz1 hz2 rfl (by decide) u3 j XS (by first | rfl | simp) (by assumption) _ 1 1 [.string nm, .int .i64 (IntKind.i64.wrap (x1 : Int)), .int .i64 (IntKind.i64.wrap (x2 : Int)), .int .i64 (IntKind.i64.wrap (x3 : Int)), .int .i64 (IntKind.i64.wrap (x4 : Int))] (by first | rfl | simp) rfl (newsN (by first | rfl | simp)) (by simp [Value.oneCell']) (by unfold maxLen; omega) (by omega) (by assumption) ?_; intro v5 w5 hox hgx hkx; have hacc2 : UQ w w.heap.size u3 j XS b (off + i) x0 x1 x2 x3 x4 w5 := UQ.app (uq_of (by assumption) (by assumption) (by assumption) (by assumption) (by assumption) (by assumption) (by assumption) (by assumption)) hbw hkx hgx))
      rw [← HXS.out] at hox
      have HB5 := Lib.hid hacc2.1
      clear hacc2 hgx hkx
      go_wp2
      go_roundw
      case rel => exact ⟨j + 1, i + 5, by omega, by go_num, by unfold Hid; omega, hox.out, HB5.out⟩
      case measure => simp [intOf]; omega
    · obtain rfl : j = m := by omega
      have g1 : decide ((i : Int) + 5 ≤ (n : Int)) = false := by simp; omega
      have HO2 : Hid (wr.ownsRow w.heap.size 54 5 u3 (entsE ws).length (flatN (entsE ws))) := by
        unfold Hid; rw [HM.out, HE.out]; exact HO.out
      go_wp2
      go_ret
      exact ⟨_, rfl, HO2.out, HBW.out⟩
end Go.Proofs.Ythdibijkiogpjaa
