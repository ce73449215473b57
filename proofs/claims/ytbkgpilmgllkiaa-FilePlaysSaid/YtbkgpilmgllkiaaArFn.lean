/- What the arena's calls answer. -/
import Derived.Test.YtbkgpilmgllkiaaArMem
namespace Go.Proofs.Ytbkgpilmgllkiaa
open Go.ChangeShapes Go.WideShapes Go.ChangeAt Go.RowKit

set_option maxRecDepth 100000 in
/-- 'm[p] = n', p none of its keys, at the operation -/
theorem wpList_put (w : World) {ops : Array Oper} {rest : List Oper} {o : Oper} {a : Act} {Q : Exit → Act → World → Prop}
    (hg : o.guard = none) (m x v : Operand) (hop : o.op = Op.mapUpdate 102 m x v) (b k n : Nat) (l : List (Nat × Nat)) (hm : a.eval m = .map (some b)) (hx : a.eval x = ptr k) (hv : a.eval v = .int .i64 (n : Nat))
    (h : PMap w b l) (hk : Buf w k) (hl : ∀ q ∈ l, Buf w q.1) (hn : wordsAt l k = none)
    (hK : ∀ w', PMap w' b (l ++ [(k, n)]) → w.grownBy w' (some b) → wpList Try.prog ops Q rest (a.put o.dst undef) w') :
    wpList Try.prog ops Q (o :: rest) a w := by
  refine wpList_plain hg fun K' hK' => ?_
  obtain ⟨w', hrun, r1, r2⟩ := run_put w (n := n) h hk hl hn
  unfold Oper.wp
  simp [execOp, hop, hm, hx, hv, hrun, Result.andThen]
  exact hK' _ _ (hK w' r1 r2)
set_option maxRecDepth 100000 in
/-- 'delete(m, p)', p one of its keys, at the operation -/
theorem wpList_del (w : World) {ops : Array Oper} {rest : List Oper} {o : Oper} {a : Act} {Q : Exit → Act → World → Prop}
    (hg : o.guard = none) (m x : Operand) (hop : o.op = Op.call { callee := Callee.builtin Builtin.delete, args := #[m, x], argTypes := #[102, 122] }) (b k n : Nat) (l : List (Nat × Nat)) (hm : a.eval m = .map (some b)) (hx : a.eval x = ptr k)
    (h : PMap w b l) (hk : Buf w k) (hl : ∀ q ∈ l, Buf w q.1) (hn : wordsAt l k = some n)
    (hK : ∀ w', PMap w' b (without l k) → w.grownBy w' (some b) → wpList Try.prog ops Q rest (a.put o.dst (.tuple #[])) w') :
    wpList Try.prog ops Q (o :: rest) a w := by
  refine wpList_plain hg fun K' hK' => ?_
  obtain ⟨w', hrun, r1, r2⟩ := run_del w h hk hl hn o.type
  unfold Oper.wp
  simp [execOp, hop, resolve, invoke, builtin, hm, hx, hrun, Result.andThen]
  exact hK' _ _ (hK w' r1 r2)
set_option maxRecDepth 100000 in
theorem stopDel {P : Program} {ops : Array Oper} {Q : Exit → Act → World → Prop} {rest : List Oper} {a : Act} {w : World} {m x : Operand} {ts : Array TypeId} {ty : TypeId} {pos : String} {after : Array Edge} {guard : Option (Nat × Bool)}
    (h : Hid (wpList P ops Q (⟨none, .call { callee := .builtin .delete, args := #[m, x], argTypes := ts }, ty, pos, after, guard⟩ :: rest) a w)) : wpList P ops Q (⟨none, .call { callee := .builtin .delete, args := #[m, x], argTypes := ts }, ty, pos, after, guard⟩ :: rest) a w := h

section
variable (p : Nat) (s : Ar) (m : Option Nat) (w : World)
set_option maxRecDepth 100000 in
theorem arroom_any (hr : Row w p 104 (arCells s m)) : Calls Try.prog 77 #[.pointer (some ⟨p, 0, none⟩)] w fun e w' => e = .returned (.int .i64 (s.room : Int)) ∧ w' = w := by
  have c0 : w.cell? ⟨p, 0, none⟩ = some (.int .i64 (s.room : Int)) := hr.cell 0
  go_enter Try.func77, Try.ntmps77
  go_wp2
  go_ret
  exact ⟨rfl, rfl⟩
set_option maxRecDepth 100000 in
theorem arused_any (hr : Row w p 104 (arCells s m)) : Calls Try.prog 17 #[.pointer (some ⟨p, 0, none⟩)] w fun e w' => e = .returned (.int .i64 (s.used : Int)) ∧ w' = w := by
  have c0 : w.cell? ⟨p, 1, none⟩ = some (.int .i64 (s.used : Int)) := hr.cell 1
  go_enter Try.func17, Try.ntmps17
  go_wp2
  go_ret
  exact ⟨rfl, rfl⟩
set_option maxRecDepth 100000 in
theorem arpeak_any (hr : Row w p 104 (arCells s m)) : Calls Try.prog 21 #[.pointer (some ⟨p, 0, none⟩)] w fun e w' => e = .returned (.int .i64 (s.peak : Int)) ∧ w' = w := by
  have c0 : w.cell? ⟨p, 2, none⟩ = some (.int .i64 (s.peak : Int)) := hr.cell 2
  go_enter Try.func21, Try.ntmps21
  go_wp2
  go_ret
  exact ⟨rfl, rfl⟩
set_option maxRecDepth 100000 in
theorem arleft_any (hr : Row w p 104 (arCells s m)) (hs : Sound s) : Calls Try.prog 58 #[.pointer (some ⟨p, 0, none⟩)] w fun e w' => e = .returned (.int .i64 ((s.room - s.used : Nat) : Int)) ∧ w' = w := by
  have hro := arroom_any p s m w hr
  have hus := arused_any p s m w hr
  have h1 := hs.peak
  have h2 := hs.room
  have hsub : (s.room : Int) - (s.used : Int) = ((s.room - s.used : Nat) : Int) := by omega
  have g1 : (-9223372036854775808 : Int) ≤ (s.room : Int) - (s.used : Int) := by omega
  have g2 : (s.room : Int) - (s.used : Int) ≤ 9223372036854775807 := by omega
  clear h1 h2 hs hr
  go_enter Try.func58, Try.ntmps58
  go_wp2_with fail
  refine hro.mono ?_
  rintro e w1 ⟨rfl, rfl⟩
  go_wp2_with fail
  refine hus.mono ?_
  rintro e w1 ⟨rfl, rfl⟩
  go_wp2
  go_ret
  exact ⟨rfl, rfl⟩
end
set_option maxRecDepth 100000 in
theorem new_arn (w : World) (room : Nat) (h : room ≤ 9223372036854775807) : Arn (w.alloc (.cells #[.int .i64 (room : Int), .int .i64 0, .int .i64 0, .map none] 104)) (fun k => k = w.heap.size) w.heap.size (empty room) := by
  have hr : Row (w.alloc (.cells #[.int .i64 (room : Int), .int .i64 0, .int .i64 0, .map none] 104)) w.heap.size 104 (arCells (empty room) none) := heap_alloc_new _ _
  exact ⟨empty_sound h, ⟨none, hr, .inl ⟨rfl, rfl⟩, fun k hk => .inl hk⟩, rfl, fun k hk => by subst hk; simp, fun q hq => by cases hq⟩
set_option maxRecDepth 100000 in
theorem arnew_any (room : Int) (w : World) (h1 : -9223372036854775808 ≤ room) (h2 : room ≤ 9223372036854775807) :
    Calls Try.prog 39 #[.int .i64 room] w fun e w' => e = .returned (ptr w.heap.size) ∧ Arn w' (fun k => k = w.heap.size) w.heap.size (empty room.toNat) ∧ Below w.heap.size w w' := by
  have H := Lib.hid (new_arn w)
  have HB := fun o => Lib.hid ((Below.refl _ w).alloc (Nat.le_refl _) o)
  go_enter Try.func39, Try.ntmps39
  go_wp2
  · go_ret
    have e : room.toNat = 0 := by omega
    rw [e]
    exact ⟨rfl, H.out 0 (by omega), (HB _).out⟩
  · go_ret
    have e : room = (room.toNat : Int) := by omega
    have hh := H.out room.toNat (by omega)
    rw [← e] at hh
    exact ⟨rfl, hh, (HB _).out⟩

set_option maxRecDepth 100000 in
/-- what count makes of the arena -/
theorem arn_put {w2 w3 : World} {G : Nat → Prop} {p b n bm : Nat} {s : Ar} (h0 : Sound s) (hn : n ≤ s.room - s.used) (hb : Buf w2 b) (hbG : ¬ G b) (hbf : ∀ q ∈ s.st, Buf w2 q.1 ∧ ¬ G q.1) (hp : G p) (hG : ∀ k, G k → k < w2.heap.size) (hGo : ∀ k, G k → k = p ∨ some bm = some k)
    (hm : PMap w2 bm (s.st ++ [(b, n)])) (hbm : G bm) (hne : bm ≠ p) (hr : Row w3 p 104 (arCells (grant s b n) (some bm))) (hf : Far (fun k => k = p) w2 w3) : Arn w3 G p (grant s b n) := by
  have hB : ∀ x, Buf w2 x → ¬ G x → Buf w3 x := fun x hx hg => hx.far hf fun e => hg (e ▸ hp)
  refine ⟨grant_sound h0 b hn, ⟨some bm, hr, .inr ⟨bm, rfl, hm.same (hf.block bm hm.lt hne), hbm⟩, hGo⟩, hp, fun k hk => Nat.lt_of_lt_of_le (hG k hk) hf.size, fun q hq => ?_⟩
  rcases List.mem_append.1 hq with hq | hq
  · exact hB _ (hbf q hq).1 (hbf q hq).2
  · have : q = (b, n) := by simpa using hq
    subst this; exact hB _ hb hbG
set_option maxRecDepth 100000 in
theorem count_tail {w2 : World} {p : Nat} {s : Ar} {bm : Nat} (b n : Nat) {u : Nat} (hu : s.used + n = u) (hr : Row w2 p 104 (arCells s (some bm))) :
    Row ((w2.setCell ⟨p, 1, none⟩ (.int .i64 (u : Int))).setCell ⟨p, 2, none⟩ (.int .i64 (if s.peak < u then (u : Int) else (s.peak : Int)))).drew p 104 (arCells (grant s b n) (some bm)) ∧
    Far (fun k => k = p) w2 ((w2.setCell ⟨p, 1, none⟩ (.int .i64 (u : Int))).setCell ⟨p, 2, none⟩ (.int .i64 (if s.peak < u then (u : Int) else (s.peak : Int)))).drew := by
  refine ⟨?_, ?_⟩
  · have h := (hr.set 1 (.int .i64 (u : Int))).set 2 (.int .i64 (if s.peak < u then (u : Int) else (s.peak : Int)))
    have e : arCells (grant s b n) (some bm) = ((arCells s (some bm)).set 1 (.int .i64 (u : Int))).set 2 (.int .i64 (if s.peak < u then (u : Int) else (s.peak : Int))) := by
      subst hu
      by_cases h : s.peak < s.used + n <;> simp [arCells, grant, h]
    rw [e]; exact h
  · exact (((Far.refl (fun k => k = p) w2).set (p := ⟨p, 1, none⟩) (.inl rfl) (.int .i64 (u : Int))).set (p := ⟨p, 2, none⟩) (.inl rfl) (.int .i64 (if s.peak < u then (u : Int) else (s.peak : Int)))).drew
set_option maxHeartbeats 800000 in
set_option maxRecDepth 100000 in
theorem arcount_any (p : Nat) (s : Ar) (G : Nat → Prop) (b n : Nat) (w : World) (h : Arn w G p s) (hb : Buf w b) (hfr : ∀ q ∈ s.st, q.1 ≠ b) (hn : n ≤ s.room - s.used) :
    Calls Try.prog 71 #[.pointer (some ⟨p, 0, none⟩), .pointer (some ⟨b, 0, none⟩), .int .i64 (n : Int)] w fun e w' => ∃ G', e = .returned (.tuple #[]) ∧ Arn w' G' p (grant s b n) ∧ Far G w w' ∧ ∀ k, G' k → G k ∨ w.heap.size ≤ k := by
  have hno := wordsAt_fresh s.st b hfr
  have hbG := h.notBuf hb
  have hbf := fun q hq => And.intro (h.buf (q := q) hq) (h.notBuf (h.buf hq))
  obtain ⟨h0, ⟨m, hr, hst, hGo⟩, hp, hG, _⟩ := id h
  have hmm := @run_makeMap Try.prog
  have hnil := fun w r => run_eql_map_nil (P := Try.prog) w 102 122 3 r Try.underlying102
  have hs1 := h0.peak
  have hs2 := h0.room
  obtain ⟨u, hu⟩ : ∃ u, s.used + n = u := ⟨_, rfl⟩
  have hadd : (s.used : Int) + (n : Int) = (u : Int) := by omega
  have HU := Lib.hid hu
  have g1 : (-9223372036854775808 : Int) ≤ (u : Int) := by omega
  have g2 : (u : Int) ≤ 9223372036854775807 := by omega
  clear hu
  have H0 := Lib.hid h0
  have HR := Lib.hid hr
  have HN := Lib.hid hn
  have c3 : w.cell? ⟨p, 3, none⟩ = some (.map m) := hr.cell 3
  have f3 := hr.free 3
  clear hr h0 h hn hs1 hs2
  rcases hst with ⟨rfl, hst⟩ | ⟨bm, rfl, hm, hbm⟩
  · have hp' : p < w.heap.size := hG p hp
    have hr1 : Row ((w.setCell ⟨p, 3, none⟩ (.map (some w.heap.size))).alloc (.map #[] 0)) p 104 (arCells s (some w.heap.size)) := (HR.out.set 3 (.map (some w.heap.size))).alloc (.map #[] 0)
    have hm1 : PMap ((w.setCell ⟨p, 3, none⟩ (.map (some w.heap.size))).alloc (.map #[] 0)) w.heap.size s.st := by
      rw [hst]; have := PMap.made (w.setCell ⟨p, 3, none⟩ (.map (some w.heap.size))); rwa [show (w.setCell ⟨p, 3, none⟩ (.map (some w.heap.size))).heap.size = w.heap.size by simp] at this
    have hf1 : Far G w ((w.setCell ⟨p, 3, none⟩ (.map (some w.heap.size))).alloc (.map #[] 0)) := ((Far.refl G w).set (p := ⟨p, 3, none⟩) (.inl hp) _).alloc _
    have hz1 : ((w.setCell ⟨p, 3, none⟩ (.map (some w.heap.size))).alloc (.map #[] 0)).heap.size = w.heap.size + 1 := by simp
    have c3' : ((w.setCell ⟨p, 3, none⟩ (.map (some w.heap.size))).alloc (.map #[] 0)).cell? ⟨p, 3, none⟩ = some (.map (some w.heap.size)) := hr1.cell 3
    have HM1 := Lib.hid hm1
    have HR1 := Lib.hid hr1
    have HF1 := Lib.hid hf1
    have HZ1 := Lib.hid hz1
    clear hm1 hr1 hf1 hz1
    go_enter Try.func71, Try.ntmps71
    go_wp2_with (with_reducible refine stopMap ?_)
    unfold Hid
    generalize (w.setCell ⟨p, 3, none⟩ (.map (some w.heap.size))).alloc (.map #[] 0) = w1 at *
    have hb1 : ∀ x, Buf w x → ¬ G x → Buf w1 x := fun x hx hg => hx.far HF1.out hg
    refine wpList_put w1 rfl _ _ _ rfl w.heap.size b n s.st rfl rfl rfl HM1.out (hb1 b hb hbG) (fun q hq => hb1 _ (hbf q hq).1 (hbf q hq).2) hno ?_
    intro w2 hm2 hg2
    have hf2 : Far (fun k => k = w.heap.size) w1 w2 := (Far.refl _ w1).grown hg2 fun k hk => .inl (by injection hk with hk; exact hk.symm)
    have hr2 := hf2.row HR1.out (HM1.out.not_row HR1.out)
    have HF2 := Lib.hid (HF1.out.trans hf2 fun k hk => .inr (by omega))
    have hb2 : ∀ x, Buf w x → ¬ G x → Buf w2 x := fun x hx hg => hx.far HF2.out hg
    have HT := Lib.hid (count_tail b n HU.out hr2)
    have k1 : w2.cell? ⟨p, 1, none⟩ = some (.int .i64 (s.used : Int)) := hr2.cell 1
    have k2 : w2.cell? ⟨p, 2, none⟩ = some (.int .i64 (s.peak : Int)) := hr2.cell 2
    have f1 := hr2.free 1
    have f2 := hr2.free 2
    have hend : ∀ w3, Row w3 p 104 (arCells (grant s b n) (some w.heap.size)) → Far (fun k => k = p) w2 w3 → ∃ G', Ending.returned (.tuple #[]) = Ending.returned (.tuple #[]) ∧ Arn w3 G' p (grant s b n) ∧ Far G w w3 ∧ ∀ k, G' k → G k ∨ w.heap.size ≤ k := by
      intro w3 hr3 hf3
      refine ⟨fun k => G k ∨ k = w.heap.size, rfl, ?_, HF2.out.trans hf3 fun k hk => .inl (hk ▸ hp), fun k hk => hk.imp id fun e => by omega⟩
      have hlt : ∀ x, Buf w x → ¬ G x → ¬ (G x ∨ x = w.heap.size) := fun x hx hg hh => hh.elim hg fun e => by have := hx.lt; omega
      refine arn_put (G := fun k => G k ∨ k = w.heap.size) H0.out HN.out (hb2 b hb hbG) (hlt b hb hbG) (fun q hq => ⟨hb2 _ (hbf q hq).1 (hbf q hq).2, hlt _ (hbf q hq).1 (hbf q hq).2⟩) (.inl hp) (fun k hk => ?_) (fun k hk => ?_) hm2 (.inr rfl) (by omega) hr3 hf3
      · have := HF2.out.size
        have := hm2.lt
        rcases hk with hk | hk
        · have := hG k hk; omega
        · omega
      · rcases hk with hk | hk
        · exact (hGo k hk).elim .inl fun e => by cases e
        · exact .inr (by rw [hk])
    have HEND := Lib.hid hend
    clear hend hm2 hg2 hf2 hr2 hb2 c3 c3' f3 hb1 hst hno hfr hbf
    go_wp2_with fail
    go_region
    go_end0
    have ht := HT.out
    by_cases hlt : s.peak < u
    · simp only [if_pos hlt] at ht ⊢; exact HEND.out _ ht.1 ht.2
    · simp only [if_neg hlt] at ht ⊢; exact HEND.out _ ht.1 ht.2
  · have HM := Lib.hid hm
    go_enter Try.func71, Try.ntmps71
    go_wp2_with (with_reducible refine stopMap ?_)
    unfold Hid
    refine wpList_put _ rfl _ _ _ rfl bm b n s.st rfl rfl rfl HM.out hb (fun q hq => (hbf q hq).1) hno ?_
    intro w2 hm2 hg2
    have hf2 : Far (fun k => k = bm) w w2 := (Far.refl _ w).grown hg2 fun k hk => .inl (by injection hk with hk; exact hk.symm)
    have hr2 := hf2.row HR.out (HM.out.not_row HR.out)
    have HF2 : Hid (Far G w w2) := hf2.mono fun k hk => hk ▸ hbm
    have hb2 : ∀ x, Buf w x → ¬ G x → Buf w2 x := fun x hx hg => hx.far HF2.out hg
    have hne : bm ≠ p := fun e => HM.out.not_row HR.out e.symm
    have HT := Lib.hid (count_tail b n HU.out hr2)
    have k1 : w2.cell? ⟨p, 1, none⟩ = some (.int .i64 (s.used : Int)) := hr2.cell 1
    have k2 : w2.cell? ⟨p, 2, none⟩ = some (.int .i64 (s.peak : Int)) := hr2.cell 2
    have f1 := hr2.free 1
    have f2 := hr2.free 2
    have hend : ∀ w3, Row w3 p 104 (arCells (grant s b n) (some bm)) → Far (fun k => k = p) w2 w3 → ∃ G', Ending.returned (.tuple #[]) = Ending.returned (.tuple #[]) ∧ Arn w3 G' p (grant s b n) ∧ Far G w w3 ∧ ∀ k, G' k → G k ∨ w.heap.size ≤ k := by
      intro w3 hr3 hf3
      exact ⟨G, rfl, arn_put H0.out HN.out (hb2 b hb hbG) hbG (fun q hq => ⟨hb2 _ (hbf q hq).1 (hbf q hq).2, (hbf q hq).2⟩) hp (fun k hk => Nat.lt_of_lt_of_le (hG k hk) HF2.out.size) hGo hm2 hbm hne hr3 hf3, HF2.out.trans hf3 fun k hk => .inl (hk ▸ hp), fun k hk => .inl hk⟩
    have HEND := Lib.hid hend
    clear hend hm2 hg2 hf2 hr2 hb2 c3 f3 hno hfr hbf
    go_wp2_with fail
    go_region
    go_end0
    have ht := HT.out
    by_cases hlt : s.peak < u
    · simp only [if_pos hlt] at ht ⊢; exact HEND.out _ ht.1 ht.2
    · simp only [if_neg hlt] at ht ⊢; exact HEND.out _ ht.1 ht.2

set_option maxRecDepth 100000 in
theorem arInfoU : (Try.prog.info? 69).map (fun i => (i.zero, i.size, i.bytes)) = some (some (.int .u64 0), 1, 8) := by kernel_rfl
theorem grant_none (n : Int) (w : World) : Calls Try.prog 49 #[.pointer none, .int .i64 n] w fun e w' => e = .returned (.tuple #[.pointer none, .int .i64 7]) ∧ w' = w := by
  go_enter Try.func49, Try.ntmps49
  go_wp2
  go_ret2
  exact ⟨rfl, rfl⟩
set_option maxRecDepth 100000 in
/-- what is below 0, or more than is left, isn't granted -/
theorem grant_no (p : Nat) (s : Ar) (G : Nat → Prop) (n : Int) (w : World) (h : Arn w G p s) (hn : n < 0 ∨ (s.room - s.used : Nat) < n) :
    Calls Try.prog 49 #[.pointer (some ⟨p, 0, none⟩), .int .i64 n] w fun e w' => e = .returned (.tuple #[.pointer none, .int .i64 (if n < 0 then 1 else 7)]) ∧ w' = w := by
  obtain ⟨h0, ⟨m, hr, hst, hGo⟩, hp, hG, hbf⟩ := h
  have hl := arleft_any p s m w hr h0
  by_cases h1 : n < 0
  · rw [if_pos h1]
    have g1 : decide (n < 0) = true := by simpa using h1
    clear hl hn
    go_enter Try.func49, Try.ntmps49
    go_wp2
    go_ret2
    exact ⟨rfl, rfl⟩
  · rw [if_neg h1]
    have hn2 : (s.room - s.used : Nat) < n := by omega
    have g1 : decide (n < 0) = false := by simpa using h1
    obtain ⟨left, hleft⟩ : ∃ l : Nat, s.room - s.used = l := ⟨_, rfl⟩
    rw [hleft] at hl hn2
    have g2 : decide (n > (left : Int)) = true := by simpa using hn2
    clear hn hleft h1 hn2 hr
    go_enter Try.func49, Try.ntmps49
    go_wp2_with fail
    refine hl.mono ?_
    rintro e w1 ⟨rfl, rfl⟩
    go_wp2
    go_ret2
    exact ⟨rfl, rfl⟩
set_option maxRecDepth 100000 in
/-- what is left is granted -/
theorem grant_any (p : Nat) (s : Ar) (G : Nat → Prop) (n : Nat) (w : World) (h : Arn w G p s) (hn : n ≤ s.room - s.used) (hm : n ≤ 268435455) :
    Calls Try.prog 49 #[.pointer (some ⟨p, 0, none⟩), .int .i64 (n : Int)] w fun e w' => ∃ b g G', e = .returned (.tuple #[ptr b, .int .i64 0]) ∧ Arn w' G' p (grant s b n) ∧
      Row w' b 130 [.slice (some ⟨g, 0, none⟩) n n] ∧ Row w' g 69 (List.replicate n (.int .u64 0)) ∧ w.heap.size ≤ b ∧ w.heap.size ≤ g ∧ b ≠ g ∧ ¬ G' b ∧ ¬ G' g ∧ Far G w w' ∧ ∀ k, G' k → G k ∨ w.heap.size ≤ k := by
  obtain ⟨h0, ⟨m, hr, hst, hGo⟩, hp, hG, hbf⟩ := id h
  have hl := arleft_any p s m w hr h0
  have HA := Lib.hid h
  have HN := Lib.hid hn
  have g1 : decide ((n : Int) < 0) = false := by simp
  have g2 : decide (s.room - s.used < n) = false := by simp; omega
  have g3 : decide ((n : Int) > 268435455) = false := by simp; omega
  obtain ⟨i0, hi0, hz0, hz1, hz2⟩ := info_parts arInfoU
  have hb8 : i0.bytes * n ≤ 281474976710656 := by rw [hz2]; omega
  obtain ⟨left, hleft⟩ : ∃ l : Nat, s.room - s.used = l := ⟨_, rfl⟩
  rw [hleft] at hl g2
  clear h hn hr hst h0 hleft
  go_enter Try.func49, Try.ntmps49
  go_wp2_with fail
  refine hl.mono ?_
  rintro e w1 ⟨rfl, rfl⟩
  go_wp2_with (with_reducible refine stopAt 23 ?_)
  unfold Hid
  refine wpList_make_row _ rfl _ _ 71 rfl 69 i0 (.int .u64 0) Try.underlying71 hi0 hz0 hz1 rfl .i64 .i64 _ _ n rfl rfl rfl rfl hb8 (by omega) ?_
  intro w2 hr2 hb2 hs2
  have hr3 : Row (w2.alloc (.cells #[.slice (some ⟨w1.heap.size, 0, none⟩) n n] 130)) w2.heap.size 130 [.slice (some ⟨w1.heap.size, 0, none⟩) n n] := heap_alloc_new _ _
  have hb3 := hb2.trans (((Below.refl _ w2).alloc (Nat.le_refl _) (.cells #[.slice (some ⟨w1.heap.size, 0, none⟩) n n] 130)).mono (by omega))
  have hz3 : (w2.alloc (.cells #[.slice (some ⟨w1.heap.size, 0, none⟩) n n] 130)).heap.size = w1.heap.size + 2 := by simp [hs2]
  have hgr : Row (w2.alloc (.cells #[.slice (some ⟨w1.heap.size, 0, none⟩) n n] 130)) w1.heap.size 69 (List.replicate n (.int .u64 0)) := hr2.alloc _
  have ha3 := HA.out.below hb3
  have hno : ∀ k, G k → k < w1.heap.size := hG
  have hcnt := arcount_any p s G w2.heap.size n _ ha3 ⟨_, hr3⟩ (fun q hq e => by have := (hbf q hq).lt; omega) HN.out
  have HR3 := Lib.hid hr3
  have HB3 := Lib.hid hb3
  have HGR := Lib.hid hgr
  have HZ3 := Lib.hid hz3
  have HS2 := Lib.hid hs2
  clear hr3 hb3 hgr hz3 ha3 hr2 hb2 hs2 hbf hl hi0 hz0 hz1 hz2 hb8
  go_wp2_with fail
  refine hcnt.mono ?_
  rintro e w4 ⟨G', rfl, ha4, hf4, hG4⟩
  have hs2 := HS2.out
  have hz3 := HZ3.out
  have hb4 := hf4.row HR3.out (fun hg => by have := hG _ hg; omega)
  have hg4 := hf4.row HGR.out (fun hg => by have := hG _ hg; omega)
  have HEND : Hid (Arn w4 G' p (grant s w2.heap.size n) ∧ Row w4 w2.heap.size 130 [.slice (some ⟨w1.heap.size, 0, none⟩) n n] ∧ Row w4 w1.heap.size 69 (List.replicate n (.int .u64 0)) ∧ w1.heap.size ≤ w2.heap.size ∧ w1.heap.size ≤ w1.heap.size ∧ w2.heap.size ≠ w1.heap.size ∧ ¬ G' w2.heap.size ∧ ¬ G' w1.heap.size ∧ Far G w1 w4 ∧ ∀ k, G' k → G k ∨ w1.heap.size ≤ k) := by
    have hnG : ∀ x, G' x → ¬ G x → w1.heap.size + 2 ≤ x := fun x hx hg => (hG4 x hx).elim (fun h => absurd h hg) fun h => by omega
    refine ⟨ha4, hb4, hg4, by omega, Nat.le_refl _, by omega, fun h => ?_, fun h => ?_, (Far.of_below HB3.out G).trans hf4 fun k hk => .inl hk, fun k hk => (hG4 k hk).imp id fun h => by omega⟩
    · by_cases hg : G w2.heap.size
      · have := hG _ hg; omega
      · have := hnG _ h hg; omega
    · by_cases hg : G w1.heap.size
      · have := hG _ hg; omega
      · have := hnG _ h hg; omega
  clear ha4 hf4 hG4 hb4 hg4 hcnt hs2 hz3 HR3 HB3 HGR HZ3 HS2
  go_wp2
  go_ret2
  exact ⟨_, _, _, rfl, HEND.out⟩
set_option maxRecDepth 100000 in
theorem release_none (x : Option Addr) (w : World) : Calls Try.prog 56 #[.pointer none, .pointer x] w fun e w' => e = .returned (.bool false) ∧ w' = w := by
  go_enter Try.func56, Try.ntmps56
  go_wp2
  go_ret
  exact ⟨rfl, rfl⟩
set_option maxRecDepth 100000 in
/-- what doesn't stand isn't released -/
theorem release_no (p : Nat) (s : Ar) (G : Nat → Prop) (b : Nat) (w : World) (h : Arn w G p s) (hb : Buf w b) (hn : wordsAt s.st b = none) :
    Calls Try.prog 56 #[.pointer (some ⟨p, 0, none⟩), .pointer (some ⟨b, 0, none⟩)] w fun e w' => e = .returned (.bool false) ∧ w' = w := by
  obtain ⟨h0, ⟨m, hr, hst, hGo⟩, hp, hG, hbf⟩ := h
  have c3 : w.cell? ⟨p, 3, none⟩ = some (.map m) := hr.cell 3
  have hlook : (Instr.lookup 102 (.map m) (.pointer (some ⟨b, 0, none⟩)) true).run Try.prog w = .ok (.tuple #[.int .i64 0, .bool false]) w := by
    rcases hst with ⟨rfl, _⟩ | ⟨bm, rfl, hm, _⟩
    · exact run_look_nil w b
    · have := run_look w hm hb hbf
      rw [hn] at this; exact this
  clear hr hst
  go_enter Try.func56, Try.ntmps56
  go_wp2
  go_ret
  exact ⟨rfl, rfl⟩
set_option maxRecDepth 100000 in
/-- what stands is released -/
theorem release_any (p : Nat) (s : Ar) (G : Nat → Prop) (b n : Nat) (w : World) (h : Arn w G p s) (hb : Buf w b) (hn : wordsAt s.st b = some n) :
    Calls Try.prog 56 #[.pointer (some ⟨p, 0, none⟩), .pointer (some ⟨b, 0, none⟩)] w fun e w' => e = .returned (.bool true) ∧ Arn w' G p (release s b n) ∧ Row w' b 130 [.slice none 0 0] ∧ Far (fun k => G k ∨ k = b) w w' := by
  have hw := h.words hn
  have hbG := h.notBuf hb
  have hbf := fun q hq => And.intro (h.buf (q := q) hq) (h.notBuf (h.buf hq))
  obtain ⟨h0, ⟨m, hr, hst, hGo⟩, hp, hG, _⟩ := id h
  rcases hst with ⟨rfl, hst⟩ | ⟨bm, rfl, hm, hbm⟩
  · rw [hst] at hn; cases hn
  have c3 : w.cell? ⟨p, 3, none⟩ = some (.map (some bm)) := hr.cell 3
  have hlook : (Instr.lookup 102 (.map (some bm)) (.pointer (some ⟨b, 0, none⟩)) true).run Try.prog w = .ok (.tuple #[.int .i64 (n : Int), .bool true]) w := by
    have := run_look w hm hb fun q hq => (hbf q hq).1
    rw [hn] at this; exact this
  have hne : bm ≠ p := fun e => hm.not_row hr e.symm
  have HM := Lib.hid hm
  have HR := Lib.hid hr
  have H0 := Lib.hid h0
  have HNN := Lib.hid hn
  obtain ⟨u, hu⟩ : ∃ u, s.used - n = u := ⟨_, rfl⟩
  have hsub : (s.used : Int) - (n : Int) = (u : Int) := by omega
  have g1 : (-9223372036854775808 : Int) ≤ (u : Int) := by omega
  have g2 : (u : Int) ≤ 9223372036854775807 := by omega
  have HU := Lib.hid hu
  clear hu hr hm h h0 hn hw
  go_enter Try.func56, Try.ntmps56
  go_wp2_with (with_reducible refine stopDel ?_)
  unfold Hid
  refine wpList_del _ rfl _ _ rfl bm b n s.st rfl rfl HM.out hb (fun q hq => (hbf q hq).1) HNN.out ?_
  intro w2 hm2 hg2
  have hf2 : Far (fun k => k = bm) w w2 := (Far.refl _ w).grown hg2 fun k hk => .inl (by injection hk with hk; exact hk.symm)
  have hr2 := hf2.row HR.out (HM.out.not_row HR.out)
  obtain ⟨v, hv⟩ := hb
  have hb2 := hf2.row hv (HM.out.not_row hv)
  have k1 : w2.cell? ⟨p, 1, none⟩ = some (.int .i64 (s.used : Int)) := hr2.cell 1
  have f1 := hr2.free 1
  have fb := hb2.free 0
  have kb : w2.cell? ⟨b, 0, none⟩ = some v := hb2.cell 0
  have hbp : b ≠ p := fun e => hbG (e ▸ hp)
  have hpb : p ≠ b := fun e => hbp e.symm
  have hend : Arn ((w2.setCell ⟨p, 1, none⟩ (.int .i64 (u : Int))).setCell ⟨b, 0, none⟩ (.slice none 0 0)) G p (release s b n) ∧ Row ((w2.setCell ⟨p, 1, none⟩ (.int .i64 (u : Int))).setCell ⟨b, 0, none⟩ (.slice none 0 0)) b 130 [.slice none 0 0] ∧
      Far (fun k => G k ∨ k = b) w ((w2.setCell ⟨p, 1, none⟩ (.int .i64 (u : Int))).setCell ⟨b, 0, none⟩ (.slice none 0 0)) := by
    have hr3 : Row ((w2.setCell ⟨p, 1, none⟩ (.int .i64 (u : Int))).setCell ⟨b, 0, none⟩ (.slice none 0 0)) p 104 (arCells (release s b n) (some bm)) := by
      have e : arCells (release s b n) (some bm) = (arCells s (some bm)).set 1 (.int .i64 (u : Int)) := by rw [← HU.out]; rfl
      rw [e]; exact (hr2.set 1 _).far (fun e => hbp e.symm) _
    have hr4 : Row ((w2.setCell ⟨p, 1, none⟩ (.int .i64 (u : Int))).setCell ⟨b, 0, none⟩ (.slice none 0 0)) b 130 [.slice none 0 0] := (hb2.far (p := ⟨p, 1, none⟩) hbp _).set 0 _
    have hf4 : Far (fun k => G k ∨ k = b) w ((w2.setCell ⟨p, 1, none⟩ (.int .i64 (u : Int))).setCell ⟨b, 0, none⟩ (.slice none 0 0)) := ((hf2.mono fun k hk => .inl (hk ▸ hbm)).set (p := ⟨p, 1, none⟩) (.inl (.inl hp)) _).set (p := ⟨b, 0, none⟩) (.inl (.inr rfl)) _
    refine ⟨⟨release_sound H0.out HNN.out, ⟨some bm, hr3, .inr ⟨bm, rfl, hm2.same ?_, hbm⟩, hGo⟩, hp, fun k hk => Nat.lt_of_lt_of_le (hG k hk) hf4.size, fun q hq => ?_⟩, hr4, hf4⟩
    · rw [heap_setCell_other _ ⟨b, 0, none⟩ _ _ (show bm ≠ b from fun e => hbG (e ▸ hbm)), heap_setCell_other _ ⟨p, 1, none⟩ _ _ (show bm ≠ p from hne)]
    · have hq' := hbf q (without_mem _ _ _ hq)
      by_cases e : q.1 = b
      · rw [e]; exact ⟨_, hr4⟩
      · exact hq'.1.far hf4 fun h => h.elim hq'.2 e
  have HEND := Lib.hid hend
  clear hend hm2 hg2 hf2 hr2 hb2 hv c3 hlook hbf
  go_wp2
  go_ret
  exact ⟨rfl, HEND.out⟩
section
variable {p : Nat} {s : Ar} {m : Option Nat} {w : World}
set_option maxRecDepth 100000 in
theorem arroom_q (hr : Row w p 104 (arCells s m)) (q : Nat) : Calls Try.prog 77 #[.pointer (some ⟨p, 0, none⟩)] (w.drewN q) fun e w'' => e = .returned (.int .i64 (s.room : Int)) ∧ ∃ k, w'' = w.drewN k :=
  Calls.quiet_of_same ((arroom_any p s m _ (hr.drewN q)).mono fun _ _ h => h)
theorem arused_q (hr : Row w p 104 (arCells s m)) (q : Nat) : Calls Try.prog 17 #[.pointer (some ⟨p, 0, none⟩)] (w.drewN q) fun e w'' => e = .returned (.int .i64 (s.used : Int)) ∧ ∃ k, w'' = w.drewN k :=
  Calls.quiet_of_same ((arused_any p s m _ (hr.drewN q)).mono fun _ _ h => h)
set_option maxRecDepth 100000 in
theorem arpeak_q (hr : Row w p 104 (arCells s m)) (q : Nat) : Calls Try.prog 21 #[.pointer (some ⟨p, 0, none⟩)] (w.drewN q) fun e w'' => e = .returned (.int .i64 (s.peak : Int)) ∧ ∃ k, w'' = w.drewN k :=
  Calls.quiet_of_same ((arpeak_any p s m _ (hr.drewN q)).mono fun _ _ h => h)
theorem arleft_q (hr : Row w p 104 (arCells s m)) (hs : Sound s) (q : Nat) : Calls Try.prog 58 #[.pointer (some ⟨p, 0, none⟩)] (w.drewN q) fun e w'' => e = .returned (.int .i64 ((s.room - s.used : Nat) : Int)) ∧ ∃ k, w'' = w.drewN k :=
  Calls.quiet_of_same ((arleft_any p s m _ (hr.drewN q) hs).mono fun _ _ h => h)
end
end Go.Proofs.Ytbkgpilmgllkiaa
