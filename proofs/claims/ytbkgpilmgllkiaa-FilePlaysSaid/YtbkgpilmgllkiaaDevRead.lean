/- What the device's New and Read answer. -/
import Derived.Test.YtbkgpilmgllkiaaDevMaps
namespace Go.Proofs.Ytbkgpilmgllkiaa
open Go.ChangeShapes Go.WideShapes Go.ChangeAt Go.RowKit Go.Maps

theorem zeroWs (w : World) : (zeroValue 71).run Try.prog w = .ok (.slice none 0 0) w := by kernel_rfl
/-- 'v, ok := m[i]' of a map of words -/
theorem wpList_lookupF (w : World) {ops : Array Oper} {rest : List Oper} {o : Oper} {a : Act} {Q : Exit → Act → World → Prop}
    (hg : o.guard = none) (m x : Operand) (hop : o.op = Op.lookup 110 m x true) (b n : Nat) (f : Int → Option Value) (hm : a.eval m = .map (some b)) (h : MapF w b n f) (i : Int) (hi : I64 i) (hx : a.eval x = .int .i64 i)
    (u : Value) (k : Bool) (hu : (u = .slice none 0 0 ∧ k = false ∧ f i = none) ∨ (f i = some u ∧ k = true)) (hK : wpList Try.prog ops Q rest (a.put o.dst (.tuple #[u, .bool k])) w) :
    wpList Try.prog ops Q (o :: rest) a w := by
  obtain ⟨D, hown, h0, h1, h2⟩ := h
  refine wpList_lookup_own_ok w hg m x 110 hop 3 71 law Try.underlying110 keepV (zeroWs w) (.held (.slice none 0 0)) [] rfl b n D hm hown _ (.int .i64 i) hx (keyI hi) ?_
  intro v ps hv
  have hv' : DataW.held v = D.atKey (.int .i64 i) (.held (.slice none 0 0)) := by unfold keepV at hv; injection hv with hv; injection hv
  rcases hu with ⟨rfl, rfl, hn⟩ | ⟨hs, rfl⟩
  · have hh := h1 i hi hn
    rw [Maps.atKey_of_not_has hh] at hv'
    injection hv' with hv'
    rw [hh, hv']; exact hK
  · obtain ⟨hh, ha⟩ := h2 i u hi hs
    rw [ha] at hv'
    injection hv' with hv'
    rw [hh, hv']; exact hK

theorem holding_any (size : Nat) (blocks : Int) (b : Nat) (w : World) :
    Calls Try.prog 62 #[.int .i64 (size : Int), .int .i64 blocks, .map (some b)] w fun e w' => e = .returned (.pointer (some ⟨w.heap.size + 1, 0, none⟩)) ∧ MapF w' w.heap.size 0 nothing ∧
      Row w' (w.heap.size + 1) 113 (cellsOf (fresh size blocks) b w.heap.size (.slice none 0 0)) ∧ Below w.heap.size w w' ∧ w'.heap.size = w.heap.size + 2 := by
  have hmm := @run_makeMap Try.prog
  have H1 := Lib.hid ((MapF.made w).same (w' := (w.alloc (.map #[] 0)).alloc (.cells (cellsOf (fresh size blocks) b w.heap.size (.slice none 0 0)).toArray 113)) (Below.heap_alloc _ _ _ (by simp)))
  have H2 : Hid (Row ((w.alloc (.map #[] 0)).alloc (.cells (cellsOf (fresh size blocks) b w.heap.size (.slice none 0 0)).toArray 113)) (w.heap.size + 1) 113 (cellsOf (fresh size blocks) b w.heap.size (.slice none 0 0))) := by
    unfold Hid
    have := heap_alloc_new (w.alloc (.map #[] 0)) (.cells (cellsOf (fresh size blocks) b w.heap.size (.slice none 0 0)).toArray 113)
    simp only [World.alloc, Array.size_push] at this ⊢
    exact this
  go_enter Try.func62, Try.ntmps62
  go_wp2
  go_ret
  exact ⟨rfl, H1.out, H2.out, ((Below.refl _ w).alloc (Nat.le_refl _) _).alloc (by simp) _, by simp⟩

theorem fresh_fits {size : Nat} {blocks : Int} (h1 : 8 ≤ size ∧ size ≤ 256) (h2 : 0 ≤ blocks ∧ blocks ≤ 1000000) : Fits (fresh size blocks) 0 :=
  ⟨h1, h2, ⟨Int.le_refl 0, (by decide : (0 : Int) ≤ 1000000)⟩, ⟨Int.le_refl 0, (by decide : (0 : Int) ≤ 1000000)⟩, ⟨Int.le_refl 0, Int.le_refl 0⟩, by decide, fun e he => (by cases he), fun x l h => (by cases h)⟩
theorem new_any (size : Nat) (blocks : Int) (w : World) (h1 : 8 ≤ size ∧ size ≤ 256) (h2 : 0 ≤ blocks ∧ blocks ≤ 1000000) :
    Calls Try.prog 38 #[.int .i64 (size : Int), .int .i64 blocks] w fun e w' => ∃ p G, e = .returned (.tuple #[.pointer (some ⟨p, 0, none⟩), .int .i64 0]) ∧ Dev w' G p (fresh size blocks) 0 ∧ (∀ k, G k → w.heap.size ≤ k) ∧ Below w.heap.size w w' := by
  have hmm := @run_makeMap Try.prog
  have g1 : decide ((size : Int) < 8) = false := by simp; omega
  have g2 : decide ((size : Int) > 256) = false := by simp; omega
  have g3 : decide (blocks < 0) = false := by simp; omega
  have g4 : decide (blocks > 1000000) = false := by simp; omega
  have hh := holding_any size blocks w.heap.size (w.alloc (.map #[] 0))
  have HM := Lib.hid (MapF.made w)
  have HF := Lib.hid (fresh_fits h1 h2)
  clear h1 h2
  go_enter Try.func38, Try.ntmps38
  go_wp2_with fail
  refine hh.mono ?_
  rintro e w1 ⟨rfl, hm1, hr1, hb1, hz1⟩
  have hz : (w.alloc (.map #[] 0)).heap.size = w.heap.size + 1 := by simp
  rw [hz] at hm1 hr1 hb1 hz1
  have hm0 := HM.out.same (hb1.block w.heap.size (by omega))
  have HD : Hid (Dev w1 (fun k => w.heap.size ≤ k ∧ k < w1.heap.size) (w.heap.size + 1 + 1) (fresh size blocks) 0) :=
    ⟨HF.out, w.heap.size, w.heap.size + 1, .slice none 0 0, 0, hr1, ⟨nothing, hm0, fun x => trivial⟩, ⟨nothing, hm1, fun x => trivial⟩, Later.nil _ _, by omega, ⟨by omega, by omega⟩, ⟨by omega, by omega⟩, ⟨by omega, by omega⟩, fun k hk => hk.2, Nat.le_refl _⟩
  have HB := Lib.hid (((Below.refl w.heap.size w).alloc (Nat.le_refl _) (.map #[] 0)).trans (hb1.mono (by omega)))
  clear hm1 hr1 hb1 hm0 hz hh
  go_wp2
  go_ret2
  exact ⟨w.heap.size + 1 + 1, _, rfl, HD.out, fun k hk => hk.1, HB.out⟩

theorem replicate_words {w : World} {g : Nat} {n : Nat} (h : Row w g 69 (List.replicate n (.int .u64 0))) (hn : 0 < n) (hm : n ≤ maxLen) {G : Nat → Prop} (hg : G g) : Words w G (.slice (some ⟨g, 0, none⟩) n n) (List.replicate n 0) := by
  refine ⟨g, n, _, by rw [List.length_replicate], h, hg, by simp, hm, by simpa using hn, fun x hx => by rw [List.eq_of_mem_replicate hx]; decide, ?_⟩
  simp
set_option maxHeartbeats 800000 in
theorem read_any (p : Nat) (s : St) (n : Nat) (G : Nat → Prop) (i : Int) (w : World) (h : Dev w G p s n) (hn : n < 1000000) (hi : I64 i) :
    Calls Try.prog 73 #[.pointer (some ⟨p, 0, none⟩), .int .i64 i] w fun e w' => ∃ v, e = .returned (.tuple #[v, .int .i64 (read s i).1]) ∧ ((read s i).1 ≠ 0 → v = .slice none 0 0) ∧ ((read s i).1 = 0 → Words w' (fun k => w.heap.size ≤ k) v (s.now i)) ∧
      Dev w' G p (read s i).2 (n + 1) ∧ Far (fun k => k = p) w w' := by
  obtain ⟨_, bl0, bf0, v0, nl0, hr, _⟩ := id h
  have hh := has_any p s bl0 bf0 v0 w i hr
  have ha := act_any p s n G (right s i) w h hn
  have HR : Hid (read s i = begin s (right s i)) := rfl
  rw [HR.out]
  obtain ⟨e1, e2, e3, e4⟩ := begin_same s (right s i)
  have HE := Lib.hid e1
  have HE3 := Lib.hid e3
  have HE4 := Lib.hid e4
  clear e1 e2 e3 e4 hr h HR
  generalize begin s (right s i) = r at *
  obtain ⟨er, s'⟩ := r
  simp only at ha HE HE3 HE4 ⊢
  by_cases he : er = 0
  · subst he
    go_enter Try.func73, Try.ntmps73
    go_wp2_with fail
    refine hh.mono ?_
    rintro e w1 ⟨rfl, rfl⟩
    go_wp2_with fail
    refine ha.mono ?_
    rintro e w1' ⟨rfl, hd1, hf1⟩
    obtain ⟨hfit, bl, bf, v, nl, k1, k2, k3, k4, k5, k6, k7, k8, k9, k10⟩ := id hd1
    have c0 : w1'.cell? ⟨p, 0, none⟩ = some (.int .i64 (s'.size : Int)) := k1.cell 0
    have c2 : w1'.cell? ⟨p, 2, none⟩ = some (.map (some bl)) := k1.cell 2
    have c3 : w1'.cell? ⟨p, 3, none⟩ = some (.map (some bf)) := k1.cell 3
    obtain ⟨ff, hmf, hrf⟩ := k3
    obtain ⟨fl, hml, hrl⟩ := k2
    have HMF := Lib.hid hmf
    have HML := Lib.hid hml
    have hrf := hrf i
    have hrl := hrl i
    have HD1 := Lib.hid (hd1.up (Nat.le_succ n))
    have HF1 := Lib.hid hf1
    have hsz := hfit.size
    have hnow : s.now i = blk s'.size (over (lay nothing s'.later) s'.fl i) := by unfold St.now; rw [HE.out, HE3.out, HE4.out, lay_eq]
    have HNOW := Lib.hid hnow
    have hlen1 : ∀ l, lay nothing s'.later i = some l → l.length = s'.size := fun l hl => lay_all (fun l => l.length = s'.size) s'.later nothing (fun _ _ h => by cases h) (fun e he => (hfit.later e he).2) i l hl
    have hlen2 : ∀ l, s'.fl i = some l → l.length = s'.size := fun l hl => hfit.fl i l hl
    clear k1 k4 k5 k6 k7 k8 k9 k10 hmf hml hd1 hf1 hh ha hnow hfit HE HE3 HE4
    have hend : ∀ (v' : Value) (w2 : World) (l : List Nat), Below w1'.heap.size w1' w2 → Words w2 (fun k => w1'.heap.size ≤ k) v' l → s.now i = l →
        ((0 : Int) = 0 → Words w2 (fun k => w1.heap.size ≤ k) v' (s.now i)) ∧ Dev w2 G p s' (n + 1) ∧ Far (fun k => k = p) w1 w2 := by
      intro v' w2 l hb hw hl
      refine ⟨fun _ => ?_, HD1.out.below hb, HF1.out.trans (Far.of_below hb fun _ => False) fun _ hf => hf.elim⟩
      rw [hl]
      exact hw.keep (fun _ _ _ _ => rfl) fun k _ _ hk => Nat.le_trans HF1.out.size hk
    have HEND := Lib.hid hend
    clear hend
    rcases hff : ff i with _ | vf
    · -- not written since
      rcases hlf : lay nothing s'.later i with _ | l
      · rcases hfl : fl i with _ | vl
        · -- never written
          rcases hll : s'.fl i with _ | l
          · have HL : Hid (s.now i = List.replicate s'.size 0) := by unfold Hid; rw [HNOW.out]; simp [over, hlf, hll, blk]
            have HFF := Lib.hid hff
            have HFL := Lib.hid hfl
            obtain ⟨i0, hi0, hz0, hz1, hz2⟩ := info_parts infoU
            clear hff hfl hrf hrl hlf hll hlen1 hlen2
            go_wp2_with (with_reducible refine stopAt 25 ?_)
            unfold Hid
            refine wpList_lookupF _ rfl _ _ rfl bf _ ff rfl HMF.out i hi rfl (.slice none 0 0) false (.inl ⟨rfl, rfl, HFF.out⟩) ?_
            go_wp2_with (with_reducible refine stopAt 37 ?_)
            unfold Hid
            refine wpList_lookupF _ rfl _ _ rfl bl _ fl rfl HML.out i hi rfl (.slice none 0 0) false (.inl ⟨rfl, rfl, HFL.out⟩) ?_
            go_wp2_with (with_reducible refine stopAt 47 ?_)
            unfold Hid
            refine wpList_make_row _ rfl _ _ 71 rfl 69 i0 (.int .u64 0) Try.underlying71 hi0 hz0 hz1 rfl .i64 .i64 _ _ s'.size rfl rfl rfl rfl (by rw [hz2]; omega) (by omega) ?_
            intro w2 hr2 hb2 hs2
            obtain ⟨x1, x2, x3⟩ := HEND.out _ w2 _ hb2 (replicate_words hr2 (by omega) (by unfold maxLen; omega) (Nat.le_refl _)) HL.out
            have X1 := Lib.hid x1
            have X2 := Lib.hid x2
            have X3 := Lib.hid x3
            clear x1 x2 x3 hr2 hb2 hs2
            go_wp2
            go_ret2
            exact ⟨_, rfl, fun h => absurd rfl h, X1.out, X2.out, X3.out⟩
          · rw [hfl, hll] at hrl; exact hrl.elim
        · -- what lasts
          rcases hll : s'.fl i with _ | l
          · rw [hfl, hll] at hrl; exact hrl.elim
          · rw [hfl, hll] at hrl
            have HL : Hid (s.now i = l) := by unfold Hid; rw [HNOW.out]; simp [over, hlf, hll, blk]
            have hll' := hlen2 l hll
            obtain ⟨A, c, rfl, hA, hreads⟩ := Words.reads hrl
            have HFF := Lib.hid hff
            have HFL := Lib.hid hfl
            have hsc := sclone_any A l.length c l w1' hreads (by omega) (by omega) (Nat.le_refl _)
            clear hff hfl hrf hrl hlf hll hlen1 hlen2 hreads hll'
            go_wp2_with (with_reducible refine stopAt 25 ?_)
            unfold Hid
            refine wpList_lookupF _ rfl _ _ rfl bf _ ff rfl HMF.out i hi rfl (.slice none 0 0) false (.inl ⟨rfl, rfl, HFF.out⟩) ?_
            go_wp2_with (with_reducible refine stopAt 37 ?_)
            unfold Hid
            refine wpList_lookupF _ rfl _ _ rfl bl _ fl rfl HML.out i hi rfl _ true (.inr ⟨HFL.out, rfl⟩) ?_
            go_wp2_with fail
            refine hsc.mono ?_
            rintro e w2 ⟨v', rfl, hw2, hb2⟩
            obtain ⟨x1, x2, x3⟩ := HEND.out _ w2 _ hb2 hw2 HL.out
            have X1 := Lib.hid x1
            have X2 := Lib.hid x2
            have X3 := Lib.hid x3
            clear x1 x2 x3 hw2 hb2
            go_wp2
            go_ret2
            exact ⟨_, rfl, fun h => absurd rfl h, X1.out, X2.out, X3.out⟩
      · rw [hff, hlf] at hrf; exact hrf.elim
    · -- what was written since
      rcases hlf : lay nothing s'.later i with _ | l
      · rw [hff, hlf] at hrf; exact hrf.elim
      · rw [hff, hlf] at hrf
        have HL : Hid (s.now i = l) := by unfold Hid; rw [HNOW.out]; simp [over, hlf, blk]
        have hll' := hlen1 l hlf
        obtain ⟨A, c, rfl, hA, hreads⟩ := Words.reads hrf
        have HFF := Lib.hid hff
        have hsc := sclone_any A l.length c l w1' hreads (by omega) (by omega) (Nat.le_refl _)
        clear hff hrf hrl hlf hlen1 hlen2 hreads hll'
        go_wp2_with (with_reducible refine stopAt 25 ?_)
        unfold Hid
        refine wpList_lookupF _ rfl _ _ rfl bf _ ff rfl HMF.out i hi rfl _ true (.inr ⟨HFF.out, rfl⟩) ?_
        go_wp2_with fail
        refine hsc.mono ?_
        rintro e w2 ⟨v', rfl, hw2, hb2⟩
        obtain ⟨x1, x2, x3⟩ := HEND.out _ w2 _ hb2 hw2 HL.out
        have X1 := Lib.hid x1
        have X2 := Lib.hid x2
        have X3 := Lib.hid x3
        clear x1 x2 x3 hw2 hb2
        go_wp2
        go_ret2
        exact ⟨_, rfl, fun h => absurd rfl h, X1.out, X2.out, X3.out⟩
  · have g : (er != 0) = true := by simpa using he
    have HE := Lib.hid he
    clear he
    go_enter Try.func73, Try.ntmps73
    go_wp2_with fail
    refine hh.mono ?_
    rintro e w1 ⟨rfl, rfl⟩
    go_wp2_with fail
    refine ha.mono ?_
    rintro e w1' ⟨rfl, hd1, hf1⟩
    have HD1 := Lib.hid (hd1.up (Nat.le_succ n))
    have HF1 := Lib.hid hf1
    clear hd1 hf1 hh ha
    go_wp2
    go_ret2
    exact ⟨_, rfl, fun _ => rfl, fun h => absurd h HE.out, HD1.out, HF1.out⟩
theorem read_nil (i : Int) (w : World) : Calls Try.prog 73 #[.pointer none, .int .i64 i] w fun e w' => e = .returned (.tuple #[.slice none 0 0, .int .i64 8]) ∧ w' = w := by
  go_enter Try.func73, Try.ntmps73
  go_wp2_with fail
  refine (has_nil w i).mono ?_
  rintro e w1 ⟨rfl, rfl⟩
  go_wp2_with fail
  refine (begin_nil false _).mono ?_
  rintro e w1 ⟨rfl, rfl⟩
  go_wp2
  go_ret2
  exact ⟨rfl, rfl⟩
end Go.Proofs.Ytbkgpilmgllkiaa
