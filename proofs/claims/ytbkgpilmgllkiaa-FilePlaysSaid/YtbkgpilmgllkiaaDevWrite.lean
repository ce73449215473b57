/- What the device's Write answers. -/
import Derived.Test.YtbkgpilmgllkiaaDevRead
namespace Go.Proofs.Ytbkgpilmgllkiaa
open Go.ChangeShapes Go.WideShapes Go.ChangeAt Go.RowKit Go.Maps

theorem infoWr : (Try.prog.info? 118).map (fun i => (i.zero, i.size, i.bytes)) = some (some (.agg #[.int .i64 0, .slice none 0 0]), 2, 32) := by kernel_rfl

/-- the device behind a write -/
theorem write_end {G : Nat → Prop} {p n bl bf nl : Nat} {s : St} {v v' u : Value} {i : Int} {l : List Nat} {w1 w2 w3 w5 : World} {o : Obj} {ff : Int → Option Value} {rs : List (Int × Value)}
    (hfit : Fits s n) (hi : I64 i) (hl : l.length = s.size)
    (k1 : Row w1 p 113 (cellsOf s bl bf v)) (k2 : Store w1 G bl nl s.fl) (k4 : Later w1 G v s.later) (k3' : MapF w1 bf s.later.length ff) (k5 : bl ≠ bf) (k6 : G p) (k7 : G bl) (k8 : G bf) (k9 : ∀ k, G k → k < w1.heap.size) (k10 : nl + s.later.length + 1 ≤ n)
    (hrel : ∀ x, Rel w1 G (ff x) (lay nothing s.later x)) (hb2 : Below w1.heap.size w1 w2) (hu : Words w2 (fun k => w1.heap.size ≤ k) u l)
    (hm3 : MapF w3 bf (s.later.length + 1) (upd ff i u)) (hg3 : w2.grownBy w3 (some bf))
    (hrs1 : rs.length = s.later.length) (hrs2 : ∀ (j : Nat) (r : Int × Value) (e : Int × List Nat), rs[j]? = some r → s.later[j]? = some e → r.1 = e.1 ∧ Words w1 G r.2 e.2) (hown : ∀ k, v.ownBlock = some k → G k)
    (hown5 : w5.ownsRow 0 118 2 v' (s.later.length + 1) (flatW (rs ++ [(i, u)]))) (hg5 : (w3.alloc o).grownBy w5 v.ownBlock) (hat : v'.ownBlock = v.ownBlock ∨ v'.ownBlock = some (w3.alloc o).heap.size) :
    ∃ G', Dev (w5.setCell ⟨p, 4, none⟩ v') G' p { s with later := s.later ++ [(i, l)] } n ∧ Far G w1 (w5.setCell ⟨p, 4, none⟩ v') ∧ ∀ k, G' k → G k ∨ w1.heap.size ≤ k := by
  have hpv : v.ownBlock ≠ some p := k4.not_row k1 (by decide)
  have hbv : v.ownBlock ≠ some bl := k4.not_map k2
  have hst : Store w1 G bf s.later.length (lay nothing s.later) := ⟨ff, k3', hrel⟩
  have hfv : v.ownBlock ≠ some bf := k4.not_map hst
  have hpb : p ≠ bl := k2.not_row k1
  have hpf : p ≠ bf := hst.not_row k1
  have hrows : ∀ k cs, Row w1 k 69 cs → k ≠ p ∧ k ≠ bf ∧ v.ownBlock ≠ some k := fun k cs hk => by
    refine ⟨fun e => ?_, hst.not_row hk, k4.not_row hk (by decide)⟩
    subst e; unfold Row at k1 hk; rw [k1] at hk; injection hk with hk; injection hk with _ hk; exact absurd hk (by decide)
  -- what has turned: p, bf and v's own block alone
  have F2 : Far (fun k => k = p ∨ k = bf ∨ v.ownBlock = some k) w1 w2 := Far.of_below hb2 _
  have F3 : Far (fun k => k = p ∨ k = bf ∨ v.ownBlock = some k) w1 w3 := F2.grown hg3 fun k hk => by injection hk with hk; exact .inl (.inr (.inl hk.symm))
  have F5 : Far (fun k => k = p ∨ k = bf ∨ v.ownBlock = some k) w1 w5 := (F3.alloc o).grown hg5 fun k hk => .inl (.inr (.inr hk))
  have F6 : Far (fun k => k = p ∨ k = bf ∨ v.ownBlock = some k) w1 (w5.setCell ⟨p, 4, none⟩ v') := F5.set (.inl (.inl rfl)) _
  have E3 : Far (fun k => v.ownBlock = some k) w3 w5 := ((Far.refl _ w3).alloc o).grown hg5 fun k hk => .inl hk
  have E2 : Far (fun k => k = bf ∨ v.ownBlock = some k) w2 w5 := (((Far.refl _ w2).grown hg3 fun k hk => by injection hk with hk; exact .inl (.inl hk.symm)).alloc o).grown hg5 fun k hk => .inl (.inr hk)
  have hz12 := hb2.size
  have hz13 := F3.size
  have hz15 := F5.size
  have h5p : Row w5 p 113 (cellsOf s bl bf v) := F2.row k1 |> fun _ => by
    have h1 : Row w3 p 113 (cellsOf s bl bf v) := (hg3.block p (Nat.lt_of_lt_of_le k1.lt hz12) (by intro e; injection e with e; exact hpf e)).trans (k1.below hb2 k1.lt)
    exact E3.row h1 (fun e => hpv e)
  have h6p : Row (w5.setCell ⟨p, 4, none⟩ v') p 113 (cellsOf { s with later := s.later ++ [(i, l)] } bl bf v') := by
    have := h5p.set 4 v'
    exact this
  have z6 : (w5.setCell ⟨p, 4, none⟩ v').heap.size = w5.heap.size := by simp
  have hkeep : ∀ k cs, Row w1 k 69 cs → G k → (w5.setCell ⟨p, 4, none⟩ v').heap[k]? = w1.heap[k]? := fun k cs hk _ => F6.block k hk.lt fun hf => by
    obtain ⟨a1, a2, a3⟩ := hrows k cs hk
    rcases hf with hf | hf | hf
    · exact a1 hf
    · exact a2 hf
    · exact a3 hf
  -- the new row
  have hu6 : Words (w5.setCell ⟨p, 4, none⟩ v') (fun k => G k ∨ (w1.heap.size ≤ k ∧ k < w5.heap.size)) u l := by
    refine hu.keep (fun k cs hk hg => ?_) (fun k cs hk hg => .inr ⟨hg, Nat.lt_of_lt_of_le hk.lt (by have := E2.size; omega)⟩)
    have hkp : k ≠ p := by have := k9 p k6; omega
    have h1 : w5.heap[k]? = w2.heap[k]? := E2.block k hk.lt fun hf => by
      rcases hf with hf | hf
      · have := k9 bf k8; omega
      · have := k9 k (hown k hf); omega
    rw [heap_setCell_other w5 ⟨p, 4, none⟩ k v' (by simpa using hkp)]; exact h1
  have hfar : Far G w1 (w5.setCell ⟨p, 4, none⟩ v') := F6.mono fun b hb => by
    rcases hb with hb | hb | hb
    · subst hb; exact k6
    · subst hb; exact k8
    · exact hown b hb
  refine ⟨fun k => G k ∨ (w1.heap.size ≤ k ∧ k < w5.heap.size), ⟨?_, bl, bf, v', nl, h6p, ?_, ?_, ?_, k5, .inl k6, .inl k7, .inl k8, fun k hk => ?_, by simp only [List.length_append, List.length_singleton]; omega⟩, hfar, fun k hk => hk.imp_right (·.1)⟩
  · refine ⟨hfit.size, hfit.blocks, hfit.fn, hfit.tn, hfit.acts, hfit.small, fun e he => ?_, hfit.fl⟩
    rcases List.mem_append.1 he with he | he
    · exact hfit.later e he
    · rw [List.mem_singleton.1 he]; exact ⟨hi, hl⟩
  · refine k2.keep (F6.block bl (k9 bl k7) fun hf => ?_) hkeep (fun k _ _ hk => .inl hk)
    rcases hf with hf | hf | hf
    · exact hpb hf.symm
    · exact k5 hf
    · exact hbv hf
  · refine ⟨upd ff i u, ?_, fun x => ?_⟩
    · rw [List.length_append, List.length_singleton]
      refine hm3.same ?_
      rw [heap_setCell_other w5 ⟨p, 4, none⟩ bf v' (by simpa using hpf.symm)]
      exact E3.block bf hm3.lt fun e => hfv e
    · show Rel _ _ _ (lay nothing (s.later ++ [(i, l)]) x)
      rw [lay_snoc]
      by_cases e : x = i
      · subst e; rw [upd_same, upd_same]; exact hu6
      · rw [upd_other _ _ e, upd_other _ _ e]
        exact (hrel x).keep hkeep (fun k _ _ hk => .inl hk)
  · have hv'p : v'.ownBlock ≠ some p := by
      rcases hat with h | h
      · rw [h]; exact hpv
      · rw [h]; intro e; injection e with e
        have := k9 p k6
        simp only [World.alloc, Array.size_push] at e; omega
    refine ⟨rs ++ [(i, u)], ?_, by simp [hrs1], fun j r e hr he => ?_, fun k hk => ?_⟩
    · rw [List.length_append, List.length_singleton]
      exact ownsRow_same hown5 fun k hk => heap_setCell_other w5 ⟨p, 4, none⟩ k v' (by intro e; simp only at e; subst e; exact hv'p hk)
    · by_cases hj : j < rs.length
      · rw [List.getElem?_append_left hj] at hr
        rw [List.getElem?_append_left (by omega)] at he
        obtain ⟨a1, a2⟩ := hrs2 j r e hr he
        exact ⟨a1, a2.keep hkeep (fun k _ _ hk => .inl hk)⟩
      · rw [List.getElem?_append_right (by omega)] at hr
        rw [List.getElem?_append_right (by omega)] at he
        have hj0 : j = rs.length := by
          rcases Nat.lt_or_ge (j - rs.length) 1 with h1 | h1
          · omega
          · rw [List.getElem?_eq_none (by simpa using h1)] at hr; cases hr
        subst hj0
        rw [Nat.sub_self] at hr
        rw [hrs1, Nat.sub_self] at he
        simp at hr he
        subst hr; subst he
        exact ⟨rfl, hu6⟩
    · rcases hat with h | h
      · exact .inl (hown k (by rw [← h]; exact hk))
      · refine .inr ⟨?_, ?_⟩
        · rw [h] at hk; injection hk with hk; subst hk
          simp only [World.alloc, Array.size_push]; omega
        · exact (hown5.lt k hk).2
  · rcases hk with hk | hk
    · have := k9 k hk; rw [z6]; omega
    · rw [z6]; exact hk.2

/-- the walk stops ahead of a store into a map -/
theorem Row.no_words {w : World} {p : Nat} {s : St} {bl bf : Nat} {A : Option Addr} {n c : Nat} (hr : Row w p 113 (cellsOf s bl bf (.slice A n c))) (i : Nat) (x : Int) : w.cell? ⟨p, i, none⟩ ≠ some (.int .u64 x) := by
  intro h
  rw [hr.cell i] at h
  have := List.mem_of_getElem? h
  simp [cellsOf] at this
theorem Reads.far {k : IntKind} {w w1 : World} {B : Nat} {A : Option Addr} {n : Nat} {l : List Nat} {F : Nat → Prop} (h : Reads k w B A n l) (hB : B ≤ w.heap.size) (hf : Far F w w1) (hF : 0 < n → ∀ b off, A = some ⟨b, off, none⟩ → ¬ F b) : Reads k w1 B A n l := by
  obtain ⟨h1, h2, h3⟩ := h
  refine ⟨h1, h2, fun hn => ?_⟩
  obtain ⟨b, off, hA, hb, hc⟩ := h3 hn
  refine ⟨b, off, hA, hb, fun i hi => ?_⟩
  rw [World.cell?_of_block (w := w) (w' := w1) (hf.block b (by omega) (hF hn b off hA))]
  exact hc i hi
theorem begin_false (s : St) : (begin s false).1 ≠ 0 := by
  unfold begin
  by_cases h : s.down = true
  · rw [if_pos h]; exact fun h => absurd h (by decide : ¬ ((8 : Int) = 0))
  · rw [if_neg h, if_pos rfl]; exact fun h => absurd h (by decide : ¬ ((1 : Int) = 0))

set_option maxHeartbeats 1600000 in
theorem write_any (p : Nat) (s : St) (n : Nat) (G : Nat → Prop) (i : Int) (A : Option Addr) (m c : Nat) (l : List Nat) (w : World) {B : Nat} (h : Dev w G p s n) (hn : n < 1000000) (hi : I64 i) (hl : Reads .u64 w B A m l) (hB : B ≤ w.heap.size) :
    Calls Try.prog 28 #[.pointer (some ⟨p, 0, none⟩), .int .i64 i, .slice A m c] w fun e w' => e = .returned (.int .i64 (write s i l).1) ∧ ∃ G', Dev w' G' p (write s i l).2 (n + 1) ∧ Far G w w' ∧ ∀ k, G' k → G k ∨ w.heap.size ≤ k := by
  obtain ⟨_, bl0, bf0, v0, nl0, hr, _, _, hla, _⟩ := id h
  obtain ⟨A0, q0, rfl⟩ := hla.form
  have hh := has_any p s bl0 bf0 _ w i hr
  have c0 : w.cell? ⟨p, 0, none⟩ = some (.int .i64 (s.size : Int)) := hr.cell 0
  have hlen := hl.1
  have ha := act_any p s n G (right s i && decide (l.length = s.size)) w h hn
  have HMINE := Lib.hid h.mine
  have HSZ := Lib.hid h.fits.size
  have HR : Hid (write s i l = if (begin s (right s i && decide (l.length = s.size))).1 = 0 then (0, { (begin s (right s i && decide (l.length = s.size))).2 with later := s.later ++ [(i, l)] }) else begin s (right s i && decide (l.length = s.size))) := rfl
  rw [HR.out]
  obtain ⟨e1, e2, e3, e4⟩ := begin_same s (right s i && decide (l.length = s.size))
  have HE := Lib.hid e1
  have HE3 := Lib.hid e3
  have HE4 := Lib.hid e4
  have H0 : Hid ((begin s (right s i && decide (l.length = s.size))).1 = 0 → right s i = true ∧ l.length = s.size) := by
    intro h0
    rcases hb : (right s i && decide (l.length = s.size)) with _ | _
    · rw [hb] at h0; exact absurd h0 (begin_false s)
    · simpa using hb
  have HRD : Hid (∀ w1, Far (fun k => k = p) w w1 → Reads .u64 w1 B A m l) := fun w1 hf => hl.far hB hf fun hm b off hA hb => by
    obtain ⟨_, _, h3⟩ := hl
    obtain ⟨b', off', hA', _, hc⟩ := h3 hm
    rw [hA] at hA'; injection hA' with hA'; injection hA' with hA1 hA2; subst hA1; subst hA2
    subst hb
    exact hr.no_words _ _ (hc 0 hm)
  clear e1 e2 e3 e4 hr h HR hla
  generalize hbb : (right s i && decide (l.length = s.size)) = b at *
  generalize begin s b = r at *
  obtain ⟨er, s'⟩ := r
  simp only at ha HE HE3 HE4 H0 ⊢
  have HLEN := Lib.hid hlen
  have HBB := Lib.hid hbb
  clear hl hlen hbb
  by_cases hri : right s i = true
  · rw [hri] at hh
    have gb : ((m : Int) == (s.size : Int)) = b := by
      rw [← HBB.out, hri, HLEN.out]
      by_cases e : m = s.size
      · subst e; simp
      · have : ¬ ((m : Int) = (s.size : Int)) := by omega
        simp [e, this]
    clear hri HBB
    by_cases he : er = 0
    · subst he
      rw [if_pos rfl]
      go_enter Try.func28, Try.ntmps28
      go_wp2_with fail
      refine hh.mono ?_
      rintro e w1 ⟨rfl, rfl⟩
      go_wp2_with fail
      refine ha.mono ?_
      rintro e w1' ⟨rfl, hd1, hf1⟩
      obtain ⟨hfit, bl, bf, v, nl, k1, k2, k3, k4, k5, k6, k7, k8, k9, k10⟩ := id hd1
      have hsz := HSZ.out
      have hlen2 := (H0.out (by trivial)).2
      have hm := HLEN.out
      have hsc := sclone_any A m c l w1' (HRD.out _ hf1) (by omega) (by omega) (Nat.le_trans hB hf1.size)
      obtain ⟨ff, k3', hrel⟩ := k3
      obtain ⟨A1, q1, rfl⟩ := k4.form
      obtain ⟨rs, o1, o2, o3, o4⟩ := id k4
      have c3 : w1'.cell? ⟨p, 3, none⟩ = some (.map (some bf)) := k1.cell 3
      have HEND := Lib.hid (fun (w2 w3 w5 : World) (o : Obj) (v' u : Value) (hb2 : Below w1'.heap.size w1' w2) (hu : Words w2 (fun k => w1'.heap.size ≤ k) u l) (hm3 : MapF w3 bf (s'.later.length + 1) (upd ff i u)) (hg3 : w2.grownBy w3 (some bf)) (hown5 : w5.ownsRow 0 118 2 v' (s'.later.length + 1) (flatW (rs ++ [(i, u)]))) (hg5 : (w3.alloc o).grownBy w5 (Value.slice A1 s'.later.length q1).ownBlock) hat => write_end hfit hi (by rw [HE.out]; exact hlen2) k1 k2 k4 k3' k5 k6 k7 k8 k9 (by omega) hrel hb2 hu hm3 hg3 o2 o3 o4 hown5 hg5 hat)
      have HK1 := Lib.hid k1
      have HOW := Lib.hid o1
      have HBV : Hid ((Value.slice A1 s'.later.length q1).ownBlock ≠ some bf ∧ bf ≠ p ∧ bf < w1'.heap.size) := ⟨k4.not_map (⟨ff, k3', hrel⟩ : Store w1' G bf _ _), fun e => k3'.not_row k1 e.symm, k9 bf k8⟩
      have HMF := Lib.hid k3'
      have HF1 := Lib.hid hf1
      have hk10 : s'.later.length ≤ 1000000 := by omega
      have HVP : Hid ((Value.slice A1 s'.later.length q1).ownBlock ≠ some p) := k4.not_row k1 (by decide)
      have HOWL := Lib.hid o1.lt
      clear k1 k2 k3' k4 k5 k6 k7 k8 k9 k10 hrel o1 o2 o3 o4 hd1 hf1 hfit
      go_wp2_with fail
      refine hsc.mono ?_
      rintro e w2 ⟨u, rfl, hw2, hb2⟩
      have HK2 := Lib.hid (HK1.out.below hb2 HK1.out.lt)
      have c3 : w2.cell? ⟨p, 3, none⟩ = some (.map (some bf)) := HK2.out.cell 3
      have hm2 := HMF.out.same (hb2.block bf HBV.out.2.2)
      have HO2 := Lib.hid (ownsRow_same HOW.out fun k hk => hb2.block k (HOWL.out k hk).2)
      have HB2 := Lib.hid hb2
      have HW2 := Lib.hid hw2
      obtain ⟨D, hD, hFn⟩ := hm2
      have HD := Lib.hid hD
      have HFN := Lib.hid hFn
      obtain ⟨Au, mu, cu, hu⟩ : ∃ Au mu cu, u = .slice Au mu cu := by obtain ⟨g, cc, cs, hv, _⟩ := hw2; exact ⟨_, _, _, hv⟩
      subst hu
      clear hsc hb2 hw2 hD hFn
      go_wp2_with (with_reducible refine stopMap ?_)
      unfold Hid
      refine wpList_mapUpdate_own _ rfl _ _ _ 110 rfl 3 71 law Try.underlying110 keepV bf _ D rfl HD.out (by unfold maxLen; omega) _ _ _ rfl rfl (keyI hi) (.held _) [] rfl ?_
      intro w3 hD3 hg3
      have HM3 : Hid (MapF w3 bf (s'.later.length + 1) (upd ff i (.slice Au mu cu))) := ⟨_, hD3, HFN.out.put hi _⟩
      have HG3 := Lib.hid hg3
      have hr3 : Row w3 p 113 (cellsOf s' bl bf (.slice A1 s'.later.length q1)) := (hg3.block p HK2.out.lt (by intro e; injection e with e; exact HBV.out.2.1 e.symm)).trans HK2.out
      have c4 : w3.cell? ⟨p, 4, none⟩ = some (.slice A1 s'.later.length q1) := hr3.cell 4
      have f4 := hr3.free 4
      have HR3 := Lib.hid hr3
      have HO3 := Lib.hid (ownsRow_same HO2.out fun k hk => hg3.block k (Nat.lt_of_lt_of_le (HOWL.out k hk).2 HB2.out.size) (by intro e; injection e with e; subst e; exact HBV.out.1 hk))
      clear hD3 hg3 hr3 c3
      obtain ⟨i0, hi0, hz0, hz1, hz2⟩ := info_parts infoWr
      go_wp2_with (with_reducible refine stopAt 43 ?_)
      unfold Hid
      refine wpList_append_own_at _ rfl _ _ 111 rfl 0 118 i0 (.agg #[.int .i64 0, .slice none 0 0]) 2 32 Try.underlying111 hi0 hz0 hz1 hz2 rfl (by omega) (.slice A1 s'.later.length q1) s'.later.length (flatW rs) rfl (HO3.out.alloc _) ⟨w3.heap.size, 0, none⟩ 1 1 [.int .i64 i, .slice Au mu cu] rfl rfl ?_ (by simp [Value.oneCell']) (by unfold maxLen; omega) (by omega) (by omega) ?_
      · intro j v hj
        match j, hj with
        | 0, hj => simp at hj; subst hj; simp [Addr.add]
        | 1, hj => simp at hj; subst hj; simp [Addr.add]
      intro v' w5 hown5 hg5 _ hat
      have hown5' : w5.ownsRow 0 118 2 v' (s'.later.length + 1) (flatW (rs ++ [(i, .slice Au mu cu)])) := by rw [flatW_append]; exact hown5
      obtain ⟨G', hd6, hf6, hg6⟩ := HEND.out w2 w3 w5 _ v' _ HB2.out HW2.out HM3.out HG3.out hown5' hg5 hat
      have hr5 : Row w5 p 113 (cellsOf s' bl bf (.slice A1 s'.later.length q1)) := (hg5.block p (by have := HR3.out.lt; simp only [World.alloc, Array.size_push]; omega) (fun e => HVP.out e.symm)).trans (HR3.out.alloc _)
      have c4 : w5.cell? ⟨p, 4, none⟩ = some (.slice A1 s'.later.length q1) := hr5.cell 4
      have f4 := hr5.free 4
      obtain ⟨A5, c5, rfl⟩ : ∃ A5 c5, v' = .slice A5 (s'.later.length + 1) c5 := by
        rcases hown5.2 with ⟨rfl, h0⟩ | ⟨g, cap, cur, rfl, _⟩
        · omega
        · exact ⟨_, _, rfl⟩
      have HD6 := Lib.hid hd6
      have HF6 := Lib.hid hf6
      have HG6 := Lib.hid hg6
      clear hd6 hf6 hg6 hr5 hown5 hown5' hg5 hat
      go_wp2
      go_ret
      refine ⟨rfl, G', ?_, ?_, fun k hk => ?_⟩
      · rw [← HE4.out]; exact HD6.out
      · exact (HF1.out.mono fun b hb => by subst hb; exact HMINE.out).trans HF6.out fun b hb => .inl hb
      · rcases HG6.out k hk with h | h
        · exact .inl h
        · exact .inr (Nat.le_trans HF1.out.size h)
    · have g : (er != 0) = true := by simpa using he
      rw [if_neg he]
      clear he
      go_enter Try.func28, Try.ntmps28
      go_wp2_with fail
      refine hh.mono ?_
      rintro e w1 ⟨rfl, rfl⟩
      go_wp2_with fail
      refine ha.mono ?_
      rintro e w1' ⟨rfl, hd1, hf1⟩
      have HD1 := Lib.hid (hd1.up (Nat.le_succ n))
      have HF1 := Lib.hid hf1
      clear hd1 hf1 hh ha
      go_wp2
      go_ret
      exact ⟨rfl, G, HD1.out, HF1.out.mono fun b hb => by subst hb; exact HMINE.out, fun k hk => .inl hk⟩
  · have hri' : right s i = false := by simpa using hri
    have hb0 : b = false := by rw [← HBB.out, hri']; rfl
    have he : er ≠ 0 := fun e => by have := (H0.out e).1; rw [hri'] at this; cases this
    have g : (er != 0) = true := by simpa using he
    rw [if_neg he]
    subst hb0
    rw [hri'] at hh
    clear he hri hri' HBB
    go_enter Try.func28, Try.ntmps28
    go_wp2_with fail
    refine hh.mono ?_
    rintro e w1 ⟨rfl, rfl⟩
    go_wp2_with fail
    refine ha.mono ?_
    rintro e w1' ⟨rfl, hd1, hf1⟩
    have HD1 := Lib.hid (hd1.up (Nat.le_succ n))
    have HF1 := Lib.hid hf1
    clear hd1 hf1 hh ha
    go_wp2
    go_ret
    exact ⟨rfl, G, HD1.out, HF1.out.mono fun b hb => by subst hb; exact HMINE.out, fun k hk => .inl hk⟩
theorem write_nil (i : Int) (v : Value) (w : World) : Calls Try.prog 28 #[.pointer none, .int .i64 i, v] w fun e w' => e = .returned (.int .i64 8) ∧ w' = w := by
  go_enter Try.func28, Try.ntmps28
  go_wp2_with fail
  refine (has_nil w i).mono ?_
  rintro e w1 ⟨rfl, rfl⟩
  go_wp2_with fail
  refine (begin_nil false _).mono ?_
  rintro e w1 ⟨rfl, rfl⟩
  go_wp2
  go_ret
  exact ⟨rfl, rfl⟩
end Go.Proofs.Ytbkgpilmgllkiaa
