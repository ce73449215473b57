/- The law's own state.read: the next tuple. -/
import Derived.Test.YtbkgpilmgllkiaaFilePlayT
namespace Go.Proofs.Ytbkgpilmgllkiaa
open Go.ChangeShapes Go.WideShapes Go.ChangeAt Go.RowKit

section
variable {w0 W W' : World} {G G' : Nat → Prop} {p : Wp} {sb n sz : Nat} {bl : Int} {V : Nat → Value} {N : Nat → Nat} {X : Nat → List Value} {P : List (Value × List Tup)} {ws : List Pw} {fs : List Pf} {rs : List Pr}
theorem below_drewN' {B : Nat} {a w : World} (h : Below B a w) (q : Nat) : Below B a (w.drewN q) := ⟨h.os, h.tape, h.output, h.size, h.block⟩
theorem PB.drewN {F : Fs} {B : List (Nat × TypeId × List Value)} (h : PB w0 p F sb n sz bl ws fs rs G V N X P B W) (q : Nat) : PB w0 p F sb n sz bl ws fs rs G V N X P B (W.drewN q) := h.below (below_drewN' (Below.refl _ _) q)
set_option maxHeartbeats 4000000 in
set_option maxRecDepth 100000 in
/-- 6: the next tuple -/
theorem stread_6 (h : Play w0 p sb n sz bl ws fs rs W) (k wd bd a b c d e0 : Int) (hk : I64 k) (hn : fs.length ≤ 1000) (hn2 : rs.length ≤ 1000) (hnn : n < 1000000) :
    Calls Try.prog 24 #[.pointer (some ⟨sb, 0, none⟩), .agg #[.int .i64 6, .int .i64 k, .int .i64 wd, .int .i64 bd, .int .i64 a, .int .i64 b, .int .i64 c, .int .i64 d, .int .i64 e0]] W fun e w' => e = .returned (.bool true) ∧ After w0 p sb n sz bl ws fs rs w' := by
  obtain ⟨h1, hr, hob⟩ := h.box [.int .i64 6, .int .i64 k, .int .i64 wd, .int .i64 bd, .int .i64 a, .int .i64 b, .int .i64 c, .int .i64 d, .int .i64 e0] 60
  go_enter Try.func24, Try.ntmps24
  go_upto_region 1 with (fail)
  generalize W.alloc (.cells #[.int .i64 6, .int .i64 k, .int .i64 wd, .int .i64 bd, .int .i64 a, .int .i64 b, .int .i64 c, .int .i64 d, .int .i64 e0] 60) = W1 at *
  generalize W.heap.size = ob at *
  clear h
  have f0 : W1.cell? ⟨ob, 0, none⟩ = some (.int .i64 6) := hr.cell 0
  have f1 : W1.cell? ⟨ob, 1, none⟩ = some (.int .i64 k) := hr.cell 1
  obtain ⟨⟨F, G, V, m1, s1⟩, hkp⟩ := h1
  have hp : PB w0 p F sb n sz bl ws fs rs G V (stN ws fs rs) (stX ws fs rs) (stP ws) [] W1 := ⟨m1, s1, fun _ h => by cases h⟩
  have HPL : Hid (∀ q, After w0 p sb n sz bl ws fs rs (W1.drewN q)) := fun q => ((hp.drewN q).play hkp (fun _ _ => rfl) (fun _ _ => rfl) rfl).after
  obtain ⟨A7, c7, hV7, x7, -, -, hA7⟩ := hp.get (i := 7) (by omega)
  obtain ⟨A8, c8, hV8, x8, -, -, hA8⟩ := hp.get (i := 8) (by omega)
  obtain ⟨A9, c9, hV9, x9, -, -, hA9⟩ := hp.get (i := 9) (by omega)
  have d7 : ∀ q, (W1.drewN q).cell? ⟨sb, 8, none⟩ = some (.slice A7 fs.length c7) := fun _ => x7
  have d8 : ∀ q, (W1.drewN q).cell? ⟨sb, 9, none⟩ = some (.slice A8 rs.length c8) := fun _ => x8
  have d9 : ∀ q, (W1.drewN q).cell? ⟨sb, 10, none⟩ = some (.slice A9 rs.length c9) := fun _ => x9
  have HP := Lib.hid hp
  have HK := Lib.hid hkp
  have HA7 := Lib.hid hA7
  have HA8 := Lib.hid hA8
  have HA9 := Lib.hid hA9
  have HV9 := Lib.hid hV9
  clear x7 x8 x9 m1 s1 hp hkp hA7 hA8 hA9 hr hob hV7 hV8 hV9
  by_cases hin : 0 ≤ k ∧ k < (rs.length : Int)
  · obtain ⟨hk0, hk1⟩ := hin
    obtain ⟨i, rfl⟩ : ∃ i : Nat, k = (i : Int) := ⟨k.toNat, by omega⟩
    have hil : i < rs.length := by omega
    obtain ⟨s, hs⟩ : ∃ s, rs[i]? = some s := ⟨rs[i], List.getElem?_eq_getElem hil⟩
    obtain ⟨f, hf⟩ := (HP.out.m.rd i s hs).file
    have hj : s.j < fs.length := (List.getElem?_eq_some_iff.1 hf).1
    have hj0 : (0 : Int) ≤ (s.j : Int) := by omega
    have hj1 : (s.j : Int) < (fs.length : Int) := by omega
    have Hs := Lib.hid hs
    have Hf := Lib.hid hf
    obtain ⟨g7, rfl, hcg7, _⟩ := HA7.out (by show 0 < fs.length; omega)
    obtain ⟨g8, rfl, hcg8, _⟩ := HA8.out (by show 0 < rs.length; omega)
    obtain ⟨g9, rfl, hcg9, _⟩ := HA9.out (by show 0 < rs.length; omega)
    have y7 : ∀ q, (W1.drewN q).cell? ⟨g7, s.j, none⟩ = some (.bool f.freed) := fun q => by
      refine (hcg7 s.j (by show s.j < fs.length * 1; omega)).trans ?_
      show (fs.map _)[s.j]? = _
      rw [List.getElem?_map, hf]; rfl
    have y8 : ∀ q, (W1.drewN q).cell? ⟨g8, i, none⟩ = some (.pointer (some ⟨s.x, 0, none⟩)) := fun q => by
      refine (hcg8 i (by show i < rs.length * 1; omega)).trans ?_
      show (rs.map _)[i]? = _
      rw [List.getElem?_map, hs]; rfl
    have y9 : ∀ q, (W1.drewN q).cell? ⟨g9, i, none⟩ = some (.int .i64 s.j) := fun q => by
      refine (hcg9 i (by show i < rs.length * 1; omega)).trans ?_
      show (rs.map _)[i]? = _
      rw [List.getElem?_map, hs]; rfl
    clear hcg7 hcg8 hcg9 hs hf HA7 HA8 HA9
    have g1 : decide ((i : Int) < 0) = false := by simp
    have g2 : decide ((rs.length : Int) ≤ (i : Int)) = false := by simp; omega
    cases hfr : f.freed with
    | true =>
      rw [hfr] at y7
      clear hfr
      go_wp2
      go_quiet (fail)
      go_wp2
      go_ret
      exact ⟨rfl, HPL.out _⟩
    | false =>
      rw [hfr] at y7
      have Hfr := Lib.hid hfr
      clear hfr
      have HFI := Lib.hid (HP.out.m.fi s.j f Hf.out)
      have hkv : ∀ W F' n' ws' fs' rs' G' X' B', PB w0 p F' sb n' sz bl ws' fs' rs' G' V (stN ws fs rs) X' (stP ws) B' W → ∃ A c, f.v = .slice A f.l.length c ∧ ReadsT W W.heap.size A f.l.length f.l := by
        intro W F' n' ws' fs' rs' G' X' B' hp
        obtain ⟨k', s', e1, e2, e3, e4⟩ := HK.out s.j f Hf.out
        have hpu := (hp.s.puts k' (s'.v, s'.t.l) (by show (ws.map _)[k']? = _; rw [List.getElem?_map, e1]; rfl)).1
        rw [e3, e4] at hpu
        simp only at hpu
        obtain ⟨A, c, hv, hr, _⟩ := ownT_reads hpu (fun u hu => (HFI.out.fit u hu).1)
        exact ⟨A, c, hv, hr⟩
      obtain ⟨Av, cv, hv, -⟩ := hkv _ _ _ _ _ _ _ _ _ HP.out
      have Hv := Lib.hid hv
      have KR : Hid (∀ W F' n' ws' fs' rs' G' X' B', PB w0 p F' sb n' sz bl ws' fs' rs' G' V (stN ws fs rs) X' (stP ws) B' W → ReadsT W W.heap.size Av f.l.length f.l) := by
        intro W F' n' ws' fs' rs' G' X' B' hp
        obtain ⟨A, c, hv', hr⟩ := hkv _ _ _ _ _ _ _ _ _ hp
        have e := Hv.out.symm.trans hv'
        injection e with e1 e2 e3
        subst e1
        exact hr
      obtain ⟨A6, c6, hV6, -, -, -, hA6⟩ := HP.out.get (i := 6) (by omega)
      obtain ⟨g6, rfl, -, -⟩ := hA6 (by show 0 < fs.length; omega)
      obtain ⟨A10, c10, hV10, -, -, -, hA10⟩ := HP.out.get (i := 10) (by omega)
      obtain ⟨g10, rfl, -, -⟩ := hA10 (by show 0 < rs.length; omega)
      obtain ⟨A11, c11, hV11, -, -, -, hA11⟩ := HP.out.get (i := 11) (by omega)
      obtain ⟨g11, rfl, -, -⟩ := hA11 (by show 0 < rs.length; omega)
      have KC : Hid (∀ W F' n' ws' fs' rs' G' B', PB w0 p F' sb n' sz bl ws' fs' rs' G' V (stN ws fs rs) (stX ws fs rs) (stP ws) B' W → W.cell? ⟨sb, 7, none⟩ = some (.slice (some ⟨g6, 0, none⟩) fs.length c6) ∧ W.cell? ⟨sb, 10, none⟩ = some (.slice (some ⟨g9, 0, none⟩) rs.length c9) ∧ W.cell? ⟨sb, 11, none⟩ = some (.slice (some ⟨g10, 0, none⟩) rs.length c10) ∧ W.cell? ⟨sb, 12, none⟩ = some (.slice (some ⟨g11, 0, none⟩) rs.length c11) ∧
          W.cell? ⟨g6, s.j, none⟩ = some (.slice Av f.l.length cv) ∧ W.cell? ⟨g9, i, none⟩ = some (.int .i64 s.j) ∧ W.cell? ⟨g10, i, none⟩ = some (.int .i64 s.r.pos) ∧ W.cell? ⟨g11, i, none⟩ = some (.bool s.o)) := by
        intro W F' n' ws' fs' rs' G' B' hp
        have hc : ∀ {q g' n'' c' : Nat}, q < 12 → V q = .slice (some ⟨g', 0, none⟩) n'' c' → n'' = stN ws fs rs q → ∀ {j : Nat}, j < n'' * stS q → W.cell? ⟨g', j, none⟩ = (stX ws fs rs q)[j]? := by
          intro q g' n'' c' hq hVq hn'' j hj
          have ho := (hp.s.own q hq).1
          rw [hVq, ← hn''] at ho
          exact World.ownsRow.cellAt ho j hj
        refine ⟨(hp.cell (i := 6) (by omega)).trans (congrArg some hV6), (hp.cell (i := 9) (by omega)).trans (congrArg some HV9.out), (hp.cell (i := 10) (by omega)).trans (congrArg some hV10), (hp.cell (i := 11) (by omega)).trans (congrArg some hV11), (hc (q := 6) (by omega) hV6 rfl (j := s.j) (by show s.j < fs.length * 1; omega)).trans ?_, (hc (q := 9) (by omega) HV9.out rfl (j := i) (by show i < rs.length * 1; omega)).trans ?_, (hc (q := 10) (by omega) hV10 rfl (j := i) (by show i < rs.length * 1; omega)).trans ?_, (hc (q := 11) (by omega) hV11 rfl (j := i) (by show i < rs.length * 1; omega)).trans ?_⟩
        · show (fs.map _)[s.j]? = _
          rw [List.getElem?_map, Hf.out, ← Hv.out]; rfl
        · show (rs.map _)[i]? = _
          rw [List.getElem?_map, Hs.out]; rfl
        · show (rs.map _)[i]? = _
          rw [List.getElem?_map, Hs.out]; rfl
        · show (rs.map _)[i]? = _
          rw [List.getElem?_map, Hs.out]; rfl
      clear hkv hv hA6 hA10 hA11 hV6 hV11
      have HV10 := Lib.hid hV10
      clear hV10
      go_wp2
      go_quiet (fail)
      cases ho : s.o with
      | false =>
        have Ho := Lib.hid ho
        have HN := Lib.hid (many_next_no (HP.out.drewN nq).m Hs.out ho)
        clear ho
        go_wp2_with fail
        refine HN.out.mono ?_; rintro e w2 ⟨rfl, hm, hb⟩
        have hp3 := (HP.out.drewN nq).below hb
        have HP4 := Lib.hid (hp3.box [.int .i64 0, .int .i64 0, .int .i64 0, .int .i64 0, .int .i64 0] 58 (by decide))
        clear hp3 hm hb HN y7 y8 y9 d7 d8 d9 f0 f1 HPL
        go_upto_region 17 with (fail)
        generalize w2.alloc (.cells #[.int .i64 0, .int .i64 0, .int .i64 0, .int .i64 0, .int .i64 0] 58) = w4 at *
        have KD : Hid (∀ q, _) := Lib.hid (fun q => KC.out _ _ _ _ _ _ _ _ (HP4.out.drewN q))
        have z7 := fun q => (KD.out q).1
        have z10 := fun q => (KD.out q).2.1
        have z12 := fun q => (KD.out q).2.2.2.1
        have t6 := fun q => (KD.out q).2.2.2.2.1
        have t9 := fun q => (KD.out q).2.2.2.2.2.1
        have t11 := fun q => (KD.out q).2.2.2.2.2.2.2
        rw [Ho.out] at t11
        have HE : Hid (∀ q, After w0 p sb n sz bl ws fs rs (w4.drewN q)) := fun q => ((HP4.out.drewN q).play HK.out (fun _ _ => rfl) (fun _ _ => rfl) rfl).after
        clear KD
        go_quiet (fail)
        go_wp2
        go_ret
        exact ⟨rfl, HE.out _⟩
      | true =>
        have Ho := Lib.hid ho
        have hcl : f.l.length = s.r.count ∧ s.r.pos ≤ s.r.count := by
          obtain ⟨_, _, _, _, _, f', h0, _, _, _, _, h5, _⟩ := (HP.out.m.rd i s Hs.out).rok ho
          rw [Hf.out] at h0
          injection h0 with h0
          subst h0
          exact ⟨h5, (HP.out.m.rd i s Hs.out).ok.count.2⟩
        have hlen : f.l.length ≤ 100000000 := HFI.out.nb.2
        have Hcl := Lib.hid hcl
        have Hlen := Lib.hid hlen
        by_cases hpos : s.r.pos = s.r.count
        · have HN := Lib.hid (many_next_end (HP.out.drewN nq).m Hs.out ho hpos)
          have gl : ((s.r.pos : Int) == (f.l.length : Int)) = true := by simp; omega
          clear ho hcl hlen hpos
          go_wp2_with fail
          refine HN.out.mono ?_; rintro e w2 ⟨rfl, hm, hb⟩
          have hp3 := (HP.out.drewN nq).below hb
          have HP4 := Lib.hid (hp3.box [.int .i64 0, .int .i64 0, .int .i64 0, .int .i64 0, .int .i64 0] 58 (by decide))
          clear hp3 hm hb HN y7 y8 y9 d7 d8 d9 f0 f1 HPL
          go_upto_region 17 with (fail)
          generalize w2.alloc (.cells #[.int .i64 0, .int .i64 0, .int .i64 0, .int .i64 0, .int .i64 0] 58) = w4 at *
          generalize w2.heap.size = tb at *
          have KD : Hid (∀ q, _) := Lib.hid (fun q => KC.out _ _ _ _ _ _ _ _ (HP4.out.drewN q))
          have KT : Hid (∀ q, _) := Lib.hid (fun q => ((HP4.out.drewN q).b _ (List.mem_cons_self ..)).row)
          have z7 := fun q => (KD.out q).1
          have z10 := fun q => (KD.out q).2.1
          have z11 := fun q => (KD.out q).2.2.1
          have z12 := fun q => (KD.out q).2.2.2.1
          have t6 := fun q => (KD.out q).2.2.2.2.1
          have t9 := fun q => (KD.out q).2.2.2.2.2.1
          have t10 := fun q => (KD.out q).2.2.2.2.2.2.1
          have t11 := fun q => (KD.out q).2.2.2.2.2.2.2
          rw [Ho.out] at t11
          clear KD
          have k0 : ∀ q, (w4.drewN q).cell? ⟨tb, 0, none⟩ = some (.int .i64 0) := fun q => (KT.out q).cell 0
          have k1 : ∀ q, (w4.drewN q).cell? ⟨tb, 1, none⟩ = some (.int .i64 0) := fun q => (KT.out q).cell 1
          have k2 : ∀ q, (w4.drewN q).cell? ⟨tb, 2, none⟩ = some (.int .i64 0) := fun q => (KT.out q).cell 2
          have k3 : ∀ q, (w4.drewN q).cell? ⟨tb, 3, none⟩ = some (.int .i64 0) := fun q => (KT.out q).cell 3
          have k4 : ∀ q, (w4.drewN q).cell? ⟨tb, 4, none⟩ = some (.int .i64 0) := fun q => (KT.out q).cell 4
          have HE : Hid (∀ q, After w0 p sb n sz bl ws fs rs (w4.drewN q)) := fun q => ((HP4.out.drewN q).play HK.out (fun _ _ => rfl) (fun _ _ => rfl) rfl).after
          have hq := fun W => eq_tup W 0 0 0 0 0 0 0 0 0 0
          have hg := guard_tup
          clear KT
          go_quiet (fail)
          go_wp2
          all_goals
            go_ret
            exact ⟨rfl, HE.out _⟩
        · have hlt : s.r.pos < s.r.count := by omega
          obtain ⟨t, ht⟩ : ∃ t, f.l[s.r.pos]? = some t := ⟨_, List.getElem?_eq_getElem (by omega)⟩
          obtain ⟨ta, tb', tc, td, te⟩ := t
          have HN := Lib.hid (many_next (HP.out.drewN nq).m hnn Hs.out ho Hf.out Hfr.out hlt ht)
          have gl : ((s.r.pos : Int) == (f.l.length : Int)) = false := by simp; omega
          have Hlt : Hid (s.r.pos < f.l.length) := by unfold Hid; omega
          have Ht := Lib.hid ht
          clear ho hcl hlen hpos hlt ht
          go_wp2_with fail
          refine HN.out.mono ?_; rintro e w2 ⟨rfl, F', G', hm, htn⟩
          have hp3 := (HP.out.drewN nq).turn hm htn
          have HP4 := Lib.hid (hp3.box [.int .i64 ta, .int .i64 tb', .int .i64 tc, .int .i64 td, .int .i64 te] 58 (by decide))
          clear hp3 hm htn HN y7 y8 y9 d7 d8 d9 f0 f1 HPL
          go_upto_region 17 with (fail)
          generalize w2.alloc (.cells #[.int .i64 ta, .int .i64 tb', .int .i64 tc, .int .i64 td, .int .i64 te] 58) = w4 at *
          generalize w2.heap.size = tb at *
          obtain ⟨lb, lo, t2, rfl, hlb, -⟩ := (KR.out _ _ _ _ _ _ _ _ _ HP4.out).at_ Hlt.out
          clear hlb
          have KD : Hid (∀ q, _) := Lib.hid (fun q => KC.out _ _ _ _ _ _ _ _ (HP4.out.drewN q))
          have KT : Hid (∀ q, _) := Lib.hid (fun q => ((HP4.out.drewN q).b _ (List.mem_cons_self ..)).row)
          have z7 := fun q => (KD.out q).1
          have z10 := fun q => (KD.out q).2.1
          have z11 := fun q => (KD.out q).2.2.1
          have z12 := fun q => (KD.out q).2.2.2.1
          have t6 := fun q => (KD.out q).2.2.2.2.1
          have t9 := fun q => (KD.out q).2.2.2.2.2.1
          have t10 := fun q => (KD.out q).2.2.2.2.2.2.1
          have t11 := fun q => (KD.out q).2.2.2.2.2.2.2
          rw [Ho.out] at t11
          clear KD
          have gi0 : (0 : Int) ≤ (s.r.pos : Int) := by omega
          have gi1 : (s.r.pos : Int) < (f.l.length : Int) := by have := Hlt.out; omega
          have hf10 : ∀ q, (w4.drewN q).frozen? ⟨g10, i, none⟩ = false := fun q => by
            have hoo := ((HP4.out.drewN q).s.own 10 (by omega)).1
            rw [HV10.out] at hoo
            exact World.ownsRow.frozenAt hoo i
          clear KT
          go_quiet (fail)
          have HP5 := Lib.hid ((HP4.out.drewN nq).store (i := 10) (j := i) (by omega) HV10.out rfl (.int .i64 (wrap64 ((s.r.pos : Int) + 1))))
          go_upto_region 23 with (fail)
          generalize (w4.drewN nq).setCell ⟨g10, i, none⟩ (.int .i64 (wrap64 ((s.r.pos : Int) + 1))) = w5 at *
          have Hw : Hid (wrap64 ((s.r.pos : Int) + 1) = (s.r.pos : Int) + 1) := by
            have := Hlt.out; have := Hlen.out
            exact IntWalk.wrap64_in _ ⟨by omega, by omega⟩
          clear z7 z10 z11 z12 t6 t9 t10 t11 hf10 HP4
          have HE : Hid (∀ q, After w0 p sb n sz bl ws fs rs (w5.drewN q)) := fun q => by
            refine ⟨n + 1, ws, fs, _, by omega, by omega, by omega, by simp, (HP5.out.drewN q).play HK.out (all12 rfl rfl rfl rfl rfl rfl rfl rfl ?_ ?_ ?_ ?_) (all12 rfl rfl rfl rfl rfl rfl rfl rfl ?_ ?_ ?_ ?_) rfl⟩
            · simp [stN]
            · simp [stN]
            · simp [stN]
            · simp [stN]
            · exact (map_setR (s' := { s with r := { s.r with pos := s.r.pos + 1 } }) (fun s => Value.pointer (some ⟨s.x, 0, none⟩)) Hs.out rfl).symm
            · exact (map_setR (s' := { s with r := { s.r with pos := s.r.pos + 1 } }) (fun s => Value.int .i64 s.j) Hs.out rfl).symm
            · show (rs.map _).set i (Value.int .i64 (wrap64 ((s.r.pos : Int) + 1))) = _
              rw [Hw.out]
              exact (List.map_set (f := fun s : Pr => Value.int .i64 s.r.pos) (l := rs) (i := i) (a := { s with r := { s.r with pos := s.r.pos + 1 } })).symm
            · exact (map_setR (s' := { s with r := { s.r with pos := s.r.pos + 1 } }) (fun s => Value.bool s.o) Hs.out rfl).symm
          have hrT := KR.out _ _ _ _ _ _ _ _ _ HP5.out
          obtain ⟨lb2, lo2, t3, hA, _, u0, u1, u2, u3, u4, _, hu⟩ := hrT.at_ Hlt.out
          injection hA with hA
          injection hA with hA1 hA2
          subst hA1 hA2
          have e3 : t3 = ⟨ta, tb', tc, td, te⟩ := Option.some.inj (hu.out.symm.trans Ht.out)
          subst e3
          simp only at u0 u1 u2 u3 u4
          have l0 : ∀ q, (w5.drewN q).cell? ⟨lb, lo + s.r.pos * 5, none⟩ = some (.int .i64 ta) := fun _ => u0
          have l1 : ∀ q, (w5.drewN q).cell? ⟨lb, lo + s.r.pos * 5 + 1, none⟩ = some (.int .i64 tb') := fun _ => u1
          have l2 : ∀ q, (w5.drewN q).cell? ⟨lb, lo + s.r.pos * 5 + 2, none⟩ = some (.int .i64 tc) := fun _ => u2
          have l3 : ∀ q, (w5.drewN q).cell? ⟨lb, lo + s.r.pos * 5 + 3, none⟩ = some (.int .i64 td) := fun _ => u3
          have l4 : ∀ q, (w5.drewN q).cell? ⟨lb, lo + s.r.pos * 5 + 4, none⟩ = some (.int .i64 te) := fun _ => u4
          have hrb := (HP5.out.b _ (List.mem_cons_self ..)).row
          have k0 : ∀ q, (w5.drewN q).cell? ⟨tb, 0, none⟩ = some (.int .i64 ta) := fun _ => hrb.cell 0
          have k1 : ∀ q, (w5.drewN q).cell? ⟨tb, 1, none⟩ = some (.int .i64 tb') := fun _ => hrb.cell 1
          have k2 : ∀ q, (w5.drewN q).cell? ⟨tb, 2, none⟩ = some (.int .i64 tc) := fun _ => hrb.cell 2
          have k3 : ∀ q, (w5.drewN q).cell? ⟨tb, 3, none⟩ = some (.int .i64 td) := fun _ => hrb.cell 3
          have k4 : ∀ q, (w5.drewN q).cell? ⟨tb, 4, none⟩ = some (.int .i64 te) := fun _ => hrb.cell 4
          have c11 : w5.cell? ⟨sb, 11, none⟩ = some (.slice (some ⟨g10, 0, none⟩) rs.length c10) := (HP5.out.cell (i := 10) (by omega)).trans (congrArg some HV10.out)
          have z11 : ∀ q, (w5.drewN q).cell? ⟨sb, 11, none⟩ = some (.slice (some ⟨g10, 0, none⟩) rs.length c10) := fun _ => c11
          have cat : w5.cell? ⟨g10, i, none⟩ = some (.int .i64 ((s.r.pos : Int) + 1)) := by
            have hoo := (HP5.out.s.own 10 (by omega)).1
            rw [HV10.out] at hoo
            refine (World.ownsRow.cellAt hoo i (by show i < rs.length * 1; omega)).trans ?_
            show ((rs.map _).set i _)[i]? = _
            rw [List.getElem?_set, if_pos rfl, if_pos (by rw [List.length_map]; exact hil), Hw.out]
          have t10 : ∀ q, (w5.drewN q).cell? ⟨g10, i, none⟩ = some (.int .i64 ((s.r.pos : Int) + 1)) := fun _ => cat
          have hq : ∀ W, (binOp .eql 58 (.agg #[.int .i64 ta, .int .i64 tb', .int .i64 tc, .int .i64 td, .int .i64 te]) (.agg #[.int .i64 ta, .int .i64 tb', .int .i64 tc, .int .i64 td, .int .i64 te])).run Try.prog W = .ok (.bool true) W := fun W => by
            rw [eq_tup]; simp
          have hg := guard_tup
          obtain ⟨mm, hmm⟩ : ∃ mm : Int, mm = (s.r.pos : Int) + 1 := ⟨_, rfl⟩
          rw [← hmm] at t10
          have hsb : mm - 1 = (s.r.pos : Int) := by omega
          have hm0 : 0 ≤ mm := by omega
          have hm1 : mm ≤ 100000000 := by have := Hlt.out; have := Hlen.out; omega
          clear hmm
          clear hrT u0 u1 u2 u3 u4 hu hrb c11 cat HP5 Ht
          go_quiet (fail)
          go_wp2
          all_goals
            go_ret
            exact ⟨rfl, HE.out _⟩
  · clear HP HK HA7 HA8 HA9
    rcases (by omega : k < 0 ∨ (0 ≤ k ∧ (rs.length : Int) ≤ k)) with h1 | ⟨h1, h2⟩
    · have g1 : decide (k < 0) = true := by simpa using h1
      clear hin
      go_wp2
      go_quiet (fail)
      go_wp2
      go_ret
      exact ⟨rfl, HPL.out _⟩
    · have g1 : decide (k < 0) = false := by simp; omega
      have g2 : decide ((rs.length : Int) ≤ k) = true := by simpa using h2
      clear hin
      go_wp2
      go_quiet (fail)
      go_wp2
      go_ret
      exact ⟨rfl, HPL.out _⟩
end
end Go.Proofs.Ytbkgpilmgllkiaa
