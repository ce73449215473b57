/- The law's own state.write: a tuple is put. -/
import Derived.Test.YtbkgpilmgllkiaaFilePlayT
namespace Go.Proofs.Ytbkgpilmgllkiaa
open Go.ChangeShapes Go.WideShapes Go.ChangeAt Go.RowKit

section
variable {w0 W W' : World} {G G' : Nat → Prop} {p : Wp} {F : Fs} {sb n sz : Nat} {bl : Int} {V : Nat → Value} {N : Nat → Nat} {X : Nat → List Value} {P : List (Value × List Tup)} {B : List (Nat × TypeId × List Value)} {ws : List Pw} {fs : List Pf} {rs : List Pr} {wv : Value → List Pw}
theorem PB.pusht (h : PB w0 p F sb n sz bl ws fs rs G V N X P B W) {k : Nat} {y : Value × List Tup} (hk : P[k]? = some y) {g' m cap : Nat} {t : Tup} (hm : m = y.2.length + 1) (ho : W'.ownsRow w0.heap.size 58 5 (.slice (some ⟨g', 0, none⟩) m cap) m (flatV (y.2 ++ [t]))) (hgr : W.grownBy W' y.1.ownBlock) (hat : y.1.ownBlock = some g' ∨ g' = W.heap.size) {g n' c : Nat} (hV : V 1 = .slice (some ⟨g, 0, none⟩) n' c) (hN : N 1 = n') (hB : ∀ x ∈ B, x.2.1 ≠ 58) :
    PB w0 p F sb n sz bl ws fs rs G V N (updS X 1 ((X 1).set k (.slice (some ⟨g', 0, none⟩) m cap))) (P.set k (.slice (some ⟨g', 0, none⟩) m cap, y.2 ++ [t])) B (W'.setCell ⟨g, k, none⟩ (.slice (some ⟨g', 0, none⟩) m cap)) := by
  subst hm
  have hf : Far (fun k => y.1.ownBlock = some k) W W' := (Far.refl _ W).grown hgr fun k hk => .inl hk
  obtain ⟨k1, k2, k3⟩ := h.s.pusht hk ho hf (hat.imp (fun e => e.symm) fun e => by rw [e]; rfl) (fun k hk => h.m.sys.lt hk) hV hN
  refine ⟨h.m.mine k2 fun q hq => hq.elim (fun e => h.s.putMine hk e) fun e => by rw [e]; exact k3, k1, fun x hx => ?_⟩
  have hb := h.b x hx
  refine ⟨k2.row hb.row fun hq => hq.elim (fun e => ?_) fun e => hb.nv 1 (by omega) (by rw [hV, e]; rfl), hb.ng, hb.ty, hb.nv, hb.ns⟩
  obtain ⟨⟨cs, hr⟩, _⟩ := stown_row (h.s.puts k y hk).1 e
  exact hB x hx (hb.row.typed hr)
theorem step_pusht {w : World} {ops : Array Oper} {o : Oper} {a : Act} {K : Act → World → Prop} {Q : Exit → Act → World → Prop} {E : Prop} (h : ∀ v, PB w0 p F sb n sz bl (wv v) fs rs G V N X P B w) (hgd : o.guard = none) (sl x : Operand)
    (ho : o.op = .call { callee := .builtin .append, args := #[sl, x], argTypes := #[24, 24] }) {k : Nat} {y : Value × List Tup} (hk : P[k]? = some y) (hs : a.eval sl = y.1) (ad : Addr) (t : Tup) (hx : a.eval x = .slice (some ad) 1 1)
    (hsrc : ∀ j u, (tupC t)[j]? = some u → w.cell? (ad.add j) = some u) (hn : y.2.length ≤ 200000000) {g n' c : Nat} (hV : V 1 = .slice (some ⟨g, 0, none⟩) n' c) (hN : N 1 = n') (hkn : X 1 = P.map (·.1)) (hkl : n' = P.length) (hB : ∀ x ∈ B, x.2.1 ≠ 58)
    (hK : ∀ g' cap m w', w'.cell? ⟨sb, 2, none⟩ = some (.slice (some ⟨g, 0, none⟩) n' c) → w'.cell? ⟨g, k, none⟩ = some y.1 → w'.frozen? ⟨g, k, none⟩ = false → Hid (m = y.2.length + 1) → Hid (∀ v, PB w0 p F sb n sz bl (wv v) fs rs G V N (updS X 1 ((X 1).set k (.slice (some ⟨g', 0, none⟩) m cap))) (P.set k (.slice (some ⟨g', 0, none⟩) m cap, y.2 ++ [t])) B (w'.setCell ⟨g, k, none⟩ (.slice (some ⟨g', 0, none⟩) m cap))) → K (a.put o.dst (.slice (some ⟨g', 0, none⟩) m cap)) w') :
    if Region.wanted o (yielded ops a.tmps) = true then Oper.wp Try.prog o a w K Q else E := by
  obtain ⟨i0, hi0, hz0, hz1, hz2⟩ := info_parts infoT
  have h0 := h (.slice none 0 0)
  refine step_append_lies w hgd sl x 24 ho w0.heap.size 58 i0 _ 5 40 Try.underlying24 hi0 hz0 hz1 hz2 rfl (by decide) y.1 y.2.length (flatV y.2) hs (h0.s.puts k y hk).1 ad 1 1 (tupC t) hx rfl hsrc (fun u hu => by simp [tupC] at hu; rcases hu with rfl | rfl | rfl | rfl | rfl <;> rfl) (by omega) (by unfold maxLen; omega) (by omega) h0.m.bel.size w.heap.size rfl ?_
  intro g' cap w' hown hgr hat _
  rw [← flatV_snoc] at hown
  have hf : Far (fun k => y.1.ownBlock = some k) w w' := (Far.refl _ w).grown hgr fun k hk => .inl hk
  have hq0 : (V 1).ownBlock = some g := by rw [hV]; rfl
  have ho1 := (h0.s.own 1 (by omega)).1
  have hlt : k < P.length := (List.getElem?_eq_some_iff.1 hk).1
  have ho1' : w'.ownsRow w0.heap.size (stT 1) (stS 1) (V 1) (N 1) (X 1) := ownsRow_same ho1 fun q hq => hf.block q (stown_row ho1 hq).2.2 fun e => h0.s.own_put (by omega) hk hq e
  rw [hV, hN] at ho1'
  have hrw : Row w' sb 56 (stC p V) := hf.row h0.s.row (h0.s.sb_put hk)
  refine hK g' cap _ w' ((hrw.cell 2).trans (congrArg some hV)) ((World.ownsRow.cellAt ho1' k (by show k < n' * 1; omega)).trans ?_) (World.ownsRow.frozenAt ho1' k) (Lib.hid rfl) (Lib.hid fun v => (h v).pusht hk rfl hown hgr hat hV hN hB)
  rw [hkn, List.getElem?_map, hk]; rfl
set_option maxHeartbeats 4000000 in
set_option maxRecDepth 100000 in
/-- 2: a tuple is put -/
theorem stwrite_2 (h : Play w0 p sb n sz bl ws fs rs W) (k wd bd a b c d e0 : Int) (hk : I64 k) (hto : TupOk (⟨a, b, c, d, e0⟩ : Tup)) (hn : ws.length ≤ 1000) (hnn : n < 1000000) :
    Calls Try.prog 23 #[.pointer (some ⟨sb, 0, none⟩), .agg #[.int .i64 2, .int .i64 k, .int .i64 wd, .int .i64 bd, .int .i64 a, .int .i64 b, .int .i64 c, .int .i64 d, .int .i64 e0], .int .i64 sz] W fun e w' => e = .returned (.bool true) ∧ After w0 p sb n sz bl ws fs rs w' := by
  obtain ⟨⟨F, G, V, m0, s0⟩, hkp⟩ := h
  have hp0 : PB w0 p F sb n sz bl ws fs rs G V (stN ws fs rs) (stX ws fs rs) (stP ws) [] W := ⟨m0, s0, fun _ h => by cases h⟩
  have hp := hp0.box [.int .i64 2, .int .i64 k, .int .i64 wd, .int .i64 bd, .int .i64 a, .int .i64 b, .int .i64 c, .int .i64 d, .int .i64 e0] 60 (by decide)
  clear m0 s0 hp0
  go_enter Try.func23, Try.ntmps23
  go_upto_region 1 with (fail)
  generalize W.alloc (.cells #[.int .i64 2, .int .i64 k, .int .i64 wd, .int .i64 bd, .int .i64 a, .int .i64 b, .int .i64 c, .int .i64 d, .int .i64 e0] 60) = W1 at *
  generalize W.heap.size = ob at *
  obtain ⟨BB, hBB⟩ : ∃ BB : List (Nat × TypeId × List Value), BB = [(ob, 60, [.int .i64 2, .int .i64 k, .int .i64 wd, .int .i64 bd, .int .i64 a, .int .i64 b, .int .i64 c, .int .i64 d, .int .i64 e0])] := ⟨_, rfl⟩
  rw [← hBB] at hp
  have HB : Hid (∀ x ∈ BB, x.2.1 ≠ 58) := by
    intro x hx
    rw [hBB] at hx
    rw [List.mem_singleton.1 hx]
    show 60 ≠ 58
    decide
  have KO : Hid (∀ W F' n' ws' fs' rs' G' V' N' X' P', PB w0 p F' sb n' sz bl ws' fs' rs' G' V' N' X' P' BB W → W.cell? ⟨ob, 4, none⟩ = some (.int .i64 a) ∧ W.cell? ⟨ob, 5, none⟩ = some (.int .i64 b) ∧ W.cell? ⟨ob, 6, none⟩ = some (.int .i64 c) ∧ W.cell? ⟨ob, 7, none⟩ = some (.int .i64 d) ∧ W.cell? ⟨ob, 8, none⟩ = some (.int .i64 e0) ∧ W.cell? ⟨ob, 0, none⟩ = some (.int .i64 2) ∧ W.cell? ⟨ob, 1, none⟩ = some (.int .i64 k)) := by
    intro W F' n' ws' fs' rs' G' V' N' X' P' hp
    have hr := (hp.b (ob, 60, [.int .i64 2, .int .i64 k, .int .i64 wd, .int .i64 bd, .int .i64 a, .int .i64 b, .int .i64 c, .int .i64 d, .int .i64 e0]) (by rw [hBB]; exact List.mem_singleton.2 rfl)).row
    exact ⟨hr.cell 4, hr.cell 5, hr.cell 6, hr.cell 7, hr.cell 8, hr.cell 0, hr.cell 1⟩
  clear hBB
  obtain ⟨-, -, -, -, -, f0, f1⟩ := KO.out _ _ _ _ _ _ _ _ _ _ _ hp
  obtain ⟨A0, c0, hV0, xx, -, -, hA0⟩ := hp.get (i := 0) (by omega)
  have x0 : W1.cell? ⟨sb, 1, none⟩ = some (.slice A0 ws.length c0) := xx
  clear xx
  have HPL : Hid (∀ q, After w0 p sb n sz bl ws fs rs (W1.drewN q)) := fun q => ((hp.drewN2 q).play hkp (fun _ _ => rfl) (fun _ _ => rfl) rfl).after
  have HPL1 : Hid (After w0 p sb n sz bl ws fs rs W1) := (hp.play hkp (fun _ _ => rfl) (fun _ _ => rfl) rfl).after
  by_cases hin : 0 ≤ k ∧ k < (ws.length : Int)
  · obtain ⟨hk0, hk1⟩ := hin
    obtain ⟨i, rfl⟩ : ∃ i : Nat, k = (i : Int) := ⟨k.toNat, by omega⟩
    have hil : i < ws.length := by omega
    obtain ⟨s, hs⟩ : ∃ s, ws[i]? = some s := ⟨ws[i], List.getElem?_eq_getElem hil⟩
    have Hs := Lib.hid hs
    obtain ⟨g0, rfl, -, -⟩ := hA0 (by show 0 < ws.length; omega)
    obtain ⟨A4, c4, hV4, -, -, -, hA4⟩ := hp.get (i := 4) (by omega)
    obtain ⟨g4, rfl, -, -⟩ := hA4 (by show 0 < ws.length; omega)
    obtain ⟨A2, c2, hV2, -, -, -, hA2⟩ := hp.get (i := 2) (by omega)
    obtain ⟨g2, rfl, -, -⟩ := hA2 (by show 0 < ws.length; omega)
    obtain ⟨A1, c1, hV1, -, -, -, hA1⟩ := hp.get (i := 1) (by omega)
    obtain ⟨g1, rfl, -, -⟩ := hA1 (by show 0 < ws.length; omega)
    obtain ⟨A3, c3, hV3, -, -, -, hA3⟩ := hp.get (i := 3) (by omega)
    obtain ⟨g3, rfl, -, -⟩ := hA3 (by show 0 < ws.length; omega)
    have hpi : (stP ws)[i]? = some (s.v, s.t.l) := by show (ws.map _)[i]? = _; rw [List.getElem?_map, hs]; rfl
    have Hpi := Lib.hid hpi
    have hfit := (hp.m.wr i s hs).fit
    obtain ⟨Av, cv, hv, -⟩ := ownT_reads (hp.s.puts i _ hpi).1 fun u hu => (hfit u hu).1
    simp only at hv
    have Hv := Lib.hid hv
    have HV1 := Lib.hid hV1
    have HWT := Lib.hid (hp.m.wr i s hs).ok
    have KC : Hid (∀ W F' n' ws' fs' rs' G' B', PB w0 p F' sb n' sz bl ws' fs' rs' G' V (stN ws fs rs) (stX ws fs rs) (stP ws) B' W → W.cell? ⟨sb, 1, none⟩ = some (.slice (some ⟨g0, 0, none⟩) ws.length c0) ∧ W.cell? ⟨g0, i, none⟩ = some (.pointer (some ⟨s.x, 0, none⟩)) ∧ W.cell? ⟨sb, 5, none⟩ = some (.slice (some ⟨g4, 0, none⟩) ws.length c4) ∧ W.cell? ⟨g4, i, none⟩ = some (.bool s.o) ∧ W.cell? ⟨sb, 3, none⟩ = some (.slice (some ⟨g2, 0, none⟩) ws.length c2) ∧ W.cell? ⟨g2, i, none⟩ = some (.int .i64 s.t.k) ∧ W.cell? ⟨sb, 2, none⟩ = some (.slice (some ⟨g1, 0, none⟩) ws.length c1) ∧ W.cell? ⟨g1, i, none⟩ = some (.slice Av s.t.l.length cv) ∧ W.cell? ⟨sb, 4, none⟩ = some (.slice (some ⟨g3, 0, none⟩) ws.length c3) ∧ W.cell? ⟨g3, i, none⟩ = some (.int .i64 s.t.bound)) := by
      intro W F' n' ws' fs' rs' G' B' hp
      have hc : ∀ {q g' n'' c' : Nat}, q < 12 → V q = .slice (some ⟨g', 0, none⟩) n'' c' → n'' = stN ws fs rs q → ∀ {j : Nat}, j < n'' * stS q → W.cell? ⟨g', j, none⟩ = (stX ws fs rs q)[j]? := by
        intro q g' n'' c' hq hVq hn'' j hj
        have ho := (hp.s.own q hq).1
        rw [hVq, ← hn''] at ho
        exact World.ownsRow.cellAt ho j hj
      refine ⟨(hp.cell (i := 0) (by omega)).trans (congrArg some hV0), (hc (q := 0) (by omega) hV0 rfl (j := i) (by show i < ws.length * 1; omega)).trans ?_, (hp.cell (i := 4) (by omega)).trans (congrArg some hV4), (hc (q := 4) (by omega) hV4 rfl (j := i) (by show i < ws.length * 1; omega)).trans ?_, (hp.cell (i := 2) (by omega)).trans (congrArg some hV2), (hc (q := 2) (by omega) hV2 rfl (j := i) (by show i < ws.length * 1; omega)).trans ?_,
        (hp.cell (i := 1) (by omega)).trans (congrArg some hV1), (hc (q := 1) (by omega) hV1 rfl (j := i) (by show i < ws.length * 1; omega)).trans ?_, (hp.cell (i := 3) (by omega)).trans (congrArg some hV3), (hc (q := 3) (by omega) hV3 rfl (j := i) (by show i < ws.length * 1; omega)).trans ?_⟩
      · show (ws.map _)[i]? = _
        rw [List.getElem?_map, Hs.out]; rfl
      · show (ws.map _)[i]? = _
        rw [List.getElem?_map, Hs.out]; rfl
      · show (ws.map _)[i]? = _
        rw [List.getElem?_map, Hs.out]; rfl
      · show (ws.map _)[i]? = _
        rw [List.getElem?_map, Hs.out, ← Hv.out]; rfl
      · show (ws.map _)[i]? = _
        rw [List.getElem?_map, Hs.out]; rfl
    have HP := Lib.hid hp
    have HK := Lib.hid hkp
    have HTO := Lib.hid hto
    have Hnn := Lib.hid hnn
    have Hn := Lib.hid hn
    obtain ⟨-, x1, -⟩ := KC.out _ _ _ _ _ _ _ _ hp
    obtain ⟨y0, y1, -⟩ := KC.out _ _ _ _ _ _ _ _ hp.drew
    obtain ⟨u0, u1, u2, u3, u4, -, -⟩ := KO.out _ _ _ _ _ _ _ _ _ _ _ hp.drew
    have HS : Hid (∀ W F' n' ws' fs' rs' G', PB w0 p F' sb n' sz bl ws' fs' rs' G' V (stN ws fs rs) (stX ws fs rs) (stP ws) BB W → W.cell? ⟨sb, 1, none⟩ = some (.slice (some ⟨g0, 0, none⟩) ws.length c0) ∧ W.cell? ⟨g0, i, none⟩ = some (.pointer (some ⟨s.x, 0, none⟩)) ∧ W.cell? ⟨ob, 4, none⟩ = some (.int .i64 a) ∧ W.cell? ⟨ob, 5, none⟩ = some (.int .i64 b) ∧ W.cell? ⟨ob, 6, none⟩ = some (.int .i64 c) ∧ W.cell? ⟨ob, 7, none⟩ = some (.int .i64 d) ∧ W.cell? ⟨ob, 8, none⟩ = some (.int .i64 e0)) := by
      intro W F' n' ws' fs' rs' G' hp
      obtain ⟨z0, z1, z2, z3, z4, -, -⟩ := KO.out _ _ _ _ _ _ _ _ _ _ _ hp
      obtain ⟨z5, z6, -⟩ := KC.out _ _ _ _ _ _ _ _ hp
      exact ⟨z5, z6, z0, z1, z2, z3, z4⟩
    clear hA0 hA1 hA2 hA3 hA4 hV0 hV1 hV2 hV3 hV4 hpi hfit hv hp hkp hs hto hnn hn
    cases ho : s.o with
    | false =>
      have HF : Hid (Calls Try.prog 36 #[.pointer (some ⟨s.x, 0, none⟩), .agg #[.int .i64 a, .int .i64 b, .int .i64 c, .int .i64 d, .int .i64 e0]] W1.drew fun e w' => e = .returned (.int .i64 1) ∧ PB w0 p F sb n sz bl ws fs rs G V (stN ws fs rs) (stX ws fs rs) (stP ws) BB w') := by
        refine (many_put_no HP.out.drew.m Hs.out (⟨a, b, c, d, e0⟩ : Tup) (.inl ho)).mono ?_
        rintro e w' ⟨he, _, t2⟩
        exact ⟨he, HP.out.drew.below t2⟩
      have Ho := Lib.hid ho
      clear ho
      go_wp2
      go_region_held3 (fun W => W.cell? ⟨sb, 1, none⟩ = some (.slice (some ⟨g0, 0, none⟩) ws.length c0) ∧ W.cell? ⟨g0, i, none⟩ = some (.pointer (some ⟨s.x, 0, none⟩)) ∧ W.cell? ⟨ob, 4, none⟩ = some (.int .i64 a) ∧ W.cell? ⟨ob, 5, none⟩ = some (.int .i64 b) ∧ W.cell? ⟨ob, 6, none⟩ = some (.int .i64 c) ∧ W.cell? ⟨ob, 7, none⟩ = some (.int .i64 d) ∧ W.cell? ⟨ob, 8, none⟩ = some (.int .i64 e0)) (first | with_reducible exact ⟨y0, y1, u0, u1, u2, u3, u4⟩ | with_reducible exact q2)
        (first
          | (go_at_call 36; (with_reducible refine HF.out.mono ?_); rintro e w2 ⟨rfl, h2⟩; have q2 := HS.out _ _ _ _ _ _ _ h2))
      have HP2 := Lib.hid h2
      clear h2 q2 HF HPL HPL1 x0 x1 y0 y1 u0 u1 u2 u3 u4 f0 f1
      have y5 := fun q => (KC.out _ _ _ _ _ _ _ _ (HP2.out.drewN2 q)).2.2.1
      have y6 := fun q => (KC.out _ _ _ _ _ _ _ _ (HP2.out.drewN2 q)).2.2.2.1
      rw [Ho.out] at y6
      have HE : Hid (∀ q, After w0 p sb n sz bl ws fs rs (w2.drewN q)) := fun q => ((HP2.out.drewN2 q).play HK.out (fun _ _ => rfl) (fun _ _ => rfl) rfl).after
      clear HP2
      go_wp2
      go_quiet (fail)
      go_wp2
      go_ret
      exact ⟨rfl, HE.out _⟩
    | true =>
      have Ho := Lib.hid ho
      cases hf : fitsT s.t.k (⟨a, b, c, d, e0⟩ : Tup) with
      | false =>
        have HF : Hid (Calls Try.prog 36 #[.pointer (some ⟨s.x, 0, none⟩), .agg #[.int .i64 a, .int .i64 b, .int .i64 c, .int .i64 d, .int .i64 e0]] W1.drew fun e w' => e = .returned (.int .i64 1) ∧ PB w0 p F sb n sz bl ws fs rs G V (stN ws fs rs) (stX ws fs rs) (stP ws) BB w') := by
          refine (many_put_no HP.out.drew.m Hs.out (⟨a, b, c, d, e0⟩ : Tup) (.inr hf)).mono ?_
          rintro e w' ⟨he, _, t2⟩
          exact ⟨he, HP.out.drew.below t2⟩
        have Hf := Lib.hid hf
        clear ho hf
        go_wp2
        go_region_held3 (fun W => W.cell? ⟨sb, 1, none⟩ = some (.slice (some ⟨g0, 0, none⟩) ws.length c0) ∧ W.cell? ⟨g0, i, none⟩ = some (.pointer (some ⟨s.x, 0, none⟩)) ∧ W.cell? ⟨ob, 4, none⟩ = some (.int .i64 a) ∧ W.cell? ⟨ob, 5, none⟩ = some (.int .i64 b) ∧ W.cell? ⟨ob, 6, none⟩ = some (.int .i64 c) ∧ W.cell? ⟨ob, 7, none⟩ = some (.int .i64 d) ∧ W.cell? ⟨ob, 8, none⟩ = some (.int .i64 e0)) (first | with_reducible exact ⟨y0, y1, u0, u1, u2, u3, u4⟩ | with_reducible exact q2)
          (first
            | (go_at_call 36; (with_reducible refine HF.out.mono ?_); rintro e w2 ⟨rfl, h2⟩; have q2 := HS.out _ _ _ _ _ _ _ h2))
        clear q2 HF HPL HPL1 x0 x1 y0 y1 u0 u1 u2 u3 u4 f0 f1
        have HS16 : Hid (∀ W, (PB w0 p F sb n sz bl ws fs rs G V (stN ws fs rs) (stX ws fs rs) (stP ws) BB W) → W.cell? ⟨sb, 5, none⟩ = some (.slice (some ⟨g4, 0, none⟩) ws.length c4) ∧ W.cell? ⟨g4, i, none⟩ = some (.bool true) ∧ W.cell? ⟨sb, 3, none⟩ = some (.slice (some ⟨g2, 0, none⟩) ws.length c2) ∧ W.cell? ⟨g2, i, none⟩ = some (.int .i64 s.t.k) ∧ W.cell? ⟨ob, 4, none⟩ = some (.int .i64 a) ∧ W.cell? ⟨ob, 5, none⟩ = some (.int .i64 b) ∧ W.cell? ⟨ob, 6, none⟩ = some (.int .i64 c) ∧ W.cell? ⟨ob, 7, none⟩ = some (.int .i64 d) ∧ W.cell? ⟨ob, 8, none⟩ = some (.int .i64 e0)) := by
          intro W hp
          obtain ⟨_, _, z5, z6, z3, z4, _⟩ := KC.out _ _ _ _ _ _ _ _ (hp)
          obtain ⟨v0, v1, v2, v3, v4, _, _⟩ := KO.out _ _ _ _ _ _ _ _ _ _ _ (hp)
          rw [Ho.out] at z6
          exact ⟨z5, z6, z3, z4, v0, v1, v2, v3, v4⟩
        have HR : Hid (Calls Try.prog 41 #[.agg #[.int .i64 a, .int .i64 b, .int .i64 c, .int .i64 d, .int .i64 e0], .int .i64 s.t.k] w2.drew fun e w' => e = .returned (.bool false) ∧ PB w0 p F sb n sz bl ws fs rs G V (stN ws fs rs) (stX ws fs rs) (stP ws) BB w') := by
          refine (rfit_any (⟨a, b, c, d, e0⟩ : Tup) s.t.k w2.drew HWT.out.k.2).mono ?_
          rintro e w' ⟨he, hb⟩
          rw [Hf.out] at he
          exact ⟨he, h2.drew.below hb⟩
        obtain ⟨t5, t6, t3, t4, u0, u1, u2, u3, u4⟩ := HS16.out w2.drew (h2.drew)
        clear h2
        go_wp2
        go_region_held3 (fun W => W.cell? ⟨sb, 5, none⟩ = some (.slice (some ⟨g4, 0, none⟩) ws.length c4) ∧ W.cell? ⟨g4, i, none⟩ = some (.bool true) ∧ W.cell? ⟨sb, 3, none⟩ = some (.slice (some ⟨g2, 0, none⟩) ws.length c2) ∧ W.cell? ⟨g2, i, none⟩ = some (.int .i64 s.t.k) ∧ W.cell? ⟨ob, 4, none⟩ = some (.int .i64 a) ∧ W.cell? ⟨ob, 5, none⟩ = some (.int .i64 b) ∧ W.cell? ⟨ob, 6, none⟩ = some (.int .i64 c) ∧ W.cell? ⟨ob, 7, none⟩ = some (.int .i64 d) ∧ W.cell? ⟨ob, 8, none⟩ = some (.int .i64 e0)) (first | with_reducible exact ⟨t5, t6, t3, t4, u0, u1, u2, u3, u4⟩ | with_reducible exact q3)
          (first
            | (go_at_call 41; (with_reducible refine HR.out.mono ?_); rintro e w3 ⟨rfl, h3⟩; have q3 := HS16.out _ h3))
        have HP3 := Lib.hid h3
        clear h3 q3 HR HS16 t5 t6 t3 t4 u0 u1 u2 u3 u4
        have HE : Hid (∀ W, W = w3 → After w0 p sb n sz bl ws fs rs W) := fun W e => by
          subst e
          exact (HP3.out.play HK.out (fun _ _ => rfl) (fun _ _ => rfl) rfl).after
        clear HP3
        go_wp2
        go_ret
        exact ⟨rfl, HE.out _ rfl⟩
      | true =>
        have Hf := Lib.hid hf
        by_cases hfull : s.t.l.length = s.t.bound
        · have HF : Hid (Calls Try.prog 36 #[.pointer (some ⟨s.x, 0, none⟩), .agg #[.int .i64 a, .int .i64 b, .int .i64 c, .int .i64 d, .int .i64 e0]] W1.drew fun e w' => e = .returned (.int .i64 5) ∧ PB w0 p F sb n sz bl ws fs rs G V (stN ws fs rs) (stX ws fs rs) (stP ws) BB w') := by
            refine (many_put_full HP.out.drew.m Hs.out (⟨a, b, c, d, e0⟩ : Tup) ho hf hfull).mono ?_
            rintro e w' ⟨he, _, t2⟩
            exact ⟨he, HP.out.drew.below t2⟩
          have gl : ((s.t.l.length : Int) == (s.t.bound : Int)) = true := by simp; omega
          clear ho hf hfull
          go_wp2
          go_region_held3 (fun W => W.cell? ⟨sb, 1, none⟩ = some (.slice (some ⟨g0, 0, none⟩) ws.length c0) ∧ W.cell? ⟨g0, i, none⟩ = some (.pointer (some ⟨s.x, 0, none⟩)) ∧ W.cell? ⟨ob, 4, none⟩ = some (.int .i64 a) ∧ W.cell? ⟨ob, 5, none⟩ = some (.int .i64 b) ∧ W.cell? ⟨ob, 6, none⟩ = some (.int .i64 c) ∧ W.cell? ⟨ob, 7, none⟩ = some (.int .i64 d) ∧ W.cell? ⟨ob, 8, none⟩ = some (.int .i64 e0)) (first | with_reducible exact ⟨y0, y1, u0, u1, u2, u3, u4⟩ | with_reducible exact q2)
            (first
              | (go_at_call 36; (with_reducible refine HF.out.mono ?_); rintro e w2 ⟨rfl, h2⟩; have q2 := HS.out _ _ _ _ _ _ _ h2))
          clear q2 HF HPL HPL1 x0 x1 y0 y1 u0 u1 u2 u3 u4 f0 f1
          have HS16 : Hid (∀ W, (PB w0 p F sb n sz bl ws fs rs G V (stN ws fs rs) (stX ws fs rs) (stP ws) BB W) → W.cell? ⟨sb, 5, none⟩ = some (.slice (some ⟨g4, 0, none⟩) ws.length c4) ∧ W.cell? ⟨g4, i, none⟩ = some (.bool true) ∧ W.cell? ⟨sb, 3, none⟩ = some (.slice (some ⟨g2, 0, none⟩) ws.length c2) ∧ W.cell? ⟨g2, i, none⟩ = some (.int .i64 s.t.k) ∧ W.cell? ⟨ob, 4, none⟩ = some (.int .i64 a) ∧ W.cell? ⟨ob, 5, none⟩ = some (.int .i64 b) ∧ W.cell? ⟨ob, 6, none⟩ = some (.int .i64 c) ∧ W.cell? ⟨ob, 7, none⟩ = some (.int .i64 d) ∧ W.cell? ⟨ob, 8, none⟩ = some (.int .i64 e0)) := by
            intro W hp
            obtain ⟨_, _, z5, z6, z3, z4, _⟩ := KC.out _ _ _ _ _ _ _ _ (hp)
            obtain ⟨v0, v1, v2, v3, v4, _, _⟩ := KO.out _ _ _ _ _ _ _ _ _ _ _ (hp)
            rw [Ho.out] at z6
            exact ⟨z5, z6, z3, z4, v0, v1, v2, v3, v4⟩
          have HR : Hid (Calls Try.prog 41 #[.agg #[.int .i64 a, .int .i64 b, .int .i64 c, .int .i64 d, .int .i64 e0], .int .i64 s.t.k] w2.drew fun e w' => e = .returned (.bool true) ∧ PB w0 p F sb n sz bl ws fs rs G V (stN ws fs rs) (stX ws fs rs) (stP ws) BB w') := by
            refine (rfit_any (⟨a, b, c, d, e0⟩ : Tup) s.t.k w2.drew HWT.out.k.2).mono ?_
            rintro e w' ⟨he, hb⟩
            rw [Hf.out] at he
            exact ⟨he, h2.drew.below hb⟩
          obtain ⟨t5, t6, t3, t4, u0, u1, u2, u3, u4⟩ := HS16.out w2.drew (h2.drew)
          clear h2
          go_wp2
          go_region_held3 (fun W => W.cell? ⟨sb, 5, none⟩ = some (.slice (some ⟨g4, 0, none⟩) ws.length c4) ∧ W.cell? ⟨g4, i, none⟩ = some (.bool true) ∧ W.cell? ⟨sb, 3, none⟩ = some (.slice (some ⟨g2, 0, none⟩) ws.length c2) ∧ W.cell? ⟨g2, i, none⟩ = some (.int .i64 s.t.k) ∧ W.cell? ⟨ob, 4, none⟩ = some (.int .i64 a) ∧ W.cell? ⟨ob, 5, none⟩ = some (.int .i64 b) ∧ W.cell? ⟨ob, 6, none⟩ = some (.int .i64 c) ∧ W.cell? ⟨ob, 7, none⟩ = some (.int .i64 d) ∧ W.cell? ⟨ob, 8, none⟩ = some (.int .i64 e0)) (first | with_reducible exact ⟨t5, t6, t3, t4, u0, u1, u2, u3, u4⟩ | with_reducible exact q3)
            (first
              | (go_at_call 41; (with_reducible refine HR.out.mono ?_); rintro e w3 ⟨rfl, h3⟩; have q3 := HS16.out _ h3))
          have HP3 := Lib.hid h3
          clear h3 q3 HR HS16 t5 t6 t3 t4 u0 u1 u2 u3 u4
          have HE : Hid (∀ q, After w0 p sb n sz bl ws fs rs (w3.drewN q)) := fun q => ((HP3.out.drewN2 q).play HK.out (fun _ _ => rfl) (fun _ _ => rfl) rfl).after
          have z2 := fun q => (KC.out _ _ _ _ _ _ _ _ (HP3.out.drewN2 q)).2.2.2.2.2.2.1
          have z7 := fun q => (KC.out _ _ _ _ _ _ _ _ (HP3.out.drewN2 q)).2.2.2.2.2.2.2.1
          have z4 := fun q => (KC.out _ _ _ _ _ _ _ _ (HP3.out.drewN2 q)).2.2.2.2.2.2.2.2.1
          have z9 := fun q => (KC.out _ _ _ _ _ _ _ _ (HP3.out.drewN2 q)).2.2.2.2.2.2.2.2.2
          clear HP3
          go_wp2
          go_quiet (fail)
          go_wp2
          go_ret
          exact ⟨rfl, HE.out _⟩
        · have hless : s.t.l.length < s.t.bound := by have := HWT.out.bound; omega
          have Hless := Lib.hid hless
          have HF : Hid (Calls Try.prog 36 #[.pointer (some ⟨s.x, 0, none⟩), .agg #[.int .i64 a, .int .i64 b, .int .i64 c, .int .i64 d, .int .i64 e0]] W1.drew fun e w' => e = .returned (.int .i64 0) ∧ (∃ F' G', ∀ v, PB w0 p F' sb (n + 1) sz bl (ws.set i ⟨s.x, s.t.snoc (⟨a, b, c, d, e0⟩ : Tup), v, true⟩) fs rs G' V (stN ws fs rs) (stX ws fs rs) (stP ws) BB w')) := by
            refine (many_put HP.out.drew.m Hnn.out Hs.out ho HTO.out hf hless).mono ?_
            rintro e w' ⟨he, F', G', t1, t2⟩
            exact ⟨he, F', G', fun v => HP.out.drew.turn (t1 v) t2⟩
          have gl : ((s.t.l.length : Int) == (s.t.bound : Int)) = false := by simp; omega
          clear ho hf hfull hless
          go_wp2
          go_region_held3 (fun W => W.cell? ⟨sb, 1, none⟩ = some (.slice (some ⟨g0, 0, none⟩) ws.length c0) ∧ W.cell? ⟨g0, i, none⟩ = some (.pointer (some ⟨s.x, 0, none⟩)) ∧ W.cell? ⟨ob, 4, none⟩ = some (.int .i64 a) ∧ W.cell? ⟨ob, 5, none⟩ = some (.int .i64 b) ∧ W.cell? ⟨ob, 6, none⟩ = some (.int .i64 c) ∧ W.cell? ⟨ob, 7, none⟩ = some (.int .i64 d) ∧ W.cell? ⟨ob, 8, none⟩ = some (.int .i64 e0)) (first | with_reducible exact ⟨y0, y1, u0, u1, u2, u3, u4⟩ | with_reducible exact q2)
            (first
              | (go_at_call 36; (with_reducible refine HF.out.mono ?_); rintro e w2 ⟨rfl, F', G', h2⟩; have q2 := HS.out _ _ _ _ _ _ _ (h2 (.slice none 0 0))))
          clear q2 HF HPL HPL1 x0 x1 y0 y1 u0 u1 u2 u3 u4 f0 f1
          have HS16 : Hid (∀ W, (∀ v, PB w0 p F' sb (n + 1) sz bl (ws.set i ⟨s.x, s.t.snoc (⟨a, b, c, d, e0⟩ : Tup), v, true⟩) fs rs G' V (stN ws fs rs) (stX ws fs rs) (stP ws) BB W) → W.cell? ⟨sb, 5, none⟩ = some (.slice (some ⟨g4, 0, none⟩) ws.length c4) ∧ W.cell? ⟨g4, i, none⟩ = some (.bool true) ∧ W.cell? ⟨sb, 3, none⟩ = some (.slice (some ⟨g2, 0, none⟩) ws.length c2) ∧ W.cell? ⟨g2, i, none⟩ = some (.int .i64 s.t.k) ∧ W.cell? ⟨ob, 4, none⟩ = some (.int .i64 a) ∧ W.cell? ⟨ob, 5, none⟩ = some (.int .i64 b) ∧ W.cell? ⟨ob, 6, none⟩ = some (.int .i64 c) ∧ W.cell? ⟨ob, 7, none⟩ = some (.int .i64 d) ∧ W.cell? ⟨ob, 8, none⟩ = some (.int .i64 e0)) := by
            intro W hp
            obtain ⟨_, _, z5, z6, z3, z4, _⟩ := KC.out _ _ _ _ _ _ _ _ (hp (.slice none 0 0))
            obtain ⟨v0, v1, v2, v3, v4, _, _⟩ := KO.out _ _ _ _ _ _ _ _ _ _ _ (hp (.slice none 0 0))
            rw [Ho.out] at z6
            exact ⟨z5, z6, z3, z4, v0, v1, v2, v3, v4⟩
          have HR : Hid (Calls Try.prog 41 #[.agg #[.int .i64 a, .int .i64 b, .int .i64 c, .int .i64 d, .int .i64 e0], .int .i64 s.t.k] w2.drew fun e w' => e = .returned (.bool true) ∧ ∀ v, PB w0 p F' sb (n + 1) sz bl (ws.set i ⟨s.x, s.t.snoc (⟨a, b, c, d, e0⟩ : Tup), v, true⟩) fs rs G' V (stN ws fs rs) (stX ws fs rs) (stP ws) BB w') := by
            refine (rfit_any (⟨a, b, c, d, e0⟩ : Tup) s.t.k w2.drew HWT.out.k.2).mono ?_
            rintro e w' ⟨he, hb⟩
            rw [Hf.out] at he
            exact ⟨he, fun v => (h2 v).drew.below hb⟩
          obtain ⟨t5, t6, t3, t4, u0, u1, u2, u3, u4⟩ := HS16.out w2.drew (fun v => (h2 v).drew)
          clear h2
          go_wp2
          go_region_held3 (fun W => W.cell? ⟨sb, 5, none⟩ = some (.slice (some ⟨g4, 0, none⟩) ws.length c4) ∧ W.cell? ⟨g4, i, none⟩ = some (.bool true) ∧ W.cell? ⟨sb, 3, none⟩ = some (.slice (some ⟨g2, 0, none⟩) ws.length c2) ∧ W.cell? ⟨g2, i, none⟩ = some (.int .i64 s.t.k) ∧ W.cell? ⟨ob, 4, none⟩ = some (.int .i64 a) ∧ W.cell? ⟨ob, 5, none⟩ = some (.int .i64 b) ∧ W.cell? ⟨ob, 6, none⟩ = some (.int .i64 c) ∧ W.cell? ⟨ob, 7, none⟩ = some (.int .i64 d) ∧ W.cell? ⟨ob, 8, none⟩ = some (.int .i64 e0)) (first | with_reducible exact ⟨t5, t6, t3, t4, u0, u1, u2, u3, u4⟩ | with_reducible exact q3)
            (first
              | (go_at_call 41; (with_reducible refine HR.out.mono ?_); rintro e w3 ⟨rfl, h3⟩; have q3 := HS16.out _ h3))
          have HP3 := Lib.hid h3
          clear h3 q3 HR HS16 t5 t6 t3 t4 u0 u1 u2 u3 u4
          have z2 := fun q => (KC.out _ _ _ _ _ _ _ _ ((HP3.out (.slice none 0 0)).drewN2 q)).2.2.2.2.2.2.1
          have z7 := fun q => (KC.out _ _ _ _ _ _ _ _ ((HP3.out (.slice none 0 0)).drewN2 q)).2.2.2.2.2.2.2.1
          have z4 := fun q => (KC.out _ _ _ _ _ _ _ _ ((HP3.out (.slice none 0 0)).drewN2 q)).2.2.2.2.2.2.2.2.1
          have z9 := fun q => (KC.out _ _ _ _ _ _ _ _ ((HP3.out (.slice none 0 0)).drewN2 q)).2.2.2.2.2.2.2.2.2
          go_wp2
          go_quiet (fail)
          have HP4 : Hid (∀ v, PB w0 p F' sb (n + 1) sz bl (ws.set i ⟨s.x, s.t.snoc (⟨a, b, c, d, e0⟩ : Tup), v, true⟩) fs rs G' V (stN ws fs rs) (stX ws fs rs) (stP ws) BB (w3.drewN nq)) := fun v => (HP3.out v).drewN2 nq
          go_upto_region 20 with (fail)
          generalize w3.drewN nq = w4 at *
          clear HP3
          obtain ⟨z2, z7⟩ : w4.drew.cell? ⟨sb, 2, none⟩ = some (.slice (some ⟨g1, 0, none⟩) ws.length c1) ∧ w4.drew.cell? ⟨g1, i, none⟩ = some (.slice Av s.t.l.length cv) := by
            obtain ⟨_, _, _, _, _, _, z2, z7, _⟩ := KC.out _ _ _ _ _ _ _ _ (HP4.out (.slice none 0 0)).drew
            exact ⟨z2, z7⟩
          obtain ⟨u0, u1, u2, u3, u4, -, -⟩ := KO.out _ _ _ _ _ _ _ _ _ _ _ (HP4.out (.slice none 0 0)).drew
          obtain ⟨z8, z9⟩ : (w4.alloc (.cells #[.int .i64 a, .int .i64 b, .int .i64 c, .int .i64 d, .int .i64 e0] 58)).cell? ⟨sb, 2, none⟩ = some (.slice (some ⟨g1, 0, none⟩) ws.length c1) ∧ (w4.alloc (.cells #[.int .i64 a, .int .i64 b, .int .i64 c, .int .i64 d, .int .i64 e0] 58)).cell? ⟨g1, i, none⟩ = some (.slice Av s.t.l.length cv) := by
            obtain ⟨_, _, _, _, _, _, z2, z7, _⟩ := KC.out _ _ _ _ _ _ _ _ ((HP4.out (.slice none 0 0)).alloc (.cells #[.int .i64 a, .int .i64 b, .int .i64 c, .int .i64 d, .int .i64 e0] 58))
            exact ⟨z2, z7⟩
          clear KC KO
          have gi0 : (0 : Int) ≤ (i : Int) := by omega
          go_region_law ((refine step_pusht (wv := fun v => ws.set i ⟨s.x, s.t.snoc (⟨a, b, c, d, e0⟩ : Tup), v, true⟩) (by first | exact fun v => (HP4.out v).drew.alloc _ | exact fun v => ((HP4.out v).alloc _).drew) rfl _ _ rfl Hpi.out (by first | rfl | exact Hv.out.symm) ⟨w4.heap.size, 0, none⟩ (⟨a, b, c, d, e0⟩ : Tup) (by rfl) (by first | exact World.news_of_block (cs := #[.int .i64 a, .int .i64 b, .int .i64 c, .int .i64 d, .int .i64 e0]) (t := 58) (fr := (0, 0)) (heap_alloc_new w4.drew _) | exact World.news_of_block (cs := #[.int .i64 a, .int .i64 b, .int .i64 c, .int .i64 d, .int .i64 e0]) (t := 58) (fr := (0, 0)) (heap_alloc_new w4 _)) (by have := Hless.out; have := HWT.out.bound; show s.t.l.length ≤ _; omega) (show V 1 = .slice (some ⟨g1, 0, none⟩) ws.length c1 from HV1.out) rfl (by show ws.map _ = (ws.map _).map _; rw [List.map_map]; rfl) (by show ws.length = (ws.map _).length; rw [List.length_map]) HB.out ?_; intro g' cap m w5 z12 z10 z11 HM HP5; (try rw [show ((s.v, s.t.l) : Value × List Tup).1 = .slice Av s.t.l.length cv from Hv.out] at z10)))
          all_goals
            have HE : Hid (After w0 p sb n sz bl ws fs rs (w5.setCell ⟨g1, i, none⟩ (.slice (some ⟨g', 0, none⟩) m cap))) := by
              have hmap : ∀ {α : Type} (f : Pw → α), f ⟨s.x, s.t.snoc (⟨a, b, c, d, e0⟩ : Tup), .slice (some ⟨g', 0, none⟩) m cap, true⟩ = f s → ws.map f = (ws.set i ⟨s.x, s.t.snoc (⟨a, b, c, d, e0⟩ : Tup), .slice (some ⟨g', 0, none⟩) m cap, true⟩).map f := fun f hf => (map_set_same f Hs.out hf).symm
              refine ⟨n + 1, _, fs, rs, by omega, by simp, by omega, by omega, (HP5.out (.slice (some ⟨g', 0, none⟩) m cap)).play ?_ (all12 ?_ ?_ ?_ ?_ ?_ rfl rfl rfl rfl rfl rfl rfl) (all12 ?_ ?_ ?_ ?_ ?_ rfl rfl rfl rfl rfl rfl rfl) ?_⟩
              · intro j f hj
                obtain ⟨k', s', e1, e2, e3⟩ := HK.out j f hj
                refine ⟨k', s', ?_, e2, e3⟩
                rw [List.getElem?_set, if_neg ?_]
                · exact e1
                · intro e
                  subst e
                  rw [Hs.out] at e1
                  injection e1 with e1
                  subst e1
                  rw [Ho.out] at e2
                  cases e2
              · simp [stN]
              · simp [stN]
              · simp [stN]
              · simp [stN]
              · simp [stN]
              · exact hmap (fun s => Value.pointer (some ⟨s.x, 0, none⟩)) rfl
              · exact (List.map_set (f := fun s : Pw => s.v) (l := ws) (i := i) (a := ⟨s.x, s.t.snoc (⟨a, b, c, d, e0⟩ : Tup), .slice (some ⟨g', 0, none⟩) m cap, true⟩)).symm
              · exact hmap (fun s => Value.int .i64 s.t.k) rfl
              · exact hmap (fun s => Value.int .i64 s.t.bound) rfl
              · exact hmap (fun s => Value.bool s.o) (by rw [Ho.out])
              · exact (List.map_set (f := fun s : Pw => (s.v, s.t.l)) (l := ws) (i := i) (a := ⟨s.x, s.t.snoc (⟨a, b, c, d, e0⟩ : Tup), .slice (some ⟨g', 0, none⟩) m cap, true⟩)).symm
            clear HP5 HP4 z2 z7 z8 z9 u0 u1 u2 u3 u4
            go_wp2
            go_ret
            exact ⟨rfl, HE.out⟩
  · clear hp hkp hA0 hV0 KO
    rcases (by omega : k < 0 ∨ (0 ≤ k ∧ (ws.length : Int) ≤ k)) with h1 | ⟨h1, h2⟩
    all_goals
      clear hin
      go_wp2
      go_ret
      exact ⟨rfl, HPL1.out⟩
end
end Go.Proofs.Ytbkgpilmgllkiaa
