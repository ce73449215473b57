/- The law's own state.write: a writer is closed. -/
import Derived.Test.YtbkgpilmgllkiaaFilePlayT
namespace Go.Proofs.Ytbkgpilmgllkiaa
open Go.ChangeShapes Go.WideShapes Go.ChangeAt Go.RowKit

set_option maxRecDepth 100000 in
theorem rblk3_any (size : Nat) (width : Int) (c : Nat) (w : World) (hs : 8 ≤ size ∧ size ≤ 256) (hc : c ≤ 100000000) : Calls Try.prog 12 #[.int .i64 size, .int .i64 width, .int .i64 c] w fun e w' => e = .returned (.int .i64 (blocksR (holdsI size width) c : Nat)) ∧ w' = w := by
  have HH := Lib.hid (rhol_any size width w hs)
  have hb : holdsI size width ≤ 254 := Nat.le_trans (holds_le _ _) (by omega)
  generalize holdsI size width = h at *
  by_cases h0 : h = 0
  · subst h0
    go_enter Try.func12, Try.ntmps12
    go_wp2_with fail
    refine HH.out.mono ?_; rintro e w1 ⟨rfl, rfl⟩
    go_wp2
    go_loopw [8] (fun iv wr => iv = .int .i64 0 ∧ wr = w1) (fun iv _ => 0)
    case atStart => exact ⟨rfl, rfl⟩
    case round =>
      obtain ⟨rfl, rfl⟩ := hrel
      go_wp2
      go_ret
      exact ⟨rfl, rfl⟩
  · have he : blocksR h c = blocksN h c := by unfold blocksR; rw [if_neg h0]
    have hh : 0 < h := by omega
    have HQ : Hid (c ≤ blocksN h c * h ∧ ∀ n, c ≤ n * h → blocksN h c ≤ n) := ⟨blocks_mul hh, fun n hn => blocks_least hh hn⟩
    have hle : blocksN h c ≤ 100000000 := Nat.le_trans (blocks_le _ _) hc
    rw [he]
    generalize blocksN h c = q at *
    have g1 : decide ((h : Int) > 0) = true := by simp; omega
    clear he h0
    go_enter Try.func12, Try.ntmps12
    go_wp2_with fail
    refine HH.out.mono ?_; rintro e w1 ⟨rfl, rfl⟩
    clear HH
    go_wp2
    go_loopw [8] (fun iv wr => ∃ n : Nat, n ≤ q ∧ iv = .int .i64 (n : Int) ∧ wr = w1) (fun iv _ => q - (intOf iv).toNat)
    case atStart => exact ⟨0, Nat.zero_le _, rfl, rfl⟩
    case round =>
      obtain ⟨n, hn, rfl, rfl⟩ := hrel
      obtain ⟨mm, hmm⟩ : ∃ mm, mm = n * h := ⟨_, rfl⟩
      have hmul : (n : Int) * (h : Int) = (mm : Int) := by rw [hmm]; exact (Int.natCast_mul n h).symm
      have hmb : mm ≤ 25400000000 := by
        have := Nat.mul_le_mul (show n ≤ 100000000 by omega) hb
        omega
      by_cases hlt : n < q
      · have hgt : ¬ c ≤ mm := fun h2 => by
          have := HQ.out.2 n (by omega)
          omega
        have g3 : decide ((mm : Int) < (c : Int)) = true := by simp; omega
        clear hmm
        go_wp2
        go_roundw
        case rel => exact ⟨n + 1, by omega, by go_num, by trivial⟩
        case measure => simp [intOf]; omega
      · obtain rfl : n = q := by omega
        have hgt : c ≤ mm := by have := HQ.out.1; omega
        have g3 : decide ((mm : Int) < (c : Int)) = false := by simp; omega
        clear hmm
        go_wp2
        go_ret
        exact ⟨rfl, rfl⟩
section
variable {w0 W W' : World} {G G' : Nat → Prop} {p : Wp} {F : Fs} {sb n sz : Nat} {bl : Int} {V : Nat → Value} {N : Nat → Nat} {X : Nat → List Value} {P : List (Value × List Tup)} {B : List (Nat × TypeId × List Value)} {ws : List Pw} {fs : List Pf} {rs : List Pr}
set_option maxHeartbeats 8000000 in
set_option maxRecDepth 100000 in
/-- 3: a writer is closed -/
theorem stwrite_3 (h : Play w0 p sb n sz bl ws fs rs W) (k wd bd a b c d e0 : Int) (hk : I64 k) (hn : ws.length ≤ 1000) (hn2 : fs.length ≤ 1000) (hnn : n < 1000000) (hsz : 8 ≤ sz ∧ sz ≤ 256) :
    Calls Try.prog 23 #[.pointer (some ⟨sb, 0, none⟩), .agg #[.int .i64 3, .int .i64 k, .int .i64 wd, .int .i64 bd, .int .i64 a, .int .i64 b, .int .i64 c, .int .i64 d, .int .i64 e0], .int .i64 sz] W fun e w' => e = .returned (.bool true) ∧ After w0 p sb n sz bl ws fs rs w' := by
  obtain ⟨⟨F, G, V, m0, s0⟩, hkp⟩ := h
  have hp0 : PB w0 p F sb n sz bl ws fs rs G V (stN ws fs rs) (stX ws fs rs) (stP ws) [] W := ⟨m0, s0, fun _ h => by cases h⟩
  have hp := hp0.box [.int .i64 3, .int .i64 k, .int .i64 wd, .int .i64 bd, .int .i64 a, .int .i64 b, .int .i64 c, .int .i64 d, .int .i64 e0] 60 (by decide)
  clear m0 s0 hp0
  go_enter Try.func23, Try.ntmps23
  go_upto_region 1 with (fail)
  generalize W.alloc (.cells #[.int .i64 3, .int .i64 k, .int .i64 wd, .int .i64 bd, .int .i64 a, .int .i64 b, .int .i64 c, .int .i64 d, .int .i64 e0] 60) = W1 at *
  generalize W.heap.size = ob at *
  have hr := (hp.b (ob, 60, [.int .i64 3, .int .i64 k, .int .i64 wd, .int .i64 bd, .int .i64 a, .int .i64 b, .int .i64 c, .int .i64 d, .int .i64 e0]) (List.mem_singleton.2 rfl)).row
  have f0 : W1.cell? ⟨ob, 0, none⟩ = some (.int .i64 3) := hr.cell 0
  have f1 : W1.cell? ⟨ob, 1, none⟩ = some (.int .i64 k) := hr.cell 1
  clear hr
  replace hp := hp.unbox (B' := []) (fun x hx => by cases hx)
  obtain ⟨A0, c0, hV0, xx, -, -, hA0⟩ := hp.get (i := 0) (by omega)
  have x0 : W1.cell? ⟨sb, 1, none⟩ = some (.slice A0 ws.length c0) := xx
  clear xx
  have HPL1 : Hid (After w0 p sb n sz bl ws fs rs W1) := (hp.play hkp (fun _ _ => rfl) (fun _ _ => rfl) rfl).after
  by_cases hin : 0 ≤ k ∧ k < (ws.length : Int)
  · obtain ⟨hk0, hk1⟩ := hin
    obtain ⟨i, rfl⟩ : ∃ i : Nat, k = (i : Int) := ⟨k.toNat, by omega⟩
    have hil : i < ws.length := by omega
    obtain ⟨s, hs⟩ : ∃ s, ws[i]? = some s := ⟨ws[i], List.getElem?_eq_getElem hil⟩
    have Hs := Lib.hid hs
    obtain ⟨g0, rfl, -, -⟩ := hA0 (by show 0 < ws.length; omega)
    obtain ⟨A4, c4, hV4, -, -, -, hA4⟩ := hp.get (i := 4) (by omega)
    obtain ⟨g4, rfl, -, -⟩ := hA4 (by show 0 < ws.length; omega)
    obtain ⟨A2, c2, hV2, -, -, -, hA2⟩ := hp.get (i := 2) (by omega)
    obtain ⟨g2, rfl, -, -⟩ := hA2 (by show 0 < ws.length; omega)
    obtain ⟨A1, c1, hV1, -, -, -, hA1⟩ := hp.get (i := 1) (by omega)
    obtain ⟨g1, rfl, -, -⟩ := hA1 (by show 0 < ws.length; omega)
    have hpi : (stP ws)[i]? = some (s.v, s.t.l) := by show (ws.map _)[i]? = _; rw [List.getElem?_map, hs]; rfl
    have hfit := (hp.m.wr i s hs).fit
    obtain ⟨Av, cv, hv, -⟩ := ownT_reads (hp.s.puts i _ hpi).1 fun u hu => (hfit u hu).1
    simp only at hv
    have Hv := Lib.hid hv
    have HV4 := Lib.hid hV4
    have HWT := Lib.hid (hp.m.wr i s hs).ok
    have HHO := Lib.hid (hp.m.wr i s hs).hol
    have HSZ := Lib.hid hp.m.size
    have KC : Hid (∀ W F' n' ws' fs' rs' G' B', PB w0 p F' sb n' sz bl ws' fs' rs' G' V (stN ws fs rs) (stX ws fs rs) (stP ws) B' W → W.cell? ⟨sb, 1, none⟩ = some (.slice (some ⟨g0, 0, none⟩) ws.length c0) ∧ W.cell? ⟨g0, i, none⟩ = some (.pointer (some ⟨s.x, 0, none⟩)) ∧ W.cell? ⟨sb, 5, none⟩ = some (.slice (some ⟨g4, 0, none⟩) ws.length c4) ∧ W.cell? ⟨g4, i, none⟩ = some (.bool s.o)) := by
      intro W F' n' ws' fs' rs' G' B' hp
      have hc : ∀ {q g' n'' c' : Nat}, q < 12 → V q = .slice (some ⟨g', 0, none⟩) n'' c' → n'' = stN ws fs rs q → ∀ {j : Nat}, j < n'' * stS q → W.cell? ⟨g', j, none⟩ = (stX ws fs rs q)[j]? := by
        intro q g' n'' c' hq hVq hn'' j hj
        have ho := (hp.s.own q hq).1
        rw [hVq, ← hn''] at ho
        exact World.ownsRow.cellAt ho j hj
      refine ⟨(hp.cell (i := 0) (by omega)).trans (congrArg some hV0), (hc (q := 0) (by omega) hV0 rfl (j := i) (by show i < ws.length * 1; omega)).trans ?_, (hp.cell (i := 4) (by omega)).trans (congrArg some hV4), (hc (q := 4) (by omega) hV4 rfl (j := i) (by show i < ws.length * 1; omega)).trans ?_⟩
      · show (ws.map _)[i]? = _
        rw [List.getElem?_map, Hs.out]; rfl
      · show (ws.map _)[i]? = _
        rw [List.getElem?_map, Hs.out]; rfl
    have KD : Hid (∀ W F' n' ws' fs' rs' G' V' N' X' P' B', PB w0 p F' sb n' sz bl ws' fs' rs' G' V' N' X' P' B' W → V' 1 = V 1 → V' 2 = V 2 → N' 1 = ws.length → N' 2 = ws.length → X' 1 = stX ws fs rs 1 → X' 2 = stX ws fs rs 2 → W.cell? ⟨sb, 3, none⟩ = some (.slice (some ⟨g2, 0, none⟩) ws.length c2) ∧ W.cell? ⟨g2, i, none⟩ = some (.int .i64 s.t.k) ∧ W.cell? ⟨sb, 2, none⟩ = some (.slice (some ⟨g1, 0, none⟩) ws.length c1) ∧ W.cell? ⟨g1, i, none⟩ = some (.slice Av s.t.l.length cv)) := by
      intro W F' n' ws' fs' rs' G' V' N' X' P' B' hp e1 e2 e3 e4 e5 e6
      have ho1 := (hp.s.own 1 (by omega)).1
      have ho2 := (hp.s.own 2 (by omega)).1
      rw [e1, hV1, e3, e5] at ho1
      rw [e2, hV2, e4, e6] at ho2
      refine ⟨(hp.cell (i := 2) (by omega)).trans (congrArg some (e2.trans hV2)), (World.ownsRow.cellAt ho2 i (by show i < ws.length * 1; omega)).trans ?_, (hp.cell (i := 1) (by omega)).trans (congrArg some (e1.trans hV1)), (World.ownsRow.cellAt ho1 i (by show i < ws.length * 1; omega)).trans ?_⟩
      · show (ws.map _)[i]? = _
        rw [List.getElem?_map, Hs.out]; rfl
      · show (ws.map _)[i]? = _
        rw [List.getElem?_map, Hs.out, ← Hv.out]; rfl
    have HP := Lib.hid hp
    have HK := Lib.hid hkp
    have Hnn := Lib.hid hnn
    have Hn := Lib.hid hn
    have Hn2 := Lib.hid hn2
    have Hsz := Lib.hid hsz
    obtain ⟨-, x1, -⟩ := KC.out _ _ _ _ _ _ _ _ hp
    clear hA0 hA1 hA2 hA4 hV0 hV1 hV2 hV4 hpi hfit hv hp hkp hs hnn hn hn2 hsz
    cases ho : s.o with
    | false =>
      have HN := Lib.hid (many_close_no HP.out.m Hs.out ho)
      unfold fileV at HN
      have Ho := Lib.hid ho
      clear ho
      go_wp2_with fail
      refine HN.out.mono ?_; rintro e w2 ⟨rfl, hm, hb⟩
      have HP2 := Lib.hid ((HP.out.below hb).box [.int .i64 0, .int .i64 0, .int .i64 0, .int .i64 0] 30 (by decide))
      clear hm hb HN x0 x1 f0 f1 HPL1
      obtain ⟨-, -, y5, y6⟩ := KC.out _ _ _ _ _ _ _ _ HP2.out
      rw [Ho.out] at y6
      have HE : Hid (After w0 p sb n sz bl ws fs rs (w2.alloc (.cells #[.int .i64 0, .int .i64 0, .int .i64 0, .int .i64 0] 30))) := (HP2.out.play HK.out (fun _ _ => rfl) (fun _ _ => rfl) rfl).after
      clear HP2
      go_wp2
      go_ret
      exact ⟨rfl, HE.out⟩
    | true =>
      have Ho := Lib.hid ho
      have HN := Lib.hid (many_close HP.out.m Hnn.out Hs.out ho)
      unfold fileV at HN
      have hnb : blocksR (holdsI sz s.t.k) s.t.l.length = blocksN s.t.h s.t.l.length := by
        unfold blocksR
        rw [← HSZ.out, ← HHO.out, if_neg (by have := HWT.out.h.1; omega)]
      have hB : Hid (∀ W, Calls Try.prog 12 #[.int .i64 sz, .int .i64 s.t.k, .int .i64 s.t.l.length] W fun e w' => e = .returned (.int .i64 (blocksN s.t.h s.t.l.length : Nat)) ∧ w' = W) := fun W => by
        have := rblk3_any sz s.t.k s.t.l.length W Hsz.out (by have := HWT.out.bound; omega)
        rw [hnb] at this
        exact this
      clear hnb
      generalize firstOf s.t = ff at *
      generalize blocksN s.t.h s.t.l.length = nb at *
      clear ho
      go_wp2_with fail
      refine HN.out.mono ?_; rintro e w2 ⟨rfl, F', G', hm, htn⟩
      have hp2 := HP.out.turn hm htn
      have HP2 := Lib.hid (hp2.box [.int .i64 ff, .int .i64 nb, .int .i64 s.t.k, .int .i64 s.t.l.length] 30 (by decide))
      clear hp2 hm htn HN x0 x1 f0 f1 HPL1
      go_upto_region 26 with (fail)
      generalize w2.alloc (.cells #[.int .i64 ff, .int .i64 nb, .int .i64 s.t.k, .int .i64 s.t.l.length] 30) = w3 at *
      generalize w2.heap.size = fb at *
      obtain ⟨-, -, y5, y6⟩ := KC.out _ _ _ _ _ _ _ _ HP2.out
      have y7 : w3.frozen? ⟨g4, i, none⟩ = false := by
        have hoo := (HP2.out.s.own 4 (by omega)).1
        rw [HV4.out] at hoo
        exact World.ownsRow.frozenAt hoo i
      rw [Ho.out] at y6
      have HP3 := Lib.hid (HP2.out.store (i := 4) (j := i) (by omega) HV4.out rfl (.bool false))
      clear HP2 KC
      go_upto_region 29 with (fail)
      generalize w3.setCell ⟨g4, i, none⟩ (.bool false) = w4 at *
      clear y5 y6 y7
      have KB : Hid (∀ W F' n' ws' fs' rs' G' V' N' X' P', PB w0 p F' sb n' sz bl ws' fs' rs' G' V' N' X' P' [(fb, 30, [.int .i64 ff, .int .i64 nb, .int .i64 s.t.k, .int .i64 s.t.l.length])] W → W.cell? ⟨fb, 0, none⟩ = some (.int .i64 ff) ∧ W.cell? ⟨fb, 1, none⟩ = some (.int .i64 nb) ∧ W.cell? ⟨fb, 2, none⟩ = some (.int .i64 s.t.k) ∧ W.cell? ⟨fb, 3, none⟩ = some (.int .i64 s.t.l.length)) := by
        intro W F' n' ws' fs' rs' G' V' N' X' P' hp
        have hr := (hp.b (fb, 30, [.int .i64 ff, .int .i64 nb, .int .i64 s.t.k, .int .i64 s.t.l.length]) (List.mem_singleton.2 rfl)).row
        exact ⟨hr.cell 0, hr.cell 1, hr.cell 2, hr.cell 3⟩
      obtain ⟨u0, u1, u2, u3⟩ := KB.out _ _ _ _ _ _ _ _ _ _ _ HP3.out.drew
      have z4 : w4.drew.cell? ⟨sb, 6, none⟩ = some (V 5) := HP3.out.drew.cell (i := 5) (by omega)
      have z5 : (w4.alloc (.cells #[.int .i64 ff, .int .i64 nb, .int .i64 s.t.k, .int .i64 s.t.l.length] 30)).cell? ⟨sb, 6, none⟩ = some (V 5) := (HP3.out.alloc _).cell (i := 5) (by omega)
      go_region_law ((refine step_push (by first | exact HP3.out.drew.alloc _ | exact (HP3.out.alloc _).drew) rfl _ _ (i := 5) (by omega) 6 rfl rfl (by rfl) ⟨w4.heap.size, 0, none⟩ [.int .i64 ff, .int .i64 nb, .int .i64 s.t.k, .int .i64 s.t.l.length] (by rfl) rfl (by first | exact World.news_of_block (cs := #[.int .i64 ff, .int .i64 nb, .int .i64 s.t.k, .int .i64 s.t.l.length]) (t := 30) (fr := (0, 0)) (heap_alloc_new w4.drew _) | exact World.news_of_block (cs := #[.int .i64 ff, .int .i64 nb, .int .i64 s.t.k, .int .i64 s.t.l.length]) (t := 30) (fr := (0, 0)) (heap_alloc_new w4 _)) (by simp [Value.oneCell']) (by show fs.length ≤ _; have := Hn2.out; omega) ?_; intro g5 c5 n5 w5 HN5 z6 z7 HP4))
      all_goals
        clear z4 z5 u0 u1 u2 u3 HP3
        go_upto_region 30 with (fail)
        generalize w5.setCell ⟨sb, 6, none⟩ (.slice (some ⟨g5, 0, none⟩) n5 c5) = w6 at *
        clear z6 z7
        obtain ⟨-, -, v2, v3⟩ := KD.out _ _ _ _ _ _ _ _ _ _ _ _ HP4.out.drew rfl rfl rfl rfl rfl rfl
        have z4 : w6.drew.cell? ⟨sb, 7, none⟩ = some (V 6) := HP4.out.drew.cell (i := 6) (by omega)
        have z5 : (w6.alloc (.cells #[.slice Av s.t.l.length cv] 24)).cell? ⟨sb, 7, none⟩ = some (V 6) := (HP4.out.alloc _).cell (i := 6) (by omega)
        go_region_law ((refine step_push (by first | exact HP4.out.drew.alloc _ | exact (HP4.out.alloc _).drew) rfl _ _ (i := 6) (by omega) 7 rfl rfl (by rfl) ⟨w6.heap.size, 0, none⟩ [.slice Av s.t.l.length cv] (by rfl) rfl (by first | exact laid1 (heap_alloc_new w6.drew _) | exact laid1 (heap_alloc_new w6 _)) (by simp [Value.oneCell']) (by show fs.length ≤ _; have := Hn2.out; omega) ?_; intro g6 c6 n6 w7 HN6 z6 z7 HP5))
        all_goals
          clear z4 z5 v2 v3 HP4
          have z4 : (w7.setCell ⟨sb, 7, none⟩ (.slice (some ⟨g6, 0, none⟩) n6 c6)).cell? ⟨sb, 8, none⟩ = some (V 7) := HP5.out.cell (i := 7) (by omega)
          have HZ7 : Hid ((w7.setCell ⟨sb, 7, none⟩ (.slice (some ⟨g6, 0, none⟩) n6 c6)).heap.size = w7.heap.size) := by unfold Hid; simp
          go_wp2_with (with_reducible refine stopAt 271 ?_)
          unfold Hid
          generalize w7.setCell ⟨sb, 7, none⟩ (.slice (some ⟨g6, 0, none⟩) n6 c6) = w8 at *
          clear z4 z6 z7
          refine wpList_push (HP5.out.alloc _) rfl _ _ (i := 7) (by omega) 8 rfl rfl (by rfl) ⟨w7.heap.size, 0, none⟩ [.bool false] (by rfl) rfl (laid1 (by rw [← HZ7.out]; exact heap_alloc_new _ _)) (by simp [Value.oneCell']) (by show fs.length ≤ _; have := Hn2.out; omega) ?_
          intro g7 c7 n7 w9 HN7 z6 z7 HP6
          clear HP5
          go_upto_region 32 with (fail)
          generalize w9.setCell ⟨sb, 8, none⟩ (.slice (some ⟨g7, 0, none⟩) n7 c7) = w10 at *
          clear z6 z7
          have HE : Hid (∀ q, After w0 p sb n sz bl ws fs rs (w10.drewN q)) := fun q => by
            have hmap : ∀ {α : Type} (f : Pw → α), f { s with o := false } = f s → ws.map f = (ws.set i { s with o := false }).map f := fun f hf => (map_set_same f Hs.out hf).symm
            refine ⟨n + 1, _, _, rs, by omega, by simp, by simp, by omega, (HP6.out.drewN2 q).play ?_ (all12 ?_ ?_ ?_ ?_ ?_ ?_ ?_ ?_ rfl rfl rfl rfl) (all12 ?_ ?_ ?_ ?_ ?_ ?_ ?_ ?_ rfl rfl rfl rfl) (stP_drop Hs.out).symm⟩
            · intro j f hj
              rcases snoc_at hj with ⟨rfl, rfl⟩ | ⟨_, hj⟩
              · exact ⟨i, _, set_on Hs.out, rfl, rfl, rfl⟩
              · obtain ⟨k', s', e1, e2, e3, e4⟩ := HK.out j f hj
                by_cases e : k' = i
                · subst e
                  rw [Hs.out] at e1; injection e1 with e1; subst e1
                  exact ⟨k', _, set_on Hs.out, rfl, e3, e4⟩
                · exact ⟨k', s', by rw [List.getElem?_set, if_neg fun h => e h.symm]; exact e1, e2, e3, e4⟩
            · simp [stN, updS]
            · simp [stN, updS]
            · simp [stN, updS]
            · simp [stN, updS]
            · simp [stN, updS]
            · show n5 = (fs ++ [_]).length
              rw [HN5.out]; simp [stN]
            · show n6 = (fs ++ [_]).length
              rw [HN6.out]; simp [stN, updS]
            · show n7 = (fs ++ [_]).length
              rw [HN7.out]; simp [stN, updS]
            · exact hmap (fun s => Value.pointer (some ⟨s.x, 0, none⟩)) rfl
            · exact hmap (fun s => s.v) rfl
            · exact hmap (fun s => Value.int .i64 s.t.k) rfl
            · exact hmap (fun s => Value.int .i64 s.t.bound) rfl
            · exact (List.map_set (f := fun s : Pw => Value.bool s.o) (l := ws) (i := i) (a := { s with o := false })).symm
            · simp [updS, stX, fiC]
            · simp [updS, stX, Hv.out]
            · simp [updS, stX]
          have q0 := fun q => (KB.out _ _ _ _ _ _ _ _ _ _ _ (HP6.out.drewN2 q)).1
          have q1 := fun q => (KB.out _ _ _ _ _ _ _ _ _ _ _ (HP6.out.drewN2 q)).2.1
          have q2 := fun q => (KB.out _ _ _ _ _ _ _ _ _ _ _ (HP6.out.drewN2 q)).2.2.1
          have q3 := fun q => (KB.out _ _ _ _ _ _ _ _ _ _ _ (HP6.out.drewN2 q)).2.2.2
          have r0 := fun q => (KD.out _ _ _ _ _ _ _ _ _ _ _ _ (HP6.out.drewN2 q) rfl rfl rfl rfl rfl rfl).1
          have r1 := fun q => (KD.out _ _ _ _ _ _ _ _ _ _ _ _ (HP6.out.drewN2 q) rfl rfl rfl rfl rfl rfl).2.1
          have r2 := fun q => (KD.out _ _ _ _ _ _ _ _ _ _ _ _ (HP6.out.drewN2 q) rfl rfl rfl rfl rfl rfl).2.2.1
          have r3 := fun q => (KD.out _ _ _ _ _ _ _ _ _ _ _ _ (HP6.out.drewN2 q) rfl rfl rfl rfl rfl rfl).2.2.2
          have HQ := Lib.hid (fun q => Calls.quiet_of_same (hB.out (w10.drewN q)))
          clear HP6 KB KD hB HN5 HN6 HN7
          go_quiet ((with_reducible exact HQ.out _))
          go_wp2
          go_ret
          exact ⟨rfl, HE.out _⟩
  · clear hp hkp hA0 hV0
    rcases (by omega : k < 0 ∨ (0 ≤ k ∧ (ws.length : Int) ≤ k)) with h1 | ⟨h1, h2⟩
    all_goals
      clear hin
      go_wp2
      go_ret
      exact ⟨rfl, HPL1.out⟩
end
end Go.Proofs.Ytbkgpilmgllkiaa
