/- The law's own state.write: a writer. -/
import Derived.Test.YtbkgpilmgllkiaaFilePlayT
namespace Go.Proofs.Ytbkgpilmgllkiaa
open Go.ChangeShapes Go.WideShapes Go.ChangeAt Go.RowKit

section
variable {w0 W W' : World} {G G' : Nat → Prop} {p : Wp} {sb n sz : Nat} {bl : Int} {V : Nat → Value} {N : Nat → Nat} {X : Nat → List Value} {P : List (Value × List Tup)} {ws : List Pw} {fs : List Pf} {rs : List Pr}
theorem kept_snoc {s : Pw} (h : Kept2 ws fs) : Kept2 (ws ++ [s]) fs := fun j f hj => by
  obtain ⟨k, s', e1, e2⟩ := h j f hj
  exact ⟨k, s', by rw [List.getElem?_append_left (List.getElem?_eq_some_iff.1 e1).1]; exact e1, e2⟩
/-- why a writer may be refused, as the law asks it -/
def WNo (sz : Nat) (wd bd er : Int) : Prop := (er = 1 ∧ (holdsI sz wd = 0 ∨ bd < 0 ∨ bd > 100000000)) ∨ er = 7 ∨ er = 5
theorem wno_of {F : Fs} {wd bd er : Int} (h : WErr F wd bd er) (hs : F.D.size = sz) : WNo sz wd bd er := by
  rcases h with ⟨h1, h2⟩ | ⟨h1, _⟩ | ⟨h1, _⟩
  · refine .inl ⟨h1, ?_⟩
    unfold WArgs at h2
    rw [hs] at h2
    by_cases e : holdsI sz wd = 0
    · exact .inl e
    · by_cases e2 : bd < 0
      · exact .inr (.inl e2)
      · by_cases e3 : bd > 100000000
        · exact .inr (.inr e3)
        · exact absurd ⟨e, by omega, by omega⟩ h2
  · exact .inr (.inl h1)
  · exact .inr (.inr h1)
theorem PB.newp {F : Fs} {B : List (Nat × TypeId × List Value)} (h : PB w0 p F sb n sz bl ws fs rs G V N X P B W) : PB w0 p F sb n sz bl ws fs rs G V N X (P ++ [(.slice none 0 0, [])]) B W := ⟨h.m, h.s.newp, h.b⟩
set_option maxHeartbeats 4000000 in
set_option maxRecDepth 100000 in
/-- 1: a writer -/
theorem stwrite_1 (h : Play w0 p sb n sz bl ws fs rs W) (k wd bd a b c d e0 : Int) (hn : ws.length ≤ 1000) (hsz : 8 ≤ sz ∧ sz ≤ 256) :
    Calls Try.prog 23 #[.pointer (some ⟨sb, 0, none⟩), .agg #[.int .i64 1, .int .i64 k, .int .i64 wd, .int .i64 bd, .int .i64 a, .int .i64 b, .int .i64 c, .int .i64 d, .int .i64 e0], .int .i64 sz] W fun e w' => e = .returned (.bool true) ∧ After w0 p sb n sz bl ws fs rs w' := by
  obtain ⟨⟨F, G, V, m0, s0⟩, hkp⟩ := h
  have hp0 : PB w0 p F sb n sz bl ws fs rs G V (stN ws fs rs) (stX ws fs rs) (stP ws) [] W := ⟨m0, s0, fun _ h => by cases h⟩
  have hp := hp0.box [.int .i64 1, .int .i64 k, .int .i64 wd, .int .i64 bd, .int .i64 a, .int .i64 b, .int .i64 c, .int .i64 d, .int .i64 e0] 60 (by decide)
  clear m0 s0 hp0
  go_enter Try.func23, Try.ntmps23
  go_upto_region 1 with (fail)
  generalize W.alloc (.cells #[.int .i64 1, .int .i64 k, .int .i64 wd, .int .i64 bd, .int .i64 a, .int .i64 b, .int .i64 c, .int .i64 d, .int .i64 e0] 60) = W1 at *
  generalize W.heap.size = ob at *
  obtain ⟨BB, hBB⟩ : ∃ BB : List (Nat × TypeId × List Value), BB = [(ob, 60, [.int .i64 1, .int .i64 k, .int .i64 wd, .int .i64 bd, .int .i64 a, .int .i64 b, .int .i64 c, .int .i64 d, .int .i64 e0])] := ⟨_, rfl⟩
  rw [← hBB] at hp
  have KF : Hid (∀ W F' n' ws' fs' rs' G' V' N' X' P', PB w0 p F' sb n' sz bl ws' fs' rs' G' V' N' X' P' BB W → W.cell? ⟨sb, 0, none⟩ = some (.pointer (some ⟨p.w, 0, none⟩)) ∧ W.cell? ⟨ob, 2, none⟩ = some (.int .i64 wd) ∧ W.cell? ⟨ob, 3, none⟩ = some (.int .i64 bd) ∧ W.cell? ⟨ob, 0, none⟩ = some (.int .i64 1) ∧ W.cell? ⟨ob, 1, none⟩ = some (.int .i64 k)) := by
    intro W F' n' ws' fs' rs' G' V' N' X' P' hp
    have hr := (hp.b (ob, 60, [.int .i64 1, .int .i64 k, .int .i64 wd, .int .i64 bd, .int .i64 a, .int .i64 b, .int .i64 c, .int .i64 d, .int .i64 e0]) (by rw [hBB]; exact List.mem_singleton.2 rfl)).row
    exact ⟨hp.s.row.cell 0, hr.cell 2, hr.cell 3, hr.cell 0, hr.cell 1⟩
  clear hBB
  obtain ⟨-, -, -, f0, f1⟩ := KF.out _ _ _ _ _ _ _ _ _ _ _ hp
  obtain ⟨b0, b2, b3, -, -⟩ := KF.out _ _ _ _ _ _ _ _ _ _ _ hp.drew
  have HF : Hid (Calls Try.prog 34 #[.pointer (some ⟨p.w, 0, none⟩), .int .i64 wd, .int .i64 bd] W1.drew fun e w' => ∃ A er, e = .returned (.tuple #[.pointer A, .int .i64 er]) ∧ Hid ((WNo sz wd bd er ∧ ∃ G', PB w0 p F sb n sz bl ws fs rs G' V (stN ws fs rs) (stX ws fs rs) (stP ws) BB w') ∨ ∃ x t F' G', A = some ⟨x, 0, none⟩ ∧ er = 0 ∧ (t.k : Int) = wd ∧ (t.bound : Int) = bd ∧ t.l = [] ∧ PB w0 p F' sb n sz bl (ws ++ [⟨x, t, .slice none 0 0, true⟩]) fs rs G' V (stN ws fs rs) (stX ws fs rs) (stP ws) BB w') ∧
      w'.cell? ⟨sb, 0, none⟩ = some (.pointer (some ⟨p.w, 0, none⟩)) ∧ w'.cell? ⟨ob, 2, none⟩ = some (.int .i64 wd) ∧ w'.cell? ⟨ob, 3, none⟩ = some (.int .i64 bd)) := by
    refine (many_write hp.drew.m wd bd).mono ?_
    rintro e w' (⟨er, he, hwe, G', t1, t2⟩ | ⟨x, t, F', G', he, hk, hb, hl, t1, t2⟩)
    · have hp3 := hp.drew.turn t1 t2
      obtain ⟨q0, q2, q3, -, -⟩ := KF.out _ _ _ _ _ _ _ _ _ _ _ hp3
      exact ⟨_, _, he, .inl ⟨wno_of hwe hp.m.size, G', hp3⟩, q0, q2, q3⟩
    · have hp3 := hp.drew.turn (t1 (.slice none 0 0)) t2
      obtain ⟨q0, q2, q3, -, -⟩ := KF.out _ _ _ _ _ _ _ _ _ _ _ hp3
      exact ⟨_, _, he, .inr ⟨x, t, F', G', rfl, rfl, hk, hb, hl, hp3⟩, q0, q2, q3⟩
  have HK := Lib.hid hkp
  have Hn := Lib.hid hn
  have Hsz := Lib.hid hsz
  clear hp hkp hn hsz
  go_wp2
  go_region_held3 (fun w' => w'.cell? ⟨sb, 0, none⟩ = some (.pointer (some ⟨p.w, 0, none⟩)) ∧ w'.cell? ⟨ob, 2, none⟩ = some (.int .i64 wd) ∧ w'.cell? ⟨ob, 3, none⟩ = some (.int .i64 bd)) (first | with_reducible exact ⟨b0, b2, b3⟩ | with_reducible exact q2)
    (first
      | (go_at_call 34; (with_reducible refine HF.out.mono ?_); rintro e w2 ⟨A, er, rfl, h2, q2⟩))
  clear HF q2 b0 b2 b3 f0 f1
  rcases h2.out with ⟨hno, G2, hp3⟩ | ⟨x, t, F', G', rfl, rfl, htk, htb, htl, hp3⟩
  · obtain ⟨-, b2, b3, -, -⟩ := KF.out _ _ _ _ _ _ _ _ _ _ _ hp3
    have HE : Hid (∀ W, W = w2 → After w0 p sb n sz bl ws fs rs W) := fun W e => by
      subst e
      exact (hp3.play HK.out (fun _ _ => rfl) (fun _ _ => rfl) rfl).after
    clear h2 hp3 KF
    rcases hno with ⟨rfl, hwhy⟩ | rfl | rfl
    · have HH := Lib.hid (rhol_any sz wd w2 Hsz.out)
      generalize holdsI sz wd = hh at *
      have Hw := Lib.hid hwhy
      clear hwhy
      go_wp2_with fail
      refine HH.out.mono ?_; rintro e w3 ⟨rfl, rfl⟩
      clear HH
      by_cases h0 : hh = 0
      · subst h0
        clear Hw
        go_wp2
        go_ret
        exact ⟨rfl, HE.out _ rfl⟩
      · have g0 : decide ((hh : Int) = 0) = false := by simp; omega
        rcases Hw.out with hw | hw | hw
        · exact absurd hw h0
        · have g1 : decide (bd < 0) = true := by simpa using hw
          clear hw h0 Hw
          go_wp2
          all_goals
            go_ret
            exact ⟨rfl, HE.out _ rfl⟩
        · have g1 : decide (bd < 0) = false := by simp; omega
          have g2 : decide ((100000000 : Int) < bd) = true := by simpa using hw
          clear hw h0 Hw
          go_wp2
          all_goals
            go_ret
            exact ⟨rfl, HE.out _ rfl⟩
    · go_wp2
      go_ret
      exact ⟨rfl, HE.out _ rfl⟩
    · go_wp2
      go_ret
      exact ⟨rfl, HE.out _ rfl⟩
  · have HP := Lib.hid hp3
    have HT := Lib.hid (And.intro htk (And.intro htb htl))
    have z1 : w2.cell? ⟨sb, 1, none⟩ = some (V 0) := hp3.cell (i := 0) (by omega)
    clear h2 hp3 htk htb htl
    go_wp2_with (with_reducible refine stopAt 40 ?_)
    unfold Hid
    refine wpList_push (HP.out.alloc _) rfl _ _ (i := 0) (by omega) 1 rfl rfl (by rfl) ⟨w2.heap.size, 0, none⟩ [.pointer (some ⟨x, 0, none⟩)] (by rfl) rfl (laid1 (heap_alloc_new _ _)) (by simp [Value.oneCell']) (by show ws.length ≤ _; have := Hn.out; omega) ?_
    intro g1 c1 n1 w3 HN1 z2 z3 HP3
    have z4 : (w3.setCell ⟨sb, 1, none⟩ (.slice (some ⟨g1, 0, none⟩) n1 c1)).cell? ⟨sb, 2, none⟩ = some (V 1) := HP3.out.cell (i := 1) (by omega)
    clear HP z1
    go_wp2_with (with_reducible refine stopAt 49 ?_)
    unfold Hid
    have HZ3 : Hid ((w3.setCell ⟨sb, 1, none⟩ (.slice (some ⟨g1, 0, none⟩) n1 c1)).heap.size = w3.heap.size) := by unfold Hid; simp
    generalize w3.setCell ⟨sb, 1, none⟩ (.slice (some ⟨g1, 0, none⟩) n1 c1) = w4 at *
    clear z2 z3 z4
    refine wpList_push (HP3.out.alloc _) rfl _ _ (i := 1) (by omega) 2 rfl rfl (by rfl) ⟨w3.heap.size, 0, none⟩ [.slice none 0 0] (by rfl) rfl (laid1 (by rw [← HZ3.out]; exact heap_alloc_new _ _)) (by simp [Value.oneCell']) (by show ws.length ≤ _; have := Hn.out; omega) ?_
    intro g2 c2 n2 w5 HN2 z2 z3 HP4
    clear HP3
    go_upto_region 8 with (fail)
    generalize w5.setCell ⟨sb, 2, none⟩ (.slice (some ⟨g2, 0, none⟩) n2 c2) = w6 at *
    clear z2 z3
    have z4 : w6.drew.cell? ⟨sb, 3, none⟩ = some (V 2) := HP4.out.drew.cell (i := 2) (by omega)
    have z5 : (w6.alloc (.cells #[.int .i64 wd] 3)).cell? ⟨sb, 3, none⟩ = some (V 2) := (HP4.out.alloc _).cell (i := 2) (by omega)
    obtain ⟨-, b2, -, -, -⟩ := KF.out _ _ _ _ _ _ _ _ _ _ _ HP4.out.drew
    go_region_law ((refine step_push (by first | exact HP4.out.drew.alloc _ | exact (HP4.out.alloc _).drew) rfl _ _ (i := 2) (by omega) 3 rfl rfl (by rfl) ⟨w6.heap.size, 0, none⟩ [.int .i64 wd] (by rfl) rfl (by first | exact laid1 (heap_alloc_new w6.drew _) | exact laid1 (heap_alloc_new w6 _)) (by simp [Value.oneCell']) (by show ws.length ≤ _; have := Hn.out; omega) ?_; intro g3 c3 n3 w7 HN3 z6 z7 HP5))
    all_goals
      clear z4 z5 b2
      go_upto_region 9 with (fail)
      generalize w7.setCell ⟨sb, 3, none⟩ (.slice (some ⟨g3, 0, none⟩) n3 c3) = w8 at *
      clear z6 z7
      have z4 : w8.drew.cell? ⟨sb, 4, none⟩ = some (V 3) := HP5.out.drew.cell (i := 3) (by omega)
      have z5 : (w8.alloc (.cells #[.int .i64 bd] 3)).cell? ⟨sb, 4, none⟩ = some (V 3) := (HP5.out.alloc _).cell (i := 3) (by omega)
      obtain ⟨-, -, b3, -, -⟩ := KF.out _ _ _ _ _ _ _ _ _ _ _ HP5.out.drew
      go_region_law ((refine step_push (by first | exact HP5.out.drew.alloc _ | exact (HP5.out.alloc _).drew) rfl _ _ (i := 3) (by omega) 4 rfl rfl (by rfl) ⟨w8.heap.size, 0, none⟩ [.int .i64 bd] (by rfl) rfl (by first | exact laid1 (heap_alloc_new w8.drew _) | exact laid1 (heap_alloc_new w8 _)) (by simp [Value.oneCell']) (by show ws.length ≤ _; have := Hn.out; omega) ?_; intro g4 c4 n4 w9 HN4 z6 z7 HP6))
      all_goals
        clear z4 z5 b3
        have z4 : (w9.setCell ⟨sb, 4, none⟩ (.slice (some ⟨g4, 0, none⟩) n4 c4)).cell? ⟨sb, 5, none⟩ = some (V 4) := HP6.out.cell (i := 4) (by omega)
        have HZ9 : Hid ((w9.setCell ⟨sb, 4, none⟩ (.slice (some ⟨g4, 0, none⟩) n4 c4)).heap.size = w9.heap.size) := by unfold Hid; simp
        go_wp2_with (with_reducible refine stopAt 80 ?_)
        unfold Hid
        generalize w9.setCell ⟨sb, 4, none⟩ (.slice (some ⟨g4, 0, none⟩) n4 c4) = w10 at *
        clear z4 z6 z7
        refine wpList_push (HP6.out.alloc _) rfl _ _ (i := 4) (by omega) 5 rfl rfl (by rfl) ⟨w9.heap.size, 0, none⟩ [.bool true] (by rfl) rfl (laid1 (by rw [← HZ9.out]; exact heap_alloc_new _ _)) (by simp [Value.oneCell']) (by show ws.length ≤ _; have := Hn.out; omega) ?_
        intro g5 c5 n5 w11 HN5 z6 z7 HP7
        have HE : Hid (After w0 p sb n sz bl ws fs rs (w11.setCell ⟨sb, 5, none⟩ (.slice (some ⟨g5, 0, none⟩) n5 c5))) := by
          obtain ⟨htk, htb, htl⟩ := HT.out
          refine ⟨n, _, fs, rs, by omega, by simp, by omega, by omega, HP7.out.newp.play (kept_snoc HK.out) (all12 ?_ ?_ ?_ ?_ ?_ rfl rfl rfl rfl rfl rfl rfl) (all12 ?_ ?_ ?_ ?_ ?_ rfl rfl rfl rfl rfl rfl rfl) ?_⟩
          · show n1 = (ws ++ [_]).length
            rw [HN1.out]; simp [stN]
          · show n2 = (ws ++ [_]).length
            rw [HN2.out]; simp [stN, updS]
          · show n3 = (ws ++ [_]).length
            rw [HN3.out]; simp [stN, updS]
          · show n4 = (ws ++ [_]).length
            rw [HN4.out]; simp [stN, updS]
          · show n5 = (ws ++ [_]).length
            rw [HN5.out]; simp [stN, updS]
          · simp [updS, stX]
          · simp [updS, stX]
          · simp [updS, stX, htk]
          · simp [updS, stX, htb]
          · simp [updS, stX]
          · simp [stP, htl]
        clear HP7 HP6 HP5 HP4 HN1 HN2 HN3 HN4 HN5
        go_wp2
        go_ret
        exact ⟨rfl, HE.out⟩
end
end Go.Proofs.Ytbkgpilmgllkiaa
