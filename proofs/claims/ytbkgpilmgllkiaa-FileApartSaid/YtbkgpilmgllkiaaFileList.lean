/- What List answers of a file that stands. -/
import Derived.Test.YtbkgpilmgllkiaaFileLis
namespace Go.Proofs.Ytbkgpilmgllkiaa
open Go.ChangeShapes Go.WideShapes Go.ChangeAt Go.RowKit

def sliceLen : Value → Nat
  | .slice _ n _ => n
  | _ => 0
theorem ownT_len {w : World} {base n : Nat} {v : Value} {l : List Tup} (h : w.ownsRow base 58 5 v n (flatV l)) : sliceLen v = n := by
  obtain ⟨_, h2⟩ := h
  rcases h2 with ⟨rfl, rfl⟩ | ⟨g, cap, cur, rfl, _⟩ <;> rfl
theorem addr_add0 (b j : Nat) : (⟨b, 0, none⟩ : Addr).add j = ⟨b, j, none⟩ := by unfold Addr.add; split <;> simp_all
/-- List's answer -/
def ListTo (w : World) (G : Nat → Prop) (p : Wp) (F : Fs) (n first nb : Nat) (l : List Tup) (e : Ending) (w' : World) : Prop :=
  (∃ A c b D', e = .returned (.tuple #[.slice A l.length c, .int .i64 0]) ∧ ReadsT w' w'.heap.size A l.length l ∧ (0 < l.length → ∀ b off, A = some ⟨b, off, none⟩ → w.heap.size ≤ b) ∧ Wrote F.D D' nb ∧ (∀ i, D'.now i = F.D.now i) ∧ (∀ q ∈ F.A.st, q.1 ≠ b) ∧ SysTo w G p (LayE F F.S b D') (n + l.length + 1) w') ∨
  (∃ (er : Int) (b m : Nat) (D1 : St) (i : Int), e = .returned (.tuple #[.slice none 0 0, .int .i64 er]) ∧ er ≠ 0 ∧ Wrote F.D D1 m ∧ er = (read D1 i).1 ∧ (((first + nb : Nat) : Int) ≤ F.D.blocks → right D1 i = true) ∧ (∀ q ∈ F.A.st, q.1 ≠ b) ∧ (∀ j, (read D1 i).2.now j = F.D.now j) ∧ SysTo w G p (LayE F F.S b (read D1 i).2) (n + l.length + 1) w')

set_option maxHeartbeats 4000000 in
set_option maxRecDepth 100000 in
theorem flist_ok {w : World} {G : Nat → Prop} {p : Wp} {F : Fs} {n : Nat} (h : Sys w G p F n) (k hh first nb : Nat) (l : List Tup) (hk : 0 < k ∧ k ≤ 5) (hhe : hh = holdsI F.D.size k) (hh0 : 0 < hh) (hnb : nb = blocksN hh l.length) (hcount : l.length ≤ 100000) (hfirst : first ≤ 2000000) (hn : n + l.length + 1 ≤ 1000000)
    (hst : StandsTo F.D first k hh l nb) (hall : ∀ u ∈ l, TupOk u ∧ fitsT k u = true) (hroom : F.D.size ≤ F.A.room - F.A.used) :
    Calls Try.prog 19 #[.pointer (some ⟨p.w, 0, none⟩), .agg #[.int .i64 first, .int .i64 nb, .int .i64 k, .int .i64 l.length]] w (ListTo w G p F n first nb l) := by
  obtain ⟨w0, hw0⟩ : ∃ w0, w0 = w.alloc (.cells #[.int .i64 first, .int .i64 nb, .int .i64 k, .int .i64 l.length] 30) := ⟨_, rfl⟩
  have hb0 : Below w.heap.size w w0 := by rw [hw0]; exact (Below.refl w.heap.size w).alloc (Nat.le_refl _) _
  have hr0 : Row (w.alloc (.cells #[.int .i64 first, .int .i64 nb, .int .i64 k, .int .i64 l.length] 30)) w.heap.size 30 [.int .i64 first, .int .i64 nb, .int .i64 k, .int .i64 l.length] := heap_alloc_new _ _
  have hsz := h.size
  have hhk : hh * k ≤ F.D.size - 2 := by
    rw [hhe]; unfold holdsI
    split
    · omega
    · exact Nat.div_mul_le_self _ _
  have hh254 : hh ≤ 254 := by rw [hhe]; exact Nat.le_trans (holds_le _ _) (by omega)
  have HRD : Hid (Calls Try.prog 29 #[.pointer (some ⟨p.w, 0, none⟩), .agg #[.int .i64 first, .int .i64 nb, .int .i64 k, .int .i64 l.length]] (w.alloc (.cells #[.int .i64 first, .int .i64 nb, .int .i64 k, .int .i64 l.length] 30)) (ReadOk w0 G p F n k hh first nb l.length)) := by
    rw [← hw0]; exact fread_ok (h.below hb0) k hh first nb l.length hhe hh0 hnb (by omega) hroom
  have HST : Hid (∀ q ∈ F.A.st, q.1 < w.heap.size) := fun q hq => (h.buf hq).1.lt
  have HB0 := Lib.hid hb0
  have c0 := hr0.cell 0
  have c1 := hr0.cell 1
  have c2 := hr0.cell 2
  have c3 := hr0.cell 3
  simp only [List.getElem?_cons_zero, List.getElem?_cons_succ] at c0 c1 c2 c3
  have HINIT : Hid (∀ x b g w1 G1 ws, w0.heap.size ≤ x → w0.heap.size ≤ b → w0.heap.size ≤ g → Sys w1 G1 p { F with A := grant F.A b F.D.size } n → RMem w1 x p ⟨k, hh, first, nb, l.length, 0, b, g⟩ F.D.size ws → ROut G1 x ⟨k, hh, first, nb, l.length, 0, b, g⟩ → Far G w0 w1 → (∀ k, G1 k → G k ∨ w0.heap.size ≤ k) →
      LisOk w0 F n x ⟨k, hh, first, nb, l.length, 0, b, g⟩ l w1.heap.size ∧ LisAt w0 G p F n x ⟨k, hh, first, nb, l.length, 0, b, g⟩ l w1.heap.size 0 0 (.slice none 0 0) w1) := by
    intro x b g w1 G1 ws k1 k2 k3 k4 k5 k6 k7 k8
    obtain ⟨l1, l2, l3⟩ := k5.lt
    refine ⟨⟨hn, ⟨hk, ⟨hh0, hhk, hh254⟩, hsz, ⟨show l.length ≤ 100000000 by omega, Nat.zero_le _⟩, hfirst⟩, hnb, k1, k2, k3, fun q hq => Nat.lt_of_lt_of_le (HST.out q hq) HB0.out.size, ⟨l1, l2, l3⟩⟩, G1, F.D, ws, k4, k5, ⟨k6.x, k6.b, k6.g⟩, k7, k8, ?_, fun i => rfl, ⟨?_, rfl, hall, fun h0 => absurd (Nat.zero_mod _) h0⟩, ?_, (fun k hk => by cases hk), Nat.le_refl _⟩
    · show Wrote F.D F.D (blocksN hh 0)
      rw [blocks_zero]; exact Wrote.refl _
    · show StandsTo F.D first k hh l (blocksN hh l.length)
      rw [← hnb]; exact hst
    · rw [List.take_zero]; exact ownT_nil _ _ _
  have hcnt0 : l.length ≤ 100000 := hcount
  have HLOK : Hid (∀ u ∈ l, TupOk u) := fun u hu => (hall u hu).1
  have HNB := Lib.hid hnb
  clear h hhe hh0 hnb hcount hfirst hn hst hall hroom hw0 hb0 hr0 hhk hh254 hsz hk
  generalize hPO : ListTo w G p F n first nb l = POST at *
  replace hPO := Lib.hid hPO
  go_enter_defers Try.func19, Try.ntmps19
  go_wp2_with fail
  refine HRD.out.mono ?_
  rintro e w1 ⟨x, b, g, rfl, k1, k2, k3, G1, k4, ⟨ws, k5⟩, k6, k7, k8⟩
  obtain ⟨hok, hat⟩ := HINIT.out x b g w1 G1 ws k1 k2 k3 k4 k5 k6 k7 k8
  have HOK := Lib.hid hok
  have HAT0 := Lib.hid hat
  have HW1 := Lib.hid k7.size
  have HBW1 : Hid (∀ q ∈ F.A.st, q.1 ≠ b) := fun q hq e => by have := HST.out q hq; have := HB0.out.size; have k2' : w0.heap.size ≤ b := k2; omega
  clear k1 k2 k3 k4 k5 k6 k7 k8 hok hat HINIT HRD c0 c1 c2 c3
  generalize hRT : (⟨k, hh, first, nb, l.length, 0, b, g⟩ : Rt) = rt at HOK HAT0
  have HRC : Hid (rt.count = l.length ∧ rt.b = b ∧ rt.first = first ∧ rt.blocks = nb ∧ rt.h = hh) := by subst hRT; exact ⟨rfl, rfl, rfl, rfl, rfl⟩
  clear hRT
  go_wp2_with fail
  go_loopw [8] (fun iv wr => ∃ i : Nat, i ≤ l.length ∧ sliceLen iv = i ∧ Hid (LisAt w0 G p F n x rt l w1.heap.size i i iv wr)) (fun iv _ => l.length - sliceLen iv)
  case atStart => exact ⟨0, Nat.zero_le _, rfl, HAT0.out⟩
  case round =>
    obtain ⟨i, hi, hsl, HAT⟩ := hrel
    have HSL := Lib.hid hsl
    clear hsl
    by_cases hlt : i < l.length
    · have HNX := Lib.hid (lis_next HOK.out HAT.out (by rw [HRC.out.1]; exact hlt))
      clear HAT
      go_wp2_with fail
      refine HNX.out.mono ?_
      rintro e w5 (⟨t, rfl, ht, hat⟩ | ⟨er, rfl, hdead, hsh⟩)
      · have HAT5 := Lib.hid hat
        have HT := Lib.hid ht
        clear hat ht HNX
        obtain ⟨ta, tb, tc, td, te⟩ := t
        have HB6 : Hid (Below w5.heap.size w5 ((w5.alloc (.cells #[.int .i64 ta, .int .i64 tb, .int .i64 tc, .int .i64 td, .int .i64 te] 58)).alloc (.cells #[.int .i64 ta, .int .i64 tb, .int .i64 tc, .int .i64 td, .int .i64 te] 58))) := ((Below.refl w5.heap.size w5).alloc (Nat.le_refl _) _).alloc ((Below.refl w5.heap.size w5).alloc (Nat.le_refl _) (.cells #[.int .i64 ta, .int .i64 tb, .int .i64 tc, .int .i64 td, .int .i64 te] 58)).size _
        have HAT6 := Lib.hid (HAT5.out.below HB6.out)
        have hrw : Row ((w5.alloc (.cells #[.int .i64 ta, .int .i64 tb, .int .i64 tc, .int .i64 td, .int .i64 te] 58)).alloc (.cells #[.int .i64 ta, .int .i64 tb, .int .i64 tc, .int .i64 td, .int .i64 te] 58)) (w5.alloc (.cells #[.int .i64 ta, .int .i64 tb, .int .i64 tc, .int .i64 td, .int .i64 te] 58)).heap.size 58 (tupC ⟨ta, tb, tc, td, te⟩) := heap_alloc_new _ _
        rw [show (w5.alloc (.cells #[.int .i64 ta, .int .i64 tb, .int .i64 tc, .int .i64 td, .int .i64 te] 58)).heap.size = w5.heap.size + 1 by simp] at hrw
        have HRW := Lib.hid hrw
        have HW5 : Hid (w1.heap.size ≤ w5.heap.size) := by
          obtain ⟨_, _, _, _, _, _, _, _, _, _, _, _, _, h⟩ := HAT5.out
          exact h
        clear hrw
        go_wp2_with (with_reducible refine stopAt 37 ?_)
        unfold Hid
        obtain ⟨G6, D6, ws6, p1, p2, p3, p4, p5, p6, p7, p8, p9, p10, p11⟩ := HAT6.out
        refine wpList_push_tup rfl _ _ rfl p9 rfl ⟨w5.heap.size + 1, 0, none⟩ rfl ⟨ta, tb, tc, td, te⟩ (fun j u hj => ?_) (by omega) ?_ ?_
        · rw [← hj]
          rw [addr_add0]
          exact HRW.out.cell j
        · exact Nat.le_trans HW5.out HB6.out.size
        intro v' W hown hfar hv'
        have HAT7 := Lib.hid (lis_push HAT6.out HOK.out HT.out hown hfar hv' HW1.out)
        have HLN7 := Lib.hid (ownT_len hown)
        clear p1 p2 p3 p4 p5 p6 p7 p8 p9 p10 p11 hown hfar hv'
        go_wp2
        go_roundw
        case rel => exact ⟨i + 1, by omega, HLN7.out, HAT7.out⟩
        case measure => have := HLN7.out; have := HSL.out; simp; omega
      · obtain ⟨hne, D1, m, j, e1, e2, e3, e4, hs5⟩ := hdead
        have her : (er != 0) = true := by simpa using hne
        have HS5 := Lib.hid hs5
        have HSH := Lib.hid hsh
        have HFN : Hid (POST (.returned (.tuple #[.slice none 0 0, .int .i64 er])) (w5.alloc (.cells #[.int .i64 0, .int .i64 0, .int .i64 0, .int .i64 0, .int .i64 0] 58))) := by
          rw [← hPO.out]
          obtain ⟨q1, q2, q3, q4, q5⟩ := HRC.out
          refine .inr ⟨er, b, m, D1, j, rfl, hne, e1, e2, fun hin => e3 (by rw [q3, q4]; exact hin), HBW1.out, e4, ?_⟩
          rw [← q2, ← q1]
          exact (hs5.behind HB0.out).ahead ((Below.refl _ _).alloc (Nat.le_refl _) _)
        clear hne e1 e2 e3 e4 hs5 hsh HNX
        have hbz : Below w5.heap.size w5 (w5.alloc (.cells #[.int .i64 0, .int .i64 0, .int .i64 0, .int .i64 0, .int .i64 0] 58)) := (Below.refl _ _).alloc (Nat.le_refl _) _
        have HSH2 : Hid (RShut (w5.alloc (.cells #[.int .i64 0, .int .i64 0, .int .i64 0, .int .i64 0, .int .i64 0] 58)) x p (tr rt i)) := ⟨HSH.out.1.below hbz HSH.out.1.lt, HSH.out.2.below hbz HSH.out.2.lt⟩
        clear hbz
        go_wp2
        refine leaves_cons (f := 33) (args := #[.pointer (some ⟨x, 0, none⟩)]) (by simp) (by simp [go_sem]) ?_
        refine (rclose_def_shut _ HSH2.out).mono ?_
        rintro e u' w'' ⟨rfl, rfl, rfl⟩
        exact ⟨.tuple #[.slice none 0 0, .int .i64 er], by simp [results, Try.results19, go_sem], HFN.out⟩
    · obtain rfl : i = l.length := by omega
      have hat' := HAT.out
      rw [← HRC.out.1] at hat'
      have HEN := Lib.hid (lis_end HOK.out hat')
      clear HAT hat'
      go_wp2_with fail
      refine HEN.out.mono ?_
      rintro e w5 ⟨rfl, hat5⟩
      have HAT6 := Lib.hid (hat5.below ((Below.refl w5.heap.size w5).alloc (Nat.le_refl _) (.cells #[.int .i64 0, .int .i64 0, .int .i64 0, .int .i64 0, .int .i64 0] 58)))
      clear hat5 HEN
      go_wp2
      refine leaves_cons (f := 33) (args := #[.pointer (some ⟨x, 0, none⟩)]) (by simp) (by simp [go_sem]) ?_
      refine (lis_close _ HOK.out HAT6.out (Nat.le_refl _)).mono ?_
      rintro e u' w'' ⟨rfl, rfl, hown, D', h1, h2, h3⟩
      rw [HRC.out.1] at hown
      rw [List.take_length] at hown
      obtain ⟨A, c, rfl, hrd, _, _, _, hbase⟩ := ownT_reads hown HLOK.out
      refine ⟨.tuple #[.slice A l.length c, .int .i64 0], by simp [results, Try.results19, go_sem], ?_⟩
      rw [← hPO.out]
      obtain ⟨q1, q2, q3, q4, q5⟩ := HRC.out
      refine .inl ⟨A, c, b, D', rfl, hrd, fun hp b' off e => Nat.le_trans (Nat.le_trans HB0.out.size HW1.out) (hbase hp b' off e), ?_, h2, HBW1.out, ?_⟩
      · rw [HNB.out, ← q5, ← q1]; exact h1
      · rw [← q2, ← q1]; exact h3.behind HB0.out
end Go.Proofs.Ytbkgpilmgllkiaa
