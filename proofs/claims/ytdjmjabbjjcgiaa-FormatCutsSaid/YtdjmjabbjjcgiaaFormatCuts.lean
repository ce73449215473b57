/-
  FormatCuts: for whatever graph, cut and byte; no condition.
-/
import Derived.Test.YtdjmjabbjjcgiaaRows
import Derived.Test.YtdjmjabbjjcgiaaFormatDec
import Derived.Test.YtdjmjabbjjcgiaaFormatAwake
import Derived.WalkKit
import Derived.ProofKit
import Derived.OpenShut
import Derived.ShutString
import Derived.ChangeOld
import Derived.Below
namespace Go.Proofs.Ytdjmjabbjjcgiaa.formatCuts
open Go.ChangeShapes Go.WideShapes Go.ChangeAt Go.RowKit
open Go.ChangeMaps (open_string shut_string)
set_option linter.unusedVariables false

theorem own : ownKnob Try.prog.godebug = none := by kernel_rfl
theorem laidOut : laidOutB Try.prog = true := by kernel_rfl

theorem own_reads_cap {w : World} {base : Nat} {v : Value} {L : List Nat} (h : OwnB w base v L) (hw : ∀ x ∈ L, x < 256) (hpos : 0 < L.length) : ∃ A c, v = .slice A L.length c ∧ L.length ≤ c ∧ Reads .u8 w w.heap.size A L.length L := by
  obtain ⟨A, c, hv, hr, _⟩ := own_reads h fun x hx => u8_wf (hw x hx)
  obtain ⟨g, cap, cs, hv2, _, _, hc, _⟩ := own_row h hpos
  rw [hv] at hv2
  injection hv2 with _ _ hcc
  exact ⟨A, c, hv, by omega, hr⟩

set_option maxHeartbeats 1600000 in
set_option maxRecDepth 100000 in
theorem walk (N0 : Int) (a0 : Option Addr) (len0 cap0 : Nat) (l0 : List (Int × Int)) (a1 : Int) (a2 : Int) (w : World) (wN0 : I64 N0) (wr0 : ReadsE w w.heap.size a0 len0 l0) (wc0 : len0 ≤ cap0 ∧ cap0 ≤ maxLen) (w1 : (Lit.int .u16 a1).wf = true) (w2 : (Lit.int .u8 a2).wf = true) :
    Calls Try.prog 6 #[.agg #[.int .i64 N0, .slice a0 len0 cap0], .int .u16 a1, .int .u8 a2] w fun e w' => e = .returned (.bool true) ∧ Below w.heap.size w w' := by
  have hm0 : len0 ≤ 9223372036854775807 := by have := wc0.2; unfold maxLen at this; omega
  clear wc0
  have ha1 : 0 ≤ a1 ∧ a1 ≤ 65535 := by
    have h := w1
    simp [Lit.wf, IntKind.min, IntKind.max, IntKind.signed, IntKind.bits] at h; omega
  have ha2 := u8_nonneg a2 w2
  clear w1
  obtain ⟨C, rfl⟩ := Int.eq_ofNat_of_zero_le ha1.1
  obtain ⟨D, rfl⟩ := Int.eq_ofNat_of_zero_le ha2
  have hD := u8_lt w2
  clear w2
  go_enter Try.func6, Try.ntmps6
  go_wp2_with fail
  refine (awake_any _).mono ?_; rintro e w1 ⟨rfl, hb1⟩
  have HB1 := Lib.hid (hb1.mono (show w.heap.size + 1 ≤ _ by simp))
  obtain ⟨c0, c1⟩ := box2 HB1.out
  clear hb1
  have hsz : w.heap.size < w1.heap.size := by have := HB1.out.size; simp at this; omega
  go_wp2_with fail
  refine (few_any N0 a0 len0 cap0 500 300 _).mono ?_; rintro e w2 ⟨rfl, hb2⟩
  have HB2 := Lib.hid (HB1.out.trans (hb2.mono (show w.heap.size + 1 ≤ w1.heap.size by omega)))
  obtain ⟨c0, c1⟩ := box2 HB2.out
  have hsz2 : w.heap.size < w2.heap.size := by have := HB2.out.size; simp at this; omega
  have HW2 := Lib.hid (((Below.refl w.heap.size w).alloc (Nat.le_refl _) _).trans (HB2.out.mono (show w.heap.size ≤ _ by omega)))
  have HR2 := Lib.hid (wr0.keep HW2.out)
  clear hb2
  by_cases hbig : N0 ≤ ((500 : Nat) : Int) ∧ len0 ≤ 300
  · have g1 : (decide (N0 ≤ ((500 : Nat) : Int)) && decide (len0 ≤ 300)) = true := by simp; omega
    rw [g1]
    clear g1
    by_cases hf : formed N0 l0 = true
    · have hN := (formed_iff.1 hf).1
      obtain ⟨M, rfl⟩ := Int.eq_ofNat_of_zero_le hN.1
      have hM : M ≤ 500 := by omega
      have hl : len0 ≤ 300 := hbig.2
      have HF := Lib.hid hf
      clear hf hN hbig
      go_wp2_with fail
      refine (encode_ok M a0 len0 cap0 l0 w2 HF.out HR2.out (by omega) (by omega)).mono ?_; rintro e w3 ⟨v3, rfl, ho3, hb3⟩
      have HB3 := Lib.hid (HW2.out.trans (hb3.mono (show w.heap.size ≤ w2.heap.size by omega)))
      have hs3 := HB3.out.size
      obtain ⟨A3, k3, rfl, hk3, hr3⟩ := own_reads_cap ho3 (enc_byte _ _) (enc_pos _ _)
      have HOL : Hid ((order l0).length = len0) := by unfold Hid; rw [order_length]; exact HR2.out.1
      have HG := Lib.hid (good_order HF.out)
      have HEL := Lib.hid (enc_len (N := M) (by omega) (by rw [HOL.out]; omega) HG.out)
      have hn0 := enc_pos M (order l0)
      have hn1 : (enc M (order l0)).length ≤ 40021 := by have := HEL.out; rw [HOL.out] at this; omega
      have D1 : Hid (∀ k, k < (enc M (order l0)).length → dec ((enc M (order l0)).take k) = (false, 0, [], k)) := fun k hk =>
        (dec_cut (enc M (order l0)) k (by omega)).1 (by rw [dec_enc HG.out (by omega) (by rw [HOL.out]; omega)]) hk
      have D2 : Hid (dec (enc M (order l0) ++ [D]) = (false, 0, [], (enc M (order l0)).length)) := dec_enc_more HG.out (by omega) (by rw [HOL.out]; omega)
      have HBY : Hid (∀ x ∈ enc M (order l0), x < 256) := enc_byte _ _
      clear hb3 ho3 HEL HG
      generalize enc M (order l0) = L at *
      have HLL : Hid (L.length = L.length) := rfl
      generalize hn : L.length = n at *
      have HN := Lib.hid hn
      have HR3 := Lib.hid hr3
      clear hn hr3 HLL
      obtain ⟨k, hk⟩ : ∃ k, C % n = k := ⟨_, rfl⟩
      have hkn : k < n := by rw [← hk]; exact Nat.mod_lt _ hn0
      have hs2 : ((C : Int)).tmod (n : Int) = (k : Int) := by rw [Int.tmod_eq_emod_of_nonneg (by omega), ← hk]; simp
      have hs3' : (C : Int) % (n : Int) = (k : Int) := by rw [← hk]; simp
      have hne : (n : Int) ≠ 0 := by omega
      have hne2 : n ≠ 0 := by omega
      have HK := Lib.hid hk
      clear hk
      obtain ⟨i0, hi, hz0, hz1, hz2⟩ := info_parts info5
      have hsl : ∀ w' (kh : IntKind), (Instr.slice 27 (.slice A3 n k3) none (some (.int kh (k : Int))) none).run Try.prog w' = .ok (.slice A3 k k3) w' := fun w' kh =>
        run_head w' 27 5 i0 Try.underlying27 hi A3 n k3 k (by omega) kh _ rfl
      go_wp2_with fail
      refine (decode_any A3 k k3 (L.take k) w3 (HR3.out.take (by omega)) (Nat.le_refl _) (by omega)).mono ?_; rintro e w5 ⟨hb5, h5⟩
      have HB5 := Lib.hid (HB3.out.trans (hb5.mono hs3))
      have hw5 := HB5.out.size
      have HR5 := Lib.hid ((HR3.out.keep hb5).mono hb5.size)
      clear hb5
      rcases h5 with ⟨hf5, rfl⟩ | ⟨M2, E2, A2, c2, ht, rfl, _⟩
      · rw [D1.out k hkn]
        have HB6 := Lib.hid (HB5.out.alloc hw5 (.cells #[.int .i64 0, .slice none 0 0] 24))
        have HR6 := Lib.hid (HR5.out.keep ((Below.refl w5.heap.size w5).alloc (Nat.le_refl _) (.cells #[.int .i64 0, .slice none 0 0] 24)))
        have HZ6 : Hid ((w5.alloc (.cells #[.int .i64 0, .slice none 0 0] 24)).heap.size = w5.heap.size + 1) := by unfold Hid; simp
        clear hf5
        go_wp2_with (with_reducible refine stopAt 50 ?_)
        unfold Hid
        refine wpList_append_list _ rfl _ _ 27 rfl w5.heap.size 5 i0 (.int .u8 0) 1 Try.underlying27 hi hz0 hz1 hz2 rfl (.slice none 0 0) 0 [] rfl (World.ownsRow_nil _ _ _ _) A3 n k3 (L.map fun c : Nat => Value.int .u8 c) rfl (by rw [List.length_map]; exact HN.out) HR6.out.source cells_int (by omega) (by omega) (by rw [HZ6.out]; omega) ?_
        intro v7 w7 hown7 hb7
        rw [Nat.zero_add, List.nil_append] at hown7
        have HO7 := Lib.hid hown7
        have HB7 := Lib.hid (HB6.out.trans (hb7.mono hw5))
        have hs7 : w5.heap.size < w7.heap.size := by have := hb7.size; rw [HZ6.out] at this; omega
        clear hown7 hb7
        go_wp2_with (with_reducible refine stopAt 54 ?_)
        unfold Hid
        refine wpList_append_list _ rfl _ _ 27 rfl w5.heap.size 5 i0 (.int .u8 0) 1 Try.underlying27 hi hz0 hz1 hz2 rfl v7 n (L.map fun c : Nat => Value.int .u8 c) rfl (HO7.out.alloc _) _ 1 1 [.int .u8 D] rfl rfl (fun _ => ⟨_, rfl, cells1⟩) (by simp; rfl) (by omega) (by omega) (by simp; omega) ?_
        intro v8 w8 hown8 hb8
        have hown9 : w8.ownsRow w5.heap.size 5 1 v8 (n + 1) ((L ++ [D]).map fun c : Nat => Value.int .u8 c) := by rw [List.map_append]; exact hown8
        have hby : ∀ x ∈ L ++ [D], (Lit.int .u8 (x : Nat)).wf = true := by
          intro x hx
          rcases List.mem_append.1 hx with hx | hx
          · exact u8_wf (HBY.out x hx)
          · simp at hx; subst hx; exact u8_wf hD
        obtain ⟨A8, c8, rfl, hr8, _⟩ := own_reads hown9 hby
        have HR8 := Lib.hid hr8
        have HB8 := Lib.hid (HB7.out.trans (((Below.refl w5.heap.size w7).alloc (by omega) (.cells #[.int .u8 (D : Int)] 5)).trans hb8 |>.mono hw5))
        have hw8 := HB8.out.size
        clear hown8 hown9 hb8 hby hr8
        go_wp2_with fail
        refine (decode_any A8 (n + 1) c8 (L ++ [D]) w8 HR8.out (Nat.le_refl _) (by omega)).mono ?_; rintro e w9 ⟨hb9, h9⟩
        have HB9 := Lib.hid (HB8.out.trans (hb9.mono hw8))
        have hw9 := HB9.out.size
        clear hb9
        rcases h9 with ⟨_, rfl⟩ | ⟨M2, E2, A2, c2, ht, rfl, _⟩
        · rw [D2.out]
          have HBX := Lib.hid (HB9.out.alloc hw9 (.cells #[.int .i64 0, .slice none 0 0] 24))
          go_wp2
          go_ret
          exact ⟨rfl, HBX.out⟩
        · exfalso
          rw [D2.out] at ht
          cases ht
      · exfalso
        rw [D1.out k hkn] at ht
        cases ht
    · have HF : Hid (formed N0 l0 = false) := by unfold Hid; simpa using hf
      clear hf
      go_wp2_with fail
      refine (encode_bad N0 a0 len0 cap0 l0 w2 wN0 HF.out HR2.out (by omega) hm0).mono ?_; rintro e w3 ⟨rfl, hb3⟩
      have HB3 := Lib.hid (HW2.out.trans (hb3.mono (show w.heap.size ≤ w2.heap.size by omega)))
      clear hb3
      go_wp2
      go_ret
      exact ⟨rfl, HB3.out⟩
  · have g1 : (decide (N0 ≤ ((500 : Nat) : Int)) && decide (len0 ≤ 300)) = false := by rw [Bool.eq_false_iff]; simp; omega
    rw [g1]
    clear g1
    go_wp2_with fail
    refine (awake_any _).mono ?_; rintro e w3 ⟨rfl, hb3⟩
    have HB3 := Lib.hid (HB2.out.trans (hb3.mono (show w.heap.size + 1 ≤ w2.heap.size by omega)))
    clear hb3
    go_wp2
    go_ret
    exact ⟨rfl, ((Below.refl w.heap.size w).alloc (Nat.le_refl _) _).trans (HB3.out.mono (by omega))⟩

set_option maxRecDepth 100000 in
theorem lifted (os : Os) (started : os.Started) (H : Type) (enc : TypeId × Value → H) :
    ReturnsInHanded {} Try.checked os 6 .any (Rows.formatCutsSpec.pre6 enc Try.prog Try.f6 Rows.formatCutsRow.domain false) (Rows.formatCutsSpec.post enc Try.prog Try.f6 false true false false) := by
  refine returnsInHanded_of_change (C := Try.checked) own started (by kernel_rfl) Try.func6
    (ChangeSpec.witness6 (enc := enc) (C := Try.checked) false ⟨#[], #[.agg #[.int .i64 0, .slice none 0 0], .int .u16 0, .int .u8 0], []⟩ 8 (by kernel_rfl) (by kernel_rfl) (by kernel_rfl) (by kernel_rfl)) ?_
  intro W base args ds gs before hval0 hW hcnd _
  have hval : ∀ (j : Nat) t v, Try.f6.params[j]? = some t → args[j]? = some v → Value.okWide Try.prog W .any base t v := hval0
  have hW' := hW
  obtain ⟨p, q, hA0, hV, rfl, hfz, hnd⟩ := hW
  have hA : DataW.TrodAll enc Try.prog W 0 (fun _ => true) true Try.f6.params.toList args.toList ds p := hA0
  rw [Try.params6] at hA hval
  obtain ⟨v0, vs0, d0, ds0, p0, q0, hargs, rfl, rfl, h0, r0⟩ := trodAll_cons hA
  obtain ⟨v1, vs1, d1, ds1, p1, q1, rfl, rfl, rfl, h1, r1⟩ := trodAll_cons r0
  obtain ⟨v2, vs2, d2, ds2, p2, q2, rfl, rfl, rfl, h2, r2⟩ := trodAll_cons r1
  obtain ⟨rfl, rfl, rfl⟩ := trodAll_nil r2
  obtain rfl : args = #[v0, v1, v2] := by cases args; simp_all
  obtain ⟨rfl, rfl⟩ := trodVars_none hV
  have k0 := h0
  have lt0 : ∀ x ∈ p0, x.block < W.heap.size := by obtain ⟨m, hm⟩ := k0; exact DataW.trod_lt m _ _ _ hm
  have k1 := h1
  have lt1 : ∀ x ∈ p1, x.block < W.heap.size := by obtain ⟨m, hm⟩ := k1; exact DataW.trod_lt m _ _ _ hm
  have k2 := h2
  have lt2 : ∀ x ∈ p2, x.block < W.heap.size := by obtain ⟨m, hm⟩ := k2; exact DataW.trod_lt m _ _ _ hm
  obtain ⟨N0, a0, len0, cap0, l0, rfl, wN0, wr0, wc0⟩ := open_graph Try.underlying24 (by kernel_rfl) (by kernel_rfl) rfl rfl Try.underlying22 Try.underlying43 (by kernel_rfl) (by kernel_rfl) Try.underlying3 rfl rfl (hval 0 24 v0 rfl rfl) h0
  obtain ⟨a1, rfl, rfl, rfl, w1⟩ := open_int Try.underlying40 (hval 1 40 v1 rfl rfl) h1
  obtain ⟨a2, rfl, rfl, rfl, w2⟩ := open_int Try.underlying5 (hval 2 5 v2 rfl rfl) h2
  clear hA0 hval0
  refine (walk N0 a0 len0 cap0 l0 a1 a2 W wN0 wr0 wc0 w1 w2).mono fun e W' ⟨he, bel⟩ => ?_
  subst he
  exact ⟨_, rfl, _, _, _, [], _, [], hW', trodAll_mk1 (shut_bool Try.underlying4 _), (trodAll_cons_mk (Below.trod laidOut (by kernel_rfl) (of_decide_eq_true (by kernel_rfl)) k0 bel lt0) (trodAll_cons_mk (Below.trod laidOut (by kernel_rfl) (of_decide_eq_true (by kernel_rfl)) k1 bel lt1) (trodAll_cons_mk (Below.trod laidOut (by kernel_rfl) (of_decide_eq_true (by kernel_rfl)) k2 bel lt2) trodAll_mk0))), rfl, bel.frame _, fun h => by cases h⟩

theorem over : Rows.formatCutsRow.holds Try.pinned (OpenSpec.ofChange Rows.formatCutsSpec) :=
  OpenClaim.holds_of_wide 6 Try.f6 rfl rfl rfl rfl rfl rfl rfl ⟨rfl, rfl, rfl, rfl, rfl⟩ rfl rfl rfl rfl rfl (by kernel_rfl) Try.func6 (by kernel_rfl)
    (of_decide_eq_true (by kernel_rfl)) (by unfold Func.isWrapper; first | (rw [if_pos (by decide +kernel)]; kernel_rfl) | (rw [if_neg (by decide +kernel)]; exact ⟨rfl, rfl⟩))
    (fun os started H enc _ => lifted os started H enc)

theorem proved : Rows.FormatCutsSaid := over
end Go.Proofs.Ytdjmjabbjjcgiaa.formatCuts
