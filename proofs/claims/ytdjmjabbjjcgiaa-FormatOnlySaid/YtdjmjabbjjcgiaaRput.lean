/- What the laws' awake, the reference's Put, Size and Same answer; for slices of at most 100000 bytes, of Same 4000. -/
import Derived.Test.YtdjmjabbjjcgiaaPut
namespace Go.Proofs.Ytdjmjabbjjcgiaa
open Go.ChangeShapes Go.WideShapes Go.ChangeAt Go.RowKit


/-- what the reference's Put has made -/
def MadeR (w0 w : World) (N : Nat) (L : List Nat) (e : Ending) : Prop :=
  ∃ A c, e = .returned (.slice A N c) ∧ Reads .u8 w w.heap.size A N L ∧ Below w0.heap.size w0 w

set_option maxHeartbeats 1600000 in
set_option maxRecDepth 100000 in
theorem rput_any (a : Option Addr) (n cap : Nat) (l : List Nat) (x : Nat) (w : World) (hl : Reads .u8 w w.heap.size a n l) (hn : n ≤ 100000) (hx : U64 x) :
    Calls Try.prog 23 #[.slice a n cap, .int .u64 x] w fun e w' => MadeR w w' (n + vs x) (l ++ uv x) e := by
  obtain ⟨i0, hi, hz0, hz1, hz2⟩ := info_parts info5
  have hp := vs_pos x
  have hv := vs_le hx
  obtain ⟨hlen, hwf, hcells⟩ := hl
  have HLEN := Lib.hid hlen
  have HWF := Lib.hid hwf
  have HCELLS := Lib.hid hcells
  clear hlen hwf hcells
  go_enter Try.func23, Try.ntmps23
  go_wp2_with (with_reducible refine stopAt 8 ?_)
  unfold Hid
  refine wpList_append_list _ rfl _ _ 27 rfl w.heap.size 5 i0 (.int .u8 0) 1 Try.underlying27 hi hz0 hz1 hz2 rfl _ 0 [] rfl (World.ownsRow_nil _ _ _ _) a n cap (l.map f8) rfl (by have := HLEN.out; simpa using this) ?_ ?_ (by omega) (by omega) (Nat.le_refl _) ?_
  · intro hpos
    have hlen := HLEN.out
    obtain ⟨b, off, rfl, hb, hc⟩ := HCELLS.out (by omega)
    refine ⟨_, rfl, fun j v hj => ?_⟩
    have hjl : j < l.length := by
      rcases Nat.lt_or_ge j l.length with hlt | hge
      · exact hlt
      · rw [List.getElem?_eq_none (by simpa using hge)] at hj; cases hj
    have h1 := hc j (by omega)
    rw [List.getElem?_map, List.getElem?_eq_getElem hjl] at hj
    have e : (⟨b, off, none⟩ : Addr).add j = ⟨b, off + j, none⟩ := by unfold Addr.add; split <;> simp_all
    rw [e, h1, ← hj]
    simp [f8, hjl]
  · intro v hv; obtain ⟨c, _, rfl⟩ := List.mem_map.1 hv; rfl
  intro v1 w1 hown1 hb1
  rw [Nat.zero_add, List.nil_append] at hown1
  have HO := Lib.hid hown1
  clear hown1
  go_wp2
  go_loopw [1, 5] (fun xv v wr => ∃ y : Nat, U64 y ∧ xv = .int .u64 y ∧ Hid (∃ k L0, k + vs y = n + vs x ∧ L0 ++ uv y = l ++ uv x ∧ wr.ownsRow w.heap.size 5 1 v k (L0.map f8)) ∧ Below w.heap.size w wr) (fun xv _ _ => (intOf xv).toNat)
  case atStart => exact ⟨x, hx, rfl, ⟨n, l, rfl, rfl, HO.out⟩, hb1⟩
  case round =>
    obtain ⟨y, hy, rfl, HR, hbw⟩ := hrel
    have hpy := vs_pos y
    by_cases hlt : y < 128
    · go_wp2_with (with_reducible refine stopAt 24 ?_)
      unfold Hid
      obtain ⟨k, L0, hk, hL, hown⟩ := HR.out
      have e1 := vs_small hlt
      refine wpList_append_list _ rfl _ _ 27 rfl w.heap.size 5 i0 (.int .u8 0) 1 Try.underlying27 hi hz0 hz1 hz2 rfl _ k _ rfl (hown.alloc _) _ 1 1 [.int .u8 y] rfl rfl (fun _ => ⟨_, rfl, cells1⟩) (by simp; rfl) (by omega) (by omega) (by have := hbw.size; simp; omega) ?_
      intro v2 w2 hown2 hb2
      have hbw2 : Below w.heap.size w w2 := (hbw.alloc hbw.size _).trans hb2
      have hown3 : w2.ownsRow w.heap.size 5 1 v2 (n + vs x) ((l ++ uv x).map f8) := by
        rw [← hL, uv_small hlt, List.map_append, ← hk, e1]; exact hown2
      have hbytes : ∀ c ∈ l ++ uv x, (Lit.int .u8 (c : Nat)).wf = true := by
        intro c hc
        rcases List.mem_append.1 hc with hc | hc
        · exact HWF.out c hc
        · exact u8_wf (uv_byte hc)
      obtain ⟨A, c, rfl, hr, _⟩ := own_reads hown3 hbytes
      have HR2 := Lib.hid hr
      have HBW := Lib.hid hbw2
      clear hown2 hown3 hb2 hbw2 hr hown hk hL e1 hbytes
      go_wp2
      go_ret
      exact ⟨A, c, rfl, HR2.out, HBW.out⟩
    · have HE := Lib.hid (vs_big hlt)
      have hd := u64_div hy
      have hmod : (y : Int) % 128 + 128 < 256 := by omega
      have HQ : Hid (IntKind.u64.wrap ((y : Int) / 128) = ((y / 128 : Nat) : Int)) := by
        have h := hy; unfold U64 at h
        unfold Hid
        rw [IntWalk.u64_in _ (by omega)]; rfl
      go_wp2_with (with_reducible refine stopAt 17 ?_)
      unfold Hid
      obtain ⟨k, L0, hk, hL, hown⟩ := HR.out
      have e1 := HE.out
      have ev : (Value.int .u8 ((y : Int) % 128 + 128)) = f8 (y % 128 + 128) := by unfold f8; congr 1
      refine wpList_append_list _ rfl _ _ 27 rfl w.heap.size 5 i0 (.int .u8 0) 1 Try.underlying27 hi hz0 hz1 hz2 rfl _ k _ rfl (hown.alloc _) _ 1 1 [.int .u8 ((y : Int) % 128 + 128)] rfl rfl (fun _ => ⟨_, rfl, cells1⟩) (by simp; rfl) (by omega) (by omega) (by have := hbw.size; simp; omega) ?_
      intro v2 w2 hown2 hb2
      have hbw2 : Below w.heap.size w w2 := (hbw.alloc hbw.size _).trans hb2
      have HR2 : Hid (∃ k L0, k + vs (y / 128) = n + vs x ∧ L0 ++ uv (y / 128) = l ++ uv x ∧ w2.ownsRow w.heap.size 5 1 v2 k (L0.map f8)) := by
        refine ⟨k + 1, L0 ++ [y % 128 + 128], by omega, by rw [← hL, uv_big hlt]; simp, ?_⟩
        rw [List.map_append, List.map_cons, List.map_nil, ← ev]; exact hown2
      clear hown2 hb2 hown hk hL e1 ev HR
      go_wp2
      go_roundw
      case rel => 
        exact ⟨y / 128, hd, by rw [HQ.out], HR2, hbw2⟩
      case measure => rw [HQ.out]; simp [intOf]; omega


set_option maxHeartbeats 800000 in
set_option maxRecDepth 100000 in
theorem bsame_any (a b : Option Addr) (n m c d : Nat) (l r : List Nat) (w : World) (hl : Reads .u8 w w.heap.size a n l) (hr : Reads .u8 w w.heap.size b m r) (hn : n ≤ 100000) :
    Calls Try.prog 13 #[.slice a n c, .slice b m d] w fun e w' => e = .returned (.bool (decide (l = r))) ∧ ∃ k, w.drewN k = w' := by
  by_cases hnm : n = m
  · subst hnm
    go_enter Try.func13, Try.ntmps13
    go_wp2
    go_loopw [5] (fun iv wr => ∃ k : Nat, k ≤ n ∧ iv = .int .i64 k ∧ Hid (∀ i, i < k → l.getD i 0 = r.getD i 0) ∧ ∃ m, wr = w.drewN m) (fun iv _ => n - (intOf iv).toNat)
    case atStart => exact ⟨0, by omega, rfl, fun i hi => absurd hi (by omega), 0, rfl⟩
    case round =>
      obtain ⟨k, hk, rfl, HA, q, rfl⟩ := hrel
      by_cases hlt : k < n
      · obtain ⟨b1, o1, c1, rfl, hb1, hc1, hw1, HC1⟩ := hl.at_ hlt
        obtain ⟨b2, o2, c2, rfl, hb2, hc2, hw2, HC2⟩ := hr.at_ hlt
        have HDEC : Hid (∀ (h : c1 = c2), ∀ i, i < k + 1 → l.getD i 0 = r.getD i 0) := fun h i hi => by
          by_cases e : i = k
          · subst e; rw [← HC1.out, ← HC2.out, h]
          · exact HA.out i (by omega)
        have HNE : Hid (c1 ≠ c2 → decide (l = r) = false) := fun h => by
          simp; intro e; subst e; exact h (by rw [HC1.out, HC2.out])
        have hc1' : ∀ q, (w.drewN q).cell? ⟨b1, o1 + k, none⟩ = some (.int .u8 (c1 : Nat)) := fun _ => hc1
        have hc2' : ∀ q, (w.drewN q).cell? ⟨b2, o2 + k, none⟩ = some (.int .u8 (c2 : Nat)) := fun _ => hc2
        by_cases hcc : c1 = c2
        · have g2 : ((c1 : Int) != c2) = false := by simp; omega
          have HCC := Lib.hid hcc
          clear hcc
          go_wp2
          go_quiet (fail)
          go_wp2
          go_roundw
          case rel => exact ⟨k + 1, by omega, by go_num, HDEC.out HCC.out, _, rfl⟩
          case measure => simp [intOf]; omega
        · have g2 : ((c1 : Int) != c2) = true := by simp; omega
          have HCC := Lib.hid hcc
          clear hcc
          go_wp2
          go_quiet (fail)
          go_wp2
          go_ret
          exact ⟨ret_bool (HNE.out HCC.out).symm, _, (World.drewN_drewN _ _ _).symm⟩
      · go_wp2
        go_ret
        have e : l = r := by
          apply List.ext_getElem (by rw [hl.1, hr.1])
          intro i h1 h2
          have := HA.out i (by have := hl.1; omega)
          rw [List.getD_eq_getElem?_getD, List.getD_eq_getElem?_getD, List.getElem?_eq_getElem h1, List.getElem?_eq_getElem h2] at this
          exact this
        exact ⟨ret_bool (by simp [e]), _, rfl⟩
  · have hne : l ≠ r := fun e => hnm (by rw [← hl.1, ← hr.1, e])
    have hd : decide (l = r) = false := by simp [hne]
    have g1 : ((n : Int) != m) = true := by simp; omega
    go_enter Try.func13, Try.ntmps13
    go_wp2
    go_ret
    exact ⟨ret_bool hd.symm, 0, rfl⟩
end Go.Proofs.Ytdjmjabbjjcgiaa
