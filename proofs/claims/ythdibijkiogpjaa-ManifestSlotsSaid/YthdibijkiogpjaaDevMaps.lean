/- What slices.Clone of words, maps.Clone and maps.Copy of maps of integers answer. -/
import Derived.Test.YthdibijkiogpjaaDevSmall
import Derived.Shelf.SlMaps.Clone
import Derived.Lib.SliceRun
namespace Go.Proofs.Ythdibijkiogpjaa
open Go.ChangeShapes Go.WideShapes Go.ChangeAt Go.RowKit Go.Maps

theorem infoU : (Try.prog.info? 38).map (fun i => (i.zero, i.size, i.bytes)) = some (some (.int .u64 0), 1, 8) := by kernel_rfl

theorem ownsRow_made (w : World) (e : TypeId) : (w.alloc (.cells #[] e)).ownsRow w.heap.size e 1 (.slice (some ⟨w.heap.size, 0, none⟩) 0 0) 0 [] :=
  ⟨rfl, .inr ⟨w.heap.size, 0, #[], rfl, Nat.le_refl _, heap_alloc_new _ _, Nat.le_refl _, Nat.zero_le _, rfl, rfl⟩⟩
/-- what a call made for itself of words -/
theorem own_words {w : World} {base : Nat} {v : Value} {n : Nat} {l : List Nat} (h : w.ownsRow base 38 1 v n (l.map fun x : Nat => Value.int .u64 x)) (hl : l.length = n) (hp : 0 < n) (hw : ∀ x ∈ l, (Lit.int .u64 (x : Nat)).wf = true) : Words w (fun k => base ≤ k) v l := by
  subst hl
  obtain ⟨g, cap, cs, rfl, hg, hr, hc, hm, _, ht⟩ := own_row h hp
  exact ⟨g, cap, cs, rfl, hr, hg, hc, hm, hp, hw, ht⟩

theorem sclone_any (A : Option Addr) (n c : Nat) (l : List Nat) (w : World) {B : Nat} (hl : Reads .u64 w B A n l) (hn : 0 < n) (hn2 : n ≤ 1000000) (hB : B ≤ w.heap.size) :
    Calls Try.prog 43 #[.slice A n c] w fun e w' => ∃ v, e = .returned v ∧ Words w' (fun k => w.heap.size ≤ k) v l ∧ Below w.heap.size w w' := by
  obtain ⟨i0, hi, hz0, hz1, hz2⟩ := info_parts infoU
  obtain ⟨hl0, hl1, hl2⟩ := id hl
  obtain ⟨b, off, rfl, hbB, _⟩ := hl2 hn
  have HL := Lib.hid hl
  have HL0 := Lib.hid hl0
  have HL1 := Lib.hid hl1
  clear hl hl0 hl1 hl2
  have hq := fun w => Go.Lib.run_eql_slice_nil (P := Try.prog) w 47 38 (some ⟨b, off, none⟩) n c 0 0 Try.underlying47
  go_enter Try.func43, Try.ntmps43
  go_wp2_with (with_reducible refine stopAt 7 ?_)
  unfold Hid
  refine wpList_append_list _ rfl _ _ 47 rfl w.heap.size 38 i0 (.int .u64 0) 8 Try.underlying47 hi hz0 hz1 hz2 rfl _ 0 [] rfl (ownsRow_made w 38) (some ⟨b, off, none⟩) n c (l.map fun x : Nat => Value.int .u64 x) rfl (by rw [List.length_map]; exact HL0.out) (HL.out.keep ((Below.refl _ w).alloc (by omega) _ : Below B w _)).source cells_int (by omega) (by omega) (by simp) ?_
  intro v' w' hown hb
  rw [Nat.zero_add, List.nil_append] at hown
  have HO := Lib.hid hown
  have HB := Lib.hid (((Below.refl w.heap.size w).alloc (Nat.le_refl _) _).trans hb)
  clear hown hb
  go_wp2
  go_ret
  exact ⟨v', rfl, own_words HO.out HL0.out hn HL1.out, HB.out⟩

set_option maxRecDepth 100000 in
theorem mclone_any (b n : Nat) (f : Int → Option Value) (w : World) (h : MapF w b n f) :
    Calls Try.prog 40 #[.map (some b)] w fun e w' => e = .returned (.map (some w.heap.size)) ∧ MapF w' w.heap.size n f ∧ Below w.heap.size w w' ∧ w'.heap.size = w.heap.size + 1 := by
  obtain ⟨D, ⟨es, clock, hb, hF, hs, hD⟩, hFn⟩ := h
  have hq := fun w => Go.Proofs.run_eql_map_nil_sl (P := Try.prog) w 59 _ _ (some b) Try.underlying59
  have HK : Hid (MapF (w.alloc (.map es clock)) w.heap.size n f) := ⟨D, ⟨es, clock, (MapKept.heap_alloc w _).1, hF, hs, hD⟩, hFn⟩
  clear hF hD hFn
  go_enter Try.func40, Try.ntmps40
  go_wp2
  rw [run_callFunc_extern Try.func53 (by kernel_rfl) (by kernel_rfl) (by kernel_rfl) (e := Extern.MapsClone.clone) (by kernel_rfl), Go.Proofs.run_maps_clone_sl w 59 hb]
  simp only [Result.andThen]
  rw [Oper.upon_value]
  go_wp2
  rw [Go.Proofs.run_typeAssert_map_sl _ 59 20 _ _ _ Try.underlying59]
  simp only [Result.andThen]
  rw [Oper.upon_value]
  go_wp2
  go_ret
  exact ⟨rfl, HK.out, (Below.refl _ w).alloc (Nat.le_refl _) _, by simp⟩

/-- out is fd, and fs where nothing is left -/
def Mid (out fd fs : Int → Option Value) (left : Lit → Bool) : Prop := ∀ x, I64 x → (left (.int .i64 x) = true → out x = fd x) ∧ (left (.int .i64 x) = false → out x = over fs fd x)
set_option maxHeartbeats 2000000 in
set_option maxRecDepth 100000 in
theorem mcopy_any (bd nd bs ns : Nat) (fd fs : Int → Option Value) (w : World) (hd : MapF w bd nd fd) (hs : MapF w bs ns fs) (hne : bd ≠ bs) (hroom : nd + ns ≤ 10000000) :
    Calls Try.prog 52 #[.map (some bd), .map (some bs)] w fun e w' => e = .returned (.tuple #[]) ∧ MapF w' bd (nd + ns) (over fs fd) ∧ w.grownBy w' (some bd) := by
  have hbd := hd.lt
  have hbs := hs.lt
  obtain ⟨Ds, hs, hfs⟩ := hs
  have hsz := hs.size_le
  have hmax : nd + ns < maxLen := by unfold maxLen; omega
  go_enter Try.func52, Try.ntmps52
  go_wp2_with (first
    | (at_range; refine wpList_range_own _ rfl _ 59 rfl 3 47 law Try.underlying59 keepV bs ns _ rfl hs ?_; intro w0 hrg0 hg0 hs0)
    | go_in)
  go_frame
  go_loopw [8] (fun _ wr => ∃ (left : Lit → Bool) (cnt : Nat) (out : Int → Option Value), wr.ranges Try.prog 3 keepV bs w.heap.size ns Ds left cnt ∧ cnt ≤ ns ∧
      MapF wr bd (nd + (ns - cnt)) out ∧ Mid out fd fs left ∧ w.grownBy wr (some bd))
    (fun _ wr => wr.rangeLeft bs w.heap.size)
  case atStart =>
    refine ⟨_, _, fd, hrg0, hsz, (hd.same (hg0.block bd hbd (by simp))).mono (by omega), fun x hx => ⟨fun _ => rfl, fun h => ?_⟩, hg0.but _⟩
    rcases hfx : fs x with _ | v
    · simp [over, hfx]
    · rw [(hfs.2.2 x v hx hfx).1] at h; cases h
  case round =>
    obtain ⟨left, cnt, out, hrg, hcs, hout, hM, hgw⟩ := hrel
    go_wp2_with (first
      | (at_next; refine wpList_next_ranges _ rfl _ rfl 3 law keepV id id (fun key _ _ => ⟨key, rfl⟩) (fun v _ _ => ⟨v, rfl⟩) bs w.heap.size ns _ _ _ rfl hrg ?_ ?_)
      | go_in)
    · intro hc0 hl0
      go_wp2
      go_end0
      refine ⟨rfl, ?_, hgw⟩
      obtain ⟨D, h1, h2, h3, h4⟩ := hout
      refine ⟨D, h1.mono (by omega), h2, fun x hx hn => h3 x hx ?_, fun x v hx hv => h4 x v hx ?_⟩
      · rw [(hM x hx).2 (hl0 _)]; exact hn
      · rw [(hM x hx).2 (hl0 _)]; exact hv
    · intro x c kl yd yp w1 cnt1 hkey hlx hv hat hrg1 hlt hg1 hs1 hen
      obtain ⟨x', ex, rfl, hwx⟩ := Maps.keyOf_int_inv Try.underlying3 hkey
      have ex : x = .int .i64 x' := ex
      subst ex
      have hc : yd = .held c := by unfold keepV at hv; injection hv with hv; injection hv with hv; exact hv.symm
      subst hc
      have hfx := hfs.found hwx hat
      obtain ⟨D, h1, h2⟩ := hout
      have hout1 := h1.kept hg1 (fun e => by have := Option.some.inj e; omega)
      go_wp2_with (first
        | (at_mapUpdate; refine wpList_mapUpdate_own _ rfl _ _ _ 59 rfl 3 47 law Try.underlying59 keepV bd _ _ rfl hout1 (by omega) _ _ _ rfl rfl hkey (.held c) yp hv ?_; intro w2 hout2 hg2; go_frame)
        | go_in)
      have hrg2 := hrg1.kept hg2 (fun e => hne (Option.some.inj e).symm) (fun e => by have := Option.some.inj e; omega)
      go_roundw
      case rel =>
        refine ⟨_, cnt1, upd out x' c, hrg2, by omega, ⟨_, hout2.mono (by omega), h2.put hwx c⟩, fun z hz => ?_, (hgw.andThen hg1 (fun j hj => .inl (by cases hj; exact Nat.le_refl _))).andThen hg2 (fun j hj => .inr hj)⟩
        by_cases e : z = x'
        · subst e
          refine ⟨fun h => ?_, fun _ => ?_⟩
          · dsimp only at h; rw [WideAt.sameKey_self (litI hz)] at h; simp at h
          · rw [upd_same]; simp [over, hfx]
        · have hk : (Lit.int IntKind.i64 z).sameKey (.int .i64 x') = false := Maps.sameKey_ne fun e' => e (by injection e')
          rw [upd_other _ _ e]
          dsimp only
          rw [hk]
          simpa using hM z hz
      case measure => rw [hrg2.left_eq, hrg.left_eq]; exact hlt
end Go.Proofs.Ythdibijkiogpjaa
