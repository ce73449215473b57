/- A reader's next block, and its next tuple. -/
import Derived.Test.YtbkgpilmgllkiaaFileClose
import Derived.Test.YtbkgpilmgllkiaaFileRead
namespace Go.Proofs.Ytbkgpilmgllkiaa
open Go.ChangeShapes Go.WideShapes Go.ChangeAt Go.RowKit

theorem now_len8 {s : St} {n : Nat} (h : Fits s n) (x : Int) : (s.now x).length = s.size := by
  unfold St.now blk
  split
  · next l hl => exact lay_all (fun l => l.length = s.size) s.later s.fl h.fl (fun e he => (h.later e he).2) x l hl
  · simp
theorem tag_u64 {b : List Nat} (h : ∀ x ∈ b, x < 18446744073709551616) : tagW b < 18446744073709551616 := by
  unfold tagW
  rw [List.getD_eq_getElem?_getD]
  rcases hx : b[b.length - 2]? with _ | x
  · simp
  · exact h x (List.mem_of_getElem? hx)
theorem splice_len0 {α : Type} (ws l : List α) (h : l.length ≤ ws.length) : (splice ws 0 l).length = ws.length := by unfold splice; simp; omega
theorem set5 {w : World} {g : Nat} {t : TypeId} {a b c d e : Value} (h : Row w g t [a, b, c, d, e]) (v0 v1 v2 v3 v4 : Value) : Row (((((w.setCell ⟨g, 0, none⟩ v0).setCell ⟨g, 1, none⟩ v1).setCell ⟨g, 2, none⟩ v2).setCell ⟨g, 3, none⟩ v3).setCell ⟨g, 4, none⟩ v4) g t [v0, v1, v2, v3, v4] :=
  ((((h.set 0 v0).set 1 v1).set 2 v2).set 3 v3).set 4 v4
theorem far5 (w : World) (g : Nat) (v0 v1 v2 v3 v4 : Value) : Far (fun k => k = g) w (((((w.setCell ⟨g, 0, none⟩ v0).setCell ⟨g, 1, none⟩ v1).setCell ⟨g, 2, none⟩ v2).setCell ⟨g, 3, none⟩ v3).setCell ⟨g, 4, none⟩ v4) :=
  (((((Far.refl (fun k => k = g) w).set (p := ⟨g, 0, none⟩) (.inl rfl) v0).set (p := ⟨g, 1, none⟩) (.inl rfl) v1).set (p := ⟨g, 2, none⟩) (.inl rfl) v2).set (p := ⟨g, 3, none⟩) (.inl rfl) v3).set (p := ⟨g, 4, none⟩) (.inl rfl) v4
theorem splice_mapf {α β : Type} (f : α → β) (ws l : List α) (off : Nat) : splice (ws.map f) off (l.map f) = (splice ws off l).map f := by unfold splice; simp [List.map_take, List.map_drop]
theorem splice_u64s {ws l : List Nat} (h : U64s ws) (hl : ∀ y ∈ l, y < 18446744073709551616) : U64s (splice ws 0 l) := by
  intro y hy
  unfold splice at hy
  rcases List.mem_append.1 hy with hy | hy
  · exact h y (List.mem_of_mem_take hy)
  · rcases List.mem_append.1 hy with hy | hy
    · exact hl y hy
    · exact h y (List.mem_of_mem_drop hy)
theorem sys_read {w : World} {G : Nat → Prop} {p : Wp} {F : Fs} {n : Nat} (h : Sys w G p F n) (hn : n < 1000000) (i : Int) (hi : I64 i) :
    Calls Try.prog 73 #[.pointer (some ⟨p.d, 0, none⟩), .int .i64 i] w fun e w' => ∃ v, e = .returned (.tuple #[v, .int .i64 (read F.D i).1]) ∧ ((read F.D i).1 ≠ 0 → v = .slice none 0 0) ∧
      ((read F.D i).1 = 0 → ∃ A c, v = .slice A F.D.size c ∧ F.D.size ≤ c ∧ Reads .u64 w' w'.heap.size A F.D.size (F.D.now i)) ∧ SysTo w G p { F with D := (read F.D i).2 } (n + 1) w' := by
  obtain ⟨Gd, hd, hback⟩ := h.dev
  have hnl := now_len8 hd.fits i
  refine (read_any p.d F.D n Gd i w hd hn hi).mono ?_
  rintro e w' ⟨v, he, h1, h2, h3, h4⟩
  refine ⟨v, he, h1, fun h0 => ?_, hback _ _ _ ⟨Gd, h3, h4.mono fun k hk => by rw [hk]; exact hd.mine, fun k hk => .inl hk⟩⟩
  have hw4 := h2 h0
  obtain ⟨A, c, e1, _, e2⟩ := hw4.reads
  obtain ⟨g', c', cs, e3, _, _, e4, _⟩ := id hw4
  rw [hnl] at e1 e2 e4 e3
  rw [e1] at e3
  injection e3 with e3 _ e5
  exact ⟨A, c, e1, by omega, e2⟩
/-- behind the reading of a block: what the reader's buffer holds then -/
def Blk (w : World) (G : Nat → Prop) (p : Wp) (F : Fs) (n x : Nat) (r : Rt) (ws : List Nat) (w' : World) : Prop :=
  ∃ G', Sys w' G' p F n ∧ RMem w' x p r F.D.size ws ∧ Far (fun k => G k ∨ k = r.g) w w' ∧ ∀ k, G' k → G k ∨ w.heap.size ≤ k
theorem SysTo.blk {w w' : World} {G : Nat → Prop} {p : Wp} {F F' : Fs} {n' x : Nat} {r : Rt} {ws : List Nat} (h : SysTo w G p F' n' w') (hs : F'.D.size = F.D.size) (hm : RMem w x p r F.D.size ws) (ho : ROut G x r) : Blk w G p F' n' x r ws w' := by
  obtain ⟨G', h1, h2, h3⟩ := h
  refine ⟨G', h1, ?_, h2.mono fun k hk => .inl hk, h3⟩
  rw [hs]; exact hm.far h2 ho.x ho.b ho.g
/-- the buffer's words turned as well -/
theorem SysTo.blk_set {w w1 w' : World} {G : Nat → Prop} {p : Wp} {F F' : Fs} {n' x : Nat} {r : Rt} {ws ws' : List Nat} (h : SysTo w G p F' n' w1) (hs : F'.D.size = F.D.size) (hm : RMem w x p r F.D.size ws) (ho : ROut G x r)
    (hf : Far (fun k => k = r.g) w1 w') (hr : Row w' r.g 69 (ws'.map vw)) (hl : ws'.length = F.D.size) (hu : U64s ws') : Blk w G p F' n' x r ws' w' := by
  obtain ⟨hx, hb, hg⟩ := hm.lt
  obtain ⟨a1, a2, a3⟩ := hm.apart
  obtain ⟨G', h1, h2, h3, h4⟩ := h.apart
  have hm1 := hm.far h2 ho.x ho.b ho.g
  have hng : ¬ G' r.g := h4 _ hg ho.g
  refine ⟨G', h1.far hf (fun k hk e => hng (e ▸ hk)) fun q hq e => ?_, ?_, (h2.mono fun k hk => .inl hk).trans hf (fun b hb => .inl (.inr hb)), h3⟩
  · have := (h1.buf hq).1
    obtain ⟨v, hv⟩ := this
    exact absurd ((e ▸ hv : Row w1 r.g 130 _).typed hm1.words) (by decide)
  · rw [hs]
    exact ⟨hf.row hm1.row a2, hf.row hm1.buf a3, hr, hl, hu⟩

set_option maxHeartbeats 4000000 in
set_option maxRecDepth 100000 in
theorem rblk_err {w : World} {G : Nat → Prop} {p : Wp} {F : Fs} {n x : Nat} {r : Rt} {ws : List Nat} (h : Sys w G p F n) (hn : n < 1000000) (hok : RtOk r F.D.size) (hm : RMem w x p r F.D.size ws) (ho : ROut G x r) (hpos : r.pos < r.count)
    (he : (read F.D ((r.first + r.pos / r.h : Nat) : Int)).1 ≠ 0) :
    Calls Try.prog 52 #[.pointer (some ⟨x, 0, none⟩)] w fun e w' => e = .returned (.int .i64 (read F.D ((r.first + r.pos / r.h : Nat) : Int)).1) ∧ Blk w G p { F with D := (read F.D ((r.first + r.pos / r.h : Nat) : Int)).2 } (n + 1) x r ws w' := by
  obtain ⟨hx, hbw, hgw⟩ := hm.lt
  have hsz := hok.sz
  have hk := hok.k
  have hh := hok.h
  have hct := hok.count
  have hfi := hok.first
  have hnl := now_len8 h.fits ((r.first + r.pos / r.h : Nat) : Int)
  have hmm0 := Nat.le_trans (Nat.mul_le_mul_right r.k (Nat.min_le_left r.h (r.count - r.pos / r.h * r.h))) hh.2.1
  have hsr : (read F.D ((r.first + r.pos / r.h : Nat) : Int)).2.size = F.D.size := (now_read F.D ((r.first + r.pos / r.h : Nat) : Int) 0).2.1
  have HP0 : Hid (∀ W, SysTo w G p { F with D := (read F.D ((r.first + r.pos / r.h : Nat) : Int)).2 } (n + 1) W → Blk w G p { F with D := (read F.D ((r.first + r.pos / r.h : Nat) : Int)).2 } (n + 1) x r ws W) := fun W h1 => h1.blk hsr hm ho
  have HP1 : Hid (∀ W1 W ws', SysTo w G p { F with D := (read F.D ((r.first + r.pos / r.h : Nat) : Int)).2 } (n + 1) W1 → Far (fun k => k = r.g) W1 W → Row W r.g 69 (ws'.map vw) → ws'.length = F.D.size → U64s ws' → Blk w G p { F with D := (read F.D ((r.first + r.pos / r.h : Nat) : Int)).2 } (n + 1) x r ws' W) := fun W1 W ws' h1 h2 h3 h4 h5 => h1.blk_set hsr hm ho h2 h3 h4 h5
  have hjq : r.pos / r.h ≤ r.pos := Nat.div_le_self _ _
  have hjh : r.pos / r.h * r.h ≤ r.count := Nat.le_trans (Nat.div_mul_le_self _ _) (by omega)
  have HW : Hid (∀ W, Calls Try.prog 75 #[.agg #[.int .i64 r.k, .int .i64 r.h], .int .i64 (r.pos / r.h : Nat), .int .i64 r.count] W fun e w' => e = .returned (.int .i64 (min r.h (r.count - r.pos / r.h * r.h) * r.k : Nat)) ∧ Below W.heap.size W w') := fun W => wrds_any r.k r.h (r.pos / r.h) r.count W hk.2 hh.2.2 hct.1 hjh
  have hi64 : I64 ((r.first + r.pos / r.h : Nat) : Int) := by
    have hb : r.first + r.pos / r.h ≤ 200000000 := by omega
    generalize r.first + r.pos / r.h = z at hb
    exact I64.of (by omega) (by omega)
  have hq : Int.tdiv (r.pos : Int) (r.h : Int) = ((r.pos / r.h : Nat) : Int) := rfl
  have hadl : r.first + r.pos / r.h ≤ 200000000 := by clear hq; omega
  have had : (r.first : Int) + ((r.pos / r.h : Nat) : Int) = ((r.first + r.pos / r.h : Nat) : Int) := by clear hq; omega
  have HRD : Hid (∀ W, Below w.heap.size w W → Calls Try.prog 73 #[.pointer (some ⟨p.d, 0, none⟩), .int .i64 (r.first + r.pos / r.h : Nat)] W fun e w' => ∃ v, e = .returned (.tuple #[v, .int .i64 (read F.D ((r.first + r.pos / r.h : Nat) : Int)).1]) ∧ ((read F.D ((r.first + r.pos / r.h : Nat) : Int)).1 ≠ 0 → v = .slice none 0 0) ∧
      ((read F.D ((r.first + r.pos / r.h : Nat) : Int)).1 = 0 → ∃ A c, v = .slice A F.D.size c ∧ F.D.size ≤ c ∧ Reads .u64 w' w'.heap.size A F.D.size (F.D.now ((r.first + r.pos / r.h : Nat) : Int))) ∧ SysTo w G p { F with D := (read F.D ((r.first + r.pos / r.h : Nat) : Int)).2 } (n + 1) w') := fun W hb =>
    (sys_read (h.below hb) hn _ hi64).mono fun e w' ⟨v, h1, h2, h3, h4⟩ => ⟨v, h1, h2, h3, h4.behind hb⟩
  have HNR : Hid (∀ W, SysTo w G p { F with D := (read F.D ((r.first + r.pos / r.h : Nat) : Int)).2 } (n + 1) W → Row W x 126 (rdC p r) ∧ Row W r.b 130 [.slice (some ⟨r.g, 0, none⟩) F.D.size F.D.size] ∧ Row W r.g 69 (ws.map vw)) := fun W h1 => ⟨h1.row hm.row ho.x, h1.row hm.buf ho.b, h1.row hm.words ho.g⟩
  have HWL : Hid (ws.length = F.D.size ∧ U64s ws) := ⟨hm.len, hm.u64⟩
  have r0 := hm.row.below (below_drew (Below.refl _ _)) hx
  have r1 := (h.below (below_drew (Below.refl _ _))).row
  have c3 : w.cell? ⟨x, 7, none⟩ = some (.int .i64 r.pos) := hm.row.cell 7
  have c1 : w.cell? ⟨x, 1, none⟩ = some (.int .i64 r.h) := hm.row.cell 1
  have d2 : w.drew.cell? ⟨x, 3, none⟩ = some (.int .i64 r.first) := r0.cell 3
  have d5 : w.drew.cell? ⟨x, 2, none⟩ = some (.pointer (some ⟨p.w, 0, none⟩)) := r0.cell 2
  have d6 : w.drew.cell? ⟨p.w, 0, none⟩ = some (.pointer (some ⟨p.d, 0, none⟩)) := r1.cell 0
  have hh0 : ¬ ((r.h : Int) = 0) := by omega
  have HB1 : Hid (Below w.heap.size w w.drew) := below_drew (Below.refl _ _)
  clear r0 r1 hm ho hok h hsr hx hbw hgw
  generalize ({ F with D := (read F.D ((r.first + r.pos / r.h : Nat) : Int)).2 } : Fs) = F1 at *
  generalize (read F.D ((r.first + r.pos / r.h : Nat) : Int)).1 = er at *
  generalize min r.h (r.count - r.pos / r.h * r.h) * r.k = m at *
  obtain ⟨k, hh2, first, blocks, count, pos, b, g⟩ := r
  unfold rdC at *
  simp only at *
  generalize pos / hh2 = j at *
  generalize first + j = ad at *
  generalize F.D.now (ad : Int) = bl at *
  generalize F.D.size = size at *
  generalize Blk w G p F1 (n + 1) x ⟨k, hh2, first, blocks, count, pos, b, g⟩ = POST at *
  have g9 : (er != 0) = true := by simpa using he
  clear HP1 HNR HWL HW
  go_enter Try.func52, Try.ntmps52
  go_wp2
  go_region
  go_wp2_with fail
  refine (HRD.out _ HB1.out).mono ?_; rintro e w4 ⟨v, rfl, hv, _, h4⟩
  have H4 := Lib.hid (HP0.out w4 h4)
  clear h4 HP0 HRD hv
  go_wp2
  go_ret
  exact ⟨rfl, H4.out⟩

set_option maxHeartbeats 4000000 in
set_option maxRecDepth 100000 in
theorem rblk_bad {w : World} {G : Nat → Prop} {p : Wp} {F : Fs} {n x : Nat} {r : Rt} {ws : List Nat} (h : Sys w G p F n) (hn : n < 1000000) (hok : RtOk r F.D.size) (hm : RMem w x p r F.D.size ws) (ho : ROut G x r) (hpos : r.pos < r.count)
    (he : (read F.D ((r.first + r.pos / r.h : Nat) : Int)).1 = 0) (hk0 : okW (F.D.now ((r.first + r.pos / r.h : Nat) : Int)) (r.first + r.pos / r.h) = false) :
    Calls Try.prog 52 #[.pointer (some ⟨x, 0, none⟩)] w fun e w' => e = .returned (.int .i64 6) ∧ Blk w G p { F with D := (read F.D ((r.first + r.pos / r.h : Nat) : Int)).2 } (n + 1) x r ws w' := by
  obtain ⟨hx, hbw, hgw⟩ := hm.lt
  have hsz := hok.sz
  have hk := hok.k
  have hh := hok.h
  have hct := hok.count
  have hfi := hok.first
  have hnl := now_len8 h.fits ((r.first + r.pos / r.h : Nat) : Int)
  have hmm0 := Nat.le_trans (Nat.mul_le_mul_right r.k (Nat.min_le_left r.h (r.count - r.pos / r.h * r.h))) hh.2.1
  have hsr : (read F.D ((r.first + r.pos / r.h : Nat) : Int)).2.size = F.D.size := (now_read F.D ((r.first + r.pos / r.h : Nat) : Int) 0).2.1
  have HP0 : Hid (∀ W, SysTo w G p { F with D := (read F.D ((r.first + r.pos / r.h : Nat) : Int)).2 } (n + 1) W → Blk w G p { F with D := (read F.D ((r.first + r.pos / r.h : Nat) : Int)).2 } (n + 1) x r ws W) := fun W h1 => h1.blk hsr hm ho
  have HP1 : Hid (∀ W1 W ws', SysTo w G p { F with D := (read F.D ((r.first + r.pos / r.h : Nat) : Int)).2 } (n + 1) W1 → Far (fun k => k = r.g) W1 W → Row W r.g 69 (ws'.map vw) → ws'.length = F.D.size → U64s ws' → Blk w G p { F with D := (read F.D ((r.first + r.pos / r.h : Nat) : Int)).2 } (n + 1) x r ws' W) := fun W1 W ws' h1 h2 h3 h4 h5 => h1.blk_set hsr hm ho h2 h3 h4 h5
  have hjq : r.pos / r.h ≤ r.pos := Nat.div_le_self _ _
  have hjh : r.pos / r.h * r.h ≤ r.count := Nat.le_trans (Nat.div_mul_le_self _ _) (by omega)
  have HW : Hid (∀ W, Calls Try.prog 75 #[.agg #[.int .i64 r.k, .int .i64 r.h], .int .i64 (r.pos / r.h : Nat), .int .i64 r.count] W fun e w' => e = .returned (.int .i64 (min r.h (r.count - r.pos / r.h * r.h) * r.k : Nat)) ∧ Below W.heap.size W w') := fun W => wrds_any r.k r.h (r.pos / r.h) r.count W hk.2 hh.2.2 hct.1 hjh
  have hi64 : I64 ((r.first + r.pos / r.h : Nat) : Int) := by
    have hb : r.first + r.pos / r.h ≤ 200000000 := by omega
    generalize r.first + r.pos / r.h = z at hb
    exact I64.of (by omega) (by omega)
  have hq : Int.tdiv (r.pos : Int) (r.h : Int) = ((r.pos / r.h : Nat) : Int) := rfl
  have hadl : r.first + r.pos / r.h ≤ 200000000 := by clear hq; omega
  have had : (r.first : Int) + ((r.pos / r.h : Nat) : Int) = ((r.first + r.pos / r.h : Nat) : Int) := by clear hq; omega
  have HRD : Hid (∀ W, Below w.heap.size w W → Calls Try.prog 73 #[.pointer (some ⟨p.d, 0, none⟩), .int .i64 (r.first + r.pos / r.h : Nat)] W fun e w' => ∃ v, e = .returned (.tuple #[v, .int .i64 (read F.D ((r.first + r.pos / r.h : Nat) : Int)).1]) ∧ ((read F.D ((r.first + r.pos / r.h : Nat) : Int)).1 ≠ 0 → v = .slice none 0 0) ∧
      ((read F.D ((r.first + r.pos / r.h : Nat) : Int)).1 = 0 → ∃ A c, v = .slice A F.D.size c ∧ F.D.size ≤ c ∧ Reads .u64 w' w'.heap.size A F.D.size (F.D.now ((r.first + r.pos / r.h : Nat) : Int))) ∧ SysTo w G p { F with D := (read F.D ((r.first + r.pos / r.h : Nat) : Int)).2 } (n + 1) w') := fun W hb =>
    (sys_read (h.below hb) hn _ hi64).mono fun e w' ⟨v, h1, h2, h3, h4⟩ => ⟨v, h1, h2, h3, h4.behind hb⟩
  have HNR : Hid (∀ W, SysTo w G p { F with D := (read F.D ((r.first + r.pos / r.h : Nat) : Int)).2 } (n + 1) W → Row W x 126 (rdC p r) ∧ Row W r.b 130 [.slice (some ⟨r.g, 0, none⟩) F.D.size F.D.size] ∧ Row W r.g 69 (ws.map vw)) := fun W h1 => ⟨h1.row hm.row ho.x, h1.row hm.buf ho.b, h1.row hm.words ho.g⟩
  have HWL : Hid (ws.length = F.D.size ∧ U64s ws) := ⟨hm.len, hm.u64⟩
  have r0 := hm.row.below (below_drew (Below.refl _ _)) hx
  have r1 := (h.below (below_drew (Below.refl _ _))).row
  have c3 : w.cell? ⟨x, 7, none⟩ = some (.int .i64 r.pos) := hm.row.cell 7
  have c1 : w.cell? ⟨x, 1, none⟩ = some (.int .i64 r.h) := hm.row.cell 1
  have d2 : w.drew.cell? ⟨x, 3, none⟩ = some (.int .i64 r.first) := r0.cell 3
  have d5 : w.drew.cell? ⟨x, 2, none⟩ = some (.pointer (some ⟨p.w, 0, none⟩)) := r0.cell 2
  have d6 : w.drew.cell? ⟨p.w, 0, none⟩ = some (.pointer (some ⟨p.d, 0, none⟩)) := r1.cell 0
  have hh0 : ¬ ((r.h : Int) = 0) := by omega
  have HB1 : Hid (Below w.heap.size w w.drew) := below_drew (Below.refl _ _)
  clear r0 r1 hm ho hok h hsr hx hbw hgw
  generalize ({ F with D := (read F.D ((r.first + r.pos / r.h : Nat) : Int)).2 } : Fs) = F1 at *
  generalize (read F.D ((r.first + r.pos / r.h : Nat) : Int)).1 = er at *
  generalize min r.h (r.count - r.pos / r.h * r.h) * r.k = m at *
  obtain ⟨k, hh2, first, blocks, count, pos, b, g⟩ := r
  unfold rdC at *
  simp only at *
  generalize pos / hh2 = j at *
  generalize first + j = ad at *
  generalize F.D.now (ad : Int) = bl at *
  generalize F.D.size = size at *
  generalize Blk w G p F1 (n + 1) x ⟨k, hh2, first, blocks, count, pos, b, g⟩ = POST at *
  subst he
  clear HP1 HNR HWL HW
  go_enter Try.func52, Try.ntmps52
  go_wp2
  go_region
  go_wp2_with fail
  refine (HRD.out _ HB1.out).mono ?_; rintro e w4 ⟨v, rfl, _, hv, h4⟩
  obtain ⟨A, c, rfl, hsc, hra⟩ := hv (by trivial)
  have HG := Lib.hid (get_may A size c ad bl w4 hra (Nat.le_refl _) hsc hsz.1 hsz.2 (by omega))
  have H4 := Lib.hid h4
  have HP2 : Hid (∀ W, Below w4.heap.size w4 W → POST ws W) := fun W hb => HP0.out W (h4.ahead hb)
  clear h4 HP0 HRD hv hra H4
  go_wp2_with fail
  refine HG.out.mono ?_
  rintro e w5 (⟨_, rfl, hb⟩ | ⟨hok2, _⟩)
  · have H5 := Lib.hid (HP2.out w5 hb)
    clear HP2 HG hb
    go_wp2
    go_ret
    exact ⟨rfl, H5.out⟩
  · exact absurd (hk0.symm.trans hok2) (by decide)

set_option maxHeartbeats 4000000 in
set_option maxRecDepth 100000 in
theorem rblk_tag {w : World} {G : Nat → Prop} {p : Wp} {F : Fs} {n x : Nat} {r : Rt} {ws : List Nat} (h : Sys w G p F n) (hn : n < 1000000) (hok : RtOk r F.D.size) (hm : RMem w x p r F.D.size ws) (ho : ROut G x r) (hpos : r.pos < r.count)
    (he : (read F.D ((r.first + r.pos / r.h : Nat) : Int)).1 = 0) (hk0 : okW (F.D.now ((r.first + r.pos / r.h : Nat) : Int)) (r.first + r.pos / r.h) = true) (htg : tagW (F.D.now ((r.first + r.pos / r.h : Nat) : Int)) ≠ r.k) :
    Calls Try.prog 52 #[.pointer (some ⟨x, 0, none⟩)] w fun e w' => e = .returned (.int .i64 6) ∧ Blk w G p { F with D := (read F.D ((r.first + r.pos / r.h : Nat) : Int)).2 } (n + 1) x r ws w' := by
  obtain ⟨hx, hbw, hgw⟩ := hm.lt
  have hsz := hok.sz
  have hk := hok.k
  have hh := hok.h
  have hct := hok.count
  have hfi := hok.first
  have hnl := now_len8 h.fits ((r.first + r.pos / r.h : Nat) : Int)
  have hmm0 := Nat.le_trans (Nat.mul_le_mul_right r.k (Nat.min_le_left r.h (r.count - r.pos / r.h * r.h))) hh.2.1
  have hsr : (read F.D ((r.first + r.pos / r.h : Nat) : Int)).2.size = F.D.size := (now_read F.D ((r.first + r.pos / r.h : Nat) : Int) 0).2.1
  have HP0 : Hid (∀ W, SysTo w G p { F with D := (read F.D ((r.first + r.pos / r.h : Nat) : Int)).2 } (n + 1) W → Blk w G p { F with D := (read F.D ((r.first + r.pos / r.h : Nat) : Int)).2 } (n + 1) x r ws W) := fun W h1 => h1.blk hsr hm ho
  have HP1 : Hid (∀ W1 W ws', SysTo w G p { F with D := (read F.D ((r.first + r.pos / r.h : Nat) : Int)).2 } (n + 1) W1 → Far (fun k => k = r.g) W1 W → Row W r.g 69 (ws'.map vw) → ws'.length = F.D.size → U64s ws' → Blk w G p { F with D := (read F.D ((r.first + r.pos / r.h : Nat) : Int)).2 } (n + 1) x r ws' W) := fun W1 W ws' h1 h2 h3 h4 h5 => h1.blk_set hsr hm ho h2 h3 h4 h5
  have hjq : r.pos / r.h ≤ r.pos := Nat.div_le_self _ _
  have hjh : r.pos / r.h * r.h ≤ r.count := Nat.le_trans (Nat.div_mul_le_self _ _) (by omega)
  have HW : Hid (∀ W, Calls Try.prog 75 #[.agg #[.int .i64 r.k, .int .i64 r.h], .int .i64 (r.pos / r.h : Nat), .int .i64 r.count] W fun e w' => e = .returned (.int .i64 (min r.h (r.count - r.pos / r.h * r.h) * r.k : Nat)) ∧ Below W.heap.size W w') := fun W => wrds_any r.k r.h (r.pos / r.h) r.count W hk.2 hh.2.2 hct.1 hjh
  have hi64 : I64 ((r.first + r.pos / r.h : Nat) : Int) := by
    have hb : r.first + r.pos / r.h ≤ 200000000 := by omega
    generalize r.first + r.pos / r.h = z at hb
    exact I64.of (by omega) (by omega)
  have hq : Int.tdiv (r.pos : Int) (r.h : Int) = ((r.pos / r.h : Nat) : Int) := rfl
  have hadl : r.first + r.pos / r.h ≤ 200000000 := by clear hq; omega
  have had : (r.first : Int) + ((r.pos / r.h : Nat) : Int) = ((r.first + r.pos / r.h : Nat) : Int) := by clear hq; omega
  have HRD : Hid (∀ W, Below w.heap.size w W → Calls Try.prog 73 #[.pointer (some ⟨p.d, 0, none⟩), .int .i64 (r.first + r.pos / r.h : Nat)] W fun e w' => ∃ v, e = .returned (.tuple #[v, .int .i64 (read F.D ((r.first + r.pos / r.h : Nat) : Int)).1]) ∧ ((read F.D ((r.first + r.pos / r.h : Nat) : Int)).1 ≠ 0 → v = .slice none 0 0) ∧
      ((read F.D ((r.first + r.pos / r.h : Nat) : Int)).1 = 0 → ∃ A c, v = .slice A F.D.size c ∧ F.D.size ≤ c ∧ Reads .u64 w' w'.heap.size A F.D.size (F.D.now ((r.first + r.pos / r.h : Nat) : Int))) ∧ SysTo w G p { F with D := (read F.D ((r.first + r.pos / r.h : Nat) : Int)).2 } (n + 1) w') := fun W hb =>
    (sys_read (h.below hb) hn _ hi64).mono fun e w' ⟨v, h1, h2, h3, h4⟩ => ⟨v, h1, h2, h3, h4.behind hb⟩
  have HNR : Hid (∀ W, SysTo w G p { F with D := (read F.D ((r.first + r.pos / r.h : Nat) : Int)).2 } (n + 1) W → Row W x 126 (rdC p r) ∧ Row W r.b 130 [.slice (some ⟨r.g, 0, none⟩) F.D.size F.D.size] ∧ Row W r.g 69 (ws.map vw)) := fun W h1 => ⟨h1.row hm.row ho.x, h1.row hm.buf ho.b, h1.row hm.words ho.g⟩
  have HWL : Hid (ws.length = F.D.size ∧ U64s ws) := ⟨hm.len, hm.u64⟩
  have r0 := hm.row.below (below_drew (Below.refl _ _)) hx
  have r1 := (h.below (below_drew (Below.refl _ _))).row
  have c3 : w.cell? ⟨x, 7, none⟩ = some (.int .i64 r.pos) := hm.row.cell 7
  have c1 : w.cell? ⟨x, 1, none⟩ = some (.int .i64 r.h) := hm.row.cell 1
  have d2 : w.drew.cell? ⟨x, 3, none⟩ = some (.int .i64 r.first) := r0.cell 3
  have d5 : w.drew.cell? ⟨x, 2, none⟩ = some (.pointer (some ⟨p.w, 0, none⟩)) := r0.cell 2
  have d6 : w.drew.cell? ⟨p.w, 0, none⟩ = some (.pointer (some ⟨p.d, 0, none⟩)) := r1.cell 0
  have hh0 : ¬ ((r.h : Int) = 0) := by omega
  have HB1 : Hid (Below w.heap.size w w.drew) := below_drew (Below.refl _ _)
  clear r0 r1 hm ho hok h hsr hx hbw hgw
  generalize ({ F with D := (read F.D ((r.first + r.pos / r.h : Nat) : Int)).2 } : Fs) = F1 at *
  generalize (read F.D ((r.first + r.pos / r.h : Nat) : Int)).1 = er at *
  generalize min r.h (r.count - r.pos / r.h * r.h) * r.k = m at *
  obtain ⟨k, hh2, first, blocks, count, pos, b, g⟩ := r
  unfold rdC at *
  simp only at *
  generalize pos / hh2 = j at *
  generalize first + j = ad at *
  generalize F.D.now (ad : Int) = bl at *
  generalize F.D.size = size at *
  generalize Blk w G p F1 (n + 1) x ⟨k, hh2, first, blocks, count, pos, b, g⟩ = POST at *
  subst he
  have hwk : IntKind.u64.wrap (k : Int) = (k : Int) := IntWalk.u64_in _ ⟨by omega, by omega⟩
  go_enter Try.func52, Try.ntmps52
  go_wp2
  go_region
  go_wp2_with fail
  refine (HRD.out _ HB1.out).mono ?_; rintro e w4 ⟨v, rfl, _, hv, h4⟩
  obtain ⟨A, c, rfl, hsc, hra⟩ := hv (by trivial)
  have hbu : ∀ y ∈ bl, y < 18446744073709551616 := fun y hy => u64_lt (hra.2.1 y hy)
  have HBU := Lib.hid hbu
  have HTL : Hid (tagW bl < 18446744073709551616) := tag_u64 hbu
  have HG := Lib.hid (get_may A size c ad bl w4 hra (Nat.le_refl _) hsc hsz.1 hsz.2 (by omega))
  have H4 := Lib.hid h4
  obtain ⟨n0, n1, n2⟩ := HNR.out w4 h4
  have N0 := Lib.hid n0
  have N1 := Lib.hid n1
  have N2 := Lib.hid n2
  have HP2 : Hid (∀ W, Below w4.heap.size w4 W → POST ws W) := fun W hb => HP0.out W (h4.ahead hb)
  clear h4 HP0 HRD hv hra n0 n1 n2 HNR hbu
  generalize tagW bl = tg at *
  go_wp2_with fail
  refine HG.out.mono ?_
  rintro e w5 (⟨hok2, _⟩ | ⟨_, v5, rfl, hown, hb⟩)
  · exact absurd (hok2.symm.trans hk0) (by decide)
  have HTL2 := HTL.out
  have HB5 := Lib.hid hb
  have M0 := Lib.hid (N0.out.below hb N0.out.lt)
  have M1 := Lib.hid (N1.out.below hb N1.out.lt)
  have M2 := Lib.hid (N2.out.below hb N2.out.lt)
  clear hb N0 N1 N2 HG
  have k0 : ∀ d os, (Sort.grow (redrawn w5 d) os).cell? ⟨x, 0, none⟩ = some (.int .i64 k) := cell_regrown (M0.out.cell 0)
  have k1 : ∀ d os, (Sort.grow (redrawn w5 d) os).cell? ⟨x, 1, none⟩ = some (.int .i64 hh2) := cell_regrown (M0.out.cell 1)
  have k6 : ∀ d os, (Sort.grow (redrawn w5 d) os).cell? ⟨x, 6, none⟩ = some (.int .i64 count) := cell_regrown (M0.out.cell 6)
  have Q1 : Hid (∀ d os, Calls Try.prog 75 #[.agg #[.int .i64 k, .int .i64 hh2], .int .i64 j, .int .i64 count] (Sort.grow (redrawn w5 d) os) fun e w'' => e = .returned (.int .i64 (m : Nat)) ∧ ∃ p : Regrown, w'' = Sort.grow (redrawn w5 p.d) p.os) := fun d os => Calls.regrown_of (HW.out _)
  have g9 : ((tg : Int) != (k : Int)) = true := by simpa using fun h : (tg : Int) = (k : Int) => htg (by omega)
  clear hown
  go_wp2
  refine wp_region_quiet_below (by kernel_rfl) (by kernel_rfl) ?_
  repeat (any_goals (first | go_big_quiet_step (with_reducible exact Q1.out _ _) | quiet_step (with_reducible exact Q1.out _ _)))
  refine wpQuiet_nil ?_
  intro w6 hw6
  obtain ⟨⟨dq, osq⟩, hw6⟩ := hw6
  have hb6 := below_regrown w5 dq osq
  rw [← hw6] at hb6
  clear hw6 Q1 k0 k1 k6
  have H6 := Lib.hid (HP2.out w6 (HB5.out.trans (hb6.mono HB5.out.size)))
  clear HP2 hb6 HB5 M0 M1 M2 HW HP1 HWL
  go_wp2
  go_ret
  exact ⟨rfl, H6.out⟩

set_option maxHeartbeats 4000000 in
set_option maxRecDepth 100000 in
theorem rblk_num {w : World} {G : Nat → Prop} {p : Wp} {F : Fs} {n x : Nat} {r : Rt} {ws : List Nat} (h : Sys w G p F n) (hn : n < 1000000) (hok : RtOk r F.D.size) (hm : RMem w x p r F.D.size ws) (ho : ROut G x r) (hpos : r.pos < r.count)
    (he : (read F.D ((r.first + r.pos / r.h : Nat) : Int)).1 = 0) (hk0 : okW (F.D.now ((r.first + r.pos / r.h : Nat) : Int)) (r.first + r.pos / r.h) = true) (htg : tagW (F.D.now ((r.first + r.pos / r.h : Nat) : Int)) = r.k) (hnm : numW (F.D.now ((r.first + r.pos / r.h : Nat) : Int)) - 1 ≠ min r.h (r.count - r.pos / r.h * r.h) * r.k) :
    Calls Try.prog 52 #[.pointer (some ⟨x, 0, none⟩)] w fun e w' => e = .returned (.int .i64 6) ∧ Blk w G p { F with D := (read F.D ((r.first + r.pos / r.h : Nat) : Int)).2 } (n + 1) x r ws w' := by
  obtain ⟨hx, hbw, hgw⟩ := hm.lt
  have hsz := hok.sz
  have hk := hok.k
  have hh := hok.h
  have hct := hok.count
  have hfi := hok.first
  have hnl := now_len8 h.fits ((r.first + r.pos / r.h : Nat) : Int)
  have hmm0 := Nat.le_trans (Nat.mul_le_mul_right r.k (Nat.min_le_left r.h (r.count - r.pos / r.h * r.h))) hh.2.1
  have hsr : (read F.D ((r.first + r.pos / r.h : Nat) : Int)).2.size = F.D.size := (now_read F.D ((r.first + r.pos / r.h : Nat) : Int) 0).2.1
  have HP0 : Hid (∀ W, SysTo w G p { F with D := (read F.D ((r.first + r.pos / r.h : Nat) : Int)).2 } (n + 1) W → Blk w G p { F with D := (read F.D ((r.first + r.pos / r.h : Nat) : Int)).2 } (n + 1) x r ws W) := fun W h1 => h1.blk hsr hm ho
  have HP1 : Hid (∀ W1 W ws', SysTo w G p { F with D := (read F.D ((r.first + r.pos / r.h : Nat) : Int)).2 } (n + 1) W1 → Far (fun k => k = r.g) W1 W → Row W r.g 69 (ws'.map vw) → ws'.length = F.D.size → U64s ws' → Blk w G p { F with D := (read F.D ((r.first + r.pos / r.h : Nat) : Int)).2 } (n + 1) x r ws' W) := fun W1 W ws' h1 h2 h3 h4 h5 => h1.blk_set hsr hm ho h2 h3 h4 h5
  have hjq : r.pos / r.h ≤ r.pos := Nat.div_le_self _ _
  have hjh : r.pos / r.h * r.h ≤ r.count := Nat.le_trans (Nat.div_mul_le_self _ _) (by omega)
  have HW : Hid (∀ W, Calls Try.prog 75 #[.agg #[.int .i64 r.k, .int .i64 r.h], .int .i64 (r.pos / r.h : Nat), .int .i64 r.count] W fun e w' => e = .returned (.int .i64 (min r.h (r.count - r.pos / r.h * r.h) * r.k : Nat)) ∧ Below W.heap.size W w') := fun W => wrds_any r.k r.h (r.pos / r.h) r.count W hk.2 hh.2.2 hct.1 hjh
  have hi64 : I64 ((r.first + r.pos / r.h : Nat) : Int) := by
    have hb : r.first + r.pos / r.h ≤ 200000000 := by omega
    generalize r.first + r.pos / r.h = z at hb
    exact I64.of (by omega) (by omega)
  have hq : Int.tdiv (r.pos : Int) (r.h : Int) = ((r.pos / r.h : Nat) : Int) := rfl
  have hadl : r.first + r.pos / r.h ≤ 200000000 := by clear hq; omega
  have had : (r.first : Int) + ((r.pos / r.h : Nat) : Int) = ((r.first + r.pos / r.h : Nat) : Int) := by clear hq; omega
  have HRD : Hid (∀ W, Below w.heap.size w W → Calls Try.prog 73 #[.pointer (some ⟨p.d, 0, none⟩), .int .i64 (r.first + r.pos / r.h : Nat)] W fun e w' => ∃ v, e = .returned (.tuple #[v, .int .i64 (read F.D ((r.first + r.pos / r.h : Nat) : Int)).1]) ∧ ((read F.D ((r.first + r.pos / r.h : Nat) : Int)).1 ≠ 0 → v = .slice none 0 0) ∧
      ((read F.D ((r.first + r.pos / r.h : Nat) : Int)).1 = 0 → ∃ A c, v = .slice A F.D.size c ∧ F.D.size ≤ c ∧ Reads .u64 w' w'.heap.size A F.D.size (F.D.now ((r.first + r.pos / r.h : Nat) : Int))) ∧ SysTo w G p { F with D := (read F.D ((r.first + r.pos / r.h : Nat) : Int)).2 } (n + 1) w') := fun W hb =>
    (sys_read (h.below hb) hn _ hi64).mono fun e w' ⟨v, h1, h2, h3, h4⟩ => ⟨v, h1, h2, h3, h4.behind hb⟩
  have HNR : Hid (∀ W, SysTo w G p { F with D := (read F.D ((r.first + r.pos / r.h : Nat) : Int)).2 } (n + 1) W → Row W x 126 (rdC p r) ∧ Row W r.b 130 [.slice (some ⟨r.g, 0, none⟩) F.D.size F.D.size] ∧ Row W r.g 69 (ws.map vw)) := fun W h1 => ⟨h1.row hm.row ho.x, h1.row hm.buf ho.b, h1.row hm.words ho.g⟩
  have HWL : Hid (ws.length = F.D.size ∧ U64s ws) := ⟨hm.len, hm.u64⟩
  have r0 := hm.row.below (below_drew (Below.refl _ _)) hx
  have r1 := (h.below (below_drew (Below.refl _ _))).row
  have c3 : w.cell? ⟨x, 7, none⟩ = some (.int .i64 r.pos) := hm.row.cell 7
  have c1 : w.cell? ⟨x, 1, none⟩ = some (.int .i64 r.h) := hm.row.cell 1
  have d2 : w.drew.cell? ⟨x, 3, none⟩ = some (.int .i64 r.first) := r0.cell 3
  have d5 : w.drew.cell? ⟨x, 2, none⟩ = some (.pointer (some ⟨p.w, 0, none⟩)) := r0.cell 2
  have d6 : w.drew.cell? ⟨p.w, 0, none⟩ = some (.pointer (some ⟨p.d, 0, none⟩)) := r1.cell 0
  have hh0 : ¬ ((r.h : Int) = 0) := by omega
  have HB1 : Hid (Below w.heap.size w w.drew) := below_drew (Below.refl _ _)
  clear r0 r1 hm ho hok h hsr hx hbw hgw
  generalize ({ F with D := (read F.D ((r.first + r.pos / r.h : Nat) : Int)).2 } : Fs) = F1 at *
  generalize (read F.D ((r.first + r.pos / r.h : Nat) : Int)).1 = er at *
  generalize min r.h (r.count - r.pos / r.h * r.h) * r.k = m at *
  obtain ⟨k, hh2, first, blocks, count, pos, b, g⟩ := r
  unfold rdC at *
  simp only at *
  generalize pos / hh2 = j at *
  generalize first + j = ad at *
  generalize F.D.now (ad : Int) = bl at *
  generalize F.D.size = size at *
  generalize Blk w G p F1 (n + 1) x ⟨k, hh2, first, blocks, count, pos, b, g⟩ = POST at *
  subst he
  have hwk : IntKind.u64.wrap (k : Int) = (k : Int) := IntWalk.u64_in _ ⟨by omega, by omega⟩
  go_enter Try.func52, Try.ntmps52
  go_wp2
  go_region
  go_wp2_with fail
  refine (HRD.out _ HB1.out).mono ?_; rintro e w4 ⟨v, rfl, _, hv, h4⟩
  obtain ⟨A, c, rfl, hsc, hra⟩ := hv (by trivial)
  have hbu : ∀ y ∈ bl, y < 18446744073709551616 := fun y hy => u64_lt (hra.2.1 y hy)
  have HBU := Lib.hid hbu
  have HTL : Hid (tagW bl < 18446744073709551616) := tag_u64 hbu
  have HG := Lib.hid (get_may A size c ad bl w4 hra (Nat.le_refl _) hsc hsz.1 hsz.2 (by omega))
  have H4 := Lib.hid h4
  obtain ⟨n0, n1, n2⟩ := HNR.out w4 h4
  have N0 := Lib.hid n0
  have N1 := Lib.hid n1
  have N2 := Lib.hid n2
  have HP2 : Hid (∀ W, Below w4.heap.size w4 W → POST ws W) := fun W hb => HP0.out W (h4.ahead hb)
  clear h4 HP0 HRD hv hra n0 n1 n2 HNR hbu
  generalize tagW bl = tg at *
  go_wp2_with fail
  refine HG.out.mono ?_
  rintro e w5 (⟨hok2, _⟩ | ⟨_, v5, rfl, hown, hb⟩)
  · exact absurd (hok2.symm.trans hk0) (by decide)
  have HTL2 := HTL.out
  have HB5 := Lib.hid hb
  have M0 := Lib.hid (N0.out.below hb N0.out.lt)
  have M1 := Lib.hid (N1.out.below hb N1.out.lt)
  have M2 := Lib.hid (N2.out.below hb N2.out.lt)
  clear hb N0 N1 N2 HG
  have k0 : ∀ d os, (Sort.grow (redrawn w5 d) os).cell? ⟨x, 0, none⟩ = some (.int .i64 k) := cell_regrown (M0.out.cell 0)
  have k1 : ∀ d os, (Sort.grow (redrawn w5 d) os).cell? ⟨x, 1, none⟩ = some (.int .i64 hh2) := cell_regrown (M0.out.cell 1)
  have k6 : ∀ d os, (Sort.grow (redrawn w5 d) os).cell? ⟨x, 6, none⟩ = some (.int .i64 count) := cell_regrown (M0.out.cell 6)
  have Q1 : Hid (∀ d os, Calls Try.prog 75 #[.agg #[.int .i64 k, .int .i64 hh2], .int .i64 j, .int .i64 count] (Sort.grow (redrawn w5 d) os) fun e w'' => e = .returned (.int .i64 (m : Nat)) ∧ ∃ p : Regrown, w'' = Sort.grow (redrawn w5 p.d) p.os) := fun d os => Calls.regrown_of (HW.out _)
  obtain rfl : tg = k := htg
  have hne : ((tg : Int) != (tg : Int)) = false := by simp
  obtain ⟨pn, hpn⟩ : ∃ pn, pn = numW bl - 1 := ⟨_, rfl⟩
  rw [← hpn] at hown hnm
  obtain ⟨A5, c5, rfl, hrd5, hl5⟩ := own_reads (k := .u64) (l := bl.take pn) hown (fun x hx => u64_wf (HBU.out x (List.mem_of_mem_take hx)))
  have g9 : ((pn : Int) != (m : Int)) = true := by simpa using fun h : (pn : Int) = (m : Int) => hnm (by omega)
  clear hown hrd5 hl5 hpn
  go_wp2
  refine wp_region_quiet_below (by kernel_rfl) (by kernel_rfl) ?_
  repeat (any_goals (first | go_big_quiet_step (with_reducible exact Q1.out _ _) | quiet_step (with_reducible exact Q1.out _ _)))
  refine wpQuiet_nil ?_
  intro w6 hw6
  obtain ⟨⟨dq, osq⟩, hw6⟩ := hw6
  have hb6 := below_regrown w5 dq osq
  rw [← hw6] at hb6
  clear hw6 Q1 k0 k1 k6
  have H6 := Lib.hid (HP2.out w6 (HB5.out.trans (hb6.mono HB5.out.size)))
  clear HP2 hb6 HB5 M0 M1 M2 HW HP1 HWL
  go_wp2
  go_ret
  exact ⟨rfl, H6.out⟩

set_option maxHeartbeats 4000000 in
set_option maxRecDepth 100000 in
theorem rblk_good {w : World} {G : Nat → Prop} {p : Wp} {F : Fs} {n x : Nat} {r : Rt} {ws : List Nat} (h : Sys w G p F n) (hn : n < 1000000) (hok : RtOk r F.D.size) (hm : RMem w x p r F.D.size ws) (ho : ROut G x r) (hpos : r.pos < r.count)
    (he : (read F.D ((r.first + r.pos / r.h : Nat) : Int)).1 = 0) (hk0 : okW (F.D.now ((r.first + r.pos / r.h : Nat) : Int)) (r.first + r.pos / r.h) = true) (htg : tagW (F.D.now ((r.first + r.pos / r.h : Nat) : Int)) = r.k) (hnm : numW (F.D.now ((r.first + r.pos / r.h : Nat) : Int)) - 1 = min r.h (r.count - r.pos / r.h * r.h) * r.k) :
    Calls Try.prog 52 #[.pointer (some ⟨x, 0, none⟩)] w fun e w' => e = .returned (.int .i64 0) ∧ Blk w G p { F with D := (read F.D ((r.first + r.pos / r.h : Nat) : Int)).2 } (n + 1) x r (splice ws 0 ((F.D.now ((r.first + r.pos / r.h : Nat) : Int)).take (min r.h (r.count - r.pos / r.h * r.h) * r.k))) w' := by
  obtain ⟨hx, hbw, hgw⟩ := hm.lt
  have hsz := hok.sz
  have hk := hok.k
  have hh := hok.h
  have hct := hok.count
  have hfi := hok.first
  have hnl := now_len8 h.fits ((r.first + r.pos / r.h : Nat) : Int)
  have hmm0 := Nat.le_trans (Nat.mul_le_mul_right r.k (Nat.min_le_left r.h (r.count - r.pos / r.h * r.h))) hh.2.1
  have hsr : (read F.D ((r.first + r.pos / r.h : Nat) : Int)).2.size = F.D.size := (now_read F.D ((r.first + r.pos / r.h : Nat) : Int) 0).2.1
  have HP0 : Hid (∀ W, SysTo w G p { F with D := (read F.D ((r.first + r.pos / r.h : Nat) : Int)).2 } (n + 1) W → Blk w G p { F with D := (read F.D ((r.first + r.pos / r.h : Nat) : Int)).2 } (n + 1) x r ws W) := fun W h1 => h1.blk hsr hm ho
  have HP1 : Hid (∀ W1 W ws', SysTo w G p { F with D := (read F.D ((r.first + r.pos / r.h : Nat) : Int)).2 } (n + 1) W1 → Far (fun k => k = r.g) W1 W → Row W r.g 69 (ws'.map vw) → ws'.length = F.D.size → U64s ws' → Blk w G p { F with D := (read F.D ((r.first + r.pos / r.h : Nat) : Int)).2 } (n + 1) x r ws' W) := fun W1 W ws' h1 h2 h3 h4 h5 => h1.blk_set hsr hm ho h2 h3 h4 h5
  have hjq : r.pos / r.h ≤ r.pos := Nat.div_le_self _ _
  have hjh : r.pos / r.h * r.h ≤ r.count := Nat.le_trans (Nat.div_mul_le_self _ _) (by omega)
  have HW : Hid (∀ W, Calls Try.prog 75 #[.agg #[.int .i64 r.k, .int .i64 r.h], .int .i64 (r.pos / r.h : Nat), .int .i64 r.count] W fun e w' => e = .returned (.int .i64 (min r.h (r.count - r.pos / r.h * r.h) * r.k : Nat)) ∧ Below W.heap.size W w') := fun W => wrds_any r.k r.h (r.pos / r.h) r.count W hk.2 hh.2.2 hct.1 hjh
  have hi64 : I64 ((r.first + r.pos / r.h : Nat) : Int) := by
    have hb : r.first + r.pos / r.h ≤ 200000000 := by omega
    generalize r.first + r.pos / r.h = z at hb
    exact I64.of (by omega) (by omega)
  have hq : Int.tdiv (r.pos : Int) (r.h : Int) = ((r.pos / r.h : Nat) : Int) := rfl
  have hadl : r.first + r.pos / r.h ≤ 200000000 := by clear hq; omega
  have had : (r.first : Int) + ((r.pos / r.h : Nat) : Int) = ((r.first + r.pos / r.h : Nat) : Int) := by clear hq; omega
  have HRD : Hid (∀ W, Below w.heap.size w W → Calls Try.prog 73 #[.pointer (some ⟨p.d, 0, none⟩), .int .i64 (r.first + r.pos / r.h : Nat)] W fun e w' => ∃ v, e = .returned (.tuple #[v, .int .i64 (read F.D ((r.first + r.pos / r.h : Nat) : Int)).1]) ∧ ((read F.D ((r.first + r.pos / r.h : Nat) : Int)).1 ≠ 0 → v = .slice none 0 0) ∧
      ((read F.D ((r.first + r.pos / r.h : Nat) : Int)).1 = 0 → ∃ A c, v = .slice A F.D.size c ∧ F.D.size ≤ c ∧ Reads .u64 w' w'.heap.size A F.D.size (F.D.now ((r.first + r.pos / r.h : Nat) : Int))) ∧ SysTo w G p { F with D := (read F.D ((r.first + r.pos / r.h : Nat) : Int)).2 } (n + 1) w') := fun W hb =>
    (sys_read (h.below hb) hn _ hi64).mono fun e w' ⟨v, h1, h2, h3, h4⟩ => ⟨v, h1, h2, h3, h4.behind hb⟩
  have HNR : Hid (∀ W, SysTo w G p { F with D := (read F.D ((r.first + r.pos / r.h : Nat) : Int)).2 } (n + 1) W → Row W x 126 (rdC p r) ∧ Row W r.b 130 [.slice (some ⟨r.g, 0, none⟩) F.D.size F.D.size] ∧ Row W r.g 69 (ws.map vw)) := fun W h1 => ⟨h1.row hm.row ho.x, h1.row hm.buf ho.b, h1.row hm.words ho.g⟩
  have HWL : Hid (ws.length = F.D.size ∧ U64s ws) := ⟨hm.len, hm.u64⟩
  have r0 := hm.row.below (below_drew (Below.refl _ _)) hx
  have r1 := (h.below (below_drew (Below.refl _ _))).row
  have c3 : w.cell? ⟨x, 7, none⟩ = some (.int .i64 r.pos) := hm.row.cell 7
  have c1 : w.cell? ⟨x, 1, none⟩ = some (.int .i64 r.h) := hm.row.cell 1
  have d2 : w.drew.cell? ⟨x, 3, none⟩ = some (.int .i64 r.first) := r0.cell 3
  have d5 : w.drew.cell? ⟨x, 2, none⟩ = some (.pointer (some ⟨p.w, 0, none⟩)) := r0.cell 2
  have d6 : w.drew.cell? ⟨p.w, 0, none⟩ = some (.pointer (some ⟨p.d, 0, none⟩)) := r1.cell 0
  have hh0 : ¬ ((r.h : Int) = 0) := by omega
  have HB1 : Hid (Below w.heap.size w w.drew) := below_drew (Below.refl _ _)
  clear r0 r1 hm ho hok h hsr hx hbw hgw
  generalize ({ F with D := (read F.D ((r.first + r.pos / r.h : Nat) : Int)).2 } : Fs) = F1 at *
  generalize (read F.D ((r.first + r.pos / r.h : Nat) : Int)).1 = er at *
  generalize min r.h (r.count - r.pos / r.h * r.h) * r.k = m at *
  obtain ⟨k, hh2, first, blocks, count, pos, b, g⟩ := r
  unfold rdC at *
  simp only at *
  generalize pos / hh2 = j at *
  generalize first + j = ad at *
  generalize F.D.now (ad : Int) = bl at *
  generalize F.D.size = size at *
  generalize Blk w G p F1 (n + 1) x ⟨k, hh2, first, blocks, count, pos, b, g⟩ = POST at *
  subst he
  have hwk : IntKind.u64.wrap (k : Int) = (k : Int) := IntWalk.u64_in _ ⟨by omega, by omega⟩
  go_enter Try.func52, Try.ntmps52
  go_wp2
  go_region
  go_wp2_with fail
  refine (HRD.out _ HB1.out).mono ?_; rintro e w4 ⟨v, rfl, _, hv, h4⟩
  obtain ⟨A, c, rfl, hsc, hra⟩ := hv (by trivial)
  have hbu : ∀ y ∈ bl, y < 18446744073709551616 := fun y hy => u64_lt (hra.2.1 y hy)
  have HBU := Lib.hid hbu
  have HTL : Hid (tagW bl < 18446744073709551616) := tag_u64 hbu
  have HG := Lib.hid (get_may A size c ad bl w4 hra (Nat.le_refl _) hsc hsz.1 hsz.2 (by omega))
  have H4 := Lib.hid h4
  obtain ⟨n0, n1, n2⟩ := HNR.out w4 h4
  have N0 := Lib.hid n0
  have N1 := Lib.hid n1
  have N2 := Lib.hid n2
  have HP2 : Hid (∀ W, Below w4.heap.size w4 W → POST ws W) := fun W hb => HP0.out W (h4.ahead hb)
  clear h4 HP0 HRD hv hra n0 n1 n2 HNR hbu
  generalize tagW bl = tg at *
  go_wp2_with fail
  refine HG.out.mono ?_
  rintro e w5 (⟨hok2, _⟩ | ⟨_, v5, rfl, hown, hb⟩)
  · exact absurd (hok2.symm.trans hk0) (by decide)
  have HTL2 := HTL.out
  have HB5 := Lib.hid hb
  have M0 := Lib.hid (N0.out.below hb N0.out.lt)
  have M1 := Lib.hid (N1.out.below hb N1.out.lt)
  have M2 := Lib.hid (N2.out.below hb N2.out.lt)
  clear hb N0 N1 N2 HG
  have k0 : ∀ d os, (Sort.grow (redrawn w5 d) os).cell? ⟨x, 0, none⟩ = some (.int .i64 k) := cell_regrown (M0.out.cell 0)
  have k1 : ∀ d os, (Sort.grow (redrawn w5 d) os).cell? ⟨x, 1, none⟩ = some (.int .i64 hh2) := cell_regrown (M0.out.cell 1)
  have k6 : ∀ d os, (Sort.grow (redrawn w5 d) os).cell? ⟨x, 6, none⟩ = some (.int .i64 count) := cell_regrown (M0.out.cell 6)
  have Q1 : Hid (∀ d os, Calls Try.prog 75 #[.agg #[.int .i64 k, .int .i64 hh2], .int .i64 j, .int .i64 count] (Sort.grow (redrawn w5 d) os) fun e w'' => e = .returned (.int .i64 (m : Nat)) ∧ ∃ p : Regrown, w'' = Sort.grow (redrawn w5 p.d) p.os) := fun d os => Calls.regrown_of (HW.out _)
  obtain rfl : tg = k := htg
  have hne : ((tg : Int) != (tg : Int)) = false := by simp
  rw [hnm] at hown
  have HTK : Hid ((bl.take m).length = m) := by
    unfold Hid; rw [List.length_take]; omega
  obtain ⟨A5, c5, rfl, hrd5, hl5⟩ := own_reads (k := .u64) (l := bl.take m) hown (fun x hx => u64_wf (HBU.out x (List.mem_of_mem_take hx)))
  have g9 : ((m : Int) != (m : Int)) = false := by simp
  have HRD5 := Lib.hid hrd5
  clear hown hl5 hrd5
  go_wp2
  refine wp_region_quiet_below (by kernel_rfl) (by kernel_rfl) ?_
  repeat (any_goals (first | go_big_quiet_step (with_reducible exact Q1.out _ _) | quiet_step (with_reducible exact Q1.out _ _)))
  refine wpQuiet_nil ?_
  intro w6 hw6
  obtain ⟨⟨dq, osq⟩, hw6⟩ := hw6
  have hb6 := below_regrown w5 dq osq
  rw [← hw6] at hb6
  clear hw6 Q1 k0 k1 k6
  have HR5 := Lib.hid ((HRD5.out.keep hb6))
  have O0 := Lib.hid (M0.out.below hb6 M0.out.lt)
  have O1 := Lib.hid (M1.out.below hb6 M1.out.lt)
  have O2 := Lib.hid (M2.out.below hb6 M2.out.lt)
  have H6 := Lib.hid (H4.out.ahead (HB5.out.trans (hb6.mono HB5.out.size)))
  clear HP2 hb6 HB5 M0 M1 M2 HW H4 HRD5
  have e8 : w6.cell? ⟨x, 8, none⟩ = some (.pointer (some ⟨b, 0, none⟩)) := O0.out.cell 8
  have e0 : w6.cell? ⟨b, 0, none⟩ = some (.slice (some ⟨g, 0, none⟩) size size) := O1.out.cell 0
  go_wp2_with (with_reducible refine stopAt 83 ?_)
  unfold Hid
  refine wpList_copy_rows rfl _ _ 71 71 rfl 69 Try.underlying71 sizeW (by decide) (some ⟨g, 0, none⟩) A5 size size m c5 rfl rfl g 0 _ 69 O2.out ((bl.take m).map vw) (by rw [List.length_map, HTK.out, Nat.mul_one]; exact (Nat.min_eq_left (by omega)).symm) (fun h0 => ⟨rfl, HR5.out.source (by have := HTK.out; rw [List.length_map] at h0; omega)⟩) (by rw [List.length_map, List.length_map, HTK.out, HWL.out.1]; omega) (fun v hv => by obtain ⟨x, _, rfl⟩ := List.mem_map.1 hv; rfl) ?_
  intro w7 hr7 hf7
  have HR7 : Hid (Row w7 g 69 ((splice ws 0 (bl.take m)).map vw)) := by
    have h := hr7.out
    rw [splice_mapf] at h; exact h
  have H7 := Lib.hid (HP1.out w6 w7 _ H6.out hf7.out HR7.out (by rw [splice_len0 _ _ (by rw [HTK.out, HWL.out.1]; omega)]; exact HWL.out.1) (splice_u64s HWL.out.2 fun y hy => HBU.out y (List.mem_of_mem_take hy)))
  clear HP1 H6 hr7 hf7 HR7 HR5 O0 O1 O2
  go_wp2
  go_ret
  exact ⟨rfl, H7.out⟩
/-- behind Next that told a tuple -/
def NextTo (w : World) (G : Nat → Prop) (p : Wp) (F : Fs) (n x : Nat) (r : Rt) (ws : List Nat) (w' : World) : Prop :=
  ∃ G', Sys w' G' p F n ∧ RMem w' x p r F.D.size ws ∧ Far (fun k => G k ∨ k = r.g ∨ k = x) w w' ∧ ∀ k, G' k → G k ∨ w.heap.size ≤ k
def tupAt (r : Rt) (ws : List Nat) : Tup := tupOf r.k ((ws.drop (r.pos % r.h * r.k)).take r.k)
/-- the columns that have been taken -/
def colC (k : Nat) (l : List Nat) (i c : Nat) : Value := .int .i64 (if c < i ∧ c < k then IntKind.i64.wrap ((l.getD c 0 : Nat) : Int) else 0)
def colsC (k : Nat) (l : List Nat) (i : Nat) : List Value := [colC k l i 0, colC k l i 1, colC k l i 2, colC k l i 3, colC k l i 4]
theorem colsC_zero (k : Nat) (l : List Nat) : colsC k l 0 = [.int .i64 0, .int .i64 0, .int .i64 0, .int .i64 0, .int .i64 0] := by simp [colsC, colC]
theorem colsC_set {k : Nat} (hk : k ≤ 5) (l : List Nat) {i : Nat} (hi : i < k) : (colsC k l i).set i (.int .i64 (IntKind.i64.wrap ((l.getD i 0 : Nat) : Int))) = colsC k l (i + 1) := by
  match i, hi with
  | 0, hi => simp [colsC, colC, hi]
  | 1, hi => simp [colsC, colC, hi]
  | 2, hi => simp [colsC, colC, hi]
  | 3, hi => simp [colsC, colC, hi]
  | 4, hi => simp [colsC, colC, hi]
  | i + 5, hi => omega
theorem colsC_all {k : Nat} (_hk : k ≤ 5) (l : List Nat) : colsC k l k = [.int .i64 (tupOf k l).a, .int .i64 (tupOf k l).b, .int .i64 (tupOf k l).c, .int .i64 (tupOf k l).d, .int .i64 (tupOf k l).e] := by
  simp [colsC, colC, tupOf]
set_option maxHeartbeats 4000000 in
set_option maxRecDepth 100000 in
theorem fnext_mid {w : World} {G : Nat → Prop} {p : Wp} {F : Fs} {n x : Nat} {r : Rt} {ws : List Nat} (h : Sys w G p F n) (hok : RtOk r F.D.size) (hm : RMem w x p r F.D.size ws) (ho : ROut G x r) (hpos : r.pos < r.count)
    (hmid : r.pos % r.h ≠ 0) :
    Calls Try.prog 31 #[.pointer (some ⟨x, 0, none⟩)] w fun e w' => e = .returned (.tuple #[.agg #[.int .i64 (tupAt r ws).a, .int .i64 (tupAt r ws).b, .int .i64 (tupAt r ws).c, .int .i64 (tupAt r ws).d, .int .i64 (tupAt r ws).e], .bool true, .int .i64 0]) ∧ NextTo w G p F n x { r with pos := r.pos + 1 } ws w' := by
  obtain ⟨hx, hbw, hgw⟩ := hm.lt
  obtain ⟨a1, a2, a3⟩ := hm.apart
  have hsz := hok.sz
  have hk := hok.k
  have hh := hok.h
  have hct := hok.count
  have hmod := Nat.mod_lt r.pos hh.1
  have hqk : r.pos % r.h * r.k + r.k ≤ F.D.size - 2 := by
    have h1 : (r.pos % r.h + 1) * r.k ≤ r.h * r.k := Nat.mul_le_mul_right _ hmod
    rw [Nat.add_mul, Nat.one_mul] at h1
    exact Nat.le_trans h1 hh.2.1
  obtain ⟨w0, hw0⟩ : ∃ w0, w0 = w.alloc (.cells #[.int .i64 0, .int .i64 0, .int .i64 0, .int .i64 0, .int .i64 0] 58) := ⟨_, rfl⟩
  have hb0 : Below w.heap.size w w0 := by rw [hw0]; exact (Below.refl w.heap.size w).alloc (Nat.le_refl _) _
  have hr0 : Row w0 w.heap.size 58 [.int .i64 0, .int .i64 0, .int .i64 0, .int .i64 0, .int .i64 0] := by rw [hw0]; exact heap_alloc_new _ _
  have hm0 := hm.below hb0
  have hcl := rclosed_any hm0.row hm0.buf
  rw [decide_eq_true (show 0 < F.D.size by omega)] at hcl
  have HCL : Hid (Calls Try.prog 51 #[.pointer (some ⟨x, 0, none⟩)] (w.alloc (.cells #[.int .i64 0, .int .i64 0, .int .i64 0, .int .i64 0, .int .i64 0] 58)) fun e w' => e = .returned (.bool (!true)) ∧ w' = w.alloc (.cells #[.int .i64 0, .int .i64 0, .int .i64 0, .int .i64 0, .int .i64 0] 58)) := by rw [hw0] at hcl; exact hcl
  have HR00 := Lib.hid hr0
  have HNG0 : Hid (¬ G w.heap.size) := fun hg => by have := h.lt hg; omega
  have HEND : Hid (∀ W4 W9, Blk w0 G p F n x r ws W4 → Far (fun k => k = x ∨ k = w.heap.size) W4 W9 → Row W9 x 126 (rdC p { r with pos := r.pos + 1 }) → NextTo w G p F n x { r with pos := r.pos + 1 } ws W9) := by
    intro W4 W9 ⟨G4, k1, k2, k3, k4⟩ hf hr
    have hxG : ¬ G4 x := fun hg => (k4 x hg).elim ho.x fun h => by have := hb0.size; omega
    have hRG : ¬ G4 w.heap.size := fun hg => (k4 _ hg).elim HNG0.out fun h => by have := hr0.lt; omega
    have hR4 : Row W4 w.heap.size 58 [.int .i64 0, .int .i64 0, .int .i64 0, .int .i64 0, .int .i64 0] := k3.row hr0 (by
      rintro (hg | hg)
      · exact HNG0.out hg
      · omega)
    refine ⟨G4, k1.touch hf ?_, ⟨hr, hf.row k2.buf ?_, hf.row k2.words ?_, k2.len, k2.u64⟩, ?_, fun k hk => (k4 k hk).imp_right fun h => Nat.le_trans hb0.size h⟩
    · rintro k (rfl | rfl)
      · exact ⟨hxG, fun v hv => absurd (hv.typed k2.row) (by decide)⟩
      · exact ⟨hRG, fun v hv => absurd (hv.typed hR4) (by decide)⟩
    · rintro (e | e)
      · exact a1 e.symm
      · exact absurd e (Nat.ne_of_lt hbw)
    · rintro (e | e)
      · exact a2 e.symm
      · exact absurd e (Nat.ne_of_lt hgw)
    · refine (((Far.of_below hb0 _).trans k3 fun b hb => hb.elim (fun h => .inl (.inl h)) fun h => .inl (.inr (.inl h)))).trans hf ?_
      rintro b (rfl | rfl)
      · exact .inl (.inr (.inr rfl))
      · exact .inr (Nat.le_refl _)
  have H0 : Hid (Row (w.alloc (.cells #[.int .i64 0, .int .i64 0, .int .i64 0, .int .i64 0, .int .i64 0] 58)) x 126 (rdC p r)) := by rw [← hw0]; exact hm0.row
  have hqm : Int.tmod (r.pos : Int) (r.h : Int) = ((r.pos % r.h : Nat) : Int) := rfl
  have hh0 : ¬ ((r.h : Int) = 0) := by omega
  have g3 : ((r.pos : Int) == (r.count : Int)) = false := by simp; omega
  have hp1 : (r.pos : Int) + 1 = ((r.pos + 1 : Nat) : Int) := by omega
  have c7 : (w.alloc (.cells #[.int .i64 0, .int .i64 0, .int .i64 0, .int .i64 0, .int .i64 0] 58)).cell? ⟨x, 7, none⟩ = some (.int .i64 r.pos) := H0.out.cell 7
  have c6 : (w.alloc (.cells #[.int .i64 0, .int .i64 0, .int .i64 0, .int .i64 0, .int .i64 0] 58)).cell? ⟨x, 6, none⟩ = some (.int .i64 r.count) := H0.out.cell 6
  have d7 : (w.alloc (.cells #[.int .i64 0, .int .i64 0, .int .i64 0, .int .i64 0, .int .i64 0] 58)).drew.cell? ⟨x, 7, none⟩ = some (.int .i64 r.pos) := H0.out.cell 7
  have d1 : (w.alloc (.cells #[.int .i64 0, .int .i64 0, .int .i64 0, .int .i64 0, .int .i64 0] 58)).drew.cell? ⟨x, 1, none⟩ = some (.int .i64 r.h) := H0.out.cell 1
  have HB0 : Hid (Below w.heap.size w (w.alloc (.cells #[.int .i64 0, .int .i64 0, .int .i64 0, .int .i64 0, .int .i64 0] 58)).drew.drew) := by rw [← hw0]; exact below_drew (below_drew hb0)
  have g5 : ((( r.pos % r.h : Nat) : Int) == 0) = false := by simp; omega
  have HBK : Hid (Blk w0 G p F n x r ws (w.alloc (.cells #[.int .i64 0, .int .i64 0, .int .i64 0, .int .i64 0, .int .i64 0] 58)).drew.drew) := (SysTo.of_below (h.below hb0) (by rw [← hw0]; exact below_drew (below_drew (Below.refl _ _)))).blk rfl hm0 ⟨ho.x, ho.b, ho.g⟩
  clear hcl h hm hm0 hok ho hr0 hb0
  go_enter Try.func31, Try.ntmps31
  go_wp2_with fail
  refine HCL.out.mono ?_; rintro e w1 ⟨rfl, rfl⟩
  go_wp2
  go_region
  go_wp2
  go_region
  generalize (w.alloc (.cells #[.int .i64 0, .int .i64 0, .int .i64 0, .int .i64 0, .int .i64 0] 58)).drew.drew = W4 at *
  have HEND4 : Hid (∀ W9, Far (fun k => k = x ∨ k = w.heap.size) W4 W9 → Row W9 x 126 (rdC p { r with pos := r.pos + 1 }) → NextTo w G p F n x { r with pos := r.pos + 1 } ws W9) := fun W9 h1 h2 => HEND.out W4 W9 HBK.out h1 h2
  obtain ⟨G4, k1, k2, k3, k4⟩ := HBK.out
  have X4 := Lib.hid k2.row
  have Y4 := Lib.hid k2.buf
  have Z4 := Lib.hid k2.words
  have HLU : Hid (ws.length = F.D.size ∧ U64s ws) := ⟨k2.len.trans rfl, k2.u64⟩
  have R4 : Hid (Row W4 w.heap.size 58 [.int .i64 0, .int .i64 0, .int .i64 0, .int .i64 0, .int .i64 0]) := k3.row HR00.out (by
    rintro (hg | hg)
    · exact HNG0.out hg
    · omega)
  clear HBK k1 k2 k3 k4 HEND HNG0 G4
  have HPL : Hid (∀ W, Calls Try.prog 53 #[.agg #[.int .i64 r.k, .int .i64 r.h], .slice (some ⟨r.g, 0, none⟩) F.D.size F.D.size, .int .i64 r.pos] W fun e w' => e = .returned (.slice (some ⟨r.g, r.pos % r.h * r.k, none⟩) r.k (F.D.size - r.pos % r.h * r.k)) ∧ Below W.heap.size W w') := fun W => plc_any r.k r.h r.pos r.g F.D.size W hk.1 hk.2 hh.1 hh.2.2 (by omega) (by omega) hsz.2
  have HALL : Hid (colsC r.k ((ws.drop (r.pos % r.h * r.k)).take r.k) r.k = [.int .i64 (tupAt r ws).a, .int .i64 (tupAt r ws).b, .int .i64 (tupAt r ws).c, .int .i64 (tupAt r ws).d, .int .i64 (tupAt r ws).e]) := colsC_all hk.2 _
  have HZERO : Hid (colsC r.k ((ws.drop (r.pos % r.h * r.k)).take r.k) 0 = [.int .i64 0, .int .i64 0, .int .i64 0, .int .i64 0, .int .i64 0]) := colsC_zero _ _
  have HCL5 : Hid (∀ i j, j < 5 → ∃ v, (colsC r.k ((ws.drop (r.pos % r.h * r.k)).take r.k) i)[j]? = some v) := fun i j hj => ⟨_, List.getElem?_eq_getElem (show j < (colsC r.k ((ws.drop (r.pos % r.h * r.k)).take r.k) i).length from hj)⟩
  have HXR : Hid (x ≠ w.heap.size) := by unfold Hid; omega
  have HSTEP : Hid (∀ i, i < r.k → (colsC r.k ((ws.drop (r.pos % r.h * r.k)).take r.k) i).set i (.int .i64 (IntKind.i64.wrap (((ws.getD (r.pos % r.h * r.k + i) 0 : Nat) : Nat) : Int))) = colsC r.k ((ws.drop (r.pos % r.h * r.k)).take r.k) (i + 1)) := by
    intro i hi
    rw [← colsC_set hk.2 _ hi]
    congr 4
    rw [List.getD_eq_getElem?_getD, List.getD_eq_getElem?_getD, List.getElem?_take, if_pos hi, List.getElem?_drop]
  generalize hPO : NextTo w G p F n x { r with pos := r.pos + 1 } ws = POST at *
  replace hPO := Lib.hid hPO
  generalize hTU : tupAt r ws = TU at *
  replace hTU := Lib.hid hTU
  generalize colsC r.k ((ws.drop (r.pos % r.h * r.k)).take r.k) = CC at *
  clear hmod hw0 HCL H0 c7 c6 d7 d1 HB0 hqm hh0 g3
  obtain ⟨TA, TB, TC, TD, TE⟩ := TU
  obtain ⟨k, hh2, first, blocks, count, pos, b, g⟩ := r
  unfold rdC at *
  simp only at *
  generalize pos % hh2 * k = off at *
  generalize F.D.size = size at *
  generalize hP1 : pos + 1 = pos1 at *
  replace hP1 := Lib.hid hP1
  have hb5 := (Below.refl W4.heap.size W4).alloc (Nat.le_refl _) (.cells #[.int .i64 0, .int .i64 0, .int .i64 0, .int .i64 0, .int .i64 0] 58)
  have hr5 : Row (W4.alloc (.cells #[.int .i64 0, .int .i64 0, .int .i64 0, .int .i64 0, .int .i64 0] 58)) W4.heap.size 58 [.int .i64 0, .int .i64 0, .int .i64 0, .int .i64 0, .int .i64 0] := heap_alloc_new _ _
  have HX5 := Lib.hid (X4.out.below hb5 X4.out.lt)
  have HY5 := Lib.hid (Y4.out.below hb5 Y4.out.lt)
  have k0 : ∀ d os, (Sort.grow (redrawn (W4.alloc (.cells #[.int .i64 0, .int .i64 0, .int .i64 0, .int .i64 0, .int .i64 0] 58)) d) os).cell? ⟨x, 0, none⟩ = some (.int .i64 k) := cell_regrown (HX5.out.cell 0)
  have k1 : ∀ d os, (Sort.grow (redrawn (W4.alloc (.cells #[.int .i64 0, .int .i64 0, .int .i64 0, .int .i64 0, .int .i64 0] 58)) d) os).cell? ⟨x, 1, none⟩ = some (.int .i64 hh2) := cell_regrown (HX5.out.cell 1)
  have k7 : ∀ d os, (Sort.grow (redrawn (W4.alloc (.cells #[.int .i64 0, .int .i64 0, .int .i64 0, .int .i64 0, .int .i64 0] 58)) d) os).cell? ⟨x, 7, none⟩ = some (.int .i64 pos) := cell_regrown (HX5.out.cell 7)
  have k8 : ∀ d os, (Sort.grow (redrawn (W4.alloc (.cells #[.int .i64 0, .int .i64 0, .int .i64 0, .int .i64 0, .int .i64 0] 58)) d) os).cell? ⟨x, 8, none⟩ = some (.pointer (some ⟨b, 0, none⟩)) := cell_regrown (HX5.out.cell 8)
  have kb : ∀ d os, (Sort.grow (redrawn (W4.alloc (.cells #[.int .i64 0, .int .i64 0, .int .i64 0, .int .i64 0, .int .i64 0] 58)) d) os).cell? ⟨b, 0, none⟩ = some (.slice (some ⟨g, 0, none⟩) size size) := cell_regrown (HY5.out.cell 0)
  have Q4 : Hid (∀ d os, Calls Try.prog 53 #[.agg #[.int .i64 k, .int .i64 hh2], .slice (some ⟨g, 0, none⟩) size size, .int .i64 pos] (Sort.grow (redrawn (W4.alloc (.cells #[.int .i64 0, .int .i64 0, .int .i64 0, .int .i64 0, .int .i64 0] 58)) d) os) fun e w'' => e = .returned (.slice (some ⟨g, off, none⟩) k (size - off)) ∧ ∃ p : Regrown, w'' = Sort.grow (redrawn (W4.alloc (.cells #[.int .i64 0, .int .i64 0, .int .i64 0, .int .i64 0, .int .i64 0] 58)) p.d) p.os) := fun d os => Calls.regrown_of (HPL.out _)
  have HB5 := Lib.hid hb5
  have HR5 := Lib.hid hr5
  clear hb5 hr5 HPL HX5 HY5
  go_wp2
  refine wp_region_quiet_below (by kernel_rfl) (by kernel_rfl) ?_
  repeat (any_goals (first | go_big_quiet_step (with_reducible first | exact Q4.out _ _) | quiet_step (with_reducible first | exact Q4.out _ _)))
  refine wpQuiet_nil ?_
  intro w7 hw7
  obtain ⟨⟨dq, osq⟩, hw7⟩ := hw7
  have hbw7 := below_regrown (W4.alloc (.cells #[.int .i64 0, .int .i64 0, .int .i64 0, .int .i64 0, .int .i64 0] 58)) dq osq
  rw [← hw7] at hbw7
  clear hw7
  have HB7 := Lib.hid (HB5.out.trans (hbw7.mono HB5.out.size))
  have HR7 : Hid (Row w7 W4.heap.size 58 (CC 0)) := by unfold Hid; rw [HZERO.out]; exact HR5.out.below hbw7 HR5.out.lt
  clear hbw7 Q4 k0 k1 k7 k8 kb HR5 HB5 HZERO
  have hxt := X4.out.lt
  have hgt := Z4.out.lt
  have hrt := R4.out.lt
  have HLT4 : Hid (x < W4.heap.size ∧ g < W4.heap.size ∧ w.heap.size < W4.heap.size) := ⟨hxt, hgt, hrt⟩
  clear hxt hgt hrt
  generalize hT : W4.heap.size = T at *
  go_wp2
  go_loopw [61] (fun iv wr => ∃ i : Nat, i ≤ k ∧ iv = .int .i64 (i : Int) ∧ Hid (Below T W4 wr) ∧ Hid (Row wr T 58 (CC i))) (fun iv _ => k - (intOf iv).toNat)
  case atStart => exact ⟨0, Nat.zero_le _, rfl, HB7.out, HR7.out⟩
  case round =>
    obtain ⟨i, hi, rfl, HF, HRT⟩ := hrel
    by_cases hlt : i < k
    · have hset := HSTEP.out i hlt
      have hol : off + i < ws.length := by have := HLU.out.1; omega
      have cw : wr.cell? ⟨g, off + i, none⟩ = some (.int .u64 (ws.getD (off + i) 0 : Nat)) := by
        rw [(Z4.out.below HF.out HLT4.out.2.1).cell (off + i)]; exact map_at hol
      have hi5 : i < 5 := by omega
      have ct : ∃ v, wr.cell? ⟨T, i, none⟩ = some v := by
        rw [HRT.out.cell i]
        exact HCL5.out i i hi5
      obtain ⟨v0, ct⟩ := ct
      have fg := HRT.out.free i
      have HST : Hid (Row (wr.setCell ⟨T, i, none⟩ (.int .i64 (IntKind.i64.wrap ((ws.getD (off + i) 0 : Nat) : Int)))) T 58 (CC (i + 1))) := by
        have h1 := HRT.out.set i (.int .i64 (IntKind.i64.wrap ((ws.getD (off + i) 0 : Nat) : Int)))
        rw [hset] at h1; exact h1
      have HFF : Hid (Below T W4 (wr.setCell ⟨T, i, none⟩ (.int .i64 (IntKind.i64.wrap ((ws.getD (off + i) 0 : Nat) : Int))))) := HF.out.setCell (Nat.le_refl _) _
      have hj0 : (0 : Int) ≤ (i : Int) := by omega
      have hj1 : (i : Int) < (k : Int) := by omega
      have hj5 : (i : Int) < 5 := by omega
      clear hset hol hi
      generalize ws.getD (off + i) 0 = u at *
      obtain ⟨z, hz⟩ : ∃ z, IntKind.i64.wrap (u : Int) = z := ⟨_, rfl⟩
      rw [hz] at HST HFF
      go_wp2
      go_roundw
      case rel => exact ⟨i + 1, by omega, by go_num, HFF.out, HST.out⟩
      case measure => simp [intOf]; omega
    · obtain rfl : i = k := by omega
      have hrx := X4.out.below HF.out HLT4.out.1
      have c7 : wr.cell? ⟨x, 7, none⟩ = some (.int .i64 pos) := hrx.cell 7
      have f7 := hrx.free 7
      have hrx8 := hrx.set 7 (.int .i64 pos1)
      have hrt8 : Row (wr.setCell ⟨x, 7, none⟩ (.int .i64 pos1)) T 58 (CC i) := HRT.out.far (p := ⟨x, 7, none⟩) (fun e => by have := HLT4.out.1; simp only at e; omega) _
      rw [HALL.out] at hrt8
      have hrr8 : Row (wr.setCell ⟨x, 7, none⟩ (.int .i64 pos1)) w.heap.size 58 [.int .i64 0, .int .i64 0, .int .i64 0, .int .i64 0, .int .i64 0] := (R4.out.below HF.out HLT4.out.2.2).far (p := ⟨x, 7, none⟩) (fun e => HXR.out e.symm) (.int .i64 pos1)
      have hf8 : Far (fun k => k = x ∨ k = w.heap.size) W4 (wr.setCell ⟨x, 7, none⟩ (.int .i64 pos1)) := (Far.of_below (by rw [hT]; exact HF.out) (fun k => k = x ∨ k = w.heap.size)).set (p := ⟨x, 7, none⟩) (.inl (.inl rfl)) _
      have HRT8 := Lib.hid hrt8
      have HRR8 := Lib.hid hrr8
      have HRX8 := Lib.hid hrx8
      have HF8 := Lib.hid hf8
      clear hrx hrx8 hrt8 hrr8 hf8 HRT HF
      generalize hw8 : wr.setCell ⟨x, 7, none⟩ (.int .i64 pos1) = w8 at HRT8 HRR8 HRX8 HF8
      have t0 : w8.cell? ⟨T, 0, none⟩ = some (.int .i64 TA) := HRT8.out.cell 0
      have t1 : w8.cell? ⟨T, 1, none⟩ = some (.int .i64 TB) := HRT8.out.cell 1
      have t2 : w8.cell? ⟨T, 2, none⟩ = some (.int .i64 TC) := HRT8.out.cell 2
      have t3 : w8.cell? ⟨T, 3, none⟩ = some (.int .i64 TD) := HRT8.out.cell 3
      have t4 : w8.cell? ⟨T, 4, none⟩ = some (.int .i64 TE) := HRT8.out.cell 4
      have z0 : w8.cell? ⟨w.heap.size, 0, none⟩ = some (.int .i64 0) := HRR8.out.cell 0
      have z1 : w8.cell? ⟨w.heap.size, 1, none⟩ = some (.int .i64 0) := HRR8.out.cell 1
      have z2 : w8.cell? ⟨w.heap.size, 2, none⟩ = some (.int .i64 0) := HRR8.out.cell 2
      have z3 : w8.cell? ⟨w.heap.size, 3, none⟩ = some (.int .i64 0) := HRR8.out.cell 3
      have z4 : w8.cell? ⟨w.heap.size, 4, none⟩ = some (.int .i64 0) := HRR8.out.cell 4
      have f0 := HRR8.out.free 0
      have f1 := HRR8.out.free 1
      have f2 := HRR8.out.free 2
      have f3 := HRR8.out.free 3
      have f4 := HRR8.out.free 4
      have HR9 := Lib.hid (set5 HRR8.out (.int .i64 TA) (.int .i64 TB) (.int .i64 TC) (.int .i64 TD) (.int .i64 TE))
      have HF9 := Lib.hid (HF8.out.trans (far5 w8 w.heap.size (.int .i64 TA) (.int .i64 TB) (.int .i64 TC) (.int .i64 TD) (.int .i64 TE)) fun b hb => .inl (.inr hb))
      have HX9 := Lib.hid ((far5 w8 w.heap.size (.int .i64 TA) (.int .i64 TB) (.int .i64 TC) (.int .i64 TD) (.int .i64 TE)).row HRX8.out HXR.out)
      clear HRT8 HRR8 HRX8 HF8
      subst hw8
      go_wp2
      have H9 := Lib.hid (HEND4.out _ HF9.out HX9.out)
      clear HEND4 HF9 HX9
      have q0 := HR9.out.cell 0
      have q1 := HR9.out.cell 1
      have q2 := HR9.out.cell 2
      have q3 := HR9.out.cell 3
      have q4 := HR9.out.cell 4
      refine bodyPost_ret (v := .tuple #[.agg #[.int .i64 TA, .int .i64 TB, .int .i64 TC, .int .i64 TD, .int .i64 TE], .bool true, .int .i64 0]) ?_ rfl ⟨by rw [hTU.out], by obtain rfl := hP1.out; rw [hPO.out]; exact H9.out⟩
      generalize (((((((wr.setCell ⟨x, 7, none⟩ (.int .i64 pos1)).setCell ⟨w.heap.size, 0, none⟩ (.int .i64 TA)).setCell ⟨w.heap.size, 1, none⟩ (.int .i64 TB)).setCell ⟨w.heap.size, 2, none⟩ (.int .i64 TC)).setCell ⟨w.heap.size, 3, none⟩ (.int .i64 TD)).setCell ⟨w.heap.size, 4, none⟩ (.int .i64 TE))) = w9 at *
      simp only [List.getElem?_cons_zero, List.getElem?_cons_succ] at q0 q1 q2 q3 q4
      simp [results, Try.results31, go_sem, q0, q1, q2, q3, q4]
set_option maxHeartbeats 4000000 in
set_option maxRecDepth 100000 in
theorem fnext_good {w : World} {G : Nat → Prop} {p : Wp} {F : Fs} {n x : Nat} {r : Rt} {ws : List Nat} (h : Sys w G p F n) (hok : RtOk r F.D.size) (hm : RMem w x p r F.D.size ws) (ho : ROut G x r) (hpos : r.pos < r.count)
    {F1 : Fs} {n1 : Nat} {ws1 : List Nat} (hs1 : F1.D.size = F.D.size) (hmid : r.pos % r.h = 0) (hB : ∀ W, Below w.heap.size w W → Calls Try.prog 52 #[.pointer (some ⟨x, 0, none⟩)] W fun e w' => e = .returned (.int .i64 0) ∧ Blk W G p F1 n1 x r ws1 w') :
    Calls Try.prog 31 #[.pointer (some ⟨x, 0, none⟩)] w fun e w' => e = .returned (.tuple #[.agg #[.int .i64 (tupAt r ws1).a, .int .i64 (tupAt r ws1).b, .int .i64 (tupAt r ws1).c, .int .i64 (tupAt r ws1).d, .int .i64 (tupAt r ws1).e], .bool true, .int .i64 0]) ∧ NextTo w G p F1 n1 x { r with pos := r.pos + 1 } ws1 w' := by
  obtain ⟨hx, hbw, hgw⟩ := hm.lt
  obtain ⟨a1, a2, a3⟩ := hm.apart
  have hsz := hok.sz
  have hk := hok.k
  have hh := hok.h
  have hct := hok.count
  have hmod := Nat.mod_lt r.pos hh.1
  have hqk : r.pos % r.h * r.k + r.k ≤ F.D.size - 2 := by
    have h1 : (r.pos % r.h + 1) * r.k ≤ r.h * r.k := Nat.mul_le_mul_right _ hmod
    rw [Nat.add_mul, Nat.one_mul] at h1
    exact Nat.le_trans h1 hh.2.1
  obtain ⟨w0, hw0⟩ : ∃ w0, w0 = w.alloc (.cells #[.int .i64 0, .int .i64 0, .int .i64 0, .int .i64 0, .int .i64 0] 58) := ⟨_, rfl⟩
  have hb0 : Below w.heap.size w w0 := by rw [hw0]; exact (Below.refl w.heap.size w).alloc (Nat.le_refl _) _
  have hr0 : Row w0 w.heap.size 58 [.int .i64 0, .int .i64 0, .int .i64 0, .int .i64 0, .int .i64 0] := by rw [hw0]; exact heap_alloc_new _ _
  have hm0 := hm.below hb0
  have hcl := rclosed_any hm0.row hm0.buf
  rw [decide_eq_true (show 0 < F.D.size by omega)] at hcl
  have HCL : Hid (Calls Try.prog 51 #[.pointer (some ⟨x, 0, none⟩)] (w.alloc (.cells #[.int .i64 0, .int .i64 0, .int .i64 0, .int .i64 0, .int .i64 0] 58)) fun e w' => e = .returned (.bool (!true)) ∧ w' = w.alloc (.cells #[.int .i64 0, .int .i64 0, .int .i64 0, .int .i64 0, .int .i64 0] 58)) := by rw [hw0] at hcl; exact hcl
  have HR00 := Lib.hid hr0
  have HNG0 : Hid (¬ G w.heap.size) := fun hg => by have := h.lt hg; omega
  have HEND : Hid (∀ W4 W9, Blk w0 G p F1 n1 x r ws1 W4 → Far (fun k => k = x ∨ k = w.heap.size) W4 W9 → Row W9 x 126 (rdC p { r with pos := r.pos + 1 }) → NextTo w G p F1 n1 x { r with pos := r.pos + 1 } ws1 W9) := by
    intro W4 W9 ⟨G4, k1, k2, k3, k4⟩ hf hr
    have hxG : ¬ G4 x := fun hg => (k4 x hg).elim ho.x fun h => by have := hb0.size; omega
    have hRG : ¬ G4 w.heap.size := fun hg => (k4 _ hg).elim HNG0.out fun h => by have := hr0.lt; omega
    have hR4 : Row W4 w.heap.size 58 [.int .i64 0, .int .i64 0, .int .i64 0, .int .i64 0, .int .i64 0] := k3.row hr0 (by
      rintro (hg | hg)
      · exact HNG0.out hg
      · omega)
    refine ⟨G4, k1.touch hf ?_, ⟨hr, hf.row k2.buf ?_, hf.row k2.words ?_, k2.len, k2.u64⟩, ?_, fun k hk => (k4 k hk).imp_right fun h => Nat.le_trans hb0.size h⟩
    · rintro k (rfl | rfl)
      · exact ⟨hxG, fun v hv => absurd (hv.typed k2.row) (by decide)⟩
      · exact ⟨hRG, fun v hv => absurd (hv.typed hR4) (by decide)⟩
    · rintro (e | e)
      · exact a1 e.symm
      · exact absurd e (Nat.ne_of_lt hbw)
    · rintro (e | e)
      · exact a2 e.symm
      · exact absurd e (Nat.ne_of_lt hgw)
    · refine (((Far.of_below hb0 _).trans k3 fun b hb => hb.elim (fun h => .inl (.inl h)) fun h => .inl (.inr (.inl h)))).trans hf ?_
      rintro b (rfl | rfl)
      · exact .inl (.inr (.inr rfl))
      · exact .inr (Nat.le_refl _)
  have H0 : Hid (Row (w.alloc (.cells #[.int .i64 0, .int .i64 0, .int .i64 0, .int .i64 0, .int .i64 0] 58)) x 126 (rdC p r)) := by rw [← hw0]; exact hm0.row
  have hqm : Int.tmod (r.pos : Int) (r.h : Int) = ((r.pos % r.h : Nat) : Int) := rfl
  have hh0 : ¬ ((r.h : Int) = 0) := by omega
  have g3 : ((r.pos : Int) == (r.count : Int)) = false := by simp; omega
  have hp1 : (r.pos : Int) + 1 = ((r.pos + 1 : Nat) : Int) := by omega
  have c7 : (w.alloc (.cells #[.int .i64 0, .int .i64 0, .int .i64 0, .int .i64 0, .int .i64 0] 58)).cell? ⟨x, 7, none⟩ = some (.int .i64 r.pos) := H0.out.cell 7
  have c6 : (w.alloc (.cells #[.int .i64 0, .int .i64 0, .int .i64 0, .int .i64 0, .int .i64 0] 58)).cell? ⟨x, 6, none⟩ = some (.int .i64 r.count) := H0.out.cell 6
  have d7 : (w.alloc (.cells #[.int .i64 0, .int .i64 0, .int .i64 0, .int .i64 0, .int .i64 0] 58)).drew.cell? ⟨x, 7, none⟩ = some (.int .i64 r.pos) := H0.out.cell 7
  have d1 : (w.alloc (.cells #[.int .i64 0, .int .i64 0, .int .i64 0, .int .i64 0, .int .i64 0] 58)).drew.cell? ⟨x, 1, none⟩ = some (.int .i64 r.h) := H0.out.cell 1
  have HB0 : Hid (Below w.heap.size w (w.alloc (.cells #[.int .i64 0, .int .i64 0, .int .i64 0, .int .i64 0, .int .i64 0] 58)).drew.drew) := by rw [← hw0]; exact below_drew (below_drew hb0)
  have g5 : ((( r.pos % r.h : Nat) : Int) == 0) = true := by simp; omega
  have HBC : Hid (Calls Try.prog 52 #[.pointer (some ⟨x, 0, none⟩)] (w.alloc (.cells #[.int .i64 0, .int .i64 0, .int .i64 0, .int .i64 0, .int .i64 0] 58)).drew.drew fun e w' => e = .returned (.int .i64 0) ∧ Blk w0 G p F1 n1 x r ws1 w') := (hB _ HB0.out).mono fun e w' ⟨h1, G', k1, k2, k3, k4⟩ =>
    have hbx : Below w0.heap.size w0 (w.alloc (.cells #[.int .i64 0, .int .i64 0, .int .i64 0, .int .i64 0, .int .i64 0] 58)).drew.drew := by rw [← hw0]; exact below_drew (below_drew (Below.refl _ _))
    ⟨h1, G', k1, k2, (Far.of_below hbx _).trans k3 fun b hb => .inl hb, fun k hk => (k4 k hk).imp_right fun h => Nat.le_trans hbx.size h⟩
  clear hcl h hm hm0 hok ho hr0 hb0 hB
  go_enter Try.func31, Try.ntmps31
  go_wp2_with fail
  refine HCL.out.mono ?_; rintro e w1 ⟨rfl, rfl⟩
  go_wp2
  go_region
  go_wp2
  go_region
  go_wp2_with fail
  refine HBC.out.mono ?_; rintro e W4 ⟨rfl, hbk4⟩
  have HBK := Lib.hid hbk4
  clear hbk4 HBC
  have HEND4 : Hid (∀ W9, Far (fun k => k = x ∨ k = w.heap.size) W4 W9 → Row W9 x 126 (rdC p { r with pos := r.pos + 1 }) → NextTo w G p F1 n1 x { r with pos := r.pos + 1 } ws1 W9) := fun W9 h1 h2 => HEND.out W4 W9 HBK.out h1 h2
  obtain ⟨G4, k1, k2, k3, k4⟩ := HBK.out
  have X4 := Lib.hid k2.row
  have Y4 := Lib.hid k2.buf
  have Z4 := Lib.hid k2.words
  have HLU : Hid (ws1.length = F.D.size ∧ U64s ws1) := ⟨k2.len.trans hs1, k2.u64⟩
  have R4 : Hid (Row W4 w.heap.size 58 [.int .i64 0, .int .i64 0, .int .i64 0, .int .i64 0, .int .i64 0]) := k3.row HR00.out (by
    rintro (hg | hg)
    · exact HNG0.out hg
    · omega)
  clear HBK k1 k2 k3 k4 HEND HNG0 G4
  have HPL : Hid (∀ W, Calls Try.prog 53 #[.agg #[.int .i64 r.k, .int .i64 r.h], .slice (some ⟨r.g, 0, none⟩) F.D.size F.D.size, .int .i64 r.pos] W fun e w' => e = .returned (.slice (some ⟨r.g, r.pos % r.h * r.k, none⟩) r.k (F.D.size - r.pos % r.h * r.k)) ∧ Below W.heap.size W w') := fun W => plc_any r.k r.h r.pos r.g F.D.size W hk.1 hk.2 hh.1 hh.2.2 (by omega) (by omega) hsz.2
  have HALL : Hid (colsC r.k ((ws1.drop (r.pos % r.h * r.k)).take r.k) r.k = [.int .i64 (tupAt r ws1).a, .int .i64 (tupAt r ws1).b, .int .i64 (tupAt r ws1).c, .int .i64 (tupAt r ws1).d, .int .i64 (tupAt r ws1).e]) := colsC_all hk.2 _
  have HZERO : Hid (colsC r.k ((ws1.drop (r.pos % r.h * r.k)).take r.k) 0 = [.int .i64 0, .int .i64 0, .int .i64 0, .int .i64 0, .int .i64 0]) := colsC_zero _ _
  have HCL5 : Hid (∀ i j, j < 5 → ∃ v, (colsC r.k ((ws1.drop (r.pos % r.h * r.k)).take r.k) i)[j]? = some v) := fun i j hj => ⟨_, List.getElem?_eq_getElem (show j < (colsC r.k ((ws1.drop (r.pos % r.h * r.k)).take r.k) i).length from hj)⟩
  have HXR : Hid (x ≠ w.heap.size) := by unfold Hid; omega
  have HSTEP : Hid (∀ i, i < r.k → (colsC r.k ((ws1.drop (r.pos % r.h * r.k)).take r.k) i).set i (.int .i64 (IntKind.i64.wrap (((ws1.getD (r.pos % r.h * r.k + i) 0 : Nat) : Nat) : Int))) = colsC r.k ((ws1.drop (r.pos % r.h * r.k)).take r.k) (i + 1)) := by
    intro i hi
    rw [← colsC_set hk.2 _ hi]
    congr 4
    rw [List.getD_eq_getElem?_getD, List.getD_eq_getElem?_getD, List.getElem?_take, if_pos hi, List.getElem?_drop]
  generalize hPO : NextTo w G p F1 n1 x { r with pos := r.pos + 1 } ws1 = POST at *
  replace hPO := Lib.hid hPO
  generalize hTU : tupAt r ws1 = TU at *
  replace hTU := Lib.hid hTU
  generalize colsC r.k ((ws1.drop (r.pos % r.h * r.k)).take r.k) = CC at *
  clear hmod hw0 HCL H0 c7 c6 d7 d1 HB0 hqm hh0 g3
  obtain ⟨TA, TB, TC, TD, TE⟩ := TU
  obtain ⟨k, hh2, first, blocks, count, pos, b, g⟩ := r
  unfold rdC at *
  simp only at *
  generalize pos % hh2 * k = off at *
  rw [hs1] at *
  generalize F.D.size = size at *
  generalize hP1 : pos + 1 = pos1 at *
  replace hP1 := Lib.hid hP1
  have hb5 := (Below.refl W4.heap.size W4).alloc (Nat.le_refl _) (.cells #[.int .i64 0, .int .i64 0, .int .i64 0, .int .i64 0, .int .i64 0] 58)
  have hr5 : Row (W4.alloc (.cells #[.int .i64 0, .int .i64 0, .int .i64 0, .int .i64 0, .int .i64 0] 58)) W4.heap.size 58 [.int .i64 0, .int .i64 0, .int .i64 0, .int .i64 0, .int .i64 0] := heap_alloc_new _ _
  have HX5 := Lib.hid (X4.out.below hb5 X4.out.lt)
  have HY5 := Lib.hid (Y4.out.below hb5 Y4.out.lt)
  have k0 : ∀ d os, (Sort.grow (redrawn (W4.alloc (.cells #[.int .i64 0, .int .i64 0, .int .i64 0, .int .i64 0, .int .i64 0] 58)) d) os).cell? ⟨x, 0, none⟩ = some (.int .i64 k) := cell_regrown (HX5.out.cell 0)
  have k1 : ∀ d os, (Sort.grow (redrawn (W4.alloc (.cells #[.int .i64 0, .int .i64 0, .int .i64 0, .int .i64 0, .int .i64 0] 58)) d) os).cell? ⟨x, 1, none⟩ = some (.int .i64 hh2) := cell_regrown (HX5.out.cell 1)
  have k7 : ∀ d os, (Sort.grow (redrawn (W4.alloc (.cells #[.int .i64 0, .int .i64 0, .int .i64 0, .int .i64 0, .int .i64 0] 58)) d) os).cell? ⟨x, 7, none⟩ = some (.int .i64 pos) := cell_regrown (HX5.out.cell 7)
  have k8 : ∀ d os, (Sort.grow (redrawn (W4.alloc (.cells #[.int .i64 0, .int .i64 0, .int .i64 0, .int .i64 0, .int .i64 0] 58)) d) os).cell? ⟨x, 8, none⟩ = some (.pointer (some ⟨b, 0, none⟩)) := cell_regrown (HX5.out.cell 8)
  have kb : ∀ d os, (Sort.grow (redrawn (W4.alloc (.cells #[.int .i64 0, .int .i64 0, .int .i64 0, .int .i64 0, .int .i64 0] 58)) d) os).cell? ⟨b, 0, none⟩ = some (.slice (some ⟨g, 0, none⟩) size size) := cell_regrown (HY5.out.cell 0)
  have Q4 : Hid (∀ d os, Calls Try.prog 53 #[.agg #[.int .i64 k, .int .i64 hh2], .slice (some ⟨g, 0, none⟩) size size, .int .i64 pos] (Sort.grow (redrawn (W4.alloc (.cells #[.int .i64 0, .int .i64 0, .int .i64 0, .int .i64 0, .int .i64 0] 58)) d) os) fun e w'' => e = .returned (.slice (some ⟨g, off, none⟩) k (size - off)) ∧ ∃ p : Regrown, w'' = Sort.grow (redrawn (W4.alloc (.cells #[.int .i64 0, .int .i64 0, .int .i64 0, .int .i64 0, .int .i64 0] 58)) p.d) p.os) := fun d os => Calls.regrown_of (HPL.out _)
  have HB5 := Lib.hid hb5
  have HR5 := Lib.hid hr5
  clear hb5 hr5 HPL HX5 HY5
  go_wp2
  refine wp_region_quiet_below (by kernel_rfl) (by kernel_rfl) ?_
  repeat (any_goals (first | go_big_quiet_step (with_reducible first | exact Q4.out _ _) | quiet_step (with_reducible first | exact Q4.out _ _)))
  refine wpQuiet_nil ?_
  intro w7 hw7
  obtain ⟨⟨dq, osq⟩, hw7⟩ := hw7
  have hbw7 := below_regrown (W4.alloc (.cells #[.int .i64 0, .int .i64 0, .int .i64 0, .int .i64 0, .int .i64 0] 58)) dq osq
  rw [← hw7] at hbw7
  clear hw7
  have HB7 := Lib.hid (HB5.out.trans (hbw7.mono HB5.out.size))
  have HR7 : Hid (Row w7 W4.heap.size 58 (CC 0)) := by unfold Hid; rw [HZERO.out]; exact HR5.out.below hbw7 HR5.out.lt
  clear hbw7 Q4 k0 k1 k7 k8 kb HR5 HB5 HZERO
  have hxt := X4.out.lt
  have hgt := Z4.out.lt
  have hrt := R4.out.lt
  have HLT4 : Hid (x < W4.heap.size ∧ g < W4.heap.size ∧ w.heap.size < W4.heap.size) := ⟨hxt, hgt, hrt⟩
  clear hxt hgt hrt
  generalize hT : W4.heap.size = T at *
  go_wp2
  go_loopw [61] (fun iv wr => ∃ i : Nat, i ≤ k ∧ iv = .int .i64 (i : Int) ∧ Hid (Below T W4 wr) ∧ Hid (Row wr T 58 (CC i))) (fun iv _ => k - (intOf iv).toNat)
  case atStart => exact ⟨0, Nat.zero_le _, rfl, HB7.out, HR7.out⟩
  case round =>
    obtain ⟨i, hi, rfl, HF, HRT⟩ := hrel
    by_cases hlt : i < k
    · have hset := HSTEP.out i hlt
      have hol : off + i < ws1.length := by have := HLU.out.1; omega
      have cw : wr.cell? ⟨g, off + i, none⟩ = some (.int .u64 (ws1.getD (off + i) 0 : Nat)) := by
        rw [(Z4.out.below HF.out HLT4.out.2.1).cell (off + i)]; exact map_at hol
      have hi5 : i < 5 := by omega
      have ct : ∃ v, wr.cell? ⟨T, i, none⟩ = some v := by
        rw [HRT.out.cell i]
        exact HCL5.out i i hi5
      obtain ⟨v0, ct⟩ := ct
      have fg := HRT.out.free i
      have HST : Hid (Row (wr.setCell ⟨T, i, none⟩ (.int .i64 (IntKind.i64.wrap ((ws1.getD (off + i) 0 : Nat) : Int)))) T 58 (CC (i + 1))) := by
        have h1 := HRT.out.set i (.int .i64 (IntKind.i64.wrap ((ws1.getD (off + i) 0 : Nat) : Int)))
        rw [hset] at h1; exact h1
      have HFF : Hid (Below T W4 (wr.setCell ⟨T, i, none⟩ (.int .i64 (IntKind.i64.wrap ((ws1.getD (off + i) 0 : Nat) : Int))))) := HF.out.setCell (Nat.le_refl _) _
      have hj0 : (0 : Int) ≤ (i : Int) := by omega
      have hj1 : (i : Int) < (k : Int) := by omega
      have hj5 : (i : Int) < 5 := by omega
      clear hset hol hi
      generalize ws1.getD (off + i) 0 = u at *
      obtain ⟨z, hz⟩ : ∃ z, IntKind.i64.wrap (u : Int) = z := ⟨_, rfl⟩
      rw [hz] at HST HFF
      go_wp2
      go_roundw
      case rel => exact ⟨i + 1, by omega, by go_num, HFF.out, HST.out⟩
      case measure => simp [intOf]; omega
    · obtain rfl : i = k := by omega
      have hrx := X4.out.below HF.out HLT4.out.1
      have c7 : wr.cell? ⟨x, 7, none⟩ = some (.int .i64 pos) := hrx.cell 7
      have f7 := hrx.free 7
      have hrx8 := hrx.set 7 (.int .i64 pos1)
      have hrt8 : Row (wr.setCell ⟨x, 7, none⟩ (.int .i64 pos1)) T 58 (CC i) := HRT.out.far (p := ⟨x, 7, none⟩) (fun e => by have := HLT4.out.1; simp only at e; omega) _
      rw [HALL.out] at hrt8
      have hrr8 : Row (wr.setCell ⟨x, 7, none⟩ (.int .i64 pos1)) w.heap.size 58 [.int .i64 0, .int .i64 0, .int .i64 0, .int .i64 0, .int .i64 0] := (R4.out.below HF.out HLT4.out.2.2).far (p := ⟨x, 7, none⟩) (fun e => HXR.out e.symm) (.int .i64 pos1)
      have hf8 : Far (fun k => k = x ∨ k = w.heap.size) W4 (wr.setCell ⟨x, 7, none⟩ (.int .i64 pos1)) := (Far.of_below (by rw [hT]; exact HF.out) (fun k => k = x ∨ k = w.heap.size)).set (p := ⟨x, 7, none⟩) (.inl (.inl rfl)) _
      have HRT8 := Lib.hid hrt8
      have HRR8 := Lib.hid hrr8
      have HRX8 := Lib.hid hrx8
      have HF8 := Lib.hid hf8
      clear hrx hrx8 hrt8 hrr8 hf8 HRT HF
      generalize hw8 : wr.setCell ⟨x, 7, none⟩ (.int .i64 pos1) = w8 at HRT8 HRR8 HRX8 HF8
      have t0 : w8.cell? ⟨T, 0, none⟩ = some (.int .i64 TA) := HRT8.out.cell 0
      have t1 : w8.cell? ⟨T, 1, none⟩ = some (.int .i64 TB) := HRT8.out.cell 1
      have t2 : w8.cell? ⟨T, 2, none⟩ = some (.int .i64 TC) := HRT8.out.cell 2
      have t3 : w8.cell? ⟨T, 3, none⟩ = some (.int .i64 TD) := HRT8.out.cell 3
      have t4 : w8.cell? ⟨T, 4, none⟩ = some (.int .i64 TE) := HRT8.out.cell 4
      have z0 : w8.cell? ⟨w.heap.size, 0, none⟩ = some (.int .i64 0) := HRR8.out.cell 0
      have z1 : w8.cell? ⟨w.heap.size, 1, none⟩ = some (.int .i64 0) := HRR8.out.cell 1
      have z2 : w8.cell? ⟨w.heap.size, 2, none⟩ = some (.int .i64 0) := HRR8.out.cell 2
      have z3 : w8.cell? ⟨w.heap.size, 3, none⟩ = some (.int .i64 0) := HRR8.out.cell 3
      have z4 : w8.cell? ⟨w.heap.size, 4, none⟩ = some (.int .i64 0) := HRR8.out.cell 4
      have f0 := HRR8.out.free 0
      have f1 := HRR8.out.free 1
      have f2 := HRR8.out.free 2
      have f3 := HRR8.out.free 3
      have f4 := HRR8.out.free 4
      have HR9 := Lib.hid (set5 HRR8.out (.int .i64 TA) (.int .i64 TB) (.int .i64 TC) (.int .i64 TD) (.int .i64 TE))
      have HF9 := Lib.hid (HF8.out.trans (far5 w8 w.heap.size (.int .i64 TA) (.int .i64 TB) (.int .i64 TC) (.int .i64 TD) (.int .i64 TE)) fun b hb => .inl (.inr hb))
      have HX9 := Lib.hid ((far5 w8 w.heap.size (.int .i64 TA) (.int .i64 TB) (.int .i64 TC) (.int .i64 TD) (.int .i64 TE)).row HRX8.out HXR.out)
      clear HRT8 HRR8 HRX8 HF8
      subst hw8
      go_wp2
      have H9 := Lib.hid (HEND4.out _ HF9.out HX9.out)
      clear HEND4 HF9 HX9
      have q0 := HR9.out.cell 0
      have q1 := HR9.out.cell 1
      have q2 := HR9.out.cell 2
      have q3 := HR9.out.cell 3
      have q4 := HR9.out.cell 4
      refine bodyPost_ret (v := .tuple #[.agg #[.int .i64 TA, .int .i64 TB, .int .i64 TC, .int .i64 TD, .int .i64 TE], .bool true, .int .i64 0]) ?_ rfl ⟨by rw [hTU.out], by obtain rfl := hP1.out; rw [hPO.out]; exact H9.out⟩
      generalize (((((((wr.setCell ⟨x, 7, none⟩ (.int .i64 pos1)).setCell ⟨w.heap.size, 0, none⟩ (.int .i64 TA)).setCell ⟨w.heap.size, 1, none⟩ (.int .i64 TB)).setCell ⟨w.heap.size, 2, none⟩ (.int .i64 TC)).setCell ⟨w.heap.size, 3, none⟩ (.int .i64 TD)).setCell ⟨w.heap.size, 4, none⟩ (.int .i64 TE))) = w9 at *
      simp only [List.getElem?_cons_zero, List.getElem?_cons_succ] at q0 q1 q2 q3 q4
      simp [results, Try.results31, go_sem, q0, q1, q2, q3, q4]
/-- behind Next that could not read: closed -/
def NEnd (w : World) (G : Nat → Prop) (x : Nat) (p : Wp) (F : Fs) (n : Nat) (r : Rt) (w' : World) : Prop :=
  ∃ G', Sys w' G' p { F with A := release F.A r.b F.D.size } n ∧ RShut w' x p r ∧ Far (fun k => G k ∨ k = r.b ∨ k = r.g) w w' ∧ ∀ k, G' k → G k ∨ w.heap.size ≤ k
set_option maxHeartbeats 4000000 in
set_option maxRecDepth 100000 in
theorem fnext_bad {w : World} {G : Nat → Prop} {p : Wp} {F : Fs} {n x : Nat} {r : Rt} {ws : List Nat} (h : Sys w G p F n) (hok : RtOk r F.D.size) (hm : RMem w x p r F.D.size ws) (ho : ROut G x r) (hst : wordsAt F.A.st r.b = some F.D.size) (hpos : r.pos < r.count)
    {F1 : Fs} {n1 : Nat} {ws1 : List Nat} {er : Int} (he : er ≠ 0) (hs1 : F1.D.size = F.D.size) (ha1 : F1.A = F.A) (hmid : r.pos % r.h = 0) (hB : ∀ W, Below w.heap.size w W → Calls Try.prog 52 #[.pointer (some ⟨x, 0, none⟩)] W fun e w' => e = .returned (.int .i64 er) ∧ Blk W G p F1 n1 x r ws1 w') :
    Calls Try.prog 31 #[.pointer (some ⟨x, 0, none⟩)] w fun e w' => e = .returned (.tuple #[.agg #[.int .i64 0, .int .i64 0, .int .i64 0, .int .i64 0, .int .i64 0], .bool false, .int .i64 er]) ∧ NEnd w G x p F1 n1 r w' := by
  obtain ⟨hx, hbw, hgw⟩ := hm.lt
  obtain ⟨a1, a2, a3⟩ := hm.apart
  have hsz := hok.sz
  have hk := hok.k
  have hh := hok.h
  have hct := hok.count
  obtain ⟨w0, hw0⟩ : ∃ w0, w0 = w.alloc (.cells #[.int .i64 0, .int .i64 0, .int .i64 0, .int .i64 0, .int .i64 0] 58) := ⟨_, rfl⟩
  have hb0 : Below w.heap.size w w0 := by rw [hw0]; exact (Below.refl w.heap.size w).alloc (Nat.le_refl _) _
  have hr0 : Row w0 w.heap.size 58 [.int .i64 0, .int .i64 0, .int .i64 0, .int .i64 0, .int .i64 0] := by rw [hw0]; exact heap_alloc_new _ _
  have hm0 := hm.below hb0
  have hcl := rclosed_any hm0.row hm0.buf
  rw [decide_eq_true (show 0 < F.D.size by omega)] at hcl
  have HCL : Hid (Calls Try.prog 51 #[.pointer (some ⟨x, 0, none⟩)] (w.alloc (.cells #[.int .i64 0, .int .i64 0, .int .i64 0, .int .i64 0, .int .i64 0] 58)) fun e w' => e = .returned (.bool (!true)) ∧ w' = w.alloc (.cells #[.int .i64 0, .int .i64 0, .int .i64 0, .int .i64 0, .int .i64 0] 58)) := by rw [hw0] at hcl; exact hcl
  have HNG0 : Hid (¬ G w.heap.size) := fun hg => by have := h.lt hg; omega
  have HCLS : Hid (∀ W4, Blk w0 G p F1 n1 x r ws1 W4 → Calls Try.prog 33 #[.pointer (some ⟨x, 0, none⟩)] W4 fun e w5 => e = .returned (.tuple #[]) ∧ (Row w5 w.heap.size 58 [.int .i64 0, .int .i64 0, .int .i64 0, .int .i64 0, .int .i64 0] ∧ ∀ w6, Far (fun k => k = w.heap.size) w5 w6 → NEnd w G x p F1 n1 r w6)) := by
    intro W4 ⟨G4, k1, k2, k3, k4⟩
    have hnG : ∀ k, k < w.heap.size → ¬ G k → ¬ G4 k := fun k hk hn hg => (k4 k hg).elim hn fun h => by have := hb0.size; omega
    have hRG : ¬ G4 w.heap.size := fun hg => (k4 _ hg).elim HNG0.out fun h => by have := hr0.lt; omega
    have hR4 : Row W4 w.heap.size 58 [.int .i64 0, .int .i64 0, .int .i64 0, .int .i64 0, .int .i64 0] := k3.row hr0 (by
      rintro (hg | hg)
      · exact HNG0.out hg
      · omega)
    refine (rclose_any k1 k2 ⟨hnG x hx ho.x, hnG _ hbw ho.b, hnG _ hgw ho.g⟩ (by rw [ha1, hs1]; exact hst)).mono ?_
    rintro e w5 ⟨rfl, G5, q1, q2, q3, q4⟩
    have hR5 : Row w5 w.heap.size 58 [.int .i64 0, .int .i64 0, .int .i64 0, .int .i64 0, .int .i64 0] := q3.row hR4 (by
      rintro (hg | hg)
      · exact hRG hg
      · omega)
    have hRG5 : ¬ G5 w.heap.size := fun hg => (q4 _ hg).elim hRG fun h => by have := hR4.lt; omega
    refine ⟨rfl, hR5, fun w6 hf => ⟨G5, q1.touch hf ?_, ⟨hf.row q2.1 (by omega), hf.row q2.2 (by omega)⟩, ?_, ?_⟩⟩
    · rintro k rfl
      exact ⟨hRG5, fun v hv => absurd (hv.typed hR5) (by decide)⟩
    · have f1 : Far (fun k => G k ∨ k = r.b ∨ k = r.g) w W4 := (Far.of_below hb0 _).trans k3 fun b hb => hb.elim (fun h => .inl (.inl h)) fun h => .inl (.inr (.inr h))
      have f2 := f1.trans q3 (fun b hb => by
        rcases hb with hb | hb
        · exact (k4 b hb).imp (fun h => .inl h) fun h => Nat.le_trans hb0.size h
        · exact .inl (.inr (.inl hb)))
      exact f2.trans hf fun b hb => .inr (by omega)
    · intro k hk
      rcases q4 k hk with hg | hg
      · exact (k4 k hg).imp_right fun h => Nat.le_trans hb0.size h
      · exact .inr (by have := hb0.size; have := k3.size; omega)
  have H0 : Hid (Row (w.alloc (.cells #[.int .i64 0, .int .i64 0, .int .i64 0, .int .i64 0, .int .i64 0] 58)) x 126 (rdC p r)) := by rw [← hw0]; exact hm0.row
  have hqm : Int.tmod (r.pos : Int) (r.h : Int) = ((r.pos % r.h : Nat) : Int) := rfl
  have hh0 : ¬ ((r.h : Int) = 0) := by omega
  have g3 : ((r.pos : Int) == (r.count : Int)) = false := by simp; omega
  have c7 : (w.alloc (.cells #[.int .i64 0, .int .i64 0, .int .i64 0, .int .i64 0, .int .i64 0] 58)).cell? ⟨x, 7, none⟩ = some (.int .i64 r.pos) := H0.out.cell 7
  have c6 : (w.alloc (.cells #[.int .i64 0, .int .i64 0, .int .i64 0, .int .i64 0, .int .i64 0] 58)).cell? ⟨x, 6, none⟩ = some (.int .i64 r.count) := H0.out.cell 6
  have d7 : (w.alloc (.cells #[.int .i64 0, .int .i64 0, .int .i64 0, .int .i64 0, .int .i64 0] 58)).drew.cell? ⟨x, 7, none⟩ = some (.int .i64 r.pos) := H0.out.cell 7
  have d1 : (w.alloc (.cells #[.int .i64 0, .int .i64 0, .int .i64 0, .int .i64 0, .int .i64 0] 58)).drew.cell? ⟨x, 1, none⟩ = some (.int .i64 r.h) := H0.out.cell 1
  have HB0 : Hid (Below w.heap.size w (w.alloc (.cells #[.int .i64 0, .int .i64 0, .int .i64 0, .int .i64 0, .int .i64 0] 58)).drew.drew) := by rw [← hw0]; exact below_drew (below_drew hb0)
  have g5 : ((( r.pos % r.h : Nat) : Int) == 0) = true := by simp; omega
  have ge : (er != 0) = true := by simpa using he
  have HBC : Hid (Calls Try.prog 52 #[.pointer (some ⟨x, 0, none⟩)] (w.alloc (.cells #[.int .i64 0, .int .i64 0, .int .i64 0, .int .i64 0, .int .i64 0] 58)).drew.drew fun e w' => e = .returned (.int .i64 er) ∧ Blk w0 G p F1 n1 x r ws1 w') := (hB _ HB0.out).mono fun e w' ⟨h1, G', k1, k2, k3, k4⟩ =>
    have hbx : Below w0.heap.size w0 (w.alloc (.cells #[.int .i64 0, .int .i64 0, .int .i64 0, .int .i64 0, .int .i64 0] 58)).drew.drew := by rw [← hw0]; exact below_drew (below_drew (Below.refl _ _))
    ⟨h1, G', k1, k2, (Far.of_below hbx _).trans k3 fun b hb => .inl hb, fun k hk => (k4 k hk).imp_right fun h => Nat.le_trans hbx.size h⟩
  generalize NEnd w G x p F1 n1 r = POST at *
  generalize Blk w0 G p F1 n1 x r ws1 = BK at *
  clear hcl h hm hm0 hok ho hr0 hb0 hB hw0
  go_enter Try.func31, Try.ntmps31
  go_wp2_with fail
  refine HCL.out.mono ?_; rintro e w1 ⟨rfl, rfl⟩
  go_wp2
  go_region
  go_wp2
  go_region
  go_wp2_with fail
  refine HBC.out.mono ?_; rintro e W4 ⟨rfl, hbk4⟩
  have HBK := Lib.hid hbk4
  clear hbk4 HBC H0 HB0 c7 c6 d7 d1 HNG0
  go_wp2_with fail
  refine (HCLS.out W4 HBK.out).mono ?_; rintro e w5 ⟨rfl, hr5, h6⟩
  have HR5 := Lib.hid hr5
  have H6 := Lib.hid h6
  clear hr5 h6 HCLS HBK
  have z0 := HR5.out.cell 0
  have z1 := HR5.out.cell 1
  have z2 := HR5.out.cell 2
  have z3 := HR5.out.cell 3
  have z4 := HR5.out.cell 4
  have f0 := HR5.out.free 0
  have f1 := HR5.out.free 1
  have f2 := HR5.out.free 2
  have f3 := HR5.out.free 3
  have f4 := HR5.out.free 4
  simp only [List.getElem?_cons_zero, List.getElem?_cons_succ] at z0 z1 z2 z3 z4
  have HR9 := Lib.hid (set5 HR5.out (.int .i64 0) (.int .i64 0) (.int .i64 0) (.int .i64 0) (.int .i64 0))
  have HF9 := Lib.hid (far5 w5 w.heap.size (.int .i64 0) (.int .i64 0) (.int .i64 0) (.int .i64 0) (.int .i64 0))
  go_wp2
  have H9 := Lib.hid (H6.out _ HF9.out)
  have q0 := HR9.out.cell 0
  have q1 := HR9.out.cell 1
  have q2 := HR9.out.cell 2
  have q3 := HR9.out.cell 3
  have q4 := HR9.out.cell 4
  refine bodyPost_ret (v := .tuple #[.agg #[.int .i64 0, .int .i64 0, .int .i64 0, .int .i64 0, .int .i64 0], .bool false, .int .i64 er]) ?_ rfl ⟨rfl, H9.out⟩
  simp only [List.getElem?_cons_zero, List.getElem?_cons_succ] at q0 q1 q2 q3 q4
  simp [results, Try.results31, go_sem, q0, q1, q2, q3, q4]
set_option maxRecDepth 100000 in
theorem fnext_nil (w : World) : Calls Try.prog 31 #[.pointer none] w fun e w' => e = .returned (.tuple #[.agg #[.int .i64 0, .int .i64 0, .int .i64 0, .int .i64 0, .int .i64 0], .bool false, .int .i64 1]) ∧ Below w.heap.size w w' := by
  have HC := Lib.hid (rclosed_nil (w.alloc (.cells #[.int .i64 0, .int .i64 0, .int .i64 0, .int .i64 0, .int .i64 0] 58)))
  have HB : Hid (Below w.heap.size w (w.alloc (.cells #[.int .i64 0, .int .i64 0, .int .i64 0, .int .i64 0, .int .i64 0] 58))) := (Below.refl w.heap.size w).alloc (Nat.le_refl _) _
  have hr0 : Row (w.alloc (.cells #[.int .i64 0, .int .i64 0, .int .i64 0, .int .i64 0, .int .i64 0] 58)) w.heap.size 58 [.int .i64 0, .int .i64 0, .int .i64 0, .int .i64 0, .int .i64 0] := heap_alloc_new _ _
  have HR := Lib.hid hr0
  clear hr0
  go_enter Try.func31, Try.ntmps31
  go_wp2_with fail
  refine HC.out.mono ?_; rintro e w1 ⟨rfl, rfl⟩
  go_wp2
  have q0 := HR.out.cell 0
  have q1 := HR.out.cell 1
  have q2 := HR.out.cell 2
  have q3 := HR.out.cell 3
  have q4 := HR.out.cell 4
  refine bodyPost_ret (v := .tuple #[.agg #[.int .i64 0, .int .i64 0, .int .i64 0, .int .i64 0, .int .i64 0], .bool false, .int .i64 1]) ?_ rfl ⟨rfl, HB.out⟩
  simp only [List.getElem?_cons_zero, List.getElem?_cons_succ] at q0 q1 q2 q3 q4
  simp [results, Try.results31, go_sem, q0, q1, q2, q3, q4]
set_option maxRecDepth 100000 in
theorem fnext_shut {w : World} {p : Wp} {x : Nat} {r : Rt} (hs : RShut w x p r) : Calls Try.prog 31 #[.pointer (some ⟨x, 0, none⟩)] w fun e w' => e = .returned (.tuple #[.agg #[.int .i64 0, .int .i64 0, .int .i64 0, .int .i64 0, .int .i64 0], .bool false, .int .i64 1]) ∧ Below w.heap.size w w' := by
  have HB : Hid (Below w.heap.size w (w.alloc (.cells #[.int .i64 0, .int .i64 0, .int .i64 0, .int .i64 0, .int .i64 0] 58))) := (Below.refl w.heap.size w).alloc (Nat.le_refl _) _
  have hc := rclosed_any (hs.1.below HB.out hs.1.lt) (hs.2.below HB.out hs.2.lt)
  rw [decide_eq_false (Nat.lt_irrefl 0)] at hc
  have HC := Lib.hid hc
  have hr0 : Row (w.alloc (.cells #[.int .i64 0, .int .i64 0, .int .i64 0, .int .i64 0, .int .i64 0] 58)) w.heap.size 58 [.int .i64 0, .int .i64 0, .int .i64 0, .int .i64 0, .int .i64 0] := heap_alloc_new _ _
  have HR := Lib.hid hr0
  clear hr0 hc hs
  go_enter Try.func31, Try.ntmps31
  go_wp2_with fail
  refine HC.out.mono ?_; rintro e w1 ⟨rfl, rfl⟩
  go_wp2
  have q0 := HR.out.cell 0
  have q1 := HR.out.cell 1
  have q2 := HR.out.cell 2
  have q3 := HR.out.cell 3
  have q4 := HR.out.cell 4
  refine bodyPost_ret (v := .tuple #[.agg #[.int .i64 0, .int .i64 0, .int .i64 0, .int .i64 0, .int .i64 0], .bool false, .int .i64 1]) ?_ rfl ⟨rfl, HB.out⟩
  simp only [List.getElem?_cons_zero, List.getElem?_cons_succ] at q0 q1 q2 q3 q4
  simp [results, Try.results31, go_sem, q0, q1, q2, q3, q4]
set_option maxHeartbeats 1000000 in
set_option maxRecDepth 100000 in
theorem fnext_end {w : World} {p : Wp} {sz x : Nat} {r : Rt} {ws : List Nat} (hok : RtOk r sz) (hm : RMem w x p r sz ws) (hpos : r.pos = r.count) : Calls Try.prog 31 #[.pointer (some ⟨x, 0, none⟩)] w fun e w' => e = .returned (.tuple #[.agg #[.int .i64 0, .int .i64 0, .int .i64 0, .int .i64 0, .int .i64 0], .bool false, .int .i64 0]) ∧ Below w.heap.size w w' := by
  have hsz := hok.sz
  have HB : Hid (Below w.heap.size w (w.alloc (.cells #[.int .i64 0, .int .i64 0, .int .i64 0, .int .i64 0, .int .i64 0] 58))) := (Below.refl w.heap.size w).alloc (Nat.le_refl _) _
  have hm0 := hm.below HB.out
  have hc := rclosed_any hm0.row hm0.buf
  rw [decide_eq_true (show 0 < sz by omega)] at hc
  have HC := Lib.hid hc
  have hr0 : Row (w.alloc (.cells #[.int .i64 0, .int .i64 0, .int .i64 0, .int .i64 0, .int .i64 0] 58)) w.heap.size 58 [.int .i64 0, .int .i64 0, .int .i64 0, .int .i64 0, .int .i64 0] := heap_alloc_new _ _
  have HR := Lib.hid hr0
  have c7 : (w.alloc (.cells #[.int .i64 0, .int .i64 0, .int .i64 0, .int .i64 0, .int .i64 0] 58)).cell? ⟨x, 7, none⟩ = some (.int .i64 r.pos) := hm0.row.cell 7
  have c6 : (w.alloc (.cells #[.int .i64 0, .int .i64 0, .int .i64 0, .int .i64 0, .int .i64 0] 58)).cell? ⟨x, 6, none⟩ = some (.int .i64 r.count) := hm0.row.cell 6
  have g3 : ((r.pos : Int) == (r.count : Int)) = true := by simp; omega
  clear hr0 hc hm hm0 hok hpos
  go_enter Try.func31, Try.ntmps31
  go_wp2_with fail
  refine HC.out.mono ?_; rintro e w1 ⟨rfl, rfl⟩
  go_wp2
  go_region
  go_wp2
  have q0 := HR.out.cell 0
  have q1 := HR.out.cell 1
  have q2 := HR.out.cell 2
  have q3 := HR.out.cell 3
  have q4 := HR.out.cell 4
  refine bodyPost_ret (v := .tuple #[.agg #[.int .i64 0, .int .i64 0, .int .i64 0, .int .i64 0, .int .i64 0], .bool false, .int .i64 0]) ?_ rfl ⟨rfl, below_drew HB.out⟩
  simp only [List.getElem?_cons_zero, List.getElem?_cons_succ] at q0 q1 q2 q3 q4
  simp [results, Try.results31, go_sem, q0, q1, q2, q3, q4]
section
variable {w : World} {G : Nat → Prop} {p : Wp} {F : Fs} {n x : Nat} {r : Rt} {ws : List Nat}
/-- a block that is not sealed so -/
theorem rblk_fault (h : Sys w G p F n) (hn : n < 1000000) (hok : RtOk r F.D.size) (hm : RMem w x p r F.D.size ws) (ho : ROut G x r) (hpos : r.pos < r.count) (he : (read F.D ((r.first + r.pos / r.h : Nat) : Int)).1 = 0)
    (hbad : ¬ (okW (F.D.now ((r.first + r.pos / r.h : Nat) : Int)) (r.first + r.pos / r.h) = true ∧ tagW (F.D.now ((r.first + r.pos / r.h : Nat) : Int)) = r.k ∧ numW (F.D.now ((r.first + r.pos / r.h : Nat) : Int)) - 1 = min r.h (r.count - r.pos / r.h * r.h) * r.k)) :
    Calls Try.prog 52 #[.pointer (some ⟨x, 0, none⟩)] w fun e w' => e = .returned (.int .i64 6) ∧ Blk w G p { F with D := (read F.D ((r.first + r.pos / r.h : Nat) : Int)).2 } (n + 1) x r ws w' := by
  rcases hk : okW (F.D.now ((r.first + r.pos / r.h : Nat) : Int)) (r.first + r.pos / r.h) with _ | _
  · exact rblk_bad h hn hok hm ho hpos he hk
  · by_cases ht : tagW (F.D.now ((r.first + r.pos / r.h : Nat) : Int)) = r.k
    · exact rblk_num h hn hok hm ho hpos he hk ht fun hm => hbad ⟨hk, ht, hm⟩
    · exact rblk_tag h hn hok hm ho hpos he hk ht
/-- Next behind a device's error -/
theorem fnext_err (h : Sys w G p F n) (hn : n < 1000000) (hok : RtOk r F.D.size) (hm : RMem w x p r F.D.size ws) (ho : ROut G x r) (hst : wordsAt F.A.st r.b = some F.D.size) (hpos : r.pos < r.count) (hmid : r.pos % r.h = 0) (he : (read F.D ((r.first + r.pos / r.h : Nat) : Int)).1 ≠ 0) :
    Calls Try.prog 31 #[.pointer (some ⟨x, 0, none⟩)] w fun e w' => e = .returned (.tuple #[.agg #[.int .i64 0, .int .i64 0, .int .i64 0, .int .i64 0, .int .i64 0], .bool false, .int .i64 (read F.D ((r.first + r.pos / r.h : Nat) : Int)).1]) ∧ NEnd w G x p { F with D := (read F.D ((r.first + r.pos / r.h : Nat) : Int)).2 } (n + 1) r w' :=
  fnext_bad h hok hm ho hst hpos (ws1 := ws) he (now_read F.D _ 0).2.1 rfl hmid fun _ hb => rblk_err (h.below hb) hn hok (hm.below hb) ho hpos he
theorem fnext_fault (h : Sys w G p F n) (hn : n < 1000000) (hok : RtOk r F.D.size) (hm : RMem w x p r F.D.size ws) (ho : ROut G x r) (hst : wordsAt F.A.st r.b = some F.D.size) (hpos : r.pos < r.count) (hmid : r.pos % r.h = 0) (he : (read F.D ((r.first + r.pos / r.h : Nat) : Int)).1 = 0)
    (hbad : ¬ (okW (F.D.now ((r.first + r.pos / r.h : Nat) : Int)) (r.first + r.pos / r.h) = true ∧ tagW (F.D.now ((r.first + r.pos / r.h : Nat) : Int)) = r.k ∧ numW (F.D.now ((r.first + r.pos / r.h : Nat) : Int)) - 1 = min r.h (r.count - r.pos / r.h * r.h) * r.k)) :
    Calls Try.prog 31 #[.pointer (some ⟨x, 0, none⟩)] w fun e w' => e = .returned (.tuple #[.agg #[.int .i64 0, .int .i64 0, .int .i64 0, .int .i64 0, .int .i64 0], .bool false, .int .i64 6]) ∧ NEnd w G x p { F with D := (read F.D ((r.first + r.pos / r.h : Nat) : Int)).2 } (n + 1) r w' :=
  fnext_bad h hok hm ho hst hpos (ws1 := ws) (by omega) (now_read F.D _ 0).2.1 rfl hmid fun _ hb => rblk_fault (h.below hb) hn hok (hm.below hb) ho hpos he hbad
end
/-- a reader of a file that stands -/
structure RHold (D : St) (r : Rt) (l : List Tup) (ws : List Nat) : Prop where
  stands : StandsTo D r.first r.k r.h l (blocksN r.h r.count)
  cnt : l.length = r.count
  ok : ∀ t ∈ l, TupOk t ∧ fitsT r.k t = true
  buf : r.pos % r.h ≠ 0 → ws.take (min r.h (r.count - r.pos / r.h * r.h) * r.k) = payT r.h r.k l (r.pos / r.h)
section
variable {r : Rt} {l : List Tup} {ws : List Nat} {sz : Nat}
/-- the tuple that the buffer tells -/
theorem buf_tup (hk : r.k ≤ 5) (hh : 0 < r.h) (hpos : r.pos < r.count) (hc : l.length = r.count) (hb : ws.take (min r.h (r.count - r.pos / r.h * r.h) * r.k) = payT r.h r.k l (r.pos / r.h)) {t : Tup} (ht : l[r.pos]? = some t) (hok : TupOk t) (hf : fitsT r.k t = true) : tupAt r ws = t := by
  have hm := Nat.mod_lt r.pos hh
  have hdm := Nat.div_add_mod r.pos r.h
  rw [Nat.mul_comm] at hdm
  obtain ⟨j, hj⟩ : ∃ j, j = r.pos / r.h := ⟨_, rfl⟩
  rw [← hj] at hb hdm
  have hq : r.pos % r.h < min r.h (r.count - j * r.h) := by omega
  have hqk : r.pos % r.h * r.k + r.k ≤ min r.h (r.count - j * r.h) * r.k := by
    have := Nat.mul_le_mul_right r.k (show r.pos % r.h + 1 ≤ min r.h (r.count - j * r.h) by omega)
    rw [Nat.add_mul, Nat.one_mul] at this; exact this
  have e1 : (ws.drop (r.pos % r.h * r.k)).take r.k = ((ws.take (min r.h (r.count - j * r.h) * r.k)).drop (r.pos % r.h * r.k)).take r.k := by
    rw [List.drop_take, List.take_take, Nat.min_eq_left (by omega)]
  unfold tupAt
  rw [e1, hb]
  unfold payT
  have h2 : ((l.drop (j * r.h)).take r.h)[r.pos % r.h]? = some t := by
    rw [List.getElem?_take, if_pos hm, List.getElem?_drop, show j * r.h + r.pos % r.h = r.pos by omega]; exact ht
  rw [flatT_at hk h2]
  exact tupOf_back hk hok hf
/-- the block that a reader reads of a file that stands -/
theorem hold_good {D : St} (hok : RtOk r D.size) (h : RHold D r l ws) (hpos : r.pos < r.count) :
    okW (D.now ((r.first + r.pos / r.h : Nat) : Int)) (r.first + r.pos / r.h) = true ∧ tagW (D.now ((r.first + r.pos / r.h : Nat) : Int)) = r.k ∧ numW (D.now ((r.first + r.pos / r.h : Nat) : Int)) - 1 = min r.h (r.count - r.pos / r.h * r.h) * r.k ∧
      (D.now ((r.first + r.pos / r.h : Nat) : Int)).take (min r.h (r.count - r.pos / r.h * r.h) * r.k) = payT r.h r.k l (r.pos / r.h) ∧ (payT r.h r.k l (r.pos / r.h)).length = min r.h (r.count - r.pos / r.h * r.h) * r.k := by
  have hh := hok.h
  have hdm := Nat.div_add_mod r.pos r.h
  have hm := Nat.mod_lt r.pos hh.1
  rw [Nat.mul_comm] at hdm
  have hj : r.pos / r.h < blocksN r.h r.count := by
    have h1 := blocks_mul (h := r.h) (c := r.count) hh.1
    apply Nat.lt_of_not_le
    intro h2
    have := Nat.mul_le_mul_right r.h h2
    omega
  have hs := h.stands _ hj
  have hpl : (payT r.h r.k l (r.pos / r.h)).length = min r.h (r.count - r.pos / r.h * r.h) * r.k := by rw [pay_words hok.k.2, h.cnt]
  have hle : (payT r.h r.k l (r.pos / r.h)).length ≤ D.size - 2 := Nat.le_trans (pay_len hok.k.2 l _) hh.2.1
  have hsz := hok.sz
  rw [hs]
  exact ⟨seal_ok hle (by omega), seal_tag hle (by omega), by rw [seal_num hle (by omega), hpl, Nat.add_sub_cancel], by rw [← hpl]; exact seal_take, hpl⟩
/-- the buffer behind one more -/
theorem hold_next {D D' : St} (hok : RtOk r sz) (h : RHold D r l ws) (hD : ∀ i, D'.now i = D.now i) (hsz : D'.size = D.size) {ws' : List Nat} (hb : ws'.take (min r.h (r.count - r.pos / r.h * r.h) * r.k) = payT r.h r.k l (r.pos / r.h)) :
    RHold D' { r with pos := r.pos + 1 } l ws' := by
  refine ⟨fun j hj => by rw [hD, hsz]; exact h.stands j hj, h.cnt, h.ok, fun hne => ?_⟩
  have hh := hok.h.1
  have e : (r.pos + 1) / r.h = r.pos / r.h := by
    have h1 := Nat.div_add_mod (r.pos + 1) r.h
    have h2 := Nat.div_add_mod r.pos r.h
    have h3 := Nat.mod_lt (r.pos + 1) hh
    have h4 := Nat.mod_lt r.pos hh
    have hne' : (r.pos + 1) % r.h ≠ 0 := hne
    have a1 : ¬ (r.pos + 1) / r.h < r.pos / r.h := fun hlt => by
      have := Nat.mul_le_mul_left r.h (show (r.pos + 1) / r.h + 1 ≤ r.pos / r.h from hlt)
      rw [Nat.mul_add, Nat.mul_one] at this; omega
    have a2 : ¬ r.pos / r.h < (r.pos + 1) / r.h := fun hlt => by
      have := Nat.mul_le_mul_left r.h (show r.pos / r.h + 1 ≤ (r.pos + 1) / r.h from hlt)
      rw [Nat.mul_add, Nat.mul_one] at this; omega
    omega
  show ws'.take (min r.h (r.count - (r.pos + 1) / r.h * r.h) * r.k) = payT r.h r.k l ((r.pos + 1) / r.h)
  rw [e]; exact hb
end
/-- the device behind Next -/
def nextD (D : St) (r : Rt) : St := if r.pos % r.h = 0 then (read D ((r.first + r.pos / r.h : Nat) : Int)).2 else D
/-- Next of a file that stands: the tuple -/
theorem fnext_stand {w : World} {G : Nat → Prop} {p : Wp} {F : Fs} {n x : Nat} {r : Rt} {ws : List Nat} {l : List Tup} (h : Sys w G p F n) (hn : n < 1000000) (hok : RtOk r F.D.size) (hm : RMem w x p r F.D.size ws) (ho : ROut G x r) (hh : RHold F.D r l ws) (hpos : r.pos < r.count)
    (hrd : r.pos % r.h ≠ 0 ∨ (read F.D ((r.first + r.pos / r.h : Nat) : Int)).1 = 0) {t : Tup} (ht : l[r.pos]? = some t) :
    Calls Try.prog 31 #[.pointer (some ⟨x, 0, none⟩)] w fun e w' => e = .returned (.tuple #[.agg #[.int .i64 t.a, .int .i64 t.b, .int .i64 t.c, .int .i64 t.d, .int .i64 t.e], .bool true, .int .i64 0]) ∧
      ∃ ws', NextTo w G p { F with D := nextD F.D r } (n + 1) x { r with pos := r.pos + 1 } ws' w' ∧ RHold (nextD F.D r) { r with pos := r.pos + 1 } l ws' := by
  obtain ⟨hto, htf⟩ := hh.ok t (List.mem_of_getElem? ht)
  unfold nextD
  by_cases hmid : r.pos % r.h = 0
  · rw [if_pos hmid]
    have he := hrd.resolve_left fun h => h hmid
    obtain ⟨g1, g2, g3, g4, g5⟩ := hold_good hok hh hpos
    have hsp : (splice ws 0 ((F.D.now ((r.first + r.pos / r.h : Nat) : Int)).take (min r.h (r.count - r.pos / r.h * r.h) * r.k))).take (min r.h (r.count - r.pos / r.h * r.h) * r.k) = payT r.h r.k l (r.pos / r.h) := by
      rw [g4]; unfold splice
      rw [List.take_zero, List.nil_append, List.take_left' g5]
    have hc := fnext_good h hok hm ho hpos (now_read F.D ((r.first + r.pos / r.h : Nat) : Int) 0).2.1 hmid fun W hb => rblk_good (h.below hb) hn hok (hm.below hb) ho hpos he g1 g2 g3
    rw [buf_tup hok.k.2 hok.h.1 hpos hh.cnt hsp ht hto htf] at hc
    exact hc.mono fun e w' ⟨h1, h2⟩ => ⟨h1, _, h2, hold_next hok hh (fun i => (now_read F.D _ i).1) (now_read F.D _ 0).2.1 hsp⟩
  · rw [if_neg hmid]
    have hb := hh.buf hmid
    have hc := fnext_mid h hok hm ho hpos hmid
    rw [buf_tup hok.k.2 hok.h.1 hpos hh.cnt hb ht hto htf] at hc
    exact hc.mono fun e w' ⟨h1, G', k1, k2⟩ => ⟨h1, _, ⟨G', k1.mono (by omega) (by omega), k2⟩, hold_next hok hh (fun i => rfl) rfl hb⟩
end Go.Proofs.Ytbkgpilmgllkiaa
