/- What the laws stand on. -/
import Derived.Test.YteldegofbbfaeaaGreatTwoC
namespace Go.Proofs.YteldegofbbfaeaaGreat
set_option linter.unusedVariables false
set_option maxRecDepth 100000
set_option maxHeartbeats 8000000
open Go.ChangeShapes Go.WideShapes Go.ChangeAt Go.RowKit
open Go.Joins Go.Deep
open Go.ChangeShapes Go.WideShapes Go.ChangeAt Go.RowKit Go.Maps
open Go.ChangeMaps (setBlock heap_setBlock_same heap_setBlock_other)
structure AW where
 K:Nat→Prop
 A:World→Prop
 gr:Option (Nat×Nat)
 ex:Nat×Nat
 dA:St→Prop
def Fp(e:Nat×Nat)(z:Nat):Prop:=e.1≤z∧z<e.1+e.2
structure AW.Ok (a:AW):Prop where
 okA:∀W W',a.A W→(∀k,a.K k→W'.heap[k]?=W.heap[k]?)→a.A W'
 okD:∀D D',a.dA D→D'.size=D.size→(∀z:Nat,Fp a.ex z→D'.now z=D.now z)→a.dA D'
 grK:∀b n,a.gr=some (b,n)→a.K b
def AW.gw(a:AW):Nat:=match a.gr with
 |some q=>q.2
 |none=>0
def AW.xw(a:AW):Nat:=a.ex.2
def Ac{α:Type}(f:α→Nat)(l:List α):Nat:=(l.map f).sum
theorem FX{α:Type}(f:α→Nat):∀(l:List α) (i:Nat) (a b:α),l[i]?=some a→Ac f (l.set i b)+f a=Ac f l+f b
 |[],i,a,b,h=>by simp at h
 |x::l,0,a,b,h=>by simp at h;subst h;simp[Ac];omega
 |x::l,i+1,a,b,h=>by
  have:=FX f l i a b (by simpa using h)
  simp[Ac]at this⊢;omega
theorem DF{α:Type}(f:α→Nat)(l:List α)(a:α):Ac f (l++[a])=Ac f l+f a:=by simp[Ac]
structure Cx where
 w0:World
 p:Wp
 S0:Sp
 rm:Nat
 sz:Nat
 bl:Int
 cm:Prop
 N:Nat
 C:Nat
 n:Nat
structure Hi (X:Cx) (os:List AW) (m:Nat) (W:World) (G:Nat→Prop) (D:St) (A:Ar) (S:Sp):Prop where
 sys:Sys W G X.p ⟨D,A,S⟩ (X.n+m)
 LK:X.n≤X.N∧X.N+m≤1000000
 base:∀k,G k→X.w0.heap.size≤k
 O3:Below X.w0.heap.size X.w0 W
 size:D.size=X.sz
 blocks:D.blocks=X.bl
 alive:D.down=false∧D.fb=false
 calm:X.cm→Calm D
 Al:D.Al≤((X.C+m:Nat):Int)
 room:A.room=X.rm
 used:A.used=Ac AW.gw os
 ok:∀(i:Nat) (a:AW),os[i]?=some a→a.Ok
 st:∀(i:Nat) (a:AW) (b n:Nat),os[i]?=some a→a.gr=some (b,n)→wordsAt A.st b=some n
 mem:∀(i:Nat) (a:AW),os[i]?=some a→a.A W∧∀k,a.K k→k<W.heap.size∧X.w0.heap.size≤k∧¬G k
 QT:∀(i:Nat) (a:AW),os[i]?=some a→a.dA D
 apart:∀(i j:Nat) (a b:AW),os[i]?=some a→os[j]?=some b→i≠j→∀k,a.K k→¬b.K k
 exa:∀(i j:Nat) (a b:AW),os[i]?=some a→os[j]?=some b→i≠j→∀z,Fp a.ex z→¬Fp b.ex z
 exs:∀(i:Nat) (a:AW),os[i]?=some a→∀z,Fp a.ex z→hasB X.S0.fr z
 s0:X.S0.ok
 sp:S.first=X.S0.first∧S.blocks=X.S0.blocks
 free:∀z,hasB S.fr z↔hasB X.S0.fr z∧∀(i:Nat) (a:AW),os[i]?=some a→¬Fp a.ex z
 sum:Az S.fr+Ac AW.xw os=Az X.S0.fr
 range:((X.S0.first+X.S0.blocks:Nat):Int)≤X.bl
def Wd(X:Cx)(os:List AW)(m:Nat)(W:World):Prop:=∃G D A S,Hi X os m W G D A S
def Bi:AW:=⟨fun _=>False,fun _=>True,none,(0,0),fun _=>True⟩
theorem Kh:Bi.Ok:=⟨fun _ _ _ _=>trivial,fun _ _ _ _ _=>trivial,fun _ _ h=>by cases h⟩
theorem Ab(a z:Nat):¬Fp (a,0) z:=fun h=>by unfold Fp at h;simp only at h;omega
def AI(g:Nat)(t:TypeId)(cs:List Value):AW:=⟨fun k=>k=g,fun W=>Row W g t cs,none,(0,0),fun _=>True⟩
theorem Q7(g:Nat)(t:TypeId)(cs:List Value):(AI g t cs).Ok:=⟨fun W W' h hk=>(hk g rfl).trans h,fun _ _ _ _ _=>trivial,fun _ _ h=>by cases h⟩
theorem GN{α:Type}{l:List α}{i j:Nat}{a b:α}(h:(l.set i a)[j]?=some b):(j=i∧b=a)∨(j≠i∧l[j]?=some b):=by
 rw[List.getElem?_set]at h
 by_cases Fq:i=j
 ·rw[if_pos Fq]at h
  split at h
  ·injection h with h;exact .inl ⟨Fq.symm,h.symm⟩
  ·cases h
 ·rw[if_neg Fq]at h;exact .inr ⟨fun e=>Fq e.symm,h⟩
theorem DW{α:Type}{l:List α}{j:Nat}{a b:α}(h:(l++[a])[j]?=some b):(j=l.length∧b=a)∨(j<l.length∧l[j]?=some b):=by
 rcases Nat.lt_or_ge j l.length with hj|hj
 ·rw[List.getElem?_append_left hj]at h;exact .inr ⟨hj,h⟩
 ·rw[List.getElem?_append_right hj]at h
  have:j-l.length=0:=by
   rcases Nat.eq_zero_or_pos (j-l.length)with h0|h0
   ·exact h0
   ·rw[List.getElem?_eq_none (by simp;omega)]at h;cases h
  rw[this]at h;simp at h
  exact .inl ⟨by omega,h.symm⟩
section
variable {X : Cx} {os : List AW} {m m' i : Nat} {W W' : World} {G G' : Nat → Prop} {D D' : St} {A A' : Ar} {S S' : Sp} {a a' : AW}
theorem Hi.step (h : Hi X os m W G D A S) (hi : os[i]? = some a) (sys : Sys W' G' X.p ⟨D', A', S'⟩ (X.n + m')) (Cc : AL (fun k => G k ∨ a.K k) W W') (hG : ∀ k, G' k → G k ∨ W.heap.size ≤ k)
    (ok : a'.Ok) (mem : a'.A W') (aW : ∀ k, a'.K k → (a.K k ∨ W.heap.size ≤ k) ∧ k < W'.heap.size ∧ ¬ G' k)
    (hD : D'.size = D.size ∧ D'.blocks = D.blocks) (alive : D'.down = false ∧ D'.fb = false) (calm : Calm D → Calm D') (Al : D'.Al ≤ ((X.C + m' : Nat) : Int))
    (now : ∀ z : Nat, ¬ Fp a.ex z → D'.now z = D.now z) (QT : a'.dA D')
    (room : A'.room = A.room) (used : A'.used + a.gw = A.used + a'.gw) (st : ∀ b n, wordsAt A.st b = some n → ¬ a.K b → wordsAt A'.st b = some n) (gr : ∀ b n, a'.gr = some (b, n) → wordsAt A'.st b = some n)
    (sp : S'.first = S.first ∧ S'.blocks = S.blocks) (free : ∀ z, hasB S'.fr z ↔ (hasB S.fr z ∨ Fp a.ex z) ∧ ¬ Fp a'.ex z) (exn : ∀ z, Fp a'.ex z → Fp a.ex z ∨ hasB S.fr z) (sum : Az S'.fr + a'.xw = Az S.fr + a.xw) (LK : X.N + m' ≤ 1000000 := by first | exact (Hi.LK (by assumption)).2 | omega) :
    Hi X (os.set i a') m' W' G' D' A' S' := by
  have hil : i < os.length := by
    rcases Nat.lt_or_ge i os.length with hl | hl
    · exact hl
    · rw [List.getElem?_eq_none hl] at hi; cases hi
  have hz := Cc.size
  have hb0 := h.O3.size
  have hold : ∀ (j : Nat) (b : AW), j ≠ i → os[j]? = some b → ∀ k, b.K k → W'.heap[k]? = W.heap[k]? ∧ k < W.heap.size ∧ X.w0.heap.size ≤ k ∧ ¬ G k := fun j b hj hb k hk => by
    obtain ⟨h1, h2, h3⟩ := (h.mem j b hb).2 k hk
    exact ⟨Cc.block k h1 fun hf => hf.elim h3 (h.apart j i b a hb hi hj k hk), h1, h2, h3⟩
  have hbK : ∀ k, a.K k → X.w0.heap.size ≤ k := fun k hk => ((h.mem i a hi).2 k hk).2.1
  have s1 := FX AW.gw os i a a' hi
  have s2 := FX AW.xw os i a a' hi
  have s3 := h.sum
  have s4 := h.used
  exact {
    sys := sys
    LK := ⟨h.LK.1, LK⟩
    base := fun k hk => (hG k hk).elim (h.base k) fun hl => by omega
    O3 := h.O3.trans (Cc.below hb0 fun k hk => hk.elim (h.base k) (hbK k))
    size := hD.1.trans h.size
    blocks := hD.2.trans h.blocks
    alive := alive
    calm := fun hc => calm (h.calm hc)
    Al := Al
    room := room.trans h.room
    used := by omega
    ok := fun j b hb => (GN hb).elim (fun e => e.2 ▸ ok) fun e => h.ok j b e.2
    st := fun j b c n hb hg => (GN hb).elim (fun e => gr c n (by rw [← e.2]; exact hg)) fun e => st c n (h.st j b c n e.2 hg) (h.apart j i b a e.2 hi e.1 c ((h.ok j b e.2).grK c n hg))
    mem := fun j b hb => (GN hb).elim (fun e => by
        rw [e.2]
        exact ⟨mem, fun k hk => ⟨(aW k hk).2.1, (aW k hk).1.elim (hbK k) fun hl => by omega, (aW k hk).2.2⟩⟩) fun e => ⟨(h.ok j b e.2).okA W W' (h.mem j b e.2).1 fun k hk => (hold j b e.1 e.2 k hk).1, fun k hk => by
        obtain ⟨h1, h2, h3, h4⟩ := hold j b e.1 e.2 k hk
        exact ⟨by omega, h3, fun hg => (hG k hg).elim h4 fun hl => by omega⟩⟩
    QT := fun j b hb => (GN hb).elim (fun e => e.2 ▸ QT) fun e => (h.ok j b e.2).okD D D' (h.QT j b e.2) hD.1 fun z hz => now z (h.exa j i b a e.2 hi e.1 z hz)
    apart := fun j j2 b b2 hb AZ hne k hk Fe => by
      rcases GN hb with ⟨e1, e2⟩ | ⟨e1, e2⟩ <;> rcases GN AZ with ⟨e3, e4⟩ | ⟨e3, e4⟩
      · exact hne (e1.trans e3.symm)
      · subst e2
        obtain ⟨h1, h2, _⟩ := hold j2 b2 e3 e4 k Fe
        exact (aW k hk).1.elim (fun ha => h.apart i j2 a b2 hi e4 (fun e => e3 e.symm) k ha Fe) fun hl => by omega
      · subst e4
        obtain ⟨h1, h2, _⟩ := hold j b e1 e2 k hk
        exact (aW k Fe).1.elim (fun ha => h.apart i j a b hi e2 (fun e => e1 e.symm) k ha hk) fun hl => by omega
      · exact h.apart j j2 b b2 e2 e4 hne k hk Fe
    exa := fun j j2 b b2 hb AZ hne z B3 EX => by
      have key : ∀ (q : Nat) (c : AW), q ≠ i → os[q]? = some c → Fp c.ex z → Fp a'.ex z → False := fun q c hq hc h1 h2 => by
        rcases exn z h2 with h3 | h3
        · exact h.exa q i c a hc hi hq z h1 h3
        · exact ((h.free z).1 h3).2 q c hc h1
      rcases GN hb with ⟨e1, e2⟩ | ⟨e1, e2⟩ <;> rcases GN AZ with ⟨e3, e4⟩ | ⟨e3, e4⟩
      · exact hne (e1.trans e3.symm)
      · subst e2; exact key j2 b2 e3 e4 EX B3
      · subst e4; exact key j b e1 e2 B3 EX
      · exact h.exa j j2 b b2 e2 e4 hne z B3 EX
    exs := fun j b hb z B3 => (GN hb).elim (fun e => by
        rw [e.2] at B3
        exact (exn z B3).elim (h.exs i a hi z) fun h3 => ((h.free z).1 h3).1) fun e => h.exs j b e.2 z B3
    s0 := h.s0
    sp := ⟨sp.1.trans h.sp.1, sp.2.trans h.sp.2⟩
    free := fun z => by
      rw [free z]
      refine ⟨fun ⟨h1, h2⟩ => ⟨h1.elim (fun h3 => ((h.free z).1 h3).1) (h.exs i a hi z), fun j b hb B3 => ?_⟩, fun ⟨h1, h2⟩ => ⟨?_, h2 i a' (by rw [List.getElem?_set, if_pos rfl, if_pos hil])⟩⟩
      · rcases GN hb with ⟨e1, e2⟩ | ⟨e1, e2⟩
        · rw [e2] at B3; exact h2 B3
        · exact h1.elim (fun h3 => ((h.free z).1 h3).2 j b e2 B3) fun h3 => h.exa j i b a e2 hi e1 z B3 h3
      · by_cases ha : Fp a.ex z
        · exact .inr ha
        · refine .inl ((h.free z).2 ⟨h1, fun j b hb B3 => ?_⟩)
          by_cases hj : j = i
          · rw [hj, hi] at hb; injection hb with hb; subst hb; exact ha B3
          · exact h2 j b (by rw [List.getElem?_set, if_neg (fun e => hj e.symm)]; exact hb) B3
    sum := by omega
    range := h.range }
theorem Hi.grow (h : Hi X os m W G D A S) : Hi X (os ++ [Bi]) m W G D A S :=
  { sys := h.sys, LK := h.LK, base := h.base, O3 := h.O3, size := h.size, blocks := h.blocks, alive := h.alive, calm := h.calm, Al := h.Al, room := h.room, s0 := h.s0, sp := h.sp, range := h.range
    used := by rw [DF]; exact h.used
    sum := by rw [DF]; exact h.sum
    ok := fun j b hb => (DW hb).elim (fun e => e.2 ▸ Kh) fun e => h.ok j b e.2
    st := fun j b c n hb hg => (DW hb).elim (fun e => by rw [e.2] at hg; cases hg) fun e => h.st j b c n e.2 hg
    mem := fun j b hb => (DW hb).elim (fun e => by rw [e.2]; exact ⟨trivial, fun k hk => hk.elim⟩) fun e => h.mem j b e.2
    QT := fun j b hb => (DW hb).elim (fun e => by rw [e.2]; exact trivial) fun e => h.QT j b e.2
    apart := fun j j2 b b2 hb AZ hne k hk Fe => by
      rcases DW hb with ⟨e1, e2⟩ | ⟨e1, e2⟩ <;> rcases DW AZ with ⟨e3, e4⟩ | ⟨e3, e4⟩
      · rw [e2] at hk; exact hk
      · rw [e2] at hk; exact hk
      · rw [e4] at Fe; exact Fe
      · exact h.apart j j2 b b2 e2 e4 hne k hk Fe
    exa := fun j j2 b b2 hb AZ hne z B3 EX => by
      rcases DW hb with ⟨e1, e2⟩ | ⟨e1, e2⟩ <;> rcases DW AZ with ⟨e3, e4⟩ | ⟨e3, e4⟩
      · rw [e2] at B3; exact Ab _ _ B3
      · rw [e2] at B3; exact Ab _ _ B3
      · rw [e4] at EX; exact Ab _ _ EX
      · exact h.exa j j2 b b2 e2 e4 hne z B3 EX
    exs := fun j b hb z B3 => (DW hb).elim (fun e => by rw [e.2] at B3; exact (Ab _ _ B3).elim) fun e => h.exs j b e.2 z B3
    free := fun z => by
      rw [h.free z]
      refine ⟨fun ⟨h1, h2⟩ => ⟨h1, fun j b hb B3 => (DW hb).elim (fun e => by rw [e.2] at B3; exact Ab _ _ B3) fun e => h2 j b e.2 B3⟩, fun ⟨h1, h2⟩ => ⟨h1, fun j b hb B3 => h2 j b ?_ B3⟩⟩
      rw [List.getElem?_append_left]
      · exact hb
      · rcases Nat.lt_or_ge j os.length with hl | hl
        · exact hl
        · rw [List.getElem?_eq_none hl] at hb; cases hb }
theorem Hi.drop (h : Hi X (os ++ [a]) m W G D A S) (hg : a.gr = none) (hx : a.ex.2 = 0) : Hi X os m W G D A S := by
  have hle : ∀ (j : Nat) (b : AW), os[j]? = some b → (os ++ [a])[j]? = some b := fun j b hb => by
    rw [List.getElem?_append_left]
    · exact hb
    · rcases Nat.lt_or_ge j os.length with hl | hl
      · exact hl
      · rw [List.getElem?_eq_none hl] at hb; cases hb
  have Iv : a.gw = 0 := by unfold AW.gw; rw [hg]
  have hu := h.used
  have hs := h.sum
  rw [DF] at hu hs
  have xe : a.xw = 0 := hx
  exact { sys := h.sys, LK := h.LK, base := h.base, O3 := h.O3, size := h.size, blocks := h.blocks, alive := h.alive, calm := h.calm, Al := h.Al, room := h.room, s0 := h.s0, sp := h.sp, range := h.range
          used := by omega
          sum := by omega
          ok := fun j b hb => h.ok j b (hle j b hb)
          st := fun j b c n hb hg => h.st j b c n (hle j b hb) hg
          mem := fun j b hb => h.mem j b (hle j b hb)
          QT := fun j b hb => h.QT j b (hle j b hb)
          apart := fun j j2 b b2 hb AZ => h.apart j j2 b b2 (hle j b hb) (hle j2 b2 AZ)
          exa := fun j j2 b b2 hb AZ => h.exa j j2 b b2 (hle j b hb) (hle j2 b2 AZ)
          exs := fun j b hb => h.exs j b (hle j b hb)
          free := fun z => by
            rw [h.free z]
            refine ⟨fun ⟨h1, h2⟩ => ⟨h1, fun j b hb => h2 j b (hle j b hb)⟩, fun ⟨h1, h2⟩ => ⟨h1, fun j b hb B3 => ?_⟩⟩
            rcases DW hb with ⟨e1, e2⟩ | ⟨e1, e2⟩
            · rw [e2] at B3; unfold Fp at B3; omega
            · exact h2 j b e2 B3 }
theorem Wd.grow(h:Wd X os m W):Wd X (os++[Bi]) m W:=by obtain⟨G,D,A,S,h⟩:=h;exact⟨G,D,A,S,h.grow⟩
theorem Wd.drop(h:Wd X (os++[a]) m W)(hg:a.gr=none)(hx:a.ex.2=0):Wd X os m W:=by obtain⟨G,D,A,S,h⟩:=h;exact⟨G,D,A,S,h.drop hg hx⟩
theorem Hi.below (h : Hi X os m W G D A S) (hb : Below W.heap.size W W') : Hi X os m W' G D A S :=
  { sys := h.sys.below hb, LK := h.LK, base := h.base, O3 := h.O3.trans (hb.mono h.O3.size), size := h.size, blocks := h.blocks, alive := h.alive, calm := h.calm, Al := h.Al, room := h.room, s0 := h.s0, sp := h.sp, range := h.range, used := h.used, sum := h.sum, ok := h.ok, st := h.st, QT := h.QT, apart := h.apart, exa := h.exa, exs := h.exs, free := h.free
    mem := fun j b Am => ⟨(h.ok j b Am).okA W W' (h.mem j b Am).1 fun k hk => hb.block k ((h.mem j b Am).2 k hk).1, fun k hk => by
      obtain ⟨h1, h2, h3⟩ := (h.mem j b Am).2 k hk
      have := hb.size
      exact ⟨by omega, h2, h3⟩⟩ }
theorem Wd.below(h:Wd X os m W)(hb:Below W.heap.size W W'):Wd X os m W':=by obtain⟨G,D,A,S,h⟩:=h;exact⟨G,D,A,S,h.below hb⟩
theorem Wd.drewN(h:Wd X os m W)(q:Nat):Wd X os m (W.drewN q):=h.below (AF (Below.refl _ _) q)
theorem Wd.size(h:Wd X os m W):X.w0.heap.size≤W.heap.size:=by obtain⟨G,D,A,S,h⟩:=h;exact h.O3.size
theorem Wd.O3(h:Wd X os m W):Below X.w0.heap.size X.w0 W:=by obtain⟨G,D,A,S,h⟩:=h;exact h.O3
theorem Wd.at_(h:Wd X os m W)(hi:os[i]?=some a):a.A W:=by obtain⟨G,D,A,S,h⟩:=h;exact(h.mem i a hi).1
theorem Wd.row(h:Wd X os m W){g:Nat}{t:TypeId}{cs:List Value}(hi:os[i]?=some (AI g t cs)):Row W g t cs:=h.at_ hi
theorem Wd.bounds(h:Wd X os m W):(8≤X.sz∧X.sz≤256)∧X.N+m≤1000000:=by obtain⟨G,D,A,S,h⟩:=h;have:=h.sys.size;exact⟨by rw[←h.size];exact this,h.LK.2⟩
theorem Wd.apart(h:Wd X os m W){j:Nat}{b:AW}(hi:os[i]?=some a)(hj:os[j]?=some b)(hne:i≠j){k:Nat}(hk:a.K k):¬b.K k:=by obtain⟨G,D,A,S,h⟩:=h;exact h.apart i j a b hi hj hne k hk
theorem Wd.lt(h:Wd X os m W)(hi:os[i]?=some a){k:Nat}(hk:a.K k):k<W.heap.size∧X.w0.heap.size≤k:=by obtain⟨G,D,A,S,h⟩:=h;exact⟨((h.mem i a hi).2 k hk).1,((h.mem i a hi).2 k hk).2.1⟩
theorem Wd.Ju(h:Wd X os m W)(hi:os[i]?=some a){R:Nat→Prop}(hf:AL R W W')(hR:∀k,R k→a.K k∧∀v,¬Row W k 126 [v])(ok:a'.Ok)(mem:a'.A W')(hK:∀k,a'.K k→(a.K k∨W.heap.size≤k)∧k<W'.heap.size)(hg:a'.gr=a.gr)(hx:a'.ex=a.ex)(hd:∀D,a.dA D→a'.dA D):Wd X (os.set i a') m W':=by
 obtain⟨G,D,A,S,h⟩:=h
 have m7:=h.sys.Pa hf fun k hk=>⟨((h.mem i a hi).2 k (hR k hk).1).2.2,(hR k hk).2⟩
 refine⟨G,D,A,S,h.step hi m7 (hf.mono fun k hk=>.inr (hR k hk).1) (fun k hk=>.inl hk) ok mem (fun k hk=>⟨(hK k hk).1,(hK k hk).2,fun hg=>?_⟩) ⟨rfl,rfl⟩ h.alive id h.Al (fun _ _=>rfl) (hd D (h.QT i a hi)) rfl (by unfold AW.gw;rw[hg]) (fun _ _ hw _=>hw) (fun b n hb=>h.st i a b n hi (by rw[←hg];exact hb)) ⟨rfl,rfl⟩ (fun z=>?_) (fun z hz=>.inl (by rw[←hx];exact hz)) (by unfold AW.xw;rw[hx])⟩
 ·rcases(hK k hk).1 with h1|h1
  ·exact((h.mem i a hi).2 k h1).2.2 hg
  ·have:=h.sys.lt hg;omega
 ·rw[hx]
  refine⟨fun h1=>⟨.inl h1,((h.free z).1 h1).2 i a hi⟩,fun⟨h1,h2⟩=>h1.elim id fun h3=>absurd h3 h2⟩
theorem Wd.ZO(h:Wd X os m W)(hi:os[i]?=some a)(ok:a'.Ok)(mem:a.A W→a'.A W)(hK:∀k,a'.K k→a.K k)(hg:a'.gr=a.gr)(hx:a'.ex=a.ex)(hd:∀D,a.dA D→a'.dA D):Wd X (os.set i a') m W:=
 h.Ju hi (R:=fun _=>False) (AL.refl _ _) (fun _ hk=>hk.elim) ok (mem (h.at_ hi)) (fun k hk=>⟨.inl (hK k hk),(h.lt hi (hK k hk)).1⟩) hg hx hd
theorem Wd.new(h:Wd X os m W){g:Nat}{t:TypeId}{cs:List Value}(hb:Below W.heap.size W W')(hr:Row W' g t cs)(hg:W.heap.size≤g):Wd X (os++[AI g t cs]) m W':=by
 have h1:=h.grow
 have h2:=h1.Ju (i:=os.length) (a:=Bi) (a':=AI g t cs) (W':=W') (R:=fun _=>False) (by rw[List.getElem?_append_right (Nat.le_refl _),Nat.sub_self];rfl) (AL.AJ hb _) (fun k hk=>hk.elim) (Q7 g t cs) hr (fun k hk=>by
  have hk:k=g:=hk
  subst hk;exact⟨.inr hg,hr.lt⟩) rfl rfl (fun _ _=>trivial)
 rw[List.set_append_right _ _ (Nat.le_refl _),Nat.sub_self]at h2
 exact h2
theorem Wd.store(h:Wd X os m W){g:Nat}{t:TypeId}{cs:List Value}(hi:os[i]?=some (AI g t cs))(ht:t≠126)(j:Nat)(v:Value):Wd X (os.set i (AI g t (cs.set j v))) m (W.setCell ⟨g,j,none⟩ v):=by
 have hr:=h.row hi
 refine h.Ju hi (R:=fun k=>k=g) (AL.one g j v) (fun k hk=>⟨hk,fun u hu=>?_⟩) (Q7 _ _ _) (hr.set j v) (fun k hk=>⟨.inl hk,?_⟩) rfl rfl (fun _ h=>h)
 ·subst hk;exact ht (hr.typed hu)
 ·have hk:k=g:=hk
  subst hk;exact(hr.set j v).lt
theorem Wd.MU(h:Wd X os m W){g:Nat}{t:TypeId}{cs qP:List Value}(hi:os[i]?=some (AI g t cs))(ht:t≠126)(hf:AL (fun k=>k=g) W W')(hr':Row W' g t qP):Wd X (os.set i (AI g t qP)) m W':=by
 have hr:=h.row hi
 refine h.Ju hi (R:=fun k=>k=g) hf (fun k hk=>⟨hk,fun u hu=>?_⟩) (Q7 _ _ _) hr' (fun k hk=>⟨.inl hk,?_⟩) rfl rfl (fun _ h=>h)
 ·subst hk;exact ht (hr.typed hu)
 ·have hk:k=g:=hk
  subst hk;exact hr'.lt
theorem Wd.mono(h:Wd X os m W)(hm:m≤m')(h6:X.N+m'≤1000000):Wd X os m' W:=by
 obtain⟨G,D,A,S,h⟩:=h
 exact⟨G,D,A,S,{h with sys:=h.sys.mono (by omega) (by have:=h.LK;omega),LK:=⟨h.LK.1,h6⟩,Al:=by have:=h.Al;omega}⟩
end
theorem OM{s:St}{r:Bool}(ha:s.down=false∧s.fb=false)(hr:r=true)(h:(begin s r).1≠0):(begin s r).1=6∧(begin s r).2.Al=s.Al∧((begin s r).2.down=false∧(begin s r).2.fb=false)∧¬Calm s:=by
 unfold begin at h⊢
 rw[if_neg (by simp[ha.1]),if_neg (by simp[hr]),if_neg (by simp[ha.2])]at h⊢
 dsimp only at h⊢
 split at h
 ·rename_i h1;rw[if_pos h1];exact⟨rfl,rfl,⟨ha.1,ha.2⟩,fun hc=>by rw[hc.2.2]at h1;cases h1.1⟩
 ·exact absurd rfl h
theorem OL{s:St}{i:Int}{l:List Nat}(ha:s.down=false∧s.fb=false)(hi:right s i=true)(hl:l.length=s.size)(h:(write s i l).1≠0):(write s i l).1=6∧(write s i l).2.Al=s.Al∧((write s i l).2.down=false∧(write s i l).2.fb=false)∧¬Calm s:=by
 have hr:(right s i&&decide (l.length=s.size))=true:=by simp[hi,hl]
 unfold write at h⊢
 dsimp only at h⊢
 by_cases hb:(begin s (right s i&&decide (l.length=s.size))).1=0
 ·rw[if_pos hb]at h;exact absurd rfl h
 ·rw[if_neg hb]at h⊢;exact OM ha hr h
theorem Yk{s:St}{i:Int}(ha:s.down=false∧s.fb=false)(hi:right s i=true)(h:(read s i).1≠0):(read s i).1=6∧(read s i).2.Al=s.Al∧((read s i).2.down=false∧(read s i).2.fb=false)∧¬Calm s:=OM ha hi h
def KG(p:Wp)(x:Nat)(t:Wt)(sz:Nat):AW:=⟨fun k=>k=x∨k=t.b∨k=t.g,fun W=>Jf W x p t sz,some (t.b,sz),(t.first,t.blocks),fun D=>D.size=sz→D5 D t⟩
def lW(p:Wp)(x:Nat)(t:Wt):AW:=⟨fun k=>k=x∨k=t.b,fun W=>Je W x p t,none,(0,0),fun _=>True⟩
def Tw(p:Wp)(x:Nat)(t:Wt)(sz:Nat):AW:=⟨fun k=>k=x∨k=t.b,fun W=>Je W x p t,none,(BS t,AA t.h t.l.length),fun D=>D.size=sz→BA D (BS t) t.k t.h t.l (AA t.h t.l.length)⟩
def Cf(first nb k h:Nat)(l:List AB)(sz:Nat):AW:=⟨fun _=>False,fun _=>True,none,(first,nb),fun D=>D.size=sz→BA D first k h l nb⟩
structure NA (first nb k h:Nat) (l:List AB) (sz:Nat):Prop where
 kk:0<k∧k≤5
 hh:0<h∧h*k≤sz-2∧h≤254
 Ow:h=AH sz k
 bn:nb=AA h l.length
 len:l.length≤100000
 fst:first≤2000000
 fit:∀u∈l,BX u∧Af k u=true
def DZ(p:Wp)(x:Nat)(r:Rt)(sz:Nat)(l:List AB):AW:=⟨fun k=>k=x∨k=r.b∨k=r.g,fun W=>∃ws,DI W x p r sz ws∧(r.pos%r.h≠0→ws.take (min r.h (r.count-r.pos/r.h*r.h)*r.k)=FG r.h r.k l (r.pos/r.h)),some (r.b,sz),(0,0),fun _=>True⟩
def Ot(p:Wp)(x:Nat)(r:Rt):AW:=⟨fun k=>k=x∨k=r.b,fun W=>Qe W x p r,none,(0,0),fun _=>True⟩
def kf(b g M:Nat):AW:=⟨fun k=>k=b∨k=g,fun W=>Row W b 126 [.slice (some ⟨g,0,none⟩) M M]∧∃ws:List Nat,ws.length=M∧Row W g 127 (ws.map vw),some (b,M),(0,0),fun _=>True⟩
def CX(b g M k:Nat)(l:List AB):AW:=⟨fun k=>k=b∨k=g,fun W=>Row W b 126 [.slice (some ⟨g,0,none⟩) M M]∧∃ws:List Nat,ws.length=M∧Row W g 127 (ws.map vw)∧ws.take (l.length*k)=BC k l,some (b,M),(0,0),fun _=>True⟩
section
variable {p : Wp} {x sz : Nat} {t : Wt} {r : Rt} {l : List AB}
theorem Bd{W W':World}{g:Nat}{T:TypeId}{cs:List Value}(h:Row W g T cs)(hk:W'.heap[g]?=W.heap[g]?):Row W' g T cs:=hk.trans h
theorem LW{D D':St}{first k h m:Nat}{l:List AB}{e:Nat×Nat}(hs:BA D first k h l m)(hz:D'.size=D.size)(hn:∀z:Nat,Fp e z→D'.now z=D.now z)(he:e.1=first∧m≤e.2):BA D' first k h l m:=fun j hj=>by
 rw[hn (first+j) ⟨by omega,by omega⟩,hz];exact hs j hj
theorem UC(hok:Ca t sz):(KG p x t sz).Ok:=
  ⟨fun W W' ⟨ws,hm,hh⟩ hk=>⟨ws,⟨Bd hm.row (hk _ (.inl rfl)),Bd hm.buf (hk _ (.inr (.inl rfl))),Bd hm.words (hk _ (.inr (.inr rfl))),hm.len,hm.u64⟩,hh⟩,
   fun D D' h hs hn hz=>LW (e:=(t.first,t.blocks)) (h (hs▸hz)) hs hn ⟨rfl,by
     have h1:=Aq (h:=t.h) hok.h.1 hok.bound.2
     rw[←hok.blocks.1]at h1
     have h2:t.l.length/t.h≤AA t.h t.l.length:=by unfold AA;split<;>omega
     exact Nat.le_trans h2 h1⟩,
   fun b n h=>by injection h with h;injection h with h1 _;exact .inr (.inl h1.symm)⟩
theorem ZM:(lW p x t).Ok:=⟨fun W W' ⟨h1,h2⟩ hk=>⟨Bd h1 (hk _ (.inl rfl)),Bd h2 (hk _ (.inr rfl))⟩,fun _ _ _ _ _=>trivial,fun _ _ h=>by cases h⟩
theorem lY:(Tw p x t sz).Ok:=⟨fun W W' ⟨h1,h2⟩ hk=>⟨Bd h1 (hk _ (.inl rfl)),Bd h2 (hk _ (.inr rfl))⟩,fun D D' h hs hn hz=>LW (e:=(BS t,AA t.h t.l.length)) (h (hs▸hz)) hs hn ⟨rfl,Nat.le_refl _⟩,fun _ _ h=>by cases h⟩
theorem RZ{first nb k h:Nat}:(Cf first nb k h l sz).Ok:=⟨fun _ _ _ _=>trivial,fun D D' h hs hn hz=>LW (e:=(first,nb)) (h (hs▸hz)) hs hn ⟨rfl,Nat.le_refl _⟩,fun _ _ h=>by cases h⟩
theorem aD:(DZ p x r sz l).Ok:=⟨fun W W' ⟨ws,hm,hh⟩ hk=>⟨ws,⟨Bd hm.row (hk _ (.inl rfl)),Bd hm.buf (hk _ (.inr (.inl rfl))),Bd hm.words (hk _ (.inr (.inr rfl))),hm.len,hm.u64⟩,hh⟩,fun _ _ _ _ _=>trivial,fun b n h=>by injection h with h;injection h with h1 _;exact .inr (.inl h1.symm)⟩
theorem mC:(Ot p x r).Ok:=⟨fun W W' ⟨h1,h2⟩ hk=>⟨Bd h1 (hk _ (.inl rfl)),Bd h2 (hk _ (.inr rfl))⟩,fun _ _ _ _ _=>trivial,fun _ _ h=>by cases h⟩
theorem oC{b g M:Nat}:(kf b g M).Ok:=⟨fun W W' ⟨h1,ws,h2,h4⟩ hk=>⟨Bd h1 (hk _ (.inl rfl)),ws,h2,Bd h4 (hk _ (.inr rfl))⟩,fun _ _ _ _ _=>trivial,fun _ _ h=>by injection h with h;injection h with h1 _;exact .inl h1.symm⟩
theorem Qt{b g M k:Nat}:(CX b g M k l).Ok:=⟨fun W W' ⟨h1,ws,h2,h4,h5⟩ hk=>⟨Bd h1 (hk _ (.inl rfl)),ws,h2,Bd h4 (hk _ (.inr rfl)),h5⟩,fun _ _ _ _ _=>trivial,fun _ _ h=>by injection h with h;injection h with h1 _;exact .inl h1.symm⟩
end
section
variable {X : Cx} {os : List AW} {m i : Nat} {W W' : World} {G : Nat → Prop} {D : St} {A : Ar} {S : Sp} {a : AW} {x : Nat} {t : Wt} {r : Rt} {l : List AB}
theorem Hi.pe(h:Hi X os m W G D A S)(hi:os[i]?=some a)(hx:0<a.ex.2):((a.ex.1+a.ex.2:Nat):Int)≤D.blocks:=by
 have h1:=h.exs i a hi (a.ex.1+a.ex.2-1) ⟨by omega,by omega⟩
 have h2:=(h.s0.2.2.has h1).2
 have h3:=h.range
 rw[h.blocks];omega
theorem Hi.lX(h:Hi X os m W G D A S)(hi:os[i]?=some (KG X.p x t X.sz)):PM G x t:=⟨((h.mem i _ hi).2 x (.inl rfl)).2.2,((h.mem i _ hi).2 t.b (.inr (.inl rfl))).2.2,((h.mem i _ hi).2 t.g (.inr (.inr rfl))).2.2⟩
theorem fU{sz:Nat}{tu:AB}(hok:Ca t sz)(GH:t.l.length<t.bound):Ca (t.snoc tu) sz:=⟨hok.k,hok.h,hok.sz,⟨hok.bound.1,by rw[Gi];exact GH⟩,hok.blocks,hok.first⟩
theorem Dv{A:Ar}{b n:Nat}(hs:Sound A)(h:wordsAt A.st b=some n):(release A b n).used+n=A.used:=by
 have:=Nd hs h
 show A.used-n+n=A.used;omega
theorem IA{S:Sp}(h:S.ok){f n:Nat}(hlo:S.first≤f∨n=0)(Mf:f+n≤S.first+S.blocks∨n=0)(hno:∀z,f≤z→z<f+n→¬hasB S.fr z):
  (Ay S f n).first=S.first∧(Ay S f n).blocks=S.blocks∧(∀z,hasB (Ay S f n).fr z↔hasB S.fr z∨(f≤z∧z<f+n))∧Az (Ay S f n).fr=Az S.fr+n:=by
 unfold Ay
 by_cases h0:n=0
 ·subst h0
  rw[if_pos rfl]
  exact⟨rfl,rfl,fun z=>⟨.inl,fun hz=>hz.elim id fun hz=>by omega⟩,rfl⟩
 ·rw[if_neg h0]
  rcases Hz h (f:Int) (n:Int)with⟨s',a,m,ha,hm,h1,he,hg⟩|⟨_,IV⟩
  ·obtain rfl:a=f:=by omega
   obtain rfl:m=n:=by omega
   rw[he]
   exact⟨hg.first,hg.blocks,hg.has,hg.sum⟩
  ·exact absurd ⟨by omega,by omega,hno⟩ (IV f n rfl rfl (by omega))
theorem Hi.held(h:Hi X os m W G D A S)(hi:os[i]?=some a):(∀z,Fp a.ex z→¬hasB S.fr z)∧(0<a.ex.2→S.first≤a.ex.1∧a.ex.1+a.ex.2≤S.first+S.blocks):=by
 refine⟨fun z hz hf=>((h.free z).1 hf).2 i a hi hz,fun hx=>?_⟩
 have h1:=h.exs i a hi a.ex.1 ⟨by omega,by omega⟩
 have h2:=h.exs i a hi (a.ex.1+a.ex.2-1) ⟨by omega,by omega⟩
 have k1:=h.s0.2.2.has h1
 have k2:=h.s0.2.2.has h2
 rw[h.sp.1,h.sp.2];omega
theorem ZS(h:Wd X os m W)(hi:os[i]?=some (KG X.p x t X.sz))(hok:Ca t X.sz)(hn:X.N+m<1000000){tu:AB}(hf:Af t.k tu=true)(GH:t.l.length<t.bound):
  Calls Tryz.prog 39 #[.pointer (some ⟨x,0,none⟩),.agg #[.int .i64 tu.a,.int .i64 tu.b,.int .i64 tu.c,.int .i64 tu.d,.int .i64 tu.e]] W fun e w'=>
   (e=.returned (.int .i64 0)∧Wd X (os.set i (KG X.p x (t.snoc tu) X.sz)) (m+((t.l.length+1)/t.h-t.l.length/t.h)) w')∨
   (e=.returned (.int .i64 6)∧¬X.cm∧Wd X (os.set i (lW X.p x (t.snoc tu))) (m+1) w'):=by
 obtain⟨G,D,A,S,h⟩:=h
 obtain⟨ws,hm,hh⟩:=h.mem i _ hi|>.1
 obtain⟨l1,l2,l3⟩:=hm.lt
 have ho:=h.lX hi
 have hst:wordsAt A.st t.b=some D.size:=by rw[h.size];exact h.st i _ t.b X.sz hi rfl
 have IQ:wordsAt A.st t.b=some X.sz:=h.st i _ t.b X.sz hi rfl
 have U0:=fU (tu:=tu) hok GH
 have IZ:0<t.blocks:=by rw[hok.blocks.1];exact Bj hok.h.1 (by omega)
 have PI:((t.first+t.blocks:Nat):Int)≤D.blocks:=h.pe hi IZ
 have Jy:0<(t.snoc tu).l.length:=by rw[Gi];omega
 have hsz:=h.size
 have Uv:D5 D t:=(h.QT i _ hi) h.size
 refine(Vo (F:=⟨D,A,S⟩) h.sys (by show Ca t D.size;rw[hsz];exact hok) (by show G3 W x X.p t D.size ws;rw[hsz];exact hm) (by have:=h.LK;omega) ho hst hh tu hf GH).mono ?_
 rintro e w' (⟨hno,_⟩|⟨_,bg,_⟩|⟨_,_,⟨hm0,rfl,G',k1,k2,k3,k4⟩|⟨hm0,DX,rfl,G',k1,k2,k3,k4⟩|⟨hm0,DX,rfl,G',k1,k2,k3,k4⟩⟩)
 ·rw[hf]at hno;cases hno
 ·omega
 ·refine .inl ⟨rfl,?_⟩
  rw[GJ hok.h.1 hm0,Nat.sub_self,Nat.add_zero]
  have Fe:Jf w' x X.p (t.snoc tu) X.sz:=by rw[←hsz];exact k2
  obtain⟨Bz,hm',_⟩:=id Fe
  obtain⟨q1,q2,q3⟩:=hm'.lt
  refine⟨G',D,A,S,h.step hi k1 (k3.mono fun k hk=>hk.elim .inl fun hk=>hk.elim (fun e=>.inr (.inl e)) fun e=>.inr (.inr (.inr e))) k4 (UC U0) Fe (fun k hk=>⟨.inl hk,?_,?_⟩) ⟨rfl,rfl⟩ h.alive id h.Al (fun _ _=>rfl) (fun _=>ND hok.h.1 Uv hm0) rfl rfl (fun _ _ hw _=>hw) (fun b n hb=>by injection hb with hb;injection hb with h1 h2;subst h1 h2;exact IQ) ⟨rfl,rfl⟩ (fun z=>⟨fun hz=>⟨.inl hz,(h.held hi).1 z|>fun hx jx=>hx jx hz⟩,fun hz=>hz.1.elim id fun hx=>absurd hx hz.2⟩) (fun z hz=>.inl hz) rfl⟩
  ·exact hk.elim (fun e=>by rw[e];exact q1) fun hk=>hk.elim (fun e=>by rw[e];exact q2) fun e=>by rw[e];exact q3
  ·exact fun hg=>(k4 k hg).elim ((h.mem i _ hi).2 k hk).2.2 fun hl=>by have:=((h.mem i _ hi).2 k hk).1;omega
 ·refine .inl ⟨rfl,?_⟩
  rw[I3 hok.h.1 hm0,show t.l.length/t.h+1-t.l.length/t.h=1 by omega]
  have Io:DM D (write D (AV (t.snoc tu):Nat) (AU D.size (t.snoc tu))).2 1:=Fy DX
  have x5:(write D (AV (t.snoc tu):Nat) (AU D.size (t.snoc tu))).2.size=X.sz:=Io.size.trans hsz
  have Fe:Jf w' x X.p (t.snoc tu) X.sz:=by rw[←x5];exact k2
  obtain⟨Bz,hm',_⟩:=id Fe
  obtain⟨q1,q2,q3⟩:=hm'.lt
  have yX:=RK (D:=D) (by rw[hsz];exact U0) Jy
  refine⟨G',_,A,S,h.step hi k1 (k3.mono fun k hk=>hk.elim .inl fun hk=>hk.elim (fun e=>.inr (.inl e)) fun e=>.inr (.inr (.inr e))) k4 (UC U0) Fe (fun k hk=>⟨.inl hk,?_,?_⟩) ⟨Io.size,Io.blocks⟩ (Io.alive h.alive) Io.calm (by rw[Io.Al];have:=h.Al;omega) (fun z hz=>(Le DX).2.1 _ fun e=>hz ?_) (fun _=>NB hok.h.1 Uv hm0 DX) rfl rfl (fun _ _ hw _=>hw) (fun b n hb=>by injection hb with hb;injection hb with h1 h2;subst h1 h2;exact IQ) ⟨rfl,rfl⟩ (fun z=>⟨fun hz=>⟨.inl hz,(h.held hi).1 z|>fun hx jx=>hx jx hz⟩,fun hz=>hz.1.elim id fun hx=>absurd hx hz.2⟩) (fun z hz=>.inl hz) rfl⟩
  ·exact hk.elim (fun e=>by rw[e];exact q1) fun hk=>hk.elim (fun e=>by rw[e];exact q2) fun e=>by rw[e];exact q3
  ·exact fun hg=>(k4 k hg).elim ((h.mem i _ hi).2 k hk).2.2 fun hl=>by have:=((h.mem i _ hi).2 k hk).1;omega
  ·have e':z=AV (t.snoc tu):=by omega
   rw[e'];exact yX
 ·obtain⟨f1,f2,f3,f4⟩:=OL h.alive (Jw (by rw[hsz];exact U0) Jy PI) (Nu (by rw[hsz];exact U0) Jy) DX
  obtain⟨vc,jt,vZ⟩:=Sm DX
  refine .inr ⟨by rw[f1],fun hc=>f4 (h.calm hc),?_⟩
  have Mg:(Ay S (t.first+0) (t.blocks-0)).first=S.first∧(Ay S (t.first+0) (t.blocks-0)).blocks=S.blocks∧(∀z,hasB (Ay S (t.first+0) (t.blocks-0)).fr z↔hasB S.fr z∨(t.first+0≤z∧z<t.first+0+(t.blocks-0)))∧Az (Ay S (t.first+0) (t.blocks-0)).fr=Az S.fr+(t.blocks-0):=IA h.sys.V0 (f:=t.first+0) (n:=t.blocks-0) (.inl ((h.held hi).2 IZ).1) (.inl ((h.held hi).2 IZ).2) (fun z z1 z2=>(h.held hi).1 z ⟨z1,z2⟩)
  refine⟨G',_,_,_,h.step hi k1 (k3.mono fun k hk=>hk.elim .inl fun hk=>hk.elim (fun e=>.inr (.inl e)) fun hk=>hk.elim (fun e=>.inr (.inr (.inr e))) fun e=>.inr (.inr (.inl e))) k4 ZM k2 (fun k hk=>⟨.inl (hk.elim .inl fun hk=>.inr (.inl hk)),?_,?_⟩) ⟨jt,vZ⟩ f3 (fun hc=>absurd hc f4) (by rw[f2];have:=h.Al;omega) (fun z _=>vc z) trivial rfl ?_ (fun b n hw hb=>Bw _ _ _ _ hw fun e=>hb (.inr (.inl e))) (fun b n hb=>by cases hb) ⟨Mg.1,Mg.2.1⟩ (fun z=>?_) (fun z hz=>absurd hz (Ab _ _)) ?_⟩
  ·exact hk.elim (fun e=>by rw[e];exact k2.1.lt) fun e=>by rw[e];exact k2.2.lt
  ·refine fun hg=>(k4 k hg).elim ((h.mem i _ hi).2 k (hk.elim .inl fun hk=>.inr (.inl hk))).2.2 fun hl=>?_
   rcases hk with rfl|rfl
   ·omega
   ·have:(t.snoc tu).b=t.b:=rfl
    omega
  ·have hu:=Dv h.sys.sound (b:=t.b) (n:=(write D (AV (t.snoc tu):Nat) (AU D.size (t.snoc tu))).2.size) (by rw[jt];exact hst)
   rw[jt,hsz]at hu
   show (release A t.b (write D (AV (t.snoc tu):Nat) (AU D.size (t.snoc tu))).2.size).used+X.sz=A.used+0
   rw[jt,hsz];omega
  ·show hasB (Ay S (t.first+0) (t.blocks-0)).fr z↔ _
   rw[Mg.2.2.1 z]
   exact⟨fun hz=>⟨hz,Ab _ _⟩,fun hz=>hz.1⟩
  ·show Az (Ay S (t.first+0) (t.blocks-0)).fr+0=Az S.fr+t.blocks
   rw[Mg.2.2.2];omega
end
section
variable {X : Cx} {os : List AW} {m i : Nat} {W W' : World} {G : Nat → Prop} {D : St} {A : Ar} {S : Sp} {a : AW} {x : Nat} {t : Wt} {r : Rt} {l : List AB}
theorem Qx{D:St}{t:Wt}(hs:BA D t.first t.k t.h t.l (AA t.h t.l.length)):BA D (BS t) t.k t.h t.l (AA t.h t.l.length):=by
 unfold BS
 by_cases h0:t.l.length=0
 ·rw[if_pos h0,h0,A7]
  intro j hj;omega
 ·rw[if_neg h0];exact hs
theorem cQ{t:Wt}{sz:Nat}(hok:Ca t sz):AA t.h t.l.length≤t.blocks∧∀z,Fp (BS t,AA t.h t.l.length) z↔t.first≤z∧z<t.first+AA t.h t.l.length:=by
 refine⟨by rw[hok.blocks.1];exact Aq hok.h.1 hok.bound.2,fun z=>?_⟩
 unfold Fp BS
 by_cases h0:t.l.length=0
 ·rw[if_pos h0,h0,A7];simp only;omega
 ·rw[if_neg h0]
theorem Hi.ki(h:Hi X os m W G D A S)(hi:os[i]?=some (KG X.p x t X.sz)){n:Nat}(hn:n≤t.blocks):
  (Ay S (t.first+n) (t.blocks-n)).first=S.first∧(Ay S (t.first+n) (t.blocks-n)).blocks=S.blocks∧(∀z,hasB (Ay S (t.first+n) (t.blocks-n)).fr z↔hasB S.fr z∨(t.first+n≤z∧z<t.first+t.blocks))∧Az (Ay S (t.first+n) (t.blocks-n)).fr=Az S.fr+(t.blocks-n):=by
 obtain⟨k1,k2⟩:=h.held hi
 have k2:0<t.blocks→S.first≤t.first∧t.first+t.blocks≤S.first+S.blocks:=k2
 have h1:=IA (S:=S) h.sys.V0 (f:=t.first+n) (n:=t.blocks-n) (by
  rcases Nat.eq_zero_or_pos (t.blocks-n)with h0|h0
  ·exact .inr h0
  ·have:=k2 (by omega);exact .inl (by omega)) (by
  rcases Nat.eq_zero_or_pos (t.blocks-n)with h0|h0
  ·exact .inr h0
  ·have:=k2 (by omega);exact .inl (by omega)) (fun z z1 z2=>k1 z ⟨by show t.first≤z;omega,by show z<t.first+t.blocks;omega⟩)
 rw[show t.first+n+(t.blocks-n)=t.first+t.blocks by omega]at h1
 exact h1
theorem Hi.shut(h:Hi X os m W G D A S)(hi:os[i]?=some (KG X.p x t X.sz)){t':Wt}(ht:t'.b=t.b){G':Nat→Prop}{D':St}{m':Nat}(k1:Sys W' G' X.p ⟨D',release A t.b X.sz,Ay S (t.first+0) (t.blocks-0)⟩ (X.n+m'))(k2:Je W' x X.p t')(k3:AL (fun k=>G k∨k=x∨k=t.g∨k=t.b) W W')(k4:∀k,G' k→G k∨W.heap.size≤k)
  (hD:D'.size=D.size∧D'.blocks=D.blocks) (alive:D'.down=false∧D'.fb=false) (calm:Calm D→Calm D') (Al:D'.Al≤((X.C+m':Nat):Int)) (now:∀z:Nat,D'.now z=D.now z) (LK:X.N+m'≤1000000:=by first|exact(Hi.LK (by assumption)).2|omega):Wd X (os.set i (lW X.p x t')) m' W':=by
 have IQ:wordsAt A.st t.b=some X.sz:=h.st i _ t.b X.sz hi rfl
 have Mg:=h.ki hi (Nat.zero_le _)
 refine⟨G',_,_,_,h.step hi k1 (k3.mono fun k hk=>hk.elim .inl fun hk=>hk.elim (fun e=>.inr (.inl e)) fun hk=>hk.elim (fun e=>.inr (.inr (.inr e))) fun e=>.inr (.inr (.inl e))) k4 ZM k2 (fun k hk=>?_) hD alive calm Al (fun z _=>now z) trivial rfl ?_ (fun b n hw hb=>Bw _ _ _ _ hw fun e=>hb (.inr (.inl e))) (fun b n hb=>by cases hb) ⟨Mg.1,Mg.2.1⟩ (fun z=>?_) (fun z hz=>absurd hz (Ab _ _)) ?_⟩
 ·have E0:(KG X.p x t X.sz).K k:=hk.elim .inl fun hk=>.inr (.inl (hk.trans ht))
  refine⟨.inl E0,hk.elim (fun e=>by rw[e];exact k2.1.lt) fun e=>by rw[e];exact k2.2.lt,fun hg=>(k4 k hg).elim ((h.mem i _ hi).2 k E0).2.2 fun hl=>?_⟩
  have:=((h.mem i _ hi).2 k E0).1;omega
 ·have hu:=Dv h.sys.sound IQ
  show (release A t.b X.sz).used+X.sz=A.used+0
  exact hu
 ·rw[Mg.2.2.1 z]
  exact⟨fun hz=>⟨hz,Ab _ _⟩,fun hz=>hz.1⟩
 ·show Az (Ay S (t.first+0) (t.blocks-0)).fr+0=Az S.fr+t.blocks
  rw[Mg.2.2.2];omega
theorem Hi.kj(h:Hi X os m W G D A S)(hi:os[i]?=some (KG X.p x t X.sz))(hok:Ca t X.sz){G':Nat→Prop}{D':St}{m':Nat}(k1:Sys W' G' X.p ⟨D',release A t.b X.sz,Ay S (t.first+AA t.h t.l.length) (t.blocks-AA t.h t.l.length)⟩ (X.n+m'))(k2:Je W' x X.p t)(k3:AL (fun k=>G k∨k=x∨k=t.g∨k=t.b) W W')(k4:∀k,G' k→G k∨W.heap.size≤k)
  (hD:D'.size=D.size∧D'.blocks=D.blocks) (alive:D'.down=false∧D'.fb=false) (calm:Calm D→Calm D') (Al:D'.Al≤((X.C+m':Nat):Int)) (now:∀z:Nat,¬Fp (t.first,t.blocks) z→D'.now z=D.now z) (hs:BA D' t.first t.k t.h t.l (AA t.h t.l.length)) (LK:X.N+m'≤1000000:=by first|exact(Hi.LK (by assumption)).2|omega):Wd X (os.set i (Tw X.p x t X.sz)) m' W':=by
 have IQ:wordsAt A.st t.b=some X.sz:=h.st i _ t.b X.sz hi rfl
 obtain⟨hn,PI⟩:=cQ hok
 have Mg:=h.ki hi hn
 have It:=(h.held hi).1
 refine⟨G',_,_,_,h.step hi k1 (k3.mono fun k hk=>hk.elim .inl fun hk=>hk.elim (fun e=>.inr (.inl e)) fun hk=>hk.elim (fun e=>.inr (.inr (.inr e))) fun e=>.inr (.inr (.inl e))) k4 lY k2 (fun k hk=>?_) hD alive calm Al now (fun _=>Qx hs) rfl ?_ (fun b n hw hb=>Bw _ _ _ _ hw fun e=>hb (.inr (.inl e))) (fun b n hb=>by cases hb) ⟨Mg.1,Mg.2.1⟩ (fun z=>?_) (fun z hz=>?_) ?_⟩
 ·have E0:(KG X.p x t X.sz).K k:=hk.elim .inl fun hk=>.inr (.inl hk)
  refine⟨.inl E0,hk.elim (fun e=>by rw[e];exact k2.1.lt) fun e=>by rw[e];exact k2.2.lt,fun hg=>(k4 k hg).elim ((h.mem i _ hi).2 k E0).2.2 fun hl=>?_⟩
  have:=((h.mem i _ hi).2 k E0).1;omega
 ·have hu:=Dv h.sys.sound IQ
  show (release A t.b X.sz).used+X.sz=A.used+0
  exact hu
 ·rw[Mg.2.2.1 z]
  have h1:Fp (Tw X.p x t X.sz).ex z↔t.first≤z∧z<t.first+AA t.h t.l.length:=PI z
  have h2:Fp (KG X.p x t X.sz).ex z↔t.first≤z∧z<t.first+t.blocks:=Iff.rfl
  have h3:=It z
  rw[h1,h2]
  rw[h2]at h3
  refine⟨fun hz=>?_,fun⟨hz,hno⟩=>?_⟩
  ·rcases hz with hz|hz
   ·exact⟨.inl hz,fun hx=>h3 ⟨hx.1,by omega⟩ hz⟩
   ·exact⟨.inr ⟨by omega,hz.2⟩,by omega⟩
  ·rcases hz with hz|hz
   ·exact .inl hz
   ·exact .inr ⟨by omega,hz.2⟩
 ·have h1:Fp (Tw X.p x t X.sz).ex z↔t.first≤z∧z<t.first+AA t.h t.l.length:=PI z
  rw[h1]at hz
  exact .inl ⟨hz.1,by show z<t.first+t.blocks;omega⟩
 ·show Az (Ay S (t.first+AA t.h t.l.length) (t.blocks-AA t.h t.l.length)).fr+AA t.h t.l.length=Az S.fr+t.blocks
  rw[Mg.2.2.2];omega
theorem ZY(h:Wd X os m W)(hi:os[i]?=some (KG X.p x t X.sz))(hok:Ca t X.sz)(hn:X.N+m<1000000):
  Calls Tryz.prog 40 #[.pointer (some ⟨x,0,none⟩)] W fun e w'=>
   (e=.returned (.tuple #[DA (BS t) (AA t.h t.l.length) t.k t.l.length,.int .i64 0])∧Wd X (os.set i (Tw X.p x t X.sz)) (m+(AA t.h t.l.length-t.l.length/t.h)) w')∨
   (e=.returned (.tuple #[DA 0 0 0 0,.int .i64 6])∧¬X.cm∧Wd X (os.set i (lW X.p x t)) (m+1) w'):=by
 obtain⟨G,D,A,S,h⟩:=h
 have hm:=(h.mem i _ hi).1
 have ho:=h.lX hi
 have hsz:=h.size
 have hst:wordsAt A.st t.b=some D.size:=by rw[h.size];exact h.st i _ t.b X.sz hi rfl
 have Uv:D5 D t:=(h.QT i _ hi) h.size
 have YM:Ca t D.size:=by rw[hsz];exact hok
 refine(NM (F:=⟨D,A,S⟩) h.sys (by have:=h.LK;omega) YM (by show Jf W x X.p t D.size;rw[hsz];exact hm) ho hst).mono ?_
 rintro e w' (⟨hm0,rfl,G',k1,k2,k3,k4⟩|⟨hm0,DX,rfl,G',k1,k2,k3,k4⟩|⟨hm0,DX,rfl,G',k1,k2,k3,k4⟩)
 ·refine .inl ⟨rfl,?_⟩
  rw[Ec hm0,Nat.sub_self,Nat.add_zero]
  have PB:Sys w' G' X.p ⟨D,release A t.b D.size,Ay S (t.first+AA t.h t.l.length) (t.blocks-AA t.h t.l.length)⟩ (X.n+m):=k1
  rw[hsz]at PB
  exact h.kj hi hok PB k2 k3 k4 ⟨rfl,rfl⟩ h.alive id h.Al (fun _ _=>rfl) (L5 Uv hm0)
 ·refine .inl ⟨rfl,?_⟩
  have Jy:0<t.l.length:=by
   rcases Nat.eq_zero_or_pos t.l.length with h1|h1
   ·rw[h1]at hm0;simp at hm0
   ·exact h1
  have Io:DM D (write D (AV t:Nat) (AU D.size t)).2 1:=Fy DX
  have yX:=RK (D:=D) YM Jy
  have PB:Sys w' G' X.p ⟨(write D (AV t:Nat) (AU D.size t)).2,release A t.b (write D (AV t:Nat) (AU D.size t)).2.size,Ay S (t.first+AA t.h t.l.length) (t.blocks-AA t.h t.l.length)⟩ (X.n+m+1):=k1
  rw[Io.size,hsz]at PB
  rw[hsz]at Io DX
  have Am:AA t.h t.l.length-t.l.length/t.h=1:=by unfold AA;rw[if_pos (by omega)];omega
  rw[Am]
  exact h.kj hi hok PB k2 k3 k4 ⟨Io.size,Io.blocks⟩ (Io.alive h.alive) Io.calm (by rw[Io.Al];have:=h.Al;omega) (fun z hz=>(Le DX).2.1 _ fun e=>hz (by
   have e':z=AV t:=by omega
   rw[e'];exact yX)) (by
   have:=KP hok.h.1 Uv hm0 (by rw[hsz];exact DX)
   rw[hsz]at this;exact this)
 ·have Jy:0<t.l.length:=by
   rcases Nat.eq_zero_or_pos t.l.length with h1|h1
   ·rw[h1]at hm0;simp at hm0
   ·exact h1
  have IZ:0<t.blocks:=by rw[hok.blocks.1];exact Bj hok.h.1 (by have:=hok.bound.2;omega)
  have PI:((t.first+t.blocks:Nat):Int)≤D.blocks:=h.pe hi IZ
  obtain⟨f1,f2,f3,f4⟩:=OL h.alive (Jw YM Jy PI) (Nu YM Jy) DX
  obtain⟨vc,jt,vZ⟩:=Sm DX
  refine .inr ⟨by rw[f1],fun hc=>f4 (h.calm hc),?_⟩
  have PB:Sys w' G' X.p ⟨(write D (AV t:Nat) (AU D.size t)).2,release A t.b (write D (AV t:Nat) (AU D.size t)).2.size,Ay S (t.first+0) (t.blocks-0)⟩ (X.n+m+1):=k1
  have xL:(write D (AV t:Nat) (AU D.size t)).2.size=D.size:=jt
  rw[xL,hsz]at PB
  rw[hsz]at vc jt vZ f2 f3
  exact h.shut hi rfl PB k2 k3 k4 ⟨jt.trans hsz.symm,vZ⟩ f3 (fun hc=>absurd hc f4) (by rw[f2];have:=h.Al;omega) (fun z=>vc z)
theorem ez(h:Wd X os m W)(hi:os[i]?=some (KG X.p x t X.sz))(hok:Ca t X.sz)(u:FrameMode):
  CallsD Tryz.prog 38 #[.pointer (some ⟨x,0,none⟩)] u W fun e u' w'=>u'=u∧(e=.returned (.tuple #[])∧Wd X (os.set i (lW X.p x t)) m w'):=by
 obtain⟨G,D,A,S,h⟩:=h
 obtain⟨ws,hm,hh⟩:=(h.mem i _ hi).1
 have ho:=h.lX hi
 have hsz:=h.size
 have hst:wordsAt A.st t.b=some D.size:=by rw[h.size];exact h.st i _ t.b X.sz hi rfl
 refine(PW u (F:=⟨D,A,S⟩) h.sys hm.row hm.buf (by have:=hok.sz;omega) ho.x hst hm.apart.1 hok.first hok.blocks.2).mono ?_
 rintro e u' w' ⟨rfl,rfl,he⟩
 refine⟨rfl,rfl,?_⟩
 have hx:=he.row hm.row ho.x hm.apart.1
 obtain⟨G',k1,k2,k3,k4⟩:=he
 have PB:Sys w' G' X.p ⟨D,release A t.b D.size,Ay S (t.first+0) (t.blocks-0)⟩ (X.n+m):=k1
 rw[hsz]at PB
 exact h.shut hi rfl PB ⟨hx,k4⟩ (k2.mono fun k hk=>hk.elim .inl fun e=>.inr (.inr (.inr e))) k3 ⟨rfl,rfl⟩ h.alive id h.Al (fun _=>rfl)
theorem KQ(hs:Je W x X.p t)(u:FrameMode):CallsD Tryz.prog 38 #[.pointer (some ⟨x,0,none⟩)] u W fun e u' w'=>u'=u∧(e=.returned (.tuple #[])∧w'=W):=FW u hs.1 hs.2
def Rm(X:Cx)(os:List AW)(k n:Nat):Prop:=∀z,k≤z→z<k+n→hasB X.S0.fr z∧∀(i:Nat) (a:AW),os[i]?=some a→¬Fp a.ex z
theorem ZQ(h:Wd X os m W)(k bound:Nat)(AF5:0<AH X.sz k)(hb:bound≤100000)(hroom:X.sz+Ac AW.gw os≤X.rm):
  Calls Tryz.prog 37 #[.pointer (some ⟨X.p.w,0,none⟩),.int .i64 k,.int .i64 bound] W fun e w'=>
   (e=.returned (.tuple #[.pointer none,.int .i64 5])∧(∀q,¬Rm X os q (AA (AH X.sz k) bound))∧Wd X os m w')∨
   (∃x t,e=.returned (.tuple #[.pointer (some ⟨x,0,none⟩),.int .i64 0])∧t.k=k∧t.h=AH X.sz k∧t.bound=bound∧t.l=[]∧Ca t X.sz∧Wd X (os++[KG X.p x t X.sz]) m w'):=by
 obtain⟨G,D,A,S,h⟩:=h
 have hsz:=h.size
 have Y9:Fo ⟨D,A,S⟩ (k:Int) (bound:Int):=⟨by show AH D.size k≠0;rw[hsz];omega,by omega,by omega⟩
 have hu:=h.used
 have Ip:=h.room
 have WJ:D.size≤A.room-A.used:=by rw[hsz,Ip,hu];omega
 refine(XF (F:=⟨D,A,S⟩) h.sys (k:Int) (bound:Int) h.O3).mono ?_
 rintro e w' (⟨er,he,hw,hs⟩|⟨x,t,S1,G1,he,_,_,RN,gV,pq,bA,ZB,hq,k4,k5,k7,k8,x1,x2,x3⟩)
 ·rcases hw with⟨_,hno⟩|⟨_,_,hlt⟩|⟨rfl,_,_,B6,hno⟩
  ·exact absurd Y9 hno
  ·exact absurd WJ (by show ¬D.size≤A.room-A.used;have:A.room-A.used<D.size:=hlt;omega)
  ·refine .inl ⟨he,fun q hr=>hno q fun z z1 z2=>?_,?_⟩
   ·have Av:=hr z z1 (by
     have e2:AA (AH D.size (k:Int)) (bound:Int).toNat=AA (AH X.sz k) bound:=by rw[hsz,Int.toNat_natCast]
     have z2':z<q+AA (AH D.size (k:Int)) (bound:Int).toNat:=z2
     rw[e2]at z2';exact z2')
    exact(h.free z).2 Av
   ·obtain⟨G',h1,h2,h3⟩:=hs
    have Gp:=h.grow
    have YN:(os++[Bi])[os.length]?=some Bi:=by rw[List.getElem?_append_right (Nat.le_refl _),Nat.sub_self];rfl
    have hstep:=Gp.step YN h1 (h2.mono fun k hk=>.inl hk) h3 Kh trivial (fun k hk=>hk.elim) ⟨rfl,rfl⟩ h.alive id h.Al (fun _ _=>rfl) trivial rfl rfl (fun _ _ hw _=>hw) (fun _ _ hb=>by cases hb) ⟨rfl,rfl⟩ (fun z=>⟨fun hz=>⟨.inl hz,Ab _ _⟩,fun hz=>hz.1.elim id fun hx=>absurd hx (Ab _ _)⟩) (fun z hz=>.inl hz) rfl
    rw[List.set_append_right _ _ (Nat.le_refl _),Nat.sub_self]at hstep
    exact Wd.drop ⟨_,_,_,_,hstep⟩ rfl rfl
 ·have hkk:t.k=k:=by omega
  have Kw:t.bound=bound:=by omega
  have MJ:t.h=AH X.sz k:=by rw[pq];show AH D.size k= _;rw[hsz]
  have hok:Ca t X.sz:=by rw[←hsz];exact k5.ok
  refine .inr ⟨x,t,he,hkk,MJ,Kw,bA,hok,?_⟩
  have Gp:=h.grow
  have YN:(os++[Bi])[os.length]?=some Bi:=by rw[List.getElem?_append_right (Nat.le_refl _),Nat.sub_self];rfl
  have hex:∀z,Fp (t.first,t.blocks) z→hasB S.fr z:=fun z hz=>by
   rcases ZB with⟨h0,_,_⟩|⟨_,YE,_⟩
   ·unfold Fp at hz;simp only at hz;omega
   ·exact YE.room z hz.1 hz.2
  obtain⟨ws,hm,_⟩:=id k5.mem
  obtain⟨q1,q2,q3⟩:=hm.lt
  have hstep:=Gp.step (a':=KG X.p x t X.sz) (D':=D) (A':=Bv A t.b D.size) (S':=S1) YN k4 (k7.mono fun k hk=>.inl hk) k8 (UC hok) (by show Jf w' x X.p t X.sz;rw[←hsz];exact k5.mem) (fun k hk=>?_) ⟨rfl,rfl⟩ h.alive id h.Al (fun _ _=>rfl) (fun _=>k5.stand) rfl (by show A.used+D.size+0=A.used+X.sz;omega) (fun b n hw _=>FV _ _ _ _ _ hw) (fun b n hb=>by injection hb with hb;injection hb with h1 h2;subst h1 h2;rw[←hsz];exact k5.st) (by
    rcases ZB with⟨_,_,e⟩|⟨_,YE,_⟩
    ·rw[e];exact⟨rfl,rfl⟩
    ·exact⟨YE.first,YE.blocks⟩) (fun z=>?_) (fun z hz=>.inr (hex z hz)) ?_
  ·rw[List.set_append_right _ _ (Nat.le_refl _),Nat.sub_self]at hstep
   exact⟨_,_,_,_,hstep⟩
  ·exact hk.elim (fun e=>by rw[e];exact⟨.inr x1,q1,k5.out.x⟩) fun hk=>hk.elim (fun e=>by rw[e];exact⟨.inr x2,q2,k5.out.b⟩) fun e=>by rw[e];exact⟨.inr x3,q3,k5.out.g⟩
  ·rcases ZB with⟨h0,h1,e⟩|⟨_,YE,_⟩
   ·rw[e]
    have hno:¬Fp (KG X.p x t X.sz).ex z:=fun hz=>by have hz:Fp (t.first,t.blocks) z:=hz;unfold Fp at hz;simp only at hz;omega
    exact⟨fun hz=>⟨.inl hz,hno⟩,fun hz=>hz.1.elim id fun hx=>absurd hx (Ab _ _)⟩
   ·rw[YE.has z]
    exact⟨fun hz=>⟨.inl hz.1,hz.2⟩,fun hz=>⟨hz.1.elim id fun hx=>absurd hx (Ab _ _),hz.2⟩⟩
  ·have:=Pb ZB
   show Az S1.fr+t.blocks=Az S.fr+0
   omega
end
section
variable {X : Cx} {os : List AW} {m i : Nat} {W W' : World} {G : Nat → Prop} {D : St} {A : Ar} {S : Sp} {a : AW} {x : Nat} {t : Wt} {r : Rt} {l : List AB}
theorem RG(os:List AW):(os++[Bi])[os.length]?=some Bi:=by rw[List.getElem?_append_right (Nat.le_refl _),Nat.sub_self];rfl
theorem Ct(os:List AW)(a b:AW):(os++[a]).set os.length b=os++[b]:=by rw[List.set_append_right _ _ (Nat.le_refl _),Nat.sub_self];rfl
theorem NZ(os:List AW){i:Nat}{a:AW}(h:os[i]?=some a)(b:AW):(os.set i b)[i]?=some b:=by
 rw[List.getElem?_set,if_pos rfl,if_pos]
 rcases Nat.lt_or_ge i os.length with hl|hl
 ·exact hl
 ·rw[List.getElem?_eq_none hl]at h;cases h
theorem CH{os:List AW}{i j:Nat}{a b:AW}(h:os[j]?=some a)(hne:i≠j):(os.set i b)[j]?=some a:=by rw[List.getElem?_set,if_neg hne];exact h
theorem Zr{os:List AW}{j:Nat}{a b:AW}(h:os[j]?=some a):(os++[b])[j]?=some a:=by
 rw[List.getElem?_append_left]
 ·exact h
 ·rcases Nat.lt_or_ge j os.length with hl|hl
  ·exact hl
  ·rw[List.getElem?_eq_none hl]at h;cases h
structure iU (r:Rt) (sz:Nat) (l:List AB):Prop where
 ok:Ft r sz
 cnt:l.length=r.count
 fit:∀u∈l,BX u∧Af r.k u=true
def Src(os:List AW)(sz:Nat)(first k h:Nat)(l:List AB):Prop:=∃(j:Nat) (f:AW),os[j]?=some f∧(∀D:St,D.size=sz→f.dA D→BA D first k h l (AA h l.length))∧(0<l.length→f.ex.1≤first∧first+AA h l.length≤f.ex.1+f.ex.2)
theorem Src.set{sz first k h:Nat}(hs:Src os sz first k h l){i:Nat}{a b:AW}(hi:os[i]?=some a)(ha:a.dA=b.dA∧a.ex=b.ex):Src (os.set i b) sz first k h l:=by
 obtain⟨j,f,h1,h2,h3⟩:=hs
 by_cases Fq:i=j
 ·subst Fq
  rw[hi]at h1;injection h1 with h1;subst h1
  exact⟨i,b,NZ os hi b,by rw[←ha.1];exact h2,by rw[←ha.2];exact h3⟩
 ·exact⟨j,f,CH h1 Fq,h2,h3⟩
theorem Src.snoc{sz first k h:Nat}(hs:Src os sz first k h l)(b:AW):Src (os++[b]) sz first k h l:=by
 obtain⟨j,f,h1,h2,h3⟩:=hs
 exact⟨j,f,Zr h1,h2,h3⟩
theorem Qo(h:Wd X os m W)(first nb k hh count:Nat)(l:List AB)(Iu:hh=AH X.sz k)(DQ:0<hh)(Hu:nb=AA hh count)(EE:count≤100000)(N6:first≤2000000)(hroom:X.sz+Ac AW.gw os≤X.rm):
  Calls Tryz.prog 50 #[.pointer (some ⟨X.p.w,0,none⟩),.agg #[.int .i64 first,.int .i64 nb,.int .i64 k,.int .i64 count]] W fun e w'=>∃x b g,e=.returned (.tuple #[.pointer (some ⟨x,0,none⟩),.int .i64 0])∧Ft ⟨k,hh,first,nb,count,0,b,g⟩ X.sz∧Wd X (os++[DZ X.p x ⟨k,hh,first,nb,count,0,b,g⟩ X.sz l]) m w':=by
 obtain⟨G,D,A,S,h⟩:=h
 have hsz:=h.size
 have hu:=h.used
 have Ip:=h.room
 have hz:8≤X.sz∧X.sz≤256:=by rw[←hsz];exact h.sys.size
 obtain⟨k',kJ,Fe,hk3,YP⟩:=Gn (size:=X.sz) (width:=(k:Int)) (by rw[←Iu];omega)
 obtain rfl:k=k':=by omega
 refine(cL (F:=⟨D,A,S⟩) h.sys k hh first nb count (by show hh=AH D.size k;rw[hsz];exact Iu) DQ Hu (by omega) (by show D.size≤A.room-A.used;rw[hsz,Ip,hu];omega)).mono ?_
 rintro e w' ⟨x,b,g,he,n1,n2,n3,G',k1,⟨ws,k2⟩,k3,k4,k5⟩
 have hle:=EY X.sz (k:Int)
 have hok:Ft ⟨k,hh,first,nb,count,0,b,g⟩ X.sz:=⟨⟨Fe,hk3⟩,⟨DQ,by rw[Iu];exact YP,by show hh≤254;rw[Iu];omega⟩,hz,⟨by show count≤ _;omega,Nat.zero_le _⟩,N6⟩
 have n2:W.heap.size≤b:=n2
 refine⟨x,b,g,he,hok,?_⟩
 have Gp:=h.grow
 have hq:∀q∈A.st,q.1≠b:=fun q hq e=>by have:=(h.sys.buf hq).1.lt;omega
 obtain⟨q1,q2,q3⟩:=k2.lt
 have hstep:=Gp.step (a':=DZ X.p x ⟨k,hh,first,nb,count,0,b,g⟩ X.sz l) (D':=D) (A':=Bv A b D.size) (S':=S) (RG os) k1 (k4.mono fun k hk=>.inl hk) k5 aD ⟨ws,by rw[←hsz];exact k2,fun h0=>by simp at h0⟩ (fun k hk=>?_) ⟨rfl,rfl⟩ h.alive id h.Al (fun _ _=>rfl) trivial rfl (by show A.used+D.size+0=A.used+X.sz;omega) (fun b n hw _=>FV _ _ _ _ _ hw) (fun b' n hb=>by injection hb with hb;injection hb with h1 h2;subst h1 h2;rw[←hsz];exact Dd _ _ _ hq) ⟨rfl,rfl⟩ (fun z=>⟨fun hz=>⟨.inl hz,Ab _ _⟩,fun hz=>hz.1.elim id fun hx=>absurd hx (Ab _ _)⟩) (fun z hz=>absurd hz (Ab _ _)) rfl
 ·rw[Ct]at hstep
  exact⟨_,_,_,_,hstep⟩
 ·exact hk.elim (fun e=>by rw[e];exact⟨.inr n1,q1,k3.x⟩) fun hk=>hk.elim (fun e=>by rw[e];exact⟨.inr n2,q2,k3.b⟩) fun e=>by rw[e];exact⟨.inr n3,q3,k3.g⟩
theorem Hi.mD{l:List AB}(h:Hi X os m W G D A S)(hi:os[i]?=some (DZ X.p x r X.sz l)):J8 G x r:=⟨((h.mem i _ hi).2 x (.inl rfl)).2.2,((h.mem i _ hi).2 r.b (.inr (.inl rfl))).2.2,((h.mem i _ hi).2 r.g (.inr (.inr rfl))).2.2⟩
theorem Hi.Z3(h:Hi X os m W G D A S)(hi:os[i]?=some (DZ X.p x r X.sz l)){G':Nat→Prop}{D':St}{m':Nat}(k1:Sys W' G' X.p ⟨D',release A r.b X.sz,S⟩ (X.n+m'))(k2:Qe W' x X.p r)(k3:AL (fun k=>G k∨k=r.b∨k=r.g) W W')(k4:∀k,G' k→G k∨W.heap.size≤k)
  (hD:D'.size=D.size∧D'.blocks=D.blocks) (alive:D'.down=false∧D'.fb=false) (calm:Calm D→Calm D') (Al:D'.Al≤((X.C+m':Nat):Int)) (now:∀z:Nat,D'.now z=D.now z) (LK:X.N+m'≤1000000:=by first|exact(Hi.LK (by assumption)).2|omega):Wd X (os.set i (Ot X.p x r)) m' W':=by
 have IQ:wordsAt A.st r.b=some X.sz:=h.st i _ r.b X.sz hi rfl
 refine⟨G',_,_,_,h.step hi k1 (k3.mono fun k hk=>hk.elim .inl fun hk=>hk.elim (fun e=>.inr (.inr (.inl e))) fun e=>.inr (.inr (.inr e))) k4 mC k2 (fun k hk=>?_) hD alive calm Al (fun z _=>now z) trivial rfl ?_ (fun b n hw hb=>Bw _ _ _ _ hw fun e=>hb (.inr (.inl e))) (fun b n hb=>by cases hb) ⟨rfl,rfl⟩ (fun z=>⟨fun hz=>⟨.inl hz,Ab _ _⟩,fun hz=>hz.1.elim id fun hx=>absurd hx (Ab _ _)⟩) (fun z hz=>absurd hz (Ab _ _)) rfl⟩
 ·have E0:(DZ X.p x r X.sz l).K k:=hk.elim .inl fun hk=>.inr (.inl hk)
  refine⟨.inl E0,hk.elim (fun e=>by rw[e];exact k2.1.lt) fun e=>by rw[e];exact k2.2.lt,fun hg=>(k4 k hg).elim ((h.mem i _ hi).2 k E0).2.2 fun hl=>?_⟩
  have:=((h.mem i _ hi).2 k E0).1;omega
 ·have hu:=Dv h.sys.sound IQ
  show (release A r.b X.sz).used+X.sz=A.used+0
  exact hu
theorem aJ{h i:Nat}(hh:0<h)(h0:(i+1)%h≠0):(i+1)/h=i/h:=GJ hh h0
theorem Mp(h:Wd X os m W)(hi:os[i]?=some (DZ X.p x r X.sz l))(hok:iU r X.sz l)(hn:X.N+m<1000000)(B6:r.pos<r.count)(B4:Src os X.sz r.first r.k r.h l){t:AB}(ht:l[r.pos]?=some t):
  Calls Tryz.prog 52 #[.pointer (some ⟨x,0,none⟩)] W fun e w'=>
   (e=.returned (.tuple #[.agg #[.int .i64 t.a,.int .i64 t.b,.int .i64 t.c,.int .i64 t.d,.int .i64 t.e],.bool true,.int .i64 0])∧Wd X (os.set i (DZ X.p x {r with pos:=r.pos+1} X.sz l)) (m+(AA r.h (r.pos+1)-AA r.h r.pos)) w')∨
   (e=.returned (.tuple #[.agg #[.int .i64 0,.int .i64 0,.int .i64 0,.int .i64 0,.int .i64 0],.bool false,.int .i64 6])∧¬X.cm∧Wd X (os.set i (Ot X.p x r)) (m+1) w'):=by
 obtain⟨G,D,A,S,h⟩:=h
 obtain⟨ws,hm,N7⟩:=(h.mem i _ hi).1
 have ho:=h.mD hi
 have hsz:=h.size
 have IQ:wordsAt A.st r.b=some X.sz:=h.st i _ r.b X.sz hi rfl
 have EL:Ft r D.size:=by rw[hsz];exact hok.ok
 have hm':DI W x X.p r D.size ws:=by rw[hsz];exact hm
 obtain⟨j,f,hj,Iw,Di⟩:=B4
 have rW:=Iw D hsz (h.QT j f hj)
 have Jy:0<l.length:=by rw[hok.cnt];omega
 have PJ:=Bj hok.ok.h.1 Jy
 obtain⟨rM,jx⟩:=Di Jy
 have nP:r.pos/r.h<AA r.h l.length:=by
  have h1:=IG (h:=r.h) (c:=l.length) hok.ok.h.1
  apply Nat.lt_of_mul_lt_mul_right (a:=r.h)
  have h2:=Nat.div_mul_le_self r.pos r.h
  rw[hok.cnt]at h1⊢
  exact Nat.lt_of_le_of_lt h2 (Nat.lt_of_lt_of_le B6 h1)
 have YH:=h.pe hj (by omega)
 have m9:right D ((r.first+r.pos/r.h:Nat):Int)=true:=by
  clear N7 rW
  generalize r.pos/r.h=qq at*
  unfold right;simp;omega
 have hto:=hok.fit t (List.mem_of_getElem? ht)
 have sS:AA r.h (r.pos+1)-AA r.h r.pos=if r.pos%r.h=0 then 1 else 0:=by
  rw[MN hok.ok.h.1];split<;>omega
 have Hv:∀w',(∀D' m',DM D D' m'→(∀z,D'.now z=D.now z)→(m'=if r.pos%r.h=0 then 1 else 0)→(∃Bz,GU W G X.p ⟨D',A,S⟩ (X.n+(m+m')) x {r with pos:=r.pos+1} Bz w'∧Bz.take (min r.h (r.count-r.pos/r.h*r.h)*r.k)=FG r.h r.k l (r.pos/r.h))→Wd X (os.set i (DZ X.p x {r with pos:=r.pos+1} X.sz l)) (m+(AA r.h (r.pos+1)-AA r.h r.pos)) w'):=fun w' D' m' Io gq KH ⟨Bz,⟨G',k1,k2,k3,k4⟩,k5⟩=>by
  rw[sS,←KH]
  have AF0:m'≤1:=by rw[KH];split<;>omega
  obtain⟨q1,q2,q3⟩:=k2.lt
  have Ty:DI w' x X.p {r with pos:=r.pos+1} X.sz Bz:=by
   have e:D'.size=X.sz:=Io.size.trans hsz
   have k2:DI w' x X.p {r with pos:=r.pos+1} D'.size Bz:=k2
   rw[e]at k2;exact k2
  refine⟨G',D',A,S,h.step hi k1 (k3.mono fun k hk=>hk.elim .inl fun hk=>hk.elim (fun e=>.inr (.inr (.inr e))) fun e=>.inr (.inl e)) k4 aD ⟨Bz,Ty,fun h0=>?_⟩ (fun k hk=>?_) ⟨Io.size,Io.blocks⟩ (Io.alive h.alive) Io.calm (by rw[Io.Al];have:=h.Al;omega) (fun z _=>gq z) trivial rfl rfl (fun _ _ hw _=>hw) (fun b n hb=>by injection hb with hb;injection hb with h1 h2;subst h1 h2;exact IQ) ⟨rfl,rfl⟩ (fun z=>⟨fun hz=>⟨.inl hz,Ab _ _⟩,fun hz=>hz.1.elim id fun hx=>absurd hx (Ab _ _)⟩) (fun z hz=>absurd hz (Ab _ _)) rfl⟩
  ·show Bz.take (min r.h (r.count-(r.pos+1)/r.h*r.h)*r.k)=FG r.h r.k l ((r.pos+1)/r.h)
   rw[aJ hok.ok.h.1 h0];exact k5
  ·have E0:(DZ X.p x r X.sz l).K k:=hk
   refine⟨.inl E0,hk.elim (fun e=>by rw[e];exact q1) fun hk=>hk.elim (fun e=>by rw[e];exact q2) fun e=>by rw[e];exact q3,fun hg=>(k4 k hg).elim ((h.mem i _ hi).2 k E0).2.2 fun hl=>?_⟩
   have:=((h.mem i _ hi).2 k E0).1;omega
 by_cases D8:r.pos%r.h=0
 ·by_cases he:(read D ((r.first+r.pos/r.h:Nat):Int)).1=0
  ·refine(VH (F:=⟨D,A,S⟩) h.sys (by have:=h.LK;omega) EL hm' ho hok.cnt B6 (fun _=>⟨he,?_⟩) (fun h0=>absurd D8 h0) ht hto.1 hto.2).mono ?_
   ·exact rW _ nP
   ·rintro e w' ⟨qG,Bz,k1,k2⟩
    refine .inl ⟨qG,Hv w' (read D ((r.first+r.pos/r.h:Nat):Int)).2 1 (UB he) (fun z=>(Fa _ _ _).1) (by rw[if_pos D8]) ⟨Bz,?_,k2⟩⟩
    have e2:V9 D r=(read D ((r.first+r.pos/r.h:Nat):Int)).2:=by unfold V9;rw[if_pos D8]
    rw[←e2];exact k1
  ·obtain⟨f1,f2,f3,f4⟩:=Yk h.alive m9 he
   refine(Ye (F:=⟨D,A,S⟩) h.sys (by have:=h.LK;omega) EL hm' ho (by show wordsAt A.st r.b=some D.size;rw[hsz];exact IQ) B6 D8 he).mono ?_
   rintro e w' ⟨qG,G',k1,k2,k3,k4⟩
   refine .inr ⟨by rw[qG];show _= _;rw[show (read ({D:=D,A:=A,S:=S}:Fs).D ((r.first+r.pos/r.h:Nat):Int)).1=6 from f1],fun hc=>f4 (h.calm hc),?_⟩
   obtain⟨_,n2,n3⟩:=Fa D ((r.first+r.pos/r.h:Nat):Int) 0
   have PB:Sys w' G' X.p ⟨(read D ((r.first+r.pos/r.h:Nat):Int)).2,release A r.b (read D ((r.first+r.pos/r.h:Nat):Int)).2.size,S⟩ (X.n+m+1):=k1
   rw[n2,hsz]at PB
   exact h.Z3 hi PB k2 k3 k4 ⟨n2,n3⟩ f3 (fun hc=>absurd hc f4) (by rw[f2];have:=h.Al;omega) (fun z=>(Fa _ _ _).1)
 ·refine(QH (F:=⟨D,A,S⟩) h.sys EL hm' ho B6 D8).mono ?_
  rintro e w' ⟨qG,k1⟩
  have hb:=N7 D8
  have htu:=Re (t:=t) hok.ok.k.2 hok.ok.h.1 B6 hok.cnt hb ht hto.1 hto.2
  rw[htu]at qG
  refine .inl ⟨qG,Hv w' D 0 (DM.refl D) (fun _=>rfl) (by rw[if_neg D8]) ⟨ws,k1,hb⟩⟩
theorem L7(h:Wd X os m W)(hi:os[i]?=some (DZ X.p x r X.sz l))(hok:Ft r X.sz)(B6:r.pos=r.count):
  Calls Tryz.prog 52 #[.pointer (some ⟨x,0,none⟩)] W fun e w'=>e=.returned (.tuple #[.agg #[.int .i64 0,.int .i64 0,.int .i64 0,.int .i64 0,.int .i64 0],.bool false,.int .i64 0])∧Wd X os m w':=by
 obtain⟨ws,hm,_⟩:=h.at_ hi
 exact(Yf hok hm B6).mono fun _ _ ⟨h1,h2⟩=>⟨h1,h.below h2⟩
theorem PX(h:Wd X os m W)(hi:os[i]?=some (DZ X.p x r X.sz l)):
  Calls Tryz.prog 51 #[.pointer (some ⟨x,0,none⟩)] W fun e w'=>e=.returned (.tuple #[])∧Wd X (os.set i (Ot X.p x r)) m w':=by
 obtain⟨G,D,A,S,h⟩:=h
 obtain⟨ws,hm,_⟩:=(h.mem i _ hi).1
 have hsz:=h.size
 have IQ:wordsAt A.st r.b=some X.sz:=h.st i _ r.b X.sz hi rfl
 refine(Ng (F:=⟨D,A,S⟩) h.sys (by show DI W x X.p r D.size ws;rw[hsz];exact hm) (h.mD hi) (by show wordsAt A.st r.b=some D.size;rw[hsz];exact IQ)).mono ?_
 rintro e w' ⟨he,G',k1,k2,k3,k4⟩
 have PB:Sys w' G' X.p ⟨D,release A r.b D.size,S⟩ (X.n+m):=k1
 rw[hsz]at PB
 exact⟨he,h.Z3 hi PB k2 (k3.mono fun k hk=>hk.elim .inl fun e=>.inr (.inl e)) k4 ⟨rfl,rfl⟩ h.alive id h.Al fun _=>rfl⟩
theorem JU(u:FrameMode)(h:Wd X os m W)(hi:os[i]?=some (DZ X.p x r X.sz l)):
  CallsD Tryz.prog 51 #[.pointer (some ⟨x,0,none⟩)] u W fun e u' w'=>u'=u∧(e=.returned (.tuple #[])∧Wd X (os.set i (Ot X.p x r)) m w'):=by
 obtain⟨G,D,A,S,h⟩:=h
 obtain⟨ws,hm,_⟩:=(h.mem i _ hi).1
 have hsz:=h.size
 have IQ:wordsAt A.st r.b=some X.sz:=h.st i _ r.b X.sz hi rfl
 refine(Ue u (F:=⟨D,A,S⟩) h.sys (by show DI W x X.p r D.size ws;rw[hsz];exact hm) (h.mD hi) (by show wordsAt A.st r.b=some D.size;rw[hsz];exact IQ)).mono ?_
 rintro e u' w' ⟨hu,he,G',k1,k2,k3,k4⟩
 have PB:Sys w' G' X.p ⟨D,release A r.b D.size,S⟩ (X.n+m):=k1
 rw[hsz]at PB
 exact⟨hu,he,h.Z3 hi PB k2 (k3.mono fun k hk=>hk.elim .inl fun e=>.inr (.inl e)) k4 ⟨rfl,rfl⟩ h.alive id h.Al fun _=>rfl⟩
theorem UN{w:World}{G:Nat→Prop}{p:Wp}{F:Fs}{n:Nat}(h:Sys w G p F n)(M:Nat)(hm:M≤F.A.room-F.A.used)(h8:M≤100000000):Calls Tryz.prog 63 #[.pointer (some ⟨p.a,0,none⟩),.int .i64 M] w fun e w'=>∃b g,e=.returned (.tuple #[.pointer (some ⟨b,0,none⟩),.int .i64 0])∧
  (∃G',Sys w' G' p {F with A:=Bv F.A b M} n∧AL G w w'∧(∀k,G' k→G k∨w.heap.size≤k)∧¬G' b∧¬G' g)∧Row w' b 126 [.slice (some ⟨g,0,none⟩) M M]∧Row w' g 127 ((List.replicate M 0).map vw)∧w.heap.size≤b∧w.heap.size≤g:=by
 obtain⟨Ga,ha,hg,_⟩:=h.uA
 refine(QD p.a F.A Ga M w ha hm (by omega)).mono ?_
 rintro e w' ⟨b,g,Y3,he,h1,h2,h3,h4,h5,h6⟩
 refine⟨b,g,he,hg w' b g M ⟨Y3,h1,h2,h3,h4,h5,h6⟩,h2,?_,h4,h5⟩
 rw[List.map_replicate];exact h3
theorem SB(h:Wd X os m W)(M:Nat)(hroom:M+Ac AW.gw os≤X.rm)(h8:M≤1000000):
  Calls Tryz.prog 63 #[.pointer (some ⟨X.p.a,0,none⟩),.int .i64 M] W fun e w'=>∃b g,e=.returned (.tuple #[.pointer (some ⟨b,0,none⟩),.int .i64 0])∧Wd X (os++[kf b g M]) m w':=by
 obtain⟨G,D,A,S,h⟩:=h
 have hu:=h.used
 have Ip:=h.room
 refine(UN (F:=⟨D,A,S⟩) h.sys M (by show M≤A.room-A.used;rw[Ip,hu];omega) (by omega)).mono ?_
 rintro e w' ⟨b,g,he,⟨G',k1,k2,k3,k4,k5⟩,r1,r2,n1,n2⟩
 refine⟨b,g,he,?_⟩
 have hq:∀q∈A.st,q.1≠b:=fun q hq e=>by have:=(h.sys.buf hq).1.lt;omega
 have hstep:=h.grow.step (a':=kf b g M) (D':=D) (A':=Bv A b M) (S':=S) (RG os) k1 (k2.mono fun k hk=>.inl hk) k3 oC ⟨r1,_,by simp,r2⟩ (fun k hk=>hk.elim (fun e=>by rw[e];exact⟨.inr n1,r1.lt,k4⟩) fun e=>by rw[e];exact⟨.inr n2,r2.lt,k5⟩) ⟨rfl,rfl⟩ h.alive id h.Al (fun _ _=>rfl) trivial rfl (by show A.used+M+0=A.used+M;omega) (fun b n hw _=>FV _ _ _ _ _ hw) (fun b' n hb=>by injection hb with hb;injection hb with h1 h2;subst h1 h2;exact Dd _ _ _ hq) ⟨rfl,rfl⟩ (fun z=>⟨fun hz=>⟨.inl hz,Ab _ _⟩,fun hz=>hz.1.elim id fun hx=>absurd hx (Ab _ _)⟩) (fun z hz=>absurd hz (Ab _ _)) rfl
 rw[Ct]at hstep
 exact⟨_,_,_,_,hstep⟩
end
theorem SY(fm:FrameMode)(p:Nat)(s:Ar)(G:Nat→Prop)(b n:Nat)(w:World)(h:FO w G p s)(hb:Hf w b)(hn:wordsAt s.st b=some n):
  CallsD Tryz.prog 80 #[.pointer (some ⟨p,0,none⟩),.pointer (some ⟨b,0,none⟩)] fm w fun e u' w'=>u'=fm∧(e=.returned (.bool true)∧FO w' G p (release s b n)∧Row w' b 126 [.slice none 0 0]∧AL (fun k=>G k∨k=b) w w'):=by
 have hw:=h.words hn
 have RT:=h.Lf hb
 have JO:=fun q hq=>And.intro (h.buf (q:=q) hq) (h.Lf (h.buf hq))
 obtain⟨h0,⟨m,hr,hst,eM⟩,hp,hG,_⟩:=id h
 rcases hst with⟨rfl,hst⟩|⟨bm,rfl,hm,P8⟩
 ·rw[hst]at hn;cases hn
 have c3:w.cell? ⟨p,3,none⟩=some (.map (some bm)):=hr.cell 3
 have bW:(Instr.lookup 71 (.map (some bm)) (.pointer (some ⟨b,0,none⟩)) true).run Tryz.prog w=.ok (.tuple #[.int .i64 (n:Int),.bool true]) w:=by
  have:=SS w hm hb fun q hq=>(JO q hq).1
  rw[hn]at this;exact this
 have hne:bm≠p:=fun e=>hm.A9 hr e.symm
 have HM:=Lib.hid hm
 have HR:=Lib.hid hr
 have H0:=Lib.hid h0
 have lH:=Lib.hid hn
 obtain⟨u,hu⟩:∃u,s.used-n=u:=⟨_,rfl⟩
 have Fc:(s.used:Int)-(n:Int)=(u:Int):=by omega
 have g1:(-9223372036854775808:Int)≤(u:Int):=by omega
 have g2:(u:Int)≤9223372036854775807:=by omega
 have HU:=Lib.hid hu
 clear hu hr hm h h0 hn hw
 go_enter_d Tryz.func80,Tryz.ntmps80
 go_wp2_with (with_reducible refine Vx ?_)
 unfold Hid
 refine NH _ rfl _ _ rfl bm b n s.st rfl rfl HM.out hb (fun q hq=>(JO q hq).1) lH.out ?_
 intro w2 hm2 CP
 have Di:AL (fun k=>k=bm) w w2:=(AL.refl _ w).grown CP fun k hk=>.inl (by injection hk with hk;exact hk.symm)
 have Av:=Di.row HR.out (HM.out.A9 HR.out)
 obtain⟨v,hv⟩:=hb
 have AZ:=Di.row hv (HM.out.A9 hv)
 have k1:w2.cell? ⟨p,1,none⟩=some (.int .i64 (s.used:Int)):=Av.cell 1
 have f1:=Av.free 1
 have fb:=AZ.free 0
 have kb:w2.cell? ⟨b,0,none⟩=some v:=AZ.cell 0
 have eK:b≠p:=fun e=>RT (e▸hp)
 have nE:p≠b:=fun e=>eK e.symm
 have Ix:FO ((w2.setCell ⟨p,1,none⟩ (.int .i64 (u:Int))).setCell ⟨b,0,none⟩ (.slice none 0 0)) G p (release s b n)∧Row ((w2.setCell ⟨p,1,none⟩ (.int .i64 (u:Int))).setCell ⟨b,0,none⟩ (.slice none 0 0)) b 126 [.slice none 0 0]∧
   AL (fun k=>G k∨k=b) w ((w2.setCell ⟨p,1,none⟩ (.int .i64 (u:Int))).setCell ⟨b,0,none⟩ (.slice none 0 0)):=by
  have Cn:Row ((w2.setCell ⟨p,1,none⟩ (.int .i64 (u:Int))).setCell ⟨b,0,none⟩ (.slice none 0 0)) p 73 (Bc (release s b n) (some bm)):=by
   have e:Bc (release s b n) (some bm)=(Bc s (some bm)).set 1 (.int .i64 (u:Int)):=by rw[←HU.out];rfl
   rw[e];exact(Av.set 1 _).Cc (fun e=>eK e.symm) _
  have FH:Row ((w2.setCell ⟨p,1,none⟩ (.int .i64 (u:Int))).setCell ⟨b,0,none⟩ (.slice none 0 0)) b 126 [.slice none 0 0]:=(AZ.Cc (p:=⟨p,1,none⟩) eK _).set 0 _
  have Mi:AL (fun k=>G k∨k=b) w ((w2.setCell ⟨p,1,none⟩ (.int .i64 (u:Int))).setCell ⟨b,0,none⟩ (.slice none 0 0)):=((Di.mono fun k hk=>.inl (hk▸P8)).set (p:=⟨p,1,none⟩) (.inl (.inl hp)) _).set (p:=⟨b,0,none⟩) (.inl (.inr rfl)) _
  refine⟨⟨JZ H0.out lH.out,⟨some bm,Cn,.inr ⟨bm,rfl,hm2.same ?_,P8⟩,eM⟩,hp,fun k hk=>Nat.lt_of_lt_of_le (hG k hk) Mi.size,fun q hq=>?_⟩,FH,Mi⟩
  ·rw[heap_setCell_other _ ⟨b,0,none⟩ _ _ (show bm≠b from fun e=>RT (e▸P8)),heap_setCell_other _ ⟨p,1,none⟩ _ _ (show bm≠p from hne)]
  ·have eH:=JO q (De _ _ _ hq)
   by_cases e:q.1=b
   ·rw[e];exact⟨_,FH⟩
   ·exact eH.1.Cc Mi fun h=>h.elim eH.2 e
 have Aw:=Lib.hid Ix
 clear Ix hm2 CP Di Av AZ hv c3 bW JO
 go_wp2
 go_ret
 exact⟨rfl,Aw.out⟩
section
variable {X : Cx} {os : List AW} {m i : Nat} {W W' : World} {G : Nat → Prop} {D : St} {A : Ar} {S : Sp} {a : AW} {x : Nat} {l : List AB}
theorem MW(fm:FrameMode){w:World}{G:Nat→Prop}{p:Wp}{F:Fs}{n:Nat}(h:Sys w G p F n){b m:Nat}(hb:wordsAt F.A.st b=some m):
  CallsD Tryz.prog 80 #[.pointer (some ⟨p.a,0,none⟩),.pointer (some ⟨b,0,none⟩)] fm w fun e u' w'=>u'=fm∧(e=.returned (.bool true)∧Br w G b p {F with A:=release F.A b m} n w'):=by
 obtain⟨N7,RT⟩:=h.buf (EU _ _ _ hb)
 obtain⟨Ga,ha,_,hrel⟩:=h.uA
 refine(SY fm p.a F.A Ga b m w ha N7 hb).mono ?_
 rintro e u' w' ⟨hu,he,h1,h2,h3⟩
 obtain⟨k1,k2⟩:=hrel w' b m h1 h3 RT
 exact⟨hu,he,G,k1,k2,fun k hk=>.inl hk,h2⟩
theorem Ia(fm:FrameMode){b g M:Nat}(h:Wd X os m W)(hi:os[i]?=some a)(hK:∀k,a.K k↔k=b∨k=g)(hg:a.gr=some (b,M))(hx:a.ex.2=0):
  CallsD Tryz.prog 80 #[.pointer (some ⟨X.p.a,0,none⟩),.pointer (some ⟨b,0,none⟩)] fm W fun e u' w'=>u'=fm∧(e=.returned (.bool true)∧Wd X (os.set i Bi) m w'):=by
 obtain⟨G,D,A,S,h⟩:=h
 have IQ:wordsAt A.st b=some M:=h.st i _ b M hi hg
 refine(MW fm (F:=⟨D,A,S⟩) h.sys IQ).mono ?_
 rintro e u' w' ⟨hu,he,G',k1,k2,k3,k4⟩
 have Lk:∀z,¬Fp a.ex z:=fun z hz=>by unfold Fp at hz;omega
 have Iv:a.gw=M:=by unfold AW.gw;rw[hg]
 refine⟨hu,he,G',_,_,_,h.step hi k1 (k2.mono fun k hk=>hk.elim .inl fun e=>.inr ((hK k).2 (.inl e))) k3 Kh trivial (fun k hk=>hk.elim) ⟨rfl,rfl⟩ h.alive id h.Al (fun _ _=>rfl) trivial rfl ?_ (fun b' n hw hb=>Bw _ _ _ _ hw fun e=>hb ((hK b').2 (.inl e))) (fun b n hb=>by cases hb) ⟨rfl,rfl⟩ (fun z=>⟨fun hz=>⟨.inl hz,Ab _ _⟩,fun hz=>hz.1.elim id fun hx=>absurd hx (Lk z)⟩) (fun z hz=>absurd hz (Ab _ _)) (by show Az S.fr+0=Az S.fr+a.ex.2;omega)⟩
 have hu:=Dv h.sys.sound IQ
 show (release A b M).used+a.gw=A.used+0
 rw[Iv];exact hu
theorem Vq{first nb k hh sz:Nat}(h:Wd X os m W)(hi:os[i]?=some (Cf first nb k hh l sz))(hf:first≤2000000)(hn:nb≤2000000)(c:Nat):
  Calls Tryz.prog 49 #[.pointer (some ⟨X.p.w,0,none⟩),.agg #[.int .i64 first,.int .i64 nb,.int .i64 k,.int .i64 c]] W fun e w'=>e=.returned (.int .i64 0)∧Wd X (os.set i Bi) m w':=by
 obtain⟨G,D,A,S,h⟩:=h
 obtain⟨gu,E5⟩:=h.held hi
 have gu:∀z,Fp (first,nb) z→¬hasB S.fr z:=gu
 have E5:0<nb→S.first≤first∧first+nb≤S.first+S.blocks:=E5
 have Mg:=IA (S:=S) h.sys.V0 (f:=first) (n:=nb) (by
  rcases Nat.eq_zero_or_pos nb with h0|h0
  ·exact .inr h0
  ·exact .inl (E5 h0).1) (by
  rcases Nat.eq_zero_or_pos nb with h0|h0
  ·exact .inr h0
  ·exact .inl (E5 h0).2) (fun z z1 z2=>gu z ⟨z1,z2⟩)
 have cB:(if nb=0 then 0 else (CY S first nb).2)=0:=by
  by_cases h0:nb=0
  ·rw[if_pos h0]
  ·rw[if_neg h0]
   rcases Hz (s:=S) h.sys.V0 (first:Int) (nb:Int)with⟨s',a',m',ha,hm,h1,he,hg⟩|⟨_,IV⟩
   ·rw[he]
   ·exact absurd ⟨(E5 (by omega)).1,(E5 (by omega)).2,fun z z1 z2=>gu z ⟨z1,z2⟩⟩ (IV first nb rfl rfl (by omega))
 refine(QM (F:=⟨D,A,S⟩) h.sys first nb k c (by omega) (by omega)).mono ?_
 rintro e w' ⟨he,G',k1,k2,k3⟩
 refine⟨by rw[he,cB];rfl,G',_,_,_,h.step hi k1 (k2.mono fun k hk=>.inl hk) k3 Kh trivial (fun k hk=>hk.elim) ⟨rfl,rfl⟩ h.alive id h.Al (fun _ _=>rfl) trivial rfl rfl (fun _ _ hw _=>hw) (fun b n hb=>by cases hb) ⟨Mg.1,Mg.2.1⟩ (fun z=>?_) (fun z hz=>absurd hz (Ab _ _)) ?_⟩
 ·show hasB (Ay S first nb).fr z↔ _
  rw[Mg.2.2.1 z]
  exact⟨fun hz=>⟨hz,Ab _ _⟩,fun hz=>hz.1⟩
 ·show Az (Ay S first nb).fr+0=Az S.fr+nb
  rw[Mg.2.2.2];omega
theorem Qq(h:Wd X os m W):Calls Tryz.prog 18 #[.pointer (some ⟨X.p.w,0,none⟩)] W fun e w'=>e=.returned (.pointer (some ⟨X.p.d,0,none⟩))∧w'=W:=by
 obtain⟨G,D,A,S,h⟩:=h;exact ZP h.sys.row
theorem LR(h:Wd X os m W):Calls Tryz.prog 13 #[.pointer (some ⟨X.p.w,0,none⟩)] W fun e w'=>e=.returned (.pointer (some ⟨X.p.a,0,none⟩))∧w'=W:=by
 obtain⟨G,D,A,S,h⟩:=h;exact ZZ h.sys.row
theorem UF(h:Wd X os m W):Calls Tryz.prog 16 #[.pointer (some ⟨X.p.w,0,none⟩)] W fun e w'=>e=.returned (.pointer (some ⟨X.p.s,0,none⟩))∧w'=W:=by
 obtain⟨G,D,A,S,h⟩:=h;exact ZL h.sys.row
theorem NL(h:Wd X os m W):Calls Tryz.prog 44 #[.pointer (some ⟨X.p.d,0,none⟩)] W fun e w'=>e=.returned (.int .i64 (X.sz:Int))∧w'=W:=by
 obtain⟨G,D,A,S,h⟩:=h;have:=h.sys.Dm;rw[show ({D:=D,A:=A,S:=S}:Fs).D.size=X.sz from h.size]at this;exact this
theorem Qp(h:Wd X os m W):Calls Tryz.prog 43 #[.pointer (some ⟨X.p.a,0,none⟩)] W fun e w'=>e=.returned (.int .i64 ((X.rm-Ac AW.gw os:Nat):Int))∧w'=W:=by
 obtain⟨G,D,A,S,h⟩:=h;have:=h.sys.Sq;rw[show ({D:=D,A:=A,S:=S}:Fs).A.room=X.rm from h.room,show ({D:=D,A:=A,S:=S}:Fs).A.used=Ac AW.gw os from h.used]at this;exact this
theorem ZV(h:Wd X os m W)(k:Nat):Calls Tryz.prog 72 #[.pointer (some ⟨X.p.w,0,none⟩),.int .i64 k] W fun e w'=>e=.returned (.int .i64 (AH X.sz k:Nat))∧w'=W:=by
 obtain⟨G,D,A,S,h⟩:=h;have:=WK h.sys (k:Int);rw[show ({D:=D,A:=A,S:=S}:Fs).D.size=X.sz from h.size]at this;exact this
end
theorem Wc(k:Int)(hk:-5≤k∧k≤5)(w:World):Calls Tryz.prog 54 #[.int .i64 k] w fun e w'=>e=.returned (.int .i64 (Wf k))∧w'=w:=by
 by_cases h:k<0
 ·have g:decide (k<0)=true:=by simpa using h
  have e:Wf k=-k-1:=by unfold Wf;rw[if_pos h]
  rw[e]
  go_enter Tryz.func54,Tryz.ntmps54
  go_wp2
  go_ret
  exact⟨rfl,rfl⟩
 ·have g:decide (k<0)=false:=by simpa using h
  have e:Wf k=k-1:=by unfold Wf;rw[if_neg h]
  rw[e]
  go_enter Tryz.func54,Tryz.ntmps54
  go_wp2
  go_ret
  exact⟨rfl,rfl⟩
def OQ(x y:Int):Int:=if x<y then -1 else if x=y then 0 else 1
theorem WA(k:Int)(w:World):Calls Tryz.prog 100 #[.int .i64 k] w fun e w'=>e=.returned (.bool false)∧w'=w:=by
 have g:(k !=k)=false:=by simp
 go_enter Tryz.func100,Tryz.ntmps100
 go_wp2
 go_ret
 exact⟨rfl,rfl⟩
theorem av(x y:Int)(w:World):Calls Tryz.prog 82 #[.int .i64 x,.int .i64 y] w fun e w'=>e=.returned (.int .i64 (OQ x y))∧w'=w:=by
 have HX:=Lib.hid (WA x)
 have HY:=Lib.hid (WA y)
 rcases Int.lt_trichotomy x y with h|h|h
 ·have e:OQ x y=-1:=by unfold OQ;rw[if_pos h]
  have g:decide (x<y)=true:=by simpa using h
  rw[e]
  clear h e
  go_enter Tryz.func82,Tryz.ntmps82
  go_wp2_with fail
  refine(HX.out _).mono ?_;rintro e w2 ⟨rfl,rfl⟩
  go_wp2_with fail
  refine(HY.out _).mono ?_;rintro e w3 ⟨rfl,rfl⟩
  go_wp2
  go_ret
  exact⟨rfl,rfl⟩
 ·have e:OQ x y=0:=by unfold OQ;rw[if_neg (by omega),if_pos h]
  have g:decide (x<y)=false:=by simp;omega
  have g2:decide (x>y)=false:=by simp;omega
  rw[e]
  clear h e
  go_enter Tryz.func82,Tryz.ntmps82
  go_wp2_with fail
  refine(HX.out _).mono ?_;rintro e w2 ⟨rfl,rfl⟩
  go_wp2_with fail
  refine(HY.out _).mono ?_;rintro e w3 ⟨rfl,rfl⟩
  go_wp2
  go_ret
  exact⟨rfl,rfl⟩
 ·have e:OQ x y=1:=by unfold OQ;rw[if_neg (by omega),if_neg (by omega)]
  have g:decide (x<y)=false:=by simp;omega
  have g2:decide (x>y)=true:=by simp;omega
  rw[e]
  clear h e
  go_enter Tryz.func82,Tryz.ntmps82
  go_wp2_with fail
  refine(HX.out _).mono ?_;rintro e w2 ⟨rfl,rfl⟩
  go_wp2_with fail
  refine(HY.out _).mono ?_;rintro e w3 ⟨rfl,rfl⟩
  go_wp2
  go_ret
  exact⟨rfl,rfl⟩
theorem OU(w:World)(a b:List Value)(A B:TypeId):∃W1,W1=(w.alloc (.cells a.toArray A)).alloc (.cells b.toArray B)∧Below w.heap.size w W1∧W1.heap.size=w.heap.size+2∧Row W1 w.heap.size A a∧Row W1 (w.heap.size+1) B b:=by
 have b1:Below w.heap.size w (w.alloc (.cells a.toArray A)):=(Below.refl _ _).alloc (Nat.le_refl _) _
 have r1:Row (w.alloc (.cells a.toArray A)) w.heap.size A a:=heap_alloc_new _ _
 have s1:(w.alloc (.cells a.toArray A)).heap.size=w.heap.size+1:=by simp
 refine⟨_,rfl,b1.alloc (by omega) _,by simp,r1.alloc _,?_⟩
 rw[←s1];exact heap_alloc_new _ _
theorem OT(w:World)(a b c:List Value)(A B C:TypeId):∃W1,W1=((w.alloc (.cells a.toArray A)).alloc (.cells b.toArray B)).alloc (.cells c.toArray C)∧Below w.heap.size w W1∧W1.heap.size=w.heap.size+3∧Row W1 w.heap.size A a∧Row W1 (w.heap.size+1) B b∧Row W1 (w.heap.size+2) C c:=by
 obtain⟨W,e,b1,s1,r1,r2⟩:=OU w a b A B
 refine⟨_,rfl,?_⟩
 rw[←e]
 refine⟨b1.alloc (by omega) _,by simp[s1],r1.alloc _,r2.alloc _,?_⟩
 rw[←s1];exact heap_alloc_new _ _
theorem Pu(T:TypeId)(hT:T=26)(o:AB){i:Nat}(hi:i<5)(w:World):(Instr.index T (.agg #[.int .i64 o.a,.int .i64 o.b,.int .i64 o.c,.int .i64 o.d,.int .i64 o.e]) (.int .i64 (i:Int))).run Tryz.prog w=.ok (.int .i64 (As o i)) w:=by
 subst hT
 match i,hi with
 |0,_=>exact(by kernel_rfl:(Instr.index 26 (.agg #[.int .i64 o.a,.int .i64 o.b,.int .i64 o.c,.int .i64 o.d,.int .i64 o.e]) (.int .i64 0)).run Tryz.prog w=.ok (.int .i64 o.a) w)
 |1,_=>exact(by kernel_rfl:(Instr.index 26 (.agg #[.int .i64 o.a,.int .i64 o.b,.int .i64 o.c,.int .i64 o.d,.int .i64 o.e]) (.int .i64 1)).run Tryz.prog w=.ok (.int .i64 o.b) w)
 |2,_=>exact(by kernel_rfl:(Instr.index 26 (.agg #[.int .i64 o.a,.int .i64 o.b,.int .i64 o.c,.int .i64 o.d,.int .i64 o.e]) (.int .i64 2)).run Tryz.prog w=.ok (.int .i64 o.c) w)
 |3,_=>exact(by kernel_rfl:(Instr.index 26 (.agg #[.int .i64 o.a,.int .i64 o.b,.int .i64 o.c,.int .i64 o.d,.int .i64 o.e]) (.int .i64 3)).run Tryz.prog w=.ok (.int .i64 o.d) w)
 |4,_=>exact(by kernel_rfl:(Instr.index 26 (.agg #[.int .i64 o.a,.int .i64 o.b,.int .i64 o.c,.int .i64 o.d,.int .i64 o.e]) (.int .i64 4)).run Tryz.prog w=.ok (.int .i64 o.e) w)
def ML(s:List Bool):List Value:=s.map Value.bool
theorem cz{s:List Bool}{c:Nat}(h:c<s.length):(ML s)[c]?=some (.bool (s.getD c false)):=by
 unfold ML
 rw[List.getElem?_map,List.getElem?_eq_getElem h,List.getD_eq_getElem?_getD,List.getElem?_eq_getElem h];rfl
theorem Yq(s:List Bool)(c:Nat)(b:Bool):(ML s).set c (.bool b)=ML (s.set c b):=by
 unfold ML;rw[List.map_set]
theorem IB(o:AB)(w:World):Calls Tryz.prog 25 #[.agg #[.int .i64 o.a,.int .i64 o.b,.int .i64 o.c,.int .i64 o.d,.int .i64 o.e]] w fun e w'=>e=.returned (.bool (decide (Fm o)))∧Below w.heap.size w w':=by
 obtain⟨W1,B8,b1,s1,r1,r2⟩:=OU w [.int .i64 o.a,.int .i64 o.b,.int .i64 o.c,.int .i64 o.d,.int .i64 o.e] [.bool false,.bool false,.bool false,.bool false,.bool false] 26 107
 have Ef:=Lib.hid B8
 have HB:=Lib.hid b1
 have JS:=Lib.hid s1
 have LB:Hid (Row W1 (w.heap.size+1) 107 (ML [false,false,false,false,false])):=r2
 have d0:W1.cell? ⟨w.heap.size,0,none⟩=some (.int .i64 o.a):=r1.cell 0
 have d1:W1.cell? ⟨w.heap.size,1,none⟩=some (.int .i64 o.b):=r1.cell 1
 have d2:W1.cell? ⟨w.heap.size,2,none⟩=some (.int .i64 o.c):=r1.cell 2
 have d3:W1.cell? ⟨w.heap.size,3,none⟩=some (.int .i64 o.d):=r1.cell 3
 have d4:W1.cell? ⟨w.heap.size,4,none⟩=some (.int .i64 o.e):=r1.cell 4
 have LO:Hid (∀i,i<5→¬Oo o i→decide (Fm o)=false):=fun i hi h=>decide_eq_false fun hf=>h (hf i hi)
 have dN:Hid ((∀i,i<5→Oo o i)→decide (Fm o)=true):=fun h=>decide_eq_true h
 have HIX:Hid (∀i:Nat,i<5→∀W:World,(Instr.index 26 (.agg #[.int .i64 o.a,.int .i64 o.b,.int .i64 o.c,.int .i64 o.d,.int .i64 o.e]) (.int .i64 (i:Int))).run Tryz.prog W=.ok (.int .i64 (As o i)) W):=fun i hi W=>Pu _ rfl o hi W
 generalize decide (Fm o)=res at*
 clear r1 r2 b1 s1 B8
 go_enter Tryz.func25,Tryz.ntmps25
 go_upto_region 2 with(fail)
 rw[←Ef.out]
 clear Ef
 go_wp2_with fail
 go_loopw [4,8] (fun ev iv wr=>∃(i:Nat) (e:Bool) (s:List Bool),i≤5∧iv=.int .i64 (i:Int)∧ev=.bool e∧Hid (Below w.heap.size w wr)∧Hid (w.heap.size+2≤wr.heap.size)∧Hid (Row wr (w.heap.size+1) 107 (ML s))∧Hid (s.length=5)∧Hid (∀j,j<i→Oo o j)∧Hid (e=true↔∃j,j<i∧As o j=0)∧Hid (∀c,c<5→(s.getD c false=true↔∃j,j<i∧As o j≠0∧B2 (As o j)=c))) (fun _ iv _=>5-(intOf iv).toNat)
 case atStart=>
  refine⟨0,false,[false,false,false,false,false],by omega,rfl,rfl,HB.out,Nat.le_of_eq JS.out.symm,LB.out,rfl,fun j hj=>by omega,⟨fun h=>(by cases h),fun⟨j,hj,_⟩=>(by omega)⟩,fun c hc=>⟨fun h=>?_,fun⟨j,hj,_⟩=>(by omega)⟩⟩
  match c,hc with
  |0,_=>cases h
  |1,_=>cases h
  |2,_=>cases h
  |3,_=>cases h
  |4,_=>cases h
 case round=>
  obtain⟨i,e,s,hi,rfl,rfl,HW,HZ,HR,og,HF,HE,HS⟩:=hrel
  clear HB JS LB
  by_cases hlt:i<5
  ·have g1:decide ((i:Int)<5)=true:=by simp;omega
   have i0:(0:Int)≤(i:Int):=by omega
   have i1:(i:Int)<5:=by omega
   obtain⟨x,hx⟩:∃x,x=As o i:=⟨_,rfl⟩
   have Hx:=Lib.hid hx
   have hix:∀W:World,(Instr.index 26 (.agg #[.int .i64 o.a,.int .i64 o.b,.int .i64 o.c,.int .i64 o.d,.int .i64 o.e]) (.int .i64 (i:Int))).run Tryz.prog W=.ok (.int .i64 x) W:=fun W=>by rw[hx];exact HIX.out i hlt W
   clear hx
   by_cases Ht:x=0
   ·have gx:(x==0)=true:=by simpa using Ht
    have gx':decide (x=0)=true:=by simpa using Ht
    have Oh:Hid (∀j,j<i+1→Oo o j):=fun j hj=>by
     by_cases e:j=i
     ·rw[e];unfold Oo;rw[←Hx.out,Ht];exact⟨by omega,fun k _ h=>absurd rfl h⟩
     ·exact HF.out j (by omega)
    have Mn:Hid (true=true↔∃j,j<i+1∧As o j=0):=⟨fun _=>⟨i,by omega,by rw[←Hx.out,Ht]⟩,fun _=>rfl⟩
    have KK:Hid (∀c,c<5→(s.getD c false=true↔∃j,j<i+1∧As o j≠0∧B2 (As o j)=c)):=fun c hc=>by
     rw[HS.out c hc]
     refine⟨fun⟨j,hj,h⟩=>⟨j,by omega,h⟩,fun⟨j,hj,h⟩=>⟨j,?_,h⟩⟩
     by_cases e:j=i
     ·rw[e,←Hx.out]at h;exact absurd Ht h.1
     ·omega
    clear Ht HF HE HS
    go_wp2
    go_roundw
    case rel=>exact⟨i+1,true,s,by omega,by go_num,rfl,HW.out,HZ.out,HR.out,og.out,Oh.out,Mn.out,KK.out⟩
    case measure=>simp[intOf];omega
   ·have gx:(x==0)=false:=by simpa using Ht
    have gx':decide (x=0)=false:=by simpa using Ht
    cases e with
    |true=>
     have hres:res=false:=LO.out i hlt fun h=>by
      obtain⟨j,hj,h0⟩:=HE.out.1 rfl
      exact(h.2 j hj (by rw[←Hx.out];exact Ht)).1 h0
     subst hres
     clear Ht
     go_wp2
     go_ret
     exact⟨rfl,HW.out⟩
    |false=>
     by_cases h1:x< -5
     ·have hres:res=false:=LO.out i hlt fun h=>by have:=h.1;rw[←Hx.out]at this;omega
      have g2:decide (x< -5)=true:=by simpa using h1
      subst hres
      clear Ht
      go_wp2
      go_ret
      exact⟨rfl,HW.out⟩
     ·have g2:decide (x< -5)=false:=by simpa using h1
      by_cases h2:x>5
      ·have hres:res=false:=LO.out i hlt fun h=>by have:=h.1;rw[←Hx.out]at this;omega
       have g3:decide (x>5)=true:=by simpa using h2
       subst hres
       clear Ht
       go_wp2
       go_ret
       exact⟨rfl,HW.out⟩
      ·have g3:decide (x>5)=false:=by simpa using h2
       have Mx:-5≤x∧x≤5:=⟨by omega,by omega⟩
       have Hrx:=Lib.hid Mx
       have ZD:=Um Ht Mx
       have HQ:=Lib.hid (Wc x Mx)
       rw[K5 Ht]at HQ
       obtain⟨b,hb⟩:∃b,b=s.getD (B2 x) false:=⟨_,rfl⟩
       have cb:wr.cell? ⟨w.heap.size+1,B2 x,none⟩=some (.bool b):=by rw[HR.out.cell,cz (by rw[og.out];exact ZD),hb]
       have fz:=HR.out.free (B2 x)
       have uO:=HS.out (B2 x) ZD
       rw[←hb]at uO
       have k0:(0:Int)≤((B2 x:Nat):Int):=by omega
       have k1:((B2 x:Nat):Int)<5:=by omega
       cases b with
       |true=>
        have hres:res=false:=LO.out i hlt fun h=>by
         obtain⟨j,hj,h0,hk⟩:=uO.1 rfl
         exact(h.2 j hj (by rw[←Hx.out];exact Ht)).2 (by rw[hk,←Hx.out])
        subst hres
        clear Ht h1 h2 uO Mx hb
        generalize B2 x=c at*
        go_wp2_with fail
        refine(HQ.out _).mono ?_;rintro e w2 ⟨rfl,rfl⟩
        go_wp2
        go_ret
        exact⟨rfl,HW.out⟩
       |false=>
        have hne:∀j,j<i→As o j≠0:=fun j hj h=>by have:=HE.out.2 ⟨j,hj,h⟩;cases this
        have Oh:Hid (∀j,j<i+1→Oo o j):=fun j hj=>by
         by_cases e:j=i
         ·rw[e];unfold Oo;rw[←Hx.out]
          exact⟨Mx,fun k hk _=>⟨hne k hk,fun h=>by have:=uO.2 ⟨k,hk,hne k hk,h⟩;cases this⟩⟩
         ·exact HF.out j (by omega)
        have Mn:Hid (false=true↔∃j,j<i+1∧As o j=0):=⟨fun h=>(by cases h),fun⟨j,hj,h⟩=>by
         by_cases e:j=i
         ·rw[e,←Hx.out]at h;exact absurd h Ht
         ·exact absurd h (hne j (by omega))⟩
        have KK:Hid (∀c,c<5→((s.set (B2 x) true).getD c false=true↔∃j,j<i+1∧As o j≠0∧B2 (As o j)=c)):=fun c hc=>by
         rw[List.getD_eq_getElem?_getD,List.getElem?_set]
         by_cases ec:B2 x=c
         ·rw[if_pos ec,if_pos (by have:=og.out;omega)]
          exact⟨fun _=>⟨i,by omega,by rw[←Hx.out];exact Ht,by rw[←Hx.out];exact ec⟩,fun _=>rfl⟩
         ·rw[if_neg ec,←List.getD_eq_getElem?_getD,HS.out c hc]
          refine⟨fun⟨j,hj,h⟩=>⟨j,by omega,h⟩,fun⟨j,hj,h⟩=>⟨j,?_,h⟩⟩
          by_cases e:j=i
          ·rw[e,←Hx.out]at h;exact absurd h.2 ec
          ·omega
        have pK:Hid ((s.set (B2 x) true).length=5):=by unfold Hid;rw[List.length_set];exact og.out
        have IK:Hid (Row (wr.setCell ⟨w.heap.size+1,B2 x,none⟩ (.bool true)) (w.heap.size+1) 107 (ML (s.set (B2 x) true))):=by
         have:=HR.out.set (B2 x) (.bool true)
         rw[Yq]at this
         exact this
        have MQ:Hid (Below w.heap.size w (wr.setCell ⟨w.heap.size+1,B2 x,none⟩ (.bool true))):=HW.out.setCell (p:=⟨w.heap.size+1,B2 x,none⟩) (by simp) _
        have wL:Hid (w.heap.size+2≤(wr.setCell ⟨w.heap.size+1,B2 x,none⟩ (.bool true)).heap.size):=by unfold Hid;simp;exact HZ.out
        clear Ht h1 h2 uO Mx hb hne HF HE HS og HR HW HZ
        generalize s.set (B2 x) true=s2 at*
        generalize B2 x=c at*
        go_wp2_with fail
        refine(HQ.out _).mono ?_;rintro e w2 ⟨rfl,rfl⟩
        go_wp2_with fail
        refine(HQ.out _).mono ?_;rintro e w2 ⟨rfl,rfl⟩
        go_wp2
        go_roundw
        case rel=>exact⟨i+1,false,s2,by omega,by go_num,rfl,MQ.out,wL.out,IK.out,pK.out,Oh.out,Mn.out,KK.out⟩
        case measure=>simp[intOf];omega
  ·have g1:decide ((i:Int)<5)=false:=by simp;omega
   have hres:res=true:=dN.out fun j hj=>HF.out j (by omega)
   subst hres
   go_wp2
   go_ret
   exact⟨rfl,HW.out⟩
theorem Mt(k i g N cap:Nat)(w:World)(PF:0<k)(hk:k≤5)(hn:i*k+k≤N)(hc:N≤cap)(Lr:cap≤1000000):Calls Tryz.prog 127 #[.agg #[.int .i64 k,.slice (some ⟨g,0,none⟩) N cap],.int .i64 i] w fun e w'=>e=.returned (.slice (some ⟨g,i*k,none⟩) k (cap-i*k))∧Below w.heap.size w w':=by
 have Am:=(Below.refl w.heap.size w).alloc (Nat.le_refl _) (.cells #[.int .i64 k,.slice (some ⟨g,0,none⟩) N cap] 159)
 have HB:=Lib.hid Am
 have hr:Row (w.alloc (.cells #[.int .i64 k,.slice (some ⟨g,0,none⟩) N cap] 159)) w.heap.size 159 [.int .i64 k,.slice (some ⟨g,0,none⟩) N cap]:=heap_alloc_new _ _
 have c0:(w.alloc (.cells #[.int .i64 k,.slice (some ⟨g,0,none⟩) N cap] 159)).cell? ⟨w.heap.size,0,none⟩=some (.int .i64 k):=hr.cell 0
 have c1:(w.alloc (.cells #[.int .i64 k,.slice (some ⟨g,0,none⟩) N cap] 159)).cell? ⟨w.heap.size,1,none⟩=some (.slice (some ⟨g,0,none⟩) N cap):=hr.cell 1
 have U6:i≤i*k:=Nat.le_mul_of_pos_right _ PF
 obtain⟨a,ha⟩:∃a,a=i*k:=⟨_,rfl⟩
 have hmul:(i:Int)*(k:Int)=(a:Int):=by rw[ha];exact(Int.natCast_mul i k).symm
 rw[←ha]at hn U6⊢
 obtain⟨u,hu⟩:∃u,u=a+k:=⟨_,rfl⟩
 obtain⟨i1,bX⟩:∃i1,i1=i+1:=⟨_,rfl⟩
 have Ls:(i:Int)+1=(i1:Int):=by omega
 have sU:(i1:Int)*(k:Int)=(u:Int):=by rw[hu,bX,ha,←Int.natCast_mul,Nat.add_mul,Nat.one_mul]
 have rO:u-a=k:=by omega
 have hcut:=fun W=>GA (P:=Tryz.prog) W 123 127 _ Tryz.underlying123 (info_parts MD).choose_spec.1 (info_parts MD).choose_spec.2.2.1 (some ⟨g,0,none⟩) N cap a u (by omega) (by omega) .i64 .i64 (a:Int) (u:Int) rfl rfl
 rw[rO,BU (by omega),Nat.zero_add,Nat.mul_one]at hcut
 have Kx:a≤1000000:=by omega
 have Ew:u≤1000000:=by omega
 have hi2:i≤1000000:=by omega
 have hi3:i1≤1000001:=by omega
 clear hr ha hu rO Am hn bX U6
 go_enter Tryz.func127,Tryz.ntmps127
 go_wp2
 go_ret
 exact⟨rfl,HB.out⟩
theorem WZ{W:World}{g N cap k i:Nat}{ws:List Nat}{t:AB}(hg:Row W g 127 (ws.map vw))(hk:0<k∧k≤5)(hn:i*k+k≤N)(hc:N≤cap)(Lr:cap≤1000000)(hw:N≤ws.length)(ht:(ws.drop (i*k)).take k=Aa k t)(hto:BX t)(hf:Af k t=true):
  Calls Tryz.prog 163 #[.agg #[.int .i64 k,.slice (some ⟨g,0,none⟩) N cap],.int .i64 i] W fun e w'=>e=.returned (.agg #[.int .i64 t.a,.int .i64 t.b,.int .i64 t.c,.int .i64 t.d,.int .i64 t.e])∧Below W.heap.size W w':=by
 obtain⟨W3,e3,b3,s3,r1,r2,r3⟩:=OT W [.int .i64 k,.slice (some ⟨g,0,none⟩) N cap] [.int .i64 0,.int .i64 0,.int .i64 0,.int .i64 0,.int .i64 0] [.int .i64 0,.int .i64 0,.int .i64 0,.int .i64 0,.int .i64 0] 159 63 63
 have MQ:=Lib.hid e3
 have BM:=Lib.hid b3
 have Rr:=Lib.hid s3
 have LB:=Lib.hid r2
 have IK:=Lib.hid r3
 have vC:=Lib.hid (hg.below b3 hg.lt)
 have c0:W3.cell? ⟨W.heap.size,0,none⟩=some (.int .i64 k):=r1.cell 0
 have c1:W3.cell? ⟨W.heap.size,1,none⟩=some (.slice (some ⟨g,0,none⟩) N cap):=r1.cell 1
 have sZ:=hg.lt
 have wh:Hid (g<W.heap.size):=sZ
 have Dr:Hid (∀w,Calls Tryz.prog 127 #[.agg #[.int .i64 k,.slice (some ⟨g,0,none⟩) N cap],.int .i64 i] w fun e w'=>e=.returned (.slice (some ⟨g,i*k,none⟩) k (cap-i*k))∧Below w.heap.size w w'):=fun w=>Mt k i g N cap w hk.1 hk.2 hn hc Lr
 have dw:Hid (Bn k (Aa k t) k=[.int .i64 t.a,.int .i64 t.b,.int .i64 t.c,.int .i64 t.d,.int .i64 t.e]):=by
  unfold Hid;rw[Lz hk.2,NO hk.2 hto hf]
 have MO:Hid (Bn k (Aa k t) 0=[.int .i64 0,.int .i64 0,.int .i64 0,.int .i64 0,.int .i64 0]):=J5 _ _
 have dn:Hid (∀i j,j<5→∃v,(Bn k (Aa k t) i)[j]?=some v):=fun i j hj=>⟨_,List.getElem?_eq_getElem (show j<(Bn k (Aa k t) i).length from hj)⟩
 have Oe:Hid (∀j,j<k→(Bn k (Aa k t) j).set j (.int .i64 (IntKind.i64.wrap ((ws.getD (i*k+j) 0:Nat):Int)))=Bn k (Aa k t) (j+1)):=by
  intro j hj
  rw[←Ly hk.2 _ hj,←ht]
  congr 4
  rw[List.getD_eq_getElem?_getD,List.getD_eq_getElem?_getD,List.getElem?_take,if_pos hj,List.getElem?_drop]
 have R3:Hid (i*k+k≤ws.length):=by unfold Hid;omega
 generalize Bn k (Aa k t)=CC at*
 generalize hoff:i*k=off at*
 replace hoff:=Lib.hid hoff
 obtain⟨TA,TB,TC,TD,TE⟩:=t
 simp only at*
 clear hn ht hto hf e3 b3 s3 r1 r2 r3 hw sZ hg
 go_enter Tryz.func163,Tryz.ntmps163
 go_upto_region 2 with(fail)
 rw[←MQ.out]
 clear MQ
 generalize hS:W.heap.size=s at*
 replace hS:=Lib.hid hS
 go_wp2_with fail
 refine(Dr.out _).mono ?_
 rintro e w4 ⟨rfl,Dp⟩
 have I9:Hid (Below (s+2) W3 w4):=Dp.mono (by rw[Rr.out];omega)
 have dW:Hid (Row w4 (s+2) 63 (CC 0)):=by unfold Hid;rw[MO.out];exact IK.out.below Dp IK.out.lt
 clear Dp IK MO c0 c1
 go_wp2
 go_loopw [6,7,12] (fun _ _ iv wr=>∃j:Nat,j≤k∧iv=.int .i64 (j:Int)∧Hid (Below (s+2) W3 wr)∧Hid (Row wr (s+2) 63 (CC j))) (fun _ _ iv _=>k-(intOf iv).toNat)
 case atStart=>exact⟨0,Nat.zero_le _,rfl,I9.out,dW.out⟩
 case round=>
  obtain⟨j,hj,rfl,HF,Dq⟩:=hrel
  by_cases hlt:j<k
  ·have Km:=Oe.out j hlt
   have Ow:off+j<ws.length:=by have:=R3.out;omega
   have cw:wr.cell? ⟨g,off+j,none⟩=some (.int .u64 (ws.getD (off+j) 0:Nat)):=by
    rw[(vC.out.below HF.out (by have:=wh.out;omega)).cell (off+j)];exact Ij Ow
   obtain⟨v0,ct⟩:=dn.out j j (by omega)
   have ct:wr.cell? ⟨s+2,j,none⟩=some v0:=by rw[Dq.out.cell j];exact ct
   have fg:=Dq.out.free j
   have ES:Hid (Row (wr.setCell ⟨s+2,j,none⟩ (.int .i64 (IntKind.i64.wrap ((ws.getD (off+j) 0:Nat):Int)))) (s+2) 63 (CC (j+1))):=by
    have h1:=Dq.out.set j (.int .i64 (IntKind.i64.wrap ((ws.getD (off+j) 0:Nat):Int)))
    rw[Km]at h1;exact h1
   have KM:Hid (Below (s+2) W3 (wr.setCell ⟨s+2,j,none⟩ (.int .i64 (IntKind.i64.wrap ((ws.getD (off+j) 0:Nat):Int))))):=HF.out.setCell (Nat.le_refl _) _
   have PG:(0:Int)≤(j:Int):=by omega
   have nQ:(j:Int)<(k:Int):=by omega
   have WT:(j:Int)<5:=by omega
   clear Km Ow hj
   generalize ws.getD (off+j) 0=u at*
   obtain⟨z,hz⟩:∃z,IntKind.i64.wrap (u:Int)=z:=⟨_,rfl⟩
   rw[hz]at ES KM
   go_wp2
   go_roundw
   case rel=>exact⟨j+1,by omega,by go_num,KM.out,ES.out⟩
   case measure=>simp[intOf];omega
  ·obtain rfl:j=k:=by omega
   have GS:=Dq.out
   rw[dw.out]at GS
   have d0:=GS.cell 0
   have d1:=GS.cell 1
   have d2:=GS.cell 2
   have d3:=GS.cell 3
   have d4:=GS.cell 4
   simp only[List.getElem?_cons_zero,List.getElem?_cons_succ]at d0 d1 d2 d3 d4
   have Ez:=LB.out.below HF.out (by omega)
   have e0:wr.cell? ⟨s+1,0,none⟩=some (.int .i64 0):=Ez.cell 0
   have e1:wr.cell? ⟨s+1,1,none⟩=some (.int .i64 0):=Ez.cell 1
   have e2:wr.cell? ⟨s+1,2,none⟩=some (.int .i64 0):=Ez.cell 2
   have e3:wr.cell? ⟨s+1,3,none⟩=some (.int .i64 0):=Ez.cell 3
   have e4:wr.cell? ⟨s+1,4,none⟩=some (.int .i64 0):=Ez.cell 4
   have f0:=Ez.free 0
   have f1:=Ez.free 1
   have f2:=Ez.free 2
   have f3:=Ez.free 3
   have f4:=Ez.free 4
   have Ed:Hid (Row (((((wr.setCell ⟨s+1,0,none⟩ (.int .i64 TA)).setCell ⟨s+1,1,none⟩ (.int .i64 TB)).setCell ⟨s+1,2,none⟩ (.int .i64 TC)).setCell ⟨s+1,3,none⟩ (.int .i64 TD)).setCell ⟨s+1,4,none⟩ (.int .i64 TE)) (s+1) 63 [.int .i64 TA,.int .i64 TB,.int .i64 TC,.int .i64 TD,.int .i64 TE]):=((((Ez.set 0 (.int .i64 TA)).set 1 (.int .i64 TB)).set 2 (.int .i64 TC)).set 3 (.int .i64 TD)).set 4 (.int .i64 TE)
   have HB9:Hid (Below s W (((((wr.setCell ⟨s+1,0,none⟩ (.int .i64 TA)).setCell ⟨s+1,1,none⟩ (.int .i64 TB)).setCell ⟨s+1,2,none⟩ (.int .i64 TC)).setCell ⟨s+1,3,none⟩ (.int .i64 TD)).setCell ⟨s+1,4,none⟩ (.int .i64 TE))):=by
    have h1:=BM.out.trans (HF.out.mono (show s≤s+2 by omega))
    exact((((h1.setCell (p:=⟨s+1,0,none⟩) (by show s≤s+1;omega) _).setCell (p:=⟨s+1,1,none⟩) (by show s≤s+1;omega) _).setCell (p:=⟨s+1,2,none⟩) (by show s≤s+1;omega) _).setCell (p:=⟨s+1,3,none⟩) (by show s≤s+1;omega) _).setCell (p:=⟨s+1,4,none⟩) (by show s≤s+1;omega) _
   clear GS Ez
   go_wp2
   have q0:=Ed.out.cell 0
   have q1:=Ed.out.cell 1
   have q2:=Ed.out.cell 2
   have q3:=Ed.out.cell 3
   have q4:=Ed.out.cell 4
   simp only[List.getElem?_cons_zero,List.getElem?_cons_succ]at q0 q1 q2 q3 q4
   refine bodyPost_ret (v:=.agg #[.int .i64 TA,.int .i64 TB,.int .i64 TC,.int .i64 TD,.int .i64 TE]) (by simp[results,Tryz.results163,go_sem,q0,q1,q2,q3,q4]) rfl ⟨rfl,by rw[hS.out];exact HB9.out⟩
theorem fV{W:World}{g N cap k i:Nat}{ws:List Nat}(t:AB)(hg:Row W g 127 (ws.map vw))(hk:0<k∧k≤5)(hn:i*k+k≤N)(hc:N≤cap)(Lr:cap≤1000000)(hw:N≤ws.length):
  Calls Tryz.prog 112 #[.agg #[.int .i64 k,.slice (some ⟨g,0,none⟩) N cap],.int .i64 i,.agg #[.int .i64 t.a,.int .i64 t.b,.int .i64 t.c,.int .i64 t.d,.int .i64 t.e]] W fun e w'=>e=.returned (.tuple #[])∧Row w' g 127 ((splice ws (i*k) (Aa k t)).map vw)∧AL (fun b=>b=g) W w':=by
 obtain⟨W2,e2,b2,s2,r1,r2⟩:=OU W [.int .i64 k,.slice (some ⟨g,0,none⟩) N cap] [.int .i64 t.a,.int .i64 t.b,.int .i64 t.c,.int .i64 t.d,.int .i64 t.e] 159 63
 have qC:=hg.lt
 have hrow:∀w,Calls Tryz.prog 127 #[.agg #[.int .i64 k,.slice (some ⟨g,0,none⟩) N cap],.int .i64 i] w fun e w'=>e=.returned (.slice (some ⟨g,i*k,none⟩) k (cap-i*k))∧Below w.heap.size w w':=fun w=>Mt k i g N cap w hk.1 hk.2 hn hc Lr
 have Pv:=CR hk.2 t
 have jP:Hid (∀j,j<k→∃z,(Ai t)[j]?=some (.int .i64 z)∧(Aa k t)[j]?=some (uw z)):=fun j hj=>by
  have WT:j<t.Bb.length:=by rw[AB.Th];omega
  refine⟨t.Bb[j],?_,?_⟩
  ·have e:Ai t=t.Bb.map (Value.int .i64):=rfl
   rw[e,List.getElem?_map,List.getElem?_eq_getElem WT];rfl
  ·unfold Aa
   rw[List.getElem?_map,List.getElem?_take,if_pos hj,List.getElem?_eq_getElem WT];rfl
 have iu:Hid (∀j z,j<k→(Aa k t)[j]?=some (uw z)→((splice ws (i*k) ((Aa k t).take j)).map vw).set (i*k+j) (.int .u64 (uw z:Nat))=(splice ws (i*k) ((Aa k t).take (j+1))).map vw∧i*k+j<((splice ws (i*k) ((Aa k t).take j)).map vw).length):=fun j z hj hz=>by
  refine⟨?_,?_⟩
  ·rw[←NX ws _ (i*k) j (uw z) hz (by rw[Pv];omega),List.map_set];rfl
  ·rw[List.length_map,AS _ _ _ (by rw[List.length_take,Pv];omega)];omega
 have oh:Hid (ws.map vw=(splice ws (i*k) ((Aa k t).take 0)).map vw):=by unfold Hid splice;simp
 have qU:Hid ((Aa k t).take k=Aa k t):=List.take_of_length_le (by omega)
 have Vb:=Lib.hid e2
 have Bt:=Lib.hid b2
 have KK:=Lib.hid s2
 have ZI:=Lib.hid (hg.below b2 hg.lt)
 have Dr:=Lib.hid hrow
 have Ee:=Lib.hid r1
 have LB:Hid (Row W2 (W.heap.size+1) 63 (Ai t)):=r2
 have wh:=Lib.hid qC
 have Oh:Hid (AL (fun b=>b=g) W W2):=AL.AJ b2 _
 have c0:W2.cell? ⟨W.heap.size,0,none⟩=some (.int .i64 k):=r1.cell 0
 have c1:W2.cell? ⟨W.heap.size,1,none⟩=some (.slice (some ⟨g,0,none⟩) N cap):=r1.cell 1
 generalize Aa k t=WL at*
 generalize hoff:i*k=off at*
 replace hoff:=Lib.hid hoff
 clear Pv hrow e2 b2 s2 r1 r2 hn hw hg qC
 go_enter Tryz.func112,Tryz.ntmps112
 go_upto_region 1 with(fail)
 have e2:=Vb.out
 change W2=(W.alloc (.cells #[.int .i64 k,.slice (some ⟨g,0,none⟩) N cap] 159)).alloc (.cells #[.int .i64 t.a,.int .i64 t.b,.int .i64 t.c,.int .i64 t.d,.int .i64 t.e] 63)at e2
 rw[←e2]
 clear e2 Vb
 generalize hS:W.heap.size=s at*
 replace hS:=Lib.hid hS
 go_wp2_with fail
 refine(Dr.out _).mono ?_
 rintro e w4 ⟨rfl,Dp⟩
 have AA8:=Lib.hid (Ee.out.below Dp Ee.out.lt)
 have AA7:=Lib.hid (LB.out.below Dp LB.out.lt)
 have HG4:Hid (Row w4 g 127 ((splice ws off (WL.take 0)).map vw)):=by unfold Hid;rw[←oh.out];exact ZI.out.below Dp ZI.out.lt
 have HF4:Hid (AL (fun b=>b=g) W w4):=Oh.out.trans (AL.AJ Dp (fun _=>False)) fun _ h=>h.elim
 clear Dp ZI Ee LB oh c0 c1 Bt
 go_wp2
 go_loopw [6,11] (fun _ iv wr=>∃j:Nat,j≤k∧iv=.int .i64 (j:Int)∧Hid (AL (fun b=>b=g) W wr)∧Hid (Row wr s 159 [.int .i64 k,.slice (some ⟨g,0,none⟩) N cap])∧Hid (Row wr (s+1) 63 (Ai t))∧Hid (Row wr g 127 ((splice ws off (WL.take j)).map vw))) (fun _ iv _=>k-(intOf iv).toNat)
 case atStart=>exact⟨0,Nat.zero_le _,rfl,HF4.out,AA8.out,AA7.out,HG4.out⟩
 case round=>
  obtain⟨j,hj,rfl,HF,Yy,oz,dU⟩:=hrel
  by_cases hlt:j<k
  ·obtain⟨z,B3,EX⟩:=jP.out j hlt
   have EX:=Lib.hid EX
   have HK:Hid (∀w9,Below wr.heap.size wr w9→(w9.cell? ⟨s,0,none⟩=some (.int .i64 k)∧w9.cell? ⟨s,1,none⟩=some (.slice (some ⟨g,0,none⟩) N cap)∧w9.cell? ⟨s+1,j,none⟩=some (.int .i64 z))∧Row w9 g 127 ((splice ws off (WL.take j)).map vw)):=fun w9 hb=>by
    have h1:=Yy.out.below hb Yy.out.lt
    have h2:=oz.out.below hb oz.out.lt
    refine⟨⟨h1.cell 0,h1.cell 1,?_⟩,dU.out.below hb dU.out.lt⟩
    rw[h2.cell j];exact B3
   have q1:=(HK.out wr.drew (AG (Below.refl _ _))).1
   have Aw:Hid (∀w9,Below wr.heap.size wr w9→(∃v,w9.cell? ⟨g,off+j,none⟩=some v)∧w9.frozen? ⟨g,off+j,none⟩=false∧AL (fun b=>b=g) W (w9.setCell ⟨g,off+j,none⟩ (.int .u64 (uw z:Nat)))∧Row (w9.setCell ⟨g,off+j,none⟩ (.int .u64 (uw z:Nat))) s 159 [.int .i64 k,.slice (some ⟨g,0,none⟩) N cap]∧Row (w9.setCell ⟨g,off+j,none⟩ (.int .u64 (uw z:Nat))) (s+1) 63 (Ai t)∧Row (w9.setCell ⟨g,off+j,none⟩ (.int .u64 (uw z:Nat))) g 127 ((splice ws off (WL.take (j+1))).map vw)∧((w9.setCell ⟨g,off+j,none⟩ (.int .u64 (uw z:Nat))).cell? ⟨s,0,none⟩=some (.int .i64 k)∧(w9.setCell ⟨g,off+j,none⟩ (.int .u64 (uw z:Nat))).cell? ⟨s,1,none⟩=some (.slice (some ⟨g,0,none⟩) N cap)∧(w9.setCell ⟨g,off+j,none⟩ (.int .u64 (uw z:Nat))).cell? ⟨s+1,j,none⟩=some (.int .i64 z))):=fun w9 hb=>by
    obtain⟨EK,El⟩:=iu.out j z hlt EX.out
    have zA:=(HK.out w9 hb).2
    have kN:g≠s:=by have:=wh.out;omega
    have yu:g≠s+1:=by have:=wh.out;omega
    have zO:=(Yy.out.below hb Yy.out.lt).Cc (p:=⟨g,off+j,none⟩) (fun e=>kN e.symm) (.int .u64 (uw z:Nat))
    have qI:=(oz.out.below hb oz.out.lt).Cc (p:=⟨g,off+j,none⟩) (fun e=>yu e.symm) (.int .u64 (uw z:Nat))
    refine⟨⟨_,by rw[zA.cell (off+j)];exact List.getElem?_eq_getElem El⟩,zA.free _,?_,zO,qI,?_,zO.cell 0,zO.cell 1,by rw[qI.cell j];exact B3⟩
    ·exact(HF.out.trans (AL.AJ hb (fun _=>False)) fun _ h=>h.elim).set (p:=⟨g,off+j,none⟩) (.inl rfl) _
    ·have:=zA.set (off+j) (.int .u64 (uw z:Nat))
     rw[EK]at this;exact this
   have PG:(0:Int)≤(j:Int):=by omega
   have nQ:(j:Int)<(k:Int):=by omega
   have WT:(j:Int)<5:=by omega
   have hzw:IntKind.u64.wrap z=((uw z:Nat):Int):=Vt z
   clear B3
   generalize uw z=u at*
   go_wp2
   go_region_held3 (fun w'=>w'.cell? ⟨s,0,none⟩=some (.int .i64 k)∧w'.cell? ⟨s,1,none⟩=some (.slice (some ⟨g,0,none⟩) N cap)∧w'.cell? ⟨s+1,j,none⟩=some (.int .i64 z)) (first|with_reducible exact q1|with_reducible exact q2|with_reducible exact q3)
    (first
     |(go_at_call 127;(with_reducible refine(Dr.out _).mono ?_);rintro e w5 ⟨rfl,DD⟩;have Jz:Below wr.heap.size wr w5:=(AG (Below.refl _ _)).trans DD;have q2:=(HK.out w5 Jz).1;obtain⟨⟨v9,hv9⟩,hf9,kQ,sD,sC,r9,q3⟩:=Aw.out w5 Jz))
   have H5:=Lib.hid (And.intro kQ (And.intro sD (And.intro sC r9)))
   clear kQ sD sC r9 q2 q3 q1 hv9 hf9 Jz DD
   go_wp2
   go_roundw
   case rel=>exact⟨j+1,by omega,by go_num,H5.out.1,H5.out.2.1,H5.out.2.2.1,H5.out.2.2.2⟩
   case measure=>simp[intOf];omega
  ·obtain rfl:j=k:=by omega
   have ow:=dU.out
   rw[qU.out]at ow
   have H9:=Lib.hid ow
   clear ow
   go_wp2
   go_end0
   exact⟨rfl,H9.out,HF.out⟩
theorem ck(o a b:AB)(hf:Fm o)(w:World):Calls Tryz.prog 53 #[.agg #[.int .i64 a.a,.int .i64 a.b,.int .i64 a.c,.int .i64 a.d,.int .i64 a.e],.agg #[.int .i64 b.a,.int .i64 b.b,.int .i64 b.c,.int .i64 b.d,.int .i64 b.e],.agg #[.int .i64 o.a,.int .i64 o.b,.int .i64 o.c,.int .i64 o.d,.int .i64 o.e]] w fun e w'=>e=.returned (.int .i64 (AO o a b))∧Below w.heap.size w w':=by
 obtain⟨W1,B8,Am,s1,r1,r2,r3⟩:=OT w [.int .i64 a.a,.int .i64 a.b,.int .i64 a.c,.int .i64 a.d,.int .i64 a.e] [.int .i64 b.a,.int .i64 b.b,.int .i64 b.c,.int .i64 b.d,.int .i64 b.e] [.int .i64 o.a,.int .i64 o.b,.int .i64 o.c,.int .i64 o.d,.int .i64 o.e] 63 63 26
 have Ef:=Lib.hid B8
 have HB:=Lib.hid Am
 have HA:Hid (∀q i,i<5→(W1.drewN q).cell? ⟨w.heap.size,i,none⟩=some (.int .i64 (As a i))):=fun q i hi=>Gz r1 hi
 have qp:Hid (∀q i,i<5→(W1.drewN q).cell? ⟨w.heap.size+1,i,none⟩=some (.int .i64 (As b i))):=fun q i hi=>Gz r2 hi
 have d0:W1.cell? ⟨w.heap.size+2,0,none⟩=some (.int .i64 o.a):=r3.cell 0
 have d1:W1.cell? ⟨w.heap.size+2,1,none⟩=some (.int .i64 o.b):=r3.cell 1
 have d2:W1.cell? ⟨w.heap.size+2,2,none⟩=some (.int .i64 o.c):=r3.cell 2
 have d3:W1.cell? ⟨w.heap.size+2,3,none⟩=some (.int .i64 o.d):=r3.cell 3
 have d4:W1.cell? ⟨w.heap.size+2,4,none⟩=some (.int .i64 o.e):=r3.cell 4
 have hres:AO o a b=cmpL o.Bb a b:=by unfold AO;rw[if_pos hf]
 have ou:Hid (∀i,i<5→-5≤As o i∧As o i≤5):=fun i hi=>(hf i hi).1
 have HIX:Hid (∀i:Nat,i<5→∀W:World,(Instr.index 26 (.agg #[.int .i64 o.a,.int .i64 o.b,.int .i64 o.c,.int .i64 o.d,.int .i64 o.e]) (.int .i64 (i:Int))).run Tryz.prog W=.ok (.int .i64 (As o i)) W):=fun i hi W=>Pu _ rfl o hi W
 rw[hres]
 have ES:Hid (cmpL (o.Bb.drop 0) a b=cmpL o.Bb a b):=rfl
 generalize cmpL o.Bb a b=res at*
 clear hf hres r1 r2 r3 Am s1 B8
 go_enter Tryz.func53,Tryz.ntmps53
 go_upto_region 1 with(fail)
 rw[←Ef.out]
 clear Ef
 go_wp2_with fail
 go_loopw [11] (fun iv wr=>∃i q:Nat,i≤5∧iv=.int .i64 (i:Int)∧W1.drewN q=wr∧Hid (cmpL (o.Bb.drop i) a b=res)) (fun iv _=>5-(intOf iv).toNat)
 case atStart=>exact⟨0,0,by omega,rfl,rfl,ES.out⟩
 case round=>
  obtain⟨i,q,hi,rfl,rfl,HC⟩:=hrel
  clear ES
  by_cases hlt:i<5
  ·have g1:decide ((i:Int)<5)=true:=by simp;omega
   have i0:(0:Int)≤(i:Int):=by omega
   have i1:(i:Int)<5:=by omega
   obtain⟨z,hz⟩:∃z,z=As o i:=⟨_,rfl⟩
   have uV:Hid (-5≤z∧z≤5):=by rw[hz];exact ou.out i hlt
   have GY:Hid (cmpL (z::o.Bb.drop (i+1)) a b=res):=by rw[hz,←Wa hlt];exact HC.out
   have hix:∀W:World,(Instr.index 26 (.agg #[.int .i64 o.a,.int .i64 o.b,.int .i64 o.c,.int .i64 o.d,.int .i64 o.e]) (.int .i64 (i:Int))).run Tryz.prog W=.ok (.int .i64 z) W:=fun W=>by rw[hz];exact HIX.out i hlt W
   clear HC hz
   by_cases By:z=0
   ·have gz:(z==0)=true:=by simpa using By
    have tV:decide (z=0)=true:=by simpa using By
    have hr:res=0:=by rw[←GY.out,By,EG]
    subst hr
    clear By
    go_wp2
    go_ret
    exact⟨rfl,Ad HB.out _⟩
   ·have gz:(z==0)=false:=by simpa using By
    have tV:decide (z=0)=false:=by simpa using By
    have ZD:=Um By uV.out
    have HQ:Hid (∀q r,Calls Tryz.prog 54 #[.int .i64 z] (W1.drewN (q+r)) fun e Cq=>e=.returned (.int .i64 (B2 z:Nat))∧∃n,Cq=W1.drewN (q+n)):=fun q r=>by
     have:=Wc z uV.out (W1.drewN (q+r))
     rw[K5 By]at this
     exact this.mono fun _ _ ⟨he,hw⟩=>⟨he,r,hw⟩
    obtain⟨x,hx⟩:∃x,x=As a (B2 z):=⟨_,rfl⟩
    obtain⟨y,hy⟩:∃y,y=As b (B2 z):=⟨_,rfl⟩
    have yx:∀q,(W1.drewN q).cell? ⟨w.heap.size,B2 z,none⟩=some (.int .i64 x):=fun q=>by rw[hx];exact HA.out q _ ZD
    have yy:∀q,(W1.drewN q).cell? ⟨w.heap.size+1,B2 z,none⟩=some (.int .i64 y):=fun q=>by rw[hy];exact qp.out q _ ZD
    have KD:Hid (x=y→cmpL (o.Bb.drop (i+1)) a b=res):=fun h=>by rw[←GY.out,IF By _ (by rw[←hx,←hy];exact h)]
    have IP:Hid (x<y→(if 0<z then (-1:Int)else 1)=res):=fun h=>by rw[←GY.out,EP By _ (by rw[←hx,←hy];exact h)]
    have W8:Hid (y<x→(if 0<z then (1:Int)else -1)=res):=fun h=>by rw[←GY.out,ER By _ (by rw[←hx,←hy];exact h)]
    have lG:Hid (∀v,OQ x y=v→∀q r,Calls Tryz.prog 82 #[.int .i64 x,.int .i64 y] (W1.drewN (q+r)) fun e Cq=>e=.returned (.int .i64 v)∧∃n,Cq=W1.drewN (q+n)):=fun v hv q r=>by
     have:=av x y (W1.drewN (q+r))
     rw[hv]at this
     exact this.mono fun _ _ ⟨he,hw⟩=>⟨he,r,hw⟩
    have k0:(0:Int)≤((B2 z:Nat):Int):=by omega
    have k1:((B2 z:Nat):Int)<5:=by omega
    have ve:0<z∨z<0:=by omega
    generalize B2 z=c at*
    clear hx hy By GY HA qp
    rcases Int.lt_trichotomy x y with h|h|h
    ·have o7:=Lib.hid (lG.out (-1) (by unfold OQ;rw[if_pos h]))
     have hr:=IP.out h
     rcases ve with hp|hp
     ·rw[if_pos hp]at hr
      have gp:decide (z<0)=false:=by simp;omega
      subst hr
      clear h hp IP W8 KD lG
      go_wp2
      go_quiet ((with_reducible first|exact HQ.out _ _|exact o7.out _ _))
      go_wp2
      go_ret
      exact⟨rfl,by first|exact Ad HB.out _|exact Ad (Ad HB.out _) _⟩
     ·rw[if_neg (by omega)]at hr
      have gp:decide (z<0)=true:=by simpa using hp
      subst hr
      clear h hp IP W8 KD lG
      go_wp2
      go_quiet ((with_reducible first|exact HQ.out _ _|exact o7.out _ _))
      go_wp2
      go_ret
      exact⟨rfl,by first|exact Ad HB.out _|exact Ad (Ad HB.out _) _⟩
    ·have o7:=Lib.hid (lG.out 0 (by unfold OQ;rw[if_neg (by omega),if_pos h]))
     have HN:=Lib.hid (KD.out h)
     clear h IP W8 KD lG ve
     go_wp2
     go_quiet ((with_reducible first|exact HQ.out _ _|exact o7.out _ _))
     go_wp2
     go_roundw
     case rel=>exact⟨i+1,_,by omega,by go_num,rfl,HN.out⟩
     case measure=>simp[intOf];omega
    ·have o7:=Lib.hid (lG.out 1 (by unfold OQ;rw[if_neg (by omega),if_neg (by omega)]))
     have hr:=W8.out h
     rcases ve with hp|hp
     ·rw[if_pos hp]at hr
      have gp:decide (z<0)=false:=by simp;omega
      subst hr
      clear h hp IP W8 KD lG
      go_wp2
      go_quiet ((with_reducible first|exact HQ.out _ _|exact o7.out _ _))
      go_wp2
      go_ret
      exact⟨rfl,by first|exact Ad HB.out _|exact Ad (Ad HB.out _) _⟩
     ·rw[if_neg (by omega)]at hr
      have gp:decide (z<0)=true:=by simpa using hp
      subst hr
      clear h hp IP W8 KD lG
      go_wp2
      go_quiet ((with_reducible first|exact HQ.out _ _|exact o7.out _ _))
      go_wp2
      go_ret
      exact⟨rfl,by first|exact Ad HB.out _|exact Ad (Ad HB.out _) _⟩
  ·obtain rfl:i=5:=by omega
   have hr:res=0:=by rw[←HC.out,Tf];rfl
   subst hr
   clear HC
   go_wp2
   go_ret
   exact⟨rfl,Ad HB.out _⟩
theorem M5(o a b:AB)(w:World):Calls Tryz.prog 159 #[.agg #[.int .i64 a.a,.int .i64 a.b,.int .i64 a.c,.int .i64 a.d,.int .i64 a.e],.agg #[.int .i64 b.a,.int .i64 b.b,.int .i64 b.c,.int .i64 b.d,.int .i64 b.e],.agg #[.int .i64 o.a,.int .i64 o.b,.int .i64 o.c,.int .i64 o.d,.int .i64 o.e]] w fun e w'=>e=.returned (.int .i64 (AO o a b))∧Below w.heap.size w w':=by
 obtain⟨W1,B8,Am,s1,r1,r2,r3⟩:=OT w [.int .i64 a.a,.int .i64 a.b,.int .i64 a.c,.int .i64 a.d,.int .i64 a.e] [.int .i64 b.a,.int .i64 b.b,.int .i64 b.c,.int .i64 b.d,.int .i64 b.e] [.int .i64 o.a,.int .i64 o.b,.int .i64 o.c,.int .i64 o.d,.int .i64 o.e] 63 63 26
 have Ef:=Lib.hid B8
 have HB:=Lib.hid Am
 have JS:=Lib.hid s1
 have Ee:=Lib.hid r1
 have LB:=Lib.hid r2
 have IK:=Lib.hid r3
 have d0:W1.cell? ⟨w.heap.size+2,0,none⟩=some (.int .i64 o.a):=r3.cell 0
 have d1:W1.cell? ⟨w.heap.size+2,1,none⟩=some (.int .i64 o.b):=r3.cell 1
 have d2:W1.cell? ⟨w.heap.size+2,2,none⟩=some (.int .i64 o.c):=r3.cell 2
 have d3:W1.cell? ⟨w.heap.size+2,3,none⟩=some (.int .i64 o.d):=r3.cell 3
 have d4:W1.cell? ⟨w.heap.size+2,4,none⟩=some (.int .i64 o.e):=r3.cell 4
 have ZJ:=Lib.hid (IB o)
 by_cases hf:Fm o
 ·have Vk:=Lib.hid (ck o a b hf)
  rw[decide_eq_true hf]at ZJ
  generalize AO o a b=res at*
  clear hf r1 r2 r3 Am s1 B8
  go_enter Tryz.func159,Tryz.ntmps159
  go_upto_region 1 with(fail)
  rw[←Ef.out]
  clear Ef
  go_wp2_with fail
  refine(ZJ.out _).mono ?_;rintro e w2 ⟨rfl,hb⟩
  have A8:Below (w.heap.size+3) W1 w2:=hb.mono (Nat.le_of_eq JS.out.symm)
  have Bt:Hid (Below w.heap.size w w2):=HB.out.trans (hb.mono (by have:=JS.out;omega))
  have Bl:=Ee.out.below A8 (by omega)
  have Av:=LB.out.below A8 (by omega)
  have Cn:=IK.out.below A8 (by omega)
  have q0:w2.cell? ⟨w.heap.size,0,none⟩=some (.int .i64 a.a):=Bl.cell 0
  have q1:w2.cell? ⟨w.heap.size,1,none⟩=some (.int .i64 a.b):=Bl.cell 1
  have q2:w2.cell? ⟨w.heap.size,2,none⟩=some (.int .i64 a.c):=Bl.cell 2
  have q3:w2.cell? ⟨w.heap.size,3,none⟩=some (.int .i64 a.d):=Bl.cell 3
  have q4:w2.cell? ⟨w.heap.size,4,none⟩=some (.int .i64 a.e):=Bl.cell 4
  have p0:w2.cell? ⟨w.heap.size+1,0,none⟩=some (.int .i64 b.a):=Av.cell 0
  have p1:w2.cell? ⟨w.heap.size+1,1,none⟩=some (.int .i64 b.b):=Av.cell 1
  have p2:w2.cell? ⟨w.heap.size+1,2,none⟩=some (.int .i64 b.c):=Av.cell 2
  have p3:w2.cell? ⟨w.heap.size+1,3,none⟩=some (.int .i64 b.d):=Av.cell 3
  have p4:w2.cell? ⟨w.heap.size+1,4,none⟩=some (.int .i64 b.e):=Av.cell 4
  have e0:w2.cell? ⟨w.heap.size+2,0,none⟩=some (.int .i64 o.a):=Cn.cell 0
  have e1:w2.cell? ⟨w.heap.size+2,1,none⟩=some (.int .i64 o.b):=Cn.cell 1
  have e2:w2.cell? ⟨w.heap.size+2,2,none⟩=some (.int .i64 o.c):=Cn.cell 2
  have e3:w2.cell? ⟨w.heap.size+2,3,none⟩=some (.int .i64 o.d):=Cn.cell 3
  have e4:w2.cell? ⟨w.heap.size+2,4,none⟩=some (.int .i64 o.e):=Cn.cell 4
  have KK:Hid (w.heap.size≤w2.heap.size):=Bt.out.size
  clear hb A8 Bl Av Cn Ee LB IK d0 d1 d2 d3 d4
  go_wp2_with fail
  refine(Vk.out _).mono ?_;rintro e w3 ⟨rfl,hb⟩
  have BM:Hid (Below w.heap.size w w3):=Bt.out.trans (hb.mono KK.out)
  clear hb
  go_wp2
  go_ret
  exact⟨rfl,BM.out⟩
 ·have hres:AO o a b=0:=by unfold AO;rw[if_neg hf]
  rw[decide_eq_false hf]at ZJ
  rw[hres]
  clear hf hres r1 r2 r3 Am s1 B8
  go_enter Tryz.func159,Tryz.ntmps159
  go_upto_region 1 with(fail)
  rw[←Ef.out]
  clear Ef
  go_wp2_with fail
  refine(ZJ.out _).mono ?_;rintro e w2 ⟨rfl,hb⟩
  have Bt:Hid (Below w.heap.size w w2):=HB.out.trans (hb.mono (by have:=JS.out;omega))
  clear hb
  go_wp2
  go_ret
  exact⟨rfl,Bt.out⟩
def FZ(k g N cap:Nat)(o:AB)(told:Nat):List Value:=[.int .i64 k,.slice (some ⟨g,0,none⟩) N cap,.int .i64 o.a,.int .i64 o.b,.int .i64 o.c,.int .i64 o.d,.int .i64 o.e,.int .i64 told]
structure EC (W:World) (r k g N cap q:Nat) (o:AB) (told:Nat) (ws:List Nat) (l:List AB):Prop where
 row:Row W r 161 (FZ k g N cap o told)
 words:Row W g 127 (ws.map vw)
 kk:0<k∧k≤5
 nn:N=q*k∧N≤cap∧cap≤1000000∧ws.length=cap∧q≤1000000
 len:l.length=q
 tol:told≤q
 flat:ws.take N=BC k l
 fit:∀u∈l,BX u∧Af k u=true
section
variable {W W' : World} {r k g N cap q told : Nat} {o : AB} {ws : List Nat} {l : List AB}
theorem EC.below(h:EC W r k g N cap q o told ws l)(hb:Below W.heap.size W W'):EC W' r k g N cap q o told ws l:=
 ⟨h.row.below hb h.row.lt,h.words.below hb h.words.lt,h.kk,h.nn,h.len,h.tol,h.flat,h.fit⟩
theorem Ky{k N q:Nat}{ws:List Nat}{l:List AB}(hk:k≤5)(hN:N=q*k)(hl:l.length=q)(hf:ws.take N=BC k l){i:Nat}{t:AB}(ht:l[i]?=some t):i*k+k≤N∧(ws.drop (i*k)).take k=Aa k t:=by
 have hi:i<q:=by rw[←hl];exact(List.getElem?_eq_some_iff.1 ht).1
 have h1:(i+1)*k≤q*k:=Nat.mul_le_mul_right _ hi
 rw[Nat.add_mul,Nat.one_mul]at h1
 refine⟨by omega,?_⟩
 rw[←Ta hk ht,←hf,List.drop_take,List.take_take,Nat.min_eq_left (by omega)]
theorem getD_some{l:List AB}{i:Nat}(h:i<l.length):l[i]?=some (l.getD i AD):=by rw[List.getD_eq_getElem?_getD,List.getElem?_eq_getElem h];rfl
theorem EC.get(h:EC W r k g N cap q o told ws l){i:Nat}(hi:i<q):Calls Tryz.prog 163 #[.agg #[.int .i64 k,.slice (some ⟨g,0,none⟩) N cap],.int .i64 i] W fun e w'=>e=.returned (.agg #[.int .i64 (l.getD i AD).a,.int .i64 (l.getD i AD).b,.int .i64 (l.getD i AD).c,.int .i64 (l.getD i AD).d,.int .i64 (l.getD i AD).e])∧Below W.heap.size W w':=by
 have ht:=getD_some (l:=l) (i:=i) (by rw[h.len];exact hi)
 obtain⟨h1,h2⟩:=Ky h.kk.2 h.nn.1 h.len h.flat ht
 have hf:=h.fit _ (List.mem_of_getElem? ht)
 exact WZ h.words h.kk h1 h.nn.2.1 h.nn.2.2.1 (by rw[h.nn.2.2.2.1];exact h.nn.2.1) h2 hf.1 hf.2
theorem Nc(hr:Row W r 161 (FZ k g N cap o told))(hk:0<k)(hN:N=q*k)(hq:q≤1000000):Calls Tryz.prog 111 #[.pointer (some ⟨r,0,none⟩)] W fun e w'=>e=.returned (.int .i64 q)∧∃d,w'=W.drewN d:=by
 have c0:W.cell? ⟨r,0,none⟩=some (.int .i64 k):=hr.cell 0
 have c1:W.cell? ⟨r,1,none⟩=some (.slice (some ⟨g,0,none⟩) N cap):=hr.cell 1
 have hd:Int.tdiv (N:Int) (k:Int)=(q:Int):=by
  have h1:N/k=q:=by rw[hN];exact Nat.mul_div_cancel _ hk
  rw[←h1];rfl
 have PF:¬((k:Int)=0):=by omega
 clear hr hN
 go_enter Tryz.func111,Tryz.ntmps111
 go_wp2
 go_region
 go_wp2
 go_ret
 exact⟨rfl,1,rfl⟩
theorem SW(h:EC W r k g N cap q o told ws l):Calls Tryz.prog 111 #[.pointer (some ⟨r,0,none⟩)] W fun e w'=>e=.returned (.int .i64 q)∧∃d,w'=W.drewN d:=Nc h.row h.kk.1 h.nn.1 h.nn.2.2.2.2
theorem Xk(h:EC W r k g N cap q o told ws l){i j:Nat}(hi:i<q)(hj:j<q):Calls Tryz.prog 160 #[.pointer (some ⟨r,0,none⟩),.int .i64 i,.int .i64 j] W fun e w'=>e=.returned (.bool (decide (AO o (l.getD i AD) (l.getD j AD)<0)))∧Below W.heap.size W w':=by
 have Q1:Hid (∀d os,Calls Tryz.prog 163 #[.agg #[.int .i64 k,.slice (some ⟨g,0,none⟩) N cap],.int .i64 i] (Sort.grow (redrawn W d) os) fun e Cq=>e=.returned (.agg #[.int .i64 (l.getD i AD).a,.int .i64 (l.getD i AD).b,.int .i64 (l.getD i AD).c,.int .i64 (l.getD i AD).d,.int .i64 (l.getD i AD).e])∧∃p:Regrown,Cq=Sort.grow (redrawn W p.d) p.os):=fun d os=>Calls.regrown_of ((h.below (below_regrown W d os)).get hi)
 have Q2:Hid (∀d os,Calls Tryz.prog 163 #[.agg #[.int .i64 k,.slice (some ⟨g,0,none⟩) N cap],.int .i64 j] (Sort.grow (redrawn W d) os) fun e Cq=>e=.returned (.agg #[.int .i64 (l.getD j AD).a,.int .i64 (l.getD j AD).b,.int .i64 (l.getD j AD).c,.int .i64 (l.getD j AD).d,.int .i64 (l.getD j AD).e])∧∃p:Regrown,Cq=Sort.grow (redrawn W p.d) p.os):=fun d os=>Calls.regrown_of ((h.below (below_regrown W d os)).get hj)
 have Q3:Hid (∀d os,Calls Tryz.prog 159 #[.agg #[.int .i64 (l.getD i AD).a,.int .i64 (l.getD i AD).b,.int .i64 (l.getD i AD).c,.int .i64 (l.getD i AD).d,.int .i64 (l.getD i AD).e],.agg #[.int .i64 (l.getD j AD).a,.int .i64 (l.getD j AD).b,.int .i64 (l.getD j AD).c,.int .i64 (l.getD j AD).d,.int .i64 (l.getD j AD).e],.agg #[.int .i64 o.a,.int .i64 o.b,.int .i64 o.c,.int .i64 o.d,.int .i64 o.e]] (Sort.grow (redrawn W d) os) fun e Cq=>e=.returned (.int .i64 (AO o (l.getD i AD) (l.getD j AD)))∧∃p:Regrown,Cq=Sort.grow (redrawn W p.d) p.os):=fun d os=>Calls.regrown_of (M5 o _ _ _)
 have k0:∀d os,(Sort.grow (redrawn W d) os).cell? ⟨r,0,none⟩=some (.int .i64 k):=cell_regrown (h.row.cell 0)
 have k1:∀d os,(Sort.grow (redrawn W d) os).cell? ⟨r,1,none⟩=some (.slice (some ⟨g,0,none⟩) N cap):=cell_regrown (h.row.cell 1)
 have k2:∀d os,(Sort.grow (redrawn W d) os).cell? ⟨r,2,none⟩=some (.int .i64 o.a):=cell_regrown (h.row.cell 2)
 have k3:∀d os,(Sort.grow (redrawn W d) os).cell? ⟨r,3,none⟩=some (.int .i64 o.b):=cell_regrown (h.row.cell 3)
 have k4:∀d os,(Sort.grow (redrawn W d) os).cell? ⟨r,4,none⟩=some (.int .i64 o.c):=cell_regrown (h.row.cell 4)
 have k5:∀d os,(Sort.grow (redrawn W d) os).cell? ⟨r,5,none⟩=some (.int .i64 o.d):=cell_regrown (h.row.cell 5)
 have k6:∀d os,(Sort.grow (redrawn W d) os).cell? ⟨r,6,none⟩=some (.int .i64 o.e):=cell_regrown (h.row.cell 6)
 generalize l.getD i AD=ti at*
 generalize l.getD j AD=tj at*
 generalize AO o ti tj=res at*
 obtain⟨ia,ib,ic,id,ie⟩:=ti
 obtain⟨ja,jb,jc,jd,je⟩:=tj
 obtain⟨oa,ob,oc,od,oe⟩:=o
 simp only at*
 clear h
 go_enter Tryz.func160,Tryz.ntmps160
 go_wp2
 refine wp_region_quiet_below (by kernel_rfl) (by kernel_rfl) ?_
 repeat(any_goals(first|go_big_quiet_step (with_reducible first|exact Q1.out _ _|exact Q2.out _ _|exact Q3.out _ _)|quiet_step (with_reducible first|exact Q1.out _ _|exact Q2.out _ _|exact Q3.out _ _)))
 refine wpQuiet_nil ?_
 intro w5 EJ
 obtain⟨⟨dq,osq⟩,EJ⟩:=EJ
 have Bu:=below_regrown W dq osq
 rw[←EJ]at Bu
 have HB:=Lib.hid Bu
 clear EJ Bu
 go_wp2
 go_ret
 exact⟨rfl,HB.out⟩
theorem Xj(h:EC W r k g N cap q o q ws l):Calls Tryz.prog 161 #[.pointer (some ⟨r,0,none⟩)] W fun e w'=>e=.returned (.tuple #[.agg #[.int .i64 0,.int .i64 0,.int .i64 0,.int .i64 0,.int .i64 0],.bool false,.int .i64 0])∧Below W.heap.size W w':=by
 obtain⟨W1,B8⟩:∃W1,W1=W.alloc (.cells #[.int .i64 0,.int .i64 0,.int .i64 0,.int .i64 0,.int .i64 0] 63):=⟨_,rfl⟩
 have Am:Below W.heap.size W W1:=by rw[B8];exact(Below.refl _ _).alloc (Nat.le_refl _) _
 have Bl:Row W1 W.heap.size 63 [.int .i64 0,.int .i64 0,.int .i64 0,.int .i64 0,.int .i64 0]:=by rw[B8];exact heap_alloc_new _ _
 have Ef:=Lib.hid B8
 have LG:=Lib.hid Am
 have Ee:=Lib.hid Bl
 have h1:=h.below Am
 have HL:Hid (∀p,Calls Tryz.prog 111 #[.pointer (some ⟨r,0,none⟩)] (W1.drewN p) fun e w'=>e=.returned (.int .i64 q)∧∃d,w'=W1.drewN d):=fun p=>(SW (h1.below (AF (Below.refl _ _) p))).mono fun e w' ⟨he,d,hw⟩=>⟨he,p+d,by rw[hw,World.drewN_drewN]⟩
 have c7:W1.cell? ⟨r,7,none⟩=some (.int .i64 q):=h1.row.cell 7
 clear h h1 Am Bl B8
 go_enter Tryz.func161,Tryz.ntmps161
 go_upto_region 1 with(fail)
 rw[←Ef.out]
 clear Ef
 go_quiet (with_reducible exact HL.out _)
 have FH:Row (W1.drewN nq) W.heap.size 63 [.int .i64 0,.int .i64 0,.int .i64 0,.int .i64 0,.int .i64 0]:=Ee.out.drewN nq
 have I9:Hid (Below W.heap.size W (W1.drewN nq)):=AF LG.out nq
 clear c7 HL LG Ee
 generalize W1.drewN nq=W4 at*
 generalize hS:W.heap.size=s at*
 have z0:W4.cell? ⟨s,0,none⟩=some (.int .i64 0):=FH.cell 0
 have z1:W4.cell? ⟨s,1,none⟩=some (.int .i64 0):=FH.cell 1
 have z2:W4.cell? ⟨s,2,none⟩=some (.int .i64 0):=FH.cell 2
 have z3:W4.cell? ⟨s,3,none⟩=some (.int .i64 0):=FH.cell 3
 have z4:W4.cell? ⟨s,4,none⟩=some (.int .i64 0):=FH.cell 4
 have f0:=FH.free 0
 have f1:=FH.free 1
 have f2:=FH.free 2
 have f3:=FH.free 3
 have f4:=FH.free 4
 have Ed:=Lib.hid (((((FH.set 0 (.int .i64 0)).set 1 (.int .i64 0)).set 2 (.int .i64 0)).set 3 (.int .i64 0)).set 4 (.int .i64 0))
 have HB9:=Lib.hid (CD I9.out (Nat.le_refl s) 0 (.int .i64 0) (.int .i64 0) (.int .i64 0) (.int .i64 0) (.int .i64 0))
 clear FH
 go_wp2
 have q0:=Ed.out.cell 0
 have q1:=Ed.out.cell 1
 have q2:=Ed.out.cell 2
 have q3:=Ed.out.cell 3
 have q4:=Ed.out.cell 4
 simp only[List.getElem?_cons_zero,List.getElem?_cons_succ,List.set_cons_zero,List.set_cons_succ]at q0 q1 q2 q3 q4
 refine bodyPost_ret (v:=.tuple #[.agg #[.int .i64 0,.int .i64 0,.int .i64 0,.int .i64 0,.int .i64 0],.bool false,.int .i64 0]) (by simp[results,Tryz.results161,go_sem,q0,q1,q2,q3,q4]) rfl ⟨rfl,by rw[hS];exact HB9.out⟩
theorem Z9(h:EC W r k g N cap q o told ws l)(ht:told<q)(YH:r≠g):Calls Tryz.prog 161 #[.pointer (some ⟨r,0,none⟩)] W fun e w'=>e=.returned (.tuple #[.agg #[.int .i64 (l.getD told AD).a,.int .i64 (l.getD told AD).b,.int .i64 (l.getD told AD).c,.int .i64 (l.getD told AD).d,.int .i64 (l.getD told AD).e],.bool true,.int .i64 0])∧EC w' r k g N cap q o (told+1) ws l∧AL (fun b=>b=r) W w':=by
 obtain⟨W1,B8⟩:∃W1,W1=W.alloc (.cells #[.int .i64 0,.int .i64 0,.int .i64 0,.int .i64 0,.int .i64 0] 63):=⟨_,rfl⟩
 have Am:Below W.heap.size W W1:=by rw[B8];exact(Below.refl _ _).alloc (Nat.le_refl _) _
 have Bl:Row W1 W.heap.size 63 [.int .i64 0,.int .i64 0,.int .i64 0,.int .i64 0,.int .i64 0]:=by rw[B8];exact heap_alloc_new _ _
 have Ef:=Lib.hid B8
 have LG:=Lib.hid Am
 have Ee:=Lib.hid Bl
 have h1:=h.below Am
 have qh:=Lib.hid h1
 have IP:Hid (r<W.heap.size∧g<W.heap.size):=⟨h.row.lt,h.words.lt⟩
 have HL:Hid (∀p,Calls Tryz.prog 111 #[.pointer (some ⟨r,0,none⟩)] (W1.drewN p) fun e w'=>e=.returned (.int .i64 q)∧∃d,w'=W1.drewN d):=fun p=>(SW (h1.below (AF (Below.refl _ _) p))).mono fun e w' ⟨he,d,hw⟩=>⟨he,p+d,by rw[hw,World.drewN_drewN]⟩
 have c7:W1.cell? ⟨r,7,none⟩=some (.int .i64 told):=h1.row.cell 7
 have g1:((told:Int)==(q:Int))=false:=by simp;omega
 have hq:told<1000000:=by have:=h.nn.2.2.2.2;omega
 have HTQ:=Lib.hid ht
 have dU:=Lib.hid YH
 clear h h1 Am Bl B8 ht YH
 go_enter Tryz.func161,Tryz.ntmps161
 go_upto_region 1 with(fail)
 rw[←Ef.out]
 clear Ef
 go_quiet (with_reducible exact HL.out _)
 have dW:Hid (Row (W1.drewN nq) W.heap.size 63 [.int .i64 0,.int .i64 0,.int .i64 0,.int .i64 0,.int .i64 0]):=Ee.out.drewN nq
 have I9:Hid (Below W.heap.size W (W1.drewN nq)):=AF LG.out nq
 have H4:Hid (EC (W1.drewN nq) r k g N cap q o told ws l):=qh.out.below (AF (Below.refl _ _) nq)
 clear c7 HL LG Ee qh
 generalize W1.drewN nq=W4 at*
 generalize hS:W.heap.size=s at*
 have pM:Hid (∀w9,Below W4.heap.size W4 w9→Calls Tryz.prog 163 #[.agg #[.int .i64 k,.slice (some ⟨g,0,none⟩) N cap],.int .i64 told] w9 fun e w'=>e=.returned (.agg #[.int .i64 (l.getD told AD).a,.int .i64 (l.getD told AD).b,.int .i64 (l.getD told AD).c,.int .i64 (l.getD told AD).d,.int .i64 (l.getD told AD).e])∧Below w9.heap.size w9 w'):=fun w9 hb=>(H4.out.below hb).get HTQ.out
 have HK:Hid (∀w9,Below W4.heap.size W4 w9→w9.cell? ⟨r,0,none⟩=some (.int .i64 k)∧w9.cell? ⟨r,1,none⟩=some (.slice (some ⟨g,0,none⟩) N cap)∧w9.cell? ⟨r,7,none⟩=some (.int .i64 told)):=fun w9 hb=>⟨(H4.out.row.below hb H4.out.row.lt).cell 0,(H4.out.row.below hb H4.out.row.lt).cell 1,(H4.out.row.below hb H4.out.row.lt).cell 7⟩
 have q1:=HK.out W4.drew (AG (Below.refl _ _))
 have c7:W4.cell? ⟨r,7,none⟩=some (.int .i64 told):=H4.out.row.cell 7
 generalize hT:l.getD told AD=t at*
 replace hT:=Lib.hid hT
 obtain⟨ta,tb,tc,td,te⟩:=t
 simp only at*
 have iA:Below W4.heap.size W4 (W4.alloc (.cells #[.int .i64 0,.int .i64 0,.int .i64 0,.int .i64 0,.int .i64 0] 63)):=(Below.refl _ _).alloc (Nat.le_refl _) _
 have q5:=HK.out (W4.alloc (.cells #[.int .i64 0,.int .i64 0,.int .i64 0,.int .i64 0,.int .i64 0] 63)) iA
 have q6:=HK.out (W4.alloc (.cells #[.int .i64 0,.int .i64 0,.int .i64 0,.int .i64 0,.int .i64 0] 63)).drew (AG iA)
 have HZ:Hid (∀w9,Below (W4.alloc (.cells #[.int .i64 0,.int .i64 0,.int .i64 0,.int .i64 0,.int .i64 0] 63)).heap.size (W4.alloc (.cells #[.int .i64 0,.int .i64 0,.int .i64 0,.int .i64 0,.int .i64 0] 63)) w9→Row w9 W4.heap.size 63 [.int .i64 0,.int .i64 0,.int .i64 0,.int .i64 0,.int .i64 0]):=fun w9 hb=>(show Row (W4.alloc (.cells #[.int .i64 0,.int .i64 0,.int .i64 0,.int .i64 0,.int .i64 0] 63)) W4.heap.size 63 [.int .i64 0,.int .i64 0,.int .i64 0,.int .i64 0,.int .i64 0]from heap_alloc_new _ _).below hb (by simp)
 go_upto_region 3 with(fail)
 go_cut [5]from 14 to 22 (fun s5 wx=>∃b:Nat,s5=.pointer (some ⟨b,0,none⟩)∧W4.heap.size≤b∧Hid (Row wx b 63 [.int .i64 ta,.int .i64 tb,.int .i64 tc,.int .i64 td,.int .i64 te])∧Hid (Below W4.heap.size W4 wx))
 case first=>
  go_region_held3 (fun w'=>w'.cell? ⟨r,0,none⟩=some (.int .i64 k)∧w'.cell? ⟨r,1,none⟩=some (.slice (some ⟨g,0,none⟩) N cap)∧w'.cell? ⟨r,7,none⟩=some (.int .i64 told)) (first|with_reducible exact q1|with_reducible exact q5|with_reducible exact q6|with_reducible exact q2|with_reducible exact q3|with_reducible exact q4)
   (first
    |(go_at_call 163;(with_reducible refine(pM.out _ (AG (Below.refl _ _))).mono ?_);rintro e w5 ⟨rfl,DD⟩;have Jz:Below W4.heap.size W4 w5:=(AG (Below.refl _ _)).trans DD;have q2:=HK.out w5 Jz;have q4:=HK.out (w5.alloc (.cells #[.int .i64 0,.int .i64 0,.int .i64 0,.int .i64 0,.int .i64 0] 63)) (Jz.alloc Jz.size _);have q3:=HK.out (w5.alloc (.cells #[.int .i64 ta,.int .i64 tb,.int .i64 tc,.int .i64 td,.int .i64 te] 63)) (Jz.alloc Jz.size _);have Hv:Hid (W4.heap.size≤w5.heap.size∧Row (w5.alloc (.cells #[.int .i64 ta,.int .i64 tb,.int .i64 tc,.int .i64 td,.int .i64 te] 63)) w5.heap.size 63 [.int .i64 ta,.int .i64 tb,.int .i64 tc,.int .i64 td,.int .i64 te]∧Below W4.heap.size W4 (w5.alloc (.cells #[.int .i64 ta,.int .i64 tb,.int .i64 tc,.int .i64 td,.int .i64 te] 63))):=⟨Jz.size,heap_alloc_new _ _,Jz.alloc Jz.size _⟩)
    |(go_at_call 163;(with_reducible refine(pM.out _ (AG iA)).mono ?_);rintro e w5 ⟨rfl,DD⟩;have tC:Below (W4.alloc (.cells #[.int .i64 0,.int .i64 0,.int .i64 0,.int .i64 0,.int .i64 0] 63)).heap.size (W4.alloc (.cells #[.int .i64 0,.int .i64 0,.int .i64 0,.int .i64 0,.int .i64 0] 63)) w5:=(AG (Below.refl _ _)).trans DD;have Jz:Below W4.heap.size W4 w5:=iA.trans (tC.mono iA.size);have q2:=HK.out w5 Jz;have Tz:=HZ.out w5 tC;have z0:=Tz.cell 0;have z1:=Tz.cell 1;have z2:=Tz.cell 2;have z3:=Tz.cell 3;have z4:=Tz.cell 4;simp only[List.getElem?_cons_zero,List.getElem?_cons_succ]at z0 z1 z2 z3 z4;have f0:=Tz.free 0;have f1:=Tz.free 1;have f2:=Tz.free 2;have f3:=Tz.free 3;have f4:=Tz.free 4;have q4:=q2;have kR:=CD Jz (Nat.le_refl W4.heap.size) 0 (.int .i64 ta) (.int .i64 tb) (.int .i64 tc) (.int .i64 td) (.int .i64 te);have q3:=HK.out (((((w5.setCell ⟨W4.heap.size,0,none⟩ (.int .i64 ta)).setCell ⟨W4.heap.size,1,none⟩ (.int .i64 tb)).setCell ⟨W4.heap.size,2,none⟩ (.int .i64 tc)).setCell ⟨W4.heap.size,3,none⟩ (.int .i64 td)).setCell ⟨W4.heap.size,4,none⟩ (.int .i64 te)) kR;have Hv:Hid (W4.heap.size≤W4.heap.size∧Row (((((w5.setCell ⟨W4.heap.size,0,none⟩ (.int .i64 ta)).setCell ⟨W4.heap.size,1,none⟩ (.int .i64 tb)).setCell ⟨W4.heap.size,2,none⟩ (.int .i64 tc)).setCell ⟨W4.heap.size,3,none⟩ (.int .i64 td)).setCell ⟨W4.heap.size,4,none⟩ (.int .i64 te)) W4.heap.size 63 [.int .i64 ta,.int .i64 tb,.int .i64 tc,.int .i64 td,.int .i64 te]∧Below W4.heap.size W4 (((((w5.setCell ⟨W4.heap.size,0,none⟩ (.int .i64 ta)).setCell ⟨W4.heap.size,1,none⟩ (.int .i64 tb)).setCell ⟨W4.heap.size,2,none⟩ (.int .i64 tc)).setCell ⟨W4.heap.size,3,none⟩ (.int .i64 td)).setCell ⟨W4.heap.size,4,none⟩ (.int .i64 te))):=⟨Nat.le_refl _,((((Tz.set 0 (.int .i64 ta)).set 1 (.int .i64 tb)).set 2 (.int .i64 tc)).set 3 (.int .i64 td)).set 4 (.int .i64 te),kR⟩))
  all_goals(go_wp2_with fail;go_meet;exact⟨_,rfl,Hv.out.1,Hv.out.2.1,Hv.out.2.2⟩)
 case rest=>
  obtain⟨b,rfl,hWb,HRb,qp⟩:=hcut
  clear q1 q5 q6 iA HZ pM HK c7 g1
  have h6:=H4.out.below qp.out
  have AD9:=IP.out
  have TH:s≤W4.heap.size:=by rw[←hS];exact I9.out.size
  have x9:s<W4.heap.size:=dW.out.lt
  have hbr:b≠r:=by omega
  have YG:s≠r:=by omega
  have Gp:g≠r:=fun e=>dU.out e.symm
  have c7:wc.cell? ⟨r,7,none⟩=some (.int .i64 told):=h6.row.cell 7
  have f7:=h6.row.free 7
  have Lp:(FZ k g N cap o told).set 7 (.int .i64 ((told:Int)+1))=FZ k g N cap o (told+1):=rfl
  have Ez:=h6.row.set 7 (.int .i64 ((told:Int)+1))
  rw[Lp]at Ez
  have H6:Hid (EC (wc.setCell ⟨r,7,none⟩ (.int .i64 ((told:Int)+1))) r k g N cap q o (told+1) ws l):=⟨Ez,h6.words.Cc (p:=⟨r,7,none⟩) Gp _,h6.kk,h6.nn,h6.len,by have:=HTQ.out;omega,h6.flat,h6.fit⟩
  have Yx:=Lib.hid (HRb.out.Cc (p:=⟨r,7,none⟩) hbr (.int .i64 ((told:Int)+1)))
  have Mm:=Lib.hid ((dW.out.below qp.out x9).Cc (p:=⟨r,7,none⟩) YG (.int .i64 ((told:Int)+1)))
  have jK:Hid (AL (fun b=>b=r) W (wc.setCell ⟨r,7,none⟩ (.int .i64 ((told:Int)+1)))):=by
   have h0:AL (fun b=>b=r) W wc:=AL.AJ (by rw[hS];exact I9.out.trans (qp.out.mono TH)) _
   exact h0.set (p:=⟨r,7,none⟩) (.inl rfl) _
  clear h6 Ez Lp
  go_upto_region 5 with(fail)
  generalize wc.setCell ⟨r,7,none⟩ (.int .i64 ((told:Int)+1))=W6 at*
  have d0:W6.cell? ⟨b,0,none⟩=some (.int .i64 ta):=Yx.out.cell 0
  have d1:W6.cell? ⟨b,1,none⟩=some (.int .i64 tb):=Yx.out.cell 1
  have d2:W6.cell? ⟨b,2,none⟩=some (.int .i64 tc):=Yx.out.cell 2
  have d3:W6.cell? ⟨b,3,none⟩=some (.int .i64 td):=Yx.out.cell 3
  have d4:W6.cell? ⟨b,4,none⟩=some (.int .i64 te):=Yx.out.cell 4
  have z0:W6.cell? ⟨s,0,none⟩=some (.int .i64 0):=Mm.out.cell 0
  have z1:W6.cell? ⟨s,1,none⟩=some (.int .i64 0):=Mm.out.cell 1
  have z2:W6.cell? ⟨s,2,none⟩=some (.int .i64 0):=Mm.out.cell 2
  have z3:W6.cell? ⟨s,3,none⟩=some (.int .i64 0):=Mm.out.cell 3
  have z4:W6.cell? ⟨s,4,none⟩=some (.int .i64 0):=Mm.out.cell 4
  have f0:=Mm.out.free 0
  have f1:=Mm.out.free 1
  have f2:=Mm.out.free 2
  have f3:=Mm.out.free 3
  have f4:=Mm.out.free 4
  have Ed:=Lib.hid (((((Mm.out.set 0 (.int .i64 ta)).set 1 (.int .i64 tb)).set 2 (.int .i64 tc)).set 3 (.int .i64 td)).set 4 (.int .i64 te))
  have wg:Hid (EC (((((W6.setCell ⟨s,0,none⟩ (.int .i64 ta)).setCell ⟨s,1,none⟩ (.int .i64 tb)).setCell ⟨s,2,none⟩ (.int .i64 tc)).setCell ⟨s,3,none⟩ (.int .i64 td)).setCell ⟨s,4,none⟩ (.int .i64 te)) r k g N cap q o (told+1) ws l):=by
   have e1:r≠s:=fun e=>YG e.symm
   have e2:g≠s:=by omega
   have h:=H6.out
   exact⟨((((h.row.Cc (p:=⟨s,0,none⟩) e1 _).Cc (p:=⟨s,1,none⟩) e1 _).Cc (p:=⟨s,2,none⟩) e1 _).Cc (p:=⟨s,3,none⟩) e1 _).Cc (p:=⟨s,4,none⟩) e1 _,((((h.words.Cc (p:=⟨s,0,none⟩) e2 _).Cc (p:=⟨s,1,none⟩) e2 _).Cc (p:=⟨s,2,none⟩) e2 _).Cc (p:=⟨s,3,none⟩) e2 _).Cc (p:=⟨s,4,none⟩) e2 _,h.kk,h.nn,h.len,h.tol,h.flat,h.fit⟩
  have LQ:Hid (AL (fun b=>b=r) W (((((W6.setCell ⟨s,0,none⟩ (.int .i64 ta)).setCell ⟨s,1,none⟩ (.int .i64 tb)).setCell ⟨s,2,none⟩ (.int .i64 tc)).setCell ⟨s,3,none⟩ (.int .i64 td)).setCell ⟨s,4,none⟩ (.int .i64 te))):=by
   have hn:∀j,(fun b=>b=r) (⟨s,j,none⟩:Addr).block∨W.heap.size≤(⟨s,j,none⟩:Addr).block:=fun j=>.inr (by rw[hS];exact Nat.le_refl _)
   exact((((jK.out.set (hn 0) _).set (hn 1) _).set (hn 2) _).set (hn 3) _).set (hn 4) _
  clear Yx Mm
  go_wp2
  have q0:=Ed.out.cell 0
  have q1:=Ed.out.cell 1
  have q2:=Ed.out.cell 2
  have q3:=Ed.out.cell 3
  have q4:=Ed.out.cell 4
  simp only[List.getElem?_cons_zero,List.getElem?_cons_succ,List.set_cons_zero,List.set_cons_succ]at q0 q1 q2 q3 q4
  refine bodyPost_ret (v:=.tuple #[.agg #[.int .i64 ta,.int .i64 tb,.int .i64 tc,.int .i64 td,.int .i64 te],.bool true,.int .i64 0]) (by simp[results,Tryz.results161,go_sem,q0,q1,q2,q3,q4]) rfl ⟨by rw[hT.out],wg.out,LQ.out⟩
end
theorem IC{k:Nat}(hk:k≤5):∀(l:List AB) (ws:List Nat),l.length*k≤ws.length→(∀p,p<l.length→(ws.drop (p*k)).take k=Aa k (l.getD p AD))→ws.take (l.length*k)=BC k l
 |[],ws,_,_=>by simp[BC]
 |t::l,ws,hw,h=>by
  rw[List.length_cons,Nat.add_mul,Nat.one_mul]at hw
  have h0:=h 0 (by simp)
  rw[Nat.zero_mul,List.drop_zero]at h0
  have ih:=IC hk l (ws.drop k) (by rw[List.length_drop];omega) fun p hp=>by
   have:=h (p+1) (by simpa using hp)
   rw[List.drop_drop,show k+p*k=(p+1)*k by rw[Nat.add_mul,Nat.one_mul];omega,this];rfl
  show ws.take ((l.length+1)*k)=Aa k t++BC k l
  rw[←ih,show Aa k t=ws.take k from h0.symm,Nat.add_mul,Nat.one_mul,Nat.add_comm,List.take_add]
theorem Q6{ws Bz:List Nat}{a b k:Nat}(ha:a+k≤Bz.length)(hb:b+k≤ws.length)(h:∀c,c<k→Bz.getD (a+c) 0=ws.getD (b+c) 0):(Bz.drop a).take k=(ws.drop b).take k:=by
 refine List.ext_getElem (by rw[List.length_take,List.length_take,List.length_drop,List.length_drop];omega) fun c h1 h2=>?_
 rw[List.length_take,List.length_drop]at h1
 have:=h c (by omega)
 rw[List.getD_eq_getElem?_getD,List.getD_eq_getElem?_getD,List.getElem?_eq_getElem (show a+c<Bz.length by omega),List.getElem?_eq_getElem (show b+c<ws.length by omega)]at this
 rw[List.getElem_take,List.getElem_take,List.getElem_drop,List.getElem_drop]
 exact this
def PO(ws Bz:List Nat)(a b c:Nat):Prop:=Bz.length=ws.length∧∀p,Bz.getD p 0=if a≤p∧p<a+c then ws.getD (b+(p-a)) 0 else if b≤p∧p<b+c then ws.getD (a+(p-b)) 0 else ws.getD p 0
theorem UO(ws:List Nat)(a b:Nat):PO ws ws a b 0:=⟨rfl,fun p=>by rw[if_neg (by omega),if_neg (by omega)]⟩
theorem XQ{ws Bz:List Nat}{a b c k:Nat}(h:PO ws Bz a b c)(hc:c<k)(hd:a+k≤b∨b+k≤a)(ha:a+k≤ws.length)(hb:b+k≤ws.length):PO ws ((Bz.set (a+c) (Bz.getD (b+c) 0)).set (b+c) (Bz.getD (a+c) 0)) a b (c+1):=by
 obtain⟨h1,h2⟩:=h
 refine⟨by rw[List.length_set,List.length_set,h1],fun p=>?_⟩
 rw[List.getD_eq_getElem?_getD,List.getElem?_set,List.getElem?_set,List.length_set]
 by_cases c1:b+c=p
 ·rw[if_pos c1,if_pos (by omega),Option.getD_some,h2,if_neg (by omega),if_neg (by omega),if_neg (by omega),if_pos (by omega),show p-b=c by omega]
 ·rw[if_neg c1]
  by_cases c2:a+c=p
  ·rw[if_pos c2,if_pos (by omega),Option.getD_some,h2,if_neg (by omega),if_neg (by omega),if_pos (by omega),show p-a=c by omega]
  ·rw[if_neg c2,←List.getD_eq_getElem?_getD,h2]
   by_cases c3:a≤p∧p<a+c
   ·rw[if_pos c3,if_pos (by omega)]
   ·rw[if_neg c3,if_neg (show ¬(a≤p∧p<a+(c+1))by omega)]
    by_cases c4:b≤p∧p<b+c
    ·rw[if_pos c4,if_pos (by omega)]
    ·rw[if_neg c4,if_neg (by omega)]
section
variable {W W' : World} {r k g N cap q told : Nat} {o : AB} {ws : List Nat} {l : List AB}
theorem Zh{ws Bz:List Nat}{i j:Nat}(hk:k≤5)(hl:l.length=q)(hw:q*k≤ws.length)(hf:ws.take (q*k)=BC k l)(hi:i<q)(hj:j<q)(Fq:i≠j)(h:PO ws Bz (i*k) (j*k) k):Bz.take (q*k)=BC k (swp AD l i j):=by
 obtain⟨h1,h2⟩:=h
 have hlen:(swp AD l i j).length=q:=CG.trans hl
 have hrow:∀p,p<q→(ws.drop (p*k)).take k=Aa k (l.getD p AD):=fun p hp=>(Ky hk rfl hl hf (getD_some (by omega))).2
 have hle:∀p,p<q→p*k+k≤q*k:=fun p hp=>by
  have:=Nat.mul_le_mul_right k (show p+1≤q from hp)
  rw[Nat.add_mul,Nat.one_mul]at this;exact this
 have bI:∀p p',p≠p'→p*k+k≤p'*k∨p'*k+k≤p*k:=fun p p' hne=>by
  rcases Nat.lt_or_gt_of_ne hne with hlt|hlt
  ·left
   have:=Nat.mul_le_mul_right k (show p+1≤p' from hlt)
   rw[Nat.add_mul,Nat.one_mul]at this;exact this
  ·right
   have:=Nat.mul_le_mul_right k (show p'+1≤p from hlt)
   rw[Nat.add_mul,Nat.one_mul]at this;exact this
 have hres:=IC hk (swp AD l i j) Bz (by rw[hlen,h1];exact hw) fun p hp=>by
  rw[hlen]at hp
  have hp1:=hle p hp
  rw[B0 (by omega) (by omega)]
  by_cases c1:p=j
  ·rw[if_pos c1,←hrow i hi]
   refine Q6 (by omega) (by have:=hle i hi;omega) fun c hc=>?_
   rw[h2,if_neg (by have:=bI i j Fq;rw[c1];omega),if_pos (by rw[c1];omega),show p*k+c-j*k=c by rw[c1];omega]
  ·rw[if_neg c1]
   by_cases c2:p=i
   ·rw[if_pos c2,←hrow j hj]
    refine Q6 (by omega) (by have:=hle j hj;omega) fun c hc=>?_
    rw[h2,if_pos (by rw[c2];omega),show p*k+c-i*k=c by rw[c2];omega]
   ·rw[if_neg c2,←hrow p hp]
    refine Q6 (by omega) (by omega) fun c hc=>?_
    rw[h2,if_neg (by have:=bI p i c2;omega),if_neg (by have:=bI p j c1;omega)]
 rw[hlen]at hres
 exact hres
theorem Xe(h:EC W r k g N cap q o told ws l){i j:Nat}(hi:i<q)(hj:j<q)(Fq:i≠j)(YH:r≠g):Calls Tryz.prog 162 #[.pointer (some ⟨r,0,none⟩),.int .i64 i,.int .i64 j] W fun e w'=>e=.returned (.tuple #[])∧(∃Bz,EC w' r k g N cap q o told Bz (swp AD l i j))∧AL (fun b=>b=g) W w':=by
 have hle:∀p,p<q→p*k+k≤N:=fun p hp=>by
  have:=Nat.mul_le_mul_right k (show p+1≤q from hp)
  rw[Nat.add_mul,Nat.one_mul,←h.nn.1]at this;exact this
 have bI:i*k+k≤j*k∨j*k+k≤i*k:=by
  rcases Nat.lt_or_gt_of_ne Fq with hlt|hlt
  ·left
   have:=Nat.mul_le_mul_right k (show i+1≤j from hlt)
   rw[Nat.add_mul,Nat.one_mul]at this;exact this
  ·right
   have:=Nat.mul_le_mul_right k (show j+1≤i from hlt)
   rw[Nat.add_mul,Nat.one_mul]at this;exact this
 obtain⟨n1,n2,n3,n4,n5⟩:=h.nn
 have hk:=h.kk
 have hia:=hle i hi
 have yh:=hle j hj
 have Q1:Hid (∀d os,Calls Tryz.prog 127 #[.agg #[.int .i64 k,.slice (some ⟨g,0,none⟩) N cap],.int .i64 i] (Sort.grow (redrawn W d) os) fun e Cq=>e=.returned (.slice (some ⟨g,i*k,none⟩) k (cap-i*k))∧∃p:Regrown,Cq=Sort.grow (redrawn W p.d) p.os):=fun d os=>Calls.regrown_of (Mt k i g N cap _ hk.1 hk.2 hia n2 n3)
 have Q2:Hid (∀d os,Calls Tryz.prog 127 #[.agg #[.int .i64 k,.slice (some ⟨g,0,none⟩) N cap],.int .i64 j] (Sort.grow (redrawn W d) os) fun e Cq=>e=.returned (.slice (some ⟨g,j*k,none⟩) k (cap-j*k))∧∃p:Regrown,Cq=Sort.grow (redrawn W p.d) p.os):=fun d os=>Calls.regrown_of (Mt k j g N cap _ hk.1 hk.2 yh n2 n3)
 have k0:∀d os,(Sort.grow (redrawn W d) os).cell? ⟨r,0,none⟩=some (.int .i64 k):=cell_regrown (h.row.cell 0)
 have k1:∀d os,(Sort.grow (redrawn W d) os).cell? ⟨r,1,none⟩=some (.slice (some ⟨g,0,none⟩) N cap):=cell_regrown (h.row.cell 1)
 have Aw:Hid (∀w9 Bz,AL (fun b=>b=g) W w9→Row w9 g 127 (Bz.map vw)→PO ws Bz (i*k) (j*k) k→EC w9 r k g N cap q o told Bz (swp AD l i j)):=fun w9 Bz hf hr hs=>by
  refine⟨hf.row h.row fun e=>YH e,hr,hk,⟨n1,n2,n3,hs.1.trans n4,n5⟩,CG.trans h.len,h.tol,?_,fun u hu=>?_⟩
  ·rw[n1];exact Zh hk.2 h.len (by omega) (by rw[←n1];exact h.flat) hi hj Fq hs
  ·obtain⟨p,hp,rfl⟩:=List.getElem_of_mem hu
   rw[CG,h.len]at hp
   rw[←CJ (by rw[CG,h.len];exact hp),B0 (by rw[h.len];exact hi) (by rw[h.len];exact hj)]
   have hfit:∀p,p<q→BX (l.getD p AD)∧Af k (l.getD p AD)=true:=fun p hp=>h.fit _ (JJ (by rw[h.len];exact hp))
   split
   ·exact hfit i hi
   ·split
    ·exact hfit j hj
    ·exact hfit p hp
 have HW:=Lib.hid h.words
 have Oe:Hid (∀Bz c,PO ws Bz (i*k) (j*k) c→c<k→PO ws ((Bz.set (i*k+c) (Bz.getD (j*k+c) 0)).set (j*k+c) (Bz.getD (i*k+c) 0)) (i*k) (j*k) (c+1)∧i*k+c<Bz.length∧j*k+c<Bz.length):=fun Bz c h1 h2=>⟨XQ h1 h2 bI (by omega) (by omega),by rw[h1.1];omega,by rw[h1.1];omega⟩
 have ES:Hid (PO ws ws (i*k) (j*k) 0):=UO _ _ _
 have Wz:Hid (∀c,c<k→i*k+c≠j*k+c):=fun c hc=>by omega
 clear h hle hi hj YH n1 n4
 generalize i*k=a at*
 generalize j*k=b at*
 generalize kY:(fun(e:Ending) (w':World)=>e=.returned (.tuple #[])∧(∃Bz,EC w' r k g N cap q o told Bz (swp AD l i j))∧AL (fun b=>b=g) W w')=FK
 have HP:Hid (∀w9 Bz,AL (fun b=>b=g) W w9→Row w9 g 127 (Bz.map vw)→PO ws Bz a b k→FK (.returned (.tuple #[])) w9):=fun w9 Bz h1 h2 h3=>by rw[←kY];exact⟨rfl,⟨Bz,Aw.out w9 Bz h1 h2 h3⟩,h1⟩
 clear kY Aw
 go_enter Tryz.func162,Tryz.ntmps162
 go_wp2
 refine wp_region_quiet_below (by kernel_rfl) (by kernel_rfl) ?_
 repeat(any_goals(first|go_big_quiet_step (with_reducible first|exact Q1.out _ _|exact Q2.out _ _)|quiet_step (with_reducible first|exact Q1.out _ _|exact Q2.out _ _)))
 refine wpQuiet_nil ?_
 intro w5 EJ
 obtain⟨⟨dq,osq⟩,EJ⟩:=EJ
 have Bu:=below_regrown W dq osq
 rw[←EJ]at Bu
 have pO:Hid (AL (fun b=>b=g) W w5):=AL.AJ Bu _
 have vB:Hid (Row w5 g 127 (ws.map vw)):=HW.out.below Bu HW.out.lt
 clear EJ Bu k0 k1 Q1 Q2 HW
 go_wp2
 go_loopw [8,23] (fun _ iv wr=>∃(c:Nat) (Bz:List Nat),c≤k∧iv=.int .i64 (c:Int)∧Hid (AL (fun b=>b=g) W wr)∧Hid (Row wr g 127 (Bz.map vw))∧Hid (PO ws Bz a b c)) (fun _ iv _=>k-(intOf iv).toNat)
 case atStart=>exact⟨0,ws,Nat.zero_le _,rfl,pO.out,vB.out,ES.out⟩
 case round=>
  obtain⟨c,Bz,hc,rfl,HF,HG,HS⟩:=hrel
  by_cases hlt:c<k
  ·obtain⟨EK,El,Mw⟩:=Oe.out Bz c HS.out hlt
   have hne:=Wz.out c hlt
   have c0:wr.cell? ⟨g,a+c,none⟩=some (.int .u64 (Bz.getD (a+c) 0:Nat)):=by rw[HG.out.cell (a+c)];exact Ij El
   have c1:wr.cell? ⟨g,b+c,none⟩=some (.int .u64 (Bz.getD (b+c) 0:Nat)):=by rw[HG.out.cell (b+c)];exact Ij Mw
   have f0:=HG.out.free (a+c)
   have f1:=HG.out.free (b+c)
   have wN:=Lib.hid EK
   have HG9:Hid (Row ((wr.setCell ⟨g,a+c,none⟩ (.int .u64 (Bz.getD (b+c) 0:Nat))).setCell ⟨g,b+c,none⟩ (.int .u64 (Bz.getD (a+c) 0:Nat))) g 127 (((Bz.set (a+c) (Bz.getD (b+c) 0)).set (b+c) (Bz.getD (a+c) 0)).map vw)):=by
    unfold Hid;rw[List.map_set,List.map_set];exact(HG.out.set (a+c) _).set (b+c) _
   have LQ:Hid (AL (fun b=>b=g) W ((wr.setCell ⟨g,a+c,none⟩ (.int .u64 (Bz.getD (b+c) 0:Nat))).setCell ⟨g,b+c,none⟩ (.int .u64 (Bz.getD (a+c) 0:Nat)))):=(HF.out.set (p:=⟨g,a+c,none⟩) (.inl rfl) _).set (p:=⟨g,b+c,none⟩) (.inl rfl) _
   have j0:(0:Int)≤(c:Int):=by omega
   have j1:(c:Int)<(k:Int):=by omega
   clear EK El Mw
   generalize Bz.getD (a+c) 0=xa at*
   generalize Bz.getD (b+c) 0=xb at*
   go_wp2
   go_region
   have HG8:=Lib.hid (HG9.out.drewN 1)
   have ZK:=Lib.hid LQ.out.drew
   clear HG9 LQ HF HG c0 c1 f0 f1
   go_wp2
   go_roundw
   case rel=>exact⟨c+1,_,by omega,by go_num,ZK.out,HG8.out,wN.out⟩
   case measure=>simp[intOf];omega
  ·obtain rfl:c=k:=by omega
   have H9:=Lib.hid (HP.out wr Bz HF.out HG.out HS.out)
   go_wp2
   go_end0
   exact H9.out
end
def EW(l:List AB)(a m b:Nat):List AB:=l.take a++((l.drop m).take (b-m)++((l.drop a).take (m-a)++l.drop b))
section
variable {o : AB} {l l' : List AB} {a b m i j k n : Nat}
theorem FF(h1:a≤m)(h2:m≤b)(h3:b≤l.length):(EW l a m b).length=l.length:=by
 unfold EW
 rw[List.length_append,List.length_append,List.length_append,List.length_take,List.length_take,List.length_take,List.length_drop,List.length_drop,List.length_drop];omega
theorem Lt{l m:List AB}{i:Nat}(h:i<l.length):(l++m).getD i AD=l.getD i AD:=by
 rw[List.getD_eq_getElem?_getD,List.getD_eq_getElem?_getD,List.getElem?_append_left h]
theorem J2{l m:List AB}{i:Nat}(h:l.length≤i):(l++m).getD i AD=m.getD (i-l.length) AD:=by
 rw[List.getD_eq_getElem?_getD,List.getD_eq_getElem?_getD,List.getElem?_append_right h]
theorem Hs(h1:a≤m)(h2:m≤b)(h3:b≤l.length)(i:Nat):(EW l a m b).getD i AD=if i<a then l.getD i AD else if i<a+(b-m)then l.getD (i+(m-a)) AD else if i<b then l.getD (i-(b-m)) AD else l.getD i AD:=by
 unfold EW
 have l1:(l.take a).length=a:=by rw[List.length_take];omega
 have l2:((l.drop m).take (b-m)).length=b-m:=by rw[List.length_take,List.length_drop];omega
 have l3:((l.drop a).take (m-a)).length=m-a:=by rw[List.length_take,List.length_drop];omega
 by_cases c1:i<a
 ·rw[if_pos c1,Lt (by omega),Dj c1]
 ·rw[if_neg c1,J2 (by omega),l1]
  by_cases c2:i<a+(b-m)
  ·rw[if_pos c2,Lt (by omega),Dj (by omega),Dk,show m+(i-a)=i+(m-a)by omega]
  ·rw[if_neg c2,J2 (by omega),l2]
   by_cases c3:i<b
   ·rw[if_pos c3,Lt (by omega),Dj (by omega),Dk,show a+(i-a-(b-m))=i-(b-m)by omega]
   ·rw[if_neg c3,J2 (by omega),l3,Dk,show b+(i-a-(b-m)-(m-a))=i by omega]
theorem Z6(h:m≤b):EW l m m b=l:=by
 unfold EW
 rw[Nat.sub_self,List.take_zero,List.nil_append]
 conv=>rhs;rw[←List.take_append_drop m l,←List.take_append_drop (b-m) (l.drop m),List.drop_drop,show m+(b-m)=b by omega]
theorem Z5(h:a≤m):EW l a m m=l:=by
 unfold EW
 rw[Nat.sub_self,List.take_zero,List.nil_append]
 conv=>rhs;rw[←List.take_append_drop a l,←List.take_append_drop (m-a) (l.drop a),List.drop_drop,show a+(m-a)=m by omega]
theorem V4{x:AB}(h:x∈(l.drop a).take (b-a))(hb:b≤l.length):∃i,a≤i∧i<b∧l.getD i AD=x:=by
 obtain⟨j,hj,e⟩:=List.getElem_of_mem h
 rw[List.length_take,List.length_drop]at hj
 refine⟨a+j,by omega,by omega,?_⟩
 rw[←e,←CJ,Dj (by omega),Dk]
theorem mE(h1:a≤m)(h2:m≤b)(h3:b≤l.length)(h:∀i j,a≤i→i<m→m≤j→j<b→AO o (l.getD j AD) (l.getD i AD)<0):Ch o a b l (EW l a m b):=by
 refine⟨FF h1 h2 h3,fun i hi=>?_,?_⟩
 ·rw[Hs h1 h2 h3]
  by_cases c1:i<a
  ·rw[if_pos c1]
  ·rw[if_neg c1,if_neg (by omega),if_neg (by omega)]
 ·have d1:l=l.take a++(((l.drop a).take (m-a)++(l.drop m).take (b-m))++l.drop b):=by
   conv=>lhs;rw[←List.take_append_drop a l,←List.take_append_drop (m-a) (l.drop a),List.drop_drop,show a+(m-a)=m by omega,←List.take_append_drop (b-m) (l.drop m),List.drop_drop,show m+(b-m)=b by omega]
   rw[List.append_assoc]
  unfold EW
  conv=>arg 2;rw[d1]
  rw[←List.append_assoc ((l.drop m).take (b-m))]
  refine(Cl.refl o _).append ((Cl.swap fun u hu v hv=>?_).append (Cl.refl o _))
  obtain⟨i,i1,i2,rfl⟩:=V4 hu (by omega)
  obtain⟨j,j1,j2,rfl⟩:=V4 hv h3
  have:=h i j i1 i2 j1 j2;omega
def XP(l:List AB)(a b n:Nat):Nat→AB:=fun i=>if a≤i∧i<a+n then l.getD (i+(b-a)) AD else if b≤i∧i<b+n then l.getD (i-(b-a)) AD else l.getD i AD
def I6(l l':List AB)(a b k:Nat):Prop:=l'.length=l.length∧∀i,l'.getD i AD=XP l a b k i
theorem XO(l:List AB)(a b:Nat):I6 l l a b 0:=⟨rfl,fun i=>by unfold XP;rw[if_neg (by omega),if_neg (by omega)]⟩
theorem Zf(h:I6 l l' a b k)(ZE:a+n≤b)(hb:b+n≤l.length)(hk:k<n):I6 l (swp AD l' (a+k) (b+k)) a b (k+1):=by
 obtain⟨h1,h2⟩:=h
 refine⟨CG.trans h1,fun i=>?_⟩
 rw[B0 (by omega) (by omega),h2,h2,h2]
 unfold XP
 by_cases c1:i=b+k
 ·rw[if_pos c1,if_neg (by omega),if_neg (by omega),if_neg (by omega),if_pos (by omega),c1,show b+k-(b-a)=a+k by omega]
 ·rw[if_neg c1]
  by_cases c2:i=a+k
  ·rw[if_pos c2,if_neg (by omega),if_neg (by omega),if_pos (by omega),c2,show a+k+(b-a)=b+k by omega]
  ·rw[if_neg c2]
   by_cases c3:a≤i∧i<a+k
   ·rw[if_pos c3,if_pos (by omega)]
   ·rw[if_neg c3,if_neg (show ¬(a≤i∧i<a+(k+1))by omega)]
    by_cases c4:b≤i∧i<b+k
    ·rw[if_pos c4,if_pos (by omega)]
    ·rw[if_neg c4,if_neg (by omega)]
def Jh(l0 l:List AB)(a m b i j:Nat):Prop:=l.length=l0.length∧a+i≤m∧m+j≤b∧EW l (m-i) m (m+j)=EW l0 a m b
theorem SU(h1:a≤m)(h2:m≤b):Jh l l a m b (m-a) (b-m):=⟨rfl,by omega,by omega,by rw[show m-(m-a)=a by omega,show m+(b-m)=b by omega]⟩
theorem Z8{l0:List AB}(h:Jh l0 l a m b i j)(hb:b≤l0.length)(Fq:j<i)(hs:I6 l l' (m-i) m j):Jh l0 l' a m b (i-j) j:=by
 obtain⟨h1,h2,h3,h4⟩:=h
 obtain⟨s1,s2⟩:=hs
 refine⟨s1.trans h1,by omega,h3,?_⟩
 rw[←h4]
 refine ext_get (by rw[FF (by omega) (by omega) (by omega),FF (by omega) (by omega) (by omega),s1]) fun q hq=>?_
 rw[FF (by omega) (by omega) (by omega)]at hq
 rw[Hs (by omega) (by omega) (by omega),Hs (by omega) (by omega) (by omega),s2,s2,s2]
 unfold XP
 by_cases c1:q<m-i
 ·rw[if_pos (show q<m-(i-j)by omega),if_pos c1,if_neg (by omega),if_neg (by omega)]
 ·rw[if_neg c1]
  by_cases c2:q<m-i+(m+j-m)
  ·rw[if_pos (show q<m-(i-j)by omega),if_pos c2,if_pos (by omega),show q+(m-(m-i))=q+(m-(m-i))from rfl]
  ·rw[if_neg c2,if_neg (show ¬q<m-(i-j)by omega)]
   by_cases c3:q<m-(i-j)+(m+j-m)
   ·rw[if_pos c3,if_neg (by omega),if_pos (by omega),if_pos (by omega)]
    congr 1;omega
   ·rw[if_neg c3]
    by_cases c4:q<m+j
    ·rw[if_pos c4,if_pos c4,if_neg (by omega),if_neg (by omega)]
    ·rw[if_neg c4,if_neg c4,if_neg (by omega),if_neg (by omega)]
theorem Z7{l0:List AB}(h:Jh l0 l a m b i j)(hb:b≤l0.length)(Fq:i<j)(hs:I6 l l' (m-i) (m+j-i) i):Jh l0 l' a m b i (j-i):=by
 obtain⟨h1,h2,h3,h4⟩:=h
 obtain⟨s1,s2⟩:=hs
 refine⟨s1.trans h1,h2,by omega,?_⟩
 rw[←h4]
 refine ext_get (by rw[FF (by omega) (by omega) (by omega),FF (by omega) (by omega) (by omega),s1]) fun q hq=>?_
 rw[FF (by omega) (by omega) (by omega)]at hq
 rw[Hs (by omega) (by omega) (by omega),Hs (by omega) (by omega) (by omega),s2,s2,s2]
 unfold XP
 by_cases c1:q<m-i
 ·rw[if_pos c1,if_pos c1,if_neg (by omega),if_neg (by omega)]
 ·rw[if_neg c1,if_neg c1]
  by_cases c2:q<m-i+(m+(j-i)-m)
  ·rw[if_pos c2,if_neg (by omega),if_neg (by omega),if_pos (by omega)]
  ·rw[if_neg c2]
   by_cases c3:q<m+(j-i)
   ·rw[if_pos c3,if_pos (by omega),if_pos (by omega)]
    congr 1;omega
   ·rw[if_neg c3]
    by_cases c4:q<m+j
    ·rw[if_neg (by omega),if_pos (by omega),if_neg (by omega),if_pos c4]
     congr 1;omega
    ·rw[if_neg (by omega),if_neg (by omega),if_neg (by omega),if_neg c4]
theorem Xi{l0:List AB}(h:Jh l0 l a m b i i)(hb:b≤l0.length)(hs:I6 l l' (m-i) m i):l'=EW l0 a m b:=by
 obtain⟨h1,h2,h3,h4⟩:=h
 obtain⟨s1,s2⟩:=hs
 rw[←h4]
 refine ext_get (by rw[FF (by omega) (by omega) (by omega),s1]) fun q hq=>?_
 rw[Hs (by omega) (by omega) (by omega),s2]
 unfold XP
 by_cases c1:q<m-i
 ·rw[if_pos c1,if_neg (by omega),if_neg (by omega)]
 ·rw[if_neg c1]
  by_cases c2:q<m-i+(m+i-m)
  ·rw[if_pos c2,if_pos (by omega)]
  ·rw[if_neg c2,if_neg (by omega)]
   by_cases c3:q<m+i
   ·rw[if_pos c3,if_pos (by omega)]
    congr 1;omega
   ·rw[if_neg c3,if_neg (by omega)]
theorem Xz{s e mid:Nat}(has:a≤s)(x8:s≤m)(qA:m≤e)(heb:e≤b)(hb:b≤l.length)(D8:mid=s+(e-m))(h1:Bo o l a m)(h2:Bo o l m b)
  (hAD:a<s→e<b→AO o (l.getD (s-1) AD) (l.getD e AD)≤0) (hCB:s<m→m<e→AO o (l.getD (e-1) AD) (l.getD s AD)<0):
  Ch o a b l (EW l s m e)∧Bo o (EW l s m e) a s∧Bo o (EW l s m e) s mid∧Bo o (EW l s m e) mid e∧Bo o (EW l s m e) e b∧∀p q,a≤p→p<mid→mid≤q→q<b→AO o ((EW l s m e).getD p AD) ((EW l s m e).getD q AD)≤0:=by
 have hg:=Hs (l:=l) x8 qA (by omega)
 have WW:∀i j,s≤i→i<m→m≤j→j<e→AO o (l.getD j AD) (l.getD i AD)<0:=fun i j i1 i2 j1 j2=>by
  have k1:=h2.le j1 (show j≤e-1 by omega) (show e-1<b by omega)
  have k2:=h1.le has i1 i2
  exact Gu (Gv k1 (hCB (by omega) (by omega))) k2
 refine⟨(mE x8 qA (by omega) WW).mono has heb,fun i i1 i2=>?_,fun i i1 i2=>?_,fun i i1 i2=>?_,fun i i1 i2=>?_,fun p q p1 p2 q1 q2=>?_⟩
 ·rw[hg,hg,if_pos (show i<s by omega),if_pos (show i+1<s by omega)]
  exact h1 i i1 (by omega)
 ·rw[hg,hg,if_neg (show ¬i<s by omega),if_neg (show ¬i+1<s by omega),if_pos (show i<s+(e-m)by omega),if_pos (show i+1<s+(e-m)by omega),show i+1+(m-s)=i+(m-s)+1 by omega]
  exact h2 _ (by omega) (by omega)
 ·rw[hg,hg,if_neg (show ¬i<s by omega),if_neg (show ¬i+1<s by omega),if_neg (show ¬i<s+(e-m)by omega),if_neg (show ¬i+1<s+(e-m)by omega),if_pos (show i<e by omega),if_pos (show i+1<e by omega),show i+1-(e-m)=i-(e-m)+1 by omega]
  exact h1 _ (by omega) (by omega)
 ·rw[hg,hg,if_neg (show ¬i<s by omega),if_neg (show ¬i+1<s by omega),if_neg (show ¬i<s+(e-m)by omega),if_neg (show ¬i+1<s+(e-m)by omega),if_neg (show ¬i<e by omega),if_neg (show ¬i+1<e by omega)]
  exact h2 _ (by omega) (by omega)
 ·rw[hg,hg,if_neg (show ¬q<s by omega),if_neg (show ¬q<s+(e-m)by omega)]
  by_cases c1:p<s
  ·rw[if_pos c1]
   by_cases c2:q<e
   ·rw[if_pos c2];exact h1.le p1 (by omega) (by omega)
   ·rw[if_neg c2]
    exact CB (h1.le p1 (show p≤s-1 by omega) (by omega)) (CB (hAD (by omega) (by omega)) (h2.le qA (show e≤q by omega) q2))
  ·rw[if_neg c1,if_pos (show p<s+(e-m)by omega)]
   by_cases c2:q<e
   ·rw[if_pos c2]
    have:=WW (q-(e-m)) (p+(m-s)) (by omega) (by omega) (by omega) (by omega);omega
   ·rw[if_neg c2];exact h2.le (by omega) (by omega) q2
theorem Uj{l1 l2 l3:List AB}{mid:Nat}(nh:a≤mid)(TN:mid≤b)(hb:b≤l1.length)(hx:∀p q,a≤p→p<mid→mid≤q→q<b→AO o (l1.getD p AD) (l1.getD q AD)≤0)(c1:Ch o a mid l1 l2)(s1:Bo o l2 a mid)(c2:Ch o mid b l2 l3)(s2:Bo o l3 mid b):Ch o a b l1 l3∧Bo o l3 a b:=by
 refine⟨(c1.mono (Nat.le_refl _) TN).trans (c2.mono nh (Nat.le_refl _)),fun i i1 i2=>?_⟩
 by_cases h1:i+1<mid
 ·rw[c2.out i (by omega),c2.out (i+1) (by omega)];exact s1 i i1 h1
 ·by_cases h2:mid≤i
  ·exact s2 i h2 i2
  ·obtain⟨p,p1,p2,p3⟩:=c1.pe nh (by omega) (i:=i) i1 (by omega)
   obtain⟨q,q1,q2,q3⟩:=c2.pe TN (by rw[c1.len];exact hb) (i:=i+1) (by omega) i2
   rw[c2.out i (by omega),←p3,←q3,c1.out q (by omega)]
   exact hx p q p1 p2 q1 q2
def KF(o:AB)(l:List AB)(s a b:Nat):Prop:=∀i,a≤i→i+1<b→(i+1)%s≠0→AO o (l.getD i AD) (l.getD (i+1) AD)≤0
end
structure Jg (r n:Nat) (o:AB) (R:List AB→World→Prop):Prop where
 len:∀l W,R l W→l.length=n
 less:∀l W,R l W→∀i j:Nat,i<n→j<n→Calls Tryz.prog 160 #[.pointer (some ⟨r,0,none⟩),.int .i64 i,.int .i64 j] W fun e w'=>e=.returned (.bool (decide (AO o (l.getD i AD) (l.getD j AD)<0)))∧R l w'
 swap:∀l W,R l W→∀i j:Nat,i<n→j<n→i≠j→Calls Tryz.prog 162 #[.pointer (some ⟨r,0,none⟩),.int .i64 i,.int .i64 j] W fun e w'=>e=.returned (.tuple #[])∧R (swp AD l i j) w'
theorem Kb(r:Nat)(w:World):Sem.run Tryz.prog (method 335 157 (.pointer (some ⟨r,0,none⟩)) "Less") w=.ok (160,.pointer (some ⟨r,0,none⟩)) w:=by kernel_rfl
theorem Ka(r:Nat)(w:World):Sem.run Tryz.prog (method 335 157 (.pointer (some ⟨r,0,none⟩)) "Swap") w=.ok (162,.pointer (some ⟨r,0,none⟩)) w:=by kernel_rfl
theorem fZ(r:Nat)(w:World):Sem.run Tryz.prog (method 335 157 (.pointer (some ⟨r,0,none⟩)) "Len") w=.ok (111,.pointer (some ⟨r,0,none⟩)) w:=by kernel_rfl
section
variable {r n : Nat} {o : AB} {R : List AB → World → Prop} {l : List AB} {W : World}
theorem WE(C:Jg r n o R)(hn:n≤100000)(a b:Nat)(ZE:a≤b)(hb:b≤n)(h:R l W):
  Calls Tryz.prog 128 #[.iface 157 (.pointer (some ⟨r,0,none⟩)),.int .i64 a,.int .i64 b] W fun e w'=>e=.returned (.tuple #[])∧∃l',R l' w'∧Ch o a b l l'∧Bo o l' a b:=by
 have mL:=Kb r
 have mS:=Ka r
 have HC:=Lib.hid C
 have H:=Lib.hid h
 clear h C
 go_enter Tryz.func128,Tryz.ntmps128
 go_wp2
 go_loopw [6] (fun vi wr=>∃(i:Nat) (lk:List AB),vi=.int .i64 (i:Int)∧a<i∧i≤b+1∧Hid (R lk wr)∧Hid (Ch o a b l lk)∧Hid (Bo o lk a i)) (fun vi _=>b+1-(intOf vi).toNat)
 case atStart=>exact⟨a+1,l,by go_num,by omega,by omega,H.out,Ch.refl _ _ _ _,fun i i1 i2=>by omega⟩
 case round=>
  obtain⟨i,lk,rfl,hai,hib,HR,jN,HA⟩:=hrel
  have hlk:=HC.out.len _ _ HR.out
  by_cases hlt:i<b
  ·go_wp2
   go_loopw [7] (fun vj ef=>∃(j:Nat) (lj:List AB),vj=.int .i64 (j:Int)∧a≤j∧j≤i∧Hid (R lj ef)∧Hid (Ch o a (i+1) lk lj)∧Hid (uF o lj a i j)) (fun vj _=>(intOf vj).toNat)
   case atStart=>exact⟨i,lk,rfl,by omega,Nat.le_refl _,HR.out,Ch.refl _ _ _ _,YC HA.out⟩
   case round=>
    obtain⟨j,lj,rfl,haj,yf,oo,qo,HI⟩:=hrel
    have hlj:=HC.out.len _ _ oo.out
    have OUT:(j=a∨¬AO o (lj.getD j AD) (lj.getD (j-1) AD)<0)→∀w9,R lj w9→∃(i':Nat) (xP:List AB),Value.int .i64 ((i:Int)+1)=.int .i64 (i':Int)∧a<i'∧i'≤b+1∧Hid (R xP w9)∧Hid (Ch o a b l xP)∧Hid (Bo o xP a i'):=fun hs w9 h9=>
     ⟨i+1,lj,by go_num,by omega,by omega,h9,jN.out.trans (qo.out.mono (Nat.le_refl _) (by omega)),aj HI.out yf hs⟩
    have uo:=Lib.hid OUT
    clear OUT
    by_cases yh:a<j
    ·have hl:=HC.out.less _ _ oo.out j (j-1) (by omega) (by omega)
     rw[show ((j-1:Nat):Int)=(j:Int)-1 by omega]at hl
     have HL:=Lib.hid hl
     clear hl
     by_cases Kn:AO o (lj.getD j AD) (lj.getD (j-1) AD)<0
     ·have HS:Hid (∀w9,R lj w9→Calls Tryz.prog 162 #[.pointer (some ⟨r,0,none⟩),.int .i64 j,.int .i64 ((j:Int)-1)] w9 fun e w'=>e=.returned (.tuple #[])∧R (swp AD lj j (j-1)) w'):=fun w9 h9=>by
       have:=HC.out.swap _ _ h9 j (j-1) (by omega) (by omega) (by omega)
       rwa [show ((j-1:Nat):Int)=(j:Int)-1 by omega]at this
      have ES:=Lib.hid (ak HI.out yh yf (by omega) Kn)
      have g1:=decide_eq_true Kn
      go_wp2_with fail
      refine HL.out.mono ?_
      rintro e w1 ⟨rfl,h1⟩
      rw[g1]
      have H1:=Lib.hid h1
      clear h1
      go_wp2_with fail
      refine(HS.out _ H1.out).mono ?_
      rintro e w2 ⟨rfl,h2⟩
      have H2:=Lib.hid h2
      clear h2
      go_wp2
      go_roundw
      case rel=>
       exact⟨j-1,_,by congr 1;omega,by omega,by omega,H2.out,qo.out.trans ES.out.2,ES.out.1⟩
      case measure=>simp[intOf];omega
     ·have g1:=decide_eq_false Kn
      go_wp2_with fail
      refine HL.out.mono ?_
      rintro e w1 ⟨rfl,h1⟩
      rw[g1]
      have H1:=Lib.hid (uo.out (.inr Kn) _ h1)
      clear h1
      go_wp2
      go_roundw
      case rel=>exact H1.out
      case measure=>simp[intOf];omega
    ·have H1:=Lib.hid (uo.out (.inl (by omega)) _ oo.out)
     go_wp2
     go_roundw
     case rel=>exact H1.out
     case measure=>simp[intOf];omega
  ·go_wp2
   go_end0
   exact⟨rfl,lk,HR.out,jN.out,fun p p1 p2=>HA.out p p1 (by omega)⟩
end
section
variable {r n : Nat} {o : AB} {R : List AB → World → Prop} {l : List AB} {W : World}
theorem Qv(C:Jg r n o R)(hn:n≤100000)(a b k:Nat)(ZE:a+k≤b)(hb:b+k≤n)(h:R l W):
  Calls Tryz.prog 140 #[.iface 157 (.pointer (some ⟨r,0,none⟩)),.int .i64 a,.int .i64 b,.int .i64 k] W fun e w'=>e=.returned (.tuple #[])∧∃l',R l' w'∧I6 l l' a b k:=by
 have mS:=Ka r
 have HC:=Lib.hid C
 have H:=Lib.hid h
 clear h C
 go_enter Tryz.func140,Tryz.ntmps140
 go_wp2
 go_loopw [8] (fun vi wr=>∃(i:Nat) (lk:List AB),vi=.int .i64 (i:Int)∧i≤k∧Hid (R lk wr)∧Hid (I6 l lk a b i)) (fun vi _=>k-(intOf vi).toNat)
 case atStart=>exact⟨0,l,rfl,by omega,H.out,XO _ _ _⟩
 case round=>
  obtain⟨i,lk,rfl,U6,HR,HS⟩:=hrel
  by_cases hlt:i<k
  ·have Jy:=HC.out.len _ _ H.out
   have hl:=HC.out.swap _ _ HR.out (a+i) (b+i) (by omega) (by omega) (by omega)
   rw[Int.natCast_add,Int.natCast_add]at hl
   have HL:=Lib.hid hl
   have HT:=Lib.hid (Zf HS.out ZE (by omega) hlt)
   clear hl
   go_wp2_with fail
   refine HL.out.mono ?_
   rintro e w1 ⟨rfl,h1⟩
   have H1:=Lib.hid h1
   clear h1
   go_wp2
   go_roundw
   case rel=>exact⟨i+1,_,by go_num,by omega,H1.out,HT.out⟩
   case measure=>simp[intOf];omega
  ·have yo:i=k:=by omega
   subst yo
   go_wp2
   go_end0
   exact⟨rfl,lk,HR.out,HS.out⟩
theorem fh(C:Jg r n o R)(hn:n≤100000)(a m b:Nat)(nh:a<m)(TN:m<b)(hb:b≤n)(h:R l W):
  Calls Tryz.prog 136 #[.iface 157 (.pointer (some ⟨r,0,none⟩)),.int .i64 a,.int .i64 m,.int .i64 b] W fun e w'=>e=.returned (.tuple #[])∧R (EW l a m b) w':=by
 have HC:=Lib.hid C
 have H:=Lib.hid h
 have R3:=Lib.hid (C.len _ _ h)
 obtain⟨i0,B7⟩:∃i0:Nat,i0=m-a:=⟨_,rfl⟩
 obtain⟨j0,PG⟩:∃j0:Nat,j0=b-m:=⟨_,rfl⟩
 have s1:(m:Int)-(a:Int)=(i0:Int):=by omega
 have s2:(b:Int)-(m:Int)=(j0:Int):=by omega
 have ES:Hid (Jh l l a m b i0 j0):=by rw[B7,PG];exact SU (by omega) (by omega)
 have hp:0<i0∧0<j0:=by omega
 clear B7 PG h C
 go_enter Tryz.func136,Tryz.ntmps136
 go_wp2
 go_loopw [8,9] (fun vi vj wr=>∃(i j:Nat) (lk:List AB),vi=.int .i64 (i:Int)∧vj=.int .i64 (j:Int)∧0<i∧0<j∧Hid (R lk wr)∧Hid (Jh l lk a m b i j)) (fun vi vj _=>(intOf vi).toNat+(intOf vj).toNat)
 case atStart=>exact⟨i0,j0,l,rfl,rfl,hp.1,hp.2,H.out,ES.out⟩
 case round=>
  clear s1 s2 hp ES
  obtain⟨i,j,lk,rfl,rfl,hi,hj,HR,HS⟩:=hrel
  have bO:a+i≤m:=HS.out.2.1
  have bN:m+j≤b:=HS.out.2.2.1
  have HQ:=Lib.hid (And.intro bO bN)
  obtain⟨x,hx⟩:∃x:Nat,x=m-i:=⟨_,rfl⟩
  have s3:(m:Int)-(i:Int)=(x:Int):=by omega
  have Jy:lk.length=n:=HC.out.len _ _ HR.out
  by_cases hne:i=j
  ·subst hne
   have HL:=Lib.hid (Qv HC.out hn x m i (by omega) (by omega) HR.out)
   have HE:Hid (∀l',I6 lk l' x m i→l'=EW l a m b):=fun l' h'=>by rw[hx]at h';exact Xi HS.out (by rw[R3.out];exact hb) h'
   clear hx bO bN Jy
   go_wp2_with fail
   refine HL.out.mono ?_
   rintro e w1 ⟨rfl,l',h1,h2⟩
   have h3:=HE.out l' h2
   rw[h3]at h1
   have H1:=Lib.hid h1
   clear h1 h2 h3
   go_wp2
   go_end0
   exact⟨rfl,H1.out⟩
  ·have bV:¬(i:Int)=(j:Int):=by omega
   have gne:((i:Int) !=(j:Int))=true:=by simpa using bV
   by_cases hgt:j<i
   ·obtain⟨i2,hi2⟩:∃i2:Nat,i2=i-j:=⟨_,rfl⟩
    have s4:(i:Int)-(j:Int)=(i2:Int):=by omega
    have HL:=Lib.hid (Qv HC.out hn x m j (by omega) (by omega) HR.out)
    have HE:Hid (∀l',I6 lk l' x m j→Jh l l' a m b i2 j):=fun l' h'=>by rw[hx]at h';rw[hi2];exact Z8 HS.out (by rw[R3.out];exact hb) hgt h'
    have HI2:Hid (0<i2∧i2<i):=by constructor<;>omega
    clear hx bO bN Jy hi2 hne bV
    go_wp2_with fail
    refine HL.out.mono ?_
    rintro e w1 ⟨rfl,l',h1,h2⟩
    have H1:=Lib.hid h1
    have H2:=Lib.hid (HE.out l' h2)
    clear h1 h2
    go_wp2
    go_roundw
    case rel=>exact⟨i2,j,l',rfl,rfl,HI2.out.1,hj,H1.out,H2.out⟩
    case measure=>have:=HI2.out;simp[intOf];omega
   ·obtain⟨j2,hj2⟩:∃j2:Nat,j2=j-i:=⟨_,rfl⟩
    have s4:(j:Int)-(i:Int)=(j2:Int):=by omega
    obtain⟨z,hz⟩:∃z:Nat,z=m+j:=⟨_,rfl⟩
    have s6:(m:Int)+(j:Int)=(z:Int):=by omega
    have ve:z≤n:=by omega
    obtain⟨y,hy⟩:∃y:Nat,y=m+j-i:=⟨_,rfl⟩
    have s5:(z:Int)-(i:Int)=(y:Int):=by omega
    have HL:=Lib.hid (Qv HC.out hn x y i (by omega) (by omega) HR.out)
    have HE:Hid (∀l',I6 lk l' x y i→Jh l l' a m b i j2):=fun l' h'=>by rw[hx,hy]at h';rw[hj2];exact Z7 HS.out (by rw[R3.out];exact hb) (by omega) h'
    have HJ2:Hid (0<j2∧j2<j):=by constructor<;>omega
    clear hx bO bN Jy hj2 hne bV hy hz
    go_wp2_with fail
    refine HL.out.mono ?_
    rintro e w1 ⟨rfl,l',h1,h2⟩
    have H1:=Lib.hid h1
    have H2:=Lib.hid (HE.out l' h2)
    clear h1 h2
    go_wp2
    go_roundw
    case rel=>exact⟨i,j2,l',rfl,rfl,hi,HJ2.out.1,H1.out,H2.out⟩
    case measure=>have:=HJ2.out;simp[intOf];omega
end
section
variable {r n : Nat} {o : AB} {R : List AB → World → Prop} {l : List AB} {W : World}
def Qd(R:List AB→World→Prop)(o:AB)(l:List AB)(a b:Nat)(e:Ending)(w':World):Prop:=e=.returned (.tuple #[])∧∃l',R l' w'∧Ch o a b l l'∧Bo o l' a b
theorem fI(C:Jg r n o R)(hn:n≤100000)(a m b:Nat)(hm:m=a+1)(TN:m<b)(hb:b≤n)(h:R l W)(hs:Bo o l (a+1) b):
  Calls Tryz.prog 129 #[.iface 157 (.pointer (some ⟨r,0,none⟩)),.int .i64 a,.int .i64 m,.int .i64 b] W (Qd R o l a b):=by
 have mL:=Kb r
 have mS:=Ka r
 have HC:=Lib.hid C
 have H:=Lib.hid h
 have HS:=Lib.hid hs
 have R3:=Lib.hid (C.len _ _ h)
 have s1:(m:Int)-(a:Int)=1:=by omega
 have HM:=Lib.hid hm
 have nh:a<m:=by omega
 clear h hs C hm
 go_enter Tryz.func129,Tryz.ntmps129
 go_wp2
 go_loopw [8,9] (fun vi vj wr=>∃(i j:Nat),vi=.int .i64 (i:Int)∧vj=.int .i64 (j:Int)∧m≤i∧i≤j∧j≤b∧Hid (R l wr)∧Hid (∀p,m≤p→p<i→AO o (l.getD p AD) (l.getD a AD)<0)∧Hid (∀p,j≤p→p<b→0≤AO o (l.getD p AD) (l.getD a AD))) (fun vi vj _=>(intOf vj).toNat-(intOf vi).toNat)
 case atStart=>exact⟨m,b,rfl,rfl,by omega,by omega,by omega,H.out,fun p p1 p2=>by omega,fun p p1 p2=>by omega⟩
 case round=>
  clear s1
  obtain⟨i,j,rfl,rfl,hi,Fq,nP,HR,jF,jG⟩:=hrel
  by_cases hlt:i<j
  ·obtain⟨ij,JN⟩:∃ij:Nat,ij=i+j:=⟨_,rfl⟩
   obtain⟨h,hh⟩:∃h:Nat,h=ij/2:=⟨_,rfl⟩
   have Mf:i≤h:=by omega
   have yt:h<j:=by omega
   have Ls:(i:Int)+(j:Int)=(ij:Int):=by omega
   have Ou:IntKind.i64.wrap (ij:Int)=(ij:Int):=IntWalk.i64_in _ (by omega)
   have hdiv:(ij:Int)/2=(h:Int):=by omega
   have HL:=Lib.hid (HC.out.less _ _ HR.out h a (by omega) (by omega))
   clear JN hh
   by_cases Kn:AO o (l.getD h AD) (l.getD a AD)<0
   ·have g1:=decide_eq_true Kn
    have HN:Hid (∀p,m≤p→p<h+1→AO o (l.getD p AD) (l.getD a AD)<0):=fun p p1 p2=>Gv (HS.out.le (by have:=HM.out;omega) (show p≤h by omega) (by omega)) Kn
    go_wp2_with fail
    refine HL.out.mono ?_
    rintro e w1 ⟨rfl,h1⟩
    rw[g1]
    have H1:=Lib.hid h1
    clear h1 Kn
    go_wp2
    go_roundw
    case rel=>exact⟨h+1,j,by go_num,rfl,by omega,by omega,nP,H1.out,HN.out,jG.out⟩
    case measure=>simp[intOf];omega
   ·have g1:=decide_eq_false Kn
    have HN:Hid (∀p,h≤p→p<b→0≤AO o (l.getD p AD) (l.getD a AD)):=fun p p1 p2=>Int.not_lt.1 fun p3=>Kn (Gv (HS.out.le (by have:=HM.out;omega) p1 p2) p3)
    go_wp2_with fail
    refine HL.out.mono ?_
    rintro e w1 ⟨rfl,h1⟩
    rw[g1]
    have H1:=Lib.hid h1
    clear h1 Kn
    go_wp2
    go_roundw
    case rel=>exact⟨i,h,rfl,rfl,hi,Mf,by omega,H1.out,jF.out,HN.out⟩
    case measure=>simp[intOf];omega
  ·have YQ:i=j:=by omega
   subst YQ
   obtain⟨x,hx⟩:∃x:Nat,x+1=i:=⟨i-1,by omega⟩
   have s2:(i:Int)-1=(x:Int):=by omega
   have HX:=Lib.hid hx
   have hax:a≤x:=by omega
   have Kk:x+1≤b:=by omega
   clear hx
   go_wp2
   go_loopw [11] (fun vk w3=>∃(k:Nat) (lk:List AB),vk=.int .i64 (k:Int)∧a≤k∧k≤x∧Hid (R lk w3)∧Hid (uD l lk a k)∧Hid (Ch o a b l lk)) (fun vk _=>x-(intOf vk).toNat)
   case atStart=>exact⟨a,l,rfl,by omega,by omega,HR.out,Xx _ _,Ch.refl _ _ _ _⟩
   case round=>
    obtain⟨k,lk,rfl,kJ,Fe,om,uu,vE⟩:=hrel
    by_cases nN:k<x
    ·have hlk:=HC.out.len _ _ om.out
     have pz:=HC.out.swap _ _ om.out k (k+1) (by omega) (by omega) (by omega)
     rw[Int.natCast_add]at pz
     have lE:=Lib.hid pz
     have hst:=aU (o:=o) uu.out kJ (by rw[R3.out];omega) (by rw[hlk,R3.out]) (jF.out (k+1) (by have:=HM.out;omega) (by have:=HX.out;omega))
     have ES:=Lib.hid hst
     clear pz hlk hst
     go_wp2_with fail
     refine lE.out.mono ?_
     rintro e w4 ⟨rfl,h4⟩
     have H4:=Lib.hid h4
     clear h4
     go_wp2
     go_roundw
     case rel=>exact⟨k+1,_,by go_num,by omega,by omega,H4.out,ES.out.1,vE.out.trans (ES.out.2.mono (by omega) (by omega))⟩
     case measure=>simp[intOf];omega
    ·have nM:k=x:=by omega
     subst nM
     have HE:=Lib.hid (gC (o:=o) (l:=l) (l':=lk) (a:=a) (b:=b) (i:=i) (by rw[show i-1=k by have:=HX.out;omega];exact uu.out) (by have:=HX.out;omega) nP HS.out (fun p p1 p2=>jF.out p (by have:=HM.out;omega) p2) jG.out)
     go_wp2
     go_end0
     exact⟨rfl,lk,om.out,vE.out,HE.out⟩
theorem Ze(C:Jg r n o R)(hn:n≤100000)(a m b:Nat)(nh:a+1<m)(hm:b=m+1)(hb:b≤n)(h:R l W)(hs:Bo o l a m):
  Calls Tryz.prog 129 #[.iface 157 (.pointer (some ⟨r,0,none⟩)),.int .i64 a,.int .i64 m,.int .i64 b] W (Qd R o l a b):=by
 have mL:=Kb r
 have mS:=Ka r
 have HC:=Lib.hid C
 have H:=Lib.hid h
 have HS:=Lib.hid hs
 have R3:=Lib.hid (C.len _ _ h)
 obtain⟨d,hd⟩:∃d:Nat,d=m-a:=⟨_,rfl⟩
 have s1:(m:Int)-(a:Int)=(d:Int):=by omega
 have g0:((d:Int)==1)=false:=by simp;omega
 have s2:(b:Int)-(m:Int)=1:=by omega
 have HM:=Lib.hid hm
 have TN:m<b:=by omega
 clear h hs C hm hd
 go_enter Tryz.func129,Tryz.ntmps129
 go_wp2
 go_loopw [12,13] (fun vi vj wr=>∃(i j:Nat),vi=.int .i64 (i:Int)∧vj=.int .i64 (j:Int)∧a≤i∧i≤j∧j≤m∧Hid (R l wr)∧Hid (∀p,a≤p→p<i→0≤AO o (l.getD m AD) (l.getD p AD))∧Hid (∀p,j≤p→p<m→AO o (l.getD m AD) (l.getD p AD)<0)) (fun vi vj _=>(intOf vj).toNat-(intOf vi).toNat)
 case atStart=>exact⟨a,m,rfl,rfl,by omega,by omega,by omega,H.out,fun p p1 p2=>by omega,fun p p1 p2=>by omega⟩
 case round=>
  clear s1 s2 g0
  obtain⟨i,j,rfl,rfl,hi,Fq,kK,HR,jF,jG⟩:=hrel
  by_cases hlt:i<j
  ·obtain⟨ij,JN⟩:∃ij:Nat,ij=i+j:=⟨_,rfl⟩
   obtain⟨h,hh⟩:∃h:Nat,h=ij/2:=⟨_,rfl⟩
   have Mf:i≤h:=by omega
   have yt:h<j:=by omega
   have Ls:(i:Int)+(j:Int)=(ij:Int):=by omega
   have Ou:IntKind.i64.wrap (ij:Int)=(ij:Int):=IntWalk.i64_in _ (by omega)
   have hdiv:(ij:Int)/2=(h:Int):=by omega
   have HL:=Lib.hid (HC.out.less _ _ HR.out m h (by omega) (by omega))
   clear JN hh
   by_cases Kn:AO o (l.getD m AD) (l.getD h AD)<0
   ·have g1:=decide_eq_true Kn
    have HN:Hid (∀p,h≤p→p<m→AO o (l.getD m AD) (l.getD p AD)<0):=fun p p1 p2=>Gu Kn (HS.out.le (by omega) p1 p2)
    go_wp2_with fail
    refine HL.out.mono ?_
    rintro e w1 ⟨rfl,h1⟩
    rw[g1]
    have H1:=Lib.hid h1
    clear h1 Kn
    go_wp2
    go_roundw
    case rel=>exact⟨i,h,rfl,rfl,hi,Mf,by omega,H1.out,jF.out,HN.out⟩
    case measure=>simp[intOf];omega
   ·have g1:=decide_eq_false Kn
    have HN:Hid (∀p,a≤p→p<h+1→0≤AO o (l.getD m AD) (l.getD p AD)):=fun p p1 p2=>Int.not_lt.1 fun p3=>Kn (Gu p3 (HS.out.le p1 (show p≤h by omega) (by omega)))
    go_wp2_with fail
    refine HL.out.mono ?_
    rintro e w1 ⟨rfl,h1⟩
    rw[g1]
    have H1:=Lib.hid h1
    clear h1 Kn
    go_wp2
    go_roundw
    case rel=>exact⟨h+1,j,by go_num,rfl,by omega,by omega,kK,H1.out,HN.out,jG.out⟩
    case measure=>simp[intOf];omega
  ·have YQ:i=j:=by omega
   subst YQ
   go_wp2
   go_loopw [15] (fun vk w3=>∃(k:Nat) (lk:List AB),vk=.int .i64 (k:Int)∧i≤k∧k≤m∧Hid (R lk w3)∧Hid (uE l lk m k)∧Hid (Ch o a b l lk)) (fun vk _=>(intOf vk).toNat)
   case atStart=>exact⟨m,l,rfl,by omega,by omega,HR.out,X0 _ _,Ch.refl _ _ _ _⟩
   case round=>
    obtain⟨k,lk,rfl,kJ,Fe,om,uu,vE⟩:=hrel
    by_cases nN:i<k
    ·have hlk:=HC.out.len _ _ om.out
     obtain⟨y,hy⟩:∃y:Nat,y+1=k:=⟨k-1,by omega⟩
     have s3:(k:Int)-1=(y:Int):=by omega
     have pz:=HC.out.swap _ _ om.out k y (by omega) (by omega) (by omega)
     have lE:=Lib.hid pz
     have hst:=aX (o:=o) uu.out (by omega) Fe (by rw[R3.out];omega) (by rw[hlk,R3.out]) (jG.out (k-1) (by omega) (by omega))
     rw[show k-1=y by omega]at hst
     have ES:=Lib.hid hst
     have HY:=Lib.hid hy
     clear pz hlk hst hy
     go_wp2_with fail
     refine lE.out.mono ?_
     rintro e w4 ⟨rfl,h4⟩
     have H4:=Lib.hid h4
     clear h4
     go_wp2
     go_roundw
     case rel=>exact⟨y,_,rfl,by have:=HY.out;omega,by have:=HY.out;omega,H4.out,ES.out.1,vE.out.trans (ES.out.2.mono (by have:=HY.out;omega) (by have:=HY.out;omega))⟩
     case measure=>have:=HY.out;simp[intOf];omega
    ·have nM:k=i:=by omega
     subst nM
     have HE:=Lib.hid (gD (o:=o) (l:=l) (l':=lk) (m:=m) (a:=a) (i:=k) uu.out Fe hi HS.out jF.out jG.out)
     go_wp2
     go_end0
     exact⟨rfl,lk,om.out,vE.out,by rw[HM.out];exact HE.out⟩
end
section
variable {r n : Nat} {o : AB} {R : List AB → World → Prop} {l : List AB} {W : World}
theorem fJ(C:Jg r n o R)(hn:n≤100000)(a m b:Nat)(nh:a+1<m)(TN:m+1<b)(hb:b≤n)(h:R l W)(EK:Bo o l a m)(El:Bo o l m b)
  (IH:∀a' m' b',b'-a'<b-a→a'<m'→m'<b'→b'≤n→∀l W,R l W→Bo o l a' m'→Bo o l m' b'→Calls Tryz.prog 129 #[.iface 157 (.pointer (some ⟨r,0,none⟩)),.int .i64 a',.int .i64 m',.int .i64 b'] W (Qd R o l a' b')):
  Calls Tryz.prog 129 #[.iface 157 (.pointer (some ⟨r,0,none⟩)),.int .i64 a,.int .i64 m,.int .i64 b] W (Qd R o l a b):=by
 have mL:=Kb r
 have HC:=Lib.hid C
 have H:=Lib.hid h
 have dQ:=Lib.hid EK
 have KK:=Lib.hid El
 have HIH:=Lib.hid IH
 have R3:=Lib.hid (C.len _ _ h)
 obtain⟨d,hd⟩:∃d:Nat,d=m-a:=⟨_,rfl⟩
 have s1:(m:Int)-(a:Int)=(d:Int):=by omega
 have g0:((d:Int)==1)=false:=by simp;omega
 obtain⟨d2,hd2⟩:∃d2:Nat,d2=b-m:=⟨_,rfl⟩
 have s2:(b:Int)-(m:Int)=(d2:Int):=by omega
 have g1:((d2:Int)==1)=false:=by simp;omega
 obtain⟨ab,ZE⟩:∃ab:Nat,ab=a+b:=⟨_,rfl⟩
 have Ls:(a:Int)+(b:Int)=(ab:Int):=by omega
 have Ou:IntKind.i64.wrap (ab:Int)=(ab:Int):=IntWalk.i64_in _ (by omega)
 obtain⟨mid,D8⟩:∃mid:Nat,mid=ab/2:=⟨_,rfl⟩
 have hdiv:(ab:Int)/2=(mid:Int):=by omega
 obtain⟨nn,nG⟩:∃nn:Nat,nn=mid+m:=⟨_,rfl⟩
 have s6:(mid:Int)+(m:Int)=(nn:Int):=by omega
 have AE4:nn≤2*n:=by omega
 obtain⟨XW,r0,YG⟩:∃XW r0:Nat,(mid<m∧XW+b=nn∧r0=mid)∨(m≤mid∧XW=a∧r0=m):=by
  by_cases hmm:mid<m
  ·exact⟨nn-b,mid,.inl ⟨hmm,by omega,rfl⟩⟩
  ·exact⟨a,m,.inr ⟨by omega,rfl,rfl⟩⟩
 have q1:a≤XW:=by omega
 have q2:XW≤r0:=by omega
 have q3:r0≤m:=by omega
 have q4:r0≤mid:=by omega
 have q5:nn≤b+XW:=by omega
 have q6:mid<b:=by omega
 have q7:a<mid:=by omega
 have HQ:=Lib.hid (And.intro q1 (And.intro q2 (And.intro q3 (And.intro q4 (And.intro q5 (And.intro q6 (And.intro q7 (And.intro nG (And.intro YG (And.intro nh TN))))))))))
 obtain⟨pp,N4⟩:∃pp:Nat,pp+1=nn:=⟨nn-1,by omega⟩
 have s7:(nn:Int)-1=(pp:Int):=by omega
 have HPP:=Lib.hid N4
 clear h EK El IH C hd hd2 ZE D8 nG YG q1 q2 q3 q4 q5 q6 q7 N4
 go_enter Tryz.func129,Tryz.ntmps129
 go_upto_if 102 with(fail)
 go_cut [18,19]from 103 to 108 (fun s18 s19 wx=>s18=.int .i64 (XW:Int)∧s19=.int .i64 (r0:Int)∧wx=W)
 case first=>
  by_cases hmm:mid<m
  ·have hst:(nn:Int)-(b:Int)=(XW:Int):=by have:=HQ.out;omega
   have DP:mid=r0:=by have:=HQ.out;omega
   have Hj:=Lib.hid DP
   clear DP
   go_wp2_with fail
   go_meet
   exact⟨rfl,congrArg (fun x:Nat=>Value.int .i64 (x:Int)) Hj.out,rfl⟩
  ·have hst:a=XW:=by have:=HQ.out;omega
   have DP:m=r0:=by have:=HQ.out;omega
   have Hj:=Lib.hid DP
   have ES:=Lib.hid hst
   clear DP hst
   go_wp2_with fail
   go_meet
   exact⟨congrArg (fun x:Nat=>Value.int .i64 (x:Int)) ES.out,congrArg (fun x:Nat=>Value.int .i64 (x:Int)) Hj.out,rfl⟩
 case rest=>
  obtain⟨rfl,rfl,rfl⟩:=hcut
  clear s1 s2 g0 g1 Ls Ou hdiv s6
  go_wp2_with fail
  go_loopw [18,19] (fun vi vj wr=>∃(i j:Nat),vi=.int .i64 (i:Int)∧vj=.int .i64 (j:Int)∧XW≤i∧i≤j∧j≤r0∧Hid (R l wr)∧Hid (XW<i→0≤AO o (l.getD (nn-i) AD) (l.getD (i-1) AD))∧Hid (j<r0→AO o (l.getD (nn-1-j) AD) (l.getD j AD)<0)) (fun vi vj _=>(intOf vj).toNat-(intOf vi).toNat)
  case atStart=>exact⟨XW,r0,rfl,rfl,by omega,by have:=HQ.out;omega,by omega,H.out,fun hh=>by omega,fun hh=>by omega⟩
  case round=>
   obtain⟨i,j,rfl,rfl,hi,Fq,hjr,HR,jF,jG⟩:=hrel
   have hq:=HQ.out
   have hp:=HPP.out
   by_cases hlt:i<j
   ·obtain⟨ij,JN⟩:∃ij:Nat,ij=i+j:=⟨_,rfl⟩
    obtain⟨c,hh⟩:∃c:Nat,c=ij/2:=⟨_,rfl⟩
    have Mf:i≤c:=by omega
    have yt:c<j:=by omega
    have Ls:(i:Int)+(j:Int)=(ij:Int):=by omega
    have Ou:IntKind.i64.wrap (ij:Int)=(ij:Int):=IntWalk.i64_in _ (by omega)
    have hdiv:(ij:Int)/2=(c:Int):=by omega
    obtain⟨q,bN⟩:∃q:Nat,q+c=pp:=⟨pp-c,by omega⟩
    have s8:(pp:Int)-(c:Int)=(q:Int):=by omega
    have HL:=Lib.hid (HC.out.less _ _ HR.out q c (by omega) (by omega))
    have qY:Hid (q=nn-(c+1)∧q=nn-1-c):=by constructor<;>omega
    have YQ:ij≤2*n:=by omega
    clear JN hh hq hp bN
    by_cases Kn:AO o (l.getD q AD) (l.getD c AD)<0
    ·have g1:=decide_eq_true Kn
     have HN:Hid (c<r0→AO o (l.getD (nn-1-c) AD) (l.getD c AD)<0):=fun _=>by rw[←qY.out.2];exact Kn
     go_wp2_with fail
     refine HL.out.mono ?_
     rintro e w1 ⟨rfl,h1⟩
     rw[g1]
     have H1:=Lib.hid h1
     clear h1 Kn
     go_wp2
     go_roundw
     case rel=>exact⟨i,c,rfl,rfl,hi,Mf,by omega,H1.out,jF.out,HN.out⟩
     case measure=>simp[intOf];omega
    ·have g1:=decide_eq_false Kn
     have HN:Hid (XW<c+1→0≤AO o (l.getD (nn-(c+1)) AD) (l.getD (c+1-1) AD)):=fun _=>by rw[←qY.out.1,Nat.add_sub_cancel];exact Int.not_lt.1 Kn
     go_wp2_with fail
     refine HL.out.mono ?_
     rintro e w1 ⟨rfl,h1⟩
     rw[g1]
     have H1:=Lib.hid h1
     clear h1 Kn
     go_wp2
     go_roundw
     case rel=>exact⟨c+1,j,by go_num,rfl,by omega,by omega,hjr,H1.out,HN.out,jG.out⟩
     case measure=>simp[intOf];omega
   ·have YQ:i=j:=by omega
    subst YQ
    obtain⟨e,he⟩:∃e:Nat,e+i=nn:=⟨nn-i,by omega⟩
    have s8:(nn:Int)-(i:Int)=(e:Int):=by omega
    have k1:a≤i:=by omega
    have k2:i≤m:=by omega
    have k3:m≤e:=by omega
    have k4:e≤b:=by omega
    have k5:mid=i+(e-m):=by omega
    have hMR:=Xz (o:=o) k1 k2 k3 k4 (by rw[R3.out];exact hb) k5 dQ.out KK.out (fun c1 c2=>by
     have:=jF.out (by omega)
     rw[show nn-i=e by omega]at this
     rw[Ah];omega) (fun c1 c2=>by
     have:=jG.out (by omega)
     rwa [show nn-1-i=e-1 by omega]at this)
    have lI:=Lib.hid hMR
    have HK:=Lib.hid (And.intro k1 (And.intro k2 (And.intro k3 (And.intro k4 (And.intro k5 hq)))))
    have O5:Hid (∀w9,R l w9→i<m→m<e→Calls Tryz.prog 136 #[.iface 157 (.pointer (some ⟨r,0,none⟩)),.int .i64 i,.int .i64 m,.int .i64 e] w9 fun e' w'=>e'=.returned (.tuple #[])∧R (EW l i m e) w'):=fun w9 h9 x1 x2=>fh HC.out hn i m e x1 x2 (by omega) h9
    have Hj:Hid (¬(i<m∧m<e)→EW l i m e=l):=fun hno=>by
     rcases Nat.lt_or_ge i m with x|x
     ·have:m=e:=by omega
      rw[←this];exact Z5 k2
     ·have:i=m:=by omega
      rw[this];exact Z6 k3
    have RQ:(EW l i m e).length=n:=by rw[FF k2 k3 (by rw[R3.out];omega),R3.out]
    have O6:=Lib.hid RQ
    generalize EW l i m e=l1 at*
    clear he k1 k2 k3 k4 k5 hMR hq hp RQ s7
    go_upto_region 39 with(fail)
    go_cut [140]from 133 to 140 (fun s wx=>s=.bool (decide (i<m∧m<e))∧wx=wr)
    case first=>
     by_cases x1:i<m
     ·by_cases x2:m<e
      ·go_wp2_with fail
       go_meet
       exact⟨congrArg Value.bool (decide_eq_true (And.intro x1 x2)).symm,rfl⟩
      ·go_wp2_with fail
       go_meet
       exact⟨congrArg Value.bool (decide_eq_false (fun x=>x2 x.2)).symm,rfl⟩
     ·go_wp2_with fail
      go_meet
      exact⟨congrArg Value.bool (decide_eq_false (fun x=>x1 x.1)).symm,rfl⟩
    case rest=>
     obtain⟨rfl,rfl⟩:=hcut
     go_upto_if 140 with(fail)
     go_cut []from 140 to 145 (fun wx=>Hid (R l1 wx))
     case first=>
      by_cases x:i<m∧m<e
      ·have g2:=decide_eq_true x
       have HX:=Lib.hid x
       clear x
       rw[g2]
       go_wp2_with fail
       refine(O5.out _ HR.out HX.out.1 HX.out.2).mono ?_
       rintro e' w2 ⟨rfl,h2⟩
       have H2:=Lib.hid h2
       clear h2
       go_wp2_with fail
       go_meet
       exact H2.out
      ·have g2:=decide_eq_false x
       have HX:=Lib.hid x
       clear x
       rw[g2]
       go_wp2_with fail
       go_meet
       rw[Hj.out HX.out];exact HR.out
     case rest=>
      have H1:=Lib.hid hcut.out
      clear hcut HR O5 Hj
      go_upto_region 41 with(fail)
      go_cut [153]from 146 to 153 (fun s wx=>s=.bool (decide (a<i∧i<mid))∧wx=wc)
      case first=>
       by_cases x1:a<i
       ·by_cases x2:i<mid
        ·go_wp2_with fail
         go_meet
         exact⟨congrArg Value.bool (decide_eq_true (And.intro x1 x2)).symm,rfl⟩
        ·go_wp2_with fail
         go_meet
         exact⟨congrArg Value.bool (decide_eq_false (fun x=>x2 x.2)).symm,rfl⟩
       ·go_wp2_with fail
        go_meet
        exact⟨congrArg Value.bool (decide_eq_false (fun x=>x1 x.1)).symm,rfl⟩
      case rest=>
       obtain⟨rfl,rfl⟩:=hcut
       go_upto_if 153 with(fail)
       go_cut []from 153 to 158 (fun wx=>∃l2,Hid (R l2 wx)∧Hid (Ch o a mid l1 l2)∧Hid (Bo o l2 a mid))
       case first=>
        by_cases x:a<i∧i<mid
        ·have g2:=decide_eq_true x
         have HX:=Lib.hid x
         have HC1:=Lib.hid (HIH.out a i mid (by have:=HK.out;omega) x.1 x.2 (by have:=HK.out;omega) _ _ H1.out lI.out.2.1 lI.out.2.2.1)
         clear x
         rw[g2]
         go_wp2_with fail
         refine HC1.out.mono ?_
         rintro e' w2 ⟨rfl,l2,h2,h3,h4⟩
         have H2:=Lib.hid h2
         have H3:=Lib.hid h3
         have H4:=Lib.hid h4
         clear h2 h3 h4
         go_wp2_with fail
         go_meet
         exact⟨l2,H2.out,H3.out,H4.out⟩
        ·have g2:=decide_eq_false x
         have HX:Hid (Bo o l1 a mid):=by
          have hk:=HK.out
          rcases Nat.lt_or_ge a i with y|y
          ·have:i=mid:=by omega
           rw[←this];exact lI.out.2.1
          ·have:a=i:=by omega
           rw[this];exact lI.out.2.2.1
         clear x
         rw[g2]
         go_wp2_with fail
         go_meet
         exact⟨l1,H1.out,Ch.refl _ _ _ _,HX.out⟩
       case rest=>
        obtain⟨l2,H2,H3,H4⟩:=hcut
        have G9:Hid (∀l3,Ch o mid b l2 l3→Bo o l3 mid b→Ch o a b l l3∧Bo o l3 a b):=fun l3 c1 c2=>by
         have hk:=HK.out
         obtain⟨x1,x2⟩:=Uj (o:=o) (l1:=l1) (a:=a) (b:=b) (mid:=mid) (by omega) (by omega) (by rw[O6.out];exact hb) lI.out.2.2.2.2.2 H3.out H4.out c1 c2
         exact⟨lI.out.1.trans x1,x2⟩
        have pI:Hid (Bo o l2 mid e):=fun p p1 p2=>by
         rw[H3.out.out p (by omega),H3.out.out (p+1) (by omega)];exact lI.out.2.2.2.1 p p1 p2
        have HM2:Hid (Bo o l2 e b):=fun p p1 p2=>by
         have hk:=HK.out
         rw[H3.out.out p (by omega),H3.out.out (p+1) (by omega)];exact lI.out.2.2.2.2.1 p p1 p2
        have HLC:Hid (mid<e→e<b→Calls Tryz.prog 129 #[.iface 157 (.pointer (some ⟨r,0,none⟩)),.int .i64 mid,.int .i64 e,.int .i64 b] wc (Qd R o l2 mid b)):=fun y1 y2=>HIH.out mid e b (by have:=HK.out;omega) y1 y2 hb _ _ H2.out pI.out HM2.out
        have LO:Hid (¬(mid<e∧e<b)→Bo o l2 mid b):=fun hno=>by
         have hk:=HK.out
         rcases Nat.lt_or_ge mid e with y|y
         ·have:e=b:=by omega
          rw[←this];exact pI.out
         ·have:mid=e:=by omega
          rw[this];exact HM2.out
        by_cases x1:mid<e
        ·by_cases x2:e<b
         ·go_wp2_with fail
          refine(HLC.out x1 x2).mono ?_
          rintro e' w3 ⟨rfl,l3,h3,h4,h5⟩
          have H5:=Lib.hid (G9.out l3 h4 h5)
          have H6:=Lib.hid h3
          clear h3 h4 h5
          go_wp2
          go_end0
          exact⟨rfl,l3,H6.out,H5.out.1,H5.out.2⟩
         ·have H5:=Lib.hid (G9.out l2 (Ch.refl _ _ _ _) (LO.out fun y=>x2 y.2))
          go_wp2
          go_end0
          exact⟨rfl,l2,H2.out,H5.out.1,H5.out.2⟩
        ·have H5:=Lib.hid (G9.out l2 (Ch.refl _ _ _ _) (LO.out fun y=>x1 y.1))
         go_wp2
         go_end0
         exact⟨rfl,l2,H2.out,H5.out.1,H5.out.2⟩
theorem Qu(C:Jg r n o R)(hn:n≤100000):∀(d a m b:Nat),b-a≤d→a<m→m<b→b≤n→∀l W,R l W→Bo o l a m→Bo o l m b→Calls Tryz.prog 129 #[.iface 157 (.pointer (some ⟨r,0,none⟩)),.int .i64 a,.int .i64 m,.int .i64 b] W (Qd R o l a b)
 |0,a,m,b,hd,h1,h2,_,_,_,_,_,_=>by omega
 |d+1,a,m,b,hd,h1,h2,hb,l,W,h,s1,s2=>by
  by_cases c1:m=a+1
  ·exact fI C hn a m b c1 h2 hb h (by rw[←c1];exact s2)
  ·by_cases c2:b=m+1
   ·exact Ze C hn a m b (by omega) c2 hb h s1
   ·exact fJ C hn a m b (by omega) (by omega) hb h s1 s2 fun a' m' b' hlt k1 k2 k3 l W hR t1 t2=>Qu C hn d a' m' b' (by omega) k1 k2 k3 l W hR t1 t2
end
section
variable {r n : Nat} {o : AB} {R : List AB → World → Prop} {l l' : List AB} {W : World} {s a b : Nat}
theorem Xy{s q i:Nat}(h1:q*s≤i)(h2:i<q*s+s):i%s=i-q*s:=by
 obtain⟨x,rfl⟩:∃x,i=q*s+x:=⟨i-q*s,by omega⟩
 rw[Nat.mul_comm,Nat.mul_add_mod,Nat.mod_eq_of_lt (by rw[Nat.mul_comm]at h1 h2;omega),Nat.add_sub_cancel_left]
theorem Gy{q:Nat}(h:KF o l s 0 (q*s))(hc:Ch o (q*s) b l l')(ha:Bo o l' (q*s) b):KF o l' s 0 b:=fun i _ i2 i3=>by
 by_cases h1:i+1<q*s
 ·rw[hc.out i (by omega),hc.out (i+1) (by omega)];exact h i (Nat.zero_le _) h1 i3
 ·by_cases h2:i+1=q*s
  ·exfalso;apply i3;rw[h2,Nat.mul_mod_left]
  ·exact ha i (by omega) i2
theorem Yt{a' b':Nat}(h:KF o l s a' b')(hc:Ch o a b l l')(hd:b≤a'∨b'≤a):KF o l' s a' b':=fun i i1 i2 i3=>by
 rw[hc.out i (by omega),hc.out (i+1) (by omega)];exact h i i1 i2 i3
theorem Rg{q a' b':Nat}(h:KF o l s a' b')(h1:a'≤a)(h2:b≤b')(h3:q*s≤a)(h4:b≤q*s+s):Bo o l a b:=fun i i1 i2=>h i (by omega) (by omega) (by
 rw[Xy (q:=q) (by omega) (by omega)];omega)
theorem dF(h:KF o l s 0 b)(hb:b≤s):Bo o l 0 b:=fun i i1 i2=>h i i1 i2 (by rw[Nat.mod_eq_of_lt (by omega)];omega)
end
section
variable {r n : Nat} {o : AB} {R : List AB → World → Prop} {l : List AB} {W : World}
theorem Zn(C:Jg r n o R)(hn:n≤100000)(h:R l W):
  Calls Tryz.prog 113 #[.iface 157 (.pointer (some ⟨r,0,none⟩)),.int .i64 n] W fun e w'=>e=.returned (.tuple #[])∧∃l',R l' w'∧Ch o 0 n l l'∧Bo o l' 0 n:=by
 have HC:=Lib.hid C
 have H:=Lib.hid h
 clear h C
 go_enter Tryz.func113,Tryz.ntmps113
 go_wp2
 go_loopw [5,6] (fun va vb wr=>∃(q a b:Nat) (lk:List AB),va=.int .i64 (a:Int)∧vb=.int .i64 (b:Int)∧a≤n∧Hid (a=q*20)∧Hid (b=a+20)∧Hid (R lk wr)∧Hid (Ch o 0 n l lk)∧Hid (KF o lk 20 0 a)) (fun va _ _=>n-(intOf va).toNat)
 case atStart=>exact⟨0,0,20,l,rfl,rfl,by omega,rfl,rfl,H.out,Ch.refl _ _ _ _,fun i _ i2=>by omega⟩
 case round=>
  obtain⟨q,a,b,lk,rfl,rfl,zN,HA,HB,HR,jN,HM⟩:=hrel
  by_cases hlt:b≤n
  ·obtain⟨b2,AZ⟩:∃b2:Nat,b2=b+20:=⟨_,rfl⟩
   have s1:(b:Int)+20=(b2:Int):=by omega
   have HL:=Lib.hid (WE HC.out hn a b (by have:=HB.out;omega) hlt HR.out)
   have Bt:=Lib.hid AZ
   clear AZ
   go_wp2_with fail
   refine HL.out.mono ?_
   rintro e w1 ⟨rfl,l',h1,h2,h3⟩
   have H1:=Lib.hid h1
   have H2:=Lib.hid (jN.out.trans (h2.mono (Nat.zero_le _) hlt))
   have H3:Hid (KF o l' 20 0 b):=by
    have hA:=HA.out
    have hm:=HM.out
    rw[hA]at h2 h3 hm
    exact Gy hm h2 h3
   clear h1 h2 h3
   go_wp2
   go_roundw
   case rel=>exact⟨q+1,b,b2,l',rfl,rfl,hlt,by have:=HA.out;have:=HB.out;unfold Hid;omega,Bt.out,H1.out,H2.out,H3.out⟩
   case measure=>have:=HB.out;simp[intOf];omega
  ·have HL:=Lib.hid (WE HC.out hn a n zN (Nat.le_refl _) HR.out)
   have Tt:Hid (n<a+20):=by have:=HB.out;unfold Hid;omega
   go_wp2_with fail
   refine HL.out.mono ?_
   rintro e w1 ⟨rfl,l1,h1,h2,h3⟩
   have H1:=Lib.hid h1
   have H2:=Lib.hid (jN.out.trans (h2.mono (Nat.zero_le _) (Nat.le_refl _)))
   have H3:Hid (KF o l1 20 0 n):=by
    have hA:=HA.out
    have hm:=HM.out
    rw[hA]at h2 h3 hm
    exact Gy hm h2 h3
   clear h1 h2 h3 HL HR jN HM HA HB Tt hlt zN
   go_wp2
   go_loopw [4,5,6,7] (fun v4 v5 v6 v7 wr=>∃(s:Nat) (lk:List AB),v4=.int .i64 (s:Int)∧20≤s∧s≤300000∧Hid (R lk wr)∧Hid (Ch o 0 n l lk)∧Hid (KF o lk s 0 n)) (fun v4 _ _ _ _=>n-(intOf v4).toNat)
   case atStart=>exact⟨20,l1,rfl,by omega,by omega,H1.out,H2.out,H3.out⟩
   case round=>
    obtain⟨s,lk,rfl,AD7,x8,HR,jN,HM⟩:=hrel
    by_cases hlt:s<n
    ·obtain⟨d,hd⟩:∃d:Nat,d=2*s:=⟨_,rfl⟩
     have s1:(2:Int)*(s:Int)=(d:Int):=by omega
     have s2:(s:Int)*2=(d:Int):=by omega
     have qH:d≤200000:=by omega
     have HD:=Lib.hid hd
     clear hd
     go_wp2
     go_loopw [5,6] (fun va vb wq=>∃(q a b:Nat) (lj:List AB),va=.int .i64 (a:Int)∧vb=.int .i64 (b:Int)∧a≤n∧b≤400000∧Hid (a=q*d)∧Hid (b=a+d)∧Hid (R lj wq)∧Hid (Ch o 0 n l lj)∧Hid (KF o lj d 0 a)∧Hid (KF o lj s a n)) (fun va _ _=>n-(intOf va).toNat)
     case atStart=>exact⟨0,0,d,lk,rfl,rfl,by omega,by omega,by unfold Hid;omega,by unfold Hid;omega,HR.out,jN.out,fun i _ i2=>by omega,HM.out⟩
     case round=>
      obtain⟨q,a,b,lj,rfl,rfl,zN,P8,HA,HB,oo,qo,HMj,wT⟩:=hrel
      obtain⟨m,hm⟩:∃m:Nat,m=a+s:=⟨_,rfl⟩
      have s3:(a:Int)+(s:Int)=(m:Int):=by omega
      have we:Hid (∀x,x≤n→m≤x→x≤b→Bo o lj a m∧Bo o lj m x):=fun x x1 x2 x3=>by
       have hA:=HA.out
       have hB:=HB.out
       have hD:=HD.out
       have e1:a=(2*q)*s:=by rw[hA,hD,←Nat.mul_assoc,Nat.mul_comm q 2]
       have e2:m=(2*q+1)*s:=by rw[Nat.add_mul,←e1,Nat.one_mul];exact hm
       exact⟨Rg (q:=2*q) wT.out (Nat.le_refl _) (by omega) (by omega) (by omega),Rg (q:=2*q+1) wT.out (by omega) x1 (by omega) (by omega)⟩
      have HM2:=Lib.hid hm
      by_cases PJ:b≤n
      ·obtain⟨b2,AZ⟩:∃b2:Nat,b2=b+d:=⟨_,rfl⟩
       have s4:(b:Int)+(d:Int)=(b2:Int):=by omega
       have HL:=Lib.hid (Qu HC.out hn (b-a) a m b (Nat.le_refl _) (by omega) (by have:=HB.out;have:=HD.out;omega) PJ lj wr (by exact oo.out) (we.out b PJ (by have:=HB.out;have:=HD.out;omega) (Nat.le_refl _)).1 (we.out b PJ (by have:=HB.out;have:=HD.out;omega) (Nat.le_refl _)).2)
       have Bt:=Lib.hid AZ
       clear AZ hm
       go_wp2_with fail
       refine HL.out.mono ?_
       rintro e w1 ⟨rfl,l',h1,h2,h3⟩
       have H1:=Lib.hid h1
       have H2:=Lib.hid (qo.out.trans (h2.mono (Nat.zero_le _) PJ))
       have H4:=Lib.hid (Yt (a':=b) (b':=n) (fun i i1 i2 i3=>wT.out i (by have:=HB.out;omega) i2 i3) h2 (.inl (Nat.le_refl _)))
       have H3:Hid (KF o l' d 0 b):=by
        have hA:=HA.out
        have hq:=HMj.out
        rw[hA]at h2 h3 hq
        exact Gy hq h2 h3
       clear h1 h2 h3
       go_wp2
       go_roundw
       case rel=>exact⟨q+1,b,b2,l',rfl,rfl,PJ,by have:=Bt.out;omega,by have:=HA.out;have:=HB.out;unfold Hid;rw[Nat.add_mul];omega,Bt.out,H1.out,H2.out,H3.out,H4.out⟩
       case measure=>have:=HB.out;have:=HD.out;simp[intOf];omega
      ·by_cases hmn:m<n
       ·have HL:=Lib.hid (Qu HC.out hn (n-a) a m n (Nat.le_refl _) (by omega) hmn (Nat.le_refl _) lj wr (by exact oo.out) (we.out n (Nat.le_refl _) (by omega) (by omega)).1 (we.out n (Nat.le_refl _) (by omega) (by omega)).2)
        clear hm
        go_wp2_with fail
        refine HL.out.mono ?_
        rintro e w1 ⟨rfl,l',h1,h2,h3⟩
        have H1:=Lib.hid h1
        have H2:=Lib.hid (qo.out.trans (h2.mono (Nat.zero_le _) (Nat.le_refl _)))
        have H3:Hid (KF o l' d 0 n):=by
         have hA:=HA.out
         have hq:=HMj.out
         rw[hA]at h2 h3 hq
         exact Gy hq h2 h3
        clear h1 h2 h3
        go_wp2
        go_roundw
        case rel=>exact⟨d,l',rfl,by have:=HD.out;omega,by omega,H1.out,H2.out,H3.out⟩
        case measure=>have:=HD.out;simp[intOf];omega
       ·have H3:Hid (KF o lj d 0 n):=by
         have hA:=HA.out
         have hq:=HMj.out
         have hD:=HD.out
         have e1:a=(2*q)*s:=by rw[hA,hD,←Nat.mul_assoc,Nat.mul_comm q 2]
         have h3:Bo o lj a n:=Rg (q:=2*q) wT.out (Nat.le_refl _) (Nat.le_refl _) (by omega) (by omega)
         rw[hA]at h3 hq
         exact Gy hq (Ch.refl _ _ _ _) h3
        clear hm
        go_wp2
        go_roundw
        case rel=>exact⟨d,lj,rfl,by have:=HD.out;omega,by omega,oo.out,qo.out,H3.out⟩
        case measure=>have:=HD.out;simp[intOf];omega
    ·have HE:=Lib.hid (dF HM.out (show n≤s by omega))
     go_wp2
     go_end0
     exact⟨rfl,lk,HR.out,jN.out,HE.out⟩
theorem fS(C:Jg r n o R)(hn:n≤100000)(h:R l W)(hlen:∀l W,R l W→Calls Tryz.prog 111 #[.pointer (some ⟨r,0,none⟩)] W fun e w'=>e=.returned (.int .i64 n)∧R l w'):
  Calls Tryz.prog 93 #[.iface 157 (.pointer (some ⟨r,0,none⟩))] W fun e w'=>e=.returned (.tuple #[])∧∃l',R l' w'∧Ch o 0 n l l'∧Bo o l' 0 n:=by
 have mN:=fZ r
 have HL:=Lib.hid (hlen _ _ h)
 have HS:Hid (∀w,R l w→Calls Tryz.prog 113 #[.iface 157 (.pointer (some ⟨r,0,none⟩)),.int .i64 n] w fun e w'=>e=.returned (.tuple #[])∧∃l',R l' w'∧Ch o 0 n l l'∧Bo o l' 0 n):=fun w hw=>Zn C hn hw
 clear h C hlen
 go_enter Tryz.func93,Tryz.ntmps93
 go_wp2_with fail
 refine HL.out.mono ?_
 rintro e w1 ⟨rfl,h1⟩
 have H1:=Lib.hid (HS.out _ h1)
 clear h1
 go_wp2_with fail
 refine H1.out.mono ?_
 rintro e w2 ⟨rfl,h2⟩
 have H2:=Lib.hid h2
 clear h2
 go_wp2
 go_end0
 exact⟨rfl,H2.out⟩
end
def Ds(k:Nat)(l:List AB):Prop:=∀u∈l,BX u∧Af k u=true
section
variable {X : Cx} {os : List AW} {m i ir ig : Nat} {W W' : World} {r b g M k q told : Nat} {o : AB} {l : List AB}
theorem Wd.V5(h:Wd X os m W)(hr:os[ir]?=some (AI r 161 (FZ k g (q*k) M o told)))(hg:os[ig]?=some (CX b g M k l))(hk:0<k∧k≤5)(hM:q*k≤M∧M≤1000000∧q≤1000000)(hl:l.length=q)(ht:told≤q)(hf:Ds k l):∃ws,EC W r k g (q*k) M q o told ws l∧r≠g:=by
 obtain⟨h1,ws,h2,h4,h5⟩:=h.at_ hg
 have WJ:=h.row hr
 exact⟨ws,⟨WJ,h4,hk,⟨rfl,hM.1,hM.2.1,h2,hM.2.2⟩,hl,ht,by rw[←hl];exact h5,hf⟩,fun e=>absurd (WJ.typed (e▸h4)) (by decide)⟩
theorem Wd.words(h:Wd X os m W)(hg:os[ig]?=some (CX b g M k l)){ws:List Nat}{l':List AB}(hf:AL (fun k=>k=g) W W')(hr:Row W' g 127 (ws.map vw))(hw:ws.length=M)(ht:ws.take (l'.length*k)=BC k l'):Wd X (os.set ig (CX b g M k l')) m W':=by
 obtain⟨h1,ws0,h2,h4,h5⟩:=h.at_ hg
 have Ry:b≠g:=fun e=>absurd (h1.typed (e▸h4)) (by decide)
 have hb':=hf.row h1 Ry
 refine h.Ju hg hf (fun k' E0=>⟨.inr E0,fun v hv=>?_⟩) Qt ⟨hb',ws,hw,hr,ht⟩ (fun k' E0=>⟨.inl E0,?_⟩) rfl rfl (fun _ _=>trivial)
 ·subst E0;exact absurd (h4.typed hv) (by decide)
 ·exact E0.elim (fun e=>by rw[e];exact hb'.lt) fun e=>by rw[e];exact hr.lt
theorem Xd(h0:os[ir]?=some (AI r 161 (FZ k g (q*k) M o told)))(hi:ir≠ig)(hk:0<k∧k≤5)(hM:q*k≤M∧M≤1000000∧q≤1000000)(ht:told≤q)(hlt:ig<os.length):
  Jg r q o (fun l W=>Wd X (os.set ig (CX b g M k l)) m W∧l.length=q∧Ds k l):=by
 have hr:∀l,(os.set ig (CX b g M k l))[ir]?=some (AI r 161 (FZ k g (q*k) M o told)):=fun l=>CH h0 fun e=>hi e.symm
 have hg:∀l,(os.set ig (CX b g M k l))[ig]?=some (CX b g M k l):=fun l=>by rw[List.getElem?_set,if_pos rfl,if_pos hlt]
 have hss:∀l l',(os.set ig (CX b g M k l)).set ig (CX b g M k l')=os.set ig (CX b g M k l'):=fun l l'=>List.set_set _
 refine⟨fun l W h=>h.2.1,fun l W ⟨h,h1,h2⟩ i j hi hj=>?_,fun l W ⟨h,h1,h2⟩ i j hi hj Fq=>?_⟩
 ·obtain⟨ws,bL,_⟩:=h.V5 (hr l) (hg l) hk hM h1 ht h2
  exact(Xk bL hi hj).mono fun e w' ⟨he,hb⟩=>⟨he,h.below hb,h1,h2⟩
 ·obtain⟨ws,bL,YH⟩:=h.V5 (hr l) (hg l) hk hM h1 ht h2
  refine(Xe bL hi hj Fq YH).mono ?_
  rintro e w' ⟨he,⟨Bz,TI⟩,hf⟩
  have h9:=h.words (hg l) hf TI.words (TI.nn.2.2.2.1) (by rw[TI.len];exact TI.flat)
  rw[hss]at h9
  exact⟨he,h9,TI.len,TI.fit⟩
theorem EV{os:List AW}{i:Nat}{a:AW}(h:os[i]?=some a):os.set i a=os:=by
 refine List.ext_getElem? fun j=>?_
 rw[List.getElem?_set]
 by_cases Fq:i=j
 ·subst Fq
  rw[if_pos rfl,h,if_pos]
  rcases Nat.lt_or_ge i os.length with hl|hl
  ·exact hl
  ·rw[List.getElem?_eq_none hl]at h;cases h
 ·rw[if_neg Fq]
theorem Ik{os:List AW}{i:Nat}{a:AW}(h:os[i]?=some a):i<os.length:=by
 rcases Nat.lt_or_ge i os.length with hl|hl
 ·exact hl
 ·rw[List.getElem?_eq_none hl]at h;cases h
theorem XH(h:Wd X os m W)(hr:os[ir]?=some (AI r 161 (FZ k g (q*k) M o told)))(hg:os[ig]?=some (CX b g M k l))(hi:ir≠ig)(hk:0<k∧k≤5)(hM:q*k≤M∧M≤1000000∧q≤100000)(hl:l.length=q)(ht:told≤q)(hf:Ds k l):
  Calls Tryz.prog 93 #[.iface 157 (.pointer (some ⟨r,0,none⟩))] W fun e w'=>e=.returned (.tuple #[])∧∃l',Hl o l'∧Cl o l l'∧l'.length=q∧Ds k l'∧Wd X (os.set ig (CX b g M k l')) m w':=by
 have C:=Xd (X:=X) (m:=m) (b:=b) hr hi hk ⟨hM.1,hM.2.1,by omega⟩ ht (Ik hg)
 refine(fS (l:=l) (W:=W) C hM.2.2 ⟨by rw[EV hg];exact h,hl,hf⟩ fun l W hR=>?_).mono ?_
 ·have hrow:=hR.1.row (CH (b:=CX b g M k l) hr fun e=>hi e.symm)
  exact(Nc hrow hk.1 rfl (by omega)).mono fun e w' ⟨he,d,hw⟩=>⟨he,by rw[hw];exact hR.1.drewN d,hR.2⟩
 ·rintro e w' ⟨he,l',⟨h1,h2,h3⟩,hc,ha⟩
  exact⟨he,l',Rf.2 (by rw[h2];exact ha),hc.cl,h2,h3,h1⟩
theorem ZR(h:Wd X os m W)(hr:os[ir]?=some (AI r 161 (FZ k g (q*k) M o told)))(hg:os[ig]?=some (CX b g M k l))(hk:0<k∧k≤5)(hM:q*k≤M∧M≤1000000∧q≤1000000)(hl:l.length=q)(ht:told<q)(hf:Ds k l){t:AB}(ZB:l[told]?=some t):
  Calls Tryz.prog 161 #[.pointer (some ⟨r,0,none⟩)] W fun e w'=>e=.returned (.tuple #[.agg #[.int .i64 t.a,.int .i64 t.b,.int .i64 t.c,.int .i64 t.d,.int .i64 t.e],.bool true,.int .i64 0])∧Wd X (os.set ir (AI r 161 (FZ k g (q*k) M o (told+1)))) m w':=by
 obtain⟨ws,bL,YH⟩:=h.V5 hr hg hk hM hl (by omega) hf
 have hd:l.getD told AD=t:=by rw[List.getD_eq_getElem?_getD,ZB];rfl
 refine(Z9 bL ht YH).mono ?_
 rw[hd]
 rintro e w' ⟨he,TI,Kq⟩
 exact⟨he,h.MU hr (by decide) Kq TI.row⟩
theorem Qn(h:Wd X os m W)(hr:os[ir]?=some (AI r 161 (FZ k g (q*k) M o q)))(hg:os[ig]?=some (CX b g M k l))(hk:0<k∧k≤5)(hM:q*k≤M∧M≤1000000∧q≤1000000)(hl:l.length=q)(hf:Ds k l):
  Calls Tryz.prog 161 #[.pointer (some ⟨r,0,none⟩)] W fun e w'=>e=.returned (.tuple #[.agg #[.int .i64 0,.int .i64 0,.int .i64 0,.int .i64 0,.int .i64 0],.bool false,.int .i64 0])∧Wd X os m w':=by
 obtain⟨ws,bL,_⟩:=h.V5 hr hg hk hM hl (Nat.le_refl _) hf
 exact(Xj bL).mono fun e w' ⟨he,hb⟩=>⟨he,h.below hb⟩
def Da(l:List AB)(i:Nat)(t:AB):List AB:=l.take i++t::l.drop (i+1)
theorem Kc{l:List AB}{i:Nat}{t:AB}(h:i≤l.length):(Da l i t).length=max l.length (i+1):=by unfold Da;rw[List.length_append,List.length_cons,List.length_take,List.length_drop];omega
theorem Ke{l:List AB}{i p:Nat}{t:AB}(h:i≤l.length):(Da l i t).getD p AD=if p=i then t else l.getD p AD:=by
 unfold Da
 have hl:(l.take i).length=i:=by rw[List.length_take];omega
 rw[List.getD_eq_getElem?_getD,List.getD_eq_getElem?_getD]
 by_cases h1:p<i
 ·rw[if_neg (by omega),List.getElem?_append_left (by omega),List.getElem?_take,if_pos h1]
 ·rw[List.getElem?_append_right (by omega),hl]
  by_cases h2:p=i
  ·rw[if_pos h2,h2,Nat.sub_self];rfl
  ·rw[if_neg h2,show p-i=(p-i-1)+1 by omega,List.getElem?_cons_succ,List.getElem?_drop,show i+1+(p-i-1)=p by omega]
theorem Sb(l:List AB)(t:AB):Da l l.length t=l++[t]:=by unfold Da;rw[List.take_length,List.drop_eq_nil_of_le (by omega)]
theorem Sc{l:List AB}{i:Nat}{t:AB}(h:Ds k l)(ht:BX t∧Af k t=true):Ds k (Da l i t):=fun u hu=>by
 unfold Da at hu
 rcases List.mem_append.1 hu with hu|hu
 ·exact h u (List.mem_of_mem_take hu)
 ·rcases List.mem_cons.1 hu with hu|hu
  ·rw[hu];exact ht
  ·exact h u (List.mem_of_mem_drop hu)
theorem UP{ws:List Nat}{l:List AB}{i:Nat}{t:AB}(hk:k≤5)(hf:ws.take (l.length*k)=BC k l)(hi:i≤l.length)(hw:i*k+k≤ws.length)(hlw:l.length*k≤ws.length):(splice ws (i*k) (Aa k t)).take ((Da l i t).length*k)=BC k (Da l i t):=by
 have Pv:=CR hk t
 have Pw:(splice ws (i*k) (Aa k t)).length=ws.length:=AS _ _ _ (by rw[Pv];exact hw)
 have hle:∀p p',p<p'→p*k+k≤p'*k:=fun p p' h=>by
  have:=Nat.mul_le_mul_right k (show p+1≤p' from h)
  rw[Nat.add_mul,Nat.one_mul]at this;exact this
 have hrow:∀p,p<l.length→(ws.drop (p*k)).take k=Aa k (l.getD p AD):=fun p hp=>(Ky hk rfl rfl hf (getD_some hp)).2
 have hlen:(Da l i t).length*k≤ws.length:=by
  rw[Kc hi]
  rcases Nat.le_total l.length (i+1)with h|h
  ·rw[Nat.max_eq_right h,Nat.add_mul,Nat.one_mul];exact hw
  ·rw[Nat.max_eq_left h];exact hlw
 refine IC hk _ _ (by rw[Pw];exact hlen) fun p hp=>?_
 have yK:p*k+k≤(Da l i t).length*k:=hle p _ hp
 rw[Ke hi]
 by_cases h1:p=i
 ·rw[if_pos h1,h1]
  unfold splice
  rw[List.drop_left' (by rw[List.length_take];omega),List.take_left' Pv]
 ·rw[if_neg h1]
  rw[Kc hi]at hp
  rw[←hrow p (by omega)]
  refine Q6 (by omega) (by omega) fun c hc=>?_
  rw[List.getD_eq_getElem?_getD,List.getD_eq_getElem?_getD,BP _ _ _ (by rw[Pv];exact hw)]
  rw[Pv]
  rcases Nat.lt_or_gt_of_ne h1 with h2|h2
  ·have:=hle p i h2;omega
  ·have:=hle i p h2;omega
theorem UG(h:Wd X os m W)(hg:os[ig]?=some (CX b g M k l))(hk:0<k∧k≤5){N:Nat}(i:Nat)(t:AB)(hi:i≤l.length)(hn:i*k+k≤N)(hM:N≤M∧M≤1000000)(hlw:l.length*k≤M):
  Calls Tryz.prog 112 #[.agg #[.int .i64 k,.slice (some ⟨g,0,none⟩) N M],.int .i64 i,.agg #[.int .i64 t.a,.int .i64 t.b,.int .i64 t.c,.int .i64 t.d,.int .i64 t.e]] W fun e w'=>e=.returned (.tuple #[])∧Wd X (os.set ig (CX b g M k (Da l i t))) m w'∧(∀{c ty vs},ty≠127→Row W c ty vs→Row w' c ty vs):=by
 obtain⟨h1,ws,h2,h4,h5⟩:=h.at_ hg
 refine(fV t h4 hk hn hM.1 hM.2 (by rw[h2];exact hM.1)).mono ?_
 rintro e w' ⟨he,hr,hf⟩
 exact⟨he,h.words hg hf hr (by rw[AS _ _ _ (by rw[CR hk.2];omega)];exact h2) (UP hk.2 h5 hi (by omega) (by omega)),fun hty hc=>hf.row hc fun e=>hty (Row.typed hc (e▸h4))⟩
theorem Xn(x:Nat)(w:World):Sem.run Tryz.prog (method 335 101 (.pointer (some ⟨x,0,none⟩)) "Next") w=.ok (52,.pointer (some ⟨x,0,none⟩)) w:=by kernel_rfl
end
section
variable {X : Cx} {os : List AW} {m ix ir ig : Nat} {W W' : World} {x r b g M k q told : Nat} {o : AB} {rt : Rt} {l : List AB}
def DH(rt:Rt)(i:Nat):Rt:={rt with pos:=rt.pos+i}
def I7(X:Cx)(os:List AW)(m ix ig x b g M k:Nat)(rt:Rt)(l:List AB)(i:Nat)(w':World):Prop:=
 Wd X ((os.set ix (DZ X.p x (DH rt i) X.sz l)).set ig (CX b g M k ((l.drop rt.pos).take i))) (m+(AA rt.h (rt.pos+i)-AA rt.h rt.pos)) w'
def K8(X:Cx)(os:List AW)(m ix ig x b g M k:Nat)(rt:Rt)(l:List AB)(i:Nat)(w':World):Prop:=
 Wd X ((os.set ix (DZ X.p x (DH rt (i+1)) X.sz l)).set ig (CX b g M k ((l.drop rt.pos).take i))) (m+(AA rt.h (rt.pos+(i+1))-AA rt.h rt.pos)) w'
def L0(X:Cx)(os:List AW)(ix ig x b g M k:Nat)(w':World):Prop:=¬X.cm∧∃rA l' m',Wd X ((os.set ix (Ot X.p x rA)).set ig (CX b g M k l')) m' w'
theorem X5(hi:ix≠ig)(hok:iU rt X.sz l)(B4:Src os X.sz rt.first rt.k rt.h l)(hx:os[ix]?=some (DZ X.p x rt X.sz l))(hg:os[ig]?=some (CX b g M k [])){i:Nat}(hp:rt.pos+i<rt.count)(hn:X.N+(m+(AA rt.h (rt.pos+i)-AA rt.h rt.pos))<1000000){w:World}(h:I7 X os m ix ig x b g M k rt l i w){t:AB}(ht:l[rt.pos+i]?=some t):
  Calls Tryz.prog 52 #[.pointer (some ⟨x,0,none⟩)] w fun e w'=>
   (e=.returned (.tuple #[.agg #[.int .i64 t.a,.int .i64 t.b,.int .i64 t.c,.int .i64 t.d,.int .i64 t.e],.bool true,.int .i64 0])∧Wd X ((os.set ix (DZ X.p x (DH rt (i+1)) X.sz l)).set ig (CX b g M k ((l.drop rt.pos).take i))) (m+(AA rt.h (rt.pos+(i+1))-AA rt.h rt.pos)) w')∨
   (e=.returned (.tuple #[.agg #[.int .i64 0,.int .i64 0,.int .i64 0,.int .i64 0,.int .i64 0],.bool false,.int .i64 6])∧L0 X os ix ig x b g M k w'):=by
 have xj:((os.set ix (DZ X.p x (DH rt i) X.sz l)).set ig (CX b g M k ((l.drop rt.pos).take i)))[ix]?=some (DZ X.p x (DH rt i) X.sz l):=CH (NZ os hx _) fun e=>hi e.symm
 have YM:iU (DH rt i) X.sz l:=⟨⟨hok.ok.k,hok.ok.h,hok.ok.sz,⟨hok.ok.count.1,by show rt.pos+i≤rt.count;omega⟩,hok.ok.first⟩,hok.cnt,hok.fit⟩
 have rY:Src ((os.set ix (DZ X.p x (DH rt i) X.sz l)).set ig (CX b g M k ((l.drop rt.pos).take i))) X.sz (DH rt i).first (DH rt i).k (DH rt i).h l:=(B4.set hx (b:=DZ X.p x (DH rt i) X.sz l) ⟨rfl,rfl⟩).set (i:=ig) (a:=CX b g M k []) (CH hg hi) ⟨rfl,rfl⟩
 have Am:=Aq (h:=rt.h) (c:=rt.pos) (c':=rt.pos+i) hok.ok.h.1 (by omega)
 have AZ:=Aq (h:=rt.h) (c:=rt.pos+i) (c':=rt.pos+(i+1)) hok.ok.h.1 (by omega)
 refine(Mp h xj YM hn hp rY ht).mono ?_
 rintro e w' (⟨he,h1⟩|⟨he,hc,h1⟩)
 ·refine .inl ⟨he,?_⟩
  rw[List.set_comm _ _ (fun e=>hi e.symm),List.set_set]at h1
  have e1:m+(AA rt.h (rt.pos+i)-AA rt.h rt.pos)+(AA (DH rt i).h ((DH rt i).pos+1)-AA (DH rt i).h (DH rt i).pos)=m+(AA rt.h (rt.pos+(i+1))-AA rt.h rt.pos):=by
   show m+(AA rt.h (rt.pos+i)-AA rt.h rt.pos)+(AA rt.h (rt.pos+i+1)-AA rt.h (rt.pos+i))= _
   rw[show rt.pos+i+1=rt.pos+(i+1)by omega];omega
  rw[e1]at h1
  exact h1
 ·rw[List.set_comm _ _ (fun e=>hi e.symm),List.set_set]at h1
  exact .inr ⟨he,hc,_,_,_,h1⟩
theorem Fj{h:Nat}(hh:0<h)(p:Nat):∀i,AA h (p+i)≤AA h p+i
 |0=>Nat.le_refl _
 |i+1=>by
  have h1:=Fj hh p i
  have h2:=MN (h:=h) (i:=p+i) hh
  rw[show p+(i+1)=p+i+1 by omega,h2]
  split<;>omega
theorem XM{l:List AB}{p i:Nat}{t:AB}(ht:l[p+i]?=some t):Da ((l.drop p).take i) i t=(l.drop p).take (i+1):=by
 have hpi:p+i<l.length:=(List.getElem?_eq_some_iff.1 ht).1
 have hl:((l.drop p).take i).length=i:=by rw[List.length_take,List.length_drop];omega
 have e:Da ((l.drop p).take i) i t=(l.drop p).take i++[t]:=by
  have:=Sb ((l.drop p).take i) t
  rwa [hl]at this
 rw[e,List.take_add_one,List.getElem?_drop,ht];rfl
theorem ep(h:Wd X os m W)(hr:os[ir]?=some (AI r 161 (FZ k g (q*k) M o told)))(hg:os[ig]?=some (CX b g M k []))(hx:os[ix]?=some (DZ X.p x rt X.sz l))(YH:ir≠ig)(Mx:ir≠ix)(T0:ix≠ig)(hk:0<k∧k≤5)(hM:q*k≤M∧M≤1000000∧q≤100000)
  (hok:iU rt X.sz l) (B4:Src os X.sz rt.first rt.k rt.h l) (hp:rt.pos+q≤rt.count) (hn:X.N+m+q+1≤1000000):
  Calls Tryz.prog 92 #[.pointer (some ⟨r,0,none⟩),.iface 101 (.pointer (some ⟨x,0,none⟩))] W fun e w'=>
   (e=.returned (.int .i64 0)∧I7 X os m ix ig x b g M k rt l q w')∨(e=.returned (.int .i64 6)∧L0 X os ix ig x b g M k w'):=by
 have mN:=Xn x
 have hrow:=h.row hr
 have Cg:=Lib.hid (Nc hrow hk.1 rfl (by omega))
 have H0:Hid (∀d,I7 X os m ix ig x b g M k rt l 0 (W.drewN d)):=fun d=>by
  unfold I7
  have e1:DH rt 0=rt:=rfl
  rw[e1,Nat.add_zero,Nat.sub_self,Nat.add_zero,List.take_zero,EV (i:=ix) hx,EV (i:=ig) hg]
  exact h.drewN d
 have R2:Hid (∀i w t,i<q→l[rt.pos+i]?=some t→I7 X os m ix ig x b g M k rt l i w→Calls Tryz.prog 52 #[.pointer (some ⟨x,0,none⟩)] w fun e w'=>
   (e=.returned (.tuple #[.agg #[.int .i64 t.a,.int .i64 t.b,.int .i64 t.c,.int .i64 t.d,.int .i64 t.e],.bool true,.int .i64 0])∧K8 X os m ix ig x b g M k rt l i w')∨
   (e=.returned (.tuple #[.agg #[.int .i64 0,.int .i64 0,.int .i64 0,.int .i64 0,.int .i64 0],.bool false,.int .i64 6])∧L0 X os ix ig x b g M k w')):=fun i w t hi ht hL=>by
  have hbd:AA rt.h (rt.pos+i)-AA rt.h rt.pos≤i:=by
   have h1:=Fj hok.ok.h.1 rt.pos i
   omega
  exact X5 T0 hok B4 hx hg (by omega) (by omega) hL ht
 have Qi:Hid (∀i,i<q→∃t,l[rt.pos+i]?=some t):=fun i hi=>⟨_,List.getElem?_eq_getElem (by have:=hok.cnt;omega)⟩
 have Vc:Hid (∀i w t bt,i<q→l[rt.pos+i]?=some t→K8 X os m ix ig x b g M k rt l i w→Row w bt 63 [.int .i64 t.a,.int .i64 t.b,.int .i64 t.c,.int .i64 t.d,.int .i64 t.e]→
   (w.cell? ⟨r,0,none⟩=some (.int .i64 k)∧w.cell? ⟨r,1,none⟩=some (.slice (some ⟨g,0,none⟩) (q*k) M))∧Calls Tryz.prog 112 #[.agg #[.int .i64 k,.slice (some ⟨g,0,none⟩) (q*k) M],.int .i64 i,.agg #[.int .i64 t.a,.int .i64 t.b,.int .i64 t.c,.int .i64 t.d,.int .i64 t.e]] w fun e w'=>e=.returned (.tuple #[])∧I7 X os m ix ig x b g M k rt l (i+1) w'∧
    (w'.cell? ⟨r,0,none⟩=some (.int .i64 k)∧w'.cell? ⟨r,1,none⟩=some (.slice (some ⟨g,0,none⟩) (q*k) M))∧Row w' bt 63 [.int .i64 t.a,.int .i64 t.b,.int .i64 t.c,.int .i64 t.d,.int .i64 t.e]):=fun i w t bt hi ht hW Ox=>by
  have WJ:=hW.row (CH (b:=CX b g M k ((l.drop rt.pos).take i)) (CH (b:=DZ X.p x (DH rt (i+1)) X.sz l) hr fun e=>Mx e.symm) fun e=>YH e.symm)
  have hl:((l.drop rt.pos).take i).length=i:=by rw[List.length_take,List.length_drop,hok.cnt];omega
  have U6:i*k+k≤q*k:=by
   have:=Nat.mul_le_mul_right k (show i+1≤q from hi)
   rw[Nat.add_mul,Nat.one_mul]at this;exact this
  refine⟨⟨WJ.cell 0,WJ.cell 1⟩,?_⟩
  refine(UG hW (NZ _ (CH (b:=DZ X.p x (DH rt (i+1)) X.sz l) hg T0) _) hk i t (by omega) U6 ⟨hM.1,hM.2.1⟩ (by rw[hl];omega)).mono ?_
  rintro e w' ⟨he,h1,h2⟩
  refine⟨he,?_,⟨(h2 (by decide) WJ).cell 0,(h2 (by decide) WJ).cell 1⟩,h2 (by decide) Ox⟩
  rw[List.set_set,XM ht]at h1
  exact h1
 clear h hr hg hx YH Mx T0 B4 hrow hok hp hn
 have qf:Hid (∀i w w',K8 X os m ix ig x b g M k rt l i w→Below w.heap.size w w'→K8 X os m ix ig x b g M k rt l i w'):=fun i w w' h1 h2=>Wd.below h1 h2
 have ur:Hid (∀w w',L0 X os ix ig x b g M k w→Below w.heap.size w w'→L0 X os ix ig x b g M k w'):=fun w w' h1 h2=>by
  obtain⟨h3,rA,l',m',h4⟩:=h1
  exact⟨h3,rA,l',m',h4.below h2⟩
 generalize K8 X os m ix ig x b g M k rt l=LM at*
 generalize I7 X os m ix ig x b g M k rt l=LA at*
 generalize L0 X os ix ig x b g M k=LN at*
 generalize q*k=N at*
 have hq:q≤100000:=hM.2.2
 go_enter Tryz.func92,Tryz.ntmps92
 go_wp2_with fail
 refine Cg.out.mono ?_
 rintro e w1 ⟨rfl,d,rfl⟩
 have H1:=Lib.hid (H0.out d)
 clear H0 Cg
 generalize W.drewN d=w1 at*
 go_wp2
 go_loopw [5,6,7,8,11] (fun _ _ _ _ iv wr=>∃i:Nat,i≤q∧iv=.int .i64 (i:Int)∧Hid (LA i wr)) (fun _ _ _ _ iv _=>q-(intOf iv).toNat)
 case atStart=>exact⟨0,Nat.zero_le _,rfl,H1.out⟩
 case round=>
  obtain⟨i,hi,rfl,HL⟩:=hrel
  by_cases hlt:i<q
  ·obtain⟨t,ht⟩:=Qi.out i hlt
   have wV:=Lib.hid (R2.out i wr t hlt ht HL.out)
   have HT:=Lib.hid ht
   obtain⟨ta,tb,tc,td,te⟩:=t
   simp only at wV
   clear ht
   go_wp2_with fail
   refine wV.out.mono ?_
   rintro e w2 (⟨rfl,h2⟩|⟨rfl,h2⟩)
   ·have Ox:Below w2.heap.size w2 (w2.alloc (.cells #[.int .i64 ta,.int .i64 tb,.int .i64 tc,.int .i64 td,.int .i64 te] 63)):=(Below.refl _ _).alloc (Nat.le_refl _) _
    have EL:Row (w2.alloc (.cells #[.int .i64 ta,.int .i64 tb,.int .i64 tc,.int .i64 td,.int .i64 te] 63)) w2.heap.size 63 [.int .i64 ta,.int .i64 tb,.int .i64 tc,.int .i64 td,.int .i64 te]:=heap_alloc_new _ _
    have Dq:=Lib.hid EL
    have MQ:=Lib.hid (qf.out _ _ _ h2 Ox)
    clear h2 Ox EL
    go_upto_region 7 with(fail)
    generalize w2.alloc (.cells #[.int .i64 ta,.int .i64 tb,.int .i64 tc,.int .i64 td,.int .i64 te] 63)=w3 at*
    generalize w2.heap.size=bt at*
    have Rr:Hid (((w3.drewN 1).cell? ⟨r,0,none⟩=some (.int .i64 k)∧(w3.drewN 1).cell? ⟨r,1,none⟩=some (.slice (some ⟨g,0,none⟩) N M))∧Calls Tryz.prog 112 #[.agg #[.int .i64 k,.slice (some ⟨g,0,none⟩) N M],.int .i64 i,.agg #[.int .i64 ta,.int .i64 tb,.int .i64 tc,.int .i64 td,.int .i64 te]] (w3.drewN 1) fun e w'=>e=.returned (.tuple #[])∧LA (i+1) w'∧
     (w'.cell? ⟨r,0,none⟩=some (.int .i64 k)∧w'.cell? ⟨r,1,none⟩=some (.slice (some ⟨g,0,none⟩) N M))∧Row w' bt 63 [.int .i64 ta,.int .i64 tb,.int .i64 tc,.int .i64 td,.int .i64 te]):=Vc.out i (w3.drewN 1) ⟨ta,tb,tc,td,te⟩ bt hlt HT.out (qf.out _ _ _ MQ.out (AF (Below.refl _ _) 1)) (Dq.out.drewN 1)
    have dR:Hid (Row (w3.drewN 1) bt 63 [.int .i64 ta,.int .i64 tb,.int .i64 tc,.int .i64 td,.int .i64 te]):=Dq.out.drewN 1
    have e0:w3.drew.cell? ⟨r,0,none⟩=some (.int .i64 k):=Rr.out.1.1
    have e1:w3.drew.cell? ⟨r,1,none⟩=some (.slice (some ⟨g,0,none⟩) N M):=Rr.out.1.2
    have d0:w3.drew.cell? ⟨bt,0,none⟩=some (.int .i64 ta):=dR.out.cell 0
    have d1:w3.drew.cell? ⟨bt,1,none⟩=some (.int .i64 tb):=dR.out.cell 1
    have d2:w3.drew.cell? ⟨bt,2,none⟩=some (.int .i64 tc):=dR.out.cell 2
    have d3:w3.drew.cell? ⟨bt,3,none⟩=some (.int .i64 td):=dR.out.cell 3
    have d4:w3.drew.cell? ⟨bt,4,none⟩=some (.int .i64 te):=dR.out.cell 4
    have lS:=Lib.hid Rr.out.2
    have hdr:w3.drewN 1=w3.drew:=rfl
    rw[hdr]at lS
    clear hdr Rr
    go_region_held3 (fun w'=>w'.cell? ⟨r,0,none⟩=some (.int .i64 k)∧w'.cell? ⟨r,1,none⟩=some (.slice (some ⟨g,0,none⟩) N M)∧w'.cell? ⟨bt,0,none⟩=some (.int .i64 ta)∧w'.cell? ⟨bt,1,none⟩=some (.int .i64 tb)∧w'.cell? ⟨bt,2,none⟩=some (.int .i64 tc)∧w'.cell? ⟨bt,3,none⟩=some (.int .i64 td)∧w'.cell? ⟨bt,4,none⟩=some (.int .i64 te)) (first|with_reducible exact⟨e0,e1,d0,d1,d2,d3,d4⟩|with_reducible exact q2)
     ((go_at_call 112;(with_reducible refine lS.out.mono ?_);rintro e w5 ⟨rfl,h5,h6,h7⟩;obtain⟨H5,q2⟩:Hid (LA (i+1) w5)∧(w5.cell? ⟨r,0,none⟩=some (.int .i64 k)∧w5.cell? ⟨r,1,none⟩=some (.slice (some ⟨g,0,none⟩) N M)∧w5.cell? ⟨bt,0,none⟩=some (.int .i64 ta)∧w5.cell? ⟨bt,1,none⟩=some (.int .i64 tb)∧w5.cell? ⟨bt,2,none⟩=some (.int .i64 tc)∧w5.cell? ⟨bt,3,none⟩=some (.int .i64 td)∧w5.cell? ⟨bt,4,none⟩=some (.int .i64 te)):=⟨h5,h6.1,h6.2,h7.cell 0,h7.cell 1,h7.cell 2,h7.cell 3,h7.cell 4⟩))
    go_wp2
    go_roundw
    case rel=>exact⟨i+1,by omega,by go_num,H5.out⟩
    case measure=>simp[intOf];omega
   ·have H2:=Lib.hid h2
    clear h2
    go_wp2
    go_ret
    exact .inr ⟨rfl,ur.out _ _ H2.out ((Below.refl _ _).alloc (Nat.le_refl _) _)⟩
  ·obtain rfl:i=q:=by omega
   go_wp2
   go_ret
   exact .inl ⟨rfl,HL.out⟩
end
noncomputable def Lg (P:Nat→Prop):Nat:=@dite Nat (∃n,P n∧∀m,P m→n≤m) (Classical.propDecidable _) (fun h=>h.choose) (fun _=>0)
theorem Su{P:Nat→Prop}{n:Nat}(h:P n):P (Lg P)∧Lg P≤n:=by
 have hex:∀k m,m≤k→P m→∃n,P n∧∀m,P m→n≤m:=fun k=>by
  induction k with
  |zero=>intro m hm h;exact⟨m,h,fun q _=>by omega⟩
  |succ k ih=>
   intro m hm h
   by_cases hq:∃q,q<m∧P q
   ·obtain⟨q,h1,h2⟩:=hq
    exact ih q (by omega) h2
   ·exact⟨m,h,fun q h1=>Nat.not_lt.1 fun h2=>hq ⟨q,h2,h1⟩⟩
 have h0:=hex n n (Nat.le_refl _) h
 have e:Lg P=h0.choose:=by unfold Lg;rw[dif_pos h0]
 rw[e]
 exact⟨h0.choose_spec.1,h0.choose_spec.2 n h⟩
def lB(fN:Nat)(vF:Value)(J:Nat→World→Prop)(Jm:AB→Nat→World→Prop)(E Er:World→Prop):Prop:=
 ∀n w,J n w→Calls Tryz.prog fN #[vF] w fun e w'=>
  (∃t n',e=.returned (.tuple #[JM t,.bool true,.int .i64 0])∧n'<n∧Jm t n' w')∨
  (e=.returned (.tuple #[JM AD,.bool false,.int .i64 0])∧E w')∨(e=.returned (.tuple #[JM AD,.bool false,.int .i64 6])∧Er w')
def uC(fP:Nat)(vT:Value)(J:Nat→World→Prop)(Jm:AB→Nat→World→Prop)(Er:World→Prop):Prop:=
 ∀t n w,Jm t n w→Calls Tryz.prog fP #[vT,JM t] w fun e w'=>(e=.returned (.int .i64 0)∧J n w')∨(e=.returned (.int .i64 6)∧Er w')
theorem Se{tF tT fN fP n:Nat}{vF vT:Value}{J:Nat→World→Prop}{Jm:AB→Nat→World→Prop}{E Er:World→Prop}{W:World}
  (mN:∀w,Sem.run Tryz.prog (method 335 tF vF "Next") w=.ok (fN,vF) w) (mP:∀w,Sem.run Tryz.prog (method 335 tT vT "Put") w=.ok (fP,vT) w)
  (eN:∀args w,Sem.run Tryz.prog (callFunc fN args) w=.ok (.enter fN args) w) (eP:∀args w,Sem.run Tryz.prog (callFunc fP args) w=.ok (.enter fP args) w)
  (hN:lB fN vF J Jm E Er) (hP:uC fP vT J Jm Er)
  (bJm:∀t n w w',Jm t n w→Below w.heap.size w w'→Jm t n w') (bE:∀w w',E w→Below w.heap.size w w'→E w') (bEr:∀w w',Er w→Below w.heap.size w w'→Er w')
  (h:J n W):Calls Tryz.prog 71 #[.iface tF vF,.iface tT vT] W fun e w'=>(e=.returned (.int .i64 0)∧E w')∨(e=.returned (.int .i64 6)∧Er w'):=by
 have HN:=Lib.hid hN
 have HP:=Lib.hid hP
 have BJ:=Lib.hid bJm
 have BE:=Lib.hid bE
 have BR:=Lib.hid bEr
 have H:=Lib.hid h
 clear hN hP bJm bE bEr h
 go_enter Tryz.func71,Tryz.ntmps71
 go_wp2_with fail
 go_loopw [4] (fun _ wr=>∃k:Nat,Hid (J k wr)) (fun _ wr=>Lg fun k=>J k wr)
 case atStart=>exact⟨n,H⟩
 case round=>
  obtain⟨k,hJ⟩:=hrel
  have HJ:Hid (J (Lg fun k=>J k wr) wr):=(Su (P:=fun k=>J k wr) hJ.out).1
  have wV:=Lib.hid (HN.out _ wr HJ.out)
  clear hJ
  go_wp2_with fail
  refine wV.out.mono ?_
  rintro e w2 (⟨t,n',rfl,yQ,h2⟩|⟨rfl,h2⟩|⟨rfl,h2⟩)
  ·have IP:=Lib.hid yQ
   have MQ:=Lib.hid (BJ.out t n' _ _ h2 ((Below.refl w2.heap.size w2).alloc (Nat.le_refl _) (.cells #[.int .i64 t.a,.int .i64 t.b,.int .i64 t.c,.int .i64 t.d,.int .i64 t.e] 63)))
   have EL:Row (w2.alloc (.cells #[.int .i64 t.a,.int .i64 t.b,.int .i64 t.c,.int .i64 t.d,.int .i64 t.e] 63)) w2.heap.size 63 [.int .i64 t.a,.int .i64 t.b,.int .i64 t.c,.int .i64 t.d,.int .i64 t.e]:=heap_alloc_new _ _
   have Dq:=Lib.hid EL
   clear h2 EL yQ
   unfold JM
   go_upto_region 4 with(fail)
   generalize w2.alloc (.cells #[.int .i64 t.a,.int .i64 t.b,.int .i64 t.c,.int .i64 t.d,.int .i64 t.e] 63)=w3 at*
   generalize w2.heap.size=bt at*
   have HPI:=Lib.hid (HP.out t n' w3 MQ.out)
   unfold JM at HPI
   have d0:w3.cell? ⟨bt,0,none⟩=some (.int .i64 t.a):=Dq.out.cell 0
   have d1:w3.cell? ⟨bt,1,none⟩=some (.int .i64 t.b):=Dq.out.cell 1
   have d2:w3.cell? ⟨bt,2,none⟩=some (.int .i64 t.c):=Dq.out.cell 2
   have d3:w3.cell? ⟨bt,3,none⟩=some (.int .i64 t.d):=Dq.out.cell 3
   have d4:w3.cell? ⟨bt,4,none⟩=some (.int .i64 t.e):=Dq.out.cell 4
   go_wp2_with fail
   refine HPI.out.mono ?_
   rintro e w4 (⟨rfl,h4⟩|⟨rfl,h4⟩)
   ·have H4:=Lib.hid h4
    clear h4
    go_wp2
    go_roundw
    case rel=>exact⟨n',H4⟩
    case measure=>exact Nat.lt_of_le_of_lt (Su (P:=fun k=>J k w4) H4.out).2 IP.out
   ·have H4:=Lib.hid h4
    clear h4
    go_wp2
    go_ret
    exact .inr ⟨rfl,H4.out⟩
  ·have H2:=Lib.hid h2
   clear h2
   unfold JM AD
   go_wp2
   go_ret
   exact .inl ⟨rfl,BE.out _ _ H2.out ((Below.refl _ _).alloc (Nat.le_refl _) _)⟩
  ·have H2:=Lib.hid h2
   clear h2
   unfold JM AD
   go_wp2
   go_ret
   exact .inr ⟨rfl,BR.out _ _ H2.out ((Below.refl _ _).alloc (Nat.le_refl _) _)⟩
def I0(x:Nat)(o:AB)(hd:Bool)(la:AB):List Value:=[.iface 74 (.pointer (some ⟨x,0,none⟩)),.int .i64 o.a,.int .i64 o.b,.int .i64 o.c,.int .i64 o.d,.int .i64 o.e,.bool hd,.int .i64 la.a,.int .i64 la.b,.int .i64 la.c,.int .i64 la.d,.int .i64 la.e]
theorem R6(x:Nat)(w:World):Sem.run Tryz.prog (method 335 74 (.pointer (some ⟨x,0,none⟩)) "Put") w=.ok (39,.pointer (some ⟨x,0,none⟩)) w:=by kernel_rfl
section
variable {X : Cx} {os : List AW} {m iw jf : Nat} {W W' : World} {x f : Nat} {o la t : AB} {hd : Bool}
theorem QF{W:World}(hr:Row W f 156 (I0 x o hd la)):Row (((((((W.setCell ⟨f,6,none⟩ (.bool true)).setCell ⟨f,7,none⟩ (.int .i64 t.a)).setCell ⟨f,8,none⟩ (.int .i64 t.b)).setCell ⟨f,9,none⟩ (.int .i64 t.c)).setCell ⟨f,10,none⟩ (.int .i64 t.d)).setCell ⟨f,11,none⟩ (.int .i64 t.e)).drew) f 156 (I0 x o true t)∧
  AL (fun k=>k=f) W (((((((W.setCell ⟨f,6,none⟩ (.bool true)).setCell ⟨f,7,none⟩ (.int .i64 t.a)).setCell ⟨f,8,none⟩ (.int .i64 t.b)).setCell ⟨f,9,none⟩ (.int .i64 t.c)).setCell ⟨f,10,none⟩ (.int .i64 t.d)).setCell ⟨f,11,none⟩ (.int .i64 t.e)).drew):=
 ⟨by
  have h:=((((((hr.set 6 (.bool true)).set 7 (.int .i64 t.a)).set 8 (.int .i64 t.b)).set 9 (.int .i64 t.c)).set 10 (.int .i64 t.d)).set 11 (.int .i64 t.e)).drewN 1
  have e:((((((I0 x o hd la).set 6 (.bool true)).set 7 (.int .i64 t.a)).set 8 (.int .i64 t.b)).set 9 (.int .i64 t.c)).set 10 (.int .i64 t.d)).set 11 (.int .i64 t.e)=I0 x o true t:=rfl
  rw[e]at h
  exact h,by
  have h0:AL (fun k=>k=f) W W:=AL.refl _ _
  have h1:=h0.set (p:=⟨f,6,none⟩) (.inl rfl) (.bool true)
  have h2:=h1.set (p:=⟨f,7,none⟩) (.inl rfl) (.int .i64 t.a)
  have h3:=h2.set (p:=⟨f,8,none⟩) (.inl rfl) (.int .i64 t.b)
  have h4:=h3.set (p:=⟨f,9,none⟩) (.inl rfl) (.int .i64 t.c)
  have h5:=h4.set (p:=⟨f,10,none⟩) (.inl rfl) (.int .i64 t.d)
  exact(h5.set (p:=⟨f,11,none⟩) (.inl rfl) (.int .i64 t.e)).drew⟩
theorem cr(W:World)(t:AB):Below W.heap.size W (W.alloc (.cells #[.int .i64 t.a,.int .i64 t.b,.int .i64 t.c,.int .i64 t.d,.int .i64 t.e] 63))∧Row (W.alloc (.cells #[.int .i64 t.a,.int .i64 t.b,.int .i64 t.c,.int .i64 t.d,.int .i64 t.e] 63)) W.heap.size 63 [.int .i64 t.a,.int .i64 t.b,.int .i64 t.c,.int .i64 t.d,.int .i64 t.e]:=⟨(Below.refl _ _).alloc (Nat.le_refl _) _,heap_alloc_new _ _⟩
theorem Yd(hr:Row W f 156 (I0 x o true la))(hc:AO o la t=0):Calls Tryz.prog 158 #[.pointer (some ⟨f,0,none⟩),.agg #[.int .i64 t.a,.int .i64 t.b,.int .i64 t.c,.int .i64 t.d,.int .i64 t.e]] W fun e w'=>e=.returned (.int .i64 0)∧Below W.heap.size W w':=by
 obtain⟨Am,EL⟩:=cr W t
 have Nz:=hr.below Am hr.lt
 have LG:=Lib.hid Am
 have Q1:Hid (∀W d os,Calls Tryz.prog 159 #[.agg #[.int .i64 la.a,.int .i64 la.b,.int .i64 la.c,.int .i64 la.d,.int .i64 la.e],.agg #[.int .i64 t.a,.int .i64 t.b,.int .i64 t.c,.int .i64 t.d,.int .i64 t.e],.agg #[.int .i64 o.a,.int .i64 o.b,.int .i64 o.c,.int .i64 o.d,.int .i64 o.e]] (Sort.grow (redrawn W d) os) fun e Cq=>e=.returned (.int .i64 0)∧∃p:Regrown,Cq=Sort.grow (redrawn W p.d) p.os):=fun W d os=>Calls.regrown_of (by have:=M5 o la t (Sort.grow (redrawn W d) os);rw[hc]at this;exact this)
 have Dq:=Lib.hid EL
 have Eg:=Lib.hid Nz
 clear Am hr EL Nz hc
 obtain⟨ta,tb,tc,td,te⟩:=t
 obtain⟨xV,xU,xS,xR,xQ⟩:=la
 obtain⟨oa,ob,oc,od,oe⟩:=o
 simp only[I0]at*
 go_enter Tryz.func158,Tryz.ntmps158
 go_upto_region 1 with(fail)
 have k6:=cell_regrown (Eg.out.cell 6)
 have k1:=cell_regrown (Eg.out.cell 1)
 have k2:=cell_regrown (Eg.out.cell 2)
 have k3:=cell_regrown (Eg.out.cell 3)
 have k4:=cell_regrown (Eg.out.cell 4)
 have k5:=cell_regrown (Eg.out.cell 5)
 have k7:=cell_regrown (Eg.out.cell 7)
 have k8:=cell_regrown (Eg.out.cell 8)
 have k9:=cell_regrown (Eg.out.cell 9)
 have gN:=cell_regrown (Eg.out.cell 10)
 have k11:=cell_regrown (Eg.out.cell 11)
 have b0:=cell_regrown (Dq.out.cell 0)
 have b1:=cell_regrown (Dq.out.cell 1)
 have b2:=cell_regrown (Dq.out.cell 2)
 have b3:=cell_regrown (Dq.out.cell 3)
 have b4:=cell_regrown (Dq.out.cell 4)
 generalize W.alloc (.cells #[.int .i64 ta,.int .i64 tb,.int .i64 tc,.int .i64 td,.int .i64 te] 63)=W1 at*
 generalize hsz:W.heap.size=bt at*
 have JS:=Lib.hid hsz
 clear hsz
 refine wp_region_quiet_below (by kernel_rfl) (by kernel_rfl) ?_
 repeat(any_goals(first|go_big_quiet_step (with_reducible first|exact Q1.out _ _ _)|quiet_step (with_reducible first|exact Q1.out _ _ _)))
 refine wpQuiet_nil ?_
 intro w5 EJ
 obtain⟨⟨dq,osq⟩,EJ⟩:=EJ
 have Bu:=below_regrown W1 dq osq
 rw[←EJ]at Bu
 have HB:=Lib.hid Bu
 clear EJ Bu
 go_wp2
 go_ret
 exact⟨rfl,by rw[JS.out];exact LG.out.trans (HB.out.mono (by have h9:=LG.out.size;rw[JS.out]at h9;exact h9))⟩
theorem iK(hr:Row W f 156 (I0 x o hd la))(hc:hd=true→AO o la t≠0){P:Int→World→Prop}(hP:∀W6,Row W6 f 156 (I0 x o true t)→AL (fun k=>k=f) W W6→Calls Tryz.prog 39 #[.pointer (some ⟨x,0,none⟩),.agg #[.int .i64 t.a,.int .i64 t.b,.int .i64 t.c,.int .i64 t.d,.int .i64 t.e]] W6 fun e w'=>∃er,e=.returned (.int .i64 er)∧P er w'):Calls Tryz.prog 158 #[.pointer (some ⟨f,0,none⟩),.agg #[.int .i64 t.a,.int .i64 t.b,.int .i64 t.c,.int .i64 t.d,.int .i64 t.e]] W fun e w'=>∃er,e=.returned (.int .i64 er)∧P er w':=by
 obtain⟨Am,EL⟩:=cr W t
 have Nz:=hr.below Am hr.lt
 have LG:=Lib.hid Am
 have mP:=R6 x
 have HP:=Lib.hid hP
 clear hP
 have kP:=hr.lt
 have HFW:=Lib.hid kP
 clear kP
 have Q1:Hid (∀W d os,Calls Tryz.prog 159 #[.agg #[.int .i64 la.a,.int .i64 la.b,.int .i64 la.c,.int .i64 la.d,.int .i64 la.e],.agg #[.int .i64 t.a,.int .i64 t.b,.int .i64 t.c,.int .i64 t.d,.int .i64 t.e],.agg #[.int .i64 o.a,.int .i64 o.b,.int .i64 o.c,.int .i64 o.d,.int .i64 o.e]] (Sort.grow (redrawn W d) os) fun e Cq=>e=.returned (.int .i64 (AO o la t))∧∃p:Regrown,Cq=Sort.grow (redrawn W p.d) p.os):=fun W d os=>Calls.regrown_of (M5 o la t (Sort.grow (redrawn W d) os))
 generalize AO o la t=res at*
 have Dq:=Lib.hid EL
 have Eg:=Lib.hid Nz
 clear Am hr EL Nz
 obtain⟨ta,tb,tc,td,te⟩:=t
 obtain⟨xV,xU,xS,xR,xQ⟩:=la
 obtain⟨oa,ob,oc,od,oe⟩:=o
 simp only[I0]at*
 cases hd
 case false=>
  clear hc
  go_enter Tryz.func158,Tryz.ntmps158
  go_upto_region 1 with(fail)
  have k6:=cell_regrown (Eg.out.cell 6)
  have k1:=cell_regrown (Eg.out.cell 1)
  have k2:=cell_regrown (Eg.out.cell 2)
  have k3:=cell_regrown (Eg.out.cell 3)
  have k4:=cell_regrown (Eg.out.cell 4)
  have k5:=cell_regrown (Eg.out.cell 5)
  have k7:=cell_regrown (Eg.out.cell 7)
  have k8:=cell_regrown (Eg.out.cell 8)
  have k9:=cell_regrown (Eg.out.cell 9)
  have gN:=cell_regrown (Eg.out.cell 10)
  have k11:=cell_regrown (Eg.out.cell 11)
  have b0:=cell_regrown (Dq.out.cell 0)
  have b1:=cell_regrown (Dq.out.cell 1)
  have b2:=cell_regrown (Dq.out.cell 2)
  have b3:=cell_regrown (Dq.out.cell 3)
  have b4:=cell_regrown (Dq.out.cell 4)
  generalize W.alloc (.cells #[.int .i64 ta,.int .i64 tb,.int .i64 tc,.int .i64 td,.int .i64 te] 63)=W1 at*
  generalize hsz:W.heap.size=bt at*
  have JS:=Lib.hid hsz
  clear hsz
  refine wp_region_quiet_below (by kernel_rfl) (by kernel_rfl) ?_
  repeat(any_goals(first|go_big_quiet_step (with_reducible first|exact Q1.out _ _ _)|quiet_step (with_reducible first|exact Q1.out _ _ _)))
  refine wpQuiet_nil ?_
  intro w5 EJ
  obtain⟨⟨dq,osq⟩,EJ⟩:=EJ
  have Bu:=below_regrown W1 dq osq
  rw[←EJ]at Bu
  have HB:=Lib.hid Bu
  clear EJ Bu
  go_upto_region 3 with(fail)
  have r6:=Eg.out.below HB.out Eg.out.lt
  have t6:=Dq.out.below HB.out Dq.out.lt
  have c1:=t6.cell 0
  have c2:=t6.cell 1
  have c3:=t6.cell 2
  have c4:=t6.cell 3
  have c5:=t6.cell 4
  have e6:=r6.cell 6
  have f6:=r6.free 6
  have e7:=r6.cell 7
  have f7:=r6.free 7
  have e8:=r6.cell 8
  have f8:=r6.free 8
  have e9:=r6.cell 9
  have f9:=r6.free 9
  have zv:=r6.cell 10
  have f10:=r6.free 10
  have zu:=r6.cell 11
  have f11:=r6.free 11
  have l6:=r6.lt
  have l7:=t6.lt
  go_region
  obtain⟨r7,F7⟩:=QF (t:=⟨ta,tb,tc,td,te⟩) (la:=⟨xV,xU,xS,xR,xQ⟩) (o:=⟨oa,ob,oc,od,oe⟩) r6
  have JO:f≠bt:=by have h9:=HFW.out;omega
  have t7:=F7.row t6 fun e=>JO e.symm
  have T9:Below W.heap.size W w5:=by rw[JS.out];exact LG.out.trans (HB.out.mono (by have h9:=LG.out.size;rw[JS.out]at h9;exact h9))
  have hF:AL (fun k=>k=f) W (((((((w5.setCell ⟨f,6,none⟩ (.bool true)).setCell ⟨f,7,none⟩ (.int .i64 ta)).setCell ⟨f,8,none⟩ (.int .i64 tb)).setCell ⟨f,9,none⟩ (.int .i64 tc)).setCell ⟨f,10,none⟩ (.int .i64 td)).setCell ⟨f,11,none⟩ (.int .i64 te)).drew):=(AL.AJ T9 _).trans F7 fun b hb=>.inl hb
  have HC:=Lib.hid (fun d=>HP.out (World.drewN _ d) (r7.drewN d) (hF.drewN d))
  clear e6 f6 e7 f7 e8 f8 e9 f9 zv f10 zu f11 c1 c2 c3 c4 c5 r6 t6 l6 l7 F7 hF
  generalize(((((((w5.setCell ⟨f,6,none⟩ (.bool true)).setCell ⟨f,7,none⟩ (.int .i64 ta)).setCell ⟨f,8,none⟩ (.int .i64 tb)).setCell ⟨f,9,none⟩ (.int .i64 tc)).setCell ⟨f,10,none⟩ (.int .i64 td)).setCell ⟨f,11,none⟩ (.int .i64 te)).drew)=W7 at*
  have e0:W7.cell? ⟨f,0,none⟩=some (.iface 74 (.pointer (some ⟨x,0,none⟩))):=r7.cell 0
  have c1:=t7.cell 0
  have c2:=t7.cell 1
  have c3:=t7.cell 2
  have c4:=t7.cell 3
  have c5:=t7.cell 4
  go_upto_region 4 with(fail)
  refine wp_region_still_tail 5 (by kernel_rfl) (by kernel_rfl) ?_
  simp only[List.take_succ_cons,List.take_zero,List.drop_succ_cons,List.drop_zero]
  change wpStill Tryz.prog _ W7.drew (fun a'=>wpList Tryz.prog _ _ _ a' W7.drew) _ _
  repeat still_step
  refine wpStill_nil ?_
  go_wp2_with fail
  refine(HC.out 1).mono ?_
  rintro e w9 ⟨er,rfl,sN⟩
  have H9:=Lib.hid sN
  clear sN
  go_wp2
  go_ret
  exact⟨er,rfl,H9.out⟩
 case true=>
  have hne:=hc rfl
  clear hc
  go_enter Tryz.func158,Tryz.ntmps158
  go_upto_region 1 with(fail)
  have k6:=cell_regrown (Eg.out.cell 6)
  have k1:=cell_regrown (Eg.out.cell 1)
  have k2:=cell_regrown (Eg.out.cell 2)
  have k3:=cell_regrown (Eg.out.cell 3)
  have k4:=cell_regrown (Eg.out.cell 4)
  have k5:=cell_regrown (Eg.out.cell 5)
  have k7:=cell_regrown (Eg.out.cell 7)
  have k8:=cell_regrown (Eg.out.cell 8)
  have k9:=cell_regrown (Eg.out.cell 9)
  have gN:=cell_regrown (Eg.out.cell 10)
  have k11:=cell_regrown (Eg.out.cell 11)
  have b0:=cell_regrown (Dq.out.cell 0)
  have b1:=cell_regrown (Dq.out.cell 1)
  have b2:=cell_regrown (Dq.out.cell 2)
  have b3:=cell_regrown (Dq.out.cell 3)
  have b4:=cell_regrown (Dq.out.cell 4)
  generalize W.alloc (.cells #[.int .i64 ta,.int .i64 tb,.int .i64 tc,.int .i64 td,.int .i64 te] 63)=W1 at*
  generalize hsz:W.heap.size=bt at*
  have JS:=Lib.hid hsz
  clear hsz
  refine wp_region_quiet_below (by kernel_rfl) (by kernel_rfl) ?_
  repeat(any_goals(first|go_big_quiet_step (with_reducible first|exact Q1.out _ _ _)|quiet_step (with_reducible first|exact Q1.out _ _ _)))
  refine wpQuiet_nil ?_
  intro w5 EJ
  obtain⟨⟨dq,osq⟩,EJ⟩:=EJ
  have Bu:=below_regrown W1 dq osq
  rw[←EJ]at Bu
  have HB:=Lib.hid Bu
  clear EJ Bu
  go_upto_region 3 with(fail)
  have r6:=Eg.out.below HB.out Eg.out.lt
  have t6:=Dq.out.below HB.out Dq.out.lt
  have c1:=t6.cell 0
  have c2:=t6.cell 1
  have c3:=t6.cell 2
  have c4:=t6.cell 3
  have c5:=t6.cell 4
  have e6:=r6.cell 6
  have f6:=r6.free 6
  have e7:=r6.cell 7
  have f7:=r6.free 7
  have e8:=r6.cell 8
  have f8:=r6.free 8
  have e9:=r6.cell 9
  have f9:=r6.free 9
  have zv:=r6.cell 10
  have f10:=r6.free 10
  have zu:=r6.cell 11
  have f11:=r6.free 11
  have l6:=r6.lt
  have l7:=t6.lt
  go_region
  obtain⟨r7,F7⟩:=QF (t:=⟨ta,tb,tc,td,te⟩) (la:=⟨xV,xU,xS,xR,xQ⟩) (o:=⟨oa,ob,oc,od,oe⟩) r6
  have JO:f≠bt:=by have h9:=HFW.out;omega
  have t7:=F7.row t6 fun e=>JO e.symm
  have T9:Below W.heap.size W w5:=by rw[JS.out];exact LG.out.trans (HB.out.mono (by have h9:=LG.out.size;rw[JS.out]at h9;exact h9))
  have hF:AL (fun k=>k=f) W (((((((w5.setCell ⟨f,6,none⟩ (.bool true)).setCell ⟨f,7,none⟩ (.int .i64 ta)).setCell ⟨f,8,none⟩ (.int .i64 tb)).setCell ⟨f,9,none⟩ (.int .i64 tc)).setCell ⟨f,10,none⟩ (.int .i64 td)).setCell ⟨f,11,none⟩ (.int .i64 te)).drew):=(AL.AJ T9 _).trans F7 fun b hb=>.inl hb
  have HC:=Lib.hid (fun d=>HP.out (World.drewN _ d) (r7.drewN d) (hF.drewN d))
  clear e6 f6 e7 f7 e8 f8 e9 f9 zv f10 zu f11 c1 c2 c3 c4 c5 r6 t6 l6 l7 F7 hF
  generalize(((((((w5.setCell ⟨f,6,none⟩ (.bool true)).setCell ⟨f,7,none⟩ (.int .i64 ta)).setCell ⟨f,8,none⟩ (.int .i64 tb)).setCell ⟨f,9,none⟩ (.int .i64 tc)).setCell ⟨f,10,none⟩ (.int .i64 td)).setCell ⟨f,11,none⟩ (.int .i64 te)).drew)=W7 at*
  have e0:W7.cell? ⟨f,0,none⟩=some (.iface 74 (.pointer (some ⟨x,0,none⟩))):=r7.cell 0
  have c1:=t7.cell 0
  have c2:=t7.cell 1
  have c3:=t7.cell 2
  have c4:=t7.cell 3
  have c5:=t7.cell 4
  go_upto_region 4 with(fail)
  refine wp_region_still_tail 5 (by kernel_rfl) (by kernel_rfl) ?_
  simp only[List.take_succ_cons,List.take_zero,List.drop_succ_cons,List.drop_zero]
  change wpStill Tryz.prog _ W7.drew (fun a'=>wpList Tryz.prog _ _ _ a' W7.drew) _ _
  repeat still_step
  refine wpStill_nil ?_
  go_wp2_with fail
  refine(HC.out 1).mono ?_
  rintro e w9 ⟨er,rfl,sN⟩
  have H9:=Lib.hid sN
  clear sN
  go_wp2
  go_ret
  exact⟨er,rfl,H9.out⟩
end
section
variable {X : Cx} {os a b z : List AW} {m i j n : Nat} {W W' : World} {G : Nat → Prop} {D : St} {A : Ar} {S : Sp} {x v : AW}
theorem CA(hz:z.length=n):(a++z++b)[a.length+n+j]?=b[j]?:=by
 rw[List.getElem?_append_right (by rw[List.length_append];omega),List.length_append,hz,show a.length+n+j-(a.length+n)=j by omega]
theorem Cj(hz:z.length=n):(a++z++b).set (a.length+n+j) v=a++z++b.set j v:=by
 rw[List.set_append,if_neg (by rw[List.length_append];omega),List.length_append,hz,show a.length+n+j-(a.length+n)=j by omega]
theorem aq(hj:j<z.length):(a++z++b)[a.length+j]?=z[j]?:=by
 rw[List.getElem?_append_left (by rw[List.length_append];omega),List.getElem?_append_right (by omega),show a.length+j-a.length=j by omega]
theorem Nx(hj:j<z.length):(a++z++b).set (a.length+j) v=a++z.set j v++b:=by
 rw[List.set_append,if_pos (by rw[List.length_append];omega),List.set_append,if_neg (by omega),show a.length+j-a.length=j by omega]
def rF(n j:Nat):Nat:=if j<n then j else j+1
theorem V7{n i j:Nat}(h:rF n i=rF n j):i=j:=by unfold rF at h;split at h<;>split at h<;>omega
theorem GP(hj:(a++b)[j]?=some v):(a++x::b)[rF a.length j]?=some v:=by
 unfold rF
 split
 ·next h=>rw[List.getElem?_append_left h]at hj⊢;exact hj
 ·next h=>
  rw[List.getElem?_append_right (by omega)]at hj
  rw[List.getElem?_append_right (by omega),show j+1-a.length=(j-a.length)+1 by omega,List.getElem?_cons_succ];exact hj
theorem mQ(hj:(a++x::b)[j]?=some v):v=x∨∃i:Nat,(a++b)[i]?=some v:=by
 rcases Nat.lt_or_ge j a.length with h|h
 ·rw[List.getElem?_append_left h]at hj
  exact .inr ⟨j,by rw[List.getElem?_append_left h];exact hj⟩
 ·rw[List.getElem?_append_right h]at hj
  obtain⟨k,hk⟩:∃k,j-a.length=k:=⟨_,rfl⟩
  rw[hk]at hj
  cases k with
  |zero=>exact .inl (by rw[List.getElem?_cons_zero]at hj;exact(Option.some.inj hj).symm)
  |succ k=>exact .inr ⟨a.length+k,by rw[List.getElem?_append_right (by omega),show a.length+k-a.length=k by omega];rwa [List.getElem?_cons_succ]at hj⟩
theorem BO{α:Type}(f:α→Nat)(l k:List α):Ac f (l++k)=Ac f l+Ac f k:=by unfold Ac;rw[List.map_append,List.sum_append]
theorem Bf{α:Type}(f:α→Nat)(q:α)(k:List α):Ac f (q::k)=f q+Ac f k:=by unfold Ac;rw[List.map_cons,List.sum_cons]
theorem Hi.cut (h : Hi X (a ++ x :: b) m W G D A S) (hg : x.gr = none) (hx : x.ex.2 = 0) : Hi X (a ++ b) m W G D A S := by
  have Iv : x.gw = 0 := by unfold AW.gw; rw [hg]
  have xe : x.xw = 0 := hx
  have hu := h.used
  have hs := h.sum
  rw [BO, Bf] at hu hs
  exact { sys := h.sys, LK := h.LK, base := h.base, O3 := h.O3, size := h.size, blocks := h.blocks, alive := h.alive, calm := h.calm, Al := h.Al, room := h.room, s0 := h.s0, sp := h.sp, range := h.range
          used := by rw [BO]; omega
          sum := by rw [BO]; omega
          ok := fun j c hc => h.ok _ c (GP hc)
          st := fun j c p q hc hg => h.st _ c p q (GP hc) hg
          mem := fun j c hc => h.mem _ c (GP hc)
          QT := fun j c hc => h.QT _ c (GP hc)
          apart := fun j j2 c c2 hc Lr hne => h.apart _ _ c c2 (GP hc) (GP Lr) fun e => hne (V7 e)
          exa := fun j j2 c c2 hc Lr hne => h.exa _ _ c c2 (GP hc) (GP Lr) fun e => hne (V7 e)
          exs := fun j c hc => h.exs _ c (GP hc)
          free := fun z => by
            rw [h.free z]
            refine ⟨fun ⟨h1, h2⟩ => ⟨h1, fun j c hc => h2 _ c (GP hc)⟩, fun ⟨h1, h2⟩ => ⟨h1, fun j c hc B3 => ?_⟩⟩
            rcases mQ hc with e | ⟨i, hi⟩
            · rw [e] at B3; unfold Fp at B3; omega
            · exact h2 i c hi B3 }
theorem Wd.cut(h:Wd X (a++x::b) m W)(hg:x.gr=none)(hx:x.ex.2=0):Wd X (a++b) m W:=by
 obtain⟨G,D,A,S,h⟩:=h
 exact⟨G,D,A,S,h.cut hg hx⟩
def GX(l:List AW):Prop:=∀q∈l,q.gr=none∧q.ex.2=0
theorem Wd.iP:∀(z:List AW) (_:GX z) (_:Wd X (a++z++b) m W),Wd X (a++b) m W
 |[],_,h=>by rwa [List.append_nil]at h
 |q::z,hb,h=>by
  have hq:=hb q List.mem_cons_self
  have h1:Wd X (a++q::(z++b)) m W:=by simpa using h
  have h2:=h1.cut hq.1 hq.2
  exact Wd.iP z (fun u hu=>hb u (List.mem_cons_of_mem _ hu)) (by rw[List.append_assoc];exact h2)
end
def BG(once:Bool)(o:AB)(s:List AB):List AB:=if once then Ax o s else s
theorem Nv(once:Bool)(o:AB)(s:List AB):(BG once o s).length≤s.length:=by
 unfold BG;split
 ·exact Nm o s
 ·exact Nat.le_refl _
def Tn(X:Cx)(x n:Nat)(z:List AW):Prop:=∃t r,z=lW X.p x t::r∧z.length=n∧GX r
structure dI (X:Cx) (o:AB) (once:Bool) (k hh bd x tT fP:Nat) (vT:Value) (Z:List AB→List AW) (n:Nat):Prop where
 len:∀s,(Z s).length=n
 mm:∀w,Sem.run Tryz.prog (method 335 tT vT "Put") w=.ok (fP,vT) w
 me:∀args w,Sem.run Tryz.prog (callFunc fP args) w=.ok (.enter fP args) w
 put:∀(AP Po:List AW) (m:Nat) (s:List AB) (tu:AB) (W:World),Wd X (AP++Z s++Po) m W→Af k tu=true→s.length<bd→X.N+m<1000000→
  Calls Tryz.prog fP #[vT,JM tu] W fun e w'=>
   (e=.returned (.int .i64 0)∧Wd X (AP++Z (s++[tu])++Po) (m+((BG once o (s++[tu])).length/hh-(BG once o s).length/hh)) w')∨
   (e=.returned (.int .i64 6)∧¬X.cm∧∃z m',Tn X x n z∧Wd X (AP++z++Po) m' w')
 hd:∀s,s.length≤bd→∃t r,Z s=KG X.p x t X.sz::r∧Ca t X.sz∧t.k=k∧t.h=hh∧t.bound=bd∧t.l=BG once o s∧GX r
def Oq(t:Wt)(l:List AB):Wt:={t with l:=l}
theorem Qr{t:Wt}{sz:Nat}(h:Ca t sz){l:List AB}(hl:l.length≤t.bound):Ca (Oq t l) sz:=⟨h.k,h.h,h.sz,⟨h.bound.1,hl⟩,h.blocks,h.first⟩
section
variable {X : Cx} {t0 : Wt} {o : AB} {x f : Nat}
theorem qw(hok:Ca t0 X.sz):dI X o false t0.k t0.h t0.bound x 74 39 (.pointer (some ⟨x,0,none⟩)) (fun s=>[KG X.p x (Oq t0 s) X.sz]) 1 where
 len:=fun _=>rfl
 mm:=R6 x
 me:=fun args w=>by kernel_rfl
 put:=fun AP Po m s tu W h hf hs hn=>by
  have hi:(AP++[KG X.p x (Oq t0 s) X.sz]++Po)[AP.length+0]?=some (KG X.p x (Oq t0 s) X.sz):=aq (j:=0) (by simp)
  refine(ZS h hi (Qr hok (by omega)) hn hf (by show s.length<t0.bound;exact hs)).mono ?_
  rintro e w' (⟨he,h1⟩|⟨he,hc,h1⟩)
  ·rw[Nx (by simp)]at h1
   refine .inl ⟨he,?_⟩
   have e1:(BG false o (s++[tu])).length/t0.h-(BG false o s).length/t0.h=((Oq t0 s).l.length+1)/(Oq t0 s).h-(Oq t0 s).l.length/(Oq t0 s).h:=by
    show (s++[tu]).length/t0.h-s.length/t0.h=(s.length+1)/t0.h-s.length/t0.h
    rw[List.length_append];rfl
   rw[e1];exact h1
  ·rw[Nx (by simp)]at h1
   exact .inr ⟨he,hc,_,_,⟨_,[],rfl,rfl,fun q hq=>by cases hq⟩,h1⟩
 hd:=fun s hs=>⟨_,[],rfl,Qr hok hs,rfl,rfl,rfl,rfl,fun q hq=>by cases hq⟩
def RY(x:Nat)(o:AB)(q:List AB):List Value:=I0 x o (!q.isEmpty) (q.getLast?.getD AD)
theorem Yj(x:Nat)(o:AB)(q:List AB)(t:AB):RY x o (q++[t])=I0 x o true t:=by
 unfold RY;rw[List.getLast?_concat]
 cases q<;>rfl
theorem cR(f:Nat)(w:World):Sem.run Tryz.prog (method 335 154 (.pointer (some ⟨f,0,none⟩)) "Put") w=.ok (158,.pointer (some ⟨f,0,none⟩)) w:=by kernel_rfl
theorem qx(hok:Ca t0 X.sz):dI X o true t0.k t0.h t0.bound x 154 158 (.pointer (some ⟨f,0,none⟩)) (fun s=>[KG X.p x (Oq t0 (Ax o s)) X.sz,AI f 156 (RY x o (Ax o s))]) 2 where
 len:=fun _=>rfl
 mm:=cR f
 me:=fun args w=>by kernel_rfl
 put:=fun AP Po m s tu W h hf hs hn=>by
  have hle:=Nm o s
  have hsn:=Js o s tu
  have hj:(AP++[KG X.p x (Oq t0 (Ax o s)) X.sz,AI f 156 (RY x o (Ax o s))]++Po)[AP.length+1]?=some (AI f 156 (RY x o (Ax o s))):=aq (j:=1) (by simp)
  have hrow:=h.row hj
  have yY:∀q,BG true o q=Ax o q:=fun q=>rfl
  simp only[yY]
  by_cases bF:∃u,(Ax o s).getLast?=some u∧AO o u tu=0
  ·obtain⟨u,hu,hc⟩:=bF
   have e1:Ax o (s++[tu])=Ax o s:=by
    rw[hsn];unfold stepO;rw[hu];simp only[if_pos hc]
   have e2:RY x o (Ax o s)=I0 x o true u:=by
    unfold RY;rw[hu]
    cases hq:Ax o s with
    |nil=>rw[hq]at hu;cases hu
    |cons a l=>rfl
   rw[e2]at hrow
   refine(Yd hrow hc).mono ?_
   rintro e w' ⟨he,hb⟩
   refine .inl ⟨he,?_⟩
   rw[e1,Nat.sub_self,Nat.add_zero]
   exact h.below hb
  ·have e1:Ax o (s++[tu])=Ax o s++[tu]:=by
    rw[hsn];unfold stepO
    cases hu:(Ax o s).getLast? with
    |none=>rfl
    |some u=>simp only[if_neg fun hc=>bF ⟨u,hu,hc⟩]
   have YR:(!(Ax o s).isEmpty)=true→AO o ((Ax o s).getLast?.getD AD) tu≠0:=fun hne hc=>by
    cases hu:(Ax o s).getLast? with
    |none=>rw[List.getLast?_eq_none_iff.1 hu]at hne;cases hne
    |some u=>rw[hu]at hc;exact bF ⟨u,hu,hc⟩
   refine(iK (P:=fun er w'=>(er=0∧Wd X (AP++[KG X.p x (Oq t0 (Ax o (s++[tu]))) X.sz,AI f 156 (RY x o (Ax o (s++[tu])))]++Po) (m+((Ax o (s++[tu])).length/t0.h-(Ax o s).length/t0.h)) w')∨
    (er=6∧¬X.cm∧∃z m',Tn X x 2 z∧Wd X (AP++z++Po) m' w')) hrow YR fun W6 Ez KI=>?_).mono ?_
   ·have h6:=h.MU hj (by decide) KI Ez
    rw[Nx (by simp)]at h6
    have tQ:Wd X (AP++[KG X.p x (Oq t0 (Ax o s)) X.sz,AI f 156 (I0 x o true tu)]++Po) m W6:=h6
    have hi:(AP++[KG X.p x (Oq t0 (Ax o s)) X.sz,AI f 156 (I0 x o true tu)]++Po)[AP.length+0]?=some (KG X.p x (Oq t0 (Ax o s)) X.sz):=aq (j:=0) (by simp)
    refine(ZS tQ hi (Qr hok (by omega)) hn hf (by show (Ax o s).length<t0.bound;omega)).mono ?_
    rintro e w' (⟨he,h1⟩|⟨he,hc,h1⟩)
    ·rw[Nx (by simp)]at h1
     refine⟨0,he,.inl ⟨rfl,?_⟩⟩
     rw[e1,Yj]
     have e2:((Ax o s++[tu]).length/t0.h-(Ax o s).length/t0.h)=((Oq t0 (Ax o s)).l.length+1)/(Oq t0 (Ax o s)).h-(Oq t0 (Ax o s)).l.length/(Oq t0 (Ax o s)).h:=by
      rw[List.length_append];rfl
     rw[e2];exact h1
    ·rw[Nx (by simp)]at h1
     exact⟨6,he,.inr ⟨rfl,hc,_,_,⟨_,[AI f 156 (I0 x o true tu)],rfl,rfl,fun q hq=>by rw[List.mem_singleton.1 hq];exact⟨rfl,rfl⟩⟩,h1⟩⟩
   ·rintro e w' ⟨er,he,⟨rfl,h1⟩|⟨rfl,h1⟩⟩
    ·exact .inl ⟨he,h1⟩
    ·exact .inr ⟨he,h1⟩
 hd:=fun s hs=>⟨_,_,rfl,Qr hok (Nat.le_trans (Nm o s) hs),rfl,rfl,rfl,rfl,fun q hq=>by rw[List.mem_singleton.1 hq];exact⟨rfl,rfl⟩⟩
end
theorem Zm(o:AB)(q:List AB)(t:AB):q.length≤(stepO o q t).length:=by
 unfold stepO
 split
 ·split
  ·exact Nat.le_refl _
  ·rw[List.length_append];omega
 ·rw[List.length_append];omega
theorem ah(once:Bool)(o:AB)(s:List AB)(t:AB):(BG once o s).length≤(BG once o (s++[t])).length:=by
 unfold BG;split
 ·rw[Js];exact Zm _ _ _
 ·rw[List.length_append];omega
def Eh(once:Bool)(o:AB)(hh:Nat)(s:List AB):Nat:=(BG once o s).length/hh
theorem Jk(once:Bool)(o:AB)(hh:Nat)(s:List AB):Eh once o hh s≤s.length:=Nat.le_trans (Nat.div_le_self _ _) (Nv once o s)
theorem R8(once:Bool)(o:AB)(hh:Nat)(s:List AB)(t:AB)(m:Nat):m+Eh once o hh s+((BG once o (s++[t])).length/hh-(BG once o s).length/hh)=m+Eh once o hh (s++[t]):=by
 have:=Nat.div_le_div_right (c:=hh) (ah once o s t)
 unfold Eh;omega
theorem UZ(r:Nat)(w:World):Sem.run Tryz.prog (method 335 157 (.pointer (some ⟨r,0,none⟩)) "Next") w=.ok (161,.pointer (some ⟨r,0,none⟩)) w:=by kernel_rfl
section
variable {X : Cx} {AP : List AW} {o : AB} {once : Bool} {k hh bd xw tT fP n : Nat} {vT : Value} {Z : List AB → List AW} {bx rd : AW} {r b g M q m : Nat} {s0 l : List AB} {W : World}
def GO(AP:List AW)(Z:List AB→List AW)(bx rd:AW)(b g M k q r:Nat)(o:AB)(s l:List AB)(told:Nat):List AW:=AP++Z s++[bx,rd,CX b g M k l,AI r 161 (FZ k g (q*k) M o told)]
theorem Zy(hS:dI X o once k hh bd xw tT fP vT Z n)(hk:0<k∧k≤5)(hM:q*k≤M∧M≤1000000∧q≤1000000)(hl:l.length=q)(hf:Ds k l)(hbd:s0.length+q≤bd)(hn:X.N+m+(s0.length+q)<1000000)
  (h:Wd X (GO AP Z bx rd b g M k q r o s0 l 0) (m+Eh once o hh s0) W):
  Calls Tryz.prog 71 #[.iface 157 (.pointer (some ⟨r,0,none⟩)),.iface tT vT] W fun e w'=>
   (e=.returned (.int .i64 0)∧Wd X (GO AP Z bx rd b g M k q r o (s0++l) l q) (m+Eh once o hh (s0++l)) w')∨
   (e=.returned (.int .i64 6)∧¬X.cm∧∃z m' told,Tn X xw n z∧Wd X (AP++z++[bx,rd,CX b g M k l,AI r 161 (FZ k g (q*k) M o told)]) m' w'):=by
 have Pw:∀told,told≤q→(s0++l.take told).length=s0.length+told:=fun told ht=>by rw[List.length_append,List.length_take];omega
 refine Se (n:=q) (J:=fun j w=>∃told,told+j=q∧Wd X (GO AP Z bx rd b g M k q r o (s0++l.take told) l told) (m+Eh once o hh (s0++l.take told)) w)
  (Jm:=fun t j w=>∃told,told+1+j=q∧l[told]?=some t∧Wd X (GO AP Z bx rd b g M k q r o (s0++l.take told) l (told+1)) (m+Eh once o hh (s0++l.take told)) w)
  (E:=fun w=>Wd X (GO AP Z bx rd b g M k q r o (s0++l) l q) (m+Eh once o hh (s0++l)) w)
  (Er:=fun w=>¬X.cm∧∃z m' told,Tn X xw n z∧Wd X (AP++z++[bx,rd,CX b g M k l,AI r 161 (FZ k g (q*k) M o told)]) m' w)
  (UZ r) hS.mm (fun args w=>by kernel_rfl) hS.me ?_ ?_ ?_ ?_ ?_ ⟨0,by omega,by rw[List.take_zero,List.append_nil];exact h⟩
 ·rintro j w ⟨told,ht,h1⟩
  have hr:(GO AP Z bx rd b g M k q r o (s0++l.take told) l told)[AP.length+n+3]?=some (AI r 161 (FZ k g (q*k) M o told)):=CA (j:=3) (hS.len _)
  have hg:(GO AP Z bx rd b g M k q r o (s0++l.take told) l told)[AP.length+n+2]?=some (CX b g M k l):=CA (j:=2) (hS.len _)
  rcases Nat.eq_or_lt_of_le (show told≤q by omega)with he|hlt
  ·subst he
   refine(Qn h1 hr hg hk hM hl hf).mono ?_
   rintro e w' ⟨he,h2⟩
   refine .inr (.inl ⟨he,?_⟩)
   rwa [List.take_of_length_le (by omega)]at h2
  ·have hx:l[told]?=some (l[told]'(by omega)):=List.getElem?_eq_getElem _
   refine(ZR h1 hr hg hk hM hl hlt hf hx).mono ?_
   rintro e w' ⟨he,h2⟩
   refine .inl ⟨_,j-1,he,by omega,told,by omega,hx,?_⟩
   have e1:(GO AP Z bx rd b g M k q r o (s0++l.take told) l told).set (AP.length+n+3) (AI r 161 (FZ k g (q*k) M o (told+1)))=GO AP Z bx rd b g M k q r o (s0++l.take told) l (told+1):=Cj (j:=3) (hS.len _)
   rw[e1]at h2;exact h2
 ·rintro t j w ⟨told,ht,hx,h1⟩
  have hle:=Jk once o hh (s0++l.take told)
  rw[Pw told (by omega)]at hle
  refine(hS.put AP _ _ _ t w h1 (hf t (List.mem_of_getElem? hx)).2 (by rw[Pw told (by omega)];omega) (by omega)).mono ?_
  have e1:s0++l.take told++[t]=s0++l.take (told+1):=by rw[List.append_assoc,List.take_add_one,hx];rfl
  rintro e w' (⟨he,h2⟩|⟨he,hc,z,m',hz,h2⟩)
  ·rw[R8,e1]at h2
   exact .inl ⟨he,told+1,by omega,h2⟩
  ·exact .inr ⟨he,hc,z,m',told+1,hz,h2⟩
 ·rintro t j w w' ⟨told,ht,hx,h1⟩ hb
  exact⟨told,ht,hx,h1.below hb⟩
 ·exact fun w w' h1 hb=>h1.below hb
 ·rintro w w' ⟨hc,z,m',told,hz,h1⟩ hb
  exact⟨hc,z,m',told,hz,h1.below hb⟩
end
def UA(o:AB)(q:Nat)(s:List AB):Prop:=∀j,Hl o ((s.drop (j*q)).take q)
theorem K7(o:AB):Hl o []:=by simp[Hl]
theorem cq{o:AB}{a b c d:List AB}(h1:Cl o a b)(h2:Cl o c d):Cl o (a++c) (b++d):=fun t=>by rw[List.filter_append,List.filter_append,h1 t,h2 t]
theorem Tj{o:AB}{q i:Nat}{s r:List AB}(h:UA o q s)(hs:s.length=i*q)(hr:Hl o r)(hq:r.length≤q):UA o q (s++r):=fun j=>by
 rcases Nat.lt_trichotomy j i with hlt|he|hgt
 ·have h1:j*q+q≤i*q:=by
   have:=Nat.mul_le_mul_right q (show j+1≤i from hlt)
   rw[Nat.add_mul,Nat.one_mul]at this;exact this
  rw[List.drop_append_of_le_length (by omega),List.take_append_of_le_length (by rw[List.length_drop];omega)]
  exact h j
 ·subst he
  rw[←hs,List.drop_left,List.take_of_length_le hq];exact hr
 ·have h1:i*q+q≤j*q:=by
   have:=Nat.mul_le_mul_right q (show i+1≤j from hgt)
   rw[Nat.add_mul,Nat.one_mul]at this;exact this
  rw[List.drop_eq_nil_of_le (by rw[List.length_append];omega),List.take_nil];exact K7 o
def Bh(w k hh rb An:Nat)(o:AB)(once:Bool)(cnt:Nat):List Value:=[.int .i64 k,.int .i64 hh,.int .i64 rb,.int .i64 An,.pointer (some ⟨w,0,none⟩),.int .i64 o.a,.int .i64 o.b,.int .i64 o.c,.int .i64 o.d,.int .i64 o.e,.bool once,.int .i64 cnt]
def Ml(X:Cx)(x bd n:Nat)(Z:List AB→List AW)(z:List AW):Prop:=(∃s,s.length≤bd∧z=Z s)∨Tn X x n z
theorem Uf{a z b:List AW}{j:Nat}{v:AW}(h:a[j]?=some v):(a++z++b)[j]?=some v:=by
 have hj:j<a.length:=by
  rcases Nat.lt_or_ge j a.length with hl|hl
  ·exact hl
  ·rw[List.getElem?_eq_none hl]at h;cases h
 rw[List.append_assoc,List.getElem?_append_left hj];exact h
structure FP where
 X:Cx
 AP:List AW
 Z:List AB→List AW
 o:AB
 once:Bool
 k:Nat
 hh:Nat
 bd:Nat
 xw:Nat
 tT:Nat
 fP:Nat
 vT:Value
 n:Nat
 first:Nat
 nb:Nat
 count:Nat
 q:Nat
 m:Nat
 fb:Nat
 x:Nat
 b:Nat
 g:Nat
 tb:Nat
 tg:Nat
 l:List AB
def FP.rt(P:FP):Rt:=⟨P.k,P.hh,P.first,P.nb,P.count,0,P.b,P.g⟩
def FP.bx(P:FP):AW:=AI P.fb 39 [.int .i64 P.first,.int .i64 P.nb,.int .i64 P.k,.int .i64 P.count]
def FP.rd(P:FP)(c:Nat):AW:=DZ P.X.p P.x (DH P.rt c) P.X.sz P.l
def FP.tp(P:FP)(l:List AB):AW:=CX P.tb P.tg (P.q*P.k) P.k l
def FP.run(P:FP)(r q told:Nat):AW:=AI r 161 (FZ P.k P.tg (q*P.k) (P.q*P.k) P.o told)
def FP.mm(P:FP)(c:Nat)(s:List AB):Nat:=P.m+AA P.hh c+Eh P.once P.o P.hh s
structure FP.Ok (P:FP):Prop where
 S:dI P.X P.o P.once P.k P.hh P.bd P.xw P.tT P.fP P.vT P.Z P.n
 f:NA P.first P.nb P.k P.hh P.l P.X.sz
 c:P.l.length=P.count
 src:Src P.AP P.X.sz P.first P.k P.hh P.l
 q:P.q≤P.count∧P.q*P.k≤1000000
 bd:P.count≤P.bd∧P.bd≤100000
 n:P.X.N+P.m+3*P.count+3≤1000000
 rok:Ft P.rt P.X.sz
structure FP.oS (P:FP) (c:Nat) (s:List AB):Prop where
 len:s.length=c
 asc:UA P.o P.q s
 cl:Cl P.o (P.l.take c) s
 fit:Ds P.k s
def FP.A(P:FP)(c:Nat)(W:World):Prop:=∃s,P.oS c s∧Wd P.X (P.AP++P.Z s++[P.bx,P.rd c,P.tp []]) (P.mm c s) W
def FP.nx(P:FP)(c:Nat):Nat:=min P.q (P.count-c)
def FP.B(P:FP)(c r:Nat)(W:World):Prop:=∃s,P.oS c s∧Wd P.X (P.AP++P.Z s++[P.bx,P.rd c,P.tp [],P.run r (P.nx c) 0]) (P.mm c s) W
def FP.C(P:FP)(c r:Nat)(W:World):Prop:=∃s,P.oS c s∧Wd P.X (P.AP++P.Z s++[P.bx,P.rd (c+P.nx c),P.tp ((P.l.drop c).take (P.nx c)),P.run r (P.nx c) 0]) (P.mm (c+P.nx c) s) W
def FP.D(P:FP)(c r:Nat)(W:World):Prop:=∃s l',P.oS c s∧(Hl P.o l'∧Cl P.o ((P.l.drop c).take (P.nx c)) l'∧l'.length=P.nx c∧Ds P.k l')∧Wd P.X (P.AP++P.Z s++[P.bx,P.rd (c+P.nx c),P.tp l',P.run r (P.nx c) 0]) (P.mm (c+P.nx c) s) W
def FP.No(P:FP)(W:World):Prop:=¬P.X.cm∧∃z rd tl l' m',Ml P.X P.xw P.bd P.n P.Z z∧((∃c,rd=P.rd c)∨∃r',rd=Ot P.X.p P.x r')∧GX tl∧Wd P.X (P.AP++z++P.bx::rd::P.tp l'::tl) m' W
section
variable {P : FP} {c r : Nat} {W W' : World}
theorem FP.aV(hP:P.Ok){s:List AB}(hs:s.length≤c)(hc:c≤P.count):P.X.N+P.mm c s+P.count+3≤1000000:=by
 have h1:=Jk P.once P.o P.hh s
 have h2:=Fj (h:=P.hh) hP.f.hh.1 0 c
 rw[Nat.zero_add,A7]at h2
 have h3:=hP.n
 unfold FP.mm;omega
theorem FP.aR(c:Nat):P.nx c≤P.q∧P.nx c≤P.count-c:=⟨Nat.min_le_left _ _,Nat.min_le_right _ _⟩
theorem FP.toB(h:P.A c W){g:Nat}(hb:Below W.heap.size W W')(hr:Row W' g 161 (FZ P.k P.tg (P.nx c*P.k) (P.q*P.k) P.o 0))(hg:W.heap.size≤g):P.B c g W':=by
 obtain⟨s,h1,h2⟩:=h
 refine⟨s,h1,?_⟩
 have h3:=h2.new hb hr hg
 rw[List.append_assoc]at h3
 exact h3
theorem FP.B.load(hP:P.Ok)(hc:c≤P.count)(h:P.B c r W):Calls Tryz.prog 92 #[.pointer (some ⟨r,0,none⟩),.iface 101 (.pointer (some ⟨P.x,0,none⟩))] W fun e w'=>(e=.returned (.int .i64 0)∧P.C c r w')∨(e=.returned (.int .i64 6)∧P.No w'):=by
 obtain⟨s,h1,h2⟩:=h
 have hn:=P.aR c
 have hq:=hP.q
 have hlen:=hP.S.len s
 have hx:(P.AP++P.Z s++[P.bx,P.rd c,P.tp [],P.run r (P.nx c) 0])[P.AP.length+P.n+1]?=some (DZ P.X.p P.x (DH P.rt c) P.X.sz P.l):=CA (j:=1) hlen
 have hg:(P.AP++P.Z s++[P.bx,P.rd c,P.tp [],P.run r (P.nx c) 0])[P.AP.length+P.n+2]?=some (CX P.tb P.tg (P.q*P.k) P.k []):=CA (j:=2) hlen
 have hr:(P.AP++P.Z s++[P.bx,P.rd c,P.tp [],P.run r (P.nx c) 0])[P.AP.length+P.n+3]?=some (AI r 161 (FZ P.k P.tg (P.nx c*P.k) (P.q*P.k) P.o 0)):=CA (j:=3) hlen
 have hmm:=P.aV hP (Nat.le_of_eq h1.len) hc
 have yG:iU (DH P.rt c) P.X.sz P.l:=⟨⟨hP.rok.k,hP.rok.h,hP.rok.sz,⟨hP.rok.count.1,by show 0+c≤P.count;omega⟩,hP.rok.first⟩,hP.c,hP.f.fit⟩
 have B4:Src (P.AP++P.Z s++[P.bx,P.rd c,P.tp [],P.run r (P.nx c) 0]) P.X.sz (DH P.rt c).first (DH P.rt c).k (DH P.rt c).h P.l:=by
  obtain⟨j,f,hj,h3⟩:=hP.src
  exact⟨j,f,Uf hj,h3⟩
 refine(ep h2 hr hg hx (by omega) (by omega) (by omega) hP.f.kk ⟨Nat.mul_le_mul_right _ hn.1,hq.2,by have:=hP.bd;omega⟩ yG B4 (by show 0+c+P.nx c≤P.count;omega) (by omega)).mono ?_
 rintro e w' (⟨he,h3⟩|⟨he,Dn,rA,l',m',h3⟩)
 ·refine .inl ⟨he,s,h1,?_⟩
  unfold I7 at h3
  rw[Cj hlen,Cj hlen]at h3
  have e1:P.mm c s+(AA (DH P.rt c).h ((DH P.rt c).pos+P.nx c)-AA (DH P.rt c).h (DH P.rt c).pos)=P.mm (c+P.nx c) s:=by
   have:=Aq (h:=P.hh) (c:=c) (c':=c+P.nx c) hP.f.hh.1 (by omega)
   show P.mm c s+(AA P.hh (0+c+P.nx c)-AA P.hh (0+c))= _
   rw[Nat.zero_add]
   unfold FP.mm;omega
  rw[e1]at h3
  have e2:DH (DH P.rt c) (P.nx c)=DH P.rt (c+P.nx c):=by
   show ({P.rt with pos:=0+c+P.nx c}:Rt)={P.rt with pos:=0+(c+P.nx c)}
   rw[Nat.add_assoc]
  rw[e2,show (DH P.rt c).pos=c from Nat.zero_add c]at h3
  exact h3
 ·refine .inr ⟨he,Dn,P.Z s,_,[P.run r (P.nx c) 0],l',m',.inl ⟨s,by rw[h1.len];have:=hP.bd;omega,rfl⟩,.inr ⟨rA,rfl⟩,fun q hq=>by rw[List.mem_singleton.1 hq];exact⟨rfl,rfl⟩,?_⟩
  rw[Cj hlen,Cj hlen]at h3
  exact h3
theorem FP.C.l5(hP:P.Ok)(h:P.C c r W):Calls Tryz.prog 93 #[.iface 157 (.pointer (some ⟨r,0,none⟩))] W fun e w'=>e=.returned (.tuple #[])∧P.D c r w':=by
 obtain⟨s,h1,h2⟩:=h
 have hn:=P.aR c
 have hq:=hP.q
 have hlen:=hP.S.len s
 have My:((P.l.drop c).take (P.nx c)).length=P.nx c:=by rw[List.length_take,List.length_drop,hP.c];omega
 have hg:(P.AP++P.Z s++[P.bx,P.rd (c+P.nx c),P.tp ((P.l.drop c).take (P.nx c)),P.run r (P.nx c) 0])[P.AP.length+P.n+2]?=some (CX P.tb P.tg (P.q*P.k) P.k ((P.l.drop c).take (P.nx c))):=CA (j:=2) hlen
 have hr:(P.AP++P.Z s++[P.bx,P.rd (c+P.nx c),P.tp ((P.l.drop c).take (P.nx c)),P.run r (P.nx c) 0])[P.AP.length+P.n+3]?=some (AI r 161 (FZ P.k P.tg (P.nx c*P.k) (P.q*P.k) P.o 0)):=CA (j:=3) hlen
 refine(XH h2 hr hg (by omega) hP.f.kk ⟨Nat.mul_le_mul_right _ hn.1,hq.2,by have:=hP.bd;omega⟩ My (Nat.zero_le _) fun u hu=>hP.f.fit u (List.mem_of_mem_drop (List.mem_of_mem_take hu))).mono ?_
 rintro e w' ⟨he,l',k1,k2,k3,k4,k5⟩
 refine⟨he,s,l',h1,⟨k1,k2,k3,k4⟩,?_⟩
 rw[Cj hlen]at k5
 exact k5
theorem iN{k:Nat}{a b:List AB}(h1:Ds k a)(h2:Ds k b):Ds k (a++b):=fun u hu=>(List.mem_append.1 hu).elim (h1 u) (h2 u)
theorem FP.D.mO(hP:P.Ok)(hc:c<P.count){i:Nat}(hi:c=i*P.q)(h:P.D c r W):Calls Tryz.prog 71 #[.iface 157 (.pointer (some ⟨r,0,none⟩)),.iface P.tT P.vT] W fun e w'=>(e=.returned (.int .i64 0)∧P.A (c+P.nx c) w')∨(e=.returned (.int .i64 6)∧P.No w'):=by
 obtain⟨s,l',h1,⟨k1,k2,k3,k4⟩,h2⟩:=h
 have hn:=P.aR c
 have hq:=hP.q
 have hbd:=hP.bd
 have hmm:=P.aV hP (c:=c+P.nx c) (s:=s) (by rw[h1.len];omega) (by omega)
 have hmn:=P.aV hP (c:=c) (s:=[]) (by simp) (by omega)
 have qO:Wd P.X (GO P.AP P.Z P.bx (P.rd (c+P.nx c)) P.tb P.tg (P.q*P.k) P.k (P.nx c) r P.o s l' 0) (P.m+AA P.hh (c+P.nx c)+Eh P.once P.o P.hh s) W:=h2
 refine(Zy hP.S hP.f.kk ⟨Nat.mul_le_mul_right _ hn.1,hq.2,by omega⟩ k3 k4 (by rw[h1.len];omega) (by
  rw[h1.len]
  have e1:P.mm (c+P.nx c) s=P.m+AA P.hh (c+P.nx c)+Eh P.once P.o P.hh s:=rfl
  omega) qO).mono ?_
 rintro e w' (⟨he,h3⟩|⟨he,Dn,z,m',told,hz,h3⟩)
 ·refine .inl ⟨he,s++l',⟨by rw[List.length_append,h1.len,k3],Tj h1.asc (by rw[h1.len];exact hi) k1 (by omega),?_,iN h1.fit k4⟩,?_⟩
  ·rw[List.take_add];exact cq h1.cl k2
  ·have h4:Wd P.X ((P.AP++P.Z (s++l')++[P.bx,P.rd (c+P.nx c)])++P.tp l'::[P.run r (P.nx c) (P.nx c)]) (P.mm (c+P.nx c) (s++l')) w':=by
    have h5:Wd P.X (P.AP++P.Z (s++l')++[P.bx,P.rd (c+P.nx c),P.tp l',P.run r (P.nx c) (P.nx c)]) (P.mm (c+P.nx c) (s++l')) w':=h3
    simpa using h5
   have h6:Wd P.X (P.AP++P.Z (s++l')++[P.bx,P.rd (c+P.nx c),P.tp l']++P.run r (P.nx c) (P.nx c)::[]) (P.mm (c+P.nx c) (s++l')) w':=by simpa using h4
   have h7:=h6.cut rfl rfl
   rw[List.append_nil]at h7
   have hg:(P.AP++P.Z (s++l')++[P.bx,P.rd (c+P.nx c),P.tp l'])[P.AP.length+P.n+2]?=some (CX P.tb P.tg (P.q*P.k) P.k l'):=CA (j:=2) (hP.S.len _)
   have h8:=h7.ZO hg (a':=CX P.tb P.tg (P.q*P.k) P.k []) Qt (fun⟨q1,ws,q2,q3,q4⟩=>⟨q1,ws,q2,q3,by simp[BC]⟩) (fun _ hk=>hk) rfl rfl (fun _ _=>trivial)
   rw[Cj (hP.S.len _)]at h8
   exact h8
 ·exact .inr ⟨he,Dn,z,_,[P.run r (P.nx c) told],l',m',.inr hz,.inl ⟨_,rfl⟩,fun q hq=>by rw[List.mem_singleton.1 hq];exact⟨rfl,rfl⟩,h3⟩
def FP.Fin(P:FP)(er:Int)(z:List AW)(m':Nat):Prop:=(er=0∧∃s,z=P.Z s∧P.oS P.count s∧m'=P.mm P.count s)∨(er=6∧¬P.X.cm∧Ml P.X P.xw P.bd P.n P.Z z)
def FP.G0(P:FP)(er:Int)(W:World):Prop:=∃z rd tl l' m',P.Fin er z m'∧((∃c,rd=P.rd c)∨∃r',rd=Ot P.X.p P.x r')∧GX tl∧Wd P.X (P.AP++z++P.bx::rd::P.tp l'::tl) m' W
def FP.G1(P:FP)(er:Int)(W:World):Prop:=∃z rd tl m',P.Fin er z m'∧((∃c,rd=P.rd c)∨∃r',rd=Ot P.X.p P.x r')∧GX tl∧Wd P.X (P.AP++z++P.bx::rd::Bi::tl) m' W
def FP.G2(P:FP)(er:Int)(W:World):Prop:=∃z m',P.Fin er z m'∧Wd P.X (P.AP++z) m' W
theorem FP.A.fin(h:P.A P.count W):P.G0 0 W:=by
 obtain⟨s,h1,h2⟩:=h
 exact⟨P.Z s,P.rd P.count,[],[],_,.inl ⟨rfl,s,rfl,h1,rfl⟩,.inl ⟨_,rfl⟩,fun q hq=>(List.not_mem_nil hq).elim,h2⟩
theorem FP.No.fin(h:P.No W):P.G0 6 W:=by
 obtain⟨h1,z,rd,tl,l',m',h2,h3,h4,h5⟩:=h
 exact⟨z,rd,tl,l',m',.inr ⟨rfl,h1,h2⟩,h3,h4,h5⟩
theorem FP.Fin.len(hP:P.Ok){er:Int}{z:List AW}{m':Nat}(h:P.Fin er z m'):z.length=P.n:=by
 rcases h with⟨_,s,rfl,_⟩|⟨_,_,⟨s,_,rfl⟩|⟨t,r',_,h,_⟩⟩
 ·exact hP.S.len s
 ·exact hP.S.len s
 ·exact h
theorem FP.G0.release(hP:P.Ok){er:Int}(u:FrameMode)(h:P.G0 er W):CallsD Tryz.prog 80 #[.pointer (some ⟨P.X.p.a,0,none⟩),.pointer (some ⟨P.tb,0,none⟩)] u W fun e u' w'=>u'=u∧(e=.returned (.bool true)∧P.G1 er w'):=by
 obtain⟨z,rd,tl,l',m',h1,h2,h3,h4⟩:=h
 have hg:(P.AP++z++P.bx::rd::P.tp l'::tl)[P.AP.length+P.n+2]?=some (P.tp l'):=CA (j:=2) (h1.len hP)
 refine(Ia u (b:=P.tb) (g:=P.tg) (M:=P.q*P.k) h4 hg (fun _=>Iff.rfl) rfl rfl).mono ?_
 rintro e u' w' ⟨hu,he,h5⟩
 rw[Cj (h1.len hP)]at h5
 exact⟨hu,he,z,rd,tl,m',h1,h2,h3,h5⟩
theorem FP.G1.close(hP:P.Ok){er:Int}(u:FrameMode)(h:P.G1 er W):CallsD Tryz.prog 51 #[.pointer (some ⟨P.x,0,none⟩)] u W fun e u' w'=>u'=u∧(e=.returned (.tuple #[])∧P.G2 er w'):=by
 obtain⟨z,rd,tl,m',h1,h2,h3,h4⟩:=h
 have hlen:=h1.len hP
 have Ix:∀r' w',Wd P.X (P.AP++z++P.bx::Ot P.X.p P.x r'::Bi::tl) m' w'→P.G2 er w':=fun r' w' h5=>by
  have h6:Wd P.X (P.AP++z++(P.bx::Ot P.X.p P.x r'::Bi::tl)++[]) m' w':=by rw[List.append_nil];exact h5
  have h7:=Wd.iP _ (fun q hq=>by
   rcases List.mem_cons.1 hq with rfl|hq
   ·exact⟨rfl,rfl⟩
   ·rcases List.mem_cons.1 hq with rfl|hq
    ·exact⟨rfl,rfl⟩
    ·rcases List.mem_cons.1 hq with rfl|hq
     ·exact⟨rfl,rfl⟩
     ·exact h3 q hq) h6
  rw[List.append_nil]at h7
  exact⟨z,m',h1,h7⟩
 rcases h2 with⟨c,rfl⟩|⟨r',rfl⟩
 ·have hx:(P.AP++z++P.bx::P.rd c::Bi::tl)[P.AP.length+P.n+1]?=some (DZ P.X.p P.x (DH P.rt c) P.X.sz P.l):=CA (j:=1) hlen
  refine(JU u h4 hx).mono ?_
  rintro e u' w' ⟨hu,he,h5⟩
  rw[Cj hlen]at h5
  exact⟨hu,he,Ix _ _ h5⟩
 ·have hx:(P.AP++z++P.bx::Ot P.X.p P.x r'::Bi::tl)[P.AP.length+P.n+1]?=some (Ot P.X.p P.x r'):=CA (j:=1) hlen
  refine(Ma u (h4.at_ hx)).mono ?_
  rintro e u' w' ⟨hu,he,rfl⟩
  exact⟨hu,he,Ix _ _ h4⟩
theorem FP.A.below(h:P.A c W)(hb:Below W.heap.size W W'):P.A c W':=by obtain⟨s,h1,h2⟩:=h;exact⟨s,h1,h2.below hb⟩
theorem FP.G0.below{er:Int}(h:P.G0 er W)(hb:Below W.heap.size W W'):P.G0 er W':=by
 obtain⟨z,rd,tl,l',m',h1,h2,h3,h4⟩:=h
 exact⟨z,rd,tl,l',m',h1,h2,h3,h4.below hb⟩
theorem FP.A.rows(hP:P.Ok){Mv:Bool}{js sb w rb An:Nat}(Li:P.AP[js]?=some (AI sb 98 (Bh w P.k P.hh rb An P.o Mv P.bd)))(h:P.A c W):
  Row W sb 98 (Bh w P.k P.hh rb An P.o Mv P.bd)∧Row W P.fb 39 [.int .i64 P.first,.int .i64 P.nb,.int .i64 P.k,.int .i64 P.count]∧Row W P.tb 126 [.slice (some ⟨P.tg,0,none⟩) (P.q*P.k) (P.q*P.k)]:=by
 obtain⟨s,h1,h2⟩:=h
 have hb:(P.AP++P.Z s++[P.bx,P.rd c,P.tp []])[P.AP.length+P.n+0]?=some P.bx:=CA (j:=0) (hP.S.len s)
 have hg:(P.AP++P.Z s++[P.bx,P.rd c,P.tp []])[P.AP.length+P.n+2]?=some (P.tp []):=CA (j:=2) (hP.S.len s)
 exact⟨h2.row (Uf Li),h2.row hb,(h2.at_ hg).1⟩
end
section
variable {X : Cx} {AP : List AW} {o : AB} {once Mv : Bool} {k hh bd xw tT fP n : Nat} {vT : Value} {Z : List AB → List AW} {js sb rb An first nb count m : Nat} {l : List AB} {W : World}
theorem ey(hS:dI X o once k hh bd xw tT fP vT Z n)(Li:AP[js]?=some (AI sb 98 (Bh X.p.w k hh rb An o Mv bd)))
  (h:Wd X (AP++Z []) m W) (hok:NA first nb k hh l X.sz) (hc:l.length=count) (B4:Src AP X.sz first k hh l)
  (hrb:0<rb∧rb≤100000) (hroom:X.sz+(min count (rb*hh)*k)+Ac AW.gw (AP++Z [])≤X.rm) (Av:X.rm≤1000000) (hbd:count≤bd∧bd≤100000) (hn:X.N+m+3*count+3≤1000000):
  Calls Tryz.prog 75 #[.pointer (some ⟨sb,0,none⟩),.agg #[.int .i64 first,.int .i64 nb,.int .i64 k,.int .i64 count],.iface tT vT] W fun e w'=>
   (e=.returned (.int .i64 0)∧∃s,s.length=count∧UA o (rb*hh) s∧Cl o l s∧Ds k s∧Wd X (AP++Z s) (m+nb+Eh once o hh s) w')∨
   (e=.returned (.int .i64 6)∧¬X.cm∧∃z m',Ml X xw bd n Z z∧Wd X (AP++z) m' w'):=by
 have By:=hS.len []
 have nu:∀W z Po m,Wd X (AP++z++Po) m W→Row W sb 98 (Bh X.p.w k hh rb An o Mv bd):=fun W z Po m h=>h.row (Uf Li)
 obtain⟨W1,B8⟩:∃W1,W1=W.alloc (.cells #[.int .i64 first,.int .i64 nb,.int .i64 k,.int .i64 count] 39):=⟨_,rfl⟩
 have Am:Below W.heap.size W W1:=by rw[B8];exact(Below.refl _ _).alloc (Nat.le_refl _) _
 have Bl:Row W1 W.heap.size 39 [.int .i64 first,.int .i64 nb,.int .i64 k,.int .i64 count]:=by rw[B8];exact heap_alloc_new _ _
 have h1:Wd X (AP++Z []++[AI W.heap.size 39 [.int .i64 first,.int .i64 nb,.int .i64 k,.int .i64 count]]) m W1:=h.new Am Bl (Nat.le_refl _)
 have Ef:=Lib.hid B8
 generalize Pz:W.heap.size=fb at*
 generalize hM:min count (rb*hh)=q at*
 have hqc:q≤count∧q≤rb*hh:=by rw[←hM];exact⟨Nat.min_le_left _ _,Nat.min_le_right _ _⟩
 let P0:Nat→Nat→Nat→Nat→Nat→FP:=fun x b g tb tg=>⟨X,AP,Z,o,once,k,hh,bd,xw,tT,fP,vT,n,first,nb,count,q,m,fb,x,b,g,tb,tg,l⟩
 have Iv:Ac AW.gw (AP++Z []++[AI fb 39 [.int .i64 first,.int .i64 nb,.int .i64 k,.int .i64 count]])=Ac AW.gw (AP++Z []):=by rw[DF];rfl
 have PS:Hid (∀d,Calls Tryz.prog 50 #[.pointer (some ⟨X.p.w,0,none⟩),.agg #[.int .i64 first,.int .i64 nb,.int .i64 k,.int .i64 count]] (W1.drewN d) fun e w'=>∃x b g,e=.returned (.tuple #[.pointer (some ⟨x,0,none⟩),.int .i64 0])∧
   Ft (⟨k,hh,first,nb,count,0,b,g⟩:Rt) X.sz∧Wd X (AP++Z []++[AI fb 39 [.int .i64 first,.int .i64 nb,.int .i64 k,.int .i64 count],DZ X.p x ⟨k,hh,first,nb,count,0,b,g⟩ X.sz l]) m w'):=fun d=>by
  have h2:=Qo (h1.drewN d) first nb k hh count l hok.Ow hok.hh.1 (by rw[←hc];exact hok.bn) (by omega) hok.fst (by rw[Iv];omega)
  refine h2.mono ?_
  rintro e w' ⟨x,b,g,h3,h4,h5⟩
  refine⟨x,b,g,h3,h4,?_⟩
  rw[List.append_assoc]at h5
  exact h5
 have Vj:Hid (∀x b g W,Ft (⟨k,hh,first,nb,count,0,b,g⟩:Rt) X.sz→Wd X (AP++Z []++[AI fb 39 [.int .i64 first,.int .i64 nb,.int .i64 k,.int .i64 count],DZ X.p x ⟨k,hh,first,nb,count,0,b,g⟩ X.sz l]) m W→
   Calls Tryz.prog 63 #[.pointer (some ⟨X.p.a,0,none⟩),.int .i64 ((q*k:Nat):Int)] W fun e w'=>∃tb tg,e=.returned (.tuple #[.pointer (some ⟨tb,0,none⟩),.int .i64 0])∧(P0 x b g tb tg).Ok∧(P0 x b g tb tg).A 0 w'):=fun x b g W EL h2=>by
  have bO:q*k≤1000000:=by omega
  have CP:Ac AW.gw (AP++Z []++[AI fb 39 [.int .i64 first,.int .i64 nb,.int .i64 k,.int .i64 count],DZ X.p x ⟨k,hh,first,nb,count,0,b,g⟩ X.sz l])=Ac AW.gw (AP++Z [])+X.sz:=by
   rw[BO,Bf,Bf]
   show _+(0+(X.sz+0))= _
   omega
  refine(SB h2 (q*k) (by rw[CP];omega) bO).mono ?_
  rintro e w' ⟨tb,tg,he,h3⟩
  refine⟨tb,tg,he,⟨hS,hok,hc,B4,⟨hqc.1,bO⟩,hbd,hn,EL⟩,[],⟨rfl,fun j=>by rw[List.drop_nil,List.take_nil];exact K7 o,by rw[List.take_zero];exact Cl.refl _ _,fun u hu=>by cases hu⟩,?_⟩
  rw[List.append_assoc]at h3
  have h4:Wd X (AP++Z []++[AI fb 39 [.int .i64 first,.int .i64 nb,.int .i64 k,.int .i64 count],DZ X.p x ⟨k,hh,first,nb,count,0,b,g⟩ X.sz l,kf tb tg (q*k)]) m w':=h3
  have sd:(AP++Z []++[AI fb 39 [.int .i64 first,.int .i64 nb,.int .i64 k,.int .i64 count],DZ X.p x ⟨k,hh,first,nb,count,0,b,g⟩ X.sz l,kf tb tg (q*k)])[AP.length+n+2]?=some (kf tb tg (q*k)):=CA (j:=2) By
  have h5:=h4.ZO sd (a':=CX tb tg (q*k) k []) Qt (fun⟨q1,ws,q2,q3⟩=>⟨q1,ws,q2,q3,by simp[BC]⟩) (fun _ hk=>hk) rfl rfl (fun _ _=>trivial)
  rw[Cj By]at h5
  show Wd X (AP++Z []++[AI fb 39 [.int .i64 first,.int .i64 nb,.int .i64 k,.int .i64 count],DZ X.p x (DH ⟨k,hh,first,nb,count,0,b,g⟩ 0) X.sz l,CX tb tg (q*k) k []]) (m+AA hh 0+(BG once o []).length/hh) w'
  have e1:(BG once o []).length/hh=0:=by
   have:(BG once o []).length=0:=by unfold BG;split<;>rfl
   rw[this,Nat.zero_div]
  rw[e1,A7]
  exact h5
 have On:Hid (∀z Po m W,Wd X (AP++z++Po) m W→Calls Tryz.prog 13 #[.pointer (some ⟨X.p.w,0,none⟩)] W fun e w'=>e=.returned (.pointer (some ⟨X.p.a,0,none⟩))∧w'=W):=fun z Po m W h=>LR h
 have O5:Hid (∀(Po:List AW) (m:Nat) (W:World),Wd X (AP++Z []++AI fb 39 [.int .i64 first,.int .i64 nb,.int .i64 k,.int .i64 count]::Po) m W→
   Row W sb 98 (Bh X.p.w k hh rb An o Mv bd)∧Row W fb 39 [.int .i64 first,.int .i64 nb,.int .i64 k,.int .i64 count]):=fun Po m W h=>⟨nu _ _ _ _ h,h.row (CA (j:=0) By)⟩
 have Aw:Hid (∀x b g tb tg er w',(P0 x b g tb tg).G2 er w'→(er=0∧∃s,s.length=count∧UA o (rb*hh) s∧Cl o l s∧Ds k s∧Wd X (AP++Z s) (m+nb+Eh once o hh s) w')∨
   (er=6∧¬X.cm∧∃z m',Ml X xw bd n Z z∧Wd X (AP++z) m' w')):=fun x b g tb tg er w' h=>by
  obtain⟨z,m',h1,h2⟩:=h
  rcases h1 with⟨he,s,rfl,hp,rfl⟩|⟨he,Dn,hz⟩
  ·refine .inl ⟨he,s,hp.len,?_,?_,hp.fit,?_⟩
   ·have hlen:s.length=count:=hp.len
    have VC:UA o q s:=hp.asc
    intro j
    rcases Nat.lt_or_ge count (rb*hh)with hlt|hge
    ·have hq:q=count:=by omega
     cases j with
     |zero=>
      have h3:=VC 0
      rw[Nat.zero_mul,List.drop_zero,List.take_of_length_le (by omega)]at h3⊢
      exact h3
     |succ j=>
      have h4:rb*hh≤(j+1)*(rb*hh):=Nat.le_mul_of_pos_left _ (by omega)
      rw[List.drop_eq_nil_of_le (by omega),List.take_nil];exact K7 o
    ·have hq:q=rb*hh:=by omega
     rw[←hq];exact VC j
   ·have h3:Cl o (l.take count) s:=hp.cl
    rwa [List.take_of_length_le (by omega)]at h3
   ·have h3:Wd X (AP++Z s) (m+AA hh count+Eh once o hh s) w':=h2
    rwa [←hc,←hok.bn]at h3
  ·exact .inr ⟨he,Dn,z,m',hz,h2⟩
 have qh:=Lib.hid h1
 have DD:count≤100000:=by omega
 have MJ:0<hh∧hh≤254:=⟨hok.hh.1,hok.hh.2.2⟩
 have hkk:=hok.kk
 have Vd:=Lib.hid (O5.out [] m W1 h1)
 have HQ0:Hid (0<count→0<q):=fun h=>by rw[←hM];exact Nat.lt_min.2 ⟨h,Nat.mul_pos hrb.1 MJ.1⟩
 have sG:q*k≤1000000:=by omega
 clear h h1 Am Bl B8 Iv hok hc B4 hroom hn nu
 obtain⟨Q,hQ⟩:∃Q,rb*hh=Q:=⟨_,rfl⟩
 have hmul:(rb:Int)*(hh:Int)=(Q:Int):=by rw[←hQ];exact(Int.natCast_mul rb hh).symm
 have hQb:Q≤25400000:=by
  rw[←hQ];exact Nat.mul_le_mul hrb.2 MJ.2
 rw[hQ]at hM
 have HM:=Lib.hid hM
 obtain⟨N,hN⟩:∃N,q*k=N:=⟨_,rfl⟩
 have vo:(q:Int)*(k:Int)=(N:Int):=by rw[←hN];exact(Int.natCast_mul q k).symm
 rw[hN]at Vj
 have HPN:=Lib.hid hN
 have hNb:N≤1000000:=by rw[←hN];exact sG
 have hqb:q≤100000:=by omega
 clear hQ hM hN hqc sG
 go_enter_defers Tryz.func75,Tryz.ntmps75
 go_upto_region 1 with(fail)
 rw[←Ef.out]
 clear Ef
 have Bl:=PS.out 1
 rw[show W1.drewN 1=W1.drew from rfl]at Bl
 have Ee:=Lib.hid Bl
 clear Bl
 have TH:=Vd.out.1.cell 4
 have WY:W1.drew.cell? ⟨sb,4,none⟩=some (.pointer (some ⟨X.p.w,0,none⟩)):=Vd.out.1.cell 4
 have hb0:W1.drew.cell? ⟨fb,0,none⟩=some (.int .i64 first):=Vd.out.2.cell 0
 have Am:W1.drew.cell? ⟨fb,1,none⟩=some (.int .i64 nb):=Vd.out.2.cell 1
 have AZ:W1.drew.cell? ⟨fb,2,none⟩=some (.int .i64 k):=Vd.out.2.cell 2
 have A8:W1.drew.cell? ⟨fb,3,none⟩=some (.int .i64 count):=Vd.out.2.cell 3
 clear TH
 go_region_held3 (fun w'=>w'.cell? ⟨sb,4,none⟩=some (.pointer (some ⟨X.p.w,0,none⟩))∧w'.cell? ⟨fb,0,none⟩=some (.int .i64 first)∧w'.cell? ⟨fb,1,none⟩=some (.int .i64 nb)∧w'.cell? ⟨fb,2,none⟩=some (.int .i64 k)∧w'.cell? ⟨fb,3,none⟩=some (.int .i64 count)) (first|with_reducible exact⟨WY,hb0,Am,AZ,A8⟩|with_reducible exact q2)
  ((go_at_call 50;(with_reducible refine Ee.out.mono ?_);rintro e w2 ⟨x,b,g,rfl,EL,h2⟩;obtain⟨Dq,H2,q2⟩:Hid (Ft (⟨k,hh,first,nb,count,0,b,g⟩:Rt) X.sz)∧Hid (Wd X (AP++Z []++[AI fb 39 [.int .i64 first,.int .i64 nb,.int .i64 k,.int .i64 count],DZ X.p x ⟨k,hh,first,nb,count,0,b,g⟩ X.sz l]) m w2)∧(w2.cell? ⟨sb,4,none⟩=some (.pointer (some ⟨X.p.w,0,none⟩))∧w2.cell? ⟨fb,0,none⟩=some (.int .i64 first)∧w2.cell? ⟨fb,1,none⟩=some (.int .i64 nb)∧w2.cell? ⟨fb,2,none⟩=some (.int .i64 k)∧w2.cell? ⟨fb,3,none⟩=some (.int .i64 count)):=⟨EL,h2,(O5.out _ _ _ h2).1.cell 4,(O5.out _ _ _ h2).2.cell 0,(O5.out _ _ _ h2).2.cell 1,(O5.out _ _ _ h2).2.cell 2,(O5.out _ _ _ h2).2.cell 3⟩))
 have KK:=Lib.hid (O5.out _ _ _ H2.out)
 clear WY hb0 Am AZ A8 q2 EL h2
 have A8:w2.drew.cell? ⟨fb,3,none⟩=some (.int .i64 count):=KK.out.2.cell 3
 have WY:w2.drew.cell? ⟨sb,1,none⟩=some (.int .i64 hh):=KK.out.1.cell 1
 have Kx:w2.drew.cell? ⟨sb,2,none⟩=some (.int .i64 rb):=KK.out.1.cell 2
 have xo:IntKind.i64.wrap (Q:Int)=(Q:Int):=IntWalk.i64_in _ (by omega)
 have hwN:IntKind.i64.wrap (N:Int)=(N:Int):=IntWalk.i64_in _ (by omega)
 have HWN:=Lib.hid hwN
 clear hwN
 have Ir:(if IntKind.i64.wrap (Q:Int)<(count:Int)then IntKind.i64.wrap (Q:Int)else (count:Int))=(q:Int):=by
  rw[xo,←HM.out];split<;>omega
 have eW:=Lib.hid Ir
 have HWQ:=Lib.hid xo
 clear Ir xo
 go_wp2_with fail
 have H3:=Lib.hid (H2.out.drewN 1)
 rw[show w2.drewN 1=w2.drew from rfl]at H3
 go_region_held3 (fun w'=>w'.cell? ⟨fb,3,none⟩=some (.int .i64 count)∧w'.cell? ⟨sb,1,none⟩=some (.int .i64 hh)∧w'.cell? ⟨sb,2,none⟩=some (.int .i64 rb)) (with_reducible exact⟨A8,WY,Kx⟩) (fail)
 rw[eW.out,HWQ.out]
 clear A8 WY Kx KK H2
 generalize w2.drew=w3 at*
 have vC:Hid (∀tb tg,P0 x b g tb tg=P0 x b g tb tg):=fun _ _=>rfl
 have Gp:=fun d=>Vj.out x b g (w3.drewN d) Dq.out (H3.out.drewN d)
 have TP:=Gp 1
 rw[show w3.drewN 1=w3.drew from rfl]at TP
 rw[←HWN.out]at TP
 have pN:=Lib.hid TP
 have nZ:=On.out _ _ _ _ (H3.out.drewN 1)
 rw[show w3.drewN 1=w3.drew from rfl]at nZ
 have jU:=Lib.hid nZ
 clear Gp TP nZ vC
 have Rr:=Lib.hid (O5.out _ _ _ H3.out)
 have WY:w3.drew.cell? ⟨sb,4,none⟩=some (.pointer (some ⟨X.p.w,0,none⟩)):=Rr.out.1.cell 4
 have Kx:w3.drew.cell? ⟨sb,0,none⟩=some (.int .i64 k):=Rr.out.1.cell 0
 go_wp2_with fail
 go_region_held3 (fun w'=>w'.cell? ⟨sb,4,none⟩=some (.pointer (some ⟨X.p.w,0,none⟩))∧w'.cell? ⟨sb,0,none⟩=some (.int .i64 k)) (first|with_reducible exact⟨WY,Kx⟩|with_reducible exact q4)
  (first
   |(go_at_call 13;(with_reducible refine jU.out.mono ?_);rintro e w4 ⟨rfl,rfl⟩)
   |(go_at_call 63;(with_reducible refine pN.out.mono ?_);rintro e w4 ⟨tb,tg,rfl,iD,hA⟩;obtain⟨HP,HA,q4⟩:Hid (P0 x b g tb tg).Ok∧Hid ((P0 x b g tb tg).A 0 w4)∧(w4.cell? ⟨sb,4,none⟩=some (.pointer (some ⟨X.p.w,0,none⟩))∧w4.cell? ⟨sb,0,none⟩=some (.int .i64 k)):=⟨iD,hA,(hA.rows iD Li).1.cell 4,(hA.rows iD Li).1.cell 0⟩))
 rw[HWN.out]
 have HLD:Hid (∀c r W,c≤count→(P0 x b g tb tg).B c r W→Calls Tryz.prog 92 #[.pointer (some ⟨r,0,none⟩),.iface 101 (.pointer (some ⟨x,0,none⟩))] W fun e w'=>(e=.returned (.int .i64 0)∧(P0 x b g tb tg).C c r w')∨(e=.returned (.int .i64 6)∧(P0 x b g tb tg).No w')):=fun c r W h1 h2=>FP.B.load HP.out h1 h2
 have AA3:Hid (∀c r W,(P0 x b g tb tg).C c r W→Calls Tryz.prog 93 #[.iface 157 (.pointer (some ⟨r,0,none⟩))] W fun e w'=>e=.returned (.tuple #[])∧(P0 x b g tb tg).D c r w'):=fun c r W h2=>FP.C.l5 HP.out h2
 have jD:Hid (∀c r W (i:Nat),c<count→c=i*q→(P0 x b g tb tg).D c r W→Calls Tryz.prog 71 #[.iface 157 (.pointer (some ⟨r,0,none⟩)),.iface tT vT] W fun e w'=>(e=.returned (.int .i64 0)∧(P0 x b g tb tg).A (c+min q (count-c)) w')∨(e=.returned (.int .i64 6)∧(P0 x b g tb tg).No w')):=fun c r W i h1 h2 h3=>FP.D.mO HP.out h1 h2 h3
 have HB:Hid (∀c W W' r N',N'=min q (count-c)*k→(P0 x b g tb tg).A c W→Below W.heap.size W W'→Row W' r 161 (FZ k tg N' N o 0)→W.heap.size≤r→(P0 x b g tb tg).B c r W'):=fun c W W' r N' tJ h1 h2 h3 h4=>FP.toB h1 h2 (by rw[tJ,←HPN.out]at h3;exact h3) h4
 have ZG:Hid (∀c W,(P0 x b g tb tg).A c W→Row W sb 98 (Bh X.p.w k hh rb An o Mv bd)∧Row W fb 39 [.int .i64 first,.int .i64 nb,.int .i64 k,.int .i64 count]∧Row W tb 126 [.slice (some ⟨tg,0,none⟩) N N]):=fun c W h1=>by
  have h2:=h1.rows HP.out Li
  rw[←HPN.out];exact h2
 have jT:Hid (∀c W W',(P0 x b g tb tg).A c W→Below W.heap.size W W'→(P0 x b g tb tg).A c W'):=fun c W W' h1 h2=>h1.below h2
 have lT:Hid (∀c W,(P0 x b g tb tg).A c W→Calls Tryz.prog 13 #[.pointer (some ⟨X.p.w,0,none⟩)] W fun e w'=>e=.returned (.pointer (some ⟨X.p.a,0,none⟩))∧w'=W):=fun c W h1=>by
  obtain⟨s,_,h2⟩:=h1
  exact On.out _ _ _ _ h2
 have HF0:Hid (∀W,(P0 x b g tb tg).A count W→(P0 x b g tb tg).G0 0 W):=fun W h1=>FP.A.fin h1
 have jK:Hid (∀W,(P0 x b g tb tg).No W→(P0 x b g tb tg).G0 6 W):=fun W h1=>FP.No.fin h1
 have qX:Hid (∀er u W,(P0 x b g tb tg).G0 er W→CallsD Tryz.prog 80 #[.pointer (some ⟨X.p.a,0,none⟩),.pointer (some ⟨tb,0,none⟩)] u W fun e u' w'=>u'=u∧(e=.returned (.bool true)∧(P0 x b g tb tg).G1 er w')):=fun er u W h1=>FP.G0.release HP.out u h1
 have DJ:Hid (∀er u W,(P0 x b g tb tg).G1 er W→CallsD Tryz.prog 51 #[.pointer (some ⟨x,0,none⟩)] u W fun e u' w'=>u'=u∧(e=.returned (.tuple #[])∧(P0 x b g tb tg).G2 er w')):=fun er u W h1=>FP.G1.close HP.out u h1
 have jL:=Lib.hid (Aw.out x b g tb tg)
 clear iD hA q4 Aw On O5 Vj PS pN jU Rr H3 Dq qh Vd WY Kx HPN HP
 generalize(P0 x b g tb tg).A=FA at*
 generalize(P0 x b g tb tg).B=FB at*
 generalize(P0 x b g tb tg).C=FC at*
 generalize(P0 x b g tb tg).D=FD at*
 generalize(P0 x b g tb tg).No=FN at*
 generalize(P0 x b g tb tg).G0=F0 at*
 generalize(P0 x b g tb tg).G1=F1 at*
 generalize(P0 x b g tb tg).G2=F2 at*
 clear P0
 have hs:=Lib.hid (ZG.out 0 w4 HA.out)
 have ca:=hs.out.1.cell 4
 have cb:=hs.out.2.1.cell 3
 have vP:=Lib.hid (lT.out 0 w4 HA.out)
 go_wp2_with fail
 refine vP.out.mono ?_
 rintro e w5 ⟨rfl,rfl⟩
 go_wp2_with fail
 go_loopw [11] (fun iv wr=>∃(i c:Nat) (z:Int),iv=.int .i64 z∧c≤count∧(0<z→c=i*q∧z=(count:Int)-(c:Int))∧(z≤0→c=count)∧-1000000≤z∧z≤1000000∧Hid (FA c wr)) (fun iv _=>(intOf iv).toNat)
 case atStart=>exact⟨0,0,(count:Int),rfl,by omega,fun _=>⟨by simp,by omega⟩,fun h=>by omega,by omega,by omega,HA⟩
 case round=>
  obtain⟨i,c,z,rfl,sw,B3,EX,YD,pg,vN⟩:=hrel
  clear HA vP hs ca cb
  by_cases hz:0<z
  ·obtain⟨su,hzc⟩:=B3 hz
   obtain⟨lf,WQ⟩:∃lf:Nat,count-c=lf:=⟨_,rfl⟩
   have hlp:0<lf:=by omega
   have hlb:lf≤100000:=by omega
   obtain rfl:z=(lf:Int):=by omega
   obtain⟨q',eH⟩:∃q',min q lf=q':=⟨_,rfl⟩
   obtain⟨N',tJ⟩:∃N',q'*k=N':=⟨_,rfl⟩
   have HQ1:Hid (0<q'∧q'≤q∧q'≤lf∧q=min q q'+(q-q')):=by
    have:=HQ0.out (by omega)
    unfold Hid;omega
   have AE3:(q':Int)*(k:Int)=(N':Int):=by rw[←tJ];exact(Int.natCast_mul q' k).symm
   have hNN:N'≤N:=by
    have h9:q'*k≤q*k:=Nat.mul_le_mul_right k (by have:=HQ1.out;omega)
    have h8:((q*k:Nat):Int)=(N:Int):=by rw[Int.natCast_mul];exact vo
    omega
   have Pv:IntKind.i64.wrap (N':Int)=(N':Int):=IntWalk.i64_in _ (by omega)
   have Ir:(if (lf:Int)<(q:Int)then (lf:Int)else (q:Int))=(q':Int):=by rw[←eH];split<;>omega
   have kH:(if lf<q then (lf:Int)else (q:Int))=(q':Int):=by rw[←eH];split<;>omega
   have HCI:=Lib.hid su
   have eX:=Lib.hid WQ
   have qY:=Lib.hid eH
   have HNP:=Lib.hid tJ
   have AG6:=Lib.hid Ir
   have iY:=Lib.hid Pv
   have hN0:(0:Int)≤(N':Int):=by omega
   have hN1:(N':Int)≤(N:Int):=by omega
   clear B3 EX hzc su WQ eH tJ YD pg
   have hR:=ZG.out c wr vN.out
   have t0:wr.drew.cell? ⟨tb,0,none⟩=some (.slice (some ⟨tg,0,none⟩) N N):=hR.2.2.cell 0
   have s0:wr.drew.cell? ⟨sb,0,none⟩=some (.int .i64 k):=hR.1.cell 0
   have vO:=Lib.hid (jT.out c wr (wr.drewN 1) vN.out (AF (Below.refl _ _) 1))
   rw[show wr.drewN 1=wr.drew from rfl]at vO
   clear hR
   go_wp2_with fail
   go_region_held3 (fun w'=>w'.cell? ⟨tb,0,none⟩=some (.slice (some ⟨tg,0,none⟩) N N)∧w'.cell? ⟨sb,0,none⟩=some (.int .i64 k)) (with_reducible exact⟨t0,s0⟩) (fail)
   clear t0 s0 Ir kH Pv
   generalize wr.drew=w6 at*
   have nr:∀W,FA c W→W.cell? ⟨sb,0,none⟩=some (.int .i64 k)∧W.cell? ⟨sb,5,none⟩=some (.int .i64 o.a)∧W.cell? ⟨sb,6,none⟩=some (.int .i64 o.b)∧W.cell? ⟨sb,7,none⟩=some (.int .i64 o.c)∧W.cell? ⟨sb,8,none⟩=some (.int .i64 o.d)∧W.cell? ⟨sb,9,none⟩=some (.int .i64 o.e):=fun W h=>⟨(ZG.out c W h).1.cell 0,(ZG.out c W h).1.cell 5,(ZG.out c W h).1.cell 6,(ZG.out c W h).1.cell 7,(ZG.out c W h).1.cell 8,(ZG.out c W h).1.cell 9⟩
   have HA7:=Lib.hid (jT.out c w6 (w6.drewN 1) vO.out (AF (Below.refl _ _) 1))
   rw[show w6.drewN 1=w6.drew from rfl]at HA7
   have s1:=nr _ HA7.out
   have En:Below w6.heap.size w6 ((w6.alloc (.cells #[.int .i64 k,.slice (some ⟨tg,0,none⟩) N' N,.int .i64 o.a,.int .i64 o.b,.int .i64 o.c,.int .i64 o.d,.int .i64 o.e,.int .i64 0] 161)).drew):=((Below.refl w6.heap.size w6).alloc (Nat.le_refl _) _).drew
   have s2:=nr _ (jT.out c _ _ vO.out En)
   have rq:Row (w6.alloc (.cells #[.int .i64 k,.slice (some ⟨tg,0,none⟩) N' N,.int .i64 o.a,.int .i64 o.b,.int .i64 o.c,.int .i64 o.d,.int .i64 o.e,.int .i64 0] 161)) w6.heap.size 161 (FZ k tg N' N o 0):=heap_alloc_new _ _
   have hrw:=Row.drewN rq 1
   rw[show∀w:World,w.drewN 1=w.drew from fun _=>rfl]at hrw
   clear rq
   have HB8:=Lib.hid (HB.out c w6 _ w6.heap.size N' (by rw[eX.out,qY.out,HNP.out]) vO.out En hrw (Nat.le_refl _))
   clear hrw
   clear nr En
   go_wp2_with fail
   go_region_held3 (fun W=>W.cell? ⟨sb,0,none⟩=some (.int .i64 k)∧W.cell? ⟨sb,5,none⟩=some (.int .i64 o.a)∧W.cell? ⟨sb,6,none⟩=some (.int .i64 o.b)∧W.cell? ⟨sb,7,none⟩=some (.int .i64 o.c)∧W.cell? ⟨sb,8,none⟩=some (.int .i64 o.d)∧W.cell? ⟨sb,9,none⟩=some (.int .i64 o.e)) (first|with_reducible exact s1|with_reducible exact s2) (fail)
   clear s1 s2 vO HA7 vN
   generalize(w6.alloc (.cells #[.int .i64 k,.slice (some ⟨tg,0,none⟩) N' N,.int .i64 o.a,.int .i64 o.b,.int .i64 o.c,.int .i64 o.d,.int .i64 o.e,.int .i64 0] 161)).drew=w8 at*
   generalize w6.heap.size=r at*
   have HL8:=Lib.hid (HLD.out c r w8 sw HB8.out)
   go_wp2_with fail
   refine HL8.out.mono ?_
   rintro e w9 (⟨rfl,h9⟩|⟨rfl,h9⟩)
   ·have HT9:=Lib.hid (AA3.out c r w9 h9)
    clear h9
    go_wp2_with fail
    refine HT9.out.mono ?_
    rintro e DS ⟨rfl,FJ⟩
    have AB2:=Lib.hid (jD.out c r DS i (by have:=eX.out;omega) HCI.out FJ)
    clear FJ
    go_wp2_with fail
    refine AB2.out.mono ?_
    rintro e xF (⟨rfl,LJ⟩|⟨rfl,LJ⟩)
    ·have Ql:=Lib.hid LJ
     clear LJ
     obtain⟨z9,hz9⟩:∃z9:Int,(lf:Int)-(q:Int)=z9:=⟨_,rfl⟩
     have AD0:-100000≤z9∧z9≤100000:=by omega
     have AC9:z9<(lf:Int):=by have:=HQ1.out;omega
     go_wp2
     go_roundw
     case rel=>
      have h1:=eX.out
      have h2:=HCI.out
      refine⟨i+1,c+min q (count-c),z9,rfl,by omega,fun h=>⟨?_,by omega⟩,fun h=>by omega,by omega,by omega,Ql.out⟩
      rw[Nat.add_mul,Nat.one_mul];omega
     case measure=>simp[intOf];omega
    ·have Ql:=Lib.hid (jK.out _ LJ)
     clear LJ
     go_wp2
     refine leaves_cons (f:=80) (args:=#[.pointer (some ⟨X.p.a,0,none⟩),.pointer (some ⟨tb,0,none⟩)]) (by simp) (by simp[go_sem]) ?_
     refine(qX.out 6 _ _ Ql.out).mono ?_
     rintro e u1 Bs ⟨rfl,rfl,Eo⟩
     refine leaves_cons (f:=51) (args:=#[.pointer (some ⟨x,0,none⟩)]) (by simp[settle]) (by simp[go_sem]) ?_
     refine(DJ.out 6 _ _ Eo).mono ?_
     rintro e u2 Vs ⟨rfl,rfl,J0⟩
     refine⟨.int .i64 6,by simp[results,Tryz.results75,go_sem],?_⟩
     rcases jL.out 6 Vs J0 with⟨Jb,IW⟩|⟨Jb,IW⟩
     ·exact absurd Jb (by decide)
     ·exact .inr ⟨rfl,IW⟩
   ·have Ql:=Lib.hid (jK.out _ h9)
    clear h9
    go_wp2
    refine leaves_cons (f:=80) (args:=#[.pointer (some ⟨X.p.a,0,none⟩),.pointer (some ⟨tb,0,none⟩)]) (by simp) (by simp[go_sem]) ?_
    refine(qX.out 6 _ _ Ql.out).mono ?_
    rintro e u1 Bs ⟨rfl,rfl,Eo⟩
    refine leaves_cons (f:=51) (args:=#[.pointer (some ⟨x,0,none⟩)]) (by simp[settle]) (by simp[go_sem]) ?_
    refine(DJ.out 6 _ _ Eo).mono ?_
    rintro e u2 Vs ⟨rfl,rfl,J0⟩
    refine⟨.int .i64 6,by simp[results,Tryz.results75,go_sem],?_⟩
    rcases jL.out 6 Vs J0 with⟨Jb,IW⟩|⟨Jb,IW⟩
    ·exact absurd Jb (by decide)
    ·exact .inr ⟨rfl,IW⟩
  ·obtain rfl:c=count:=EX (by omega)
   have Ql:=Lib.hid (HF0.out _ vN.out)
   clear vN B3 EX
   have g1:decide ((0:Int)<z)=false:=by simp;omega
   go_wp2
   refine leaves_cons (f:=80) (args:=#[.pointer (some ⟨X.p.a,0,none⟩),.pointer (some ⟨tb,0,none⟩)]) (by simp) (by simp[go_sem]) ?_
   refine(qX.out 0 _ _ Ql.out).mono ?_
   rintro e u1 Bs ⟨rfl,rfl,Eo⟩
   refine leaves_cons (f:=51) (args:=#[.pointer (some ⟨x,0,none⟩)]) (by simp[settle]) (by simp[go_sem]) ?_
   refine(DJ.out 0 _ _ Eo).mono ?_
   rintro e u2 Vs ⟨rfl,rfl,J0⟩
   refine⟨.int .i64 0,by simp[results,Tryz.results75,go_sem],?_⟩
   rcases jL.out 0 Vs J0 with⟨Jb,IW⟩|⟨Jb,IW⟩
   ·exact .inl ⟨rfl,IW⟩
   ·exact absurd Jb (by decide)
end
section
variable {W : World} {sb w k hh rb An cnt first nb count pa pb : Nat} {o : AB} {once : Bool}
theorem Sh(hr:Row W sb 98 (Bh w k hh rb An o once cnt))(hb:first≤2000000∧nb≤2000000∧count≤100000000∧pa≤nb∧pb≤100000000∧hh≤254)(hA:pa*hh≤count):
  Calls Tryz.prog 95 #[.pointer (some ⟨sb,0,none⟩),.agg #[.int .i64 first,.int .i64 nb,.int .i64 k,.int .i64 count],.int .i64 pa,.int .i64 pb] W fun e w'=>
   e=.returned (DA (first+pa) (min pb (nb-pa)) k (min (pb*hh) (count-pa*hh)))∧Below W.heap.size W w':=by
 obtain⟨W1,B8,Am,xz,Bl,Av⟩:=OU W [.int .i64 first,.int .i64 nb,.int .i64 k,.int .i64 count] [.int .i64 0,.int .i64 0,.int .i64 0,.int .i64 0] 39 39
 have eG:=hr.below Am hr.lt
 have Ef:=Lib.hid B8
 have LG:=Lib.hid Am
 have Ee:=Lib.hid Bl
 have LB:=Lib.hid Av
 have T7:=Lib.hid eG
 obtain⟨d,hd⟩:∃d,nb-pa=d:=⟨_,rfl⟩
 obtain⟨Q,hQ⟩:∃Q,pb*hh=Q:=⟨_,rfl⟩
 obtain⟨A,Oz⟩:∃A,pa*hh=A:=⟨_,rfl⟩
 rw[Oz]at hA
 obtain⟨R,hR⟩:∃R,count-A=R:=⟨_,rfl⟩
 obtain⟨F,hF⟩:∃F,first+pa=F:=⟨_,rfl⟩
 have EK:(nb:Int)-(pa:Int)=(d:Int):=by omega
 have El:(pb:Int)*(hh:Int)=(Q:Int):=by rw[←hQ];exact(Int.natCast_mul pb hh).symm
 have Mw:(pa:Int)*(hh:Int)=(A:Int):=by rw[←Oz];exact(Int.natCast_mul pa hh).symm
 have TH:(count:Int)-(A:Int)=(R:Int):=by omega
 have Rx:(first:Int)+(pa:Int)=(F:Int):=by omega
 have hQ2:Q≤25400000000:=by rw[←hQ];exact Nat.mul_le_mul hb.2.2.2.2.1 hb.2.2.2.2.2
 have KH:(if d<pb then (d:Int)else (pb:Int))=((min pb d:Nat):Int):=by split<;>omega
 have hm2:(if R<Q then (R:Int)else (Q:Int))=((min Q R:Nat):Int):=by split<;>omega
 have wd:IntKind.i64.wrap (d:Int)=(d:Int):=IntWalk.i64_in _ (by omega)
 have wQ:IntKind.i64.wrap (Q:Int)=(Q:Int):=IntWalk.i64_in _ (by omega)
 have wA:IntKind.i64.wrap (A:Int)=(A:Int):=IntWalk.i64_in _ (by omega)
 have wR:IntKind.i64.wrap (R:Int)=(R:Int):=IntWalk.i64_in _ (by omega)
 have wF:IntKind.i64.wrap (F:Int)=(F:Int):=IntWalk.i64_in _ (by omega)
 rw[hF,hd,hQ,Oz,hR]
 unfold DA
 generalize hMB:min pb d=MB at*
 generalize hMC:min Q R=MC at*
 clear hMB hMC hd hQ Oz hR hF Am Bl Av eG hr B8 xz
 go_enter Tryz.func95,Tryz.ntmps95
 go_upto_region 1 with(fail)
 rw[←Ef.out]
 clear Ef
 generalize hsz:W.heap.size=s at*
 have JS:=Lib.hid hsz
 clear hsz
 have b0:W1.drew.cell? ⟨s,0,none⟩=some (.int .i64 first):=Ee.out.cell 0
 have b1:W1.drew.cell? ⟨s,1,none⟩=some (.int .i64 nb):=Ee.out.cell 1
 have b2:W1.drew.cell? ⟨s,2,none⟩=some (.int .i64 k):=Ee.out.cell 2
 have b3:W1.drew.cell? ⟨s,3,none⟩=some (.int .i64 count):=Ee.out.cell 3
 have a1:W1.drew.cell? ⟨sb,1,none⟩=some (.int .i64 hh):=T7.out.cell 1
 have e0:W1.cell? ⟨s+1,0,none⟩=some (.int .i64 0):=LB.out.cell 0
 have e1:W1.cell? ⟨s+1,1,none⟩=some (.int .i64 0):=LB.out.cell 1
 have e2:W1.cell? ⟨s+1,2,none⟩=some (.int .i64 0):=LB.out.cell 2
 have e3:W1.cell? ⟨s+1,3,none⟩=some (.int .i64 0):=LB.out.cell 3
 have f0:W1.frozen? ⟨s+1,0,none⟩=false:=LB.out.free 0
 have f1:W1.frozen? ⟨s+1,1,none⟩=false:=LB.out.free 1
 have f2:W1.frozen? ⟨s+1,2,none⟩=false:=LB.out.free 2
 have f3:W1.frozen? ⟨s+1,3,none⟩=false:=LB.out.free 3
 refine wp_region_still_tail 31 (by kernel_rfl) (by kernel_rfl) ?_
 simp only[List.take_succ_cons,List.take_zero,List.drop_succ_cons,List.drop_zero]
 change wpStill Tryz.prog _ W1.drew (fun a'=>wpList Tryz.prog _ _ _ a' W1.drew) _ _
 repeat still_step
 refine wpStill_nil ?_
 go_wp2
 have GG:Row (((((W1.setCell ⟨s+1,0,none⟩ (.int .i64 F)).setCell ⟨s+1,1,none⟩ (.int .i64 MB)).setCell ⟨s+1,2,none⟩ (.int .i64 k)).setCell ⟨s+1,3,none⟩ (.int .i64 MC)).drew) (s+1) 39 [.int .i64 F,.int .i64 MB,.int .i64 k,.int .i64 MC]:=((((LB.out.set 0 (.int .i64 F)).set 1 (.int .i64 MB)).set 2 (.int .i64 k)).set 3 (.int .i64 MC)).drewN 1
 have eO:Below W.heap.size W (((((W1.setCell ⟨s+1,0,none⟩ (.int .i64 F)).setCell ⟨s+1,1,none⟩ (.int .i64 MB)).setCell ⟨s+1,2,none⟩ (.int .i64 k)).setCell ⟨s+1,3,none⟩ (.int .i64 MC)).drew):=by
  have h0:Below s W W1:=LG.out
  have h1:=h0.setCell (p:=⟨s+1,0,none⟩) (by show s≤s+1;omega) (.int .i64 (F:Int))
  have h2:=h1.setCell (p:=⟨s+1,1,none⟩) (by show s≤s+1;omega) (.int .i64 (MB:Int))
  have h3:=h2.setCell (p:=⟨s+1,2,none⟩) (by show s≤s+1;omega) (.int .i64 (k:Int))
  have h4:=(h3.setCell (p:=⟨s+1,3,none⟩) (by show s≤s+1;omega) (.int .i64 (MC:Int))).drew
  rw[JS.out];exact h4
 generalize((((W1.setCell ⟨s+1,0,none⟩ (.int .i64 F)).setCell ⟨s+1,1,none⟩ (.int .i64 MB)).setCell ⟨s+1,2,none⟩ (.int .i64 k)).setCell ⟨s+1,3,none⟩ (.int .i64 MC)).drew=w9 at*
 have q0:=GG.cell 0
 have q1:=GG.cell 1
 have q2:=GG.cell 2
 have q3:=GG.cell 3
 exact bodyPost_ret (v:=.agg #[.int .i64 F,.int .i64 MB,.int .i64 k,.int .i64 MC]) (by simp[results,Tryz.results95,go_sem,q0,q1,q2,q3]) rfl ⟨rfl,eO⟩
end
end Go.Proofs.YteldegofbbfaeaaGreat
