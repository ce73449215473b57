/- What the laws stand on. -/
import Derived.Test.YthfnbpjegjbbiaaGreatQB
namespace Go.Proofs.YthfnbpjegjbbiaaGreat
set_option linter.unusedVariables false
set_option linter.unusedSimpArgs false
set_option maxRecDepth 100000
set_option maxHeartbeats 8000000
open Go.ChangeShapes Go.WideShapes Go.ChangeAt Go.RowKit
open Go.Joins Go.Deep
open Go.ChangeShapes Go.WideShapes Go.ChangeAt Go.RowKit Go.Maps
open Go.ChangeMaps (setBlock heap_setBlock_same heap_setBlock_other)
open Go.Value renaming pointer → AI
open Go.Value renaming int → AA
open Go.IntKind renaming i64 → AB
open Option renaming some → AE
open Option renaming none → AD
open Lib renaming hid → AG
open Go.Ending renaming returned → AH
open Go.Value renaming slice → AJ
open Go.Obj renaming cells → AK
open Go.Value renaming agg → AL
open Go.Value renaming tuple → AM
open Go.Lib renaming hid → AO
open Go.Proofs.Tryz renaming prog → AP, underlying101 → Ad, underlying116 → Be, results139 → Cc
open Nat renaming le_refl → AQ, mul_le_mul_right → Af, le_trans → Ag, lt_or_ge → Ak, zero_le → Ao, sub_self → As, add_mul → A7, eq_zero_or_pos → BB, one_mul → BH, zero_add → BM, lt_of_lt_of_le → BN, add_sub_cancel → BV, div_le_self → BX, min_eq_left → Bi, add_assoc → B8, mod_lt → CM, mul_comm → CS, lt_trichotomy → CW, zero_mul → CY, min → CZ, reduceAdd → Cd, div_mul_le_self → Cf, lt_of_le_of_lt → Cg, mul_one → Cm, add_sub_cancel_left → Cq
open List renaming append_assoc → AR, getD_eq_getElem?_getD → AT, getElem?_eq_getElem → AU, getElem?_cons_succ → AV, getElem?_append_right → AW, getElem?_cons_zero → AX, append_nil → AY, length_take → AZ, length_append → Aa, mem_of_getElem? → Ae, mem_append → Ah, length_map → Ai, getElem?_append_left → Aj, set_append_right → Ap, length_drop → Aq, getElem?_take → At, mem_map → Av, getElem?_set → Aw, mem_iff_getElem? → Ax, take_of_length_le → Ay, mem_cons_self → Az, mem_cons → A8, replicate → BC, mem_cons_of_mem → BD, getElem?_eq_none → BG, getElem?_eq_some_iff → BI, nil_append → BL, getElem_of_mem → BP, take_append_drop → BS, length_cons → BW, getElem?_drop → Bc, filter_append → Bd, length_set → Bg, pairwise_iff_getElem → Bh, take_add_one → Bj, getElem?_map → Bk, range → Bo, mem_singleton → Bp, take_zero → Bs, drop_eq_getElem_cons → Bv, mem_of_mem_take → Bw, take_length → B6, set_cons_succ → B7, nodup_cons → CK, mem_filter → CL, take_take → CN, getElem_mem → CO, cons_append → CQ, take_append_of_le_length → Ca, findIdx_le_length → Ck, map_append → Cn, drop_zero → Cr, drop_drop → Cs
open Go.RowKit.Below renaming refl → AS, trans → CR, size → CU, mono → CV
open Go.IntKind renaming i64 → Ab, wrap_i64 → BQ
open Go renaming cell_regrown → Ac, leaves_cons → A6, bodyPost_ret → BA, FrameMode → Bf, wp_region_quiet_below → By, run_underlying → Bz, below_regrown → B0
open Go.IntWalk renaming i64_in → Al
open Go.Sort renaming grow → An
open Go.RowKit renaming intOf → BF
open Iff renaming rfl → BO
open Go.Result renaming andThen → BU
open Int renaming toNat_natCast → BY, natCast_mul → Br, lt_trichotomy → Co
open Go.Value renaming int → BZ, ownBlock → Bq
open Go.Calls renaming regrown_of → Ba
open Go.Builtin renaming zeroCells → Bb
open Go.World.ownsRow renaming frozenAt → Bl, stored → Ct
open Go.Addr renaming add_lit → Bm, add → Cj
open Go.Ending renaming returned → Bn
open And renaming intro → Bt
open Go.Sem renaming run → Bu
open Go.Instr renaming index → CX
open Classical renaming byContradiction → Cb
open List.Perm renaming append_left → Ce, refl → Ci
open Go.Lit renaming int → Cp
open Go.Proofs.Tryz
open Nat.le renaming refl → ar
structure DD where
 K:Nat->Prop
 A:World->Prop
 gr:Option (Nat×Nat)
 ex:Nat×Nat
 dA:St->Prop
def I7(e:Nat×Nat)(z:Nat):Prop:=e.1<=z/\z<e.1+e.2
structure DD.Ok (a:DD):Prop where
 okA:∀W W',a.A W->(∀k,a.K k->W'.heap[k]?=W.heap[k]?)->a.A W'
 okD:∀D D',a.dA D->D'.size=D.size->(∀z:Nat,I7 a.ex z->D'.now z=D.now z)->a.dA D'
 grK:∀b n,a.gr=AE (b,n)->a.K b
def DD.gw(a:DD):Nat:=match a.gr with
 |some q=>q.2
 |none=>0
def DD.xw(a:DD):Nat:=a.ex.2
def DF{α:Type}(f:α->Nat)(l:List α):Nat:=(l.map f).sum
theorem Jf{α}(f:α->Nat):∀(l:List α) (i:Nat) (a b:α),l[i]?=AE a->DF f (l.set i b)+f a=DF f l+f b
 |[],i,a,b,h=>by simp at h
 |x::l,0,a,b,h=>by simp at h;subst h;simp[DF];omega
 |x::l,i+1,a,b,h=>by
  have:=Jf f l i a b (by simpa using h);simp[DF]at this⊢;omega
theorem D9{α}(f:α->Nat)(l:List α)(a:α):DF f (l++[a])=DF f l+f a:=by simp[DF]
structure Cx where
 w0:World
 p:Wp
 S0:Sp
 rm:Nat
 sz:Nat
 bl:Int
 cm:Prop
 N:Nat
 C:Nat
 n:Nat
structure KZ (X:Cx) (os:List DD) (m:Nat) (W:World) (G:Nat->Prop) (D:St) (A:Ar) (S:Sp):Prop where
 sys:Sys W G X.p ⟨D,A,S⟩ (X.n+m)
 M8:X.n<=X.N/\X.N+m<=1000000
 base:∀k,G k->X.w0.heap.size<=k
 WV:Below X.w0.heap.size X.w0 W
 size:D.size=X.sz
 blocks:D.blocks=X.bl
 alive:D.down=false/\D.fb=false
 calm:X.cm->Calm D
 Dp:D.Dp<=((X.C+m:Nat):Int)
 room:A.room=X.rm
 used:A.used=DF DD.gw os
 ok:∀(i:Nat) (a:DD),os[i]?=AE a->a.Ok
 st:∀(i:Nat) (a:DD) (b n:Nat),os[i]?=AE a->a.gr=AE (b,n)->wordsAt A.st b=AE n
 mem:∀(i:Nat) (a:DD),os[i]?=AE a->a.A W/\∀k,a.K k->k<W/\X.w0.heap.size<=k/\¬G k
 Um:∀(i:Nat) (a:DD),os[i]?=AE a->a.dA D
 apart:∀(i j:Nat) (a b:DD),os[i]?=AE a->os[j]?=AE b->i≠j->∀k,a.K k->¬b.K k
 exa:∀(i j:Nat) (a b:DD),os[i]?=AE a->os[j]?=AE b->i≠j->∀z,I7 a.ex z->¬I7 b.ex z
 exs:∀(i:Nat) (a:DD),os[i]?=AE a->∀z,I7 a.ex z->hasB X.S0.fr z
 s0:X.S0.ok
 sp:S.first=X.S0.first/\S.blocks=X.S0.blocks
 free:∀z,hasB S.fr z↔hasB X.S0.fr z/\∀(i:Nat) (a:DD),os[i]?=AE a->¬I7 a.ex z
 sum:EI S.fr+DF DD.xw os=EI X.S0.fr
 range:((X.S0.first+X.S0.blocks:Nat):Int)<=X.bl
def Wd(X:Cx)(os:List DD)(m:Nat)(W:World):Prop:=∃G D A S,KZ X os m W G D A S
def Dw:DD:=⟨λ_=>False,λ_=>True,AD,(0,0),λ_=>True⟩
theorem LS:Dw.Ok:=⟨λ_ _ _ _=>trivial,λ_ _ _ _ _=>trivial,λ_ _ h=>by cases h⟩
theorem DX(a z:Nat):¬I7 (a,0) z:=λh=>by unfold I7 at h;simp only at h;omega
def Cv(g:Nat)(t:TypeId)(cs:List Value):DD:=⟨λk=>k=g,λW=>Row W g t cs,AD,(0,0),λ_=>True⟩
theorem VM(g:Nat)(t:TypeId)(cs:List Value):(Cv g t cs).Ok:=⟨λW W' h e=>(e g rfl).trans h,λ_ _ _ _ _=>trivial,λ_ _ h=>by cases h⟩
theorem KQ{α:Type}{l:List α}{i j a b}(h:(l.set i a)[j]?=AE b):(j=i/\b=a)\/(j≠i/\l[j]?=AE b):=by
 rw[Aw]at h;by_cases I:i=j
 ·rw[if_pos I]at h
  split at h
  ·injection h with h;exact .inl ⟨I.symm,h.symm⟩
  ·cases h
 ·rw[if_neg I]at h;exact .inr ⟨λe=>I e.symm,h⟩
theorem Hh{α:Type}{l j}{a b:α}(h:(l++[a])[j]?=AE b):(j=l.length/\b=a)\/(j<l.length/\l[j]?=AE b):=by
 rcases Ak j l.length with e|e
 ·rw[Aj e]at h;exact .inr ⟨e,h⟩
 ·rw[AW e]at h;have:j-l.length=0:=by
   rcases BB (j-l.length)with I|I
   ·exact I
   ·rw[BG (by simp;omega)]at h;cases h
  rw[this]at h;simp at h;exact .inl ⟨a5,h.symm⟩
section
variable{X:Cx}{os:List DD}{m m' i:Nat}{W W':World}{G G':Nat->Prop}{D D':St}{A A':Ar}{S S':Sp}{a a':DD}
theorem KZ.step(h:KZ X os m W G D A S)(hi:os[i]?=AE a)(sys:Sys W' G' X.p ⟨D',A',S'⟩ (X.n+m'))(E4:DJ (λk=>G k\/a.K k) W W')(hG:∀k,G' k->G k\/W<=k)
  (ok:a'.Ok)(mem:a'.A W')(mB:∀k,a'.K k->(a.K k\/W<=k)/\k<W'/\¬G' k)
  (hD:D'.size=D.size/\D'.blocks=D.blocks)(alive:D'.down=false/\D'.fb=false)(calm:Calm D->Calm D')(Dp:D'.Dp<=((X.C+m':Nat):Int))
  (now:∀z:Nat,¬I7 a.ex z->D'.now z=D.now z)(Um:a'.dA D')
  (room:A'.room=A.room)(used:A'.used+a.gw=A.used+a'.gw)(st:∀b n,wordsAt A.st b=AE n->¬a.K b->wordsAt A'.st b=AE n)(gr:∀b n,a'.gr=AE (b,n)->wordsAt A'.st b=AE n)
  (sp:S'.first=S.first/\S'.blocks=S.blocks)(free:∀z,hasB S'.fr z↔(hasB S.fr z\/I7 a.ex z)/\¬I7 a'.ex z)(ad:∀z,I7 a'.ex z->I7 a.ex z\/hasB S.fr z)(sum:EI S'.fr+a'.xw=EI S.fr+a.xw)(M8:X.N+m'<=1000000:=by first|exact(KZ.M8 a9).2|omega):
  KZ X (os.set i a') m' W' G' D' A' S':=by
 have ae:i<os.length:=by
  rcases Ak i os.length with hl|hl
  ·exact hl
  ·rw[BG hl]at hi;cases hi
 have hz:=E4.size;have al:=h.WV.size;have hold:∀(j:Nat) (b:DD),j≠i->os[j]?=AE b->∀k,b.K k->W'.heap[k]?=W.heap[k]?/\k<W/\X.w0.heap.size<=k/\¬G k:=λj b hj hb k I=>by
  obtain⟨O,U,h3⟩:=(h.mem j b hb).2 k I;exact⟨E4.block k O λhf=>hf.elim h3 (h.apart j i b a hb hi hj k I),O,U,h3⟩
 have ab:∀k,a.K k->X.w0.heap.size<=k:=λk I=>((h.mem i a hi).2 k I).2.1;have s1:=Jf DD.gw os i a a' hi;have s2:=Jf DD.xw os i a a' hi;have s3:=h.sum;have s4:=h.used
 exact {
  sys:=sys
  M8:=⟨h.M8.1,M8⟩
  base:=λk I=>(hG k I).elim (h.base k) λhl=>by omega
  WV:=h.WV.trans (E4.below al λk I=>I.elim (h.base k) (ab k))
  size:=hD.1.trans h.size
  blocks:=hD.2.trans h.blocks
  alive:=alive
  calm:=λhc=>calm (h.calm hc)
  Dp:=Dp
  room:=room.trans h.room
  used:=a5
  ok:=λj b hb=>(KQ hb).elim (λe=>e.2▸ok) λe=>h.ok j b e.2
  st:=λj b c n hb hg=>(KQ hb).elim (λe=>gr c n (by rw[<-e.2];exact hg)) λe=>st c n (h.st j b c n e.2 hg) (h.apart j i b a e.2 hi e.1 c ((h.ok j b e.2).grK c n hg))
  mem:=λj b hb=>(KQ hb).elim (λe=>by
    rw[e.2];exact⟨mem,λk I=>⟨(mB k I).2.1,(mB k I).1.elim (ab k) λhl=>by omega,(mB k I).2.2⟩⟩) λe=>⟨(h.ok j b e.2).okA W W' (h.mem j b e.2).1 λk I=>(hold j b e.1 e.2 k I).1,λk I=>by
    obtain⟨O,U,h3,h4⟩:=hold j b e.1 e.2 k I;exact⟨a5,h3,λhg=>(hG k hg).elim h4 λhl=>by omega⟩⟩
  Um:=λj b hb=>(KQ hb).elim (λe=>e.2▸Um) λe=>(h.ok j b e.2).okD D D' (h.Um j b e.2) hD.1 λz hz=>now z (h.exa j i b a e.2 hi e.1 z hz)
  apart:=λj j2 b b2 hb DT Q k I KG=>by
   rcases KQ hb with⟨e1,e2⟩|⟨e1,e2⟩<;>rcases KQ DT with⟨e3,e4⟩|⟨e3,e4⟩
   ·exact Q (e1.trans e3.symm)
   ·subst e2;obtain⟨O,U,_⟩:=hold j2 b2 e3 e4 k KG;exact(mB k I).1.elim (λha=>h.apart i j2 a b2 hi e4 (λe=>e3 e.symm) k ha KG) λhl=>by omega
   ·subst e4;obtain⟨O,U,_⟩:=hold j b e1 e2 k I;exact(mB k KG).1.elim (λha=>h.apart i j a b hi e2 (λe=>e1 e.symm) k ha I) λhl=>by omega
   ·exact h.apart j j2 b b2 e2 e4 Q k I KG
  exa:=λj j2 b b2 hb DT Q z J KU=>by
   have key:∀(q:Nat) (c:DD),q≠i->os[q]?=AE c->I7 c.ex z->I7 a'.ex z->False:=λq c hq hc O U=>by
    rcases ad z U with h3|h3
    ·exact h.exa q i c a hc hi hq z O h3
    ·exact((h.free z).1 h3).2 q c hc O
   rcases KQ hb with⟨e1,e2⟩|⟨e1,e2⟩<;>rcases KQ DT with⟨e3,e4⟩|⟨e3,e4⟩
   ·exact Q (e1.trans e3.symm)
   ·subst e2;exact key j2 b2 e3 e4 KU J
   ·subst e4;exact key j b e1 e2 J KU
   ·exact h.exa j j2 b b2 e2 e4 Q z J KU
  exs:=λj b hb z J=>(KQ hb).elim (λe=>by
    rw[e.2]at J;exact(ad z J).elim (h.exs i a hi z) λh3=>((h.free z).1 h3).1) λe=>h.exs j b e.2 z J
  s0:=h.s0
  sp:=⟨sp.1.trans h.sp.1,sp.2.trans h.sp.2⟩
  free:=λz=>by
   rw[free z];refine⟨λ⟨O,U⟩=>⟨O.elim (λh3=>((h.free z).1 h3).1) (h.exs i a hi z),λj b hb J=>?_⟩,λ⟨O,U⟩=>⟨?_,U i a' (by rw[Aw,if_pos rfl,if_pos ae])⟩⟩
   ·rcases KQ hb with⟨e1,e2⟩|⟨e1,e2⟩
    ·rw[e2]at J;exact U J
    ·exact O.elim (λh3=>((h.free z).1 h3).2 j b e2 J) λh3=>h.exa j i b a e2 hi e1 z J h3
   ·by_cases ha:I7 a.ex z
    ·exact .inr ha
    ·refine .inl ((h.free z).2 ⟨O,λj b hb J=>?_⟩);by_cases hj:j=i
     ·rw[hj,hi]at hb;injection hb with hb;subst hb;exact ha J
     ·exact U j b (by rw[Aw,if_neg (λe=>hj e.symm)];exact hb) J
  sum:=a5
  range:=h.range}
theorem KZ.grow (h : KZ X os m W G D A S) : KZ X (os ++ [Dw]) m W G D A S :=
  { sys := h.sys, M8 := h.M8, base := h.base, WV := h.WV, size := h.size, blocks := h.blocks, alive := h.alive, calm := h.calm, Dp := h.Dp, room := h.room, s0 := h.s0, sp := h.sp, range := h.range
    used := by rw [D9]; exact h.used
    sum := by rw [D9]; exact h.sum
    ok := λj b hb => (Hh hb).elim (λe => e.2 ▸ LS) λe => h.ok j b e.2
    st := λj b c n hb hg => (Hh hb).elim (λe => by rw [e.2] at hg; cases hg) λe => h.st j b c n e.2 hg
    mem := λj b hb => (Hh hb).elim (λe => by rw [e.2]; exact ⟨trivial, λk Q => Q.elim⟩) λe => h.mem j b e.2
    Um := λj b hb => (Hh hb).elim (λe => by rw [e.2]; exact trivial) λe => h.Um j b e.2
    apart := λj j2 b b2 hb DT O k Q KG => by
      rcases Hh hb with ⟨e1, J⟩ | ⟨e1, J⟩ <;> rcases Hh DT with ⟨e3, U⟩ | ⟨e3, U⟩
      · rw [J] at Q; exact Q
      · rw [J] at Q; exact Q
      · rw [U] at KG; exact KG
      · exact h.apart j j2 b b2 J U O k Q KG
    exa := λj j2 b b2 hb DT O z I KU => by
      rcases Hh hb with ⟨e1, J⟩ | ⟨e1, J⟩ <;> rcases Hh DT with ⟨e3, U⟩ | ⟨e3, U⟩
      · rw [J] at I; exact DX _ _ I
      · rw [J] at I; exact DX _ _ I
      · rw [U] at KU; exact DX _ _ KU
      · exact h.exa j j2 b b2 J U O z I KU
    exs := λj b hb z I => (Hh hb).elim (λe => by rw [e.2] at I; exact (DX _ _ I).elim) λe => h.exs j b e.2 z I
    free := λz => by
      rw [h.free z];refine ⟨λ⟨h1, h2⟩ => ⟨h1, λj b hb I => (Hh hb).elim (λe => by rw [e.2] at I; exact DX _ _ I) λe => h2 j b e.2 I⟩, λ⟨h1, h2⟩ => ⟨h1, λj b hb I => h2 j b ?_ I⟩⟩;rw [Aj]
      · exact hb
      · rcases Ak j os.length with hl | hl
        · exact hl
        · rw [BG hl] at hb; cases hb }
theorem KZ.drop (h : KZ X (os ++ [a]) m W G D A S) (J : a.gr = AD) (hx : a.ex.2 = 0) : KZ X os m W G D A S := by
  have hle : ∀ (j : Nat) (b : DD), os[j]? = AE b -> (os ++ [a])[j]? = AE b := λj b hb => by
    rw [Aj]
    · exact hb
    · rcases Ak j os.length with I | I
      · exact I
      · rw [BG I] at hb; cases hb
  have Gu : a.gw = 0 := by unfold DD.gw; rw [J]
  have hu := h.used;have hs := h.sum;rw [D9] at hu hs;have ab : a.xw = 0 := hx
  exact { sys := h.sys, M8 := h.M8, base := h.base, WV := h.WV, size := h.size, blocks := h.blocks, alive := h.alive, calm := h.calm, Dp := h.Dp, room := h.room, s0 := h.s0, sp := h.sp, range := h.range
          used := by omega
          sum := by omega
          ok := λj b hb => h.ok j b (hle j b hb)
          st := λj b c n hb J => h.st j b c n (hle j b hb) J
          mem := λj b hb => h.mem j b (hle j b hb)
          Um := λj b hb => h.Um j b (hle j b hb)
          apart := λj e b b2 hb DT => h.apart j e b b2 (hle j b hb) (hle e b2 DT)
          exa := λj e b b2 hb DT => h.exa j e b b2 (hle j b hb) (hle e b2 DT)
          exs := λj b hb => h.exs j b (hle j b hb)
          free := λz => by
            rw [h.free z];refine ⟨λ⟨O, h2⟩ => ⟨O, λj b hb => h2 j b (hle j b hb)⟩, λ⟨O, h2⟩ => ⟨O, λj b hb U => ?_⟩⟩;rcases Hh hb with ⟨e1, Q⟩ | ⟨e1, Q⟩
            · rw [Q] at U; unfold I7 at U; omega
            · exact h2 j b Q U }
theorem Wd.grow(h:Wd X os m W):Wd X (os++[Dw]) m W:=by obtain⟨G,D,A,S,h⟩:=h;exact⟨G,D,A,S,h.grow⟩
theorem Wd.drop(h:Wd X (os++[a]) m W)(I:a.gr=AD)(e:a.ex.2=0):Wd X os m W:=by obtain⟨G,D,A,S,h⟩:=h;exact⟨G,D,A,S,h.drop I e⟩
theorem KZ.below (h : KZ X os m W G D A S) (hb : Below W W W') : KZ X os m W' G D A S :=
  { sys := h.sys.below hb, M8 := h.M8, base := h.base, WV := h.WV.trans (hb.mono h.WV.size), size := h.size, blocks := h.blocks, alive := h.alive, calm := h.calm, Dp := h.Dp, room := h.room, s0 := h.s0, sp := h.sp, range := h.range, used := h.used, sum := h.sum, ok := h.ok, st := h.st, Um := h.Um, apart := h.apart, exa := h.exa, exs := h.exs, free := h.free
    mem := λj b Dg => ⟨(h.ok j b Dg).okA W W' (h.mem j b Dg).1 λk e => hb.block k ((h.mem j b Dg).2 k e).1, λk e => by
      obtain ⟨J, I, h3⟩ := (h.mem j b Dg).2 k e;have := hb.size;exact ⟨a5, I, h3⟩⟩ }
theorem Wd.below(h:Wd X os m W)(hb:Below W W W'):Wd X os m W':=by obtain⟨G,D,A,S,h⟩:=h;exact⟨G,D,A,S,h.below hb⟩
theorem Wd.drewN(h:Wd X os m W)(q:Nat):Wd X os m (W.drewN q):=h.below (DA (AS _ _) q)
theorem Wd.size(h:Wd X os m W):X.w0.heap.size<=W:=by obtain⟨G,D,A,S,h⟩:=h;exact h.WV.size
theorem Wd.WV(h:Wd X os m W):Below X.w0.heap.size X.w0 W:=by obtain⟨G,D,A,S,h⟩:=h;exact h.WV
theorem Wd.at_(h:Wd X os m W)(hi:os[i]?=AE a):a.A W:=by obtain⟨G,D,A,S,h⟩:=h;exact(h.mem i a hi).1
theorem Wd.row(h:Wd X os m W){g}{t}{cs}(hi:os[i]?=AE (Cv g t cs)):Row W g t cs:=h.at_ hi
theorem Wd.bounds(h:Wd X os m W):(8<=X.sz/\X.sz<=256)/\X.N+m<=1000000:=by obtain⟨G,D,A,S,h⟩:=h;have:=h.sys.size;exact⟨by rw[<-h.size];exact this,h.M8.2⟩
theorem Wd.apart(h:Wd X os m W){j}{b}(hi:os[i]?=AE a)(J:os[j]?=AE b)(e:i≠j){k}(I:a.K k):¬b.K k:=by obtain⟨G,D,A,S,h⟩:=h;exact h.apart i j a b hi J e k I
theorem Wd.lt(h:Wd X os m W)(hi:os[i]?=AE a){k}(e:a.K k):k<W/\X.w0.heap.size<=k:=by obtain⟨G,D,A,S,h⟩:=h;exact⟨((h.mem i a hi).2 k e).1,((h.mem i a hi).2 k e).2.1⟩
theorem Wd.Qp(h:Wd X os m W)(hi:os[i]?=AE a){R}(hf:DJ R W W')(hR:∀k,R k->a.K k/\∀v,¬Row W k 119 [v])(ok:a'.Ok)(mem:a'.A W')(Q:∀k,a'.K k->(a.K k\/W<=k)/\k<W')(J:a'.gr=a.gr)(O:a'.ex=a.ex)(hd:∀D,a.dA D->a'.dA D):Wd X (os.set i a') m W':=by
 obtain⟨G,D,A,S,h⟩:=h;have U:=h.sys.Wi hf λk e=>⟨((h.mem i a hi).2 k (hR k e).1).2.2,(hR k e).2⟩;refine⟨G,D,A,S,h.step hi U (hf.mono λk e=>.inr (hR k e).1) (λk e=>.inl e) ok mem (λk e=>⟨(Q k e).1,(Q k e).2,λJ=>?_⟩) ⟨rfl,rfl⟩ h.alive id h.Dp (λ_ _=>rfl) (hd D (h.Um i a hi)) rfl (by unfold DD.gw;rw[J]) (λ_ _ hw _=>hw) (λb n hb=>h.st i a b n hi (by rw[<-J];exact hb)) ⟨rfl,rfl⟩ (λz=>?_) (λz hz=>.inl (by rw[<-O];exact hz)) (by unfold DD.xw;rw[O])⟩
 ·rcases(Q k e).1 with I|I
  ·exact((h.mem i a hi).2 k I).2.2 J
  ·have:=h.sys.lt J;omega
 ·rw[O];refine⟨λI=>⟨.inl I,((h.free z).1 I).2 i a hi⟩,λ⟨I,h2⟩=>I.elim id λh3=>absurd h3 h2⟩
theorem Wd.jt(h:Wd X os m W)(hi:os[i]?=AE a)(ok:a'.Ok)(mem:a.A W->a'.A W)(I:∀k,a'.K k->a.K k)(O:a'.gr=a.gr)(J:a'.ex=a.ex)(hd:∀D,a.dA D->a'.dA D):Wd X (os.set i a') m W:=
 h.Qp hi (R:=λ_=>False) (DJ.refl _ _) (λ_ e=>e.elim) ok (mem (h.at_ hi)) (λk e=>⟨.inl (I k e),(h.lt hi (I k e)).1⟩) O J hd
theorem Wd.new(h:Wd X os m W){g}{t}{cs}(hb:Below W W W')(I:Row W' g t cs)(O:W<=g):Wd X (os++[Cv g t cs]) m W':=by
 have Q:=h.grow;have J:=Q.Qp (i:=os.length) (a:=Dw) (a':=Cv g t cs) (W':=W') (R:=λ_=>False) (by rw[AW ar,As];rfl) (DJ.DE hb _) (λk e=>e.elim) (VM g t cs) I (λk e=>by
  have e:k=g:=e;subst e;exact⟨.inr O,I.lt⟩) rfl rfl (λ_ _=>trivial)
 rw[Ap _ _ ar,As]at J;exact J
theorem Wd.store(h:Wd X os m W){g}{t}{cs}(hi:os[i]?=AE (Cv g t cs))(J:t≠119)(j:Nat)(v:Value):Wd X (os.set i (Cv g t (cs.set j v))) m (W.setCell (g,j) v):=by
 have I:=h.row hi;refine h.Qp hi (R:=λk=>k=g) (DJ.one g j v) (λk e=>⟨e,λu hu=>?_⟩) (VM _ _ _) (I.set j v) (λk e=>⟨.inl e,?_⟩) rfl rfl (λ_ h=>h)
 ·subst e;exact J (I.typed hu)
 ·have e:k=g:=e;subst e;exact(I.set j v).lt
theorem Wd.KN(h:Wd X os m W){g}{t}{cs JU}(hi:os[i]?=AE (Cv g t cs))(J:t≠119)(hf:DJ (λk=>k=g) W W')(I:Row W' g t JU):Wd X (os.set i (Cv g t JU)) m W':=by
 have O:=h.row hi;refine h.Qp hi (R:=λk=>k=g) hf (λk e=>⟨e,λu hu=>?_⟩) (VM _ _ _) I (λk e=>⟨.inl e,?_⟩) rfl rfl (λ_ h=>h)
 ·subst e;exact J (O.typed hu)
 ·have e:k=g:=e;subst e;exact I.lt
theorem Wd.mono(h:Wd X os m W)(hm:m<=m')(e:X.N+m'<=1000000):Wd X os m' W:=by
 obtain⟨G,D,A,S,h⟩:=h;exact⟨G,D,A,S,{h with sys:=h.sys.mono a5 (by have:=h.M8;omega),M8:=⟨h.M8.1,e⟩,Dp:=by have:=h.Dp;omega}⟩
end
theorem Sz{s r}(e:s.down=false/\s.fb=false)(I:r=true)(h:(begin s r).1≠0):(begin s r).1=6/\(begin s r).2.Dp=s.Dp/\((begin s r).2.down=false/\(begin s r).2.fb=false)/\¬Calm s:=by
 unfold begin at h⊢;rw[if_neg (by simp[e.1]),if_neg (by simp[I]),if_neg (by simp[e.2])]at h⊢;dsimp only at h⊢
 split at h
 ·rename_i h1;rw[if_pos h1];exact⟨rfl,rfl,⟨e.1,e.2⟩,λJ=>by rw[J.2.2]at h1;cases h1.1⟩
 ·exact absurd rfl h
theorem Sy{s i l}(J:s.down=false/\s.fb=false)(hi:right s i=true)(I:l.length=s.size)(h:(write s i l).1≠0):(write s i l).1=6/\(write s i l).2.Dp=s.Dp/\((write s i l).2.down=false/\(write s i l).2.fb=false)/\¬Calm s:=by
 have e:(right s i&&decide (l.length=s.size))=true:=by simp[hi,I]
 unfold write at h⊢;dsimp only at h⊢;by_cases hb:(begin s (right s i&&decide (l.length=s.size))).1=0
 ·rw[if_pos hb]at h;exact absurd rfl h
 ·rw[if_neg hb]at h⊢;exact Sz J e h
theorem iN{s i}(e:s.down=false/\s.fb=false)(hi:right s i=true)(h:(read s i).1≠0):(read s i).1=6/\(read s i).2.Dp=s.Dp/\((read s i).2.down=false/\(read s i).2.fb=false)/\¬Calm s:=Sz e hi h
def I6(p:Wp)(x:Nat)(t:Wt)(sz:Nat):DD:=⟨λk=>k=x\/k=t.b\/k=t.g,λW=>O4 W x p t sz,AE (t.b,sz),(t.first,t.blocks),λD=>D.size=sz->Ik D t⟩
def Yt(p:Wp)(x:Nat)(t:Wt):DD:=⟨λk=>k=x\/k=t.b,λW=>Nc W x p t,AD,(0,0),λ_=>True⟩
def U5(p:Wp)(x:Nat)(t:Wt)(sz:Nat):DD:=⟨λk=>k=x\/k=t.b,λW=>Nc W x p t,AD,(Dc t,Cu t.h t.l.length),λD=>D.size=sz->EO D (Dc t) t.k t.h t.l (Cu t.h t.l.length)⟩
def De(first nb k h:Nat)(l:List Cy)(sz:Nat):DD:=⟨λ_=>False,λ_=>True,AD,(first,nb),λD=>D.size=sz->EO D first k h l nb⟩
structure Gh (first nb k h:Nat) (l:List Cy) (sz:Nat):Prop where
 kk:0<k/\k<=5
 hh:0<h/\h*k<=sz-2/\h<=254
 Pp:h=Cw sz k
 bn:nb=Cu h l.length
 len:l.length<=100000
 fst:first<=2000000
 fit:∀u∈l,D7 u/\Db k u=true
def E0(p:Wp)(x:Nat)(r:Rt)(sz:Nat)(l:List Cy):DD:=⟨λk=>k=x\/k=r.b\/k=r.g,λW=>∃ws,G3 W x p r sz ws/\(r.pos%r.h≠0->ws.take (min r.h (r.count-r.pos/r.h*r.h)*r.k)=JN r.h r.k l (r.pos/r.h)),AE (r.b,sz),(0,0),λ_=>True⟩
def Nn(p:Wp)(x:Nat)(r:Rt):DD:=⟨λk=>k=x\/k=r.b,λW=>Uy W x p r,AD,(0,0),λ_=>True⟩
def xL(b g M:Nat):DD:=⟨λk=>k=b\/k=g,λW=>Row W b 119 [AJ g M M]/\∃ws:List Nat,ws.length=M/\Row W g 120 (ws.map vw),AE (b,M),(0,0),λ_=>True⟩
def Fz(b g M k:Nat)(l:List Cy):DD:=⟨λk=>k=b\/k=g,λW=>Row W b 119 [AJ g M M]/\∃ws:List Nat,ws.length=M/\Row W g 120 (ws.map vw)/\ws.take (l.length*k)=EN k l,AE (b,M),(0,0),λ_=>True⟩
section
variable{p:Wp}{x sz:Nat}{t:Wt}{r:Rt}{l:List Cy}
theorem Ej{W W' g T cs}(h:Row W g T cs)(e:W'.heap[g]?=W.heap[g]?):Row W' g T cs:=e.trans h
theorem Pc{D D' first k h m l e}(J:EO D first k h l m)(I:D'.size=D.size)(O:∀z:Nat,I7 e z->D'.now z=D.now z)(he:e.1=first/\m<=e.2):EO D' first k h l m:=λj Q=>by
 rw[O (first+j) ⟨a5,a5⟩,I];exact J j Q
theorem Yv(J:Ew t sz):(I6 p x t sz).Ok:=
  ⟨λW W' ⟨ws,hm,hh⟩ hk=>⟨ws,⟨Ej hm.row (hk _ (.inl rfl)),Ej hm.buf (hk _ (.inr (.inl rfl))),Ej hm.words (hk _ (.inr (.inr rfl))),hm.len,hm.u64⟩,hh⟩,
   λD D' h O U Q=>Pc (e:=(t.first,t.blocks)) (h (O▸Q)) O U ⟨rfl,by
     have I:=Df (h:=t.h) J.h.1 J.bound.2;rw[<-J.blocks.1]at I;have h2:t.l.length/t.h<=Cu t.h t.l.length:=by unfold Cu;split<;>omega
     exact Ag h2 I⟩,
   λb n h=>by injection h with h;injection h with I _;exact .inr (.inl I.symm)⟩
theorem jr:(Yt p x t).Ok:=⟨λW W' ⟨e,h2⟩ hk=>⟨Ej e (hk _ (.inl rfl)),Ej h2 (hk _ (.inr rfl))⟩,λ_ _ _ _ _=>trivial,λ_ _ h=>by cases h⟩
theorem yH:(U5 p x t sz).Ok:=⟨λW W' ⟨Q,h2⟩ hk=>⟨Ej Q (hk _ (.inl rfl)),Ej h2 (hk _ (.inr rfl))⟩,λD D' h I O J=>Pc (e:=(Dc t,Cu t.h t.l.length)) (h (I▸J)) I O ⟨rfl,AQ _⟩,λ_ _ h=>by cases h⟩
theorem aP{first nb k h}:(De first nb k h l sz).Ok:=⟨λ_ _ _ _=>trivial,λD D' h I O J=>Pc (e:=(first,nb)) (h (I▸J)) I O ⟨rfl,AQ _⟩,λ_ _ h=>by cases h⟩
theorem lP:(E0 p x r sz l).Ok:=⟨λW W' ⟨ws,hm,hh⟩ hk=>⟨ws,⟨Ej hm.row (hk _ (.inl rfl)),Ej hm.buf (hk _ (.inr (.inl rfl))),Ej hm.words (hk _ (.inr (.inr rfl))),hm.len,hm.u64⟩,hh⟩,λ_ _ _ _ _=>trivial,λb n h=>by injection h with h;injection h with e _;exact .inr (.inl e.symm)⟩
theorem yW:(Nn p x r).Ok:=⟨λW W' ⟨e,h2⟩ hk=>⟨Ej e (hk _ (.inl rfl)),Ej h2 (hk _ (.inr rfl))⟩,λ_ _ _ _ _=>trivial,λ_ _ h=>by cases h⟩
theorem AA2{b g M}:(xL b g M).Ok:=⟨λW W' ⟨e,ws,h2,h4⟩ hk=>⟨Ej e (hk _ (.inl rfl)),ws,h2,Ej h4 (hk _ (.inr rfl))⟩,λ_ _ _ _ _=>trivial,λ_ _ h=>by injection h with h;injection h with e _;exact .inl e.symm⟩
theorem VB{b g M k}:(Fz b g M k l).Ok:=⟨λW W' ⟨e,ws,h2,h4,h5⟩ hk=>⟨Ej e (hk _ (.inl rfl)),ws,h2,Ej h4 (hk _ (.inr rfl)),h5⟩,λ_ _ _ _ _=>trivial,λ_ _ h=>by injection h with h;injection h with e _;exact .inl e.symm⟩
end
section
variable{X:Cx}{os:List DD}{m i:Nat}{W W':World}{G:Nat->Prop}{D:St}{A:Ar}{S:Sp}{a:DD}{x:Nat}{t:Wt}{r:Rt}{l:List Cy}
theorem KZ.inR(h:KZ X os m W G D A S)(hi:os[i]?=AE a)(I:0<a.ex.2):((a.ex.1+a.ex.2:Nat):Int)<=D.blocks:=by
 have e:=h.exs i a hi (a.ex.1+a.ex.2-1) ⟨a5,a5⟩;have J:=(h.s0.2.2.has e).2;have h3:=h.range;rw[h.blocks];omega
theorem KZ.yG(h:KZ X os m W G D A S)(hi:os[i]?=AE (I6 X.p x t X.sz)):YJ G x t:=⟨((h.mem i _ hi).2 x (.inl rfl)).2.2,((h.mem i _ hi).2 t.b (.inr (.inl rfl))).2.2,((h.mem i _ hi).2 t.g (.inr (.inr rfl))).2.2⟩
theorem rq{sz tu}(e:Ew t sz)(I:t.l.length<t.bound):Ew (t.snoc tu) sz:=⟨e.k,e.h,e.sz,⟨e.bound.1,by rw[Kj];exact I⟩,e.blocks,e.first⟩
theorem IL{A b n}(e:Sound A)(h:wordsAt A.st b=AE n):(release A b n).used+n=A.used:=by
 have:=R3 e h;show A.used-n+n=A.used;omega
theorem Jk{S}(h:S.ok){f n}(O:S.first<=f\/n=0)(Q:f+n<=S.first+S.blocks\/n=0)(e:∀z,f<=z->z<f+n->¬hasB S.fr z):
  (Dq S f n).first=S.first/\(Dq S f n).blocks=S.blocks/\(∀z,hasB (Dq S f n).fr z↔hasB S.fr z\/(f<=z/\z<f+n))/\EI (Dq S f n).fr=EI S.fr+n:=by
 unfold Dq;by_cases J:n=0
 ·subst J;rw[if_pos rfl];exact⟨rfl,rfl,λz=>⟨.inl,λI=>I.elim id λI=>by omega⟩,rfl⟩
 ·rw[if_neg J];rcases Jj h (f:Int) (n:Int)with⟨s',a,m,ha,hm,h1,he,hg⟩|⟨_,KW⟩
  ·obtain rfl:a=f:=a5;obtain rfl:m=n:=a5;rw[he];exact⟨hg.first,hg.blocks,hg.has,hg.sum⟩
  ·exact absurd ⟨a5,a5,e⟩ (KW f n rfl rfl a5)
theorem KZ.held(h:KZ X os m W G D A S)(hi:os[i]?=AE a):(∀z,I7 a.ex z->¬hasB S.fr z)/\(0<a.ex.2->S.first<=a.ex.1/\a.ex.1+a.ex.2<=S.first+S.blocks):=by
 refine⟨λz e hf=>((h.free z).1 hf).2 i a hi e,λU=>?_⟩;have J:=h.exs i a hi a.ex.1 ⟨a5,a5⟩;have I:=h.exs i a hi (a.ex.1+a.ex.2-1) ⟨a5,a5⟩;have Q:=h.s0.2.2.has J;have O:=h.s0.2.2.has I;rw[h.sp.1,h.sp.2];omega
theorem RX(h:Wd X os m W)(hi:os[i]?=AE (I6 X.p x t X.sz))(DN:Ew t X.sz)(hn:X.N+m<1000000){tu}(hf:Db t.k tu=true)(Ku:t.l.length<t.bound):
  Calls AP 30 #[AI x,AL #[tu.a,tu.b,tu.c,tu.d,tu.e]] W λe w'=>
   (e=AH ()/\Wd X (os.set i (I6 X.p x (t.snoc tu) X.sz)) (m+((t.l.length+1)/t.h-t.l.length/t.h)) w')\/
   (e=AH (AA AB 6)/\¬X.cm/\Wd X (os.set i (Yt X.p x (t.snoc tu))) (m+1) w'):=by
 obtain⟨G,D,A,S,h⟩:=h;obtain⟨ws,hm,hh⟩:=h.mem i _ hi|>.1;obtain⟨l1,l2,l3⟩:=hm.lt;have ho:=h.yG hi;have ad:wordsAt A.st t.b=AE D.size:=by rw[h.size];exact h.st i _ t.b X.sz hi rfl
 have Ll:wordsAt A.st t.b=AE X.sz:=h.st i _ t.b X.sz hi rfl;have Zy:=rq (tu:=tu) DN Ku;have I0:0<t.blocks:=by rw[DN.blocks.1];exact Es DN.h.1 a5
 have NH:((t.first+t.blocks:Nat):Int)<=D.blocks:=h.inR hi I0;have Ol:0<(t.snoc tu).l.length:=by rw[Kj];omega
 have O:=h.size;have mj:Ik D t:=(h.Um i _ hi) h.size;refine(qn (F:=⟨D,A,S⟩) h.sys (by show Ew t D.size;rw[O];exact DN) (by show Ls W x X.p t D.size ws;rw[O];exact hm) (by have:=h.M8;omega) ho ad hh tu hf Ku).mono ?_;rintro e w' (⟨ae,_⟩|⟨_,aq,_⟩|⟨_,_,⟨Q,rfl,G',k1,k2,k3,U⟩|⟨Q,JS,rfl,G',k1,k2,k3,U⟩|⟨Q,JS,rfl,G',k1,k2,k3,U⟩⟩)
 ·rw[hf]at ae;cases ae
 ·omega
 ·refine .inl ⟨rfl,?_⟩;rw[Mc DN.h.1 Q,As,Nat.add_zero];have KG:O4 w' x X.p (t.snoc tu) X.sz:=by rw[<-O];exact k2
  obtain⟨E9,ab,_⟩:=id KG;obtain⟨q1,q2,q3⟩:=ab.lt;refine⟨G',D,A,S,h.step hi k1 (k3.mono λk I=>I.elim .inl λI=>I.elim (λe=>.inr (.inl e)) λe=>.inr (.inr (.inr e))) U (Yv Zy) KG (λk I=>⟨.inl I,?_,?_⟩) ⟨rfl,rfl⟩ h.alive id h.Dp (λ_ _=>rfl) (λ_=>Yr DN.h.1 mj Q) rfl rfl (λ_ _ hw _=>hw) (λb n hb=>by injection hb with hb;injection hb with h1 h2;subst h1 h2;exact Ll) ⟨rfl,rfl⟩ (λz=>⟨λJ=>⟨.inl J,(h.held hi).1 z|>λhx mZ=>hx mZ J⟩,λJ=>J.1.elim id λhx=>absurd hx J.2⟩) (λz J=>.inl J) rfl⟩
  ·exact I.elim (λe=>by rw[e];exact q1) λI=>I.elim (λe=>by rw[e];exact q2) λe=>by rw[e];exact q3
  ·exact λhg=>(U k hg).elim ((h.mem i _ hi).2 k I).2.2 λhl=>by have:=((h.mem i _ hi).2 k I).1;omega
 ·refine .inl ⟨rfl,?_⟩;rw[QY DN.h.1 Q,show t.l.length/t.h+1-t.l.length/t.h=1 by omega];have RC:Nb D (write D (Da (t.snoc tu):Nat) (DY D.size (t.snoc tu))).2 1:=QH JS;have ao:(write D (Da (t.snoc tu):Nat) (DY D.size (t.snoc tu))).2.size=X.sz:=RC.size.trans O;have KG:O4 w' x X.p (t.snoc tu) X.sz:=by rw[<-ao];exact k2
  obtain⟨E9,ab,_⟩:=id KG;obtain⟨q1,q2,q3⟩:=ab.lt;have tf:=Vg (D:=D) (by rw[O];exact Zy) Ol;refine⟨G',_,A,S,h.step hi k1 (k3.mono λk I=>I.elim .inl λI=>I.elim (λe=>.inr (.inl e)) λe=>.inr (.inr (.inr e))) U (Yv Zy) KG (λk I=>⟨.inl I,?_,?_⟩) ⟨RC.size,RC.blocks⟩ (RC.alive h.alive) RC.calm (by rw[RC.Dp];have:=h.Dp;omega) (λz J=>(Pj JS).2.1 _ λe=>J ?_) (λ_=>Yp DN.h.1 mj Q JS) rfl rfl (λ_ _ hw _=>hw) (λb n hb=>by injection hb with hb;injection hb with h1 h2;subst h1 h2;exact Ll) ⟨rfl,rfl⟩ (λz=>⟨λJ=>⟨.inl J,(h.held hi).1 z|>λhx mZ=>hx mZ J⟩,λJ=>J.1.elim id λhx=>absurd hx J.2⟩) (λz J=>.inl J) rfl⟩
  ·exact I.elim (λe=>by rw[e];exact q1) λI=>I.elim (λe=>by rw[e];exact q2) λe=>by rw[e];exact q3
  ·exact λhg=>(U k hg).elim ((h.mem i _ hi).2 k I).2.2 λhl=>by have:=((h.mem i _ hi).2 k I).1;omega
  ·have e':z=Da (t.snoc tu):=a5;rw[e'];exact tf
 ·obtain⟨f1,f2,f3,f4⟩:=Sy h.alive (SL (by rw[O];exact Zy) Ol NH) (Xa (by rw[O];exact Zy) Ol) JS;obtain⟨an,vt,al⟩:=XQ JS;refine .inr ⟨by rw[f1],λhc=>f4 (h.calm hc),?_⟩;have OG:(Dq S (t.first+0) (t.blocks-0)).first=S.first/\(Dq S (t.first+0) (t.blocks-0)).blocks=S.blocks/\(∀z,hasB (Dq S (t.first+0) (t.blocks-0)).fr z↔hasB S.fr z\/(t.first+0<=z/\z<t.first+0+(t.blocks-0)))/\EI (Dq S (t.first+0) (t.blocks-0)).fr=EI S.fr+(t.blocks-0):=Jk h.sys.eZ (f:=t.first+0) (n:=t.blocks-0) (.inl ((h.held hi).2 I0).1) (.inl ((h.held hi).2 I0).2) (λz z1 z2=>(h.held hi).1 z ⟨z1,z2⟩);refine⟨G',_,_,_,h.step hi k1 (k3.mono λk I=>I.elim .inl λI=>I.elim (λe=>.inr (.inl e)) λI=>I.elim (λe=>.inr (.inr (.inr e))) λe=>.inr (.inr (.inl e))) U jr k2 (λk I=>⟨.inl (I.elim .inl λI=>.inr (.inl I)),?_,?_⟩) ⟨vt,al⟩ f3 (λhc=>absurd hc f4) (by rw[f2];have:=h.Dp;omega) (λz _=>an z) trivial rfl ?_ (λb n hw hb=>E6 _ _ _ _ hw λe=>hb (.inr (.inl e))) (λb n hb=>by cases hb) ⟨OG.1,OG.2.1⟩ (λz=>?_) (λz J=>absurd J (DX _ _)) ?_⟩
  ·exact I.elim (λe=>by rw[e];exact k2.1.lt) λe=>by rw[e];exact k2.2.lt
  ·refine λhg=>(U k hg).elim ((h.mem i _ hi).2 k (I.elim .inl λI=>.inr (.inl I))).2.2 λhl=>?_;rcases I with rfl|rfl
   ·omega
   ·have:(t.snoc tu).b=t.b:=rfl;omega
  ·have hu:=IL h.sys.sound (b:=t.b) (n:=(write D (Da (t.snoc tu):Nat) (DY D.size (t.snoc tu))).2.size) (by rw[vt];exact ad);rw[vt,O]at hu;show (release A t.b (write D (Da (t.snoc tu):Nat) (DY D.size (t.snoc tu))).2.size).used+X.sz=A.used+0;rw[vt,O];omega
  ·show hasB (Dq S (t.first+0) (t.blocks-0)).fr z↔ _;rw[OG.2.2.1 z];exact⟨λJ=>⟨J,DX _ _⟩,λJ=>J.1⟩
  ·show EI (Dq S (t.first+0) (t.blocks-0)).fr+0=EI S.fr+t.blocks;rw[OG.2.2.2];omega
end
section
variable{X:Cx}{os:List DD}{m i:Nat}{W W':World}{G:Nat->Prop}{D:St}{A:Ar}{S:Sp}{a:DD}{x:Nat}{t:Wt}{r:Rt}{l:List Cy}
theorem VG{D t}(I:EO D t.first t.k t.h t.l (Cu t.h t.l.length)):EO D (Dc t) t.k t.h t.l (Cu t.h t.l.length):=by
 unfold Dc;by_cases e:t.l.length=0
 ·rw[if_pos e,e,Dx];intro j J;omega
 ·rw[if_neg e];exact I
theorem oI{t sz}(I:Ew t sz):Cu t.h t.l.length<=t.blocks/\∀z,I7 (Dc t,Cu t.h t.l.length) z↔t.first<=z/\z<t.first+Cu t.h t.l.length:=by
 refine⟨by rw[I.blocks.1];exact Df I.h.1 I.bound.2,λz=>?_⟩;unfold I7 Dc;by_cases e:t.l.length=0
 ·rw[if_pos e,e,Dx];simp only;omega
 ·rw[if_neg e]
theorem KZ.xM(h:KZ X os m W G D A S)(hi:os[i]?=AE (I6 X.p x t X.sz)){n}(U:n<=t.blocks):
  (Dq S (t.first+n) (t.blocks-n)).first=S.first/\(Dq S (t.first+n) (t.blocks-n)).blocks=S.blocks/\(∀z,hasB (Dq S (t.first+n) (t.blocks-n)).fr z↔hasB S.fr z\/(t.first+n<=z/\z<t.first+t.blocks))/\EI (Dq S (t.first+n) (t.blocks-n)).fr=EI S.fr+(t.blocks-n):=by
 obtain⟨O,I⟩:=h.held hi;have I:0<t.blocks->S.first<=t.first/\t.first+t.blocks<=S.first+S.blocks:=I;have J:=Jk (S:=S) h.sys.eZ (f:=t.first+n) (n:=t.blocks-n) (by
  rcases BB (t.blocks-n)with e|e
  ·exact .inr e
  ·have:=I a5;exact .inl a5) (by
  rcases BB (t.blocks-n)with e|e
  ·exact .inr e
  ·have:=I a5;exact .inl a5) (λz Q z2=>O z ⟨by show t.first<=z;omega,by show z<t.first+t.blocks;omega⟩)
 rw[show t.first+n+(t.blocks-n)=t.first+t.blocks by omega]at J;exact J
theorem KZ.shut(h:KZ X os m W G D A S)(hi:os[i]?=AE (I6 X.p x t X.sz)){t'}(ht:t'.b=t.b){G'}{D'}{m'}(k1:Sys W' G' X.p ⟨D',release A t.b X.sz,Dq S (t.first+0) (t.blocks-0)⟩ (X.n+m'))(Q:Nc W' x X.p t')(k3:DJ (λk=>G k\/k=x\/k=t.g\/k=t.b) W W')(k4:∀k,G' k->G k\/W<=k)
  (hD:D'.size=D.size/\D'.blocks=D.blocks)(alive:D'.down=false/\D'.fb=false)(calm:Calm D->Calm D')(Dp:D'.Dp<=((X.C+m':Nat):Int))(now:∀z:Nat,D'.now z=D.now z)(M8:X.N+m'<=1000000:=by first|exact(KZ.M8 a9).2|omega):Wd X (os.set i (Yt X.p x t')) m' W':=by
 have Ll:wordsAt A.st t.b=AE X.sz:=h.st i _ t.b X.sz hi rfl;have O:=h.xM hi (Ao _);refine⟨G',_,_,_,h.step hi k1 (k3.mono λk I=>I.elim .inl λI=>I.elim (λe=>.inr (.inl e)) λI=>I.elim (λe=>.inr (.inr (.inr e))) λe=>.inr (.inr (.inl e))) k4 jr Q (λk I=>?_) hD alive calm Dp (λz _=>now z) trivial rfl ?_ (λb n hw hb=>E6 _ _ _ _ hw λe=>hb (.inr (.inl e))) (λb n hb=>by cases hb) ⟨O.1,O.2.1⟩ (λz=>?_) (λz J=>absurd J (DX _ _)) ?_⟩
 ·have U:(I6 X.p x t X.sz).K k:=I.elim .inl λI=>.inr (.inl (I.trans ht));refine⟨.inl U,I.elim (λe=>by rw[e];exact Q.1.lt) λe=>by rw[e];exact Q.2.lt,λhg=>(k4 k hg).elim ((h.mem i _ hi).2 k U).2.2 λhl=>?_⟩;have:=((h.mem i _ hi).2 k U).1;omega
 ·have hu:=IL h.sys.sound Ll;show (release A t.b X.sz).used+X.sz=A.used+0;exact hu
 ·rw[O.2.2.1 z];exact⟨λJ=>⟨J,DX _ _⟩,λJ=>J.1⟩
 ·show EI (Dq S (t.first+0) (t.blocks-0)).fr+0=EI S.fr+t.blocks;rw[O.2.2.2];omega
theorem KZ.xO(h:KZ X os m W G D A S)(hi:os[i]?=AE (I6 X.p x t X.sz))(DN:Ew t X.sz){G'}{D'}{m'}(k1:Sys W' G' X.p ⟨D',release A t.b X.sz,Dq S (t.first+Cu t.h t.l.length) (t.blocks-Cu t.h t.l.length)⟩ (X.n+m'))(Q:Nc W' x X.p t)(k3:DJ (λk=>G k\/k=x\/k=t.g\/k=t.b) W W')(k4:∀k,G' k->G k\/W<=k)
  (hD:D'.size=D.size/\D'.blocks=D.blocks)(alive:D'.down=false/\D'.fb=false)(calm:Calm D->Calm D')(Dp:D'.Dp<=((X.C+m':Nat):Int))(now:∀z:Nat,¬I7 (t.first,t.blocks) z->D'.now z=D.now z)(hs:EO D' t.first t.k t.h t.l (Cu t.h t.l.length))(M8:X.N+m'<=1000000:=by first|exact(KZ.M8 a9).2|omega):Wd X (os.set i (U5 X.p x t X.sz)) m' W':=by
 have Ll:wordsAt A.st t.b=AE X.sz:=h.st i _ t.b X.sz hi rfl;obtain⟨hn,NH⟩:=oI DN;have O:=h.xM hi hn;have MR:=(h.held hi).1;refine⟨G',_,_,_,h.step hi k1 (k3.mono λk J=>J.elim .inl λJ=>J.elim (λe=>.inr (.inl e)) λJ=>J.elim (λe=>.inr (.inr (.inr e))) λe=>.inr (.inr (.inl e))) k4 yH Q (λk J=>?_) hD alive calm Dp now (λ_=>VG hs) rfl ?_ (λb n hw hb=>E6 _ _ _ _ hw λe=>hb (.inr (.inl e))) (λb n hb=>by cases hb) ⟨O.1,O.2.1⟩ (λz=>?_) (λz I=>?_) ?_⟩
 ·have MQ:(I6 X.p x t X.sz).K k:=J.elim .inl λJ=>.inr (.inl J);refine⟨.inl MQ,J.elim (λe=>by rw[e];exact Q.1.lt) λe=>by rw[e];exact Q.2.lt,λhg=>(k4 k hg).elim ((h.mem i _ hi).2 k MQ).2.2 λhl=>?_⟩;have:=((h.mem i _ hi).2 k MQ).1;omega
 ·have hu:=IL h.sys.sound Ll;show (release A t.b X.sz).used+X.sz=A.used+0;exact hu
 ·rw[O.2.2.1 z];have U:I7 (U5 X.p x t X.sz).ex z↔t.first<=z/\z<t.first+Cu t.h t.l.length:=NH z;have h2:I7 (I6 X.p x t X.sz).ex z↔t.first<=z/\z<t.first+t.blocks:=BO;have h3:=MR z;rw[U,h2];rw[h2]at h3;refine⟨λI=>?_,λ⟨I,hno⟩=>?_⟩
  ·rcases I with I|I
   ·exact⟨.inl I,λhx=>h3 ⟨hx.1,a5⟩ I⟩
   ·exact⟨.inr ⟨a5,I.2⟩,a5⟩
  ·rcases I with I|I
   ·exact .inl I
   ·exact .inr ⟨a5,I.2⟩
 ·have U:I7 (U5 X.p x t X.sz).ex z↔t.first<=z/\z<t.first+Cu t.h t.l.length:=NH z;rw[U]at I;exact .inl ⟨I.1,by show z<t.first+t.blocks;omega⟩
 ·show EI (Dq S (t.first+Cu t.h t.l.length) (t.blocks-Cu t.h t.l.length)).fr+Cu t.h t.l.length=EI S.fr+t.blocks;rw[O.2.2.2];omega
theorem ON(h:Wd X os m W)(hi:os[i]?=AE (I6 X.p x t X.sz))(DN:Ew t X.sz)(hn:X.N+m<1000000):
  Calls AP 31 #[AI x] W λe w'=>
   (e=AH (AM #[KH (Dc t) (Cu t.h t.l.length) t.k t.l.length,()])/\Wd X (os.set i (U5 X.p x t X.sz)) (m+(Cu t.h t.l.length-t.l.length/t.h)) w')\/
   (e=AH (AM #[KH 0 0 0 0,AA AB 6])/\¬X.cm/\Wd X (os.set i (Yt X.p x t)) (m+1) w'):=by
 obtain⟨G,D,A,S,h⟩:=h;have hm:=(h.mem i _ hi).1;have ho:=h.yG hi;have I:=h.size;have ae:wordsAt A.st t.b=AE D.size:=by rw[h.size];exact h.st i _ t.b X.sz hi rfl
 have mj:Ik D t:=(h.Um i _ hi) h.size;have gN:Ew t D.size:=by rw[I];exact DN
 refine(Y5 (F:=⟨D,A,S⟩) h.sys (by have:=h.M8;omega) gN (by show O4 W x X.p t D.size;rw[I];exact hm) ho ae).mono ?_;rintro e w' (⟨J,rfl,G',k1,k2,k3,k4⟩|⟨J,JS,rfl,G',k1,k2,k3,k4⟩|⟨J,JS,rfl,G',k1,k2,k3,k4⟩)
 ·refine .inl ⟨rfl,?_⟩;rw[KK J,As,Nat.add_zero];have O:Sys w' G' X.p ⟨D,release A t.b D.size,Dq S (t.first+Cu t.h t.l.length) (t.blocks-Cu t.h t.l.length)⟩ (X.n+m):=k1;rw[I]at O;exact h.xO hi DN O k2 k3 k4 ⟨rfl,rfl⟩ h.alive id h.Dp (λ_ _=>rfl) (WY mj J)
 ·refine .inl ⟨rfl,?_⟩;have Ol:0<t.l.length:=by
   rcases BB t.l.length with Q|Q
   ·rw[Q]at J;simp at J
   ·exact Q
  have U:Nb D (write D (Da t:Nat) (DY D.size t)).2 1:=QH JS;have tf:=Vg (D:=D) gN Ol;have O:Sys w' G' X.p ⟨(write D (Da t:Nat) (DY D.size t)).2,release A t.b (write D (Da t:Nat) (DY D.size t)).2.size,Dq S (t.first+Cu t.h t.l.length) (t.blocks-Cu t.h t.l.length)⟩ (X.n+m+1):=k1;rw[U.size,I]at O;rw[I]at U JS;have Dg:Cu t.h t.l.length-t.l.length/t.h=1:=by unfold Cu;rw[if_pos a5];omega
  rw[Dg];exact h.xO hi DN O k2 k3 k4 ⟨U.size,U.blocks⟩ (U.alive h.alive) U.calm (by rw[U.Dp];have:=h.Dp;omega) (λz hz=>(Pj JS).2.1 _ λe=>hz (by
   have e':z=Da t:=a5;rw[e'];exact tf)) (by
   have:=U4 DN.h.1 mj J (by rw[I];exact JS);rw[I]at this;exact this)
 ·have Ol:0<t.l.length:=by
   rcases BB t.l.length with Q|Q
   ·rw[Q]at J;simp at J
   ·exact Q
  have I0:0<t.blocks:=by rw[DN.blocks.1];exact Es DN.h.1 (by have:=DN.bound.2;omega)
  have NH:((t.first+t.blocks:Nat):Int)<=D.blocks:=h.inR hi I0;obtain⟨f1,f2,f3,f4⟩:=Sy h.alive (SL gN Ol NH) (Xa gN Ol) JS;obtain⟨ad,vt,ab⟩:=XQ JS;refine .inr ⟨by rw[f1],λhc=>f4 (h.calm hc),?_⟩;have O:Sys w' G' X.p ⟨(write D (Da t:Nat) (DY D.size t)).2,release A t.b (write D (Da t:Nat) (DY D.size t)).2.size,Dq S (t.first+0) (t.blocks-0)⟩ (X.n+m+1):=k1;have al:(write D (Da t:Nat) (DY D.size t)).2.size=D.size:=vt;rw[al,I]at O;rw[I]at ad vt ab f2 f3;exact h.shut hi rfl O k2 k3 k4 ⟨vt.trans I.symm,ab⟩ f3 (λhc=>absurd hc f4) (by rw[f2];have:=h.Dp;omega) (λz=>ad z)
theorem U8(h:Wd X os m W)(hi:os[i]?=AE (I6 X.p x t X.sz))(O:Ew t X.sz)(u:Bf):
  CallsD AP 29 #[AI x] u W λe Q w'=>Q=u/\(e=AH (AM #[])/\Wd X (os.set i (Yt X.p x t)) m w'):=by
 obtain⟨G,D,A,S,h⟩:=h;obtain⟨ws,hm,hh⟩:=(h.mem i _ hi).1;have U:=h.yG hi;have I:=h.size;have J:wordsAt A.st t.b=AE D.size:=by rw[h.size];exact h.st i _ t.b X.sz hi rfl
 refine(dc u (F:=⟨D,A,S⟩) h.sys hm.row hm.buf (by have:=O.sz;omega) U.x J hm.apart.1 O.first O.blocks.2).mono ?_;rintro e Q w' ⟨rfl,rfl,he⟩;refine⟨rfl,rfl,?_⟩;have hx:=he.row hm.row U.x hm.apart.1;obtain⟨G',k1,k2,k3,k4⟩:=he;have Tw:Sys w' G' X.p ⟨D,release A t.b D.size,Dq S (t.first+0) (t.blocks-0)⟩ (X.n+m):=k1;rw[I]at Tw;exact h.shut hi rfl Tw ⟨hx,k4⟩ (k2.mono λk hk=>hk.elim .inl λe=>.inr (.inr (.inr e))) k3 ⟨rfl,rfl⟩ h.alive id h.Dp (λ_=>rfl)
theorem FG(I:Nc W x X.p t)(u:Bf):CallsD AP 29 #[AI x] u W λe J w'=>J=u/\(e=AH (AM #[])/\w'=W):=RW u I.1 I.2
def Rm(X:Cx)(os:List DD)(k n:Nat):Prop:=∀z,k<=z->z<k+n->hasB X.S0.fr z/\∀(i:Nat) (a:DD),os[i]?=AE a->¬I7 a.ex z
theorem OJ(h:Wd X os m W)(k bound:Nat)(Xp:0<Cw X.sz k)(hb:bound<=100000)(ad:X.sz+DF DD.gw os<=X.rm):
  Calls AP 28 #[AI X.p.w,k,bound] W λe w'=>
   (e=AH (AM #[AI AD,AA AB 5])/\(∀q,¬Rm X os q (Cu (Cw X.sz k) bound))/\Wd X os m w')\/
   (∃x t,e=AH (AM #[AI (AE ⟨x,0,AD⟩),()])/\t.k=k/\t.h=Cw X.sz k/\t.bound=bound/\t.l=[]/\Ew t X.sz/\Wd X (os++[I6 X.p x t X.sz]) m w'):=by
 obtain⟨G,D,A,S,h⟩:=h;have O:=h.size;have vz:Mg ⟨D,A,S⟩ (k:Int) (bound:Int):=⟨by show Cw D.size k≠0;rw[O];omega,a5,a5⟩;have hu:=h.used;have ML:=h.room;have m6:D.size<=A.room-A.used:=by rw[O,ML,hu];omega
 refine(dZ (F:=⟨D,A,S⟩) h.sys (k:Int) (bound:Int) h.WV).mono ?_;rintro e w' (⟨er,he,hw,hs⟩|⟨x,t,S1,G1,he,_,_,Of,wD,ae,wC,wB,hq,k4,k5,k7,k8,x1,x2,x3⟩)
 ·rcases hw with⟨_,Q⟩|⟨_,_,hlt⟩|⟨rfl,_,_,Di,Q⟩
  ·exact absurd vz Q
  ·exact absurd m6 (by show ¬D.size<=A.room-A.used;have:A.room-A.used<D.size:=hlt;omega)
  ·refine .inl ⟨he,λq hr=>Q q λz z1 z2=>?_,?_⟩
   ·have EC:=hr z z1 (by
     have e2:Cu (Cw D.size (k:Int)) (bound:Int).toNat=Cu (Cw X.sz k) bound:=by rw[O,BY]
     have ab:z<q+Cu (Cw D.size (k:Int)) (bound:Int).toNat:=z2;rw[e2]at ab;exact ab)
    exact(h.free z).2 EC
   ·obtain⟨G',h1,h2,h3⟩:=hs;have PT:=h.grow;have gP:(os++[Dw])[os.length]?=AE Dw:=by rw[AW ar,As];rfl
    have J:=PT.step gP h1 (h2.mono λk U=>.inl U) h3 LS trivial (λk U=>U.elim) ⟨rfl,rfl⟩ h.alive id h.Dp (λ_ _=>rfl) trivial rfl rfl (λ_ _ hw _=>hw) (λ_ _ hb=>by cases hb) ⟨rfl,rfl⟩ (λz=>⟨λI=>⟨.inl I,DX _ _⟩,λI=>I.1.elim id λhx=>absurd hx (DX _ _)⟩) (λz I=>.inl I) rfl;rw[Ap _ _ ar,As]at J;exact Wd.drop ⟨_,_,_,_,J⟩ rfl rfl
 ·have al:t.k=k:=a5;have QW:t.bound=bound:=a5;have Jw:t.h=Cw X.sz k:=by rw[ae];show Cw D.size k= _;rw[O]
  have DN:Ew t X.sz:=by rw[<-O];exact k5.ok
  refine .inr ⟨x,t,he,al,Jw,QW,wC,DN,?_⟩;have PT:=h.grow;have gP:(os++[Dw])[os.length]?=AE Dw:=by rw[AW ar,As];rfl
  have hex:∀z,I7 (t.first,t.blocks) z->hasB S.fr z:=λz I=>by
   rcases wB with⟨h0,_,_⟩|⟨_,gD,_⟩
   ·unfold I7 at I;simp only at I;omega
   ·exact gD.room z I.1 I.2
  obtain⟨ws,hm,_⟩:=id k5.mem;obtain⟨q1,q2,q3⟩:=hm.lt;have J:=PT.step (a':=I6 X.p x t X.sz) (D':=D) (A':=FK A t.b D.size) (S':=S1) gP k4 (k7.mono λk U=>.inl U) k8 (Yv DN) (by show O4 w' x X.p t X.sz;rw[<-O];exact k5.mem) (λk U=>?_) ⟨rfl,rfl⟩ h.alive id h.Dp (λ_ _=>rfl) (λ_=>k5.stand) rfl (by show A.used+D.size+0=A.used+X.sz;omega) (λb n hw _=>Jd _ _ _ _ _ hw) (λb n hb=>by injection hb with hb;injection hb with h1 h2;subst h1 h2;rw[<-O];exact k5.st) (by
    rcases wB with⟨_,_,e⟩|⟨_,gD,_⟩
    ·rw[e];exact⟨rfl,rfl⟩
    ·exact⟨gD.first,gD.blocks⟩) (λz=>?_) (λz I=>.inr (hex z I)) ?_
  ·rw[Ap _ _ ar,As]at J;exact⟨_,_,_,_,J⟩
  ·exact U.elim (λe=>by rw[e];exact⟨.inr x1,q1,k5.out.x⟩) λU=>U.elim (λe=>by rw[e];exact⟨.inr x2,q2,k5.out.b⟩) λe=>by rw[e];exact⟨.inr x3,q3,k5.out.g⟩
  ·rcases wB with⟨h0,h1,e⟩|⟨_,gD,_⟩
   ·rw[e];have Q:¬I7 (I6 X.p x t X.sz).ex z:=λI=>by have I:I7 (t.first,t.blocks) z:=I;unfold I7 at I;simp only at I;omega
    exact⟨λI=>⟨.inl I,Q⟩,λI=>I.1.elim id λhx=>absurd hx (DX _ _)⟩
   ·rw[gD.has z];exact⟨λI=>⟨.inl I.1,I.2⟩,λI=>⟨I.1.elim id λhx=>absurd hx (DX _ _),I.2⟩⟩
  ·have:=dy wB;show EI S1.fr+t.blocks=EI S.fr+0;omega
end
section
variable{X:Cx}{os:List DD}{m i:Nat}{W W':World}{G:Nat->Prop}{D:St}{A:Ar}{S:Sp}{a:DD}{x:Nat}{t:Wt}{r:Rt}{l:List Cy}
theorem Ve(os:List DD):(os++[Dw])[os.length]?=AE Dw:=by rw[AW ar,As];rfl
theorem GY(os:List DD)(a b:DD):(os++[a]).set os.length b=os++[b]:=by rw[Ap _ _ ar,As];rfl
theorem IJ(os:List DD){i}{a}(h:os[i]?=AE a)(b:DD):(os.set i b)[i]?=AE b:=by
 rw[Aw,if_pos rfl,if_pos];rcases Ak i os.length with e|e
 ·exact e
 ·rw[BG e]at h;cases h
theorem Fc{os:List DD}{i j a b}(h:os[j]?=AE a)(e:i≠j):(os.set i b)[j]?=AE a:=by rw[Aw,if_neg e];exact h
theorem Ru{os}{j:Nat}{a b:DD}(h:os[j]?=AE a):(os++[b])[j]?=AE a:=by
 rw[Aj]
 ·exact h
 ·rcases Ak j os.length with e|e
  ·exact e
  ·rw[BG e]at h;cases h
structure qV (r:Rt) (sz:Nat) (l:List Cy):Prop where
 ok:JG r sz
 cnt:l.length=r.count
 fit:∀u∈l,D7 u/\Db r.k u=true
def Src(os:List DD)(sz:Nat)(first k h:Nat)(l:List Cy):Prop:=∃(j:Nat) (f:DD),os[j]?=AE f/\(∀D:St,D.size=sz->f.dA D->EO D first k h l (Cu h l.length))/\(0<l.length->f.ex.1<=first/\first+Cu h l.length<=f.ex.1+f.ex.2)
theorem Src.set{sz first k h}(Q:Src os sz first k h l){i}{a b}(hi:os[i]?=AE a)(I:a.dA=b.dA/\a.ex=b.ex):Src (os.set i b) sz first k h l:=by
 obtain⟨j,f,e,J,h3⟩:=Q;by_cases O:i=j
 ·subst O;rw[hi]at e;injection e with e;subst e
  exact⟨i,b,IJ os hi b,by rw[<-I.1];exact J,by rw[<-I.2];exact h3⟩
 ·exact⟨j,f,Fc e O,J,h3⟩
theorem Src.snoc{sz first k h}(e:Src os sz first k h l)(b:DD):Src (os++[b]) sz first k h l:=by
 obtain⟨j,f,J,I,h3⟩:=e;exact⟨j,f,Ru J,I,h3⟩
theorem Mo(h:Wd X os m W)(first nb k hh count:Nat)(l:List Cy)(U:hh=Cw X.sz k)(Gt:0<hh)(hnb:nb=Cu hh count)(JC:count<=100000)(Sb:first<=2000000)(ab:X.sz+DF DD.gw os<=X.rm):
  Calls AP 46 #[AI (AE ⟨X.p.w,0,AD⟩),AL #[first,nb,k,count]] W λe w'=>∃x b g,e=AH (AM #[AI (AE ⟨x,0,AD⟩),()])/\JG ⟨k,hh,first,nb,count,0,b,g⟩ X.sz/\Wd X (os++[E0 X.p x ⟨k,hh,first,nb,count,0,b,g⟩ X.sz l]) m w':=by
 obtain⟨G,D,A,S,h⟩:=h;have I:=h.size;have hu:=h.used;have ML:=h.room;have O:8<=X.sz/\X.sz<=256:=by rw[<-I];exact h.sys.size
 obtain⟨k',ae,KG,ad,gU⟩:=Ks (size:=X.sz) (width:=(k:Int)) (by rw[<-U];omega);obtain rfl:k=k':=a5;refine(oD (F:=⟨D,A,S⟩) h.sys k hh first nb count (by show hh=Cw D.size k;rw[I];exact U) Gt hnb a5 (by show D.size<=A.room-A.used;rw[I,ML,hu];omega)).mono ?_;rintro e w' ⟨x,b,g,he,n1,n2,n3,G',k1,⟨ws,k2⟩,k3,k4,k5⟩;have hle:=Ix X.sz (k:Int);have DN:JG ⟨k,hh,first,nb,count,0,b,g⟩ X.sz:=⟨⟨KG,ad⟩,⟨Gt,by rw[U];exact gU,by show hh<=254;rw[U];omega⟩,O,⟨by show count<= _;omega,Ao _⟩,Sb⟩;have n2:W<=b:=n2;refine⟨x,b,g,he,DN,?_⟩;have PT:=h.grow;have hq:∀q∈A.st,q.1≠b:=λq hq e=>by have:=(h.sys.buf hq).1.lt;omega
 obtain⟨q1,q2,q3⟩:=k2.lt;have J:=PT.step (a':=E0 X.p x ⟨k,hh,first,nb,count,0,b,g⟩ X.sz l) (D':=D) (A':=FK A b D.size) (S':=S) (Ve os) k1 (k4.mono λk Q=>.inl Q) k5 lP ⟨ws,by rw[<-I];exact k2,λh0=>by simp at h0⟩ (λk Q=>?_) ⟨rfl,rfl⟩ h.alive id h.Dp (λ_ _=>rfl) trivial rfl (by show A.used+D.size+0=A.used+X.sz;omega) (λb n hw _=>Jd _ _ _ _ _ hw) (λb' n hb=>by injection hb with hb;injection hb with h1 h2;subst h1 h2;rw[<-I];exact J8 _ _ _ hq) ⟨rfl,rfl⟩ (λz=>⟨λO=>⟨.inl O,DX _ _⟩,λO=>O.1.elim id λhx=>absurd hx (DX _ _)⟩) (λz O=>absurd O (DX _ _)) rfl
 ·rw[GY]at J;exact⟨_,_,_,_,J⟩
 ·exact Q.elim (λe=>by rw[e];exact⟨.inr n1,q1,k3.x⟩) λQ=>Q.elim (λe=>by rw[e];exact⟨.inr n2,q2,k3.b⟩) λe=>by rw[e];exact⟨.inr n3,q3,k3.g⟩
theorem KZ.yY{l}(h:KZ X os m W G D A S)(hi:os[i]?=AE (E0 X.p x r X.sz l)):OA G x r:=⟨((h.mem i _ hi).2 x (.inl rfl)).2.2,((h.mem i _ hi).2 r.b (.inr (.inl rfl))).2.2,((h.mem i _ hi).2 r.g (.inr (.inr rfl))).2.2⟩
theorem KZ.lE(h:KZ X os m W G D A S)(hi:os[i]?=AE (E0 X.p x r X.sz l)){G'}{D'}{m'}(k1:Sys W' G' X.p ⟨D',release A r.b X.sz,S⟩ (X.n+m'))(O:Uy W' x X.p r)(k3:DJ (λk=>G k\/k=r.b\/k=r.g) W W')(U:∀k,G' k->G k\/W<=k)
  (hD:D'.size=D.size/\D'.blocks=D.blocks)(alive:D'.down=false/\D'.fb=false)(calm:Calm D->Calm D')(Dp:D'.Dp<=((X.C+m':Nat):Int))(now:∀z:Nat,D'.now z=D.now z)(M8:X.N+m'<=1000000:=by first|exact(KZ.M8 a9).2|omega):Wd X (os.set i (Nn X.p x r)) m' W':=by
 have Ll:wordsAt A.st r.b=AE X.sz:=h.st i _ r.b X.sz hi rfl;refine⟨G',_,_,_,h.step hi k1 (k3.mono λk I=>I.elim .inl λI=>I.elim (λe=>.inr (.inr (.inl e))) λe=>.inr (.inr (.inr e))) U yW O (λk I=>?_) hD alive calm Dp (λz _=>now z) trivial rfl ?_ (λb n hw hb=>E6 _ _ _ _ hw λe=>hb (.inr (.inl e))) (λb n hb=>by cases hb) ⟨rfl,rfl⟩ (λz=>⟨λJ=>⟨.inl J,DX _ _⟩,λJ=>J.1.elim id λhx=>absurd hx (DX _ _)⟩) (λz J=>absurd J (DX _ _)) rfl⟩
 ·have Q:(E0 X.p x r X.sz l).K k:=I.elim .inl λI=>.inr (.inl I);refine⟨.inl Q,I.elim (λe=>by rw[e];exact O.1.lt) λe=>by rw[e];exact O.2.lt,λhg=>(U k hg).elim ((h.mem i _ hi).2 k Q).2.2 λhl=>?_⟩;have:=((h.mem i _ hi).2 k Q).1;omega
 ·have hu:=IL h.sys.sound Ll;show (release A r.b X.sz).used+X.sz=A.used+0;exact hu
theorem lT{h i}(hh:0<h)(e:(i+1)%h≠0):(i+1)/h=i/h:=Mc hh e
theorem OK(h:Wd X os m W)(hi:os[i]?=AE (E0 X.p x r X.sz l))(O:qV r X.sz l)(hn:X.N+m<1000000)(Di:r.pos<r.count)(EZ:Src os X.sz r.first r.k r.h l){t}(ht:l[r.pos]?=AE t):
  Calls AP 48 #[AI x] W λe w'=>
   (e=AH (AM #[AL #[t.a,t.b,t.c,t.d,t.e],true,()])/\Wd X (os.set i (E0 X.p x {r with pos:=r.pos+1} X.sz l)) (m+(Cu r.h (r.pos+1)-Cu r.h r.pos)) w')\/
   (e=AH (AM #[AL #[(),(),(),(),()],false,AA AB 6])/\¬X.cm/\Wd X (os.set i (Nn X.p x r)) (m+1) w'):=by
 obtain⟨G,D,A,S,h⟩:=h;obtain⟨ws,hm,Sg⟩:=(h.mem i _ hi).1;have ho:=h.yY hi;have I:=h.size;have Ll:wordsAt A.st r.b=AE X.sz:=h.st i _ r.b X.sz hi rfl;have GU:JG r D.size:=by rw[I];exact O.ok
 have ab:G3 W x X.p r D.size ws:=by rw[I];exact hm
 obtain⟨j,f,hj,Kv,Gv⟩:=EZ;have ad:=Kv D I (h.Um j f hj);have Ol:0<l.length:=by rw[O.cnt];omega
 have M6:=Es O.ok.h.1 Ol;obtain⟨ao,mZ⟩:=Gv Ol;have al:r.pos/r.h<Cu r.h l.length:=by
  have h1:=LY (h:=r.h) (c:=l.length) O.ok.h.1;apply Nat.lt_of_mul_lt_mul_right (a:=r.h);have h2:=Cf r.pos r.h;rw[O.cnt]at h1⊢;exact Cg h2 (BN Di h1)
 have gG:=h.inR hj a5;have zI:right D ((r.first+r.pos/r.h:Nat):Int)=true:=by
  clear Sg ad;generalize r.pos/r.h=qq at*
  unfold right;simp;omega
 have U:=O.fit t (Ae ht);have an:Cu r.h (r.pos+1)-Cu r.h r.pos=if r.pos%r.h=0 then 1 else 0:=by
  rw[Qd O.ok.h.1];split<;>omega
 have IS:∀w',(∀D' m',Nb D D' m'->(∀z,D'.now z=D.now z)->(m'=if r.pos%r.h=0 then 1 else 0)->(∃E9,KY W G X.p ⟨D',A,S⟩ (X.n+(m+m')) x {r with pos:=r.pos+1} E9 w'/\E9.take (min r.h (r.count-r.pos/r.h*r.h)*r.k)=JN r.h r.k l (r.pos/r.h))->Wd X (os.set i (E0 X.p x {r with pos:=r.pos+1} X.sz l)) (m+(Cu r.h (r.pos+1)-Cu r.h r.pos)) w'):=λw' D' m' RC tZ OF ⟨E9,⟨G',k1,Q,k3,k4⟩,k5⟩=>by
  rw[an,<-OF];have aq:m'<=1:=by rw[OF];split<;>omega
  obtain⟨q1,q2,q3⟩:=Q.lt;have Ya:G3 w' x X.p {r with pos:=r.pos+1} X.sz E9:=by
   have e:D'.size=X.sz:=RC.size.trans I;have Q:G3 w' x X.p {r with pos:=r.pos+1} D'.size E9:=Q;rw[e]at Q;exact Q
  refine⟨G',D',A,S,h.step hi k1 (k3.mono λk hk=>hk.elim .inl λhk=>hk.elim (λe=>.inr (.inr (.inr e))) λe=>.inr (.inl e)) k4 lP ⟨E9,Ya,λh0=>?_⟩ (λk hk=>?_) ⟨RC.size,RC.blocks⟩ (RC.alive h.alive) RC.calm (by rw[RC.Dp];have:=h.Dp;omega) (λz _=>tZ z) trivial rfl rfl (λ_ _ hw _=>hw) (λb n hb=>by injection hb with hb;injection hb with h1 h2;subst h1 h2;exact Ll) ⟨rfl,rfl⟩ (λz=>⟨λhz=>⟨.inl hz,DX _ _⟩,λhz=>hz.1.elim id λhx=>absurd hx (DX _ _)⟩) (λz hz=>absurd hz (DX _ _)) rfl⟩
  ·show E9.take (min r.h (r.count-(r.pos+1)/r.h*r.h)*r.k)=JN r.h r.k l ((r.pos+1)/r.h);rw[lT O.ok.h.1 h0];exact k5
  ·have MQ:(E0 X.p x r X.sz l).K k:=hk;refine⟨.inl MQ,hk.elim (λe=>by rw[e];exact q1) λhk=>hk.elim (λe=>by rw[e];exact q2) λe=>by rw[e];exact q3,λhg=>(k4 k hg).elim ((h.mem i _ hi).2 k MQ).2.2 λhl=>?_⟩;have:=((h.mem i _ hi).2 k MQ).1;omega
 by_cases IY:r.pos%r.h=0
 ·by_cases he:(read D ((r.first+r.pos/r.h:Nat):Int)).1=0
  ·refine(aJ (F:=⟨D,A,S⟩) h.sys (by have:=h.M8;omega) GU ab ho O.cnt Di (λ_=>⟨he,?_⟩) (λh0=>absurd IY h0) ht U.1 U.2).mono ?_
   ·exact ad _ al
   ·rintro e w' ⟨J,E9,k1,Q⟩;refine .inl ⟨J,IS w' (read D ((r.first+r.pos/r.h:Nat):Int)).2 1 (Yu he) (λz=>(Jh _ _ _).1) (by rw[if_pos IY]) ⟨E9,?_,Q⟩⟩;have e2:bZ D r=(read D ((r.first+r.pos/r.h:Nat):Int)).2:=by unfold bZ;rw[if_pos IY]
    rw[<-e2];exact k1
  ·obtain⟨f1,f2,f3,f4⟩:=iN h.alive zI he;refine(iF (F:=⟨D,A,S⟩) h.sys (by have:=h.M8;omega) GU ab ho (by show wordsAt A.st r.b=AE D.size;rw[I];exact Ll) Di IY he).mono ?_;rintro e w' ⟨J,G',k1,Q,k3,k4⟩;refine .inr ⟨by rw[J];show _= _;rw[show (read ({D:=D,A:=A,S:=S}:Fs).D ((r.first+r.pos/r.h:Nat):Int)).1=6 from f1],λhc=>f4 (h.calm hc),?_⟩;obtain⟨_,n2,n3⟩:=Jh D ((r.first+r.pos/r.h:Nat):Int) 0;have Tw:Sys w' G' X.p ⟨(read D ((r.first+r.pos/r.h:Nat):Int)).2,release A r.b (read D ((r.first+r.pos/r.h:Nat):Int)).2.size,S⟩ (X.n+m+1):=k1;rw[n2,I]at Tw;exact h.lE hi Tw Q k3 k4 ⟨n2,n3⟩ f3 (λhc=>absurd hc f4) (by rw[f2];have:=h.Dp;omega) (λz=>(Jh _ _ _).1)
 ·refine(Uf (F:=⟨D,A,S⟩) h.sys GU ab ho Di IY).mono ?_;rintro e w' ⟨J,k1⟩;have hb:=Sg IY;have ae:=V0 (t:=t) O.ok.k.2 O.ok.h.1 Di O.cnt hb ht U.1 U.2;rw[ae]at J;refine .inl ⟨J,IS w' D 0 (Nb.refl D) (λ_=>rfl) (by rw[if_neg IY]) ⟨ws,k1,hb⟩⟩
theorem L5(h:Wd X os m W)(hi:os[i]?=AE (E0 X.p x r X.sz l))(O:JG r X.sz)(J:r.pos=r.count):
  Calls AP 48 #[AI x] W λe w'=>e=AH (AM #[AL #[(),(),(),(),()],false,()])/\Wd X os m w':=by
 obtain⟨ws,hm,_⟩:=h.at_ hi;exact(iG O hm J).mono λ_ _ ⟨I,h2⟩=>⟨I,h.below h2⟩
theorem UA(h:Wd X os m W)(hi:os[i]?=AE (E0 X.p x r X.sz l)):
  Calls AP 47 #[AI x] W λe w'=>e=AH (AM #[])/\Wd X (os.set i (Nn X.p x r)) m w':=by
 obtain⟨G,D,A,S,h⟩:=h;obtain⟨ws,hm,_⟩:=(h.mem i _ hi).1;have I:=h.size;have Ll:wordsAt A.st r.b=AE X.sz:=h.st i _ r.b X.sz hi rfl;refine(R5 (F:=⟨D,A,S⟩) h.sys (by show G3 W x X.p r D.size ws;rw[I];exact hm) (h.yY hi) (by show wordsAt A.st r.b=AE D.size;rw[I];exact Ll)).mono ?_;rintro e w' ⟨he,G',U,Q,k3,O⟩;have J:Sys w' G' X.p ⟨D,release A r.b D.size,S⟩ (X.n+m):=U;rw[I]at J;exact⟨he,h.lE hi J Q (k3.mono λk hk=>hk.elim .inl λe=>.inr (.inl e)) O ⟨rfl,rfl⟩ h.alive id h.Dp λ_=>rfl⟩
theorem Il(u:Bf)(h:Wd X os m W)(hi:os[i]?=AE (E0 X.p x r X.sz l)):
  CallsD AP 47 #[AI x] u W λe J w'=>J=u/\(e=AH (AM #[])/\Wd X (os.set i (Nn X.p x r)) m w'):=by
 obtain⟨G,D,A,S,h⟩:=h;obtain⟨ws,hm,_⟩:=(h.mem i _ hi).1;have I:=h.size;have Ll:wordsAt A.st r.b=AE X.sz:=h.st i _ r.b X.sz hi rfl;refine(ZW u (F:=⟨D,A,S⟩) h.sys (by show G3 W x X.p r D.size ws;rw[I];exact hm) (h.yY hi) (by show wordsAt A.st r.b=AE D.size;rw[I];exact Ll)).mono ?_;rintro e J w' ⟨hu,he,G',k1,U,k3,Q⟩;have O:Sys w' G' X.p ⟨D,release A r.b D.size,S⟩ (X.n+m):=k1;rw[I]at O;exact⟨hu,he,h.lE hi O U (k3.mono λk hk=>hk.elim .inl λe=>.inr (.inl e)) Q ⟨rfl,rfl⟩ h.alive id h.Dp λ_=>rfl⟩
theorem ZB{w G p F n}(h:Sys w G p F n)(M:Nat)(hm:M<=F.A.room-F.A.used)(h8:M<=100000000):Calls AP 54 #[AI (AE ⟨p.a,0,AD⟩),M] w λe w'=>∃b g,e=AH (AM #[AI (AE ⟨b,0,AD⟩),()])/\
  (∃G',Sys w' G' p {F with A:=FK F.A b M} n/\DJ G w w'/\(∀k,G' k->G k\/w<=k)/\¬G' b/\¬G' g)/\Row w' b 119 [AJ g M M]/\Row w' g 120 ((BC M 0).map vw)/\w<=b/\w<=g:=by
 obtain⟨Ga,Q,O,_⟩:=h.arn;refine(Uc p.a F.A Ga M w Q hm a5).mono ?_;rintro e w' ⟨b,g,J,he,h1,I,h3,h4,h5,U⟩;refine⟨b,g,he,O w' b g M ⟨J,h1,I,h3,h4,h5,U⟩,I,?_,h4,h5⟩;rw[List.map_replicate];exact h3
theorem Wh(h:Wd X os m W)(M:Nat)(O:M+DF DD.gw os<=X.rm)(h8:M<=1000000):
  Calls AP 54 #[AI (AE ⟨X.p.a,0,AD⟩),M] W λe w'=>∃b g,e=AH (AM #[AI (AE ⟨b,0,AD⟩),()])/\Wd X (os++[xL b g M]) m w':=by
 obtain⟨G,D,A,S,h⟩:=h;have hu:=h.used;have ML:=h.room;refine(ZB (F:=⟨D,A,S⟩) h.sys M (by show M<=A.room-A.used;rw[ML,hu];omega) a5).mono ?_;rintro e w' ⟨b,g,he,⟨G',k1,k2,k3,k4,k5⟩,r1,r2,n1,n2⟩;refine⟨b,g,he,?_⟩;have Q:∀q∈A.st,q.1≠b:=λq Q e=>by have:=(h.sys.buf Q).1.lt;omega
 have I:=h.grow.step (a':=xL b g M) (D':=D) (A':=FK A b M) (S':=S) (Ve os) k1 (k2.mono λk U=>.inl U) k3 AA2 ⟨r1,_,a8,r2⟩ (λk U=>U.elim (λe=>by rw[e];exact⟨.inr n1,r1.lt,k4⟩) λe=>by rw[e];exact⟨.inr n2,r2.lt,k5⟩) ⟨rfl,rfl⟩ h.alive id h.Dp (λ_ _=>rfl) trivial rfl (by show A.used+M+0=A.used+M;omega) (λb n hw _=>Jd _ _ _ _ _ hw) (λb' n hb=>by injection hb with hb;injection hb with h1 h2;subst h1 h2;exact J8 _ _ _ Q) ⟨rfl,rfl⟩ (λz=>⟨λJ=>⟨.inl J,DX _ _⟩,λJ=>J.1.elim id λhx=>absurd hx (DX _ _)⟩) (λz J=>absurd J (DX _ _)) rfl;rw[GY]at I;exact⟨_,_,_,_,I⟩
end
theorem XC(fm:Bf)(p:Nat)(s:Ar)(G:Nat->Prop)(b n:Nat)(w:World)(h:J5 w G p s)(hb:LI w b)(Q:wordsAt s.st b=AE n):
  CallsD AP 70 #[AI p,AI b] fm w λe u' w'=>u'=fm/\(e=AH true/\J5 w' G p (release s b n)/\Row w' b 119 [AJ AD 0 0]/\DJ (λk=>G k\/k=b) w w'):=by
 have hw:=h.words Q;have Vs:=h.Pk hb;have NJ:=λq I=>Bt (h.buf (q:=q) I) (h.Pk (h.buf I));obtain⟨h0,⟨m,hr,J,qS⟩,hp,hG,_⟩:=id h;rcases J with⟨rfl,J⟩|⟨bm,rfl,hm,Ti⟩
 ·rw[J]at Q;cases Q
 have c3:w.cell? (p,3)=AE (.map (AE bm)):=hr.cell 3;have nH:(Instr.lookup 95 (.map (AE bm)) (AI b) true).run AP w=.ok (AM #[n,true]) w:=by
  have:=W0 w hm hb λq I=>(NJ q I).1;rw[Q]at this;exact this
 have ad:bm≠p:=λe=>hm.ET hr e.symm;have HM:=AO hm;have HR:=AO hr;have H0:=AO h0;have xj:=AO Q;obtain⟨u,hu⟩:=ao (s.used-n);have ab:(s.used:Int)-(n:Int)=(u:Int):=a5;have g1:(-9223372036854775808:Int)<=(u:Int):=a5;have g2:(u:Int)<=9223372036854775807:=a5;have HU:=AO hu;clear hu hr hm h h0 Q hw;go_enter_d func70,ntmps70
 go_wp2_with (with_reducible refine bP ?_)
 unfold Hid;refine RU _ rfl _ _ rfl bm b n s.st rfl rfl HM.out hb (λq I=>(NJ q I).1) xj.out ?_;intro w2 U Ff;have Gv:DJ (λk=>k=bm) w w2:=(DJ.refl _ w).grown Ff λk O=>.inl (by injection O with O;exact O.symm);have EC:=Gv.row HR.out (HM.out.ET HR.out);obtain⟨v,hv⟩:=hb;have DT:=Gv.row hv (HM.out.ET hv);have k1:w2.cell? (p,1)=AE (AA AB (s.used:Int)):=EC.cell 1;have f1:=EC.free 1;have fb:=DT.free 0;have kb:w2.cell? b=AE v:=DT.cell 0;have qN:b≠p:=λe=>Vs (e▸hp);have zP:p≠b:=λe=>qN e.symm;have MU:J5 ((w2.setCell (p,1) u).setCell b (AJ AD 0 0)) G p (release s b n)/\Row ((w2.setCell (p,1) u).setCell b (AJ AD 0 0)) b 119 [AJ AD 0 0]/\
   DJ (λk=>G k\/k=b) w ((w2.setCell (p,1) u).setCell b (AJ AD 0 0)):=by
  have FT:Row ((w2.setCell (p,1) u).setCell b (AJ AD 0 0)) p 97 (Eh (release s b n) (AE bm)):=by
   have e:Eh (release s b n) (AE bm)=(Eh s (AE bm)).set 1 u:=by rw[<-HU.out];rfl
   rw[e];exact(EC.set 1 _).E4 (λe=>qN e.symm) _
  have Jv:Row ((w2.setCell ⟨p,1,AD⟩ (AA AB (u:Int))).setCell ⟨b,0,AD⟩ (AJ AD 0 0)) b 119 [AJ AD 0 0]:=(DT.E4 (p:=⟨p,1,AD⟩) qN _).set 0 _;have PU:DJ (λk=>G k\/k=b) w ((w2.setCell (p,1) u).setCell b (AJ AD 0 0)):=((Gv.mono λk O=>.inl (O▸Ti)).set (p:=(p,1)) (.inl (.inl hp)) _).set (p:=b) (.inl (.inr rfl)) _;refine⟨⟨NW H0.out xj.out,⟨AE bm,FT,.inr ⟨bm,rfl,U.same ?_,Ti⟩,qS⟩,hp,λk O=>BN (hG k O) PU.size,λq I=>?_⟩,Jv,PU⟩
  ·rw[heap_setCell_other _ ⟨b,0,AD⟩ _ _ (show bm≠b from λe=>Vs (e▸Ti)),heap_setCell_other _ ⟨p,1,AD⟩ _ _ (show bm≠p from ad)]
  ·have jR:=NJ q (Ir _ _ _ I);by_cases e:q.1=b
   ·rw[e];exact⟨_,Jv⟩
   ·exact jR.1.E4 PU λh=>h.elim jR.2 e
 have Du:=AO MU;clear MU U Ff Gv EC DT hv c3 nH NJ;go_wp2
 go_ret
 exact⟨rfl,Du.out⟩
section
variable{X:Cx}{os:List DD}{m i:Nat}{W W':World}{G:Nat->Prop}{D:St}{A:Ar}{S:Sp}{a:DD}{x:Nat}{l:List Cy}
theorem Qj(I:Bf){w}{G}{p}{F}{n}(h:Sys w G p F n){b m}(hb:wordsAt F.A.st b=AE m):
  CallsD AP 70 #[AI p.a,AI b] I w λe J w'=>J=I/\(e=AH true/\FX w G b p {F with A:=release F.A b m} n w'):=by
 obtain⟨Sg,Vs⟩:=h.buf (Iq _ _ _ hb);obtain⟨Ga,ha,_,hrel⟩:=h.arn;refine(XC I p.a F.A Ga b m w ha Sg hb).mono ?_;rintro e J w' ⟨hu,he,h1,h2,h3⟩;obtain⟨Q,O⟩:=hrel w' b m h1 h3 Vs;exact⟨hu,he,G,Q,O,λk U=>.inl U,h2⟩
theorem L4(O:Bf){b g M}(h:Wd X os m W)(hi:os[i]?=AE a)(hK:∀k,a.K k↔k=b\/k=g)(hg:a.gr=AE (b,M))(U:a.ex.2=0):
  CallsD AP 70 #[AI X.p.a,AI b] O W λe Q w'=>Q=O/\(e=AH true/\Wd X (os.set i Dw) m w'):=by
 obtain⟨G,D,A,S,h⟩:=h;have Ll:wordsAt A.st b=AE M:=h.st i _ b M hi hg;refine(Qj O (F:=⟨D,A,S⟩) h.sys Ll).mono ?_;rintro e Q w' ⟨hu,he,G',k1,k2,k3,k4⟩;have Pq:∀z,¬I7 a.ex z:=λz I=>by unfold I7 at I;omega
 have Gu:a.gw=M:=by unfold DD.gw;rw[hg]
 refine⟨hu,he,G',_,_,_,h.step hi k1 (k2.mono λk J=>J.elim .inl λe=>.inr ((hK k).2 (.inl e))) k3 LS trivial (λk J=>J.elim) ⟨rfl,rfl⟩ h.alive id h.Dp (λ_ _=>rfl) trivial rfl ?_ (λb' n hw hb=>E6 _ _ _ _ hw λe=>hb ((hK b').2 (.inl e))) (λb n hb=>by cases hb) ⟨rfl,rfl⟩ (λz=>⟨λI=>⟨.inl I,DX _ _⟩,λI=>I.1.elim id λU=>absurd U (Pq z)⟩) (λz I=>absurd I (DX _ _)) (by show EI S.fr+0=EI S.fr+a.ex.2;omega)⟩;have hu:=IL h.sys.sound Ll;show (release A b M).used+a.gw=A.used+0;rw[Gu];exact hu
theorem OM{first nb k hh sz}(h:Wd X os m W)(hi:os[i]?=AE (De first nb k hh l sz))(hf:first<=2000000)(hn:nb<=2000000)(c:Nat):
  Calls AP 67 #[AI X.p.w,AL #[first,nb,k,c]] W λe w'=>e=AH ()/\Wd X (os.set i Dw) m w':=by
 obtain⟨G,D,A,S,h⟩:=h;obtain⟨Q,J⟩:=h.held hi;have Q:∀z,I7 (first,nb) z->¬hasB S.fr z:=Q;have J:0<nb->S.first<=first/\first+nb<=S.first+S.blocks:=J;have U:=Jk (S:=S) h.sys.eZ (f:=first) (n:=nb) (by
  rcases BB nb with I|I
  ·exact .inr I
  ·exact .inl (J I).1) (by
  rcases BB nb with I|I
  ·exact .inr I
  ·exact .inl (J I).2) (λz z1 z2=>Q z ⟨z1,z2⟩)
 have Xt:(if nb=0 then 0 else (E5 S first nb).2)=0:=by
  by_cases I:nb=0
  ·rw[if_pos I]
  ·rw[if_neg I];rcases Jj (s:=S) h.sys.eZ (first:Int) (nb:Int)with⟨s',a',m',ha,hm,h1,he,hg⟩|⟨_,KW⟩
   ·rw[he]
   ·exact absurd ⟨(J a5).1,(J a5).2,λz z1 z2=>Q z ⟨z1,z2⟩⟩ (KW first nb rfl rfl a5)
 refine(Uk (F:=⟨D,A,S⟩) h.sys first nb k c a5 a5).mono ?_;rintro e w' ⟨he,G',k1,k2,k3⟩;refine⟨by rw[he,Xt];rfl,G',_,_,_,h.step hi k1 (k2.mono λk hk=>.inl hk) k3 LS trivial (λk hk=>hk.elim) ⟨rfl,rfl⟩ h.alive id h.Dp (λ_ _=>rfl) trivial rfl rfl (λ_ _ hw _=>hw) (λb n hb=>by cases hb) ⟨U.1,U.2.1⟩ (λz=>?_) (λz O=>absurd O (DX _ _)) ?_⟩
 ·show hasB (Dq S first nb).fr z↔ _;rw[U.2.2.1 z];exact⟨λO=>⟨O,DX _ _⟩,λO=>O.1⟩
 ·show EI (Dq S first nb).fr+0=EI S.fr+nb;rw[U.2.2.2];omega
theorem RZ(h:Wd X os m W):Calls AP 19 #[AI X.p.w] W λe w'=>e=AH (AI X.p.d)/\w'=W:=by
 obtain⟨G,D,A,S,h⟩:=h;exact ju h.sys.row
theorem Nk(h:Wd X os m W):Calls AP 21 #[AI X.p.w] W λe w'=>e=AH (AI X.p.a)/\w'=W:=by
 obtain⟨G,D,A,S,h⟩:=h;exact kG h.sys.row
theorem PX(h:Wd X os m W):Calls AP 42 #[AI X.p.w] W λe w'=>e=AH (AI X.p.s)/\w'=W:=by
 obtain⟨G,D,A,S,h⟩:=h;exact jq h.sys.row
theorem RY(h:Wd X os m W):Calls AP 34 #[AI X.p.d] W λe w'=>e=AH X.sz/\w'=W:=by
 obtain⟨G,D,A,S,h⟩:=h;have:=h.sys.Hy;rw[show ({D:=D,A:=A,S:=S}:Fs).D.size=X.sz from h.size]at this;exact this
theorem U7(h:Wd X os m W):Calls AP 33 #[AI X.p.a] W λe w'=>e=AH ((X.rm-DF DD.gw os:Nat):Int)/\w'=W:=by
 obtain⟨G,D,A,S,h⟩:=h;have:=h.sys.XV;rw[show ({D:=D,A:=A,S:=S}:Fs).A.room=X.rm from h.room,show ({D:=D,A:=A,S:=S}:Fs).A.used=DF DD.gw os from h.used]at this;exact this
theorem j4(h:Wd X os m W)(k:Nat):Calls AP 72 #[AI X.p.w,k] W λe w'=>e=AH (Cw X.sz k:Nat)/\w'=W:=by
 obtain⟨G,D,A,S,h⟩:=h;have:=cG h.sys (k:Int);rw[show ({D:=D,A:=A,S:=S}:Fs).D.size=X.sz from h.size]at this;exact this
end
section
variable{X:Cx}{os a b z:List DD}{m i j n:Nat}{W W':World}{G:Nat->Prop}{D:St}{A:Ar}{S:Sp}{x v:DD}
theorem FR(e:z.length=n):(a++z++b)[a.length+n+j]?=b[j]?:=by
 rw[AW (by rw[Aa];omega),Aa,e,show a.length+n+j-(a.length+n)=j by omega]
theorem GM(e:z.length=n):(a++z++b).set (a.length+n+j) v=a++z++b.set j v:=by
 rw[List.set_append,if_neg (by rw[Aa];omega),Aa,e,show a.length+n+j-(a.length+n)=j by omega]
theorem mT(e:j<z.length):(a++z++b)[a.length+j]?=z[j]?:=by
 rw[Aj (by rw[Aa];omega),AW a5,show a.length+j-a.length=j by omega]
theorem SN(e:j<z.length):(a++z++b).set (a.length+j) v=a++z.set j v++b:=by
 rw[List.set_append,if_pos (by rw[Aa];omega),List.set_append,if_neg a5,show a.length+j-a.length=j by omega]
def ovr(n j:Nat):Nat:=if j<n then j else j+1
theorem bV{n i j}(h:ovr n i=ovr n j):i=j:=by unfold ovr at h;split at h<;>split at h<;>omega
theorem KT(e:(a++b)[j]?=AE v):(a++x::b)[ovr a.length j]?=AE v:=by
 unfold ovr
 split
 ·next h=>rw[Aj h]at e⊢;exact e
 ·next h=>
  rw[AW a5]at e;rw[AW a5,show j+1-a.length=(j-a.length)+1 by omega,AV];exact e
theorem yh(e:(a++x::b)[j]?=AE v):v=x\/∃i:Nat,(a++b)[i]?=AE v:=by
 rcases Ak j a.length with h|h
 ·rw[Aj h]at e;exact .inr ⟨j,by rw[Aj h];exact e⟩
 ·rw[AW h]at e;obtain⟨k,I⟩:=ao (j-a.length);rw[I]at e
  cases k with
  |zero=>exact .inl (by rw[AX]at e;exact(Option.some.inj e).symm)
  |succ k=>exact .inr ⟨a.length+k,by rw[AW a5,show a.length+k-a.length=k by omega];rwa [AV]at e⟩
theorem DP{α}(f:α->Nat)(l k:List α):DF f (l++k)=DF f l+DF f k:=by unfold DF;rw[Cn,List.sum_append]
theorem EL{α}(f:α->Nat)(q:α)(k:List α):DF f (q::k)=f q+DF f k:=by unfold DF;rw[List.map_cons,List.sum_cons]
theorem KZ.cut (h : KZ X (a ++ x :: b) m W G D A S) (O : x.gr = AD) (hx : x.ex.2 = 0) : KZ X (a ++ b) m W G D A S := by
  have Gu : x.gw = 0 := by unfold DD.gw; rw [O]
  have ab : x.xw = 0 := hx;have hu := h.used;have hs := h.sum;rw [DP, EL] at hu hs
  exact { sys := h.sys, M8 := h.M8, base := h.base, WV := h.WV, size := h.size, blocks := h.blocks, alive := h.alive, calm := h.calm, Dp := h.Dp, room := h.room, s0 := h.s0, sp := h.sp, range := h.range
          used := by rw [DP]; omega
          sum := by rw [DP]; omega
          ok := λj c I => h.ok _ c (KT I)
          st := λj c p q I O => h.st _ c p q (KT I) O
          mem := λj c I => h.mem _ c (KT I)
          Um := λj c I => h.Um _ c (KT I)
          apart := λj j2 c U I Sf J => h.apart _ _ c U (KT I) (KT Sf) λe => J (bV e)
          exa := λj j2 c U I Sf J => h.exa _ _ c U (KT I) (KT Sf) λe => J (bV e)
          exs := λj c I => h.exs _ c (KT I)
          free := λz => by
            rw [h.free z];refine ⟨λ⟨Q, h2⟩ => ⟨Q, λj c I => h2 _ c (KT I)⟩, λ⟨Q, h2⟩ => ⟨Q, λj c I FJ => ?_⟩⟩;rcases yh I with e | ⟨i, hi⟩
            · rw [e] at FJ; unfold I7 at FJ; omega
            · exact h2 i c hi FJ }
theorem Wd.cut(h:Wd X (a++x::b) m W)(I:x.gr=AD)(e:x.ex.2=0):Wd X (a++b) m W:=by
 obtain⟨G,D,A,S,h⟩:=h;exact⟨G,D,A,S,h.cut I e⟩
def Dr(l:List DD):Prop:=∀q∈l,q.gr=AD/\q.ex.2=0
theorem Wd.GB:∀(z:List DD) (_:Dr z) (_:Wd X (a++z++b) m W),Wd X (a++b) m W
 |[],_,h=>by rwa [AY]at h
 |q::z,hb,h=>by
  have e:=hb q Az;have J:Wd X (a++q::(z++b)) m W:=by simpa using h
  have I:=J.cut e.1 e.2;exact Wd.GB z (λu hu=>hb u (BD _ hu)) (by rw[AR];exact I)
theorem GL{z2 z n}(h:Rm X os z n)(U:Dr z2):Rm X (os++z2) z n:=λy h1 h2=>by
 obtain⟨O,J⟩:=h y h1 h2;refine⟨O,λj a hj I=>?_⟩;rcases Ah.1 (Ae hj)with hm|hm
 ·obtain⟨Q,Xo,e⟩:=BP hm;exact J Q a (by rw[AU Xo,e]) I
 ·have h4:=(U a hm).2;unfold I7 at I;rw[h4]at I;omega
theorem D5:∀(l:List DD) (_:Dr l),DF DD.gw l=0
 |[],_=>rfl
 |a::l,h=>by
  rw[EL,D5 l λq e=>h q (BD _ e)];have I:=(h a Az).1;unfold DD.gw;rw[I]
theorem Wc{p x t sz}(h:Wd X os m W){j}(hi:os[j]?=AE (U5 p x t sz)):Wd X (os.set j (De (Dc t) (Cu t.h t.l.length) t.k t.h t.l sz)) m W:=
 h.jt hi aP (λ_=>trivial) (λ_ e=>e.elim) rfl rfl (λ_ hd=>hd)
end
section
variable{X:Cx}{os:List DD}{m i:Nat}{W W' w0 w w':World}{G:Nat->Prop}{D D':St}{A A':Ar}{S S1:Sp}{p:Wp}{t:Wt}{l:List Cy}
theorem KZ.stay{m' n'}(h:KZ X os m W G D A S)(Q:DU W G X.p ⟨D',A',S⟩ n' W')(U:n'<=X.n+m')(h6:X.N+m'<=1000000)
  (hD:D'.size=D.size/\D'.blocks=D.blocks)(alive:D'.down=false/\D'.fb=false)(calm:Calm D->Calm D')(Dp:D'.Dp<=((X.C+m':Nat):Int))(now:∀z:Nat,D'.now z=D.now z)
  (room:A'.room=A.room)(used:A'.used=A.used)(st:∀b n,wordsAt A.st b=AE n->wordsAt A'.st b=AE n):Wd X os m' W':=by
 obtain⟨G',O,J,k3⟩:=Q.mono U (by have:=h.M8;omega);refine Wd.drop (a:=Dw) ⟨G',D',A',S,?_⟩ rfl rfl;have hg:=h.grow.step (i:=os.length) (a:=Dw) (a':=Dw) a8 O (J.mono λk I=>.inl I) k3 LS trivial (λk I=>I.elim) hD alive calm Dp (λz _=>now z) trivial room (by show A'.used+0=A.used+0;omega) (λb n hb _=>st b n hb) (λb n hb=>by cases hb) ⟨rfl,rfl⟩ (λz=>⟨λe=>⟨.inl e,DX 0 z⟩,λe=>e.1.elim id λh=>absurd h (DX 0 z)⟩) (λz e=>absurd e (DX 0 z)) (by show _+0= _+0;rfl) h6;simpa using hg
theorem Wd.ya{N}(h:Wd X os m W)(e:X.n<=N)(I:N<=X.N):Wd {X with N:=N} os m W:=by
 obtain⟨G,D,A,S,hw⟩:=h;exact⟨G,D,A,S,{hw with M8:=⟨e,by have:=hw.M8;show N+m<=1000000;omega⟩}⟩
theorem jy(h:Wd X os m W):Calls AP 43 #[AI X.p.s] W λe w'=>e=AH ((EI X.S0.fr-DF DD.xw os:Nat):Int)/\Wd X os m w':=by
 obtain⟨G,D,A,S,hw⟩:=id h;obtain⟨J,I,_⟩:=hw.sys.spc;have O:=hw.sum;refine(oC X.p.s S J W I).mono λe w' ⟨he,hb⟩=>⟨he.trans ?_,h.below hb⟩;rw[show EI S.fr=EI X.S0.fr-DF DD.xw os by omega]
theorem qo(h:Wd X os m W):Calls AP 22 #[AI X.p.a] W λe w'=>e=AH ((DF DD.gw os:Nat):Int)/\w'=W:=by
 obtain⟨G,D,A,S,hw⟩:=h;have:=hw.sys.kH;rw[show ({D:=D,A:=A,S:=S}:Fs).A.used=DF DD.gw os from hw.used]at this;exact this
theorem qt(h:Wd X os m W):∃q:Nat,q<=X.rm/\Calls AP 44 #[AI X.p.a] W λe w'=>e=AH q/\w'=W:=by
 obtain⟨G,D,A,S,hw⟩:=h;exact⟨A.F8,by rw[<-hw.room];exact hw.sys.sound.F8.2,hw.sys.lV⟩
theorem qs(h:Wd X os m W):Calls AP 45 #[AI X.p.a] W λe w'=>e=AH X.rm/\w'=W:=by
 obtain⟨G,D,A,S,hw⟩:=h;obtain⟨U,Ga,Q,I,hd,J,_⟩:=hw.sys;obtain⟨O,⟨mm,I,_⟩,_⟩:=id J;have:=TQ X.p.a A mm W I;rw[hw.room]at this;exact this
end
def VC(X:Cx)(v:Value)(l:List Cy):DD:=⟨λb=>v.ownBlock=AE b,λW=>W.ownsRow X.w0.heap.size 47 5 v l.length (EB l),AD,(0,0),λ_=>True⟩
section
variable{X:Cx}{os:List DD}{m i:Nat}{W W':World}{l l':List Cy}{v v':Value}
theorem Y7:(VC X v l).Ok:=⟨λW W' I e=>Fw I λk he=>e k he,λ_ _ _ _ _=>trivial,λ_ _ h=>by cases h⟩
theorem Y8(h:(VC X v l).A W){b}(hb:v.ownBlock=AE b):∃cs,Row W b 47 cs:=by
 obtain⟨h3,⟨h4,_⟩|⟨gl,c,I,h4,h5,e,_⟩⟩:=h
 ·rw[h4]at hb;cases hb
 ·rw[h4]at hb;have hb:gl=b:=by injection hb
  subst hb;exact⟨_,e⟩
theorem Wd.AE1(hw:Wd X os m W)(hi:os[i]?=AE (VC X v l))(hf:DJ (λb=>v.ownBlock=AE b) W W')(I:W'.ownsRow X.w0.heap.size 47 5 v' l'.length (EB l'))
  (hb:∀b,v'.ownBlock=AE b->v.ownBlock=AE b\/W<=b):Wd X (os.set i (VC X v' l')) m W':=by
 have O:=hw.at_ hi;refine hw.Qp hi hf (λb hb=>⟨hb,λu J=>?_⟩) Y7 I (λb DT=>⟨hb b DT,?_⟩) rfl rfl (λ_ _=>trivial)
 ·obtain⟨cs,e⟩:=Y8 O hb;exact absurd (e.typed J) a6
 ·obtain⟨cs,e⟩:=Y8 (X:=X) (v:=v') (l:=l') I DT;exact e.lt
theorem Wd.AO0(hw:Wd X os m W):Wd X (os++[VC X (AJ AD 0 0) []]) m W:=by
 have I:=hw.grow.Qp (i:=os.length) (a:=Dw) (a':=VC X (AJ AD 0 0) []) (R:=λ_=>False) (Ve os) (DJ.refl _ _) (λk e=>e.elim) Y7 (R8 _ _ _) (λk e=>by cases e) rfl rfl (λ_ _=>trivial);rw[GY]at I;exact I
theorem Wd.AW2(hw:Wd X os m W)(hi:os[i]?=AE (VC X v l))(J:∀u∈l,D7 u):∃A c,v=AJ A l.length c/\El W W A l.length l/\c<=maxLen:=by
 obtain⟨A,c,I,e,_,h3,_⟩:=R7 (hw.at_ hi) J;exact⟨A,c,I,e,h3⟩
end
structure LP where
 X:Cx
 os:List DD
 m:Nat
 x:Nat
 rt:Rt
 l:List Cy
structure LP.Ok (P:LP):Prop where
 ok:JG P.rt P.X.sz
 cnt:P.l.length=P.rt.count
 fit:∀u∈P.l,D7 u/\Db P.rt.k u=true
 src:Src P.os P.X.sz P.rt.first P.rt.k P.rt.h P.l
 cm:P.X.cm
 n:P.X.N+P.m+Cu P.rt.h P.l.length+1<=1000000
 len:P.l.length<=100000
def LP.at_(P:LP)(i:Nat):Rt:={P.rt with pos:=i}
def LP.J(P:LP)(i:Nat)(v:Value)(W:World):Prop:=Wd P.X (P.os++[E0 P.X.p P.x (P.at_ i) P.X.sz P.l]++[VC P.X v (P.l.take i)]) (P.m+Cu P.rt.h i) W
def LP.J1(P:LP)(i:Nat)(v:Value)(W:World):Prop:=Wd P.X (P.os++[E0 P.X.p P.x (P.at_ (i+1)) P.X.sz P.l]++[VC P.X v (P.l.take i)]) (P.m+Cu P.rt.h (i+1)) W
section
variable{P:LP}{W W':World}{i:Nat}{v v':Value}
theorem LP.atR(P:LP)(r:Rt)(v:Value)(l:List Cy):(P.os++[E0 P.X.p P.x r P.X.sz P.l]++[VC P.X v l])[P.os.length]?=AE (E0 P.X.p P.x r P.X.sz P.l):=a8
theorem LP.Qk(P:LP)(a b:DD)(c:DD):(P.os++[a]++[c]).set P.os.length b=P.os++[b]++[c]:=a8
theorem LP.atL(P:LP)(a b:DD):(P.os++[a]++[b])[P.os.length+1]?=AE b:=a8
theorem LP.AO3(P:LP)(a b c:DD):(P.os++[a]++[c]).set (P.os.length+1) b=P.os++[a]++[b]:=a8
theorem LP.J.below(h:P.J i v W)(hb:Below W W W'):P.J i v W':=Wd.below h hb
theorem LP.J1.below(h:P.J1 i v W)(hb:Below W W W'):P.J1 i v W':=Wd.below h hb
theorem LP.next(I:P.Ok)(h:P.J i v W)(hi:i<P.l.length):
  Calls AP 48 #[AI P.x] W λe w'=>∃t:Cy,e=AH (AM #[AL #[t.a,t.b,t.c,t.d,t.e],true,()])/\P.l[i]?=AE t/\P.J1 i v w':=by
 have hh:=I.ok.h.1;have hle:=Df (h:=P.rt.h) (c:=i+1) (c':=P.l.length) hh a5;have ab:=Df (h:=P.rt.h) (c:=i) (c':=i+1) hh a5;have O:P.l[i]?=AE P.l[i]:=AU hi;have Q:Src (P.os++[E0 P.X.p P.x (P.at_ i) P.X.sz P.l]++[VC P.X v (P.l.take i)]) P.X.sz P.rt.first P.rt.k P.rt.h P.l:=(I.src.snoc _).snoc _;have U:qV (P.at_ i) P.X.sz P.l:=⟨⟨I.ok.k,I.ok.h,I.ok.sz,⟨I.ok.count.1,by show i<=P.rt.count;have:=I.cnt;omega⟩,I.ok.first⟩,I.cnt,I.fit⟩;have hn:=I.n;refine(OK h (P.atR _ _ _) U a5 (by show i<P.rt.count;have:=I.cnt;omega) Q O).mono ?_;rintro e w' (⟨he,hw⟩|⟨_,J,_⟩)
 ·refine⟨P.l[i],he,O,?_⟩;rw[P.Qk]at hw;unfold LP.J1;rw[show P.m+Cu P.rt.h (i+1)=P.m+Cu P.rt.h i+(Cu (P.at_ i).h ((P.at_ i).pos+1)-Cu (P.at_ i).h (P.at_ i).pos)by show _=P.m+Cu P.rt.h i+(Cu P.rt.h (i+1)-Cu P.rt.h i);omega];exact hw
 ·exact absurd I.cm J
theorem LP.end_(I:P.Ok)(h:P.J P.l.length v W):
  Calls AP 48 #[AI P.x] W λe w'=>e=AH (AM #[AL #[(),(),(),(),()],false,()])/\P.J P.l.length v w':=
 L5 h (P.atR _ _ _) ⟨I.ok.k,I.ok.h,I.ok.sz,⟨I.ok.count.1,by show P.l.length<=P.rt.count;have:=I.cnt;omega⟩,I.ok.first⟩ I.cnt
theorem LP.push(h:P.J1 i v W){t}(I:P.l[i]?=AE t)(hf:DJ (λk=>v.ownBlock=AE k) W W')(Q:W'.ownsRow P.X.w0.heap.size 47 5 v' (i+1) (EB (P.l.take i++[t])))(O:v'.ownBlock=v.ownBlock\/v'.ownBlock=AE W.heap.size):P.J (i+1) v' W':=by
 have hi:i<P.l.length:=by
  rcases Ak i P.l.length with e|e
  ·exact e
  ·rw[BG e]at I;cases I
 have U:P.l.take (i+1)=P.l.take i++[t]:=by rw[Bj,I];rfl
 have e:=Wd.AE1 (v':=v') (l':=P.l.take (i+1)) h (P.atL _ _) hf (by rw[U,Aa,AZ,Bi a5];exact Q) (λb hb=>by
  rcases O with J|J
  ·exact .inl (J▸hb)
  ·rw[J]at hb;injection hb with hb;exact .inr a5)
 rw[P.AO3]at e;exact e
theorem LP.own(h:P.J1 i v W)(hi:i<=P.l.length):W.ownsRow P.X.w0.heap.size 47 5 v i (EB (P.l.take i)):=by
 have:=Wd.at_ h (P.atL _ _);have e:W.ownsRow P.X.w0.heap.size 47 5 v (P.l.take i).length (EB (P.l.take i)):=this;rwa [AZ,Bi hi]at e
theorem LP.close(u:Bf)(h:P.J P.l.length v W):
  CallsD AP 47 #[AI P.x] u W λe I w'=>I=u/\(e=AH (AM #[])/\Wd P.X (P.os++[VC P.X v P.l]) (P.m+Cu P.rt.h P.l.length) w'):=by
 refine(Il u h (P.atR _ _ _)).mono ?_;rintro e I w' ⟨hu,he,hw⟩;rw[P.Qk,B6]at hw;refine⟨hu,he,?_⟩;have J:Wd P.X (P.os++Nn P.X.p P.x (P.at_ P.l.length)::[VC P.X v P.l]) (P.m+Cu P.rt.h P.l.length) w':=by simpa using hw
 exact J.cut rfl rfl
end
section
variable{X:Cx}{os:List DD}{m i:Nat}{W:World}{l:List Cy}
theorem AN7{first nb k hh}(h:Wd X os m W)(hi:os[i]?=AE (De first nb k hh l X.sz))(hf:Gh first nb k hh l X.sz)(Fy:X.cm)(ab:X.sz<=X.rm-DF DD.gw os)(hn:X.N+m+nb+1<=1000000){c}(hc:l.length=c):
  Calls AP 16 #[AI X.p.w,AL #[first,nb,k,c]] W λe w'=>∃v,e=AH (AM #[v,()])/\Wd X (os++[VC X v l]) (m+nb) w':=by
 subst hc;have Ec:Row (W.alloc (AK #[first,nb,k,l.length] 28)) W 28 [first,nb,k,l.length]:=heap_alloc_new _ _;have h0:Wd X os m (W.alloc (AK #[first,nb,k,l.length] 28)):=h.below ((AS _ _).alloc ar _);have aq:=h.bounds.1;have Lx:=AO (Mo h0 first nb k hh l.length l hf.Pp hf.hh.1 hf.bn hf.len hf.fst a5);have QD:Hid (Src os X.sz first k hh l):=⟨i,_,hi,λD hD hs=>by rw[<-hf.bn];exact hs hD,λ_=>⟨AQ _,by rw[<-hf.bn];exact AQ _⟩⟩;have Lj:Hid (∀x b g W1,JG ⟨k,hh,first,nb,l.length,0,b,g⟩ X.sz->Wd X (os++[E0 X.p x ⟨k,hh,first,nb,l.length,0,b,g⟩ X.sz l]) m W1->
   LP.Ok ⟨X,os,m,x,⟨k,hh,first,nb,l.length,0,b,g⟩,l⟩/\LP.J ⟨X,os,m,x,⟨k,hh,first,nb,l.length,0,b,g⟩,l⟩ 0 (AJ AD 0 0) W1/\X.w0.heap.size<=W1.heap.size):=λx b g W1 k1 k2=>by
  refine⟨⟨k1,rfl,hf.fit,QD.out,Fy,by show X.N+m+Cu hh l.length+1<=1000000;rw[<-hf.bn];exact hn,hf.len⟩,?_,k2.size⟩;have:=k2.AO0;show Wd X _ (m+Cu hh 0) W1;rw[Dx];exact this
 have aw:Hid (nb=Cu hh l.length):=hf.bn;have hlen:=hf.len;have c0:=Ec.cell 0;have c1:=Ec.cell 1;have c2:=Ec.cell 2;have c3:=Ec.cell 3;simp only[AX,AV]at c0 c1 c2 c3;clear h hi hf Fy ab hn Ec h0 aq QD;generalize GP:(λ(e:Ending) (w':World)=>∃v,e=AH (AM #[v,()])/\Wd X (os++[VC X v l]) (m+nb) w')=Dh at*
 replace GP:=AO GP;go_enter_defers func16,ntmps16
 go_wp2_with fail
 refine Lx.out.mono ?_;rintro e w1 ⟨x,b,g,rfl,DN,Ns⟩;obtain⟨hP,hJ,aA⟩:=Lj.out x b g w1 DN Ns;have HP:=AO hP;have ax:=AO hJ;clear DN Ns hP hJ Lj Lx c0 c1 c2 c3;have I5:Hid (∀v w',Wd X (os++[VC X v l]) (m+Cu hh l.length) w'->Dh (AH (AM #[v,()])) w'):=λv w' hw=>by
  rw[<-GP.out];exact⟨v,rfl,by rw[aw.out];exact hw⟩
 have J:Hid ((⟨X,os,m,x,⟨k,hh,first,nb,l.length,0,b,g⟩,l⟩:LP).x=x/\(⟨X,os,m,x,⟨k,hh,first,nb,l.length,0,b,g⟩,l⟩:LP).l=l/\(⟨X,os,m,x,⟨k,hh,first,nb,l.length,0,b,g⟩,l⟩:LP).X=X/\(⟨X,os,m,x,⟨k,hh,first,nb,l.length,0,b,g⟩,l⟩:LP).os=os/\(⟨X,os,m,x,⟨k,hh,first,nb,l.length,0,b,g⟩,l⟩:LP).m=m/\(⟨X,os,m,x,⟨k,hh,first,nb,l.length,0,b,g⟩,l⟩:LP).rt.h=hh):=⟨rfl,rfl,rfl,rfl,rfl,rfl⟩;generalize hP:(⟨X,os,m,x,⟨k,hh,first,nb,l.length,0,b,g⟩,l⟩:LP)=P at*
 clear hP;have RO:Hid (∀i v W,P.J i v W->i<l.length->Calls AP 48 #[AI x] W λe w'=>∃t:Cy,e=AH (AM #[AL #[t.a,t.b,t.c,t.d,t.e],true,()])/\l[i]?=AE t/\P.J1 i v w'):=λi v W h hi=>by
  have:=LP.next HP.out h (by rw[J.out.2.1];exact hi);rw[J.out.1,J.out.2.1]at this;exact this
 have pZ:Hid (∀v W,P.J l.length v W->Calls AP 48 #[AI x] W λe w'=>e=AH (AM #[AL #[(),(),(),(),()],false,()])/\P.J l.length v w'):=λv W h=>by
  have:=LP.end_ (P:=P) (v:=v) (W:=W) HP.out (by rw[J.out.2.1];exact h);rw[J.out.1,J.out.2.1]at this;exact this
 have GR:Hid (∀u v W,P.J l.length v W->CallsD AP 47 #[AI x] u W λe u' w'=>u'=u/\(e=AH (AM #[])/\Wd X (os++[VC X v l]) (m+Cu hh l.length) w')):=λu v W h=>by
  obtain⟨q1,q2,q3,q4,q5,q6⟩:=J.out;have:=LP.close (P:=P) (v:=v) (W:=W) u (by rw[q2];exact h);rw[q1,q2,q3,q4,q5,q6]at this;exact this
 have bC:Hid (∀i v W,P.J1 i v W->i<=l.length->W.ownsRow X.w0.heap.size 47 5 v i (EB (l.take i))/\X.w0.heap.size<=W):=λi v W h hi=>by
  obtain⟨q1,q2,q3,q4,q5,q6⟩:=J.out;have h1:=LP.own (P:=P) h (by rw[q2];exact hi);have h2:=Wd.size h;rw[q3]at h1 h2;rw[q2]at h1;exact⟨h1,h2⟩
 have bB:Hid (∀i v v' W W' t,P.J1 i v W->l[i]?=AE t->DJ (λk=>v.ownBlock=AE k) W W'->W'.ownsRow X.w0.heap.size 47 5 v' (i+1) (EB (l.take i++[t]))->(v'.ownBlock=v.ownBlock\/v'.ownBlock=AE W)->P.J (i+1) v' W'):=λi v v' W W' t h ht hf ho hv=>by
  obtain⟨q1,q2,q3,q4,q5,q6⟩:=J.out;exact LP.push h (by rw[q2];exact ht) hf (by rw[q2,q3];exact ho) hv
 clear J HP;go_wp2_with fail
 go_loopw [8] (λiv wr=>∃i:Nat,i<=l.length/\sliceLen iv=i/\Hid (P.J i iv wr)) (λiv _=>l.length-sliceLen iv)
 case atStart=>exact⟨0,Ao _,rfl,ax.out⟩
 case round=>
  obtain⟨i,hi,Og,RQ⟩:=hrel;have av:=AO Og;clear Og;by_cases au:i<l.length
  ·have an:=AO (RO.out _ _ _ RQ.out au);clear RQ;go_wp2_with fail
   refine an.out.mono ?_;rintro e I ⟨t,rfl,ht,Eu⟩;have az:=AO Eu;have HT:=AO ht;clear Eu ht an;obtain⟨ta,tb,U,Q,O⟩:=t;have PJ:Hid (Below I I ((I.alloc (AK #[ta,tb,U,Q,O] 47)).alloc (AK #[ta,tb,U,Q,O] 47))):=((AS I I).alloc ar _).alloc ((AS I I).alloc ar _).size _;have vX:=AO (az.out.below PJ.out);have ad:Row ((I.alloc (AK #[ta,tb,U,Q,O] 47)).alloc (AK #[ta,tb,U,Q,O] 47)) (I.alloc (AK #[ta,tb,U,Q,O] 47)).heap.size 47 (DH ⟨ta,tb,U,Q,O⟩):=heap_alloc_new _ _;rw[show (I.alloc (AK #[ta,tb,U,Q,O] 47)).heap.size=I.heap.size+1 by simp]at ad;have Jb:=AO ad;clear ad;go_wp2_with (with_reducible refine EW 37 ?_)
   unfold Hid;obtain⟨wL,I1⟩:=bC.out _ _ _ vX.out a5;refine Le rfl _ _ rfl wL rfl ⟨I.heap.size+1,0,AD⟩ rfl ⟨ta,tb,U,Q,O⟩ (λj u hj=>?_) a5 ?_ ?_
   ·rw[<-hj];rw[iy];exact Jb.out.cell j
   ·exact I1
   intro v' W ER Vq gC;have ay:=AO (bB.out _ _ _ _ _ _ vX.out HT.out Vq ER gC);have al:=AO (lZ ER);clear wL I1 ER Vq gC;go_wp2
   go_roundw
   case rel=>exact⟨i+1,a5,al.out,ay.out⟩
   case measure=>have:=al.out;have:=av.out;simp;omega
  ·obtain rfl:i=l.length:=a5;have ae:=AO (pZ.out _ _ RQ.out);clear RQ;go_wp2_with fail
   refine ae.out.mono ?_;rintro e I ⟨rfl,ao⟩;have vX:=AO (LP.J.below ao ((AS I I).alloc ar (AK #[(),(),(),(),()] 47)));clear ao ae;go_wp2
   refine A6 (f:=47) (args:=#[AI x]) a8 (by simp[go_sem]) ?_;refine(GR.out _ _ _ vX.out).mono ?_;rintro e u' Eo ⟨rfl,rfl,hw⟩;exact⟨_,by simp[results,Tryz.results16,go_sem],I5.out _ _ hw⟩
end
def plF(n rm b:Nat):Fs:=⟨fresh n b,empty rm,Hs 0 b⟩
section
variable{w0 w:World}{G:Nat->Prop}{p:Wp}{n rm b k m c:Nat}{A:Option Addr}{l:List Cy}
theorem cF(e:0<k/\k<=5)(I:8<=n/\n<=256):0<Cw n k/\Cw n k*k<=n-2/\Cw n k<=254:=by
 unfold Cw;rw[if_neg a5,BY];have O:k<=n-2:=a5;have J:=(Nat.le_div_iff_mul_le e.1).2 (show 1*k<=n-2 by omega);have h3:=Cf (n-2) k;have h4:=BX (n-2) k;exact⟨a5,h3,a5⟩
end
structure YP where
 X:Cx
 os:List DD
 m:Nat
 x:Nat
 t:Wt
 R:Nat
 l:List Cy
structure YP.Ok (P:YP):Prop where
 ok:Ew P.t P.X.sz
 bd:P.t.bound=P.l.length
 nil:P.t.l=[]
 fit:∀u∈P.l,D7 u/\Db P.t.k u=true
 cm:P.X.cm
 n:P.X.N+P.m+P.l.length+1<=1000000
def YP.z(P:YP)(cs:List Value):List DD:=P.os++[Cv P.R 28 cs]
def Z4:List Value:=[(),(),(),()]
def YP.J(P:YP)(i:Nat)(W:World):Prop:=Wd P.X (P.z Z4++[I6 P.X.p P.x (tk P.t P.l i) P.X.sz]) (P.m+i/P.t.h) W
def YP.C(P:YP)(cs:List Value)(W:World):Prop:=Wd P.X (P.z cs++[U5 P.X.p P.x (tk P.t P.l P.l.length) P.X.sz]) (P.m+Cu P.t.h P.l.length) W
section
variable{P:YP}{W W':World}{i:Nat}
theorem YP.jY(P:YP)(cs:List Value)(a:DD):(P.z cs++[a])[P.os.length+1]?=AE a:=by simp[YP.z]
theorem YP.Ts(P:YP)(cs:List Value)(a b:DD):(P.z cs++[a]).set (P.os.length+1) b=P.z cs++[b]:=by simp[YP.z]
theorem YP.atR(P:YP)(cs:List Value)(a:DD):(P.z cs++[a])[P.os.length]?=AE (Cv P.R 28 cs):=by simp[YP.z]
theorem YP.Qk(P:YP)(cs JU:List Value)(a:DD):(P.z cs++[a]).set P.os.length (Cv P.R 28 JU)=P.z JU++[a]:=by simp[YP.z]
theorem YP.AE2(e:P.Ok)(hi:i<=P.l.length):Ew (tk P.t P.l i) P.X.sz:=
 ⟨e.ok.k,e.ok.h,e.ok.sz,⟨e.ok.bound.1,by rw[Rj hi];show i<=P.t.bound;rw[e.bd];exact hi⟩,e.ok.blocks,e.ok.first⟩
theorem YP.J.below(h:P.J i W)(hb:Below W W W'):P.J i W':=Wd.below h hb
theorem YP.put(I:P.Ok)(h:P.J i W){tu}(O:P.l[i]?=AE tu)(hi:i<P.l.length):
  Calls AP 30 #[AI P.x,AL #[tu.a,tu.b,tu.c,tu.d,tu.e]] W λe w'=>e=AH ()/\P.J (i+1) w':=by
 have Lr:=BX i P.t.h;have U:=I.n;refine(RX h (P.jY _ _) (YP.AE2 I (Nat.le_of_lt hi)) a5 (tu:=tu) (I.fit tu (Ae O)).2 (by rw[Rj (Nat.le_of_lt hi)];show i<P.t.bound;rw[I.bd];exact hi)).mono ?_;rintro e w' (⟨he,hw⟩|⟨_,J,_⟩)
 ·refine⟨he,?_⟩;rw[P.Ts,rQ O,Rj (Nat.le_of_lt hi)]at hw;have Q:i/P.t.h<=(i+1)/P.t.h:=Nat.div_le_div_right a5;unfold YP.J;rw[show P.m+(i+1)/P.t.h=P.m+i/P.t.h+((i+1)/(tk P.t P.l i).h-i/(tk P.t P.l i).h)by show _=P.m+i/P.t.h+((i+1)/P.t.h-i/P.t.h);omega];exact hw
 ·exact absurd I.cm J
theorem YP.close(J:P.Ok)(h:P.J P.l.length W):
  Calls AP 31 #[AI P.x] W λe w'=>e=AH (AM #[AL #[(Dc (tk P.t P.l P.l.length):Nat),(Cu P.t.h P.l.length:Nat),P.t.k,P.l.length],()])/\P.C Z4 w':=by
 have Q:=BX P.l.length P.t.h;have O:=J.n;refine(ON h (P.jY _ _) (YP.AE2 J ar) a5).mono ?_;rintro e w' (⟨he,hw⟩|⟨_,I,_⟩)
 ·rw[Rj ar]at he hw;rw[P.Ts]at hw;refine⟨he,?_⟩;have hb:P.l.length/P.t.h<=Cu P.t.h P.l.length:=by unfold Cu;split<;>omega
  unfold YP.C;rw[show P.m+Cu P.t.h P.l.length=P.m+P.l.length/P.t.h+(Cu (tk P.t P.l P.l.length).h P.l.length-P.l.length/(tk P.t P.l P.l.length).h)by show _=P.m+P.l.length/P.t.h+(Cu P.t.h P.l.length-P.l.length/P.t.h);omega];exact hw
 ·exact absurd J.cm I
theorem YP.store(h:P.C Z4 W)(x1 x2 x3 x4:Value):P.C [x1,x2,x3,x4] ((((W.setCell P.R x1).setCell (P.R,1) x2).setCell (P.R,2) x3).setCell (P.R,3) x4):=by
 have I:=Wd.store h (P.atR _ _) a6 0 x1;rw[P.Qk]at I;have e:=I.store (P.atR _ _) a6 1 x2;rw[P.Qk]at e;have h3:=e.store (P.atR _ _) a6 2 x3;rw[P.Qk]at h3;have h4:=h3.store (P.atR _ _) a6 3 x4;rw[P.Qk]at h4;exact h4
theorem YP.C.shut{cs}(h:P.C cs W):Nc W P.x P.X.p (tk P.t P.l P.l.length):=Wd.at_ h (P.jY _ _)
theorem YP.C.AO4{cs}(h:P.C cs W):Row W P.R 28 cs:=Wd.row h (P.atR _ _)
theorem YP.C.fin{cs}(h:P.C cs W):Wd P.X (P.os++[De (Dc (tk P.t P.l P.l.length)) (Cu P.t.h P.l.length) P.t.k P.t.h P.l P.X.sz]) (P.m+Cu P.t.h P.l.length) W:=by
 have I:=Wc h (P.jY _ _);rw[P.Ts,Rj ar]at I;have e:(tk P.t P.l P.l.length).l=P.l:=B6;rw[e]at I;have I:Wd P.X (P.z cs++[De (Dc (tk P.t P.l P.l.length)) (Cu P.t.h P.l.length) P.t.k P.t.h P.l P.X.sz]) (P.m+Cu P.t.h P.l.length) W:=I;have J:Wd P.X (P.os++Cv P.R 28 cs::[De (Dc (tk P.t P.l P.l.length)) (Cu P.t.h P.l.length) P.t.k P.t.h P.l P.X.sz]) (P.m+Cu P.t.h P.l.length) W:=by simpa [YP.z]using I
 exact J.cut rfl rfl
theorem YP.fok(e:P.Ok)(hh:P.t.h=Cw P.X.sz P.t.k)(I:P.l.length<=100000):Gh (Dc (tk P.t P.l P.l.length)) (Cu P.t.h P.l.length) P.t.k P.t.h P.l P.X.sz:=
 ⟨e.ok.k,e.ok.h,hh,rfl,I,by have:=e.ok.first;unfold Dc;split<;>first|omega|exact this,e.fit⟩
end
section
variable{X:Cx}{os:List DD}{m:Nat}{W:World}{l:List Cy}
theorem yI{k n c A}(h:Wd X os m W)(Fy:X.cm)(hk:0<k/\k<=5)(I:∀z m' W',Wd X (os++z) m' W'->El W' W' A n l)(hlen:l.length<=1000)(Q:∀u∈l,Db k u=true)(J:X.sz+DF DD.gw os<=X.rm)(hn:X.N+m+l.length+1<=1000000)(hz:∃z,Rm X os z (Cu (Cw X.sz k) l.length)):
  Calls AP 12 #[AI X.p.w,k,AJ A n c] W λe w'=>∃first nb:Nat,e=AH (AM #[AL #[first,nb,k,n],()])/\Gh first nb k (Cw X.sz k) l X.sz/\Wd X (os++[De first nb k (Cw X.sz k) l X.sz]) (m+nb) w':=by
 have zK:=I [] m W (by rw[AY];exact h);have Z0:=zK.1;have Xk:=zK.2.1;have hh:=cF hk h.bounds.1;have al:Below W W (W.alloc (AK #[(),(),(),()] 28)):=(AS _ _).alloc ar _;have Ec:Row (W.alloc (AK #[(),(),(),()] 28)) W 28 Z4:=heap_alloc_new _ _;have h0:=h.new al Ec ar;have Gu:DF DD.gw (os++[Cv W 28 Z4])=DF DD.gw os:=D9 _ _ _;have T3:=AO (OJ h0 k n hh.1 a5 (by rw[Gu];exact J));have Ly:Hid (¬∀q,¬Rm X (os++[Cv W 28 Z4]) q (Cu (Cw X.sz k) n)):=λab=>by
  obtain⟨z,hz⟩:=hz;rw[Z0]at hz;refine ab z (GL hz λq hq=>?_);simp at hq;subst hq;exact⟨rfl,rfl⟩
 have Lj:Hid (∀x t W1,t.k=k->t.h=Cw X.sz k->t.bound=n->t.l=[]->Ew t X.sz->Wd X (os++[Cv W 28 Z4]++[I6 X.p x t X.sz]) m W1->
   ∃P:YP,(P.x=x/\P.l=l/\P.R=W.heap.size)/\P.Ok/\P.J 0 W1/\(∀i W',P.J i W'->El W' W'.heap.size A n l)/\(∀cs W',P.C cs W'->Nc W' x X.p (tk t l l.length))/\P.t=t/\
    (∀cs W',P.C cs W'->Gh (Dc (tk t l l.length)) (Cu (Cw X.sz k) n) k (Cw X.sz k) l X.sz/\Wd X (os++[De (Dc (tk t l l.length)) (Cu (Cw X.sz k) n) k (Cw X.sz k) l X.sz]) (m+Cu (Cw X.sz k) n) W')):=λx t W1 e1 e2 e3 e4 e5 hw=>by
  have hP:YP.Ok ⟨X,os,m,x,t,W,l⟩:=⟨e5,by rw[e3];exact Z0.symm,e4,λu hu=>⟨Xk u hu,by show Db t.k u=true;rw[e1];exact Q u hu⟩,Fy,hn⟩;refine⟨⟨X,os,m,x,t,W,l⟩,⟨rfl,rfl,rfl⟩,hP,?_,λi W' hj=>?_,λcs W' hc=>hc.shut,rfl,λcs W' hc=>?_⟩
  ·have e:tk t l 0=t:=by unfold tk;rw[Bs,<-e4]
   show Wd X (os++[Cv W.heap.size 28 Z4]++[I6 X.p x (tk t l 0) X.sz]) (m+0/t.h) W1;rw[e,Nat.zero_div];exact hw
  ·have hj:Wd X (os++[Cv W 28 Z4]++[I6 X.p x (tk t l i) X.sz]) (m+i/t.h) W':=hj;rw[AR]at hj;exact I _ _ _ hj
  ·have f1:=YP.fok hP (by show t.h=Cw X.sz t.k;rw[e1];exact e2) (by show l.length<=100000;omega);have U:=hc.fin;have f1:Gh (Dc (tk t l l.length)) (Cu t.h l.length) t.k t.h l X.sz:=f1;have U:Wd X (os++[De (Dc (tk t l l.length)) (Cu t.h l.length) t.k t.h l X.sz]) (m+Cu t.h l.length) W':=U;generalize Dc (tk t l l.length)=fo at f1 U⊢;rw[e1,e2,Z0]at f1 U;exact⟨f1,U⟩
 have PR:n<=1000:=a5;have Q7:=AO Z0;clear h Fy hk I hlen Q J hn hz zK Xk hh al Ec h0 Gu Z0;generalize GP:(λ(e:Ending) (w':World)=>∃first nb:Nat,e=AH (AM #[AL #[first,nb,k,n],()])/\Gh first nb k (Cw X.sz k) l X.sz/\Wd X (os++[De first nb k (Cw X.sz k) l X.sz]) (m+nb) w')=Dh at*
 replace GP:=AO GP;go_enter_defers func12,ntmps12
 go_wp2_with fail
 refine T3.out.mono ?_;rintro e w1 (⟨_,ab,_⟩|⟨x,t,rfl,e1,e2,e3,e4,e5,Ns⟩)
 ·exact(Ly.out ab).elim
 obtain⟨P,⟨hx,hl,hR⟩,hP,hj,I,ae,ht,IS⟩:=Lj.out x t w1 e1 e2 e3 e4 e5 Ns;have vI:Hid (∀i W tu,P.J i W->l[i]?=AE tu->i<n->Calls AP 30 #[AI x,AL #[tu.a,tu.b,tu.c,tu.d,tu.e]] W λe w'=>e=AH ()/\P.J (i+1) w'):=λi W tu O h2 h3=>by
  have:=YP.put hP O (by rw[hl];exact h2) (by rw[hl,Q7.out];exact h3);rw[hx]at this;exact this
 have GR:Hid (∀W,P.J n W->Calls AP 31 #[AI x] W λe w'=>e=AH (AM #[AL #[(Dc (tk t l l.length):Nat),(Cu (Cw X.sz k) n:Nat),k,n],()])/\P.C Z4 w'):=λW O=>by
  have:=YP.close hP (W:=W) (by rw[hl,Q7.out];exact O);rw[hx,ht,e2,e1,hl]at this;generalize Dc (tk t l l.length)=fo at this⊢;rw[Q7.out]at this;exact this
 have av:Hid (∀W' x1 x2 x3 x4,P.C Z4 W'->P.C [x1,x2,x3,x4] ((((W'.setCell W x1).setCell (W,1) x2).setCell (W,2) x3).setCell (W,3) x4)):=λW' x1 x2 x3 x4 O=>by
  have:=YP.store O x1 x2 x3 x4;rw[hR]at this;exact this
 have Jb:Hid (∀cs W',P.C cs W'->Row W' W 28 cs):=λcs W' O=>by
  have:=O.AO4;rw[hR]at this;exact this
 have HJ:=AO hj;have Lx:=AO I;have aq:=AO ae;have I5:Hid (∀cs W',P.C cs W'->Dh (AH (AM #[AL #[(Dc (tk t l l.length):Nat),(Cu (Cw X.sz k) n:Nat),k,n],()])) W'):=λcs W' O=>by
  obtain⟨f1,U⟩:=IS cs W' O;rw[<-GP.out];exact⟨_,_,rfl,f1,U⟩
 generalize Dc (tk t l l.length)=first at*
 generalize Cu (Cw X.sz k) n=nb at*
 clear hx hl hR hP hj I ae ht IS Ns e1 e2 e3 e4 e5 Lj Ly T3;go_wp2_with fail
 go_loopw [28] (λiv wr=>∃i:Nat,i<=n/\iv=AA AB (i:Int)/\Hid (P.J i wr)) (λiv _=>n-(BF iv).toNat)
 case atStart=>exact⟨0,Ao _,rfl,HJ.out⟩
 case round=>
  obtain⟨i,hi,rfl,RQ⟩:=hrel;by_cases ad:i<n
  ·obtain⟨bb,off,tu,rfl,I0,q0,q1,q2,q3,q4,_,ao⟩:=(Lx.out _ _ RQ.out).at_ ad;have FW:(0:Int)<=(i:Int):=a5;have cN:(i:Int)<(n:Int):=a5;have g0:decide ((i:Int)<(n:Int))=true:=by simpa using ad
   have dN:=AO (vI.out i _ tu (RQ.out.below ((AS wr wr).alloc ar (AK #[tu.a,tu.b,tu.c,tu.d,tu.e] 47))) ao.out ad);obtain⟨ta,tb,tc,td,te⟩:=tu;simp only at q0 q1 q2 q3 q4 dN;go_wp2_with fail
   refine dN.out.mono ?_;rintro e w5 ⟨rfl,Eu⟩;have aw:=AO Eu;clear Eu dN q0 q1 q2 q3 q4 RQ;go_wp2
   go_roundw
   case rel=>exact⟨i+1,a5,by go_num,aw.out⟩
   case measure=>simp[BF];omega
  ·obtain rfl:i=n:=a5;have g0:decide ((i:Int)<(i:Int))=false:=a8;have an:=AO (GR.out _ RQ.out);clear RQ;go_wp2_with fail
   refine an.out.mono ?_;rintro e w5 ⟨rfl,h5⟩;have J0:=AO (Jb.out _ _ h5);have H9:=AO (av.out _ first nb k i h5);have Eg:=AO (Jb.out _ _ H9.out);obtain⟨z0,z1,z2,z3⟩:=J0.out.q4;obtain⟨f0,f1,U,f3⟩:=J0.out.r4;have au:Hid (∀u,CallsD AP 29 #[AI x] u ((((w5.setCell W first).setCell (W,1) nb).setCell (W,2) k).setCell (W,3) i) λe u' w'=>u'=u/\(e=AH (AM #[])/\w'=((((w5.setCell W first).setCell (W,1) nb).setCell (W,2) k).setCell (W,3) i))):=λu=>FG (aq.out _ _ H9.out) u;clear h5 an;go_wp2
   refine A6 (f:=29) (args:=#[AI x]) a8 (by simp[go_sem]) ?_;refine(au.out _).mono ?_;rintro e u' Eo ⟨rfl,rfl,rfl⟩;have r0:=Eg.out.cell 0;have r1:=Eg.out.cell 1;have r2:=Eg.out.cell 2;have r3:=Eg.out.cell 3;simp only[AX,AV]at r0 r1 r2 r3;exact⟨AM #[AL #[first,nb,k,i],()],by simp[results,Tryz.results12,go_sem,r0,r1,r2,r3],I5.out _ _ H9.out⟩
end
theorem VX{n q:Nat}:∀(E:List (Nat×Nat)) (J:List Nat),(∀e∈E,e.2<=q)->J.Nodup->E.length<J.length->∃j∈J,∀e∈E,∀z,j*(n+q)<=z->z<j*(n+q)+n->¬I7 e z
 |[],J,_,_,hl=>by
  obtain⟨j,Q⟩:=List.exists_mem_of_length_pos (show 0<J.length from hl);exact⟨j,Q,λe he=>by cases he⟩
 |e::E,J,hq,hd,hl=>by
  by_cases hex:∃I∈J,∃z,I*(n+q)<=z/\z<I*(n+q)+n/\I7 e z
  ·obtain⟨I,UW,z0,h1,h2,h3⟩:=hex;have hlen:(J.erase I).length=J.length-1:=List.length_erase_of_mem UW;obtain⟨j,Q,MS⟩:=VX (n:=n) (q:=q) E (J.erase I) (λe he=>hq e (BD _ he)) (hd.erase I) (by simp at hl;omega);have ab:j≠I:=λe=>by
    subst e;exact(List.Nodup.not_mem_erase hd) Q
   refine⟨j,List.mem_of_mem_erase Q,λe' O z k1 U k3=>?_⟩;rcases A8.1 O with rfl|O
   ·have ad:=hq e' Az;unfold I7 at h3 k3;rcases Nat.lt_or_gt_of_ne ab with h|h
    ·have:(j+1)*(n+q)<=I*(n+q):=Af _ a5;rw[A7,BH]at this;omega
    ·have:(I+1)*(n+q)<=j*(n+q):=Af _ a5;rw[A7,BH]at this;omega
   ·exact MS e' O z k1 U k3
  ·obtain⟨j,Q,MS⟩:=VX (n:=n) (q:=q) E J (λe he=>hq e (BD _ he)) hd (by simp at hl;omega);refine⟨j,Q,λe' O z k1 U k3=>?_⟩;rcases A8.1 O with rfl|O
   ·exact hex ⟨j,Q,z,k1,U,k3⟩
   ·exact MS e' O z k1 U k3
theorem sK{X b os}(hS:X.S0=Hs 0 b){n q c}(E:List (Nat×Nat))(hE:∀e∈E,e.2<=q)(hc:E.length=c)(I:∀a∈os,a.ex.2=0\/a.ex∈E)(hb:c*(n+q)+n<=b):∃z,Rm X os z n:=by
 obtain⟨j,Q,MS⟩:=VX (n:=n) (q:=q) E (Bo (c+1)) hE List.nodup_range (by rw[List.length_range];omega);have J:j<=c:=by have:=List.mem_range.1 Q;omega
 have hm:j*(n+q)<=c*(n+q):=Af _ J;refine⟨j*(n+q),λz h1 h2=>⟨?_,λi a U=>?_⟩⟩
 ·rw[hS];exact Zf (m:=b) (n:=b) ar z a5 a5
 ·rcases I a (Ae U)with h|h
  ·intro O;have h3:a.ex.1<=z/\z<a.ex.1+a.ex.2:=O;omega
  ·exact MS _ h z h1 h2
def cxL(W1:World)(p:Wp)(rm sz b:Nat)(cm:Prop)(N:Nat):Cx:=⟨W1,p,Hs 0 b,rm,sz,b,cm,N,0,0⟩
section
variable{W1 w W:World}{p:Wp}{rm sz b m N:Nat}{cm:Prop}{os:List DD}{G:Nat->Prop}
theorem oS(J:Sys w G p (plF sz rm b) 0)(Q:∀k,G k->W1<=k)(hb:Below W1 W1 w)(QW:b<=1000000)(O:N<=1000000):Wd (cxL W1 p rm sz b True N) [] 0 w:=by
 refine⟨G,fresh sz b,empty rm,Hs 0 b,{
  sys:=J
  M8:=⟨Ao _,O⟩
  base:=Q
  WV:=hb
  size:=rfl
  blocks:=rfl
  alive:=⟨rfl,rfl⟩
  calm:=λ_=>aI _ _
  Dp:=by show (0:Int)<=((0+0:Nat):Int);omega
  room:=rfl
  used:=rfl
  ok:=λj a e=>by simp at e
  st:=λj a b' n' e=>by simp at e
  mem:=λj a e=>by simp at e
  Um:=λj a e=>by simp at e
  apart:=λj I a U e=>by simp at e
  exa:=λj I a U e=>by simp at e
  exs:=λj a e=>by simp at e
  s0:=XR a5 QW
  sp:=⟨rfl,rfl⟩
  free:=λz=>⟨λh=>⟨h,λj a e=>by simp at e⟩,λh=>h.1⟩
  sum:=rfl
  range:=by show ((0+b:Nat):Int)<=b;omega}⟩
end
theorem Yy(b:Nat)(hb:b<=100)(w:World):Calls AP 9 #[b] w λe w'=>
  ∃p G,e=AH (AI p.w)/\Sys w' G p (plF 10 (10*b) 6000) 0/\(∀k,G k->w<=k)/\Below w w w':=by
 have HN:=AO (sX 10 6000 w a5 ⟨a5,a5⟩);obtain⟨u,hu⟩:=ae (10*b);rw[<-hu];have hmul:(10:Int)*(b:Int)=(u:Int):=a5;have aq:Hid (∀W,Calls AP 25 #[u] W λe w'=>e=AH (AI W)/\J5 w' (λk=>k=W) W (empty u)/\Below W W w'):=λW=>by
  have:=QB (u:Int) W a5 a5;rwa [BY]at this
 have ad:Hid (∀W,Calls AP 26 #[AA AB 0,AA AB 6000] W λe w'=>∃p G,e=AH (AI (AE ⟨p,0,AD⟩))/\Ja w' G p (Hs 0 6000)/\(∀k,G k->W.heap.size<=k)/\Below W.heap.size W w'):=λW=>eX 0 6000 W a5 a5;have ao:Hid (∀W d a s,Calls AP 24 #[AI (AE ⟨d,0,AD⟩),AI (AE ⟨a,0,AD⟩),AI (AE ⟨s,0,AD⟩)] W λe w'=>e=AH (AI (AE ⟨W.heap.size,0,AD⟩))/\w'=W.alloc (AK #[ptr d,ptr a,ptr s] 87)):=λW d a s=>Sq d a s W;have ar:u<=1000:=a5;clear hu hb;go_enter func9,ntmps9
 go_wp2_with fail
 refine HN.out.mono ?_;rintro e w1 ⟨d,Gd,rfl,hd,Th,Dg⟩;have HD:=AO hd;have al:=AO Th;have NQ:=AO Dg;clear hd Th Dg HN;go_wp2_with fail
 refine(aq.out _).mono ?_;rintro e w2 ⟨rfl,ha,DT⟩;have HA:=AO ha;have Fg:=AO DT;clear ha DT;go_wp2_with fail
 refine(ad.out _).mono ?_;rintro e w3 ⟨s,Gs,rfl,hs,tq,ED⟩;have HS:=AO hs;have J:=AO tq;have Ei:=AO ED;clear hs tq ED;go_wp2_with fail
 refine(ao.out _ _ _ _).mono ?_;rintro e O ⟨rfl,U⟩;have I:Sys O (λk=>k=w3\/Gd k\/k=w1\/Gs k) ⟨w3,d,w1,s⟩ (plF 10 u 6000) 0:=by
  rw[U];exact yM HD.out Fg.out HA.out (λk Q=>by rw[Q];exact AQ _) rfl Ei.out HS.out (λk Q=>J.out k Q)
 have ab:=AO I;have qg:Hid (Below w w O):=by
  have q1:=NQ.out;have q2:=q1.trans (Fg.out.mono q1.size);have q3:=q2.trans (Ei.out.mono q2.size);have q4:Below w w O:=by rw[U];exact q3.alloc q3.size _
  exact q4
 have an:Hid (∀k,(k=w3.heap.size\/Gd k\/k=w1.heap.size\/Gs k)->w.heap.size<=k):=by
  have z1:=NQ.out.size;have z2:=Fg.out.size;have z3:=Ei.out.size;rintro k (rfl|h|rfl|h)
  ·omega
  ·exact al.out k h
  ·omega
  ·have:=J.out k h;omega
 clear I U;go_wp2
 go_ret
 exact⟨⟨w3,d,w1,s⟩,_,rfl,ab.out,an.out,qg.out⟩
section
variable{X:Cx}{os:List DD}{m i:Nat}{W W':World}{x:Nat}{r:Rt}{l:List Cy}
theorem VH{first nb k h sz}(hm:De first nb k h l sz∈os)(e:nb=Cu h l.length):Src os sz first k h l:=by
 obtain⟨j,I⟩:=Ax.1 hm;exact⟨j,_,I,λD J hd=>by rw[<-e];exact hd J,λ_=>⟨AQ _,by show first+Cu h l.length<=first+nb;rw[e];exact AQ _⟩⟩
theorem VN{z2 z n}(h:Rm X os z n)(U:∀a∈z2,a.ex.2=0):Rm X (os++z2) z n:=λy h1 h2=>by
 obtain⟨O,J⟩:=h y h1 h2;refine⟨O,λj a hj I=>?_⟩;rcases Ah.1 (Ae hj)with hm|hm
 ·obtain⟨Q,Xo,e⟩:=BP hm;exact J Q a (by rw[AU Xo,e]) I
 ·have h4:=U a hm;unfold I7 at I;rw[h4]at I;omega
def rat(r:Rt)(j:Nat):Rt:={r with pos:=j}
def aj(X:Cx)(x:Nat)(r:Rt)(l:List Cy)(a:DD):Prop:=∃j,a=E0 X.p x (rat r j) X.sz l\/a=Nn X.p x (rat r j)
structure xX (X:Cx) (r:Rt) (l:List Cy):Prop where
 ok:JG r X.sz
 cnt:l.length=r.count
 fit:∀u∈l,D7 u/\Db r.k u=true
 bn:r.blocks=Cu r.h l.length
theorem xX.vm(h:xX X r l){j}(e:j<=l.length):qV (rat r j) X.sz l:=⟨⟨h.ok.k,h.ok.h,h.ok.sz,⟨h.ok.count.1,by show j<=r.count;rw[<-h.cnt];exact e⟩,h.ok.first⟩,h.cnt,h.fit⟩
theorem VT{j}(h:Wd X os (m+Cu r.h j) W)(hi:os[i]?=AE (E0 X.p x (rat r j) X.sz l))(hF:xX X r l)(Q:Src os X.sz r.first r.k r.h l)(I:j<l.length)(U:X.N+m+Cu r.h l.length+1<=1000000):
  Calls AP 48 #[AI x] W λe w'=>
   (∃t,l[j]?=AE t/\e=AH (AM #[DW t,true,()])/\Wd X (os.set i (E0 X.p x (rat r (j+1)) X.sz l)) (m+Cu r.h (j+1)) w')\/
   (e=AH (AM #[DW Cz,false,AA AB 6])/\¬X.cm/\Wd X (os.set i (Nn X.p x (rat r j))) (m+Cu r.h l.length+1) w'):=by
 obtain⟨t,O⟩:∃t,l[j]?=AE t:=⟨_,AU I⟩;have b1:Cu r.h j<=Cu r.h (j+1):=Df hF.ok.h.1 (Nat.le_succ j);have b2:Cu r.h (j+1)<=Cu r.h l.length:=Df hF.ok.h.1 I;refine(OK h hi (hF.vm (Nat.le_of_lt I)) a5 (by show j<r.count;rw[<-hF.cnt];exact I) Q (t:=t) O).mono ?_;rintro e w' (⟨he,hw⟩|⟨he,J,hw⟩)
 ·refine .inl ⟨t,O,he,?_⟩;have hw:Wd X (os.set i (E0 X.p x (rat r (j+1)) X.sz l)) (m+Cu r.h j+(Cu r.h (j+1)-Cu r.h j)) w':=hw;rwa [show m+Cu r.h j+(Cu r.h (j+1)-Cu r.h j)=m+Cu r.h (j+1)by omega]at hw
 ·exact .inr ⟨he,J,hw.mono a5 a5⟩
theorem ZT{j}(h:Wd X os m W)(hi:os[i]?=AE (E0 X.p x (rat r j) X.sz l))(hF:xX X r l)(I:j=l.length):
  Calls AP 48 #[AI x] W λe w'=>e=AH (AM #[DW Cz,false,()])/\Wd X os m w':=
 L5 h hi (hF.vm (Nat.le_of_eq I)).ok (by show j=r.count;rw[<-hF.cnt];exact I)
theorem MD(u:Bf){a}(h:Wd X os m W)(hi:os[i]?=AE a)(Q:aj X x r l a):
  CallsD AP 47 #[AI x] u W λe I w'=>I=u/\(e=AH (AM #[])/\∃j,Wd X (os.set i (Nn X.p x (rat r j))) m w'):=by
 obtain⟨j,rfl|rfl⟩:=Q
 ·refine(Il u h hi).mono ?_;rintro e I w' ⟨O,J,h3⟩;exact⟨O,J,j,h3⟩
 ·refine(Lg u (h.at_ hi)).mono ?_;rintro e I w' ⟨O,J,h3⟩;refine⟨O,J,j,?_⟩;have U:os.set i (Nn X.p x (rat r j))=os:=by
   apply List.ext_getElem?;intro q;rw[Aw]
   split
   ·rename_i hq
    subst hq
    split
    ·exact hi.symm
    ·rename_i hl
     rw[BG a5]
   ·rfl
  rw[U];subst h3;exact h
end
noncomputable def Ho (P:Nat->Prop):Nat:=@dite Nat (∃n,P n/\∀m,P m->n<=m) (Classical.propDecidable _) (λh=>h.choose) (λ_=>0)
theorem Fi{P:Nat->Prop}{n:Nat}(h:P n):P (Ho P)/\Ho P<=n:=by
 have hex:∀k m,m<=k->P m->∃n,P n/\∀m,P m->n<=m:=λk=>by
  induction k with
  |zero=>intro m hm h;exact⟨m,h,λq _=>by omega⟩
  |succ k ih=>
   intro m hm h;by_cases O:∃q,q<m/\P q
   ·obtain⟨q,Q,J⟩:=O;exact ih q a5 J
   ·exact⟨m,h,λq Q=>Nat.not_lt.1 λJ=>O ⟨q,J,Q⟩⟩
 have I:=hex n n ar h;have e:Ho P=I.choose:=by unfold Ho;rw[dif_pos I]
 rw[e];exact⟨I.choose_spec.1,I.choose_spec.2 n h⟩
def outL(JE:Nat->Cy->Option Cy)(l:List Cy):Nat->List Cy
 |0=>[]
 |i+1=>outL JE l i++(match l[i]?with
  |some t=>(JE i t).toList
  |none=>[])
theorem XM(e:Nat->Cy->Option Cy)(l:List Cy):∀i,(outL e l i).length<=i
 |0=>AQ _
 |i+1=>by
  have h:=XM e l i;simp only[outL,Aa];rcases l[i]?with _|t
  ·simp;omega
  ·simp only;rcases e i t with _|u<;>simp<;>omega
theorem XL{JE l u}:∀{i},u∈outL JE l i->∃(j:Nat) (t:Cy),l[j]?=AE t/\JE j t=AE u
 |0,h=>by cases h
 |i+1,h=>by
  simp only[outL,Ah]at h;rcases h with h|h
  ·exact XL h
  ·rcases hl:l[i]?with _|t
   ·rw[hl]at h;cases h
   ·rw[hl]at h;exact⟨i,t,hl,by simpa using h⟩
theorem fO{JE l i t}(h:l[i]?=AE t):outL JE l (i+1)=outL JE l i++(JE i t).toList:=by simp[outL,h]
structure AB4 (X:Cx) (pre:List DD) (fH:Nat) (caps:Array Value) (l:List Cy) (JE:Nat->Cy->Option Cy) (H:Nat->List DD) (nh:Nat):Prop where
 ent:∀args w,Bu AP (callFunc fH args) w=.ok (.enter fH args) w
 len:∀j,(H j).length=nh
 how:∀j zz m W t,l[j]?=AE t->Wd X (pre++H j++zz) m W->Calls AP fH (#[DW t]++caps) W λe w'=>∃t' b,e=AH (AM #[DW t',.bool b])/\JE j t=(if b then AE t' else AD)/\Wd X (pre++H (j+1)++zz) m w'
structure CP where
 X:Cx
 pre:List DD
 H:Nat->List DD
 nh:Nat
 mid:List DD
 l:List Cy
 JE:Nat->Cy->Option Cy
 r:Rt
 x:Nat
 fH:Nat
 caps:Array Value
structure CP.Ok (P:CP):Prop where
 how:AB4 P.X P.pre P.fH P.caps P.l P.JE P.H P.nh
 rd:xX P.X P.r P.l
 src:∀j a zz,Src (P.pre++P.H j++P.mid++[a]++zz) P.X.sz P.r.first P.r.k P.r.h P.l
def CP.Z(P:CP)(j:Nat)(a:DD):List DD:=P.pre++P.H j++P.mid++[a]
def CP.rd(P:CP)(i:Nat):DD:=E0 P.X.p P.x (rat P.r i) P.X.sz P.l
def CP.np(P:CP):Nat:=P.pre.length+P.nh+P.mid.length
def CP.vF(P:CP):List Value:=[.func (.func 48) #[AI P.x] #[],.func (.func P.fH) #[] P.caps]
def CP.bx(P:CP)(b1 b2:Nat)(cs:List Value):List DD:=[Cv b1 175 P.vF,Cv b2 47 cs]
def Z5:List Value:=[(),(),(),(),()]
def CP.A(P:CP)(zz:List DD)(m i:Nat)(W:World):Prop:=Wd P.X (P.Z i (P.rd i)++zz) (m+Cu P.r.h i) W
def CP.B(P:CP)(zz:List DD)(m i:Nat)(W:World):Prop:=Wd P.X (P.Z i (P.rd (i+1))++zz) (m+Cu P.r.h (i+1)) W
def CP.N(P:CP)(zz:List DD)(m i:Nat)(W:World):Prop:=Wd P.X (P.Z i (Nn P.X.p P.x (rat P.r i))++zz) (m+Cu P.r.h P.l.length+1) W
section
variable{P:CP}{W W':World}{i m:Nat}{zz:List DD}
theorem CP.at_(e:P.Ok)(a:DD):(P.Z i a++zz)[P.np]?=AE a:=by
 unfold CP.Z CP.np;rw[AR,AW (by simp[e.how.len];omega),show P.pre.length+P.nh+P.mid.length-(P.pre++P.H i++P.mid).length=0 by simp[e.how.len];omega];rfl
theorem CP.AE6(I:P.Ok)(a b:DD):(P.Z i a++zz).set P.np b=P.Z i b++zz:=by
 unfold CP.Z CP.np;have e:P.pre.length+P.nh+P.mid.length=(P.pre++P.H i++P.mid).length:=by simp[I.how.len];omega
 rw[e];simp
theorem CP.A.next(I:P.Ok)(h:P.A zz m i W)(hi:i<P.l.length)(Q:P.X.N+m+Cu P.r.h P.l.length+1<=1000000):
  Calls AP 48 #[AI P.x] W λe w'=>
   (∃t,P.l[i]?=AE t/\e=AH (AM #[DW t,true,()])/\P.B zz m i w')\/(e=AH (AM #[DW Cz,false,AA AB 6])/\¬P.X.cm/\P.N zz m i w'):=by
 refine(VT h (CP.at_ I _) I.rd (I.src i _ zz) hi Q).mono ?_;rintro e w' (⟨t,O,he,hw⟩|⟨he,J,hw⟩)
 ·rw[CP.AE6 I]at hw;exact .inl ⟨t,O,he,hw⟩
 ·rw[CP.AE6 I]at hw;exact .inr ⟨he,J,hw⟩
theorem CP.A.end_(I:P.Ok)(h:P.A zz m i W)(hi:i=P.l.length):
  Calls AP 48 #[AI P.x] W λe w'=>e=AH (AM #[DW Cz,false,()])/\P.A zz m i w':=
 ZT h (CP.at_ I _) I.rd hi
theorem CP.B.how(Q:P.Ok)(h:P.B zz m i W){t}(J:P.l[i]?=AE t):
  Calls AP P.fH (#[DW t]++P.caps) W λe w'=>∃I b,e=AH (AM #[DW I,.bool b])/\P.JE i t=(if b then AE I else AD)/\P.A zz m (i+1) w':=by
 have U:Wd P.X (P.pre++P.H i++(P.mid++[P.rd (i+1)]++zz)) (m+Cu P.r.h (i+1)) W:=by
  unfold CP.B CP.Z at h;simpa [AR]using h
 refine(Q.how.how i _ _ W t J U).mono ?_;rintro e w' ⟨I,b,he,O,hw⟩;refine⟨I,b,he,O,?_⟩;unfold CP.A CP.Z;simpa [AR]using hw
theorem CP.A.below(h:P.A zz m i W)(hb:Below W W W'):P.A zz m i W':=Wd.below h hb
theorem CP.B.below(h:P.B zz m i W)(hb:Below W W W'):P.B zz m i W':=Wd.below h hb
theorem CP.N.below(h:P.N zz m i W)(hb:Below W W W'):P.N zz m i W':=Wd.below h hb
theorem CP.To(e:P.Ok)(a:DD):(P.Z i a).length=P.np+1:=by simp[CP.Z,CP.np,e.how.len];omega
theorem NZ{Y zz n b1 b2}{P:CP}{cs}(e:Y.length=n):(Y++(zz++P.bx b1 b2 cs))[n+zz.length]?=AE (Cv b1 175 P.vF)/\(Y++(zz++P.bx b1 b2 cs))[n+zz.length+1]?=AE (Cv b2 47 cs):=by
 subst e;constructor
 ·rw[<-AR,AW a8,Aa,As];rfl
 ·rw[<-AR,AW (by rw[Aa];omega),Aa,show Y.length+zz.length+1-(Y.length+zz.length)=1 by omega];rfl
theorem TL{Y zz n b1 b2}{P:CP}{cs JU}(e:Y.length=n):(Y++(zz++P.bx b1 b2 cs)).set (n+zz.length+1) (Cv b2 47 JU)=Y++(zz++P.bx b1 b2 JU):=by
 subst e;rw[<-AR,<-Aa,Ap _ _ a5,show (Y++zz).length+1-(Y++zz).length=1 by omega,AR];rfl
theorem oo{X Y zz b1 b2 M}{P:CP}{cs}(h:Wd X (Y++(zz++P.bx b1 b2 cs)) M W):Wd X (Y++zz) M W:=by
 have J:Wd X (Y++zz++P.bx b1 b2 cs++[]) M W:=by simpa [AR]using h
 have I:=Wd.GB _ (λq e=>by simp[CP.bx]at e;rcases e with rfl|rfl<;>exact⟨rfl,rfl⟩) J;simpa using I
theorem YG{X Y zz n b1 b2 M}{P:CP}{cs}(e:Y.length=n)(I:cs.length=5)(h:Wd X (Y++(zz++P.bx b1 b2 cs)) M W)(x0 x1 x2 x3 x4:Value):
  Wd X (Y++(zz++P.bx b1 b2 [x0,x1,x2,x3,x4])) M (((((W.setCell b2 x0).setCell (b2,1) x1).setCell (b2,2) x2).setCell (b2,3) x3).setCell (b2,4) x4):=by
 have Q:=Wd.store h (NZ e).2 a6 0 x0;rw[TL e]at Q;have O:=Q.store (NZ e).2 a6 1 x1;rw[TL e]at O;have J:=O.store (NZ e).2 a6 2 x2;rw[TL e]at J;have h3:=J.store (NZ e).2 a6 3 x3;rw[TL e]at h3;have h4:=h3.store (NZ e).2 a6 4 x4;rw[TL e]at h4
 match cs,I with
 |[c0,c1,c2,c3,c4],_=>exact h4
end
def CP.Res(P:CP)(zz:List DD)(m i:Nat)(e:Ending)(w':World):Prop:=
 (∃t i',e=AH (AM #[DW t,true,()])/\i<i'/\i'<=P.l.length/\outL P.JE P.l i'=outL P.JE P.l i++[t]/\P.A zz m i' w')\/
 (e=AH (AM #[DW Cz,false,()])/\outL P.JE P.l i=outL P.JE P.l P.l.length/\P.A zz m P.l.length w')\/
 (∃i',e=AH (AM #[DW Cz,false,AA AB 6])/\¬P.X.cm/\P.N zz m i' w')
theorem iS{P:CP}{W i m zz}(hP:P.Ok)(h:P.A zz m i W)(hi:i<=P.l.length)(hn:P.X.N+m+Cu P.r.h P.l.length+1<=1000000):
  Calls AP 114 #[.agg P.vF.toArray] W (P.Res zz m i):=by
 obtain⟨fH,ab⟩:=ae P.fH;obtain⟨I,nX⟩:=ae P.caps;obtain⟨x,hx⟩:=ae P.x;obtain⟨n,Z0⟩:=ae P.l.length;obtain⟨W2,I8⟩:=ae ((W.alloc (AK #[.func (.func 48) #[AI x] #[],.func (.func fH) #[] I] 175)).alloc (AK #[(),(),(),(),()] 47));have y9:P.vF=[.func (.func 48) #[AI x] #[],.func (.func fH) #[] I]:=by rw[ab,nX,hx];rfl
 have Dg:Below W W (W.alloc (AK #[.func (.func 48) #[AI x] #[],.func (.func fH) #[] I] 175)):=(AS _ _).alloc ar _;have Et:Row (W.alloc (AK #[.func (.func 48) #[AI x] #[],.func (.func fH) #[] I] 175)) W 175 P.vF:=by rw[y9];exact heap_alloc_new _ _
 have h1:=Wd.new h Dg Et ar;have DT:=(AS (W.alloc (AK #[.func (.func 48) #[AI x] #[],.func (.func fH) #[] I] 175)).heap.size (W.alloc (AK #[.func (.func 48) #[AI x] #[],.func (.func fH) #[] I] 175))).alloc ar (AK #[(),(),(),(),()] 47);have h2:=h1.new DT (heap_alloc_new _ _:Row _ _ 47 Z5) ar;rw[<-I8]at h2;have KU:(W.alloc (AK #[.func (.func 48) #[AI x] #[],.func (.func fH) #[] I] 175)).heap.size=W+1:=a8;rw[KU]at h2;have QG:Hid (P.A (zz++P.bx W (W+1) Z5) m i W2):=by
  unfold Hid CP.A;simpa [AR,CP.bx]using h2
 have a0:=hP.how.ent;rw[<-ab]at a0;have RO:Hid (∀i w,i<n->P.A (zz++P.bx W (W+1) Z5) m i w->Calls AP 48 #[AI x] w λe w'=>
   (∃t,P.l[i]?=AE t/\e=AH (AM #[DW t,true,()])/\P.B (zz++P.bx W.heap.size (W.heap.size+1) Z5) m i w')\/(e=AH (AM #[DW Cz,false,AA AB 6])/\¬P.X.cm/\P.N (zz++P.bx W.heap.size (W.heap.size+1) Z5) m i w')):=λi w hi h=>by rw[hx];exact h.next hP (by rw[<-Z0];exact hi) hn
 have aC:Hid (∀w,P.A (zz++P.bx W (W+1) Z5) m n w->Calls AP 48 #[AI x] w λe w'=>e=AH (AM #[DW Cz,false,()])/\P.A (zz++P.bx W (W+1) Z5) m n w'):=λw h=>by rw[hx];exact h.end_ hP Z0
 have aE:Hid (∀i w t,P.l[i]?=AE t->P.B (zz++P.bx W.heap.size (W.heap.size+1) Z5) m i w->Calls AP fH (#[DW t]++I) w λe w'=>∃O b,e=AH (AM #[DW O,.bool b])/\P.JE i t=(if b then AE O else AD)/\P.A (zz++P.bx W.heap.size (W.heap.size+1) Z5) m (i+1) w'):=λi w t ht h=>by rw[ab,nX];exact h.how hP ht
 have pO:Hid (∀i w,P.A (zz++P.bx W (W+1) Z5) m i w->Row w W 175 [.func (.func 48) #[AI x] #[],.func (.func fH) #[] I]/\Row w (W+1) 47 Z5):=λi w h=>by
  have q:=NZ (Y:=P.Z i (P.rd i)) (zz:=zz) (b1:=W) (b2:=W+1) (P:=P) (cs:=Z5) (CP.To hP _);have q1:=Wd.row h q.1;have q2:=Wd.row h q.2;rw[y9]at q1;exact⟨q1,q2⟩
 have dL:Hid (∀i w,P.B (zz++P.bx W (W+1) Z5) m i w->Row w W 175 [.func (.func 48) #[AI x] #[],.func (.func fH) #[] I]):=λi w h=>by
  have q:=NZ (Y:=P.Z i (P.rd (i+1))) (zz:=zz) (b1:=W) (b2:=W+1) (P:=P) (cs:=Z5) (CP.To hP _);have q1:=Wd.row h q.1;rw[y9]at q1;exact q1
 have aB:Hid (∀i w,P.N (zz++P.bx W (W+1) Z5) m i w->Row w (W+1) 47 Z5):=λi w h=>by
  have q:=NZ (Y:=P.Z i (Nn P.X.p P.x (rat P.r i))) (zz:=zz) (b1:=W) (b2:=W+1) (P:=P) (cs:=Z5) (CP.To hP _);exact Wd.row h q.2
 have aq:Hid (∀i w x0 x1 x2 x3 x4,P.A (zz++P.bx W.heap.size (W.heap.size+1) Z5) m i w->Row (((((w.setCell ⟨W.heap.size+1,0,AD⟩ x0).setCell ⟨W.heap.size+1,1,AD⟩ x1).setCell ⟨W.heap.size+1,2,AD⟩ x2).setCell ⟨W.heap.size+1,3,AD⟩ x3).setCell ⟨W.heap.size+1,4,AD⟩ x4) (W.heap.size+1) 47 [x0,x1,x2,x3,x4]/\P.A zz m i (((((w.setCell ⟨W.heap.size+1,0,AD⟩ x0).setCell ⟨W.heap.size+1,1,AD⟩ x1).setCell ⟨W.heap.size+1,2,AD⟩ x2).setCell ⟨W.heap.size+1,3,AD⟩ x3).setCell ⟨W.heap.size+1,4,AD⟩ x4)):=λi w x0 x1 x2 x3 x4 h=>by
  have q:=YG (CP.To hP (P.rd i)) rfl h x0 x1 x2 x3 x4;exact⟨q.row (NZ (CP.To hP _)).2,oo q⟩
 have aA:Hid (∀i w x0 x1 x2 x3 x4,P.N (zz++P.bx W.heap.size (W.heap.size+1) Z5) m i w->Row (((((w.setCell ⟨W.heap.size+1,0,AD⟩ x0).setCell ⟨W.heap.size+1,1,AD⟩ x1).setCell ⟨W.heap.size+1,2,AD⟩ x2).setCell ⟨W.heap.size+1,3,AD⟩ x3).setCell ⟨W.heap.size+1,4,AD⟩ x4) (W.heap.size+1) 47 [x0,x1,x2,x3,x4]/\P.N zz m i (((((w.setCell ⟨W.heap.size+1,0,AD⟩ x0).setCell ⟨W.heap.size+1,1,AD⟩ x1).setCell ⟨W.heap.size+1,2,AD⟩ x2).setCell ⟨W.heap.size+1,3,AD⟩ x3).setCell ⟨W.heap.size+1,4,AD⟩ x4)):=λi w x0 x1 x2 x3 x4 h=>by
  have q:=YG (CP.To hP (Nn P.X.p P.x (rat P.r i))) rfl h x0 x1 x2 x3 x4;exact⟨q.row (NZ (CP.To hP _)).2,oo q⟩
 have aw:Hid (∀i w w',P.A (zz++P.bx W (W+1) Z5) m i w->Below w w w'->P.A (zz++P.bx W (W+1) Z5) m i w'):=λi w w' h hb=>h.below hb;have qg:Hid (∀i w w',P.B (zz++P.bx W (W+1) Z5) m i w->Below w w w'->P.B (zz++P.bx W (W+1) Z5) m i w'):=λi w w' h hb=>h.below hb;have aR:Hid (∀i w w',P.N (zz++P.bx W (W+1) Z5) m i w->Below w w w'->P.N (zz++P.bx W (W+1) Z5) m i w'):=λi w w' h hb=>h.below hb;have YV:Hid (∀U t w,i<U->U<=n->outL P.JE P.l U=outL P.JE P.l i++[t]->P.A zz m U w->P.Res zz m i (AH (AM #[DW t,true,()])) w):=λU t w k1 k2 k3 k4=>.inl ⟨t,U,rfl,k1,by rw[<-Z0];exact k2,k3,k4⟩;have O9:Hid (∀w,outL P.JE P.l n=outL P.JE P.l i->P.A zz m n w->P.Res zz m i (AH (AM #[DW Cz,false,()])) w):=λw k1 k2=>.inr (.inl ⟨rfl,by rw[<-k1,Z0],by rw[<-Z0];exact k2⟩);have pe:Hid (∀U w,¬P.X.cm->P.N zz m U w->P.Res zz m i (AH (AM #[DW Cz,false,AA AB 6])) w):=λU w k1 k2=>.inr (.inr ⟨U,rfl,k1,k2⟩);have G7:Hid (∀U t,P.l[U]?=AE t->outL P.JE P.l (U+1)=outL P.JE P.l U++(P.JE U t).toList):=λU t ht=>fO ht;have az:i<=n:=by rw[Z0];exact hi
 rw[y9];generalize P.Res zz m i=Dh at*
 generalize P.A (zz++P.bx W.heap.size (W.heap.size+1) Z5) m=A at*
 generalize P.B (zz++P.bx W.heap.size (W.heap.size+1) Z5) m=B at*
 generalize P.N (zz++P.bx W.heap.size (W.heap.size+1) Z5) m=N at*
 generalize P.A zz m=A9 at*
 generalize P.N zz m=N9 at*
 generalize P.JE=JE at*
 generalize P.l=l at*
 generalize outL JE l=OL at*
 generalize P.X.cm=cm at*
 have Lv:=AO I8;have HZ:Hid (W2.heap.size=W.heap.size+2):=by unfold Hid;rw[I8];simp
 clear y9 Dg Et h1 DT h2 KU I8 h hP hn ab nX hx Z0 hi;go_enter func114,ntmps114
 go_wp2_with fail
 rw[<-Lv.out];obtain⟨J,hJ⟩:∃J:Nat->World->Prop,∀q w,J q w↔∃k,i<=k/\k<=n/\q=n-k/\OL k=OL i/\A k w:=⟨_,λ_ _=>BO⟩;have xu:=AO hJ;clear hJ Lv;generalize hs0:W.heap.size=s0 at*
 go_loopw [3,4] (λ_ _ wr=>∃q:Nat,Hid (J q wr)) (λ_ _ wr=>Ho λq=>J q wr)
 case atStart=>exact⟨n-i,(xu.out _ _).2 ⟨i,AQ _,az,rfl,rfl,QG.out⟩⟩
 case round=>
  obtain⟨q,hq⟩:=hrel;obtain⟨k,k1,k2,k3,k4,k5⟩:=(xu.out _ _).1 (Fi (P:=λq=>J q wr) hq.out).1;have aD:=AO k3;have ad:=AO k4;have av:=AO k5;have Ka:=AO (pO.out k wr k5);clear hq k3 k4 k5;have c0:wr.cell? s0=AE (.func (.func 48) #[AI x] #[]):=Ka.out.1.cell 0;by_cases ay:k<n
  ·have vK:=AO (RO.out k wr ay av.out);go_wp2_with fail
   refine vK.out.mono ?_;rintro e w2 (⟨t,ht,rfl,h2⟩|⟨rfl,ao,h2⟩)
   ·have HT:=AO ht;have Ei:=AO (qg.out k w2 _ h2 ((AS w2 w2).alloc ar (AK #[t.a,t.b,t.c,t.d,t.e] 47)));have GU:Row (w2.alloc (AK #[t.a,t.b,t.c,t.d,t.e] 47)) w2 47 [t.a,t.b,t.c,t.d,t.e]:=heap_alloc_new _ _;have IF:=AO GU;clear h2 GU ht c0;unfold DW;go_upto_region 4 with(fail)
    generalize w2.alloc (AK #[t.a,t.b,t.c,t.d,t.e] 47)=w3 at*
    generalize w2.heap.size=bt at*
    have HH:=AO (aE.out k w3 t HT.out Ei.out);unfold DW at HH;have IG:=AO (dL.out k w3 Ei.out);obtain⟨d0,d1,d2,d3,d4⟩:=IF.out.q5;have c1:w3.cell? (s0,1)=AE (.func (.func fH) #[] I):=IG.out.cell 1;go_wp2_with fail
    refine HH.out.mono ?_;rintro e w4 ⟨O,b,rfl,hc,h4⟩;have al:=G7.out k t HT.out;rw[hc]at al;have an:=AO al;have jJ:=AO (aw.out (k+1) w4 _ h4 ((AS w4 w4).alloc ar (AK #[O.a,O.b,O.c,O.d,O.e] 47)));have GU:Row (w4.alloc (AK #[O.a,O.b,O.c,O.d,O.e] 47)) w4 47 [O.a,O.b,O.c,O.d,O.e]:=heap_alloc_new _ _;have aS:=AO GU;clear h4 GU al hc d0 d1 d2 d3 d4 c1;rcases b with _| _
    ·go_wp2
     go_roundw
     case rel=>exact⟨n-(k+1),(xu.out _ _).2 ⟨k+1,a5,a5,rfl,by rw[an.out,ad.out];simp,jJ.out⟩⟩
     case measure=>
      refine Cg (Fi (P:=λq=>J q _) (n:=n-(k+1)) ((xu.out _ _).2 ⟨k+1,a5,a5,rfl,by rw[an.out,ad.out];simp,jJ.out⟩)).2 ?_;rw[aD.out];omega
    ·go_upto_region 5 with(fail)
     generalize w4.alloc (AK #[O.a,O.b,O.c,O.d,O.e] 47)=w5 at*
     generalize w4.heap.size=bu at*
     obtain⟨d0,d1,d2,d3,d4⟩:=aS.out.q5;have J0:=AO (pO.out (k+1) w5 jJ.out);obtain⟨z0,z1,z2,z3,z4⟩:=J0.out.2.q5;obtain⟨f0,f1,f2,f3,f4⟩:=J0.out.2.r5;have Q:=AO (aq.out (k+1) w5 O.a O.b O.c O.d O.e jJ.out);go_wp2
     have r0:=Q.out.1.cell 0;have r1:=Q.out.1.cell 1;have r2:=Q.out.1.cell 2;have r3:=Q.out.1.cell 3;have r4:=Q.out.1.cell 4;simp only[AX,AV]at r0 r1 r2 r3 r4;refine BA (v:=AM #[DW O,true,()]) (by unfold DW;simp[results,Tryz.results114,go_sem,r0,r1,r2,r3,r4]) rfl ?_;exact YV.out (k+1) O _ a5 a5 (by rw[an.out,ad.out];rfl) Q.out.2
   ·have Ly:=AO ao;have au:=AO (aR.out k w2 _ h2 ((AS w2 w2).alloc ar (AK #[(),(),(),(),()] 47)));clear h2 ao c0;unfold DW Cz;go_upto_region 2 with(fail)
    generalize w2.alloc (AK #[(),(),(),(),()] 47)=w3 at*
    generalize w2.heap.size=bu at*
    have J0:=AO (aB.out k w3 au.out);obtain⟨z0,z1,z2,z3,z4⟩:=J0.out.q5;obtain⟨f0,f1,f2,f3,f4⟩:=J0.out.r5;have Q:=AO (aA.out k w3 () () () () () au.out);go_wp2
    have r0:=Q.out.1.cell 0;have r1:=Q.out.1.cell 1;have r2:=Q.out.1.cell 2;have r3:=Q.out.1.cell 3;have r4:=Q.out.1.cell 4;simp only[AX,AV]at r0 r1 r2 r3 r4;refine BA (v:=AM #[DW Cz,false,AA AB 6]) (by unfold DW Cz;simp[results,Tryz.results114,go_sem,r0,r1,r2,r3,r4]) rfl ?_;exact pe.out k _ Ly.out Q.out.2
  ·obtain rfl:k=n:=a5;have vK:=AO (aC.out wr av.out);go_wp2_with fail
   refine vK.out.mono ?_;rintro e w2 ⟨rfl,h2⟩;have ax:=AO (aw.out k w2 _ h2 ((AS w2 w2).alloc ar (AK #[(),(),(),(),()] 47)));clear h2 c0;unfold DW Cz;go_upto_region 2 with(fail)
   generalize w2.alloc (AK #[(),(),(),(),()] 47)=w3 at*
   generalize w2.heap.size=bu at*
   have J0:=AO (pO.out k w3 ax.out);obtain⟨z0,z1,z2,z3,z4⟩:=J0.out.2.q5;obtain⟨f0,f1,f2,f3,f4⟩:=J0.out.2.r5;have Q:=AO (aq.out k w3 () () () () () ax.out);go_wp2
   have r0:=Q.out.1.cell 0;have r1:=Q.out.1.cell 1;have r2:=Q.out.1.cell 2;have r3:=Q.out.1.cell 3;have r4:=Q.out.1.cell 4;simp only[AX,AV]at r0 r1 r2 r3 r4;refine BA (v:=AM #[DW Cz,false,()]) (by unfold DW Cz;simp[results,Tryz.results114,go_sem,r0,r1,r2,r3,r4]) rfl ?_;exact O9.out _ ad.out Q.out.2
theorem Wu{A}{n c first nb k count:Nat}{l W}(ho:W.ownsRow 0 100 2 (AJ A n c) n (DB l))(hn:n<=1000000)(hb:∀i,i<n->(Dd l i).1+(Dd l i).2<=3000000)(hf:first<=3000000/\nb<=3000000)(Q:∀i,i<n->∀z,(Dd l i).1<=z->z<(Dd l i).1+(Dd l i).2->¬(first<=z/\z<first+nb)):
  Calls AP 144 #[AJ A n c,AL #[first,nb,k,count]] W λe w'=>e=AH (AJ AD 0 0)/\Below W W w':=by
 obtain⟨W1,EJ⟩:=ae (W.alloc (AK #[first,nb,k,count] 28));have Dg:Below W W W1:=by rw[EJ];exact(AS _ _).alloc ar _
 have Et:Row W1 W 28 [first,nb,k,count]:=by rw[EJ];exact heap_alloc_new _ _
 have PF:Hid (∀w,Below W1 W1 w->w.cell? W=AE (AA AB first)/\w.cell? (W,1)=AE (AA AB nb)):=λw hb=>by
  have h9:=Et.below hb Et.lt;exact⟨h9.cell 0,h9.cell 1⟩
 have HX:Hid (∀w i,Below W1.heap.size W1 w->i<n->∃g,A=AE ⟨g,0,AD⟩/\g<w.heap.size/\w.cell? ⟨g,i*2,AD⟩=AE (AA AB (Dd l i).1)/\w.cell? ⟨g,i*2+1,AD⟩=AE (AA AB (Dd l i).2)):=λw i hb hi=>by
  exact IM (Dz ho (Dg.trans (hb.mono Dg.size))) hi
 have I5:Hid (∀w,Below W1 W1 w->Below W W w):=λw hb=>Dg.trans (hb.mono Dg.size);have HB:=AO hb;have Ly:=AO Q;have FQ:=AO EJ;generalize aE:W.heap.size=s0 at*
 clear EJ Dg Et hb Q ho;go_enter func144,ntmps144
 go_upto_region 1 with(fail)
 rw[<-FQ.out];clear FQ;go_wp2_with fail
 go_loopw [5,12] (λlv iv wr=>lv=AJ AD 0 0/\∃i:Nat,i<=n/\iv=AA AB (i:Int)/\Hid (Below W1.heap.size W1 wr)) (λ_ iv _=>n-(BF iv).toNat)
 case atStart=>exact⟨rfl,0,Ao _,rfl,AS _ _⟩
 case round=>
  obtain⟨rfl,i,hi,rfl,J4⟩:=hrel;by_cases I:i<n
  ·have g0:decide ((i:Int)<(n:Int))=true:=by simpa using I
   have FW:(0:Int)<=(i:Int):=a5;have cN:(i:Int)<(n:Int):=a5;obtain⟨g,rfl,hg,q0,q1⟩:=HX.out wr i J4.out I;have hs:=HB.out i I;have hq:=Ly.out i I;generalize(Dd l i).1=x1 at*
   generalize(Dd l i).2=x2 at*
   obtain⟨w3,U⟩:=ae (wr.alloc (AK #[x1,x2] 100));have ED:Below wr wr w3:=by rw[U];exact(AS _ _).alloc ar _
   have FT:Row w3 wr 100 [x1,x2]:=by rw[U];exact heap_alloc_new _ _
   have Ei:=AO (J4.out.trans (ED.mono J4.out.size));have PL:=AO (Ei.out.trans (DA (AS W1.heap.size w3) 1));rw[show w3.drewN 1=w3.drew from rfl]at PL;have⟨c0,c1⟩:=PF.out _ PL.out;have c2:w3.drew.cell? ⟨wr.heap.size,0,AD⟩=AE (AA AB x1):=FT.cell 0;have c3:w3.drew.cell? ⟨wr.heap.size,1,AD⟩=AE (AA AB x2):=FT.cell 1;obtain⟨u,hu⟩:=ae (x1+x2);obtain⟨v,hv⟩:=ae (first+nb);obtain⟨J,hh⟩:=ae (max x1 first);obtain⟨O,ab⟩:=ae (min u v);have ad:¬J<O:=λhc=>hq J a5 a5 ⟨a5,a5⟩;have s1:(x1:Int)+(x2:Int)=(u:Int):=a5;have s2:(first:Int)+(nb:Int)=(v:Int):=a5;have m1:(if x1<first then (first:Int)else (x1:Int))=(J:Int):=by split<;>omega
   have m2:(if v<u then (v:Int)else (u:Int))=(O:Int):=by split<;>omega
   have g9:decide ((J:Int)<(O:Int))=false:=by simp;omega
   have w1:Ab.wrap (u:Int)=(u:Int):=Al _ a5;have w2:Ab.wrap (v:Int)=(v:Int):=Al _ a5;have Jz:=AO U;clear U ED FT hs hq hu hv hh ab;go_upto_region 5 with(fail)
   rw[<-Jz.out];go_region_held3 (λw=>w.cell? s0=AE (AA AB first)/\w.cell? (s0,1)=AE (AA AB nb)/\w.cell? wr.heap.size=AE (AA AB x1)/\w.cell? (wr.heap.size,1)=AE (AA AB x2)) (with_reducible exact⟨c0,c1,c2,c3⟩) (fail)
   all_goals
    clear c0 c1 c2 c3 s1 s2 m1 m2 w1 w2;go_wp2
    go_roundw
    case rel=>exact⟨rfl,i+1,a5,by go_num,PL.out⟩
    case measure=>simp[BF];omega
  ·obtain rfl:i=n:=a5;have g0:decide ((i:Int)<(i:Int))=false:=a8;go_wp2
   go_ret
   exact⟨rfl,I5.out _ J4.out⟩
section
variable{X:Cx}{os:List DD}{m:Nat}{W:World}
theorem Y3(h:Wd X os m W):Calls AP 145 #[AI X.p.s] W λe w'=>∃A n c l,e=AH (AJ A n c)/\w'.ownsRow 0 100 2 (AJ A n c) n (DB l)/\n<=1000000/\
  (∀i,i<n->(Dd l i).1+(Dd l i).2<=3000000)/\(∀i,i<n->∀z,(Dd l i).1<=z->z<(Dd l i).1+(Dd l i).2->∀(j:Nat) (a:DD),os[j]?=AE a->¬I7 a.ex z)/\Below W W w':=by
 obtain⟨G,D,A,S,hF⟩:=h;obtain⟨Gd,Ga,Gs,hr,hd,ha,U,_⟩:=hF.sys;have O:S.ok:=U.1;refine(X8 X.p.s S Gs W U).mono ?_;rintro e w' ⟨v',rfl,ho,hb⟩;have I:w'.ownsRow 0 100 2 v' S.fr.length (DB S.fr):=by
  obtain⟨Q,J⟩:=ho;refine⟨Q,?_⟩;rcases J with J|⟨g,cap,cur,rfl,hg,r⟩
  ·exact .inl J
  ·exact .inr ⟨g,cap,cur,rfl,Ao _,r⟩
 obtain⟨A',c,rfl,_,_,_⟩:=DL I;refine⟨A',_,c,S.fr,rfl,I,O.len,λi hi=>?_,λi hi z Q J j a hj hx=>?_,hb⟩
 ·have:=(O.2.2.getD hi).2.2;have:=O.1;have:=O.2.1;omega
 ·exact((hF.free z).1 ⟨Dd S.fr i,RI hi,Q,J⟩).2 j a hj hx
def dH(os:List DD)(W:World)(rb nr:Nat):Prop:=∀i,i<nr->∃f n k c:Nat,(W.cell? (rb,i*4)=AE (AA AB f)/\W.cell? (rb,i*4+1)=AE (AA AB n)/\W.cell? (rb,i*4+2)=AE (AA AB k)/\W.cell? (rb,i*4+3)=AE (AA AB c))/\f<=3000000/\n<=3000000/\(n=0\/∃(j:Nat) (a:DD),os[j]?=AE a/\a.ex=(f,n))
theorem di{k rb nr cr I:Nat}(h:Wd X os m W)(Xp:0<Cw X.sz k)(hc:I<=100000)(O:X.sz+DF DD.gw os<=X.rm)(U:0<nr/\nr<=10)(J:rb<W)(Jx:W.cell? (rb,3)=AE (AA AB I))(ab:dH os W rb nr):
  Calls AP 132 #[AI X.p.w,k,AJ rb nr cr] W λe w'=>
   (e=AH (AM #[AI AD,AA AB 5])/\(∀q,¬Rm X os q (Cu (Cw X.sz k) I))/\Wd X os m w')\/
   (∃x t,e=AH (AM #[AI (AE ⟨x,0,AD⟩),()])/\t.k=k/\t.h=Cw X.sz k/\t.bound=I/\t.l=[]/\Ew t X.sz/\Wd X (os++[I6 X.p x t X.sz]) m w'):=by
 have an:Hid (∀w,Below W W w->Calls AP 42 #[AI X.p.w] w λe w'=>e=AH (AI X.p.s)/\w'=w):=λw hb=>PX (h.below hb);have az:Hid (∀w,Below W W w->Calls AP 145 #[AI X.p.s] w λe w'=>∃A n c l,e=AH (AJ A n c)/\w'.ownsRow 0 100 2 (AJ A n c) n (DB l)/\n<=1000000/\
  (∀i,i<n->(Dd l i).1+(Dd l i).2<=3000000)/\(∀i,i<n->∀z,(Dd l i).1<=z->z<(Dd l i).1+(Dd l i).2->∀(j:Nat) (a:DD),os[j]?=AE a->¬I7 a.ex z)/\Below w.heap.size w w'):=λw hb=>Y3 (h.below hb)
 have T3:Hid (∀w,Below W W w->Calls AP 28 #[AI X.p.w,k,I] w λe w'=>
   (e=AH (AM #[AI AD,AA AB 5])/\(∀q,¬Rm X os q (Cu (Cw X.sz k) I))/\Wd X os m w')\/
   (∃x t,e=AH (AM #[AI (AE ⟨x,0,AD⟩),AA AB 0])/\t.k=k/\t.h=Cw X.sz k/\t.bound=I/\t.l=[]/\Ew t X.sz/\Wd X (os++[I6 X.p x t X.sz]) m w')):=λw hb=>OJ (h.below hb) k I Xp hc O
 have Lx:Hid (∀w,Below W W w->dH os w rb nr):=λw hb i hi=>by
  obtain⟨f,n,k,c,⟨h0,h1,h2,h3⟩,hr⟩:=ab i hi;exact⟨f,n,k,c,⟨(hb.cell J).trans h0,(hb.cell J).trans h1,(hb.cell J).trans h2,(hb.cell J).trans h3⟩,hr⟩
 have aA:Hid (∀w,Below W W w->w.cell? (rb,3)=AE (AA AB I)):=λw hb=>(hb.cell J).trans Jx;have dL:=AO J;have vJ:=AO U;have aE:nr<=10:=U.2;have Lp:(if 100000000<I then (100000000:Int)else (I:Int))=(I:Int):=by rw[if_neg a5]
 clear h Xp O J Jx ab U;generalize GP:(λ(e:Ending) (w':World)=>(e=AH (AM #[AI AD,AA AB 5])/\(∀q,¬Rm X os q (Cu (Cw X.sz k) I))/\Wd X os m w')\/
   (∃x t,e=AH (AM #[AI (AE ⟨x,0,AD⟩),AA AB 0])/\t.k=k/\t.h=Cw X.sz k/\t.bound=I/\t.l=[]/\Ew t X.sz/\Wd X (os++[I6 X.p x t X.sz]) m w'))=Dh at*
 replace GP:=AO GP;go_enter_defers func132,ntmps132
 go_wp2_with fail
 go_loopw [14] (λiv wr=>∃i:Nat,i<=nr/\iv=AA AB (i:Int)/\Hid (Below W.heap.size W wr)) (λiv _=>nr-(BF iv).toNat)
 case atStart=>exact⟨0,Ao _,rfl,AS _ _⟩
 case round=>
  obtain⟨i,hi,rfl,J4⟩:=hrel;by_cases al:i<nr
  ·have g0:decide ((i:Int)<(nr:Int))=true:=by simpa using al
   have FW:(0:Int)<=(i:Int):=a5;have cN:(i:Int)<(nr:Int):=a5;obtain⟨f,n,Q,c2,⟨q0,q1,q2,q3⟩,Kv,Gv,ad⟩:=Lx.out wr J4.out i al;have aC:rb<wr:=by have:=dL.out;have:=J4.out.size;omega
   obtain⟨w3,US⟩:=ae (wr.alloc (AK #[f,n,Q,c2] 28));have ED:Below wr wr w3:=by rw[US];exact(AS _ _).alloc ar _
   have FT:Row w3 wr 28 [f,n,Q,c2]:=by rw[US];exact heap_alloc_new _ _
   have Ei:=AO (J4.out.trans (ED.mono J4.out.size));have PL:=AO (Ei.out.trans ((DA (AS w3 w3) 1).mono Ei.out.size));rw[show w3.drewN 1=w3.drew from rfl]at PL;have jG:Hid (∀w,Below w3 w3 w->w.cell? wr=AE (AA AB f)/\w.cell? (wr,1)=AE (AA AB n)/\w.cell? (wr,2)=AE (AA AB Q)/\w.cell? (wr,3)=AE (AA AB c2)):=λw hb=>by
    have h9:=FT.below hb FT.lt;exact⟨h9.cell 0,h9.cell 1,h9.cell 2,h9.cell 3⟩
   have I:=jG.out w3.drew (DA (AS w3 w3) 1);have ay:Hid (∀(A:Option Addr) (N c:Nat) (l:List Ex) (w:World),w.ownsRow 0 100 2 (AJ A N c) N (DB l)->N<=1000000->(∀i,i<N->(Dd l i).1+(Dd l i).2<=3000000)->(∀i,i<N->∀z,(Dd l i).1<=z->z<(Dd l i).1+(Dd l i).2->∀(j:Nat) (a:DD),os[j]?=AE a->¬I7 a.ex z)->
     Calls AP 144 #[AJ A N c,AL #[f,n,Q,c2]] w λe w'=>e=AH (AJ AD 0 0)/\Below w.heap.size w w'):=λA N c l w h1 h2 h3 h4=>by
    refine Wu h1 h2 h3 ⟨Kv,Gv⟩ λi hi z k1 Q ⟨k3,k4⟩=>?_;rcases ad with h0|⟨j,a,hj,ha⟩
    ·omega
    ·exact h4 i hi z k1 Q j a hj (by rw[ha];exact⟨k3,k4⟩)
   have Jz:=AO US;clear US ED FT ad;go_upto_region 4 with(fail)
   rw[<-Jz.out];go_region_held3 (λw=>w.cell? wr.heap.size=AE (AA AB f)/\w.cell? (wr.heap.size,1)=AE (AA AB n)/\w.cell? (wr.heap.size,2)=AE (AA AB Q)/\w.cell? (wr.heap.size,3)=AE (AA AB c2)) (first|with_reducible exact I|with_reducible exact q5|with_reducible exact q6)
    (first
     |(go_at_call 42;(with_reducible refine(an.out _ PL.out).mono ?_);rintro e w4 ⟨rfl,rfl⟩)
     |(go_at_call 145;(with_reducible refine(az.out _ PL.out).mono ?_);rintro e w5 ⟨A5,n5,aD,l5,rfl,ax,aw,av,au,aq⟩;have Fx:Below w3.heap.size w3 w5:=(DA (AS w3.heap.size w3) 1).trans aq;have q5:=jG.out w5 Fx)
     |(go_at_call 144;(with_reducible refine(ay.out _ _ _ _ _ ax aw av au).mono ?_);rintro e w6 ⟨rfl,ao⟩;have RG:Below w3.heap.size w3 w6:=Fx.trans (ao.mono Fx.size);have q6:=jG.out w6 RG))
   all_goals
    have PJ:=AO (Ei.out.trans (RG.mono Ei.out.size));clear I q5 q6 ax aw av au aq ao Fx RG;go_wp2_with fail
    go_loopw [24] (λjv wq=>jv=AA AB 0/\Hid (Below W.heap.size W wq)) (λ_ _=>0)
    case atStart=>exact⟨rfl,PJ.out⟩
    case round=>
     obtain⟨rfl,aB⟩:=hrel;go_wp2
     go_roundw
     case rel=>exact⟨i+1,a5,by go_num,aB.out⟩
     case measure=>simp[BF];omega
  ·obtain rfl:i=nr:=a5;have g0:decide ((i:Int)<(i:Int))=false:=a8;have q3:=aA.out wr J4.out;have aC:rb<wr:=by have:=dL.out;have:=J4.out.size;omega
   have Di:(0:Int)<(i:Int):=by have:=vJ.out;omega
   have HW:=AO (T3.out wr J4.out);go_wp2_with fail
   refine HW.out.mono ?_;rintro e w9 h9;rw[<-GP.out]at h9;rcases h9 with⟨rfl,hno,hw⟩|⟨x,t,rfl,e1,e2,e3,e4,e5,hw⟩
   ·have H9:=AO (show Dh (AH (AM #[AI AD,AA AB 5])) w9 by rw[<-GP.out];exact .inl ⟨rfl,hno,hw⟩);clear hno hw;go_wp2
    exact⟨AM #[AI AD,AA AB 5],by simp[results,Tryz.results132,go_sem],H9.out⟩
   ·have H9:=AO (show Dh (AH (AM #[AI x,()])) w9 by rw[<-GP.out];exact .inr ⟨x,t,rfl,e1,e2,e3,e4,e5,hw⟩);clear hw e1 e2 e3 e4 e5;go_wp2
    exact⟨AM #[AI x,()],by simp[results,Tryz.results132,go_sem],H9.out⟩
end
def oy(fN:Nat)(vF:Value)(J:Nat->World->Prop)(Jm:Cy->Nat->World->Prop)(E:World->Prop)(Er:Nat->World->Prop):Prop:=
 ∀n w,J n w->Calls AP fN #[vF] w λe w'=>
  (∃t n',e=AH (AM #[DW t,true,()])/\n'<n/\Jm t n' w')\/
  (e=AH (AM #[DW Cz,false,()])/\E w')\/(∃er:Nat,e=AH (AM #[DW Cz,false,er])/\0<er/\Er er w')
def xV(fP:Nat)(vT:Value)(J:Nat->World->Prop)(Jm:Cy->Nat->World->Prop)(Er:Nat->World->Prop):Prop:=
 ∀t n w,Jm t n w->Calls AP fP #[vT,DW t] w λe w'=>(e=AH ()/\J n w')\/(∃er:Nat,e=AH er/\0<er/\Er er w')
theorem fu{fN fP n:Nat}{vF vT J Jm E Er W}
  (eN:∀args w,Bu AP (callFunc fN args) w=.ok (.enter fN args) w)(eP:∀args w,Bu AP (callFunc fP args) w=.ok (.enter fP args) w)
  (hN:oy fN vF J Jm E Er)(hP:xV fP vT J Jm Er)
  (O:∀t n w w',Jm t n w->Below w w w'->Jm t n w')(bE:∀w w',E w->Below w w w'->E w')(Q:∀er w w',Er er w->Below w w w'->Er er w')
  (h:J n W):Calls AP 133 #[.func (.func fN) #[vF] #[],.func (.func fP) #[vT] #[]] W λe w'=>(e=AH ()/\E w')\/(∃er:Nat,e=AH er/\0<er/\Er er w'):=by
 have HN:=AO hN;have HP:=AO hP;have BJ:=AO O;have BE:=AO bE;have BR:=AO Q;have H:=AO h;clear hN hP O bE Q h;go_enter func133,ntmps133
 go_wp2_with fail
 go_loopw [4] (λ_ wr=>∃k:Nat,Hid (J k wr)) (λ_ wr=>Ho λk=>J k wr)
 case atStart=>exact⟨n,H⟩
 case round=>
  obtain⟨k,hJ⟩:=hrel;have HJ:Hid (J (Ho λk=>J k wr) wr):=(Fi (P:=λk=>J k wr) hJ.out).1;have xk:=AO (HN.out _ wr HJ.out);clear hJ;go_wp2_with fail
  refine xk.out.mono ?_;rintro e w2 (⟨t,n',rfl,wP,I⟩|⟨rfl,I⟩|⟨er,rfl,Di,I⟩)
  ·have KM:=AO wP;have Jz:=AO (BJ.out t n' _ _ I ((AS w2 w2).alloc ar (AK #[t.a,t.b,t.c,t.d,t.e] 47)));have GU:Row (w2.alloc (AK #[t.a,t.b,t.c,t.d,t.e] 47)) w2 47 [t.a,t.b,t.c,t.d,t.e]:=heap_alloc_new _ _;have IF:=AO GU;clear I GU wP;unfold DW;go_upto_region 4 with(fail)
   generalize w2.alloc (AK #[t.a,t.b,t.c,t.d,t.e] 47)=w3 at*
   generalize w2.heap.size=bt at*
   have U:=AO (HP.out t n' w3 Jz.out);unfold DW at U;obtain⟨d0,d1,d2,d3,d4⟩:=IF.out.q5;go_wp2_with fail
   refine U.out.mono ?_;rintro e w4 (⟨rfl,h4⟩|⟨er,rfl,Di,h4⟩)
   ·have H4:=AO h4;clear h4;go_wp2
    go_roundw
    case rel=>exact⟨n',H4⟩
    case measure=>exact Cg (Fi (P:=λk=>J k w4) H4.out).2 KM.out
   ·have H4:=AO h4;have ab:¬(er:Int)=0:=a5;have T5:=AO Di;clear h4 Di;go_wp2
    go_ret
    exact .inr ⟨er,rfl,T5.out,H4.out⟩
  ·have H2:=AO I;clear I;unfold DW Cz;go_wp2
   go_ret
   exact .inl ⟨rfl,BE.out _ _ H2.out ((AS _ _).alloc ar _)⟩
  ·have H2:=AO I;have ab:¬(er:Int)=0:=a5;have T5:=AO Di;clear I Di;unfold DW Cz;go_wp2
   go_ret
   exact .inr ⟨er,rfl,T5.out,BR.out _ _ _ H2.out ((AS _ _).alloc ar _)⟩
structure ux (X:Cx) (fN:Nat) (vF:Value) {σ:Type} (P:σ->Prop) (Z:σ->List DD) (O:σ->List Cy) (mu c:σ->Nat) (nz:Nat) (Ze:List DD->Prop) (Out:List Cy) (Fin:Prop) (Jt:Nat->Prop) (bd ct k:Nat):Prop where
 ent:∀args w,Bu AP (callFunc fN args) w=.ok (.enter fN args) w
 len:∀s,(Z s).length=nz
 out:∀s,P s->(O s).length<=bd/\∀u∈O s,D7 u/\Db k u=true
 cost:∀s,P s->c s<=ct
 zok:∀s,P s->Ze (Z s)
 next:∀s zz m W,P s->Wd X (Z s++zz) (m+c s) W->X.N+m+ct+1<=1000000->Calls AP fN #[vF] W λe w'=>
  (∃t s',e=AH (AM #[DW t,true,()])/\P s'/\mu s'<mu s/\O s'=O s++[t]/\Wd X (Z s'++zz) (m+c s') w')\/
  (∃z',e=AH (AM #[DW Cz,false,()])/\O s=Out/\Fin/\z'.length=nz/\Ze z'/\Wd X (z'++zz) (m+ct) w')\/
  (∃(er:Nat) (z':List DD),e=AH (AM #[DW Cz,false,er])/\0<er/\(Jt er\/er=6/\¬X.cm)/\z'.length=nz/\Ze z'/\Wd X (z'++zz) (m+ct+1) w')
structure KP where
 X:Cx
 nz:Nat
 Ze:List DD->Prop
 Out:List Cy
 Fin:Prop
 Jt:Nat->Prop
 bd:Nat
 ct:Nat
 m:Nat
 x:Nat
 t:Wt
 R:Nat
structure KP.Ok (P:KP):Prop where
 ok:Ew P.t P.X.sz
 bd:P.t.bound=P.bd
 nil:P.t.l=[]
 n:P.X.N+P.m+P.ct+P.bd+2<=1000000
def KP.tl(P:KP)(l:List Cy):Wt:={P.t with l:=l}
def KP.Z(P:KP)(z:List DD)(cs:List Value)(a:DD):List DD:=z++[Cv P.R 28 cs,a]
def KP.Why(P:KP)(er:Nat):Prop:=P.Jt er\/er=6/\¬P.X.cm
def KP.J{σ:Type}(P:KP)(Q:σ->Prop)(Z:σ->List DD)(O:σ->List Cy)(mu c:σ->Nat)(n:Nat)(W:World):Prop:=
 ∃s,Q s/\mu s=n/\Wd P.X (P.Z (Z s) Z4 (I6 P.X.p P.x (P.tl (O s)) P.X.sz)) (P.m+(O s).length/P.t.h+c s) W
def KP.Jm{σ:Type}(P:KP)(Q:σ->Prop)(Z:σ->List DD)(O:σ->List Cy)(mu c:σ->Nat)(t:Cy)(n:Nat)(W:World):Prop:=
 ∃s l,Q s/\mu s=n/\O s=l++[t]/\Wd P.X (P.Z (Z s) Z4 (I6 P.X.p P.x (P.tl l) P.X.sz)) (P.m+l.length/P.t.h+c s) W
def KP.Fit(P:KP):Prop:=P.Out.length<=P.bd/\(∀u∈P.Out,D7 u/\Db P.t.k u=true)/\P.Fin
def KP.E(P:KP)(W:World):Prop:=∃z,z.length=P.nz/\P.Ze z/\P.Fit/\Wd P.X (P.Z z Z4 (I6 P.X.p P.x (P.tl P.Out) P.X.sz)) (P.m+P.Out.length/P.t.h+P.ct) W
def KP.Er(P:KP)(cs:List Value)(er:Nat)(W:World):Prop:=∃z a l,z.length=P.nz/\P.Ze z/\P.Why er/\l.length<=P.bd/\(a=I6 P.X.p P.x (P.tl l) P.X.sz\/a=Yt P.X.p P.x (P.tl l))/\Wd P.X (P.Z z cs a) (P.m+P.ct+P.bd+2) W
def KP.N(P:KP)(cs:List Value)(er:Nat)(W:World):Prop:=∃z l,z.length=P.nz/\P.Ze z/\P.Why er/\Wd P.X (P.Z z cs (Yt P.X.p P.x (P.tl l))) (P.m+P.ct+P.bd+2) W
def KP.C(P:KP)(cs:List Value)(W:World):Prop:=∃z,z.length=P.nz/\P.Ze z/\P.Fit/\Wd P.X (P.Z z cs (U5 P.X.p P.x (P.tl P.Out) P.X.sz)) (P.m+Cu P.t.h P.Out.length+P.ct) W
section
variable{P:KP}{W W':World}{z:List DD}{cs JU:List Value}{a b:DD}{er:Nat}{l:List Cy}
theorem KP.jY(P:KP)(e:z.length=P.nz)(cs:List Value)(a:DD):(P.Z z cs a)[P.nz+1]?=AE a:=by rw[<-e];simp[KP.Z]
theorem KP.Ts(P:KP)(e:z.length=P.nz)(cs:List Value)(a b:DD):(P.Z z cs a).set (P.nz+1) b=P.Z z cs b:=by rw[<-e];simp[KP.Z]
theorem KP.atR(P:KP)(e:z.length=P.nz)(cs:List Value)(a:DD):(P.Z z cs a)[P.nz]?=AE (Cv P.R 28 cs):=by rw[<-e];simp[KP.Z]
theorem KP.Qk(P:KP)(e:z.length=P.nz)(cs JU:List Value)(a:DD):(P.Z z cs a).set P.nz (Cv P.R 28 JU)=P.Z z JU a:=by rw[<-e];simp[KP.Z]
theorem KP.yL(e:P.Ok)(I:l.length<=P.bd):Ew (P.tl l) P.X.sz:=
 ⟨e.ok.k,e.ok.h,e.ok.sz,⟨e.ok.bound.1,by show l.length<=P.t.bound;rw[e.bd];exact I⟩,e.ok.blocks,e.ok.first⟩
theorem KP.ZD{M}(e:z.length=P.nz)(h:Wd P.X (P.Z z cs a) M W)(I:cs.length=4)(x1 x2 x3 x4:Value):Wd P.X (P.Z z [x1,x2,x3,x4] a) M ((((W.setCell P.R x1).setCell (P.R,1) x2).setCell (P.R,2) x3).setCell (P.R,3) x4):=by
 have O:=Wd.store h (P.atR e _ _) a6 0 x1;rw[P.Qk e]at O;have J:=O.store (P.atR e _ _) a6 1 x2;rw[P.Qk e]at J;have h3:=J.store (P.atR e _ _) a6 2 x3;rw[P.Qk e]at h3;have h4:=h3.store (P.atR e _ _) a6 3 x4;rw[P.Qk e]at h4
 match cs,I with
 |[c1,c2,c3,c4],_=>exact h4
theorem oR(n h:Nat):(n+1)/h=n/h+((n+1)/h-n/h):=by
 have:=Nat.div_le_div_right (c:=h) (show n<=n+1 by omega);omega
theorem KP.tell{σ fN k vF Q Z O}{U c:σ->Nat}(hP:P.Ok)(hk:P.t.k=k)(hS:ux P.X fN vF Q Z O U c P.nz P.Ze P.Out P.Fin P.Jt P.bd P.ct k):
  oy fN vF (P.J Q Z O U c) (P.Jm Q Z O U c) P.E (P.Er Z4):=by
 rintro n w ⟨s,hs,ab,hw⟩;have Lr:=BX (O s).length P.t.h;have zj:=(hS.out s hs).1;have hn:=hP.n;refine(hS.next s _ (P.m+(O s).length/P.t.h) w hs hw a5).mono ?_;rintro e w' (⟨t,s',he,J,h2,h3,h4⟩|⟨z',he,J,hF,h2,h3,h4⟩|⟨er,z',he,h0,J,h2,h3,h4⟩)
 ·exact .inl ⟨t,U s',he,a5,s',O s,J,rfl,h3,h4⟩
 ·have I:=(hS.out s hs).2;rw[J]at h4 zj I;exact .inr (.inl ⟨he,z',h2,h3,⟨zj,by rw[hk];exact I,hF⟩,h4⟩)
 ·exact .inr (.inr ⟨er,he,h0,z',_,O s,h2,h3,J,zj,.inl rfl,h4.mono a5 a5⟩)
theorem KP.take{σ fN k vF Q Z O}{U c:σ->Nat}(hP:P.Ok)(hk:P.t.k=k)(hS:ux P.X fN vF Q Z O U c P.nz P.Ze P.Out P.Fin P.Jt P.bd P.ct k):
  xV 30 (AI P.x) (P.J Q Z O U c) (P.Jm Q Z O U c) (P.Er Z4):=by
 rintro t n w ⟨s,l,J,ad,ho,hw⟩;obtain⟨qK,cH⟩:=hS.out s J;have ae:=hS.cost s J;rw[ho]at qK cH;have PS:l.length+1<=P.bd:=by simpa using qK
 have hn:=hP.n;have Lr:=BX l.length P.t.h;have zj:=BX (l.length+1) P.t.h;refine(RX hw (P.jY (hS.len s) _ _) (KP.yL hP a5) a5 (tu:=t) (by show Db P.t.k t=true;rw[hk];exact(cH t a8).2) (by show l.length<P.t.bound;rw[hP.bd];omega)).mono ?_;rintro e w' (⟨he,I⟩|⟨he,ab,I⟩)
 ·refine .inl ⟨he,s,J,ad,?_⟩;rw[P.Ts (hS.len s)]at I;rw[ho];have e1:(l++[t]).length=l.length+1:=a8;rw[e1];have wj:=oR l.length P.t.h;rw[show P.m+(l.length+1)/P.t.h+c s=P.m+l.length/P.t.h+c s+((l.length+1)/P.t.h-l.length/P.t.h)by omega];exact I
 ·refine .inr ⟨6,he,a5,Z s,_,l++[t],hS.len s,hS.zok s J,.inr ⟨rfl,ab⟩,by simpa using PS,.inr rfl,?_⟩;rw[P.Ts (hS.len s)]at I;exact I.mono a5 a5
theorem KP.close(hP:P.Ok)(h:P.E W):
  Calls AP 31 #[AI P.x] W λe w'=>(e=AH (AM #[AL #[(Dc (P.tl P.Out):Nat),(Cu P.t.h P.Out.length:Nat),P.t.k,P.Out.length],()])/\P.C Z4 w')\/(e=AH (AM #[AL #[(),(),(),()],AA AB 6])/\P.N Z4 6 w'):=by
 obtain⟨z,O,J,I,hw⟩:=h;have hle:=I.1;have hn:=hP.n;have Lr:=BX P.Out.length P.t.h;refine(ON hw (P.jY O _ _) (KP.yL hP hle) a5).mono ?_;rintro e w' (⟨he,Q⟩|⟨he,U,Q⟩)
 ·refine .inl ⟨he,z,O,J,I,?_⟩;rw[P.Ts O]at Q;have hb:P.Out.length/P.t.h<=Cu P.t.h P.Out.length:=by unfold Cu;split<;>omega
  rw[show P.m+Cu P.t.h P.Out.length+P.ct=P.m+P.Out.length/P.t.h+P.ct+(Cu P.t.h P.Out.length-P.Out.length/P.t.h)by omega];exact Q
 ·refine .inr ⟨he,z,P.Out,O,J,.inr ⟨rfl,U⟩,?_⟩;rw[P.Ts O]at Q;exact Q.mono a5 a5
theorem KP.drop(u:Bf)(hP:P.Ok)(h:P.Er cs er W):
  CallsD AP 29 #[AI P.x] u W λe O w'=>O=u/\(e=AH (AM #[])/\P.N cs er w'):=by
 obtain⟨z,a,l,J,I,IB,hl,rfl|rfl,hw⟩:=h
 ·refine(U8 hw (P.jY J _ _) (KP.yL hP hl) u).mono ?_;rintro e O w' ⟨U,Q,GS⟩;rw[P.Ts J]at GS;exact⟨U,Q,z,l,J,I,IB,GS⟩
 ·refine(FG (hw.at_ (P.jY J _ _)) u).mono ?_;rintro e O w' ⟨U,Q,rfl⟩;exact⟨U,Q,z,l,J,I,IB,hw⟩
theorem KP.N.drop(u:Bf)(h:P.N cs er W):
  CallsD AP 29 #[AI P.x] u W λe I w'=>I=u/\(e=AH (AM #[])/\w'=W):=by
 obtain⟨z,l,J,_,_,hw⟩:=h;exact FG (hw.at_ (P.jY J _ _)) u
theorem KP.C.drop(u:Bf)(h:P.C cs W):
  CallsD AP 29 #[AI P.x] u W λe I w'=>I=u/\(e=AH (AM #[])/\w'=W):=by
 obtain⟨z,J,_,_,hw⟩:=h;exact FG (hw.at_ (P.jY J _ _)) u
theorem KP.Er.store(h:P.Er cs er W)(e:cs.length=4)(x1 x2 x3 x4:Value):P.Er [x1,x2,x3,x4] er ((((W.setCell P.R x1).setCell (P.R,1) x2).setCell (P.R,2) x3).setCell (P.R,3) x4):=by
 obtain⟨z,a,l,I,O,J,h3,h4,hw⟩:=h;exact⟨z,a,l,I,O,J,h3,h4,KP.ZD I hw e x1 x2 x3 x4⟩
theorem KP.N.store(h:P.N cs er W)(e:cs.length=4)(x1 x2 x3 x4:Value):P.N [x1,x2,x3,x4] er ((((W.setCell P.R x1).setCell (P.R,1) x2).setCell (P.R,2) x3).setCell (P.R,3) x4):=by
 obtain⟨z,l,I,O,J,hw⟩:=h;exact⟨z,l,I,O,J,KP.ZD I hw e x1 x2 x3 x4⟩
theorem KP.C.store(h:P.C cs W)(e:cs.length=4)(x1 x2 x3 x4:Value):P.C [x1,x2,x3,x4] ((((W.setCell P.R x1).setCell (P.R,1) x2).setCell (P.R,2) x3).setCell (P.R,3) x4):=by
 obtain⟨z,I,O,J,hw⟩:=h;exact⟨z,I,O,J,KP.ZD I hw e x1 x2 x3 x4⟩
theorem KP.Er.row(h:P.Er cs er W):Row W P.R 28 cs:=by
 obtain⟨z,a,l,e,J,I,h3,h4,hw⟩:=h;exact hw.row (P.atR e _ _)
theorem KP.N.row(h:P.N cs er W):Row W P.R 28 cs:=by
 obtain⟨z,l,e,J,I,hw⟩:=h;exact hw.row (P.atR e _ _)
theorem KP.C.row(h:P.C cs W):Row W P.R 28 cs:=by
 obtain⟨z,e,J,I,hw⟩:=h;exact hw.row (P.atR e _ _)
theorem KP.N.fin(h:P.N cs er W):∃z,z.length=P.nz/\P.Ze z/\P.Why er/\Wd P.X z (P.m+P.ct+P.bd+2) W:=by
 obtain⟨z,l,I,O,J,hw⟩:=h;refine⟨z,I,O,J,?_⟩;have h3:Wd P.X (z++[Cv P.R 28 cs,Yt P.X.p P.x (P.tl l)]++[]) (P.m+P.ct+P.bd+2) W:=by rw[AY];exact hw
 have h4:=Wd.GB _ (λq e=>by simp at e;rcases e with rfl|rfl<;>exact⟨rfl,rfl⟩) h3;rwa [AY]at h4
theorem KP.C.fin(h:P.C cs W):∃z,z.length=P.nz/\P.Ze z/\P.Fit/\Wd P.X (z++[De (Dc (P.tl P.Out)) (Cu P.t.h P.Out.length) P.t.k P.t.h P.Out P.X.sz]) (P.m+Cu P.t.h P.Out.length+P.ct) W:=by
 obtain⟨z,e,J,hf,hw⟩:=h;refine⟨z,e,J,hf,?_⟩;have I:=Wc hw (P.jY e _ _);rw[P.Ts e]at I;have h3:Wd P.X (z++Cv P.R 28 cs::[De (Dc (P.tl P.Out)) (Cu P.t.h P.Out.length) P.t.k P.t.h P.Out P.X.sz]) (P.m+Cu P.t.h P.Out.length+P.ct) W:=I;exact h3.cut rfl rfl
end
def o8(X:Cx)(nz:Nat)(Ze:List DD->Prop)(Out:List Cy)(Fin:Prop)(Jt:Nat->Prop)(z0:List DD)(m ct bd k:Nat)(e:Ending)(w':World):Prop:=
 (∃(F N:Nat) (z:List DD),e=AH (AM #[AL #[F,N,k,Out.length],()])/\Gh F N k (Cw X.sz k) Out X.sz/\Fin/\z.length=nz/\Ze z/\Wd X (z++[De F N k (Cw X.sz k) Out X.sz]) (m+N+ct) w')\/
 (∃(er:Nat) (z:List DD),e=AH (AM #[AL #[(),(),(),()],er])/\0<er/\((Jt er\/er=6/\¬X.cm)\/er=5/\∀q,¬Rm X z0 q (Cu (Cw X.sz k) bd))/\z.length=nz/\Ze z/\Wd X z (m+ct+bd+2) w')
section
variable{X:Cx}{m:Nat}{W:World}
theorem qw{σ}{fN k nz bd ct nr rb cr:Nat}{vF Q Z O mu c Ze Out Fin Jt}{s0:σ}
  (hS:ux X fN vF Q Z O mu c nz Ze Out Fin Jt bd ct k)(hs0:Q s0)(aq:O s0=[])(Jx:c s0=0)(h:Wd X (Z s0) m W)(Xp:0<Cw X.sz k)(az:bd<=100000)(ab:X.sz+DF DD.gw (Z s0)<=X.rm)(hn:X.N+m+ct+bd+2<=1000000)
  (ay:0<nr/\nr<=10)(ae:rb<W)(Fl:W.cell? (rb,3)=AE (AA AB bd))(ax:dH (Z s0) W rb nr):
  Calls AP 113 #[AI X.p.w,k,.func (.func fN) #[vF] #[],AJ rb nr cr] W (o8 X nz Ze Out Fin Jt (Z s0) m ct bd k):=by
 have ad:Below W W (W.alloc (AK #[(),(),(),()] 28)):=(AS _ _).alloc ar _;have Ec:Row (W.alloc (AK #[(),(),(),()] 28)) W 28 Z4:=heap_alloc_new _ _;have h0:=h.new ad Ec ar;have Gu:DF DD.gw (Z s0++[Cv W 28 Z4])=DF DD.gw (Z s0):=D9 _ _ _;have aD:dH (Z s0++[Cv W 28 Z4]) (W.alloc (AK #[(),(),(),()] 28)) rb nr:=λi hi=>by
  obtain⟨f,n,k,c,⟨q0,q1,U,q3⟩,I,h2,h3⟩:=ax i hi;refine⟨f,n,k,c,⟨(ad.cell ae).trans q0,(ad.cell ae).trans q1,(ad.cell ae).trans U,(ad.cell ae).trans q3⟩,I,h2,h3.imp_right ?_⟩;rintro⟨j,a,hj,ha⟩;exact⟨j,a,Ru hj,ha⟩
 have T3:=AO (di (cr:=cr) h0 Xp az (by rw[Gu];exact ab) ay (by have:=ad.size;omega) ((ad.cell ae).trans Fl) aD);have aA:∀(w':World),(∀q,¬Rm X (Z s0++[Cv W 28 Z4]) q (Cu (Cw X.sz k) bd))->Wd X (Z s0++[Cv W 28 Z4]) m w'->∀q,¬Rm X (Z s0) q (Cu (Cw X.sz k) bd):=λw' al _ q hq=>
  al q (GL hq λa ha=>by simp at ha;subst ha;exact⟨rfl,rfl⟩)
 generalize GP:o8 X nz Ze Out Fin Jt (Z s0) m ct bd k=Dh at*
 have au:Hid (∀W':World,(∀q,¬Rm X (Z s0++[Cv W 28 Z4]) q (Cu (Cw X.sz k) bd))->Wd X (Z s0++[Cv W 28 Z4]) m W'->∃P:World->Prop,P W'/\(∀w,P w->Row w W 28 Z4)/\(∀w,P w->P ((((w.setCell W ()).setCell (W,1) ()).setCell (W,2) ()).setCell (W,3) ()))/\∀w,P w->Dh (AH (AM #[AL #[(),(),(),()],AA AB 5])) w):=λW' al hw=>by
  have ha:(Z s0++[Cv W 28 Z4])[(Z s0).length]?=AE (Cv W 28 Z4):=a8;have NF:∀cs,(Z s0++[Cv W 28 cs]).set (Z s0).length (Cv W 28 Z4)=Z s0++[Cv W 28 Z4]:=λcs=>by simp
  refine⟨λw=>Wd X (Z s0++[Cv W 28 Z4]) m w,hw,λw I=>I.row ha,λw I=>?_,λw I=>?_⟩
  ·have k1:=I.store ha a6 0 ();have k2:=k1.store (IJ _ ha _) a6 1 ();have k3:=k2.store (IJ _ (IJ _ ha _) _) a6 2 ();have k4:=k3.store (IJ _ (IJ _ (IJ _ ha _) _) _) a6 3 ();simpa [Z4]using k4
  ·rw[<-GP];refine .inr ⟨5,Z s0,rfl,a5,.inr ⟨rfl,aA w al I⟩,hS.len s0,hS.zok s0 hs0,?_⟩;exact(I.drop rfl rfl).mono a5 a5
 have Lj:Hid (∀x t W1,t.k=k->t.h=Cw X.sz k->t.bound=bd->t.l=[]->Ew t X.sz->Wd X (Z s0++[Cv W 28 Z4]++[I6 X.p x t X.sz]) m W1->
   ∃(P:KP) (F N:Nat),P.R=W.heap.size/\P.Ok/\P.x=x/\
    Calls AP 133 #[.func (.func fN) #[vF] #[],.func (.func 30) #[AI x] #[]] W1 (λe w'=>(e=AH ()/\P.E w')\/(∃er:Nat,e=AH er/\0<er/\P.Er Z4 er w'))/\
    (∀w,P.E w->Calls AP 31 #[AI x] w λe w'=>(e=AH (AM #[AL #[F,N,k,Out.length],()])/\P.C Z4 w')\/(e=AH (AM #[AL #[(),(),(),()],AA AB 6])/\P.N Z4 6 w'))/\
    (∀cs w,P.C cs w->Dh (AH (AM #[AL #[F,N,k,Out.length],()])) w)/\
    (∀cs er w,0<er->P.N cs er w->Dh (AH (AM #[AL #[(),(),(),()],er])) w)):=λx t W1 e1 e2 e3 e4 e5 hw=>by
  have hP:KP.Ok ⟨X,nz,Ze,Out,Fin,Jt,bd,ct,m,x,t,W⟩:=⟨e5,e3,e4,hn⟩;refine⟨⟨X,nz,Ze,Out,Fin,Jt,bd,ct,m,x,t,W⟩,Dc (KP.tl ⟨X,nz,Ze,Out,Fin,Jt,bd,ct,m,x,t,W⟩ Out),Cu t.h Out.length,rfl,hP,rfl,?_,λw I=>?_,λcs w I=>?_,λcs er w gX I=>?_⟩
  ·refine fu (J:=KP.J ⟨X,nz,Ze,Out,Fin,Jt,bd,ct,m,x,t,W⟩ Q Z O mu c) (n:=mu s0) hS.ent (λargs w=>by kernel_rfl) (KP.tell hP e1 hS) (KP.take hP e1 hS) ?_ ?_ ?_ ?_
   ·rintro tu n w w' ⟨s,l,q1,U,q3,q4⟩ hb;exact⟨s,l,q1,U,q3,q4.below hb⟩
   ·rintro w w' ⟨z,q1,U,q3,q4⟩ hb;exact⟨z,q1,U,q3,q4.below hb⟩
   ·rintro er w w' ⟨z,a,l,q1,U,q3,q4,q5,q6⟩ hb;exact⟨z,a,l,q1,U,q3,q4,q5,q6.below hb⟩
   ·refine⟨s0,hs0,rfl,?_⟩;have et:(KP.tl ⟨X,nz,Ze,Out,Fin,Jt,bd,ct,m,x,t,W⟩ (O s0))=t:=by unfold KP.tl;rw[aq,<-e4]
    rw[et,aq,Jx];show Wd X (Z s0++[Cv W.heap.size 28 Z4,I6 X.p x t X.sz]) (m+0/t.h+0) W1;rw[Nat.zero_div];simpa using hw
  ·have:=KP.close hP I;have aE:((⟨X,nz,Ze,Out,Fin,Jt,bd,ct,m,x,t,W⟩:KP).t.k)=k:=e1;rw[aE]at this;exact this
  ·obtain⟨z,q1,U,q3,q4⟩:=I.fin;have av:Out.length<=bd/\(∀u∈Out,D7 u/\Db t.k u=true)/\Fin:=q3;have ao:Wd X (z++[De (Dc (KP.tl ⟨X,nz,Ze,Out,Fin,Jt,bd,ct,m,x,t,W⟩ Out)) (Cu t.h Out.length) t.k t.h Out X.sz]) (m+Cu t.h Out.length+ct) w:=q4;rw[<-GP];have NI:Dc (KP.tl ⟨X,nz,Ze,Out,Fin,Jt,bd,ct,m,x,t,W⟩ Out)<=2000000:=by
    have:=e5.first;unfold Dc KP.tl
    split
    ·omega
    ·exact this
   generalize Dc (KP.tl ⟨X,nz,Ze,Out,Fin,Jt,bd,ct,m,x,t,W.heap.size⟩ Out)=fo at*
   refine .inl ⟨fo,Cu t.h Out.length,z,rfl,⟨by rw[<-e1];exact e5.k,by have h9:=e5.h;rw[e2,e1]at h9;exact h9,rfl,by rw[e2],a5,NI,by rw[<-e1];exact av.2.1⟩,av.2.2,q1,U,?_⟩;rw[e1]at ao;rw[e2]at ao⊢;exact ao
  ·obtain⟨z,q1,U,q3,q4⟩:=I.fin;rw[<-GP];exact .inr ⟨er,z,rfl,gX,.inl q3,q1,U,q4⟩
 clear hS hs0 aq Jx h Xp az ab hn ay ae Fl ax ad Ec h0 Gu aD aA;replace GP:=AO GP;go_enter_defers func113,ntmps113
 go_wp2_with fail
 refine T3.out.mono ?_;rintro e w1 (⟨rfl,al,Ns⟩|⟨x,t,rfl,e1,e2,e3,e4,e5,Ns⟩)
 ·obtain⟨P,hp,an,aw,IS⟩:=au.out w1 al Ns;have xh:=AO hp;have Jb:=AO an;have G7:=AO aw;have T6:=AO IS;clear hp an aw IS al Ns au Lj T3;have NP:=AO (Jb.out _ xh.out);obtain⟨z0,z1,z2,z3⟩:=NP.out.q4;obtain⟨f0,f1,f2,f3⟩:=NP.out.r4;have aC:=AO (G7.out _ xh.out);have Eg:=AO (Jb.out _ aC.out);go_wp2
  have r0:=Eg.out.cell 0;have r1:=Eg.out.cell 1;have r2:=Eg.out.cell 2;have r3:=Eg.out.cell 3;simp only[Z4,AX,AV]at r0 r1 r2 r3;exact⟨AM #[AL #[(),(),(),()],AA AB 5],by simp[results,Tryz.results113,go_sem,r0,r1,r2,r3],T6.out _ aC.out⟩
 obtain⟨P,F,N,hR,hP,hx,wK,Se,hC,hN⟩:=Lj.out x t w1 e1 e2 e3 e4 e5 Ns;have a9:=AO wK;have GR:=AO Se;have HC:=AO hC;have HN:=AO hN;have IX:=AO hP;have a3:Hid (∀er w,P.Er Z4 er w->Row w W 28 Z4/\P.Er Z4 er ((((w.setCell W ()).setCell (W,1) ()).setCell (W,2) ()).setCell (W,3) ())):=λer w I=>by
  have q1:=I.row;have U:=I.store rfl () () () ();rw[hR]at q1 U;exact⟨q1,U⟩
 have a7:Hid (∀er w,P.N Z4 er w->Row w W 28 Z4/\P.N Z4 er ((((w.setCell W ()).setCell (W,1) ()).setCell (W,2) ()).setCell (W,3) ())):=λer w I=>by
  have q1:=I.row;have U:=I.store rfl () () () ();rw[hR]at q1 U;exact⟨q1,U⟩
 have a2:Hid (∀w x1 x2 x3 x4,P.C Z4 w->Row w W 28 Z4/\P.C [x1,x2,x3,x4] ((((w.setCell W x1).setCell (W,1) x2).setCell (W,2) x3).setCell (W,3) x4)):=λw x1 x2 x3 x4 I=>by
  have q1:=I.row;have U:=I.store rfl x1 x2 x3 x4;rw[hR]at q1 U;exact⟨q1,U⟩
 have aR:Hid (∀cs w,P.C cs w->Row w W 28 cs):=λcs w I=>by have:=I.row;rw[hR]at this;exact this
 have aB:Hid (∀cs er w,P.N cs er w->Row w W 28 cs):=λcs er w I=>by have:=I.row;rw[hR]at this;exact this
 have a0:Hid (∀u er w,P.Er Z4 er w->CallsD AP 29 #[AI x] u w λe u' w'=>u'=u/\(e=AH (AM #[])/\P.N Z4 er w')):=λu er w I=>by have:=KP.drop u hP I;rw[hx]at this;exact this
 have aS:Hid (∀u er w,P.N Z4 er w->CallsD AP 29 #[AI x] u w λe u' w'=>u'=u/\(e=AH (AM #[])/\w'=w)):=λu er w I=>by have:=KP.N.drop u I;rw[hx]at this;exact this
 have a1:Hid (∀u cs w,P.C cs w->CallsD AP 29 #[AI x] u w λe u' w'=>u'=u/\(e=AH (AM #[])/\w'=w)):=λu cs w I=>by have:=KP.C.drop u I;rw[hx]at this;exact this
 clear wK Se hC hN hP hx hR Ns e1 e2 e3 e4 e5 Lj au T3;generalize bb:Out.length=ol at*
 go_wp2_with fail
 refine a9.out.mono ?_;rintro e w2 (⟨rfl,h2⟩|⟨er,rfl,Di,h2⟩)
 ·have H2:=AO h2;clear h2;go_wp2_with fail
  refine(GR.out _ H2.out).mono ?_;rintro e w3 (⟨rfl,h3⟩|⟨rfl,h3⟩)
  ·obtain⟨FT,h4⟩:=a2.out w3 F N k ol h3;have IG:=AO FT;have H4:=AO h4;clear h3 FT h4;obtain⟨z0,z1,z2,z3⟩:=IG.out.q4;obtain⟨f0,f1,f2,f3⟩:=IG.out.r4;go_wp2
   refine A6 (f:=29) (args:=#[AI x]) a8 (by simp[go_sem]) ?_;refine(a1.out _ _ _ H4.out).mono ?_;rintro e u' Eo ⟨rfl,rfl,rfl⟩;have Eg:=AO (aR.out _ _ H4.out);have r0:=Eg.out.cell 0;have r1:=Eg.out.cell 1;have r2:=Eg.out.cell 2;have r3:=Eg.out.cell 3;simp only[AX,AV]at r0 r1 r2 r3;exact⟨AM #[AL #[F,N,k,ol],()],by simp[results,Tryz.results113,go_sem,r0,r1,r2,r3],HC.out _ _ H4.out⟩
  ·obtain⟨FT,h4⟩:=a7.out 6 w3 h3;have IG:=AO FT;have H4:=AO h4;clear h3 FT h4;obtain⟨z0,z1,z2,z3⟩:=IG.out.q4;obtain⟨f0,f1,f2,f3⟩:=IG.out.r4;go_wp2
   refine A6 (f:=29) (args:=#[AI x]) a8 (by simp[go_sem]) ?_;refine(aS.out _ _ _ H4.out).mono ?_;rintro e u' Eo ⟨rfl,rfl,rfl⟩;have Eg:=AO (aB.out _ _ _ H4.out);have r0:=Eg.out.cell 0;have r1:=Eg.out.cell 1;have r2:=Eg.out.cell 2;have r3:=Eg.out.cell 3;simp only[Z4,AX,AV]at r0 r1 r2 r3;exact⟨AM #[AL #[(),(),(),()],AA AB 6],by simp[results,Tryz.results113,go_sem,r0,r1,r2,r3],HN.out _ 6 _ a5 H4.out⟩
 ·obtain⟨FT,h4⟩:=a3.out er w2 h2;have IG:=AO FT;have H4:=AO h4;have ba:¬(er:Int)=0:=a5;have T5:=AO Di;clear h2 FT h4 Di;obtain⟨z0,z1,z2,z3⟩:=IG.out.q4;obtain⟨f0,f1,f2,f3⟩:=IG.out.r4;go_wp2
  refine A6 (f:=29) (args:=#[AI x]) a8 (by simp[go_sem]) ?_;refine(a0.out _ _ _ H4.out).mono ?_;rintro e u' Eo ⟨rfl,rfl,h5⟩;have Eg:=AO (aB.out _ _ _ h5);have r0:=Eg.out.cell 0;have r1:=Eg.out.cell 1;have r2:=Eg.out.cell 2;have r3:=Eg.out.cell 3;simp only[Z4,AX,AV]at r0 r1 r2 r3;exact⟨AM #[AL #[(),(),(),()],er],by simp[results,Tryz.results113,go_sem,r0,r1,r2,r3],HN.out _ er _ T5.out h5⟩
end
def CP.Ze(P:CP)(z:List DD):Prop:=∃i a,z=P.Z i a/\aj P.X P.x P.r P.l a
theorem CP.AO1{P:CP}{k}(Q:P.Ok)(gL:∀j t u,P.l[j]?=AE t->P.JE j t=AE u->D7 u/\Db k u=true):
  ux P.X 114 (.agg P.vF.toArray) (λi=>i<=P.l.length) (λi=>P.Z i (P.rd i)) (outL P.JE P.l) (λi=>P.l.length-i) (λi=>Cu P.r.h i) (P.np+1) P.Ze (outL P.JE P.l P.l.length) True (λ_=>False) P.l.length (Cu P.r.h P.l.length) k where
 ent:=λargs w=>by kernel_rfl
 len:=λs=>CP.To Q _
 out:=λs O=>⟨Ag (XM _ _ s) O,λu hu=>by
  obtain⟨j,t,J,I⟩:=XL hu;exact gL j t u J I⟩
 cost:=λs O=>Df Q.rd.ok.h.1 O
 zok:=λs _=>⟨s,_,rfl,s,.inl rfl⟩
 next:=λs zz m W O hw hn=>by
  refine(iS Q hw O hn).mono ?_;rintro e w' (⟨t,U,he,J,I,h3,h4⟩|⟨he,J,I⟩|⟨U,he,J,I⟩)
  ·exact .inl ⟨t,U,he,I,a5,h3,h4⟩
  ·exact .inr (.inl ⟨_,he,J,trivial,CP.To Q _,⟨_,_,rfl,_,.inl rfl⟩,I⟩)
  ·exact .inr (.inr ⟨6,_,he,a5,.inr ⟨rfl,J⟩,CP.To Q _,⟨_,_,rfl,_,.inr rfl⟩,I⟩)
def OD(X:Cx)(pre post:List DD)(H:Nat->List DD)(Out:List Cy)(m nb bd k:Nat)(e:Ending)(w':World):Prop:=
 (∃F N i:Nat,e=AH (AM #[AL #[F,N,k,Out.length],()])/\Gh F N k (Cw X.sz k) Out X.sz/\Wd X (pre++H i++post++[De F N k (Cw X.sz k) Out X.sz]) (m+N+nb) w')\/
 (∃er i:Nat,e=AH (AM #[AL #[(),(),(),()],er])/\0<er/\(er=6/\¬X.cm\/er=5/\∀q,¬Rm X (pre++H 0++post) q (Cu (Cw X.sz k) bd))/\Wd X (pre++H i++post) (m+nb+bd+2) w')
def T1(Y:List DD)(fb R:Nat)(fc cs:List Value)(a:DD)(tail:List DD):List DD:=Y++[Cv fb 28 fc,Cv R 28 cs,a]++tail
section
variable{X:Cx}{Y tail:List DD}{fb R M:Nat}{fc cs JU:List Value}{a b:DD}{W:World}
theorem QZ:(T1 Y fb R fc cs a tail)[Y.length+1]?=AE (Cv R 28 cs):=by simp[T1]
theorem AL1:(T1 Y fb R fc cs a tail)[Y.length]?=AE (Cv fb 28 fc):=by simp[T1]
theorem om:(T1 Y fb R fc cs a tail)[Y.length+2]?=AE a:=by simp[T1]
theorem Ow:(T1 Y fb R fc cs a tail).set (Y.length+1) (Cv R 28 JU)=T1 Y fb R fc JU a tail:=by simp[T1]
theorem Us:(T1 Y fb R fc cs a tail).set (Y.length+2) b=T1 Y fb R fc cs b tail:=by simp[T1]
theorem Ur(e:cs.length=4)(h:Wd X (T1 Y fb R fc cs a tail) M W)(x1 x2 x3 x4:Value):Wd X (T1 Y fb R fc [x1,x2,x3,x4] a tail) M ((((W.setCell R x1).setCell (R,1) x2).setCell (R,2) x3).setCell (R,3) x4):=by
 have J:=Wd.store h QZ a6 0 x1;rw[Ow]at J;have I:=J.store QZ a6 1 x2;rw[Ow]at I;have h3:=I.store QZ a6 2 x3;rw[Ow]at h3;have h4:=h3.store QZ a6 3 x4;rw[Ow]at h4
 match cs,e with
 |[c1,c2,c3,c4],_=>exact h4
theorem cZ(I:a.gr=AD/\a.ex.2=0)(h:Wd X (T1 Y fb R fc cs a tail) M W):Wd X (Y++tail) M W:=
 Wd.GB _ (λq e=>by simp at e;rcases e with rfl|rfl|rfl<;>first|exact⟨rfl,rfl⟩|exact I) h
end
section
variable{X:Cx}{m:Nat}{W:World}
theorem dj{pre post H}{nh fH first nb k hh count width:Nat}{I l JE}
  (hH:AB4 X pre fH I l JE H nh)(h:Wd X (pre++H 0++post) m W)(hf:Gh first nb k hh l X.sz)(ab:De first nb k hh l X.sz∈pre++post)(hc:l.length=count)(qD:0<Cw X.sz width)
  (gL:∀j t u,l[j]?=AE t->JE j t=AE u->D7 u/\Db width u=true)(ad:2*X.sz+DF DD.gw (pre++H 0++post)<=X.rm)(hn:X.N+m+nb+count+2<=1000000):
  Calls AP 93 #[AI X.p.w,AL #[first,nb,k,count],width,.func (.func fH) #[] I] W (OD X pre post H (outL JE l count) m nb count width):=by
 obtain⟨W2,I8⟩:=ae ((W.alloc (AK #[first,nb,k,count] 28)).alloc (AK #[(),(),(),()] 28));have Dg:Below W W (W.alloc (AK #[first,nb,k,count] 28)):=(AS _ _).alloc ar _;have h1:=h.new Dg (heap_alloc_new _ _:Row _ _ 28 [first,nb,k,count]) ar;have DT:=(AS (W.alloc (AK #[first,nb,k,count] 28)).heap.size (W.alloc (AK #[first,nb,k,count] 28))).alloc ar (AK #[(),(),(),()] 28);have h2:=h1.new DT (heap_alloc_new _ _:Row _ _ 28 Z4) ar;rw[<-I8]at h2;rw[show (W.alloc (AK #[first,nb,k,count] 28)).heap.size=W.heap.size+1 by simp]at h2;obtain⟨fb,LL⟩:=ae W.heap.size;rw[<-LL]at h2;obtain⟨fc,Pu⟩:∃fc:List Value,fc=[AA AB first,AA AB nb,AA AB k,AA AB count]:=⟨_,rfl⟩;rw[<-Pu]at h2;have h2:Wd X (pre++H 0++(post++[Cv fb 28 fc,Cv (fb+1) 28 Z4])) m W2:=by simpa [AR]using h2
 have Gu:DF DD.gw (pre++H 0++(post++[Cv fb 28 fc,Cv (fb+1) 28 Z4]))=DF DD.gw (pre++H 0++post):=by
  rw[<-AR,DP,D5 [Cv fb 28 fc,Cv (fb+1) 28 Z4] (λq hq=>by simp at hq;rcases hq with rfl|rfl<;>exact⟨rfl,rfl⟩)];omega
 have Lx:Hid (∀w,Below W2.heap.size W2 w->Calls AP 46 #[AI (AE ⟨X.p.w,0,AD⟩),AL #[AA AB first,AA AB nb,AA AB k,AA AB count]] w λe w'=>∃x b g,e=AH (AM #[AI (AE ⟨x,0,AD⟩),AA AB 0])/\JG ⟨k,hh,first,nb,count,0,b,g⟩ X.sz/\Wd X (pre++H 0++(post++[Cv fb 28 fc,Cv (fb+1) 28 Z4])++[E0 X.p x ⟨k,hh,first,nb,count,0,b,g⟩ X.sz l]) m w'):=λw hb=>
  Mo (h2.below hb) first nb k hh count l hf.Pp hf.hh.1 (by rw[hf.bn,hc]) (by rw[<-hc];exact hf.len) hf.fst (by rw[Gu];omega)
 have T7:Hid (Row W2 fb 28 fc):=h2.row (i:=(pre++H 0++post).length) (by rw[<-AR,AW ar,As];rfl);have Lj:Hid (∀x b g w0,JG ⟨k,hh,first,nb,count,0,b,g⟩ X.sz->Wd X (pre++H 0++(post++[Cv fb 28 fc,Cv (fb+1) 28 Z4])++[E0 X.p x ⟨k,hh,first,nb,count,0,b,g⟩ X.sz l]) m w0->
   ∃(A:World->Prop) (C:Nat->Nat->List Value->World->Prop) (N:Nat->List Value->World->Prop),A w0/\(∀w w',A w->Below w.heap.size w w'->A w')/\(∀w,A w->Row w fb 28 fc)/\
    (∀w rb,A w->Row w rb 28 fc->Calls AP 113 #[AI X.p.w,width,.func (.func 114) #[AL #[.func (.func 48) #[AI x] #[],.func (.func fH) #[] I]] #[],AJ rb 1 1] w λe w'=>
     (∃F M:Nat,e=AH (AM #[AL #[F,M,width,((outL JE l count).length:Nat)],()])/\C F M Z4 w')\/
     (∃er:Nat,e=AH (AM #[AL #[(),(),(),()],er])/\0<er/\N er Z4 w'))/\
    (∀F M cs w x1 x2 x3 x4,cs.length=4->C F M cs w->C F M [x1,x2,x3,x4] ((((w.setCell (fb+1,0) x1).setCell (fb+1,1) x2).setCell (fb+1,2) x3).setCell (fb+1,3) x4))/\
    (∀er cs w x1 x2 x3 x4,cs.length=4->N er cs w->N er [x1,x2,x3,x4] ((((w.setCell (fb+1,0) x1).setCell (fb+1,1) x2).setCell (fb+1,2) x3).setCell (fb+1,3) x4))/\
    (∀F M cs w,C F M cs w->Row w (fb+1) 28 cs)/\(∀er cs w,N er cs w->Row w (fb+1) 28 cs)/\
    (∀F M cs w u,C F M cs w->CallsD AP 47 #[AI x] u w λe u' w'=>u'=u/\(e=AH (AM #[])/\Row w' (fb+1) 28 cs/\OD X pre post H (outL JE l count) m nb count width (AH (AM #[AL #[F,M,width,((outL JE l count).length:Nat)],()])) w'))/\
    (∀er cs w u,0<er->N er cs w->CallsD AP 47 #[AI x] u w λe u' w'=>u'=u/\(e=AH (AM #[])/\Row w' (fb+1) 28 cs/\OD X pre post H (outL JE l count) m nb count width (AH (AM #[AL #[(),(),(),()],er])) w'))):=λx b g w0 GU JS=>by
  obtain⟨P,qP⟩:∃P:CP,P=⟨X,pre,H,nh,post++[Cv fb 28 fc,Cv (fb+1) 28 Z4],l,JE,⟨k,hh,first,nb,count,0,b,g⟩,x,fH,I⟩:=⟨_,rfl⟩;have hP:P.Ok:=by
   rw[qP];refine⟨hH,⟨GU,hc,λu hu=>hf.fit u hu,hf.bn⟩,λj a zz=>VH (nb:=nb) ?_ hf.bn⟩;show De first nb k hh l X.sz∈pre++H j++(post++[Cv fb 28 fc,Cv (fb+1) 28 Z4])++[a]++zz;rcases Ah.1 ab with hm|hm<;>simp[hm]
  have hS:=CP.AO1 (k:=width) hP (by rw[qP];exact gL);have hZ:∀(i:Nat) (a:DD) (tail:List DD),P.Z i a++tail=T1 (pre++H i++post) fb (fb+1) fc Z4 a tail:=λi a tail=>by rw[qP];simp[CP.Z,T1,AR]
  have PS:P.l.length=count:=by rw[qP];exact hc
  have Pp:outL P.JE P.l P.l.length=outL JE l count:=by rw[qP,<-hc]
  have M6:Cu P.r.h P.l.length=nb:=by rw[qP];exact hf.bn.symm
  have aR:P.X=X:=by rw[qP]
  have av:∀z,P.Ze z->∃i a,z=P.Z i a/\aj X x ⟨k,hh,first,nb,count,0,b,g⟩ l a:=λz hz=>by rw[qP]at hz⊢;exact hz
  have y9:P.vF.toArray=#[.func (.func 48) #[AI x] #[],.func (.func fH) #[] I]:=by rw[qP];rfl
  have al:P.Z 0 (P.rd 0)=pre++H 0++(post++[Cv fb 28 fc,Cv (fb+1) 28 Z4])++[E0 X.p x ⟨k,hh,first,nb,count,0,b,g⟩ X.sz l]:=by rw[qP];rfl
  rw[y9,Pp,M6,PS,aR]at hS;refine⟨λw=>Wd X (P.Z 0 (P.rd 0)) m w,
   λF M cs w=>Gh F M width (Cw X.sz width) (outL JE l count) X.sz/\∃i a,aj X x ⟨k,hh,first,nb,count,0,b,g⟩ l a/\Wd X (T1 (pre++H i++post) fb (fb+1) fc cs a [De F M width (Cw X.sz width) (outL JE l count) X.sz]) (m+M+nb) w,
   λer cs w=>(er=6/\¬X.cm\/er=5/\∀q,¬Rm X (pre++H 0++post) q (Cu (Cw X.sz width) count))/\∃i a,aj X x ⟨k,hh,first,nb,count,0,b,g⟩ l a/\Wd X (T1 (pre++H i++post) fb (fb+1) fc cs a []) (m+nb+count+2) w,
   by rw[al];exact JS,λw w' q hb=>q.below hb,λw q=>?_,λw rb q hr=>?_,?_,?_,?_,?_,?_,?_⟩
  ·have O:Wd X (T1 (pre++H 0++post) fb (fb+1) fc Z4 (P.rd 0) []) m w:=by rw[<-hZ,AY];exact q
   exact O.row AL1
  ·have bj:=hc;have Q:Row w rb 28 [first,nb,k,count]:=by rw[<-Pu];exact hr
   refine(qw (nr:=1) (rb:=rb) (cr:=1) hS (Ao _) rfl (Dx _) q qD (by rw[<-hc];exact hf.len) ?_ a5 ⟨a5,a5⟩ Q.lt (Q.cell 3) ?_).mono ?_
   ·rw[al,D9,Gu];show X.sz+(DF DD.gw (pre++H 0++post)+X.sz)<=X.rm;omega
   ·intro i hi;obtain rfl:i=0:=a5;refine⟨first,nb,k,count,⟨Q.cell 0,Q.cell 1,Q.cell 2,Q.cell 3⟩,by have:=hf.fst;omega,?_,.inr ?_⟩
    ·have h7:=hf.len;have h8:=Dl hh l.length;have h9:=hf.bn;omega
    ·have aE:De first nb k hh l X.sz∈P.Z 0 (P.rd 0):=by
      rw[al];rcases Ah.1 ab with hm|hm<;>simp[hm]
     obtain⟨j,hj⟩:=Ax.1 aE;exact⟨j,_,hj,rfl⟩
   ·rintro e w' (⟨F,M,z,he,J,-,O,q3,q4⟩|⟨er,z,he,q0,J,O,q3,q4⟩)
    ·obtain⟨i,a,rfl,U⟩:=av z q3;rw[hZ]at q4;exact .inl ⟨F,M,he,J,i,a,U,q4⟩
    ·obtain⟨i,a,rfl,U⟩:=av z q3;have q5:Wd X (T1 (pre++H i++post) fb (fb+1) fc Z4 a []) (m+nb+count+2) w':=by rw[<-hZ,AY];exact q4
     refine .inr ⟨er,he,q0,?_,i,a,U,q5⟩;rcases J with(J|J)|⟨J,q6⟩
     ·exact J.elim
     ·exact .inl J
     ·refine .inr ⟨J,λqq hq=>q6 qq ?_⟩;rw[al,<-AR,AR _ [Cv fb 28 fc,Cv (fb+1) 28 Z4]];exact VN hq λy hy=>by
       simp at hy;rcases hy with rfl|rfl|rfl<;>rfl
  ·rintro F M cs w x1 x2 x3 x4 an ⟨J,i,a,U,O⟩;exact⟨J,i,a,U,Ur an O x1 x2 x3 x4⟩
  ·rintro er cs w x1 x2 x3 x4 an ⟨J,i,a,U,O⟩;exact⟨J,i,a,U,Ur an O x1 x2 x3 x4⟩
  ·rintro F M cs w ⟨J,i,a,U,O⟩;exact O.row QZ
  ·rintro er cs w ⟨J,i,a,U,O⟩;exact O.row QZ
  ·rintro F M cs w u ⟨J,i,a,U,O⟩;refine(MD u O om U).mono ?_;rintro e u' w' ⟨k1,k2,j,k3⟩;rw[Us]at k3;exact⟨k1,k2,k3.row QZ,.inl ⟨F,M,i,rfl,J,cZ ⟨rfl,rfl⟩ k3⟩⟩
  ·rintro er cs w u gX ⟨J,i,a,U,O⟩;refine(MD u O om U).mono ?_;rintro e u' w' ⟨k1,k2,j,k3⟩;rw[Us]at k3;have k4:=cZ ⟨rfl,rfl⟩ k3;rw[AY]at k4;exact⟨k1,k2,k3.row QZ,.inr ⟨er,i,rfl,gX,J,k4⟩⟩
 have Lv:=AO I8;have aq:=AO Pu;generalize GP:OD X pre post H (outL JE l count) m nb count width=Dh at*
 generalize(outL JE l count).length=ol at*
 clear hH h hf ab hc qD gL ad hn Dg h1 DT h2 Gu I8 GP;subst LL;go_enter_defers func93,ntmps93
 go_upto_region 1 with(fail)
 rw[<-Lv.out];clear Lv;generalize hs0:W.heap.size=s0 at*
 have ao:=T7.out;rw[aq.out]at ao;obtain⟨a0,a1,a2,a3⟩:=ao.q4;have O8:=AO (Lx.out W2 (AS _ _));clear ao;go_wp2_with fail
 refine O8.out.mono ?_;rintro e w3 ⟨x,b,g,rfl,GU,US⟩;obtain⟨A,C,N,hA,aC,xK,aD,az,aw,aA,ax,aB,ay⟩:=Lj.out x b g w3 GU US;have HA:=AO hA;have dS:=AO aC;have jn:=AO xK;have bc:=AO aD;have a7:=AO az;have aS:=AO aw;have a9:=AO aA;have vJ:=AO ax;have bb:=AO aB;have a6:=AO ay;clear hA aC xK aD az aw aA ax aB ay GU US Lj Lx O8 T7 a0 a1 a2 a3;have yD:=AO (dS.out w3 _ HA.out ((AS w3 w3).alloc ar (AK #[.func (.func 48) #[AI x] #[],.func (.func fH) #[] I] 175)));have au:Row (w3.alloc (AK #[.func (.func 48) #[AI x] #[],.func (.func fH) #[] I] 175)) w3 175 [.func (.func 48) #[AI x] #[],.func (.func fH) #[] I]:=heap_alloc_new _ _;have ba:=AO au;clear au;go_upto_region 6 with(fail)
 generalize w3.alloc (AK #[.func (.func 48) #[AI x] #[],.func (.func fH) #[] I] 175)=w4 at*
 generalize w3.heap.size=cb at*
 have Jv:=jn.out _ yD.out;rw[aq.out]at Jv;obtain⟨a0,a1,a2,a3⟩:=Jv.q4;obtain⟨b0,b1⟩:=ba.out.q2;have jJ:=AO (dS.out w4 _ yD.out ((AS w4 w4).alloc ar (AK #[first,nb,k,count] 28)));have Ju:Row (w4.alloc (AK #[first,nb,k,count] 28)) w4 28 fc:=by rw[aq.out];exact heap_alloc_new _ _
 have HL:=AO (bc.out _ _ jJ.out Ju);clear Jv Ju;go_wp2_with fail
 refine HL.out.mono ?_;rintro e w6 (⟨F,M,rfl,hc⟩|⟨er,rfl,Di,hn⟩)
 ·have jD:=AO (a9.out _ _ _ _ hc);have H9:=AO (a7.out F M Z4 w6 F M width ol rfl hc);clear hc a0 a1 a2 a3 b0 b1 HL jJ;obtain⟨z0,z1,z2,z3⟩:=jD.out.q4;obtain⟨f0,f1,f2,f3⟩:=jD.out.r4;go_wp2
  refine A6 (f:=47) (args:=#[AI x]) a8 (by simp[go_sem]) ?_;refine(bb.out _ _ _ _ _ H9.out).mono ?_;rintro e u' Eo ⟨rfl,rfl,EG,EA⟩;have r0:=EG.cell 0;have r1:=EG.cell 1;have r2:=EG.cell 2;have r3:=EG.cell 3;simp only[AX,AV]at r0 r1 r2 r3;exact⟨AM #[AL #[F,M,width,ol],()],by simp[results,Tryz.results93,go_sem,r0,r1,r2,r3],EA⟩
 ·have T5:=AO Di;have jD:=AO (vJ.out _ _ _ hn);have H9:=AO (aS.out er Z4 w6 () () () () rfl hn);clear hn Di a0 a1 a2 a3 b0 b1 HL jJ;obtain⟨z0,z1,z2,z3⟩:=jD.out.q4;obtain⟨f0,f1,f2,f3⟩:=jD.out.r4;go_wp2
  refine A6 (f:=47) (args:=#[AI x]) a8 (by simp[go_sem]) ?_;refine(a6.out _ _ _ _ T5.out H9.out).mono ?_;rintro e u' Eo ⟨rfl,rfl,EG,EA⟩;have r0:=EG.cell 0;have r1:=EG.cell 1;have r2:=EG.cell 2;have r3:=EG.cell 3;simp only[AX,AV]at r0 r1 r2 r3;exact⟨AM #[AL #[(),(),(),()],er],by simp[results,Tryz.results93,go_sem,r0,r1,r2,r3],EA⟩
end
def DS(t:Cy)(i:Nat):Int:=t.EE.getD i 0
def Fe(k:Int):Nat:=k.natAbs-1
theorem sy{k}(h:0<k):((Fe k:Nat):Int)=k-1:=by unfold Fe;omega
theorem tC{k}(h:k<0):((Fe k:Nat):Int)=-k-1:=by unfold Fe;omega
def Fm(o:Cy):Prop:=∀i,i<5->(-5<=DS o i/\DS o i<=5)/\∀k,k<i->DS o i≠0->DS o k≠0/\Fe (DS o k)≠Fe (DS o i)
instance fmDec (o : Cy) : Decidable (Fm o) := by unfold Fm; exact inferInstance
def cmpL:List Int->Cy->Cy->Int
 |[],_,_=>0
 |k::ks,a,b=>if k=0 then 0 else if DS a (Fe k)=DS b (Fe k)then cmpL ks a b else if decide (DS a (Fe k)<DS b (Fe k))=decide (0<k)then -1 else 1
def DV(o a b:Cy):Int:=if Fm o then cmpL o.EE a b else 0
theorem Hz(e:List Int)(a b:Cy):cmpL (0::e) a b=0:=by unfold cmpL;rw[if_pos rfl]
theorem KI{k}(J:k≠0)(e:List Int){a b}(I:DS a (Fe k)=DS b (Fe k)):cmpL (k::e) a b=cmpL e a b:=by rw[cmpL,if_neg J,if_pos I]
theorem IU{k}(J:k≠0)(e:List Int){a b}(I:DS a (Fe k)<DS b (Fe k)):cmpL (k::e) a b=if 0<k then -1 else 1:=by
 rw[cmpL,if_neg J,if_neg a5];by_cases h4:0<k<;>simp[I,h4]
theorem IV{k}(J:k≠0)(e:List Int){a b}(O:DS b (Fe k)<DS a (Fe k)):cmpL (k::e) a b=if 0<k then 1 else -1:=by
 rw[cmpL,if_neg J,if_neg a5];have I:¬DS a (Fe k)<DS b (Fe k):=a5;by_cases h4:0<k<;>simp[I,h4]
theorem Up:∀(e:List Int) (a b:Cy),cmpL e a b=-cmpL e b a
 |[],_,_=>rfl
 |k::e,a,b=>by
  by_cases I:k=0
  ·rw[I,Hz,Hz];rfl
  ·rcases Co (DS a (Fe k)) (DS b (Fe k))with h|h|h
   ·rw[IU I e h,IV I e h];split<;>rfl
   ·rw[KI I e h,KI I e h.symm];exact Up e a b
   ·rw[IV I e h,IU I e h];split<;>rfl
theorem TH:∀(e:List Int) (a b c:Cy),cmpL e a b<=0->cmpL e b c<=0->cmpL e a c<=0
 |[],_,_,_=>λ_ _=>Int.le_refl _
 |k::e,a,b,c=>by
  by_cases I:k=0
  ·rw[I,Hz,Hz,Hz];omega
  ·rcases Co (DS a (Fe k)) (DS b (Fe k))with h|h|h
   ·rw[IU I e h];intro O;have J:0<k:=by
     by_cases J:0<k
     ·exact J
     ·rw[if_neg J]at O;omega
    rcases Co (DS b (Fe k)) (DS c (Fe k))with g|g|g
    ·rw[IU I e (a:=a) (b:=c) a5,if_pos J];omega
    ·rw[IU I e (a:=a) (b:=c) a5,if_pos J];omega
    ·rw[IV I e g,if_pos J];omega
   ·rcases Co (DS b (Fe k)) (DS c (Fe k))with g|g|g
    ·rw[IU I e g,IU I e (a:=a) (b:=c) a5];exact λ_ h=>h
    ·rw[KI I e h,KI I e g,KI I e (h.trans g)];exact TH e a b c
    ·rw[IV I e g,IV I e (a:=a) (b:=c) a5];exact λ_ h=>h
   ·rw[IV I e h];intro O;have J:¬0<k:=by
     intro J;rw[if_pos J]at O;omega
    rcases Co (DS b (Fe k)) (DS c (Fe k))with g|g|g
    ·rw[IU I e g,if_neg J];omega
    ·rw[IV I e (a:=a) (b:=c) a5,if_neg J];omega
    ·rw[IV I e (a:=a) (b:=c) a5,if_neg J];omega
theorem Dy(o a b:Cy):DV o a b=-DV o b a:=by
 unfold DV;split
 ·exact Up _ _ _
 ·rfl
theorem FU{o a b c}(I:DV o a b<=0)(e:DV o b c<=0):DV o a c<=0:=by
 unfold DV at*
 by_cases h:Fm o
 ·rw[if_pos h]at*;exact TH _ _ _ _ I e
 ·rw[if_neg h]at*;exact Int.le_refl _
theorem QA(o a:Cy):DV o a a=0:=by have:=Dy o a a;omega
def T0(ks:List Int)(t:Cy):List Int:=(ks.takeWhile λk=>k≠0).map λk=>DS t (Fe k)
def Tq(l:List Int):Cy:=⟨l.getD 0 0,l.getD 1 0,l.getD 2 0,l.getD 3 0,l.getD 4 0⟩
def FM(o t:Cy):Cy:=if Fm o then Tq (T0 o.EE t)else Cz
theorem YD(e:List Int)(t:Cy):(T0 e t).length=(e.takeWhile λk=>k≠0).length:=by unfold T0;rw[Ai]
def Srt(o:Cy)(l:List Cy):Prop:=∀i,i+1<l.length->DV o (l.getD i Cz) (l.getD (i+1) Cz)<=0
section
variable{X:Cx}
theorem bX{os H tail R M cs w}(h:Wd X (os++H++[Cv R 28 cs]++tail) M w):Row w R 28 cs:=h.row (i:=(os++H).length) a8
theorem UM{os H tail R M cs w}(J:cs.length=4)(h:Wd X (os++H++[Cv R 28 cs]++tail) M w)(x1 x2 x3 x4:Value):Wd X (os++H++[Cv R 28 [x1,x2,x3,x4]]++tail) M ((((w.setCell R x1).setCell (R,1) x2).setCell (R,2) x3).setCell (R,3) x4):=by
 have I:∀cs,(os++H++[Cv R 28 cs]++tail)[(os++H).length]?=AE (Cv R 28 cs):=λcs=>by simp
 have e:∀cs JU,(os++H++[Cv R 28 cs]++tail).set (os++H).length (Cv R 28 JU)=os++H++[Cv R 28 JU]++tail:=λcs JU=>by
  rw[AR _ [Cv R 28 cs],Ap _ _ ar,As,AR _ [Cv R 28 JU]];rfl
 have Q:=h.store (I _) a6 0 x1;rw[e]at Q;have O:=Q.store (I _) a6 1 x2;rw[e]at O;have h3:=O.store (I _) a6 2 x3;rw[e]at h3;have h4:=h3.store (I _) a6 3 x4;rw[e]at h4
 match cs,J with
 |[c1,c2,c3,c4],_=>exact h4
theorem bY{os H tail R M cs w}(I:Dr H)(h:Wd X (os++H++[Cv R 28 cs]++tail) M w):Wd X (os++tail) M w:=by
 have J:Wd X (os++(H++[Cv R 28 cs])++tail) M w:=by simpa [AR]using h
 refine Wd.GB _ (λq e=>?_) J;rcases Ah.1 e with e|e
 ·exact I q e
 ·simp at e;subst e;exact⟨rfl,rfl⟩
end
theorem lt5{k}(h:k<5):k=0\/k=1\/k=2\/k=3\/k=4:=a5
theorem rM(t:Cy){k}(e:k<5):(DH t)[k]?=AE (AA AB (DS t k)):=by
 rcases lt5 e with rfl|rfl|rfl|rfl|rfl<;>rfl
section
variable{X:Cx}{m:Nat}{W:World}
theorem Zn(Y zz:List DD)(n:Nat)(h:Y.length=n):n+zz.length=(Y++zz).length:=by subst h;simp
theorem yz{Y zz}{c d:DD}{n}(h:Y.length=n):(Y++(zz++[c,d]))[n+zz.length]?=AE c:=by
 rw[Zn Y zz n h,<-AR];simp
theorem mO{Y zz}{c d:DD}{n}(h:Y.length=n):(Y++(zz++[c,d]))[n+zz.length+1]?=AE d:=by
 rw[Zn Y zz n h,<-AR,AW a5,show (Y++zz).length+1-(Y++zz).length=1 by omega];rfl
theorem tH{Y zz}{c d x:DD}{n}(h:Y.length=n):(Y++(zz++[c,d])).set (n+zz.length+1) x=Y++(zz++[c,x]):=by
 rw[Zn Y zz n h,<-AR,Ap _ _ a5,show (Y++zz).length+1-(Y++zz).length=1 by omega,AR];rfl
def O5(X:Cx)(os:List DD)(Out:List Cy)(m nb bd k:Nat)(e:Ending)(w':World):Prop:=
 (∃F N:Nat,e=AH (AM #[AL #[F,N,k,Out.length],()])/\Gh F N k (Cw X.sz k) Out X.sz/\Wd X (os++[De F N k (Cw X.sz k) Out X.sz]) (m+N+nb) w')\/
 (∃er:Nat,e=AH (AM #[AL #[(),(),(),()],er])/\0<er/\(er=6/\¬X.cm\/er=5/\∀q,¬Rm X os q (Cu (Cw X.sz k) bd))/\Wd X os (m+nb+bd+2) w')
theorem fQ{os H R nb bd k Out e w'}(Q:∀i,Dr (H i))(h:OD X os [Cv R 28 Z4] H Out m nb bd k e w'):
  ∃C:List Value->World->Prop,∃F N K L er:Nat,e=AH (AM #[AL #[F,N,K,L],er])/\C Z4 w'/\(∀cs w,C cs w->Row w R 28 cs)/\
   (∀cs w x1 x2 x3 x4,cs.length=4->C cs w->C [x1,x2,x3,x4] ((((w.setCell R x1).setCell (R,1) x2).setCell (R,2) x3).setCell (R,3) x4))/\
   (∀cs w,C cs w->O5 X os Out m nb bd k (AH (AM #[AL #[F,N,K,L],er])) w):=by
 rcases h with⟨F,N,i,he,NI,hw⟩|⟨er,i,he,Di,IB,hw⟩
 ·refine⟨λcs w=>Wd X (os++H i++[Cv R 28 cs]++[De F N k (Cw X.sz k) Out X.sz]) (m+N+nb) w,F,N,k,Out.length,0,he,hw,λcs w q=>bX q,λcs w x1 x2 x3 x4 I q=>UM I q x1 x2 x3 x4,λcs w q=>.inl ⟨F,N,rfl,NI,bY (Q i) q⟩⟩
 ·refine⟨λcs w=>Wd X (os++H i++[Cv R 28 cs]++[]) (m+nb+bd+2) w,0,0,0,0,er,he,by show Wd X (os++H i++[Cv R 28 Z4]++[]) (m+nb+bd+2) w';rw[AY];exact hw,λcs w q=>bX q,λcs w x1 x2 x3 x4 I q=>UM I q x1 x2 x3 x4,λcs w q=>.inr ⟨er,rfl,Di,?_,by have O:=bY (Q i) q;rwa [AY]at O⟩⟩;refine IB.imp_right λ⟨U,O⟩=>⟨U,λz hz=>O z ?_⟩;rw[AR];refine VN hz λa J=>?_;rcases Ah.1 J with J|J
  ·exact(Q 0 a J).2
  ·simp at J;subst J;rfl
end
def clm(k:Int):Int:=if k<0 then -k-1 else k-1
theorem Vy{k}(h:k≠0):clm k=((Fe k:Nat):Int):=by
 unfold clm
 split
 ·rw[tC a5]
 ·rw[sy a5]
theorem Zl{k}(e:k≠0)(h:-5<=k/\k<=5):Fe k<5:=by unfold Fe;omega
def Q5(t:Cy):List Value:=[t.a,t.b,t.c,t.d,t.e]
theorem O3{W g T t}(h:Row W g T (Q5 t)){i}(hi:i<5):W.cell? (g,i)=AE (AA AB (DS t i)):=by
 rw[h.cell i]
 match i,hi with
 |0,_=>rfl
 |1,_=>rfl
 |2,_=>rfl
 |3,_=>rfl
 |4,_=>rfl
theorem FO{B a w}(h:Below B a w)(q:Nat):Below B a (w.drewN q):=⟨h.os,h.tape,h.output,h.size,h.block⟩
def bG(o:Cy)(i:Nat):Prop:=(-5<=DS o i/\DS o i<=5)/\∀k,k<i->DS o i≠0->DS o k≠0/\Fe (DS o k)≠Fe (DS o i)
theorem uV{o i}(hi:i<5):o.EE.drop i=DS o i::o.EE.drop (i+1):=by
 match i,hi with
 |0,_=>rfl
 |1,_=>rfl
 |2,_=>rfl
 |3,_=>rfl
 |4,_=>rfl
theorem oP(o:Cy):o.EE.drop 5=[]:=rfl
theorem Vx(k:Int)(I:-5<=k/\k<=5)(w:World):Calls AP 112 #[k] w λe w'=>e=AH (AA AB (clm k))/\w'=w:=by
 by_cases h:k<0
 ·have g:decide (k<0)=true:=by simpa using h
  have e:clm k=-k-1:=by unfold clm;rw[if_pos h]
  rw[e];go_enter func112,ntmps112
  go_wp2
  go_ret
  exact⟨rfl,rfl⟩
 ·have g:decide (k<0)=false:=by simpa using h
  have e:clm k=k-1:=by unfold clm;rw[if_neg h]
  rw[e];go_enter func112,ntmps112
  go_wp2
  go_ret
  exact⟨rfl,rfl⟩
def TI(x y:Int):Int:=if x<y then -1 else if x=y then 0 else 1
theorem bg(k:Int)(w:World):Calls AP 188 #[k] w λe w'=>e=AH false/\w'=w:=by
 have g:(k !=k)=false:=a8;go_enter func188,ntmps188
 go_wp2
 go_ret
 exact⟨rfl,rfl⟩
theorem mV(x y:Int)(w:World):Calls AP 187 #[x,y] w λe w'=>e=AH (AA AB (TI x y))/\w'=w:=by
 have J:=AO (bg x);have I:=AO (bg y);rcases Co x y with h|h|h
 ·have e:TI x y=-1:=by unfold TI;rw[if_pos h]
  have g:decide (x<y)=true:=by simpa using h
  rw[e];clear h e;go_enter func187,ntmps187
  go_wp2_with fail
  refine(J.out _).mono ?_;rintro e w2 ⟨rfl,rfl⟩;go_wp2_with fail
  refine(I.out _).mono ?_;rintro e w3 ⟨rfl,rfl⟩;go_wp2
  go_ret
  exact⟨rfl,rfl⟩
 ·have e:TI x y=0:=by unfold TI;rw[if_neg a5,if_pos h]
  have g:decide (x<y)=false:=by simp;omega
  have O:decide (x>y)=false:=by simp;omega
  rw[e];clear h e;go_enter func187,ntmps187
  go_wp2_with fail
  refine(J.out _).mono ?_;rintro e w2 ⟨rfl,rfl⟩;go_wp2_with fail
  refine(I.out _).mono ?_;rintro e w3 ⟨rfl,rfl⟩;go_wp2
  go_ret
  exact⟨rfl,rfl⟩
 ·have e:TI x y=1:=by unfold TI;rw[if_neg a5,if_neg a5]
  have g:decide (x<y)=false:=by simp;omega
  have O:decide (x>y)=true:=by simp;omega
  rw[e];clear h e;go_enter func187,ntmps187
  go_wp2_with fail
  refine(J.out _).mono ?_;rintro e w2 ⟨rfl,rfl⟩;go_wp2_with fail
  refine(I.out _).mono ?_;rintro e w3 ⟨rfl,rfl⟩;go_wp2
  go_ret
  exact⟨rfl,rfl⟩
theorem TM(w:World)(a b:List Value)(A B:TypeId):∃W1,W1=(w.alloc (.cells a.toArray A)).alloc (.cells b.toArray B)/\Below w.heap.size w W1/\W1.heap.size=w.heap.size+2/\Row W1 w.heap.size A a/\Row W1 (w.heap.size+1) B b:=by
 have b1:Below w w (w.alloc (.cells a.toArray A)):=(AS _ _).alloc ar _;have I:Row (w.alloc (.cells a.toArray A)) w A a:=heap_alloc_new _ _;have e:(w.alloc (.cells a.toArray A)).heap.size=w+1:=a8;refine⟨_,rfl,b1.alloc a5 _,a8,I.alloc _,?_⟩;rw[<-e];exact heap_alloc_new _ _
theorem V3(w:World)(a b c:List Value)(A B C:TypeId):∃W1,W1=((w.alloc (.cells a.toArray A)).alloc (.cells b.toArray B)).alloc (.cells c.toArray C)/\Below w.heap.size w W1/\W1.heap.size=w.heap.size+3/\Row W1 w.heap.size A a/\Row W1 (w.heap.size+1) B b/\Row W1 (w.heap.size+2) C c:=by
 obtain⟨W,e,b1,I,O,J⟩:=TM w a b A B;refine⟨_,rfl,?_⟩;rw[<-e];refine⟨b1.alloc a5 _,by simp[I],O.alloc _,J.alloc _,?_⟩;rw[<-I];exact heap_alloc_new _ _
theorem AA8(w:World)(a b c d:List Value)(A B C D:TypeId):∃W1,W1=(((w.alloc (.cells a.toArray A)).alloc (.cells b.toArray B)).alloc (.cells c.toArray C)).alloc (.cells d.toArray D)/\Below w.heap.size w W1/\W1.heap.size=w.heap.size+4/\Row W1 w.heap.size A a/\Row W1 (w.heap.size+1) B b/\Row W1 (w.heap.size+2) C c/\Row W1 (w.heap.size+3) D d:=by
 obtain⟨W,e,b1,I,Q,O,J⟩:=V3 w a b c A B C;refine⟨_,rfl,?_⟩;rw[<-e];refine⟨b1.alloc a5 _,by simp[I],Q.alloc _,O.alloc _,J.alloc _,?_⟩;rw[<-I];exact heap_alloc_new _ _
theorem Mz(T:TypeId)(hT:T=132)(o:Cy){i:Nat}(hi:i<5)(w:World):(CX T (AL #[o.a,o.b,o.c,o.d,o.e]) i).run AP w=.ok (AA AB (DS o i)) w:=by
 subst hT
 match i,hi with
 |0,_=>exact(by kernel_rfl:(CX 132 (AL #[o.a,o.b,o.c,o.d,o.e]) ()).run AP w=.ok o.a w)
 |1,_=>exact(by kernel_rfl:(CX 132 (AL #[o.a,o.b,o.c,o.d,o.e]) (AA AB 1)).run AP w=.ok o.b w)
 |2,_=>exact(by kernel_rfl:(CX 132 (AL #[o.a,o.b,o.c,o.d,o.e]) (AA AB 2)).run AP w=.ok o.c w)
 |3,_=>exact(by kernel_rfl:(CX 132 (AL #[o.a,o.b,o.c,o.d,o.e]) (AA AB 3)).run AP w=.ok o.d w)
 |4,_=>exact(by kernel_rfl:(CX 132 (AL #[o.a,o.b,o.c,o.d,o.e]) (AA AB 4)).run AP w=.ok o.e w)
def Qb(s:List Bool):List Value:=s.map Value.bool
theorem ot{s c}(h:c<s.length):(Qb s)[c]?=AE (.bool (s.getD c false)):=by
 unfold Qb;rw[Bk,AU h,AT,AU h];rfl
theorem iY(s:List Bool)(c:Nat)(b:Bool):(Qb s).set c b=Qb (s.set c b):=by
 unfold Qb;rw[List.map_set]
theorem LV(o:Cy)(w:World):Calls AP 91 #[AL #[o.a,o.b,o.c,o.d,o.e]] w λe w'=>e=AH (.bool (decide (Fm o)))/\Below w w w':=by
 obtain⟨W1,EJ,b1,s1,r1,r2⟩:=TM w [o.a,o.b,o.c,o.d,o.e] [false,false,false,false,false] 132 172;have FQ:=AO EJ;have HB:=AO b1;have O7:=AO s1;have O8:Hid (Row W1 (w+1) 172 (Qb [false,false,false,false,false])):=r2;obtain⟨d0,d1,d2,d3,d4⟩:=r1.q5;have Ly:Hid (∀i,i<5->¬bG o i->decide (Fm o)=false):=λi hi h=>decide_eq_false λhf=>h (hf i hi);have pF:Hid ((∀i,i<5->bG o i)->decide (Fm o)=true):=λh=>decide_eq_true h;have aq:Hid (∀i:Nat,i<5->∀W:World,(CX 132 (AL #[o.a,o.b,o.c,o.d,o.e]) i).run AP W=.ok (AA AB (DS o i)) W):=λi hi W=>Mz _ rfl o hi W;generalize decide (Fm o)=res at*
 clear r1 r2 b1 s1 EJ;go_enter func91,ntmps91
 go_upto_region 2 with(fail)
 rw[<-FQ.out];clear FQ;go_wp2_with fail
 go_loopw [4,8] (λev iv wr=>∃(i:Nat) (e:Bool) (s:List Bool),i<=5/\iv=AA AB (i:Int)/\ev=.bool e/\Hid (Below w.heap.size w wr)/\Hid (w.heap.size+2<=wr.heap.size)/\Hid (Row wr (w.heap.size+1) 172 (Qb s))/\Hid (s.length=5)/\Hid (∀j,j<i->bG o j)/\Hid (e=true↔∃j,j<i/\DS o j=0)/\Hid (∀c,c<5->(s.getD c false=true↔∃j,j<i/\DS o j≠0/\Fe (DS o j)=c))) (λ_ iv _=>5-(BF iv).toNat)
 case atStart=>
  refine⟨0,false,[false,false,false,false,false],a5,rfl,rfl,HB.out,Nat.le_of_eq O7.out.symm,O8.out,rfl,λj O=>by omega,⟨λh=>(by cases h),λ⟨j,O,_⟩=>a5⟩,λc hc=>⟨λh=>?_,λ⟨j,O,_⟩=>a5⟩⟩
  match c,hc with
  |0,_=>cases h
  |1,_=>cases h
  |2,_=>cases h
  |3,_=>cases h
  |4,_=>cases h
 case round=>
  obtain⟨i,e,s,hi,rfl,rfl,HW,HZ,HR,ad,HF,HE,HS⟩:=hrel;clear HB O7 O8;by_cases U:i<5
  ·have g1:decide ((i:Int)<5)=true:=by simp;omega
   have i0:(0:Int)<=(i:Int):=a5;have i1:(i:Int)<5:=a5;obtain⟨x,hx⟩:=ae (DS o i);have Q:=AO hx;have ar:∀W:World,(CX 132 (AL #[o.a,o.b,o.c,o.d,o.e]) i).run AP W=.ok x W:=λW=>by rw[hx];exact aq.out i U W
   clear hx;by_cases J:x=0
   ·have gx:(x==0)=true:=by simpa using J
    have an:decide (x=0)=true:=by simpa using J
    have T7:Hid (∀j,j<i+1->bG o j):=λj O=>by
     by_cases e:j=i
     ·rw[e];unfold bG;rw[<-Q.out,J];exact⟨a5,λk _ h=>absurd rfl h⟩
     ·exact HF.out j a5
    have O9:Hid (true=true↔∃j,j<i+1/\DS o j=0):=⟨λ_=>⟨i,a5,by rw[<-Q.out,J]⟩,λ_=>rfl⟩;have Lw:Hid (∀c,c<5->(s.getD c false=true↔∃j,j<i+1/\DS o j≠0/\Fe (DS o j)=c)):=λc hc=>by
     rw[HS.out c hc];refine⟨λ⟨j,O,h⟩=>⟨j,a5,h⟩,λ⟨j,O,h⟩=>⟨j,?_,h⟩⟩;by_cases e:j=i
     ·rw[e,<-Q.out]at h;exact absurd J h.1
     ·omega
    clear J HF HE HS;go_wp2
    go_roundw
    case rel=>exact⟨i+1,true,s,a5,by go_num,rfl,HW.out,HZ.out,HR.out,ad.out,T7.out,O9.out,Lw.out⟩
    case measure=>simp[BF];omega
   ·have gx:(x==0)=false:=by simpa using J
    have an:decide (x=0)=false:=by simpa using J
    cases e with
    |true=>
     have I:res=false:=Ly.out i U λh=>by
      obtain⟨j,O,h0⟩:=HE.out.1 rfl;exact(h.2 j O (by rw[<-Q.out];exact J)).1 h0
     subst I;clear J;go_wp2
     go_ret
     exact⟨rfl,HW.out⟩
    |false=>
     by_cases h1:x< -5
     ·have I:res=false:=Ly.out i U λh=>by have:=h.1;rw[<-Q.out]at this;omega
      have g2:decide (x< -5)=true:=by simpa using h1
      subst I;clear J;go_wp2
      go_ret
      exact⟨rfl,HW.out⟩
     ·have g2:decide (x< -5)=false:=by simpa using h1
      by_cases h2:x>5
      ·have I:res=false:=Ly.out i U λh=>by have:=h.1;rw[<-Q.out]at this;omega
       have g3:decide (x>5)=true:=by simpa using h2
       subst I;clear J;go_wp2
       go_ret
       exact⟨rfl,HW.out⟩
      ·have g3:decide (x>5)=false:=by simpa using h2
       have Lm:-5<=x/\x<=5:=⟨a5,a5⟩;have au:=AO Lm;have jW:=Zl J Lm;have HQ:=AO (Vx x Lm);rw[Vy J]at HQ;obtain⟨b,hb⟩:=ae (s.getD (Fe x) false);have cb:wr.cell? ⟨w+1,Fe x,AD⟩=AE (.bool b):=by rw[HR.out.cell,ot (by rw[ad.out];exact jW),hb]
       have fz:=HR.out.free (Fe x);have ab:=HS.out (Fe x) jW;rw[<-hb]at ab;have k0:(0:Int)<=((Fe x:Nat):Int):=a5;have k1:((Fe x:Nat):Int)<5:=a5
       cases b with
       |true=>
        have I:res=false:=Ly.out i U λh=>by
         obtain⟨j,O,h0,hk⟩:=ab.1 rfl;exact(h.2 j O (by rw[<-Q.out];exact J)).2 (by rw[hk,<-Q.out])
        subst I;clear J h1 h2 ab Lm hb;generalize Fe x=c at*
        go_wp2_with fail
        refine(HQ.out _).mono ?_;rintro e w2 ⟨rfl,rfl⟩;go_wp2
        go_ret
        exact⟨rfl,HW.out⟩
       |false=>
        have al:∀j,j<i->DS o j≠0:=λj O h=>by have:=HE.out.2 ⟨j,O,h⟩;cases this
        have T7:Hid (∀j,j<i+1->bG o j):=λj O=>by
         by_cases e:j=i
         ·rw[e];unfold bG;rw[<-Q.out];exact⟨Lm,λk hk _=>⟨al k hk,λh=>by have:=ab.2 ⟨k,hk,al k hk,h⟩;cases this⟩⟩
         ·exact HF.out j a5
        have O9:Hid (false=true↔∃j,j<i+1/\DS o j=0):=⟨λh=>(by cases h),λ⟨j,O,h⟩=>by
         by_cases e:j=i
         ·rw[e,<-Q.out]at h;exact absurd h J
         ·exact absurd h (al j a5)⟩
        have Lw:Hid (∀c,c<5->((s.set (Fe x) true).getD c false=true↔∃j,j<i+1/\DS o j≠0/\Fe (DS o j)=c)):=λc hc=>by
         rw[AT,Aw];by_cases ec:Fe x=c
         ·rw[if_pos ec,if_pos (by have:=ad.out;omega)];exact⟨λ_=>⟨i,a5,by rw[<-Q.out];exact J,by rw[<-Q.out];exact ec⟩,λ_=>rfl⟩
         ·rw[if_neg ec,<-AT,HS.out c hc];refine⟨λ⟨j,O,h⟩=>⟨j,a5,h⟩,λ⟨j,O,h⟩=>⟨j,?_,h⟩⟩;by_cases e:j=i
          ·rw[e,<-Q.out]at h;exact absurd h.2 ec
          ·omega
        have vM:Hid ((s.set (Fe x) true).length=5):=by unfold Hid;rw[Bg];exact ad.out
        have IG:Hid (Row (wr.setCell ⟨w+1,Fe x,AD⟩ true) (w+1) 172 (Qb (s.set (Fe x) true))):=by
         have:=HR.out.set (Fe x) true;rw[iY]at this;exact this
        have Jz:Hid (Below w w (wr.setCell ⟨w+1,Fe x,AD⟩ true)):=HW.out.setCell (p:=⟨w+1,Fe x,AD⟩) a8 _;have ao:Hid (w+2<=(wr.setCell ⟨w+1,Fe x,AD⟩ true).heap.size):=by unfold Hid;simp;exact HZ.out
        clear J h1 h2 ab Lm hb al HF HE HS ad HR HW HZ;generalize s.set (Fe x) true=s2 at*
        generalize Fe x=c at*
        go_wp2_with fail
        refine(HQ.out _).mono ?_;rintro e w2 ⟨rfl,rfl⟩;go_wp2_with fail
        refine(HQ.out _).mono ?_;rintro e w2 ⟨rfl,rfl⟩;go_wp2
        go_roundw
        case rel=>exact⟨i+1,false,s2,a5,by go_num,rfl,Jz.out,ao.out,IG.out,vM.out,T7.out,O9.out,Lw.out⟩
        case measure=>simp[BF];omega
  ·have g1:decide ((i:Int)<5)=false:=by simp;omega
   have I:res=true:=pF.out λj O=>HF.out j a5;subst I;go_wp2
   go_ret
   exact⟨rfl,HW.out⟩
theorem YB(o t:Cy):∀i,i<=5->(∀j,j<i->DS o j≠0)->(i=5\/DS o i=0)->T0 o.EE t=(o.EE.take i).map λk=>DS t (Fe k):=by
  obtain⟨a,b,c,d,e⟩:=o;intro i hi I Q;have O:DS ⟨a,b,c,d,e⟩ 0=a:=rfl;have e1:DS ⟨a,b,c,d,e⟩ 1=b:=rfl;have e2:DS ⟨a,b,c,d,e⟩ 2=c:=rfl;have e3:DS ⟨a,b,c,d,e⟩ 3=d:=rfl;have e4:DS ⟨a,b,c,d,e⟩ 4=e:=rfl;unfold T0 Cy.EE
  match i,hi with
  | 0,_=>
    have:a=0:=by
     rcases Q with h|h
     · omega
     · rw[O]at h;exact h
    simp[this]
  | 1,_=>
    have J:a≠0:=by have:=I 0 a5;rwa [O]at this
    have:b=0:=by
     rcases Q with h|h
     · omega
     · rw[e1]at h;exact h
    simp[J,this]
  | 2,_=>
    have J:a≠0:=by have:=I 0 a5;rwa [O]at this
    have f1:b≠0:=by have:=I 1 a5;rwa [e1]at this
    have:c=0:=by
     rcases Q with h|h
     · omega
     · rw[e2]at h;exact h
    simp[J,f1,this]
  | 3,_=>
    have J:a≠0:=by have:=I 0 a5;rwa [O]at this
    have f1:b≠0:=by have:=I 1 a5;rwa [e1]at this
    have U:c≠0:=by have:=I 2 a5;rwa [e2]at this
    have:d=0:=by
     rcases Q with h|h
     · omega
     · rw[e3]at h;exact h
    simp[J,f1,U,this]
  | 4,_=>
    have J:a≠0:=by have:=I 0 a5;rwa [O]at this
    have f1:b≠0:=by have:=I 1 a5;rwa [e1]at this
    have U:c≠0:=by have:=I 2 a5;rwa [e2]at this
    have f3:d≠0:=by have:=I 3 a5;rwa [e3]at this
    have:e=0:=by
     rcases Q with h|h
     · omega
     · rw[e4]at h;exact h
    simp[J,f1,U,f3,this]
  | 5,_=>
    have J:a≠0:=by have:=I 0 a5;rwa [O]at this
    have f1:b≠0:=by have:=I 1 a5;rwa [e1]at this
    have U:c≠0:=by have:=I 2 a5;rwa [e2]at this
    have f3:d≠0:=by have:=I 3 a5;rwa [e3]at this
    have f4:e≠0:=by have:=I 4 a5;rwa [e4]at this
    simp[J,f1,U,f3,f4]
theorem eA{o i}(hi:i<5):o.EE.take (i+1)=o.EE.take i++[DS o i]:=by
 match i,hi with
 |0,_=>rfl
 |1,_=>rfl
 |2,_=>rfl
 |3,_=>rfl
 |4,_=>rfl
theorem ur{l i}(e:l.length=i)(hi:i<5)(x:Int):(Q5 (Tq l)).set i x=Q5 (Tq (l++[x])):=by
 subst e
 match l,hi with
 |[],_=>rfl
 |[_],_=>rfl
 |[_,_],_=>rfl
 |[_,_,_],_=>rfl
 |[_,_,_,_],_=>rfl
theorem AE7{w g T a b c d e}(h:Row w g T [a,b,c,d,e])(U Q O J I:Value):Row (((((w.setCell g U).setCell (g,1) Q).setCell (g,2) O).setCell (g,3) J).setCell (g,4) I) g T [U,Q,O,J,I]:=
 ((((h.set 0 U).set 1 Q).set 2 O).set 3 J).set 4 I
theorem kK(o t:Cy)(w:World):Calls AP 95 #[AL #[t.a,t.b,t.c,t.d,t.e],AL #[o.a,o.b,o.c,o.d,o.e]] w λe w'=>e=AH (AL #[AA AB (FM o t).a,AA AB (FM o t).b,AA AB (FM o t).c,AA AB (FM o t).d,AA AB (FM o t).e])/\Below w w w':=by
 obtain⟨W1,EJ,Dg,s1,r1,Q,r3,U⟩:=AA8 w [t.a,t.b,t.c,t.d,t.e] [o.a,o.b,o.c,o.d,o.e] [(),(),(),(),()] [(),(),(),(),()] 47 132 47 47;have FQ:=AO EJ;have O7:=AO s1;have IG:=AO r3;have NP:Hid (Row W1 (w+3) 47 (Q5 (Tq []))):=U;have KC:Hid (∀W,Below (w+3) W1 W->Below w w W/\∀i,i<5->W.cell? (w,i)=AE (AA AB (DS t i))):=λW hb=>
  ⟨Dg.trans (hb.mono a5),λi hi=>O3 (r1.below hb a5) hi⟩
 obtain⟨d0,d1,d2,d3,d4⟩:=Q.q5;have YQ:=AO Q;have qd:=AO (LV o);have ar:Hid (∀i:Nat,i<5->∀W:World,(CX 132 (AL #[o.a,o.b,o.c,o.d,o.e]) i).run AP W=.ok (AA AB (DS o i)) W):=λi hi W=>Mz _ rfl o hi W;have Du:Hid (∀(W:World) (u:Cy),Below (w.heap.size+3) W1 W->Row W (w.heap.size+2) 47 (Q5 Cz)->Row (((((W.setCell ⟨w.heap.size+2,0,AD⟩ (AA AB u.a)).setCell ⟨w.heap.size+2,1,AD⟩ (AA AB u.b)).setCell ⟨w.heap.size+2,2,AD⟩ (AA AB u.c)).setCell ⟨w.heap.size+2,3,AD⟩ (AA AB u.d)).setCell ⟨w.heap.size+2,4,AD⟩ (AA AB u.e)) (w.heap.size+2) 47 (Q5 u)/\Below w.heap.size w (((((W.setCell ⟨w.heap.size+2,0,AD⟩ (AA AB u.a)).setCell ⟨w.heap.size+2,1,AD⟩ (AA AB u.b)).setCell ⟨w.heap.size+2,2,AD⟩ (AA AB u.c)).setCell ⟨w.heap.size+2,3,AD⟩ (AA AB u.d)).setCell ⟨w.heap.size+2,4,AD⟩ (AA AB u.e))):=λW u hb hr=>by
  refine⟨AE7 hr (AA AB u.a) (AA AB u.b) (AA AB u.c) (AA AB u.d) (AA AB u.e),?_⟩;exact(((((KC.out _ hb).1.setCell (p:=⟨w.heap.size+2,0,AD⟩) a8 _).setCell (p:=⟨w.heap.size+2,1,AD⟩) a8 _).setCell (p:=⟨w.heap.size+2,2,AD⟩) a8 _).setCell (p:=⟨w.heap.size+2,3,AD⟩) a8 _).setCell (p:=⟨w.heap.size+2,4,AD⟩) a8 _
 by_cases hf:Fm o
 ·rw[decide_eq_true hf]at qd;have pL:Hid (∀i,i<5->-5<=DS o i/\DS o i<=5):=λi hi=>(hf i hi).1;have Qg:Hid (∀(i:Nat) (l:List Int),i<=5->l=(o.EE.take i).map (λk=>DS t (Fe k))->(∀j,j<i->DS o j≠0)->(i=5\/DS o i=0)->Tq l=FM o t):=λi l hi hl h1 h2=>by
   unfold FM;rw[if_pos hf,YB o t i hi h1 h2,hl]
  generalize FM o t=u at*
  clear hf r1 Q r3 U Dg s1 EJ;go_enter func95,ntmps95
  go_upto_region 2 with(fail)
  rw[<-FQ.out];clear FQ;go_wp2_with fail
  refine(qd.out _).mono ?_;rintro e w1 ⟨rfl,hb⟩;have Lv:Hid (Below (w+4) W1 w1):=hb.mono (Nat.le_of_eq O7.out.symm);have an:=YQ.out.below Lv.out a5;obtain⟨e0,e1,e2,e3,e4⟩:=an.q5;clear an hb d0 d1 d2 d3 d4 YQ qd;go_wp2_with fail
  go_loopw [13] (λiv wr=>∃(i:Nat) (l:List Int),i<=5/\iv=AA AB (i:Int)/\Hid (Below (w.heap.size+3) W1 wr)/\Hid (Row wr (w.heap.size+3) 47 (Q5 (Tq l)))/\Hid (l=(o.EE.take i).map λk=>DS t (Fe k))/\Hid (∀j,j<i->DS o j≠0)) (λiv _=>5-(BF iv).toNat)
  case atStart=>exact⟨0,[],a5,rfl,Lv.out.mono a5,NP.out.below Lv.out a5,rfl,λj hj=>by omega⟩
  case round=>
   obtain⟨i,l,hi,rfl,O,HR,HL,HN⟩:=hrel;clear NP Lv O7;by_cases ad:i<5
   ·have g1:decide ((i:Int)<5)=true:=by simp;omega
    have i0:(0:Int)<=(i:Int):=a5;have i1:(i:Int)<5:=a5;obtain⟨z,hz⟩:=ae (DS o i);have au:∀W:World,(CX 132 (AL #[o.a,o.b,o.c,o.d,o.e]) i).run AP W=.ok z W:=λW=>by rw[hz];exact ar.out i ad W
    by_cases Fa:z=0
    ·have gz:(z==0)=true:=by simpa using Fa
     have ao:decide (z=0)=true:=by simpa using Fa
     have Ym:Hid (Row wr (w+3) 47 (Q5 u)):=by
      have:=HR.out;rw[Qg.out i l hi HL.out HN.out (.inr (by rw[<-hz];exact Fa))]at this;exact this
     clear HR HL HN Qg pL hz Fa;have Lm:=Ym.out;have I:=IG.out.below O.out a5;obtain⟨q0,q1,q2,q3,q4⟩:=Lm.q5;obtain⟨p0,p1,p2,p3,p4⟩:=I.q5;obtain⟨z0,z1,z2,z3,z4⟩:=I.r5;have J:=AO (Du.out wr u O.out I);clear Lm I Ym O IG;go_wp2
     have r0:=J.out.1.cell 0;have r1:=J.out.1.cell 1;have Q:=J.out.1.cell 2;have r3:=J.out.1.cell 3;have U:=J.out.1.cell 4;simp only[Q5,AX,AV]at r0 r1 Q r3 U;exact BA (v:=AL #[u.a,u.b,u.c,u.d,u.e]) (by simp[results,Tryz.results95,go_sem,r0,r1,Q,r3,U]) rfl ⟨rfl,J.out.2⟩
    ·have gz:(z==0)=false:=by simpa using Fa
     have ao:decide (z=0)=false:=by simpa using Fa
     have al:-5<=z/\z<=5:=by rw[hz];exact pL.out i ad
     have jW:=Zl Fa al;have HQ:=AO (Vx z al wr);rw[Vy Fa]at HQ;obtain⟨x,hx⟩:=ae (DS t (Fe z));have yx:wr.cell? ⟨w,Fe z,AD⟩=AE (AA AB x):=by rw[hx];exact(KC.out _ O.out).2 _ jW
     have PS:l.length=i:=by rw[HL.out,Ai,AZ,Cy.TG];omega
     have vM:Hid (l++[x]=(o.EE.take (i+1)).map λk=>DS t (Fe k)):=by
      unfold Hid;rw[eA ad,Cn,<-HL.out,hx,hz];rfl
     have pT:Hid (∀j,j<i+1->DS o j≠0):=λj hj=>by
      by_cases e:j=i
      ·rw[e,<-hz];exact Fa
      ·exact HN.out j a5
     have az:Hid (Row (wr.setCell ⟨w.heap.size+3,i,AD⟩ (AA AB x)) (w.heap.size+3) 47 (Q5 (Tq (l++[x])))):=by
      have:=HR.out.set i x;rw[ur PS ad]at this;exact this
     have aq:Hid (Below (w.heap.size+3) W1 (wr.setCell ⟨w.heap.size+3,i,AD⟩ (AA AB x))):=O.out.setCell (p:=⟨w.heap.size+3,i,AD⟩) a8 _;have cs:∃v,wr.cell? ⟨w.heap.size+3,i,AD⟩=AE v:=⟨_,O3 HR.out ad⟩;obtain⟨v9,cs⟩:=cs;have fz:=HR.out.free i;have k0:(0:Int)<=((Fe z:Nat):Int):=a5;have k1:((Fe z:Nat):Int)<5:=a5;generalize Fe z=c at*
     clear hx hz Fa al PS HR O HL HN;go_wp2_with fail
     refine HQ.out.mono ?_;rintro e w3 ⟨rfl,rfl⟩;go_wp2
     go_roundw
     case rel=>exact⟨i+1,_,a5,by go_num,aq.out,az.out,vM.out,pT.out⟩
     case measure=>simp[BF];omega
   ·obtain rfl:i=5:=a5;have Ym:Hid (Row wr (w+3) 47 (Q5 u)):=by
     have:=HR.out;rw[Qg.out 5 l hi HL.out HN.out (.inl rfl)]at this;exact this
    clear HR HL HN Qg pL;have Lm:=Ym.out;have I:=IG.out.below O.out a5;obtain⟨q0,q1,q2,q3,q4⟩:=Lm.q5;obtain⟨p0,p1,p2,p3,p4⟩:=I.q5;obtain⟨z0,z1,z2,z3,z4⟩:=I.r5;have J:=AO (Du.out wr u O.out I);clear Lm I Ym O IG;go_wp2
    have r0:=J.out.1.cell 0;have r1:=J.out.1.cell 1;have Q:=J.out.1.cell 2;have r3:=J.out.1.cell 3;have U:=J.out.1.cell 4;simp only[Q5,AX,AV]at r0 r1 Q r3 U;exact BA (v:=AL #[u.a,u.b,u.c,u.d,u.e]) (by simp[results,Tryz.results95,go_sem,r0,r1,Q,r3,U]) rfl ⟨rfl,J.out.2⟩
 ·have ab:FM o t=Cz:=by unfold FM;rw[if_neg hf]
  rw[decide_eq_false hf]at qd;rw[ab];clear hf ab r1 Q r3 U Dg s1 EJ;go_enter func95,ntmps95
  go_upto_region 2 with(fail)
  rw[<-FQ.out];clear FQ;go_wp2_with fail
  refine(qd.out _).mono ?_;rintro e wr ⟨rfl,hb⟩;have O:Hid (Below (w+4) W1 wr):=hb.mono (Nat.le_of_eq O7.out.symm);have Lm:=NP.out.below O.out a5;have I:=IG.out.below O.out a5;have q0:wr.cell? ⟨w.heap.size+3,0,AD⟩=AE (AA AB 0):=Lm.cell 0;have q1:wr.cell? ⟨w.heap.size+3,1,AD⟩=AE (AA AB 0):=Lm.cell 1;have q2:wr.cell? ⟨w.heap.size+3,2,AD⟩=AE (AA AB 0):=Lm.cell 2;have q3:wr.cell? ⟨w.heap.size+3,3,AD⟩=AE (AA AB 0):=Lm.cell 3;have q4:wr.cell? ⟨w.heap.size+3,4,AD⟩=AE (AA AB 0):=Lm.cell 4;have p0:wr.cell? ⟨w.heap.size+2,0,AD⟩=AE (AA AB 0):=I.cell 0;have p1:wr.cell? ⟨w.heap.size+2,1,AD⟩=AE (AA AB 0):=I.cell 1;have p2:wr.cell? ⟨w.heap.size+2,2,AD⟩=AE (AA AB 0):=I.cell 2;have p3:wr.cell? ⟨w.heap.size+2,3,AD⟩=AE (AA AB 0):=I.cell 3;have p4:wr.cell? ⟨w.heap.size+2,4,AD⟩=AE (AA AB 0):=I.cell 4;have z0:=I.free 0;have z1:=I.free 1;have z2:=I.free 2;have z3:=I.free 3;have z4:=I.free 4;have J:Hid (Row (((((wr.setCell ⟨w.heap.size+2,0,AD⟩ (AA AB 0)).setCell ⟨w.heap.size+2,1,AD⟩ (AA AB 0)).setCell ⟨w.heap.size+2,2,AD⟩ (AA AB 0)).setCell ⟨w.heap.size+2,3,AD⟩ (AA AB 0)).setCell ⟨w.heap.size+2,4,AD⟩ (AA AB 0)) (w.heap.size+2) 47 [AA AB 0,AA AB 0,AA AB 0,AA AB 0,AA AB 0]/\Below w.heap.size w (((((wr.setCell ⟨w.heap.size+2,0,AD⟩ (AA AB 0)).setCell ⟨w.heap.size+2,1,AD⟩ (AA AB 0)).setCell ⟨w.heap.size+2,2,AD⟩ (AA AB 0)).setCell ⟨w.heap.size+2,3,AD⟩ (AA AB 0)).setCell ⟨w.heap.size+2,4,AD⟩ (AA AB 0))):=Du.out wr Cz (O.out.mono a5) I;clear Lm I O IG hb d0 d1 d2 d3 d4;go_wp2
  have r0:=J.out.1.cell 0;have r1:=J.out.1.cell 1;have Q:=J.out.1.cell 2;have r3:=J.out.1.cell 3;have U:=J.out.1.cell 4;simp only[AX,AV]at r0 r1 Q r3 U;exact BA (v:=AL #[Cz.a,Cz.b,Cz.c,Cz.d,Cz.e]) (by simp[results,Tryz.results95,go_sem,r0,r1,Q,r3,U,Cz]) rfl ⟨rfl,J.out.2⟩
def Ef(o:Cy):Nat:=(o.EE.takeWhile λk=>k≠0).length
theorem XS(o:Cy):Ef o<=5:=Ag (List.takeWhile_prefix _).length_le (by simp[Cy.EE])
theorem XT{o n}(e:n<=5)(J:∀j,j<n->DS o j≠0)(I:n=5\/DS o n=0):Ef o=n:=by
 have h:=YB o o n e J I;have h3:=YD o.EE o;rw[h]at h3;unfold Ef;rw[<-h3];simp[Cy.EE];omega
theorem dn{l n}(h:l.length=n)(e:n<=5):Db n (Tq l)=true:=by
 subst h;unfold Db Tq Cy.EE
 match l with
 |[]=>rfl
 |[_]=>rfl
 |[_,_]=>rfl
 |[_,_,_]=>rfl
 |[_,_,_,_]=>rfl
 | _:: _:: _:: _:: _::l=>simp
theorem iR{o t}(hf:Fm o):Db (Ef o) (FM o t)=true:=by
 unfold FM;rw[if_pos hf];exact dn (by rw[YD];rfl) (XS o)
theorem uZ{t}(h:D7 t)(i:Nat):Gj (DS t i):=by
 unfold DS;rw[AT];rcases hi:t.EE[i]?with _|x
 ·exact Gj.of a8 a8
 ·exact h x (Ae hi)
theorem uY{o t}(h:D7 t):D7 (FM o t):=by
 unfold FM
 split
 ·have O:Gj 0:=Gj.of a5 a5;have J:∀x∈T0 o.EE t,Gj x:=λx e=>by
   unfold T0 at e;obtain⟨k,_,rfl⟩:=Av.1 e;exact uZ h _
  have I:∀i,Gj ((T0 o.EE t).getD i 0):=λi=>by
   rw[AT];rcases hi:(T0 o.EE t)[i]?with _|x
   ·exact O
   ·exact J x (Ae hi)
  generalize T0 o.EE t=L at*
  intro x e;simp[Tq,Cy.EE]at e;rcases e with rfl|rfl|rfl|rfl|rfl
  ·have:=I 0;simpa [AT]using this
  ·have:=I 1;simpa [AT]using this
  ·have:=I 2;simpa [AT]using this
  ·have:=I 3;simpa [AT]using this
  ·have:=I 4;simpa [AT]using this
 ·intro x e;simp[Cz,Cy.EE]at e;subst e;exact Gj.of a5 a5
theorem fT(o:Cy)(w:World):Calls AP 90 #[AL #[o.a,o.b,o.c,o.d,o.e]] w λe w'=>e=AH (Ef o:Nat)/\Below w w w':=by
 have hr:Row (w.alloc (AK #[o.a,o.b,o.c,o.d,o.e] 132)) w 132 (DH o):=heap_alloc_new _ _;have jG:Hid (∀n,n<5->(w.alloc (AK #[o.a,o.b,o.c,o.d,o.e] 132)).cell? (w,n)=AE (AA AB (DS o n))):=λn J=>(hr.cell n).trans (rM o J);have HB:Hid (Below w w (w.alloc (AK #[o.a,o.b,o.c,o.d,o.e] 132))):=(AS _ _).alloc ar _;clear hr;go_enter func90,ntmps90
 go_wp2_with fail
 generalize w.alloc (AK #[o.a,o.b,o.c,o.d,o.e] 132)=W1 at*
 go_loopw [3] (λO wr=>∃n:Nat,n<=5/\O=AA AB (n:Int)/\Hid (∀j,j<n->DS o j≠0)/\wr=W1) (λO _=>5-(BF O).toNat)
 case atStart=>exact⟨0,a5,rfl,λj hj=>absurd hj a5,rfl⟩
 case round=>
  obtain⟨n,J,rfl,U,rfl⟩:=hrel;by_cases h5:n<5
  ·have g0:decide ((n:Int)<5)=true:=by simp;omega
   have gT:(0:Int)<=(n:Int):=a5;have RF:(n:Int)<5:=a5;have q:=jG.out n h5;by_cases I:DS o n=0
   ·have Q:Hid (Ef o=n):=XT J U.out (.inr I);rw[I]at q;clear I;go_wp2
    go_ret
    rw[Q.out];exact⟨rfl,HB.out⟩
   ·have HZ:=AO I;obtain⟨x,hx⟩:=ae (DS o n);rw[<-hx]at q I;clear hx;go_wp2
    go_roundw
    case rel=>exact⟨n+1,a5,by go_num,λj hj=>by
     rcases Ak j n with hl|hl
     ·exact U.out j hl
     ·rw[show j=n by omega];exact HZ.out,by trivial⟩
    case measure=>simp[BF];omega
  ·obtain rfl:n=5:=a5;have Q:Hid (Ef o=5):=XT J U.out (.inl rfl);go_wp2
   go_ret
   rw[Q.out];exact⟨rfl,HB.out⟩
def gB(k:Nat)(o:Cy):Prop:=∀i,i<5->-(k:Int)<=DS o i/\DS o i<=k
instance inWDec (k : Nat) (o : Cy) : Decidable (gB k o) := by unfold gB; exact inferInstance
theorem Xu(f0 f1 f3:Int)(k:Nat)(hk:k<=1000)(o:Cy)(w:World):Calls AP 92 #[AL #[f0,f1,k,f3],AL #[o.a,o.b,o.c,o.d,o.e]] w λe w'=>e=AH (.bool (decide (gB k o)))/\Below w w w':=by
 obtain⟨W1,EJ,b1,s1,r1,r2⟩:=TM w [f0,f1,k,f3] [o.a,o.b,o.c,o.d,o.e] 28 132;have FQ:=AO EJ;have HB:=AO b1;have ad:Hid (∀i:Nat,i<5->∀W:World,(CX 132 (AL #[o.a,o.b,o.c,o.d,o.e]) i).run AP W=.ok (AA AB (DS o i)) W):=λi hi W=>Mz 132 rfl o hi W;obtain⟨d0,d1,d2,d3,d4⟩:=r2.q5;have c2:W1.cell? (w,2)=AE (AA AB k):=r1.cell 2;have al:∀x:Int,x=k->-x=((-(k:Int))):=λx O=>by rw[O]
 clear al EJ b1 s1 r1 r2;go_enter func92,ntmps92
 go_upto_region 1 with(fail)
 rw[<-FQ.out];clear FQ;go_wp2_with fail
 go_loopw [8] (λU wr=>∃n:Nat,n<=5/\U=AA AB (n:Int)/\Hid (∀i,i<n->-(k:Int)<=DS o i/\DS o i<=k)/\wr=W1) (λU _=>5-(BF U).toNat)
 case atStart=>exact⟨0,a5,rfl,λj hj=>absurd hj a5,rfl⟩
 case round=>
  obtain⟨n,hn,rfl,HJ,rfl⟩:=hrel;by_cases h5:n<5
  ·have g0:decide ((n:Int)<5)=true:=by simp;omega
   have gT:(0:Int)<=(n:Int):=a5;have RF:(n:Int)<5:=a5;have ab:=ad.out n h5;obtain⟨x,O⟩:=ae (DS o n);rw[<-O]at ab;have HX:=AO O;obtain⟨I,J⟩:∃I:Int,I=-(k:Int):=⟨_,rfl⟩;have an:-(k:Int)=I:=J.symm;have hnb:-1000<=I/\I<=0:=a5;have Q:=AO J;clear O J;by_cases h1:x>(k:Int)
   ·have g1:decide (x>(k:Int))=true:=by simpa using h1
    have Ly:Hid (decide (gB k o)=false):=by
     unfold Hid;refine decide_eq_false λq=>?_;have:=q n h5;rw[<-HX.out]at this;omega
    go_wp2
    go_ret
    rw[Ly.out];exact⟨rfl,HB.out⟩
   ·have g1:decide (x>(k:Int))=false:=by simpa using h1
    by_cases h2:x<I
    ·have g2:decide (x<I)=true:=by simpa using h2
     have Ly:Hid (decide (gB k o)=false):=by
      unfold Hid;refine decide_eq_false λq=>?_;have:=q n h5;rw[<-HX.out]at this;have:=Q.out;omega
     go_wp2
     go_ret
     rw[Ly.out];exact⟨rfl,HB.out⟩
    ·have g2:decide (x<I)=false:=by simpa using h2
     have IX:Hid (-(k:Int)<=DS o n/\DS o n<=k):=by
      unfold Hid;rw[<-HX.out];have:=Q.out;omega
     go_wp2
     go_roundw
     case rel=>exact⟨n+1,a5,by go_num,λj hj=>by
      rcases Ak j n with hl|hl
      ·exact HJ.out j hl
      ·rw[show j=n by omega];exact IX.out,by trivial⟩
     case measure=>simp[BF];omega
  ·obtain rfl:n=5:=a5;have pF:Hid (decide (gB k o)=true):=decide_eq_true HJ.out;go_wp2
   go_ret
   rw[pF.out];exact⟨rfl,HB.out⟩
section
variable{X:Cx}{m:Nat}{W:World}
def NM(g:Nat)(fc:List Value)(o:Cy)(_:Nat):List DD:=[Cv g 28 fc,Cv (g+1) 132 (DH o)]
def K7(o:Cy)(_:Nat)(t:Cy):Option Cy:=AE (FM o t)
theorem uX{pre:List DD}{g:Nat}{fc:List Value}{o:Cy}{l:List Cy}:
  AB4 X pre 94 #[AI (AE ⟨g+1,0,AD⟩)] l (K7 o) (NM g fc o) 2 where
 ent:=λargs w=>by kernel_rfl
 len:=λ_=>rfl
 how:=λj zz m W t ht h=>by
  obtain⟨W2,I8⟩:=ae ((W.alloc (AK #[t.a,t.b,t.c,t.d,t.e] 47)).alloc (AK #[(),(),(),(),()] 47));have h1:=h.new ((AS W W).alloc ar (AK #[t.a,t.b,t.c,t.d,t.e] 47)) (heap_alloc_new _ _:Row _ _ 47 (DH t)) ar;have h2:=h1.new ((AS _ _).alloc ar (AK #[(),(),(),(),()] 47)) (heap_alloc_new _ _:Row _ _ 47 Z5) ar;rw[<-I8,show (W.alloc (AK #[t.a,t.b,t.c,t.d,t.e] 47)).heap.size=W.heap.size+1 by simp]at h2;obtain⟨s0,hs0⟩:=ae W.heap.size;rw[<-hs0]at h2;obtain⟨A,J⟩:∃A:List Value->World->Prop,∀I w,A I w↔Wd X (pre++NM g fc o 0++(zz++[Cv s0 47 (DH t),Cv (s0+1) 47 I])) m w:=⟨_,λ_ _=>BO⟩;have Gi:(pre++NM g fc o 0).length=pre.length+2:=by simp[NM]
  have QG:Hid (A Z5 W2):=(J _ _).2 (by simpa [AR,NM]using h2);have al:Hid (∀I w q,A I w->A I (w.drewN q)):=λI w q hq=>(J _ _).2 (((J _ _).1 hq).drewN q);have GC:Hid (∀I w,A I w->Row w (g+1) 132 (DH o)/\Row w s0 47 (DH t)/\Row w (s0+1) 47 I):=λI w q=>by
   have q:=(J _ _).1 q;exact⟨q.row (i:=pre.length+1) (by simp[NM]),q.row (yz Gi),q.row (mO Gi)⟩
  have Q:Hid (∀I w j x,A I w->A (I.set j x) (w.setCell (s0+1,j) x)):=λI w j x q=>by
   have q1:=((J _ _).1 q).store (mO Gi) a6 j x;rw[tH Gi]at q1;exact(J _ _).2 q1
  have Du:Hid (∀I w,A I w->Wd X (pre++NM g fc o (j+1)++zz) m w):=λI w q=>by
   have q:=(J _ _).1 q;rw[<-AR]at q;have q2:=Wd.GB (b:=[]) [Cv s0 47 (DH t),Cv (s0+1) 47 I] (λy hy=>by simp at hy;rcases hy with rfl|rfl<;>exact⟨rfl,rfl⟩) (by rw[AY];exact q);rwa [AY]at q2
  have dS:Hid (∀I w w',A I w->Below w w w'->A I w'):=λI w w' q hb=>(J _ _).2 (((J _ _).1 q).below hb);have U:Hid (∀w,Calls AP 95 #[AL #[t.a,t.b,t.c,t.d,t.e],AL #[o.a,o.b,o.c,o.d,o.e]] w λe w'=>e=AH (AL #[AA AB (FM o t).a,AA AB (FM o t).b,AA AB (FM o t).c,AA AB (FM o t).d,AA AB (FM o t).e])/\Below w w w'):=λw=>kK o t w;obtain⟨u,hu⟩:=ae (FM o t);have HC:Hid (K7 o j t=AE u):=by unfold Hid K7;rw[hu]
  rw[<-hu]at U;have Lv:=AO I8;replace hs0:=AO hs0;obtain⟨p1,p4,O⟩:=GC.out _ _ QG.out;obtain⟨d0,d1,d2,d3,d4⟩:=p4.q5;obtain⟨q0,q1,q2,q3,q4⟩:=p1.q5;clear h1 h2 h Gi J I8 ht hu p1 p4 O;generalize GP:(λ(e:Ending) (w':World)=>∃t' b,e=AH (AM #[DW t',.bool b])/\K7 o j t=(if b then AE t' else AD)/\Wd X (pre++NM g fc o (j+1)++zz) m w')=Dh at*
  replace GP:=AO GP;unfold DW;go_enter func94,ntmps94
  go_upto_region 1 with(fail)
  rw[<-Lv.out,<-hs0.out];clear Lv;go_wp2_with fail
  refine(U.out _).mono ?_;rintro e w3 ⟨rfl,ED⟩;have ad:=AO (dS.out _ _ _ QG.out ED);clear ED d0 d1 d2 d3 d4 q0 q1 q2 q3 q4;obtain⟨p1,p4,O⟩:=GC.out _ _ ad.out;obtain⟨z0,z1,z2,z3,z4⟩:=O.q5;obtain⟨f0,f1,f2,f3,f4⟩:=O.r5;have ab:=AO (Q.out _ _ 4 u.e (Q.out _ _ 3 u.d (Q.out _ _ 2 u.c (Q.out _ _ 1 u.b (Q.out _ w3 0 u.a ad.out)))));have Eg:=AO (GC.out _ _ ab.out).2.2;clear p1 p4 O;go_wp2
  have r0:=Eg.out.cell 0;have r1:=Eg.out.cell 1;have r2:=Eg.out.cell 2;have r3:=Eg.out.cell 3;have r4:=Eg.out.cell 4;simp only[Z5,List.set_cons_zero,B7,AX,AV]at r0 r1 r2 r3 r4;refine BA (v:=AM #[DW u,true]) (by unfold DW;simp[results,Tryz.results94,go_sem,r0,r1,r2,r3,r4]) rfl ?_;rw[<-GP.out];exact⟨u,true,rfl,HC.out,Du.out _ _ ab.out⟩
theorem kE{os first nb k hh count l o}(h:Wd X os m W)(hf:Gh first nb k hh l X.sz)(J:De first nb k hh l X.sz∈os)(hc:l.length=count)(Yf:Fm o)(gT:Ef o≠0)(NH:gB k o)
  (Q:2*X.sz+DF DD.gw os<=X.rm)(hn:X.N+m+nb+count+2<=1000000)(qD:0<Cw X.sz (Ef o:Nat)):
  Calls AP 68 #[AI X.p.w,AL #[first,nb,k,count],AL #[o.a,o.b,o.c,o.d,o.e]] W (O5 X os (outL (K7 o) l count) m nb count (Ef o)):=by
 obtain⟨O,Ky⟩:=ae (((W.alloc (AK #[first,nb,k,count] 28)).alloc (AK #[o.a,o.b,o.c,o.d,o.e] 132)).alloc (AK #[(),(),(),()] 28));have h1:=h.new ((AS W W).alloc ar (AK #[first,nb,k,count] 28)) (heap_alloc_new _ _:Row _ _ 28 [first,nb,k,count]) ar;have h2:=h1.new ((AS _ _).alloc ar (AK #[o.a,o.b,o.c,o.d,o.e] 132)) (heap_alloc_new _ _:Row _ _ 132 (DH o)) ar;have h3:=h2.new ((AS _ _).alloc ar (AK #[(),(),(),()] 28)) (heap_alloc_new _ _:Row _ _ 28 Z4) ar;rw[<-Ky]at h3;have ab:∀(w:World) (o:Obj),(w.alloc o).heap.size=w+1:=λw o=>by simp
 simp only[ab,B8,Cd]at h3;obtain⟨s0,hs0⟩:=ae W.heap.size;rw[<-hs0]at h3;obtain⟨fc,Pu⟩:∃fc:List Value,fc=[AA AB first,AA AB nb,AA AB k,AA AB count]:=⟨_,rfl⟩;rw[<-Pu]at h3;have h3:Wd X (os++NM s0 fc o 0++[Cv (s0+2) 28 Z4]) m O:=by
  unfold NM;simpa [AR]using h3
 have I:Row O s0 28 [first,nb,k,count]:=by rw[<-Pu];exact h3.row (i:=os.length) (by unfold NM;simp)
 have m8:Row O (s0+1) 132 (DH o):=h3.row (i:=os.length+1) (by unfold NM;simp);have av:=hf.kk;have ni:∀i,Dr (NM s0 fc o i):=λi q hq=>by simp[NM]at hq;rcases hq with rfl|rfl<;>exact⟨rfl,rfl⟩
 have ad:=λ(w:World) (hb:Below O O w)=>dj (width:=Ef o) (uX (X:=X) (pre:=os) (g:=s0) (fc:=fc) (o:=o) (l:=l)) (h3.below hb) hf (by simp[J]) hc qD (λj t u ht hu=>by
   have aw:=hf.fit t (Ae ht);unfold K7 at hu;injection hu with hu
   subst hu;exact⟨uY aw.1,iR Yf⟩) (by rw[DP,DP,D5 _ (ni 0),D5 [Cv (s0+2) 28 Z4] (λq hq=>by simp at hq;subst hq;exact⟨rfl,rfl⟩)];omega) hn
 have aq:=AO ad;have G7:Hid (∀e w',OD X os [Cv (s0+2) 28 Z4] (NM s0 fc o) (outL (K7 o) l count) m nb count (Ef o) e w'-> _):=λe w' q=>fQ ni q;have ao:Hid (∀w,Calls AP 90 #[AL #[o.a,o.b,o.c,o.d,o.e]] w λe w'=>e=AH (Ef o:Nat)/\Below w w w'):=λw=>fT o w;have ay:Hid (∀w,Calls AP 91 #[AL #[o.a,o.b,o.c,o.d,o.e]] w λe w'=>e=AH true/\Below w w w'):=λw=>by
  have:=LV o w;rwa [decide_eq_true Yf]at this
 have ax:Hid (∀w,Calls AP 92 #[AL #[first,nb,k,count],AL #[o.a,o.b,o.c,o.d,o.e]] w λe w'=>e=AH true/\Below w w w'):=λw=>by
  have:=Xu first nb count k a5 o w;rwa [decide_eq_true NH]at this
 have au:=XS o;obtain⟨nn,jU⟩:=ae (Ef o);rw[<-jU]at aq G7 ao gT au⊢;generalize OD X os [Cv (s0+2) 28 Z4] (NM s0 fc o) (outL (K7 o) l count) m nb count nn=aB at*
 generalize O5 X os (outL (K7 o) l count) m nb count nn=Dh at*
 have Jz:=AO Ky;have jG:Hid (∀w,Below O O w->(w.cell? s0=AE (AA AB first)/\w.cell? (s0,1)=AE (AA AB nb)/\w.cell? (s0,2)=AE (AA AB k)/\w.cell? (s0,3)=AE (AA AB count))/\w.cell? (s0+1,0)=AE (AA AB o.a)/\w.cell? (s0+1,1)=AE (AA AB o.b)/\w.cell? (s0+1,2)=AE (AA AB o.c)/\w.cell? (s0+1,3)=AE (AA AB o.d)/\w.cell? (s0+1,4)=AE (AA AB o.e)):=λw hb=>by
  have q0:=I.below hb I.lt;have q1:=m8.below hb m8.lt;exact⟨⟨q0.cell 0,q0.cell 1,q0.cell 2,q0.cell 3⟩,q1.cell 0,q1.cell 1,q1.cell 2,q1.cell 3,q1.cell 4⟩
 obtain⟨⟨a0,a1,a2,a3⟩,b0,b1,b2,b3,b4⟩:=jG.out O (AS _ _);replace hs0:=AO hs0;have aA:¬(nn:Int)=0:=a5;clear h1 h2 h3 h Ky ab I m8 ad hf J hc Q hn av ni Pu qD gT Yf NH jU;go_enter func68,ntmps68
 go_upto_region 1 with(fail)
 rw[<-Jz.out,<-hs0.out];clear Jz;go_wp2_with fail
 refine(ao.out _).mono ?_;rintro e w4 ⟨rfl,IE⟩;have PL:=AO IE;clear IE a0 a1 a2 a3 b0 b1 b2 b3 b4;obtain⟨⟨a0,a1,a2,a3⟩,b0,b1,b2,b3,b4⟩:=jG.out w4 PL.out;go_wp2_with fail
 refine(ay.out _).mono ?_;rintro e w5 ⟨rfl,Fx⟩;have EV:=AO (PL.out.trans (Fx.mono PL.out.size));clear Fx a0 a1 a2 a3 b0 b1 b2 b3 b4;obtain⟨⟨a0,a1,a2,a3⟩,b0,b1,b2,b3,b4⟩:=jG.out w5 EV.out;go_wp2_with fail
 refine(ax.out _).mono ?_;rintro e w6 ⟨rfl,RG⟩;have PJ:=AO (EV.out.trans (RG.mono EV.out.size));clear RG a0 a1 a2 a3 b0 b1 b2 b3 b4;obtain⟨⟨a0,a1,a2,a3⟩,b0,b1,b2,b3,b4⟩:=jG.out w6 PJ.out;have az:=AO (aq.out w6 PJ.out);go_wp2_with fail
 refine az.out.mono ?_;rintro e w7 h7;obtain⟨C,F,N,K,L,er,rfl,hC,U,al,an⟩:=G7.out e w7 h7;have jD:=AO (U _ _ hC);have H9:=AO (al Z4 w7 F N K L rfl hC);have Eg:=AO (U _ _ H9.out);have HE:=AO (an _ _ H9.out);clear h7 hC U al an a0 a1 a2 a3 b0 b1 b2 b3 b4;obtain⟨z0,z1,z2,z3⟩:=jD.out.q4;obtain⟨f0,f1,f2,f3⟩:=jD.out.r4;go_wp2
 have r0:=Eg.out.cell 0;have r1:=Eg.out.cell 1;have r2:=Eg.out.cell 2;have r3:=Eg.out.cell 3;simp only[AX,AV]at r0 r1 r2 r3;refine BA (v:=AM #[AL #[F,N,K,L],er]) (by simp[results,Tryz.results68,go_sem,r0,r1,r2,r3]) rfl ?_;exact HE.out
end
def DoC(fD:Nat)(caps:Array Value)(J:Nat->World->Prop)(Jm:Cy->Nat->World->Prop)(Er:Nat->World->Prop):Prop:=
 ∀t n w,Jm t n w->Calls AP fD (#[DW t]++caps) w λe w'=>(e=AH ()/\J n w')\/(∃er:Nat,e=AH er/\0<er/\Er er w')
structure AN6 (fD:Nat) (caps:Array Value) (x:Nat) (Dh:Ending->World->Prop) (J:Nat->World->Prop) (Jm:Cy->Nat->World->Prop) (E:World->Prop) (Er:Nat->World->Prop):Prop where
 tell:oy 48 (AI x) J Jm E Er
 take:DoC fD caps J Jm Er
 bJm:∀t n w w',Jm t n w->Below w w w'->Jm t n w'
 bE:∀w w',E w->Below w w w'->E w'
 bEr:∀er w w',Er er w->Below w w w'->Er er w'
 fin:∀u w,E w->CallsD AP 47 #[AI x] u w λe u' w'=>u'=u/\(e=AH (AM #[])/\Dh (AH ()) w')
 err:∀u er w,0<er->Er er w->CallsD AP 47 #[AI x] u w λe u' w'=>u'=u/\(e=AH (AM #[])/\Dh (AH er) w')
theorem iQ{fD:Nat}{caps}{pw:Nat}{first nb k count:Nat}{Dh W}
  (eD:∀args w,Bu AP (callFunc fD args) w=.ok (.enter fD args) w)
  (I:Calls AP 46 #[AI pw,AL #[first,nb,k,count]] (W.alloc (AK #[first,nb,k,count] 28)) λe w'=>
   ∃x,e=AH (AM #[AI (AE ⟨x,0,AD⟩),()])/\∃J Jm E Er,AN6 fD caps x Dh J Jm E Er/\∃n,J n w'):
  Calls AP 61 #[AI pw,AL #[first,nb,k,count],.func (.func fD) #[] caps] W Dh:=by
 obtain⟨W1,EJ⟩:=ae (W.alloc (AK #[first,nb,k,count] 28));have Et:Row W1 W 28 [first,nb,k,count]:=by rw[EJ];exact heap_alloc_new _ _
 rw[<-EJ]at I;have Lx:=AO I;have Ka:=AO Et;have FQ:=AO EJ;generalize hs0:W.heap.size=s0 at*
 clear I Et EJ;go_enter_defers func61,ntmps61
 go_upto_region 1 with(fail)
 rw[<-FQ.out];clear FQ;obtain⟨a0,a1,a2,a3⟩:=Ka.out.q4;clear Ka;go_wp2_with fail
 refine Lx.out.mono ?_;rintro e w2 ⟨x,rfl,J,Jm,E,Er,hC,n0,O⟩;have H0:=AO O;have HN:=AO hC.tell;have HD:=AO hC.take;have BJ:=AO hC.bJm;have BE:=AO hC.bE;have BR:=AO hC.bEr;have HF:=AO hC.fin;have HX:=AO hC.err;clear hC O a0 a1 a2 a3 Lx;go_wp2_with fail
 go_loopw [9,10,11,12] (λ_ _ _ _ wr=>∃k:Nat,Hid (J k wr)) (λ_ _ _ _ wr=>Ho λk=>J k wr)
 case atStart=>exact⟨n0,H0⟩
 case round=>
  obtain⟨k,O⟩:=hrel;have HJ:Hid (J (Ho λk=>J k wr) wr):=(Fi (P:=λk=>J k wr) O.out).1;have xk:=AO (HN.out _ wr HJ.out);clear O;go_wp2_with fail
  refine xk.out.mono ?_;rintro e w3 (⟨t,n',rfl,wP,h3⟩|⟨rfl,h3⟩|⟨er,rfl,Di,h3⟩)
  ·have KM:=AO wP;have ad:=AO (BJ.out t n' _ _ h3 ((AS w3 w3).alloc ar (AK #[t.a,t.b,t.c,t.d,t.e] 47)));have GU:Row (w3.alloc (AK #[t.a,t.b,t.c,t.d,t.e] 47)) w3 47 [t.a,t.b,t.c,t.d,t.e]:=heap_alloc_new _ _;have IF:=AO GU;clear h3 GU wP;unfold DW;go_upto_region 6 with(fail)
   generalize w3.alloc (AK #[t.a,t.b,t.c,t.d,t.e] 47)=w4 at*
   generalize w3.heap.size=bt at*
   have Q:=AO (HD.out t n' w4 ad.out);unfold DW at Q;obtain⟨d0,d1,d2,d3,d4⟩:=IF.out.q5;go_wp2_with fail
   refine Q.out.mono ?_;rintro e w5 (⟨rfl,h5⟩|⟨er,rfl,Di,h5⟩)
   ·have H5:=AO h5;clear h5;go_wp2
    go_roundw
    case rel=>exact⟨n',H5⟩
    case measure=>exact Cg (Fi (P:=λk=>J k w5) H5.out).2 KM.out
   ·have H5:=AO h5;have ab:¬(er:Int)=0:=a5;have T5:=AO Di;clear h5 Di;go_wp2
    refine A6 (f:=47) (args:=#[AI x]) a8 (by simp[go_sem]) ?_;refine(HX.out _ _ _ T5.out H5.out).mono ?_;rintro e u' Eo ⟨rfl,rfl,U⟩;exact⟨AA AB er,by simp[results,Tryz.results61,go_sem],U⟩
  ·have H3:=AO (BE.out _ _ h3 ((AS w3 w3).alloc ar (AK #[(),(),(),(),()] 47)));clear h3;unfold DW Cz;go_wp2
   refine A6 (f:=47) (args:=#[AI x]) a8 (by simp[go_sem]) ?_;refine(HF.out _ _ H3.out).mono ?_;rintro e u' Eo ⟨rfl,rfl,U⟩;exact⟨AA AB 0,by simp[results,Tryz.results61,go_sem],U⟩
  ·have H3:=AO (BR.out _ _ _ h3 ((AS w3 w3).alloc ar (AK #[(),(),(),(),()] 47)));have ab:¬(er:Int)=0:=a5;have T5:=AO Di;clear h3 Di;unfold DW Cz;go_wp2
   refine A6 (f:=47) (args:=#[AI x]) a8 (by simp[go_sem]) ?_;refine(HX.out _ _ _ T5.out H3.out).mono ?_;rintro e u' Eo ⟨rfl,rfl,U⟩;exact⟨AA AB er,by simp[results,Tryz.results61,go_sem],U⟩
structure DoS (X:Cx) (fD:Nat) (caps:Array Value) (l:List Cy) {σ:Type} (P:Nat->σ->Prop) (Z:σ->List DD) (c:σ->Nat) (Jt:Nat->List DD->Prop) (ct:Nat):Prop where
 ent:∀args w,Bu AP (callFunc fD args) w=.ok (.enter fD args) w
 cost:∀i s,P i s->c s<=ct
 step:∀i s zz m W t,l[i]?=AE t->P i s->Wd X (Z s++zz) (m+c s) W->X.N+m+ct+1<=1000000->Calls AP fD (#[DW t]++caps) W λe w'=>
  (∃s',e=AH ()/\P (i+1) s'/\Wd X (Z s'++zz) (m+c s') w')\/
  (∃(er:Nat) (z':List DD),e=AH er/\0<er/\Jt er z'/\Wd X (z'++zz) (m+ct+1) w')
def WJ(X:Cx)(l:List Cy){σ:Type}(P:Nat->σ->Prop)(Z:σ->List DD)(c:σ->Nat)(Jt:Nat->List DD->Prop)(m nb ct:Nat)(e:Ending)(w':World):Prop:=
 (∃s,e=AH ()/\P l.length s/\Wd X (Z s) (m+nb+c s) w')\/
 (∃(er:Nat) (z':List DD),e=AH er/\0<er/\(Jt er z'\/er=6/\¬X.cm/\∃i s,P i s/\z'=Z s)/\Wd X z' (m+nb+ct+1) w')
section
variable{X:Cx}{m:Nat}{W:World}
theorem GI(Y:List DD)(a:DD):(Y++[a])[Y.length]?=AE a:=a8
theorem Gn(Y:List DD)(a b:DD):(Y++[a]).set Y.length b=Y++[b]:=a8
theorem JQ{X Y a m W}(I:a.gr=AD/\a.ex.2=0)(h:Wd X (Y++[a]) m W):Wd X Y m W:=by
 have:=Wd.GB (b:=[]) [a] (λy e=>by simp at e;subst e;exact I) (by rw[AY];exact h);rwa [AY]at this
theorem bI{σ fD first nb k hh count ct caps l P Z c Jt}{s0:σ}
  (hS:DoS X fD caps l P Z c Jt ct)(hs0:P 0 s0)(Jx:c s0=0)(h:Wd X (Z s0) m W)(hf:Gh first nb k hh l X.sz)(ad:∀i s,P i s->De first nb k hh l X.sz∈Z s)(hc:l.length=count)(ab:X.sz+DF DD.gw (Z s0)<=X.rm)(hn:X.N+m+nb+ct+1<=1000000):
  Calls AP 61 #[AI X.p.w,AL #[first,nb,k,count],.func (.func fD) #[] caps] W (WJ X l P Z c Jt m nb ct):=by
 refine iQ hS.ent ?_;have J:=h.below ((AS W W).alloc ar (AK #[first,nb,k,count] 28));refine(Mo J first nb k hh count l hf.Pp hf.hh.1 (by rw[<-hc];exact hf.bn) (by rw[<-hc];exact hf.len) hf.fst ab).mono ?_;rintro e w2 ⟨x,b,g,rfl,GU,GS⟩;obtain⟨r,hr⟩:∃r:Rt,r=⟨k,hh,first,nb,count,0,b,g⟩:=⟨_,rfl⟩;rw[<-hr]at GU GS;have hF:xX X r l:=by
  refine⟨GU,by rw[hr];exact hc,λu hu=>by rw[hr];exact hf.fit u hu,by rw[hr];exact hf.bn⟩
 have EZ:∀i s a,P i s->Src (Z s++[a]) X.sz r.first r.k r.h l:=λi s a I=>by
  rw[hr];exact VH (nb:=nb) (by simp[ad i s I]) hf.bn
 have ae:r.h=hh:=by rw[hr]
 have M6:Cu r.h l.length=nb:=by rw[ae];exact hf.bn.symm
 have Ec:rat r 0=r:=by rw[hr];rfl
 have Gt:0<r.h:=by rw[ae];exact hf.hh.1
 have ao:∀i,i<=l.length->Cu r.h i<=nb:=λi hi=>by rw[<-M6];exact Df Gt hi
 refine⟨x,rfl,λn w=>∃i s,n=l.length-i/\i<=l.length/\P i s/\Wd X (Z s++[E0 X.p x (rat r i) X.sz l]) (m+c s+Cu r.h i) w,
  λt n w=>∃i s,n=l.length-(i+1)/\l[i]?=AE t/\P i s/\Wd X (Z s++[E0 X.p x (rat r (i+1)) X.sz l]) (m+Cu r.h (i+1)+c s) w,
  λw=>∃s,P l.length s/\Wd X (Z s++[E0 X.p x (rat r l.length) X.sz l]) (m+nb+c s) w,
  λer w=>∃O a,aj X x r l a/\(Jt er O\/er=6/\¬X.cm/\∃i s,P i s/\O=Z s)/\Wd X (O++[a]) (m+nb+ct+1) w,
  ⟨?_,?_,?_,?_,?_,?_,?_⟩,l.length,0,s0,rfl,Ao _,hs0,?_⟩
 ·rintro n w ⟨i,s,rfl,hi,I,hw⟩;have an:=hS.cost i s I;rcases Ak i l.length with Q|aq
  ·refine(VT hw (GI _ _) hF (EZ i s _ I) Q (by rw[M6];omega)).mono ?_;rintro e w' (⟨t,ht,he,Kp⟩|⟨he,Fy,Kp⟩)
   ·rw[Gn]at Kp;refine .inl ⟨t,l.length-(i+1),he,a5,i,s,rfl,ht,I,?_⟩;rwa [show m+Cu r.h (i+1)+c s=m+c s+Cu r.h (i+1)by omega]
   ·rw[Gn]at Kp;refine .inr (.inr ⟨6,he,a5,Z s,_,⟨i,.inr rfl⟩,.inr ⟨rfl,Fy,i,s,I,rfl⟩,Kp.mono (by rw[M6];omega) a5⟩)
  ·obtain rfl:i=l.length:=a5;refine(ZT hw (GI _ _) hF rfl).mono ?_;rintro e w' ⟨he,Kp⟩;refine .inr (.inl ⟨he,s,I,?_⟩);rw[M6]at Kp;rwa [show m+nb+c s=m+c s+nb by omega]
 ·rintro t n w ⟨i,s,rfl,ht,I,hw⟩;have Q:i<l.length:=(BI.1 ht).1;have hb:=ao (i+1) Q;have an:=hS.cost i s I;refine(hS.step i s _ _ w t ht I hw a5).mono ?_;rintro e w' (⟨s',he,al,Kp⟩|⟨er,O,he,Di,KW,Kp⟩)
  ·refine .inl ⟨he,i+1,s',rfl,Q,al,?_⟩;rwa [show m+c s'+Cu r.h (i+1)=m+Cu r.h (i+1)+c s' by omega]
  ·exact .inr ⟨er,he,Di,O,_,⟨i+1,.inl rfl⟩,.inl KW,Kp.mono a5 a5⟩
 ·rintro t n w w' ⟨i,s,J,U,h3,h4⟩ hb;exact⟨i,s,J,U,h3,h4.below hb⟩
 ·rintro w w' ⟨s,J,U⟩ hb;exact⟨s,J,U.below hb⟩
 ·rintro er w w' ⟨O,a,J,U,h3⟩ hb;exact⟨O,a,J,U,h3.below hb⟩
 ·rintro u w ⟨s,I,hw⟩;refine(MD u hw (GI _ _) ⟨l.length,.inl rfl⟩).mono ?_;rintro e u' w' ⟨J,U,j,h3⟩;rw[Gn]at h3;exact⟨J,U,.inl ⟨s,rfl,I,JQ ⟨rfl,rfl⟩ h3⟩⟩
 ·rintro u er w Di ⟨O,a,ha,KW,hw⟩;refine(MD u hw (GI _ _) ha).mono ?_;rintro e u' w' ⟨J,U,j,h3⟩;rw[Gn]at h3;exact⟨J,U,.inr ⟨er,O,rfl,Di,KW,JQ ⟨rfl,rfl⟩ h3⟩⟩
 ·rw[Ec,Jx,Dx];exact GS
end
section
variable{X:Cx}{os:List DD}{m i R:Nat}{W:World}{cs:List Value}
theorem Rv{α:Type}(l:List α)(i:Nat)(a b:α):(l.set i a).set i b=l.set i b:=a8
theorem GD(h:Wd X os m W)(hi:os[i]?=AE (Cv R 28 cs))(e:cs.length=4)(x1 x2 x3 x4:Value):Wd X (os.set i (Cv R 28 [x1,x2,x3,x4])) m ((((W.setCell R x1).setCell (R,1) x2).setCell (R,2) x3).setCell (R,3) x4):=by
 have J:=h.store hi a6 0 x1;have I:=J.store (IJ _ hi _) a6 1 x2;rw[Rv]at I;have h3:=I.store (IJ _ hi _) a6 2 x3;rw[Rv]at h3;have h4:=h3.store (IJ _ hi _) a6 3 x4;rw[Rv]at h4
 match cs,e with
 |[c0,c1,c2,c3],_=>exact h4
end
structure oz (X:Cx) (os:List DD) (fS:Nat) (caps:Array Value) (k:Nat) (Good:List Cy->List DD->Prop) (Jt:Nat->List DD->Prop) (ct:Nat):Prop where
 ent:∀args w,Bu AP (callFunc fS args) w=.ok (.enter fS args) w
 call:∀zz m W,Wd X (os++zz) m W->Dr zz->X.N+m+ct<=1000000->Calls AP fS caps W λe w'=>
  (∃(F N:Nat) (l':List Cy) (os':List DD) (m':Nat),e=AH (AM #[AL #[F,N,k,l'.length],()])/\Gh F N k (Cw X.sz k) l' X.sz/\Good l' os'/\m'<=m+ct/\Wd X (os'++zz++[De F N k (Cw X.sz k) l' X.sz]) m' w')\/
  (∃(er:Nat) (os':List DD) (m':Nat),e=AH (AM #[AL #[(),(),(),()],er])/\0<er/\Jt er os'/\m'<=m+ct/\Wd X (os'++zz) m' w')
def IC(g pw:Nat)(fc:List Value)(o:Cy):List DD:=[Cv g 23 [AI pw],Cv (g+1) 28 fc,Cv (g+2) 132 (DH o)]
def S9(g:Nat):Array Value:=#[AI g,AI (g+1,0),AI (g+2,0)]
theorem En(g pw:Nat)(fc:List Value)(o:Cy):Dr (IC g pw fc o):=λq e=>by
 simp[IC]at e;rcases e with rfl|rfl|rfl<;>exact⟨rfl,rfl⟩
theorem SB(o:Cy)(l:List Cy):∀i,i<=l.length->outL (K7 o) l i=(l.take i).map (FM o)
 |0,_=>by simp[outL]
 |i+1,hi=>by
  rw[outL,SB o l i a5,Bj,AU (show i<l.length by omega),Cn];rfl
section
variable{X:Cx}{os:List DD}{m:Nat}{W:World}
theorem S8{first nb k count:Nat}{o}(h:Wd X os m W):
  Calls AP 85 #[AI X.p.w,AL #[first,nb,k,count],AL #[o.a,o.b,o.c,o.d,o.e]] W λe w'=>∃g,e=AH (.func (.func 109) #[] (S9 g))/\
   Wd X (os++IC g X.p.w [first,nb,k,count] o) m w'/\Below W W w':=by
 obtain⟨W3,O⟩:=ae (((W.alloc (AK #[AI X.p.w] 23)).alloc (AK #[first,nb,k,count] 28)).alloc (AK #[o.a,o.b,o.c,o.d,o.e] 132));have Dg:Below W W (W.alloc (AK #[AI X.p.w] 23)):=(AS _ _).alloc ar _;have U:=h.new Dg (heap_alloc_new _ _:Row _ _ 23 [AI X.p.w]) ar;have Q:=U.new ((AS _ _).alloc ar (AK #[first,nb,k,count] 28)) (heap_alloc_new _ _:Row _ _ 28 [first,nb,k,count]) ar;have h3:=Q.new ((AS _ _).alloc ar (AK #[o.a,o.b,o.c,o.d,o.e] 132)) (heap_alloc_new _ _:Row _ _ 132 (DH o)) ar;rw[<-O]at h3;have I:∀(w:World) (o:Obj),(w.alloc o).heap.size=w+1:=λw o=>by simp
 simp only[I,B8,Cd]at h3;have J:Below W W W3:=by
  rw[O];exact((Dg.alloc Dg.size _).alloc (by have:=Dg.size;simp only[I];omega) _)
 have HB:=AO J;have H3:Hid (Wd X (os++IC W X.p.w [first,nb,k,count] o) m W3):=by
  unfold Hid IC;simpa [AR]using h3
 have Jz:=AO O;clear h U Q h3 Dg J O I;go_enter func85,ntmps85
 go_upto_region 1 with(fail)
 rw[<-Jz.out];clear Jz;go_wp2
 go_ret
 exact⟨W,by simp[S9],H3.out,HB.out⟩
theorem oW{first nb k hh count g:Nat}{l o I zz}(h:Wd X (os++IC g X.p.w [first,nb,k,count] o++zz) m W)(hf:Gh first nb k hh l X.sz)(O:De first nb k hh l X.sz∈os)(hc:l.length=count)(Yf:Fm o)(gT:Ef o≠0)(NH:gB k o)
  (FJ:os++IC g X.p.w [first,nb,k,count] o++zz=I)(J:2*X.sz+DF DD.gw I<=X.rm)(hn:X.N+m+nb+count+2<=1000000)(qD:0<Cw X.sz (Ef o:Nat)):
  Calls AP 109 (S9 g) W (O5 X I (outL (K7 o) l count) m nb count (Ef o)):=by
 obtain⟨W1,EJ⟩:=ae (W.alloc (AK #[(),(),(),()] 28));have Et:Row W g 23 [AI X.p.w]:=h.row (i:=os.length) (by simp[IC]);have EC:Row W (g+1) 28 [first,nb,k,count]:=h.row (i:=os.length+1) (by simp[IC]);have FT:Row W (g+2) 132 (DH o):=h.row (i:=os.length+2) (by simp[IC]);have Dg:Below W W W1:=by rw[EJ];exact(AS _ _).alloc ar _
 rw[FJ]at h;have h1:=h.new Dg (by rw[EJ];exact heap_alloc_new _ _:Row W1 _ 28 Z4) ar;have wT:De first nb k hh l X.sz∈I++[Cv W 28 Z4]:=by rw[<-FJ];simp[O]
 have HC:=AO (kE h1 hf wT hc Yf gT NH (by rw[D9];exact J) hn qD);have q1:=Et.below Dg Et.lt;have q2:=EC.below Dg EC.lt;have q3:=FT.below Dg FT.lt;have G7:Hid (∀e w',O5 X (I++[Cv W 28 Z4]) (outL (K7 o) l count) m nb count (Ef o) e w'->∃F N K L er:Nat,e=AH (AM #[AL #[F,N,K,L],er])/\Row w' W 28 Z4/\
   Row ((((w'.setCell W.heap.size F).setCell (W.heap.size,1) N).setCell (W.heap.size,2) K).setCell (W.heap.size,3) L) W.heap.size 28 [F,N,K,L]/\
   O5 X I (outL (K7 o) l count) m nb count (Ef o) (AH (AM #[AL #[F,N,K,L],er])) ((((w'.setCell W.heap.size F).setCell (W.heap.size,1) N).setCell (W.heap.size,2) K).setCell (W.heap.size,3) L)):=by
  rintro e w' (⟨F,N,he,NI,hw⟩|⟨er,he,Di,IB,hw⟩)
  ·refine⟨F,N,Ef o,_,0,he,hw.row (i:=I.length) a8,?_⟩;have Q:=GD hw (i:=I.length) (R:=W) (cs:=Z4) a8 rfl F N (Ef o:Nat) (AA AB ((outL (K7 o) l count).length:Nat));have e4:∀c:List Value,(I++[Cv W 28 Z4]++[De F N (Ef o) (Cw X.sz (Ef o:Nat)) (outL (K7 o) l count) X.sz]).set I.length (Cv W 28 c)=I++Cv W 28 c::[De F N (Ef o) (Cw X.sz (Ef o:Nat)) (outL (K7 o) l count) X.sz]:=λc=>by simp
   rw[e4]at Q;exact⟨Q.row (i:=I.length) a8,.inl ⟨F,N,rfl,NI,Q.cut rfl rfl⟩⟩
  ·refine⟨0,0,0,0,er,he,hw.row (GI _ _),?_⟩;have Q:=GD hw (GI _ _) rfl (AA AB (0:Nat)) (AA AB (0:Nat)) (AA AB (0:Nat)) (AA AB (0:Nat));rw[Gn]at Q;refine⟨Q.row (GI _ _),.inr ⟨er,rfl,Di,?_,JQ ⟨rfl,rfl⟩ Q⟩⟩;rcases IB with h|⟨h5,ab⟩
   ·exact .inl h
   ·exact .inr ⟨h5,λq hq=>ab q (GL hq λy hy=>by simp at hy;subst hy;exact⟨rfl,rfl⟩)⟩
 generalize O5 X (I++[Cv W.heap.size 28 Z4]) (outL (K7 o) l count) m nb count (Ef o)=ad at*
 generalize O5 X I (outL (K7 o) l count) m nb count (Ef o)=Dh at*
 have FQ:=AO EJ;generalize hs0:W.heap.size=s0 at*
 have a0:W1.cell? g=AE (AI X.p.w):=q1.cell 0;obtain⟨b0,b1,b2,b3⟩:=q2.q4;obtain⟨c0,c1,c2,c3,c4⟩:=q3.q5;clear h Et EC FT Dg h1 wT q1 q2 q3 EJ hf O hc Yf gT NH J hn qD FJ;unfold S9;go_enter func109,ntmps109
 go_upto_region 1 with(fail)
 rw[<-FQ.out];clear FQ;go_wp2_with fail
 refine HC.out.mono ?_;rintro e w7 h7;obtain⟨F,N,K,L,er,rfl,hr,EG,hp⟩:=G7.out e w7 h7;have HP:=AO hp;have U:=AO EG;obtain⟨z0,I,z2,z3⟩:=hr.q4;obtain⟨f0,f1,f2,f3⟩:=hr.r4;clear h7 hr EG hp;go_wp2
 have r0:=U.out.cell 0;have r1:=U.out.cell 1;have r2:=U.out.cell 2;have r3:=U.out.cell 3;simp only[AX,AV]at r0 r1 r2 r3;refine BA (v:=AM #[AL #[F,N,K,L],er]) (by simp[results,Tryz.results109,go_sem,r0,r1,r2,r3]) rfl ?_;exact HP.out
theorem S7{first nb k hh count g:Nat}{l:List Cy}{o:Cy}(hf:Gh first nb k hh l X.sz)(J:De first nb k hh l X.sz∈os)(hc:l.length=count)(Yf:Fm o)(gT:Ef o≠0)(NH:gB k o)
  (I:2*X.sz+DF DD.gw os<=X.rm)(qD:0<Cw X.sz (Ef o:Nat)):
  oz X (os++IC g X.p.w [AA AB first,AA AB nb,AA AB k,AA AB count] o) 109 (S9 g) (Ef o) (λl' os'=>os'=os++IC g X.p.w [AA AB first,AA AB nb,AA AB k,AA AB count] o/\l'=l.map (FM o))
   (λer os'=>os'=os++IC g X.p.w [AA AB first,AA AB nb,AA AB k,AA AB count] o/\(er=6/\¬X.cm\/er=5/\∀q,¬Rm X os q (Cu (Cw X.sz (Ef o:Nat)) count))) (nb+2*count+2) where
 ent:=λargs w=>by kernel_rfl
 call:=λzz m W h U hn=>by
  have Gu:DF DD.gw (os++IC g X.p.w [first,nb,k,count] o++zz)=DF DD.gw os:=by
   rw[DP,DP,D5 _ (En _ _ _ _),D5 _ U];rfl
  have ho:outL (K7 o) l count=l.map (FM o):=by rw[SB o l count a5,<-hc,B6]
  refine(oW h hf J hc Yf gT NH rfl (by rw[Gu];exact I) a5 qD).mono ?_;rw[ho];rintro e w' (⟨F,N,he,NI,hw⟩|⟨er,he,Di,IB,hw⟩)
  ·refine .inl ⟨F,N,_,_,_,he,NI,⟨rfl,rfl⟩,?_,hw⟩;have O:=NI.bn;have Q:=Dl (Cw X.sz (Ef o:Nat)) (l.map (FM o)).length;rw[Ai]at Q O;omega
  ·refine .inr ⟨er,_,_,he,Di,⟨rfl,?_⟩,a5,hw⟩;rcases IB with O|⟨O,Q⟩
   ·exact .inl O
   ·refine .inr ⟨O,λq hq=>Q q (GL (GL hq (En _ _ _ _)) U)⟩
end
structure RWk (s0 pw fi nb ct en:Nat) (W2:World) (Dh:Ending->World->Prop) (CA:World->Prop) (CB:Nat->Nat->Nat->Nat->Nat->Nat->World->Prop) (J:Nat->Nat->Nat->Nat->Nat->Nat->Nat->Nat->World->Prop)
  (G:Nat->Nat->Nat->Nat->Nat->Nat->Nat->Nat->Nat->Nat->Nat->Nat->Nat->World->Prop) (CE:Nat->Nat->Nat->Nat->Nat->Nat->Nat->Nat->Nat->List Value->World->Prop):Prop where
 h0:CA W2
 rA:∀w,CA w->Row w s0 28 [fi,nb,AA AB 3,ct]
 beg:∀w,CA w->Calls AP 65 #[AI pw,AL #[fi,nb,AA AB 3,ct],en] w λe w'=>∃F N K C op er:Nat,e=AH (AM #[AL #[F,N,K,C,op],er])/\CB F N K C op er w'
 xB:∀(F N K C op er:Nat) w,CB F N K C op er w->∃q,J w F N K C op er q (w.alloc (AK #[F,N,K,C,op] 125))
 rJ:∀gs F N K C op er q w,J gs F N K C op er q w->Row w gs 125 [F,N,K,C,op]/\Row w (s0+1) 28 [(),(),(),()]
 len:∀gs F N K C op q w,J gs F N K C op 0 q w->0<op->Calls AP 66 #[AI pw,AL #[F,N,K,C,op]] w λe w'=>∃F2 N2 K2 C2 Va er:Nat,e=AH (AM #[AL #[F2,N2,K2,C2,Va],er])/\G gs F N K C op F2 N2 K2 C2 Va er q w'
 rG:∀gs F N K C op F2 N2 K2 C2 Va er q w,G gs F N K C op F2 N2 K2 C2 Va er q w->Row w gs 125 [F,N,K,C,op]
 sG:∀(gs F N K C op F2 N2 K2 C2 Va er q:Nat) w,G gs F N K C op F2 N2 K2 C2 Va er q w->∃q',q'<q/\J gs F2 N2 K2 C2 Va er q' (((((w.setCell gs F2).setCell (gs,1) N2).setCell (gs,2) K2).setCell (gs,3) C2).setCell (gs,4) Va)
 eJ:∀gs F N K C op er q w,J gs F N K C op er q w->er≠0->Row ((((w.setCell (s0+1,0) ()).setCell (s0+1,1) ()).setCell (s0+1,2) ()).setCell (s0+1,3) ()) (s0+1) 28 [(),(),(),()]/\Dh (AH (AM #[AL #[(),(),(),()],er])) ((((w.setCell (s0+1,0) ()).setCell (s0+1,1) ()).setCell (s0+1,2) ()).setCell (s0+1,3) ())
 cut:∀gs F N K C q w,J gs F N K C 0 0 q w->Calls AP 68 #[AI pw,AL #[F,N,K,C],AL #[AA AB 1,AA AB 3,(),(),()]] w λe w'=>∃F2 N2 K2 C2 er:Nat,e=AH (AM #[AL #[F2,N2,K2,C2],er])/\CE F N K C F2 N2 K2 C2 er [(),(),(),()] w'
 rE:∀F N K C F2 N2 K2 C2 er cs w,CE F N K C F2 N2 K2 C2 er cs w->Row w (s0+1) 28 cs
 sE:∀(F N K C F2 N2 K2 C2 er:Nat) w,CE F N K C F2 N2 K2 C2 er [(),(),(),()] w->CE F N K C F2 N2 K2 C2 er [F2,N2,K2,C2] ((((w.setCell (s0+1,0) F2).setCell (s0+1,1) N2).setCell (s0+1,2) K2).setCell (s0+1,3) C2)
 fE:∀(F N K C F2 N2 K2 C2 er:Nat) u w,CE F N K C F2 N2 K2 C2 er [F2,N2,K2,C2] w->CallsD AP 67 #[AI pw,AL #[F,N,K,C]] u w λe u' w'=>u'=u/\(e=AH ()/\Row w' (s0+1) 28 [F2,N2,K2,C2]/\Dh (AH (AM #[AL #[F2,N2,K2,C2],er])) w')
theorem ZX{W:World}{s0 pw fi nb ct en:Nat}{W2 Dh CA CB J}
  {G}{CE}
  (hs0:s0=W)(I8:W2=(W.alloc (AK #[fi,nb,AA AB 3,ct] 28)).alloc (AK #[(),(),(),()] 28))(hW:RWk s0 pw fi nb ct en W2 Dh CA CB J G CE):
  Calls AP 38 #[AI pw,AL #[fi,nb,AA AB 3,ct],en] W Dh:=by
 have Q:=AO hW;have Tl:=AO hs0;have Lv:=AO I8;have U:=hW.rA _ hW.h0;obtain⟨a0,a1,a2,a3⟩:=U.q4;have HC:=AO (hW.beg _ hW.h0);clear hW hs0 I8 U;go_enter_defers func38,ntmps38
 go_upto_region 1 with(fail)
 rw[<-Lv.out,<-Tl.out];clear Lv;go_wp2_with fail
 refine HC.out.mono ?_;rintro e w3 ⟨F0,N0,K0,C0,ao,aq,rfl,h3⟩;obtain⟨q0,h4⟩:=Q.out.xB _ _ _ _ _ _ _ h3;have H0:=AO h4;clear h3 h4 HC a0 a1 a2 a3;go_upto_region 2 with(fail)
 generalize w3.alloc (AK #[F0,N0,K0,C0,ao] 125)=w4 at*
 generalize w3.heap.size=gs at*
 obtain⟨O,ab⟩:∃O:Value->Nat->World->Prop,∀s q w,O s q w↔∃F N K C op er:Nat,s=AA AB er/\J gs F N K C op er q w:=⟨_,λ_ _ _=>BO⟩;have xx:=AO ab;have al:Hid (O aq q0 w4):=(ab _ _ _).2 ⟨_,_,_,_,_,_,rfl,H0.out⟩;clear ab H0;go_loopw [9] (λs9 wr=>∃q:Nat,Hid (O s9 q wr)) (λs9 wr=>Ho λq=>O s9 q wr)
 case atStart=>exact⟨q0,al⟩
 case round=>
  obtain⟨q,hq⟩:=hrel;obtain⟨q1,Xg⟩:∃q1,q1=Ho λq=>O u9 q wr:=⟨_,rfl⟩;have HL:O u9 q1 wr:=by rw[Xg];exact(Fi (P:=λq=>O u9 q wr) hq.out).1
  obtain⟨F,N,K,C,op,er,hu,hJ⟩:=(xx.out _ _ _).1 HL;subst hu;have ad:=AO Xg;have HJ:=AO hJ;clear hq Xg HL hJ al;obtain⟨U,p2⟩:=Q.out.rJ _ _ _ _ _ _ _ _ _ HJ.out;obtain⟨a0,a1,a2,a3,a4⟩:=U.q5;obtain⟨z0,z1,z2,z3⟩:=p2.q4;obtain⟨f0,f1,f2,f3⟩:=p2.r4;clear U p2;by_cases he:er=0
  ·subst he;replace ad:Hid (q1=Ho λq=>O () q wr):=ad;simp only[Int.ofNat_zero];by_cases Yd:0<op
   ·have g1:decide ((op:Int)>0)=true:=by simp;omega
    have g2:decide (0<op)=true:=by simpa using Yd
    have Q7:=AO (Q.out.len _ _ _ _ _ _ _ _ HJ.out Yd);clear Yd z0 z1 z2 z3 f0 f1 f2 f3;go_wp2_with fail
    refine Q7.out.mono ?_;rintro e w5 ⟨F2,N2,K2,C2,Va,cV,rfl,h5⟩;obtain⟨q',ae,h6⟩:=Q.out.sG _ _ _ _ _ _ _ _ _ _ _ _ _ _ h5;have U:=Q.out.rG _ _ _ _ _ _ _ _ _ _ _ _ _ _ h5;have KM:=AO ae;have HP:=AO ((xx.out cV q' _).2 ⟨_,_,_,_,_,_,rfl,h6⟩);clear h5 h6 ae Q7 a0 a1 a2 a3 a4;obtain⟨a0,a1,a2,a3,a4⟩:=U.q5;obtain⟨f0,f1,f2,f3,f4⟩:=U.r5;clear U;go_wp2
    go_roundw
    case rel=>exact⟨_,HP⟩
    case measure=>
     refine Cg (Fi (P:=λq=>O cV q _) HP.out).2 ?_;have:=ad.out;have:=KM.out;omega
   ·have g1:decide ((op:Int)>0)=false:=by simp;omega
    have g2:decide (0<op)=false:=by simpa using Yd
    have h0:op=0:=a5;subst h0;simp only[Int.ofNat_zero]at a4;have an:=AO (Q.out.cut _ _ _ _ _ _ _ HJ.out);clear Yd z0 z1 z2 z3 f0 f1 f2 f3;go_wp2_with fail
    refine an.out.mono ?_;rintro e w5 ⟨F2,N2,K2,C2,cV,rfl,h5⟩;have p2:=Q.out.rE _ _ _ _ _ _ _ _ _ _ _ h5;have H9:=AO (Q.out.sE _ _ _ _ _ _ _ _ _ _ h5);clear h5 an a0 a1 a2 a3 a4;obtain⟨z0,z1,z2,z3⟩:=p2.q4;obtain⟨f0,f1,f2,f3⟩:=p2.r4;clear p2;go_wp2
    refine A6 (f:=67) (args:=#[AI pw,AL #[F,N,K,C]]) a8 (by simp[go_sem]) ?_;refine(Q.out.fE _ _ _ _ _ _ _ _ _ _ _ H9.out).mono ?_;rintro e u' w9 ⟨rfl,rfl,I,EA⟩;have k0:=I.cell 0;have k1:=I.cell 1;have k2:=I.cell 2;have k3:=I.cell 3;simp only[AX,AV]at k0 k1 k2 k3;exact⟨AM #[AL #[F2,N2,K2,C2],cV],by simp[results,Tryz.results38,go_sem,k0,k1,k2,k3],EA⟩
  ·have ar:¬(er:Int)=0:=a5;have g1:((er:Int)==0)=false:=by simp;omega
   obtain⟨I,EA⟩:=Q.out.eJ _ _ _ _ _ _ _ _ _ HJ.out he;have Eg:=AO I;have HP:=AO EA;clear he I EA;go_wp2
   have I:=Eg.out;have k0:=I.cell 0;have k1:=I.cell 1;have k2:=I.cell 2;have k3:=I.cell 3;simp only[AX,AV]at k0 k1 k2 k3;exact⟨AM #[AL #[(),(),(),()],er],by simp[results,Tryz.results38,go_sem,k0,k1,k2,k3],HP.out⟩
structure BWk (s0 pw fi nb ct d:Nat) (W2:World) (Dh:Ending->World->Prop) (CA:World->Prop) (CB:Nat->World->Prop) (CC:Nat->Nat->Nat->Nat->Nat->World->Prop) (CD:Nat->Nat->Nat->Nat->Nat->Nat->World->Prop)
  (CF:Nat->Nat->Nat->Nat->Nat->Nat->World->Prop) (CG:Nat->Nat->Nat->Nat->Nat->Nat->Nat->Nat->Nat->Nat->World->Prop) (CH:Nat->Nat->Nat->Nat->Nat->Nat->Nat->Nat->Nat->Nat->Nat->World->Prop)
  (CI:Nat->Nat->Nat->Nat->Nat->Nat->Nat->Nat->Nat->Nat->Nat->World->Prop) (CJ:Nat->Nat->Nat->Nat->Nat->Nat->Nat->Nat->Nat->Nat->Nat->Nat->Nat->Nat->World->Prop)
  (X1:Nat->Nat->Nat->Nat->Nat->World->Prop) (X2:Nat->Nat->Nat->Nat->Nat->Nat->Nat->Nat->Nat->World->Prop) (Y2:Nat->Nat->Nat->Nat->Nat->Nat->Nat->Nat->Nat->Nat->Nat->Nat->Nat->World->Prop):Prop where
 h0:CA W2
 rA:∀w,CA w->Row w s0 28 [fi,nb,AA AB 3,ct]
 GB:∀w,CA w->Calls AP 85 #[AI pw,AL #[fi,nb,AA AB 3,ct],AL #[AA AB 1,(),(),(),()]] w λe w'=>∃g,e=AH (.func (.func 109) #[] (S9 g))/\CB g w'
 sort:∀g w,CB g w->Calls AP 84 #[AI pw,.func (.func 109) #[] (S9 g),AL #[AA AB 1,(),(),(),()],true] w λe w'=>∃F N K L er:Nat,e=AH (AM #[AL #[F,N,K,L],er])/\CC F N K L er w'
 xC:∀(F N K L er:Nat) w,CC F N K L er w->CD w F N K L er (w.alloc (AK #[F,N,K,L] 28))
 rD:∀ge F N K L er w,CD ge F N K L er w->(Row w s0 28 [fi,nb,AA AB 3,ct]/\Row w ge 28 [F,N,K,L])/\Row w (s0+1) 125 [(),(),(),(),()]
 eD:∀(ge F N K L er:Nat) w,CD ge F N K L er w->er≠0->Row (((((w.setCell (s0+1,0) ()).setCell (s0+1,1) ()).setCell (s0+1,2) ()).setCell (s0+1,3) ()).setCell (s0+1,4) ()) (s0+1) 125 [(),(),(),(),()]/\Dh (AH (AM #[AL #[(),(),(),(),()],er])) (((((w.setCell (s0+1,0) ()).setCell (s0+1,1) ()).setCell (s0+1,2) ()).setCell (s0+1,3) ()).setCell (s0+1,4) ())
 lD:∀(ge F N K L:Nat) w,CD ge F N K L 0 w->L<ct->X1 F N K L 3 (((((w.setCell (s0+1,0) ()).setCell (s0+1,1) ()).setCell (s0+1,2) ()).setCell (s0+1,3) ()).setCell (s0+1,4) ())
 cuts2:∀ge F N K L w,CD ge F N K L 0 w->¬L<ct->Calls AP 85 #[AI pw,AL #[fi,nb,AA AB 3,ct],AL #[AA AB 2,AA AB 1,AA AB 3,(),()]] w λe w'=>∃g,e=AH (.func (.func 109) #[] (S9 g))/\CF g ge F N K L w'
 sort2:∀g ge F N K L w,CF g ge F N K L w->Calls AP 84 #[AI pw,.func (.func 109) #[] (S9 g),AL #[AA AB 1,(),(),(),()],false] w λe w'=>∃F2 N2 K2 L2 er:Nat,e=AH (AM #[AL #[F2,N2,K2,L2],er])/\CG ge F N K L F2 N2 K2 L2 er w'
 xG:∀(ge F N K L F2 N2 K2 L2 er:Nat) w,CG ge F N K L F2 N2 K2 L2 er w->CH ge w F N K L F2 N2 K2 L2 er (w.alloc (AK #[F2,N2,K2,L2] 28))
 rH:∀ge gk F N K L F2 N2 K2 L2 er w,CH ge gk F N K L F2 N2 K2 L2 er w->Row w gk 28 [F2,N2,K2,L2]/\Row w (s0+1) 125 [(),(),(),(),()]
 eH:∀ge gk F N K L F2 N2 K2 L2 er w,CH ge gk F N K L F2 N2 K2 L2 er w->er≠0->X1 F N K L er (((((w.setCell (s0+1,0) ()).setCell (s0+1,1) ()).setCell (s0+1,2) ()).setCell (s0+1,3) ()).setCell (s0+1,4) ())
 xH:∀ge gk F N K L F2 N2 K2 L2 w,CH ge gk F N K L F2 N2 K2 L2 0 w->CI ge gk w F N K L F2 N2 K2 L2 (w.alloc (AK #[(),(),(),(),()] 125))
 rI:∀ge gk gs F N K L F2 N2 K2 L2 w,CI ge gk gs F N K L F2 N2 K2 L2 w->Row w ge 28 [F,N,K,L]/\Row w gk 28 [F2,N2,K2,L2]
 mat:∀ge gk gs F N K L F2 N2 K2 L2 w,CI ge gk gs F N K L F2 N2 K2 L2 w->Calls AP 86 #[AI pw,AL #[F,N,K,L],(),AL #[F2,N2,K2,L2],.func (.func 87) #[] #[AI gs]] w λe w'=>∃F3 N3 K3 L3 n er:Nat,e=AH (AM #[AL #[F3,N3,K3,L3],er])/\Row w' gs 125 [(),(),(),(),n]/\
  (er=0->CJ gs F N K L F2 N2 K2 L2 F3 N3 K3 L3 n ((((w'.setCell gs F3).setCell (gs,1) N3).setCell (gs,2) K3).setCell (gs,3) L3))/\(er≠0->∀Eo,Eo=((((w'.setCell gs F3).setCell (gs,1) N3).setCell (gs,2) K3).setCell (gs,3) L3)->X2 F N K L F2 N2 K2 L2 er (((((Eo.setCell (s0+1,0) ()).setCell (s0+1,1) ()).setCell (s0+1,2) ()).setCell (s0+1,3) ()).setCell (s0+1,4) ())/\Row Eo (s0+1) 125 [(),(),(),(),()])
 rJ:∀gs F N K L F2 N2 K2 L2 F3 N3 K3 L3 n w,CJ gs F N K L F2 N2 K2 L2 F3 N3 K3 L3 n w->(Row w gs 125 [F3,N3,K3,L3,n]/\Row w s0 28 [fi,nb,AA AB 3,ct])/\Row w (s0+1) 125 [(),(),(),(),()]
 free:∀(gs F N K L F2 N2 K2 L2 F3 N3 K3 L3 n:Nat) w,CJ gs F N K L F2 N2 K2 L2 F3 N3 K3 L3 n w->n<d->Calls AP 67 #[AI pw,AL #[F3,N3,K3,L3]] w λe w'=>e=AH ()/\Row w' (s0+1) 125 [(),(),(),(),()]/\X2 F N K L F2 N2 K2 L2 3 (((((w'.setCell (s0+1,0) ()).setCell (s0+1,1) ()).setCell (s0+1,2) ()).setCell (s0+1,3) ()).setCell (s0+1,4) ())
 sJ:∀(gs F N K L F2 N2 K2 L2 F3 N3 K3 L3 n:Nat) w,CJ gs F N K L F2 N2 K2 L2 F3 N3 K3 L3 n w->¬n<d->Y2 F N K L F2 N2 K2 L2 F3 N3 K3 L3 n (((((w.setCell (s0+1,0) F3).setCell (s0+1,1) N3).setCell (s0+1,2) K3).setCell (s0+1,3) L3).setCell (s0+1,4) n)
 fX1:∀(F N K L er:Nat) u w,X1 F N K L er w->CallsD AP 67 #[AI pw,AL #[F,N,K,L]] u w λe u' w'=>u'=u/\(e=AH ()/\Row w' (s0+1) 125 [(),(),(),(),()]/\Dh (AH (AM #[AL #[(),(),(),(),()],er])) w')
 fX2:∀(F N K L F2 N2 K2 L2 er:Nat) u w,X2 F N K L F2 N2 K2 L2 er w->CallsD AP 67 #[AI pw,AL #[F2,N2,K2,L2]] u w λe u' w'=>u'=u/\(e=AH ()/\∀u2,CallsD AP 67 #[AI pw,AL #[F,N,K,L]] u2 w' λe u' Eo=>u'=u2/\(e=AH ()/\Row Eo (s0+1) 125 [(),(),(),(),()]/\Dh (AH (AM #[AL #[(),(),(),(),()],er])) Eo))
 fY2:∀(F N K L F2 N2 K2 L2 F3 N3 K3 L3 n:Nat) u w,Y2 F N K L F2 N2 K2 L2 F3 N3 K3 L3 n w->CallsD AP 67 #[AI pw,AL #[F2,N2,K2,L2]] u w λe u' w'=>u'=u/\(e=AH ()/\∀u2,CallsD AP 67 #[AI pw,AL #[F,N,K,L]] u2 w' λe u' Eo=>u'=u2/\(e=AH ()/\Row Eo (s0+1) 125 [F3,N3,K3,L3,n]/\Dh (AH (AM #[AL #[F3,N3,K3,L3,n],()])) Eo))
theorem aX{W:World}{s0 pw fi nb ct en d:Nat}{W2 Dh CA CB CC CD}
  {CF}{CG}{CH}
  {CI}{CJ}
  {X1}{X2}{Y2}
  (hs0:s0=W)(I8:W2=(W.alloc (AK #[fi,nb,AA AB 3,ct] 28)).alloc (AK #[(),(),(),(),()] 125))(ad:(ct:Int)-(en:Int)=(d:Int))(hd:d<=1000000)
  (hW:BWk s0 pw fi nb ct d W2 Dh CA CB CC CD CF CG CH CI CJ X1 X2 Y2):
  Calls AP 65 #[AI pw,AL #[fi,nb,AA AB 3,ct],en] W Dh:=by
 have O:=AO hW;have Tl:=AO hs0;have Lv:=AO I8;have QG:=AO hW.h0;have U:=hW.rA _ hW.h0;have RC:Ab.wrap ((ct:Int)-(en:Int))=(d:Int):=by rw[ad,BQ];omega
 obtain⟨a0,a1,a2,a3⟩:=U.q4;have HC:=AO (hW.GB _ hW.h0);clear hW hs0 I8 U;go_enter_defers func65,ntmps65
 go_upto_region 1 with(fail)
 rw[<-Lv.out,<-Tl.out];clear Lv;go_wp2_with fail
 refine HC.out.mono ?_;rintro e w3 ⟨g,rfl,h3⟩;have ao:=AO (O.out.sort _ _ h3);clear h3 HC QG a0 a1 a2 a3;go_wp2_with fail
 refine ao.out.mono ?_;rintro e w4 ⟨F,N,K,L,er,rfl,h4⟩;have HD:=AO (O.out.xC _ _ _ _ _ _ h4);clear h4 ao;go_upto_region 2 with(fail)
 generalize w4.alloc (AK #[F,N,K,L] 28)=w5 at*
 generalize w4.heap.size=ge at*
 obtain⟨⟨U,p2⟩,Q⟩:=O.out.rD _ _ _ _ _ _ _ HD.out;obtain⟨a0,a1,a2,a3⟩:=U.q4;obtain⟨b0,b1,b2,b3⟩:=p2.q4;obtain⟨z0,z1,z2,z3,z4⟩:=Q.q5;obtain⟨f0,f1,f2,f3,f4⟩:=Q.r5;clear U p2 Q;by_cases he:er=0
 ·subst he;simp only[Int.ofNat_zero];by_cases J:L<ct
  ·have g1:decide (L<ct)=true:=by simpa using J
   have H9:=AO (O.out.lD _ _ _ _ _ _ HD.out J);clear J HD;go_wp2
   refine A6 (f:=67) (args:=#[AI pw,AL #[F,N,K,L]]) a8 (by simp[go_sem]) ?_;refine(O.out.fX1 F N K L 3 _ _ H9.out).mono ?_;rintro e u' w9 ⟨rfl,rfl,I,EA⟩;have k0:=I.cell 0;have k1:=I.cell 1;have k2:=I.cell 2;have k3:=I.cell 3;have k4:=I.cell 4;simp only[AX,AV]at k0 k1 k2 k3 k4;exact⟨AM #[AL #[(),(),(),(),()],AA AB 3],by simp[results,Tryz.results65,go_sem,k0,k1,k2,k3,k4],EA⟩
  ·have g1:decide (L<ct)=false:=by simpa using J
   have HC:=AO (O.out.cuts2 _ _ _ _ _ _ HD.out J);clear J HD;go_wp2_with fail
   refine HC.out.mono ?_;rintro e w6 ⟨g',rfl,h6⟩;have an:=AO (O.out.sort2 _ _ _ _ _ _ _ h6);clear h6 HC a0 a1 a2 a3 b0 b1 b2 b3 z0 z1 z2 z3 z4 f0 f1 f2 f3 f4;go_wp2_with fail
   refine an.out.mono ?_;rintro e w7 ⟨F2,N2,K2,L2,cV,rfl,h7⟩;have HH:=AO (O.out.xG _ _ _ _ _ _ _ _ _ _ _ h7);clear h7 an;go_upto_region 8 with(fail)
   generalize w7.alloc (AK #[F2,N2,K2,L2] 28)=w8 at*
   generalize w7.heap.size=gk at*
   obtain⟨U,Q⟩:=O.out.rH _ _ _ _ _ _ _ _ _ _ _ _ HH.out;obtain⟨c0,c1,c2,c3⟩:=U.q4;obtain⟨z0,z1,z2,z3,z4⟩:=Q.q5;obtain⟨f0,f1,f2,f3,f4⟩:=Q.r5;clear U Q;by_cases tw:cV=0
   ·subst tw;simp only[Int.ofNat_zero];have HI:=AO (O.out.xH _ _ _ _ _ _ _ _ _ _ _ HH.out);clear HH;go_upto_region 12 with(fail)
    generalize w8.alloc (AK #[(),(),(),(),()] 125)=w9 at*
    generalize w8.heap.size=gs at*
    obtain⟨U,p2⟩:=O.out.rI _ _ _ _ _ _ _ _ _ _ _ _ HI.out;have HM:=AO (O.out.mat _ _ _ _ _ _ _ _ _ _ _ _ HI.out);clear c0 c1 c2 c3 z0 z1 z2 z3 z4 f0 f1 f2 f3 f4 HI;obtain⟨b0,b1,b2,b3⟩:=U.q4;obtain⟨c0,c1,c2,c3⟩:=p2.q4;clear U p2;go_wp2_with fail
    refine HM.out.mono ?_;rintro e Lf ⟨F3,N3,K3,L3,n,ab,rfl,U,hJ,hX⟩;have HJ:=AO hJ;have HX:=AO hX;obtain⟨y0,y1,y2,y3⟩:=U.q4;obtain⟨g0,g1,g2,g3⟩:=U.r4;clear U hJ hX HM b0 b1 b2 b3 c0 c1 c2 c3;go_upto_region 13 with(fail)
    generalize((((Lf.setCell gs F3).setCell (gs,1) N3).setCell (gs,2) K3).setCell (gs,3) L3)=aq at*
    clear y0 y1 y2 y3 g0 g1 g2 g3;by_cases ae:ab=0
    ·subst ae;simp only[Int.ofNat_zero];have HP:=AO (HJ.out rfl);clear HJ HX;obtain⟨⟨U,p2⟩,Q⟩:=O.out.rJ _ _ _ _ _ _ _ _ _ _ _ _ _ _ _ HP.out;obtain⟨y0,y1,y2,y3,y4⟩:=U.q5;obtain⟨a0,a1,a2,a3⟩:=p2.q4;by_cases J:n<d
     ·have g1:decide (n<d)=true:=by simpa using J
      have QF:=AO (O.out.free _ _ _ _ _ _ _ _ _ _ _ _ _ _ _ HP.out J);clear J U p2 Q;go_wp2_with fail
      refine QF.out.mono ?_;rintro e Iu ⟨rfl,Q,h9⟩;have H9:=AO h9;clear h9 QF y0 y1 y2 y3 y4 a0 a1 a2 a3;obtain⟨z0,z1,z2,z3,z4⟩:=Q.q5;obtain⟨f0,f1,f2,f3,f4⟩:=Q.r5;clear Q;go_wp2
      refine A6 (f:=67) (args:=#[AI pw,AL #[F2,N2,K2,L2]]) a8 (by simp[go_sem]) ?_;refine(O.out.fX2 F N K L F2 N2 K2 L2 3 _ _ H9.out).mono ?_;rintro e u' w8 ⟨rfl,rfl,Fl⟩;refine A6 (f:=67) (args:=#[AI pw,AL #[F,N,K,L]]) (by simp[settle]) (by simp[go_sem]) ?_;refine(Fl _).mono ?_;rintro e u' w9 ⟨rfl,rfl,I,EA⟩;have k0:=I.cell 0;have k1:=I.cell 1;have k2:=I.cell 2;have k3:=I.cell 3;have k4:=I.cell 4;simp only[AX,AV]at k0 k1 k2 k3 k4;exact⟨AM #[AL #[(),(),(),(),()],AA AB 3],by simp[results,Tryz.results65,go_sem,k0,k1,k2,k3,k4],EA⟩
     ·have g1:decide (n<d)=false:=by simpa using J
      have H9:=AO (O.out.sJ _ _ _ _ _ _ _ _ _ _ _ _ _ _ _ HP.out J);clear J;obtain⟨z0,z1,z2,z3,z4⟩:=Q.q5;obtain⟨f0,f1,f2,f3,f4⟩:=Q.r5;clear U p2 Q;go_wp2
      refine A6 (f:=67) (args:=#[AI pw,AL #[F2,N2,K2,L2]]) a8 (by simp[go_sem]) ?_;refine(O.out.fY2 F N K L F2 N2 K2 L2 F3 N3 K3 L3 n _ _ H9.out).mono ?_;rintro e u' w8 ⟨rfl,rfl,Fl⟩;refine A6 (f:=67) (args:=#[AI pw,AL #[F,N,K,L]]) (by simp[settle]) (by simp[go_sem]) ?_;refine(Fl _).mono ?_;rintro e u' w9 ⟨rfl,rfl,I,EA⟩;have k0:=I.cell 0;have k1:=I.cell 1;have k2:=I.cell 2;have k3:=I.cell 3;have k4:=I.cell 4;simp only[AX,AV]at k0 k1 k2 k3 k4;exact⟨AM #[AL #[F3,N3,K3,L3,n],()],by simp[results,Tryz.results65,go_sem,k0,k1,k2,k3,k4],EA⟩
    ·have al:¬(ab:Int)=0:=a5;obtain⟨h9,Q⟩:=HX.out ae _ rfl;have H9:=AO h9;clear HJ HX h9 ae;obtain⟨z0,z1,z2,z3,z4⟩:=Q.q5;obtain⟨f0,f1,f2,f3,f4⟩:=Q.r5;clear Q;go_wp2
     refine A6 (f:=67) (args:=#[AI pw,AL #[F2,N2,K2,L2]]) a8 (by simp[go_sem]) ?_;refine(O.out.fX2 F N K L F2 N2 K2 L2 ab _ _ H9.out).mono ?_;rintro e u' w8 ⟨rfl,rfl,Fl⟩;refine A6 (f:=67) (args:=#[AI pw,AL #[F,N,K,L]]) (by simp[settle]) (by simp[go_sem]) ?_;refine(Fl _).mono ?_;rintro e u' w9 ⟨rfl,rfl,I,EA⟩;have k0:=I.cell 0;have k1:=I.cell 1;have k2:=I.cell 2;have k3:=I.cell 3;have k4:=I.cell 4;simp only[AX,AV]at k0 k1 k2 k3 k4;exact⟨AM #[AL #[(),(),(),(),()],ab],by simp[results,Tryz.results65,go_sem,k0,k1,k2,k3,k4],EA⟩
   ·have al:¬(cV:Int)=0:=a5;have H9:=AO (O.out.eH _ _ _ _ _ _ _ _ _ _ _ _ HH.out tw);clear HH tw;go_wp2
    refine A6 (f:=67) (args:=#[AI pw,AL #[F,N,K,L]]) a8 (by simp[go_sem]) ?_;refine(O.out.fX1 F N K L cV _ _ H9.out).mono ?_;rintro e u' w9 ⟨rfl,rfl,I,EA⟩;have k0:=I.cell 0;have k1:=I.cell 1;have k2:=I.cell 2;have k3:=I.cell 3;have k4:=I.cell 4;simp only[AX,AV]at k0 k1 k2 k3 k4;exact⟨AM #[AL #[(),(),(),(),()],cV],by simp[results,Tryz.results65,go_sem,k0,k1,k2,k3,k4],EA⟩
 ·have al:¬(er:Int)=0:=a5;obtain⟨I,EA⟩:=O.out.eD _ _ _ _ _ _ _ HD.out he;have Eg:=AO I;have HP:=AO EA;clear HD he I EA;go_wp2
  have I:=Eg.out;have k0:=I.cell 0;have k1:=I.cell 1;have k2:=I.cell 2;have k3:=I.cell 3;have k4:=I.cell 4;simp only[AX,AV]at k0 k1 k2 k3 k4;exact⟨AM #[AL #[(),(),(),(),()],er],by simp[results,Tryz.results65,go_sem,k0,k1,k2,k3,k4],HP.out⟩
structure LWk (s0 pw fb nb cb op:Nat) (W3:World) (Dh:Ending->World->Prop) (CA:Option Nat->World->Prop) (CB:Nat->Option Nat->World->Prop) (CC:Option Nat->Nat->Nat->Nat->Nat->Nat->World->Prop) (CD:Nat->Nat->Nat->Nat->Nat->Nat->World->Prop)
  (X1:Nat->World->Prop) (CE:Nat->Nat->Nat->Nat->Nat->Nat->World->Prop) (CF CG:Nat->Nat->Nat->Nat->Nat->Nat->Nat->Nat->Nat->Nat->Nat->World->Prop) (X2:Nat->Nat->Nat->Nat->Nat->World->Prop) (Y2:Nat->Nat->Nat->Nat->Nat->Nat->Nat->Nat->Nat->World->Prop):Prop where
 h0:CA AD W3
 dA:∀u w,CA u w->CA u w.drew
 xA:∀w,CA AD w->CA (AE w) (w.alloc (AK #[(),(),(),()] 28))
 rA:∀u w,CA u w->Row w s0 23 [AI pw]/\Row w (s0+1) 125 [fb,nb,AA AB 3,cb,op]
 GB:∀u w,CA u w->Calls AP 85 #[AI pw,AL #[fb,nb,AA AB 3,cb],AL #[AA AB 1,AA AB 2,AA AB 3,(),()]] w λe w'=>∃g,e=AH (.func (.func 109) #[] (S9 g))/\CB g u w'
 xB:∀g w,CB g AD w->CB g (AE w) (w.alloc (AK #[(),(),(),()] 28))
 rB:∀g u w,CB g u w->Row w s0 23 [AI pw]/\Row w (s0+1) 125 [fb,nb,AA AB 3,cb,op]
 sort:∀g u w,CB g u w->Calls AP 84 #[AI pw,.func (.func 109) #[] (S9 g),AL #[AA AB 2,(),(),(),()],false] w λe w'=>∃F N K L er:Nat,e=AH (AM #[AL #[F,N,K,L],er])/\CC u F N K L er w'
 rC:∀u F N K L er w,CC u F N K L er w->Row w s0 23 [AI pw]/\Row w (s0+1) 125 [fb,nb,AA AB 3,cb,op]
 rC6:∀g6 F N K L er w,CC (AE g6) F N K L er w->Row w g6 28 [(),(),(),()]/\s0≠g6/\s0+1≠g6
 xC:∀(F N K L er:Nat) w,CC AD F N K L er w->CD w F N K L er (w.alloc (AK #[F,N,K,L] 28))
 xC6:∀(g6 F N K L er:Nat) w,CC (AE g6) F N K L er w->CD g6 F N K L er ((((w.setCell g6 F).setCell (g6,1) N).setCell (g6,2) K).setCell (g6,3) L)
 rD:∀g6 F N K L er w,CD g6 F N K L er w->Row w s0 23 [AI pw]/\Row w g6 28 [F,N,K,L]/\Row w (s0+2) 125 [(),(),(),(),()]
 eD:∀g6 F N K L er w,CD g6 F N K L er w->er≠0->X1 er (((((w.setCell (s0+2,0) ()).setCell (s0+2,1) ()).setCell (s0+2,2) ()).setCell (s0+2,3) ()).setCell (s0+2,4) ())
 fX1:∀(er:Nat) u w,X1 er w->CallsD AP 67 #[AI pw,AL #[fb,nb,AA AB 3,cb]] u w λe u' w'=>u'=u/\(e=AH ()/\Row w' (s0+2) 125 [(),(),(),(),()]/\Dh (AH (AM #[AL #[(),(),(),(),()],er])) w')
 xD:∀g6 F N K L w,CD g6 F N K L 0 w->CE g6 w F N K L (w.alloc (AK #[(),(),(),(),()] 125))
 rE:∀g6 gl F N K L w,CE g6 gl F N K L w->Row w s0 23 [AI pw]
 sort2:∀g6 gl F N K L w,CE g6 gl F N K L w->Calls AP 84 #[AI pw,.func (.func 88) #[] #[AI s0,AI g6,AI (s0+1,0),AI gl],AL #[AA AB 1,(),(),(),()],false] w λe w'=>∃F2 N2 K2 L2 n er:Nat,e=AH (AM #[AL #[F2,N2,K2,L2],er])/\CF g6 gl F N K L F2 N2 K2 L2 n w'/\(er=0->CG g6 gl F N K L F2 N2 K2 L2 n ((((w'.setCell gl F2).setCell (gl,1) N2).setCell (gl,2) K2).setCell (gl,3) L2))/\(er≠0->∀Eo,Eo=((((w'.setCell gl F2).setCell (gl,1) N2).setCell (gl,2) K2).setCell (gl,3) L2)->X2 F N K L er (((((Eo.setCell (s0+2,0) ()).setCell (s0+2,1) ()).setCell (s0+2,2) ()).setCell (s0+2,3) ()).setCell (s0+2,4) ())/\Row Eo (s0+2) 125 [(),(),(),(),()])
 rF:∀g6 gl F N K L F2 N2 K2 L2 n w,CF g6 gl F N K L F2 N2 K2 L2 n w->Row w gl 125 [(),(),(),(),n]
 rG:∀g6 gl F N K L F2 N2 K2 L2 n w,CG g6 gl F N K L F2 N2 K2 L2 n w->(Row w gl 125 [F2,N2,K2,L2,n]/\Row w (s0+1) 125 [fb,nb,AA AB 3,cb,op])/\Row w s0 23 [AI pw]/\Row w (s0+2) 125 [(),(),(),(),()]
 free:∀(g6 gl F N K L F2 N2 K2 L2 n:Nat) w,CG g6 gl F N K L F2 N2 K2 L2 n w->n=op->Calls AP 67 #[AI pw,AL #[F2,N2,K2,L2]] w λe w'=>e=AH ()/\Row w' (s0+2) 125 [(),(),(),(),()]/\X2 F N K L 3 (((((w'.setCell (s0+2,0) ()).setCell (s0+2,1) ()).setCell (s0+2,2) ()).setCell (s0+2,3) ()).setCell (s0+2,4) ())
 sG:∀(g6 gl F N K L F2 N2 K2 L2 n:Nat) w,CG g6 gl F N K L F2 N2 K2 L2 n w->n≠op->Y2 F N K L F2 N2 K2 L2 n (((((w.setCell (s0+2,0) F2).setCell (s0+2,1) N2).setCell (s0+2,2) K2).setCell (s0+2,3) L2).setCell (s0+2,4) n)
 fX2:∀(F N K L er:Nat) u w,X2 F N K L er w->CallsD AP 67 #[AI pw,AL #[F,N,K,L]] u w λe u' w'=>u'=u/\(e=AH ()/\∀u2,CallsD AP 67 #[AI pw,AL #[fb,nb,AA AB 3,cb]] u2 w' λe u' Eo=>u'=u2/\(e=AH ()/\Row Eo (s0+2) 125 [(),(),(),(),()]/\Dh (AH (AM #[AL #[(),(),(),(),()],er])) Eo))
 fY2:∀(F N K L F2 N2 K2 L2 n:Nat) u w,Y2 F N K L F2 N2 K2 L2 n w->CallsD AP 67 #[AI pw,AL #[F,N,K,L]] u w λe u' w'=>u'=u/\(e=AH ()/\∀u2,CallsD AP 67 #[AI pw,AL #[fb,nb,AA AB 3,cb]] u2 w' λe u' Eo=>u'=u2/\(e=AH ()/\Row Eo (s0+2) 125 [F2,N2,K2,L2,n]/\Dh (AH (AM #[AL #[F2,N2,K2,L2,n],()])) Eo))
theorem mF{W:World}{s0 pw fb nb cb op:Nat}{W3 Dh CA CB CC CD}
  {X1}{CE}{CF CG}{X2}{Y2}
  (hs0:s0=W)(Ky:W3=((W.alloc (AK #[AI pw] 23)).alloc (AK #[fb,nb,AA AB 3,cb,op] 125)).alloc (AK #[(),(),(),(),()] 125))
  (hW:LWk s0 pw fb nb cb op W3 Dh CA CB CC CD X1 CE CF CG X2 Y2):
  Calls AP 66 #[AI pw,AL #[fb,nb,AA AB 3,cb,op]] W Dh:=by
 have Q:=AO hW;have Tl:=AO hs0;have Jz:=AO Ky;have Nv:∀w,Row w s0 23 [AI pw]/\Row w (s0+1) 125 [fb,nb,AA AB 3,cb,op]->w.cell? s0=AE (AI pw)/\w.cell? (s0+1,0)=AE (AA AB fb)/\w.cell? (s0+1,1)=AE (AA AB nb)/\w.cell? (s0+1,2)=AE (AA AB 3)/\w.cell? (s0+1,3)=AE (AA AB cb):=λw ⟨U,O⟩=>⟨U.cell 0,O.cell 0,O.cell 1,O.cell 2,O.cell 3⟩;have qY:Hid (∀g u w,CB g u w->w.cell? s0=AE (AI pw)/\w.cell? (s0+1,0)=AE (AA AB fb)/\w.cell? (s0+1,1)=AE (AA AB nb)/\w.cell? (s0+1,2)=AE (AA AB 3)/\w.cell? (s0+1,3)=AE (AA AB cb)):=λg u w q=>Nv w (hW.rB g u w q);have al:Hid (∀g u w,CB g u w->∀o,(w.alloc o).cell? s0=AE (AI pw)/\(w.alloc o).cell? (s0+1,0)=AE (AA AB fb)/\(w.alloc o).cell? (s0+1,1)=AE (AA AB nb)/\(w.alloc o).cell? (s0+1,2)=AE (AA AB 3)/\(w.alloc o).cell? (s0+1,3)=AE (AA AB cb)):=λg u w q o=>by
  obtain⟨U,O⟩:=hW.rB g u w q;exact Nv _ ⟨U.alloc o,O.alloc o⟩
 have ae:Hid (∀u F N K L er w,CC u F N K L er w->w.cell? s0=AE (AI pw)/\w.cell? (s0+1,0)=AE (AA AB fb)/\w.cell? (s0+1,1)=AE (AA AB nb)/\w.cell? (s0+1,2)=AE (AA AB 3)/\w.cell? (s0+1,3)=AE (AA AB cb)):=λu F N K L er w q=>Nv w (hW.rC u F N K L er w q);have ad:Hid (∀u F N K L er w,CC u F N K L er w->∀o,(w.alloc o).cell? s0=AE (AI pw)/\(w.alloc o).cell? (s0+1,0)=AE (AA AB fb)/\(w.alloc o).cell? (s0+1,1)=AE (AA AB nb)/\(w.alloc o).cell? (s0+1,2)=AE (AA AB 3)/\(w.alloc o).cell? (s0+1,3)=AE (AA AB cb)):=λu F N K L er w q o=>by
  obtain⟨U,O⟩:=hW.rC u F N K L er w q;exact Nv _ ⟨U.alloc o,O.alloc o⟩
 have vH:Hid (∀(I F N K L er:Nat) w,CC (AE I) F N K L er w->((((w.setCell I F).setCell (I,1) N).setCell (I,2) K).setCell (I,3) L).cell? s0=AE (AI pw)/\((((w.setCell I F).setCell (I,1) N).setCell (I,2) K).setCell (I,3) L).cell? (s0+1,0)=AE (AA AB fb)/\((((w.setCell I F).setCell (I,1) N).setCell (I,2) K).setCell (I,3) L).cell? (s0+1,1)=AE (AA AB nb)/\((((w.setCell I F).setCell (I,1) N).setCell (I,2) K).setCell (I,3) L).cell? (s0+1,2)=AE (AA AB 3)/\((((w.setCell I F).setCell (I,1) N).setCell (I,2) K).setCell (I,3) L).cell? (s0+1,3)=AE (AA AB cb)):=λI F N K L er w q=>by
  obtain⟨U,O⟩:=hW.rC _ F N K L er w q;obtain⟨_,RF,PR⟩:=hW.rC6 I F N K L er w q;exact Nv _ ⟨(((U.E4 RF _).E4 RF _).E4 RF _).E4 RF _,(((O.E4 PR _).E4 PR _).E4 PR _).E4 PR _⟩
 have HZ:Hid (∀I F N K L er w,CC (AE I) F N K L er w->(w.cell? I=AE (AA AB 0)/\w.cell? (I,1)=AE (AA AB 0)/\w.cell? (I,2)=AE (AA AB 0)/\w.cell? (I,3)=AE (AA AB 0))/\w.frozen? I=false/\w.frozen? (I,1)=false/\w.frozen? (I,2)=false/\w.frozen? (I,3)=false):=λI F N K L er w q=>by
  obtain⟨k,_,_⟩:=hW.rC6 I F N K L er w q;exact⟨⟨k.cell 0,k.cell 1,k.cell 2,k.cell 3⟩,k.free 0,k.free 1,k.free 2,k.free 3⟩
 have uH:=hW.dA _ _ hW.h0;have Tz:=hW.dA _ _ (hW.xA _ hW.h0);have q0:W3.drew.cell? s0=AE (AI pw)/\W3.drew.cell? (s0+1,0)=AE (AA AB fb)/\W3.drew.cell? (s0+1,1)=AE (AA AB nb)/\W3.drew.cell? (s0+1,2)=AE (AA AB 3)/\W3.drew.cell? (s0+1,3)=AE (AA AB cb):=Nv _ (hW.rA _ _ uH);have q1:(W3.alloc (AK #[(),(),(),()] 28)).drew.cell? s0=AE (AI pw)/\(W3.alloc (AK #[(),(),(),()] 28)).drew.cell? (s0+1,0)=AE (AA AB fb)/\(W3.alloc (AK #[(),(),(),()] 28)).drew.cell? (s0+1,1)=AE (AA AB nb)/\(W3.alloc (AK #[(),(),(),()] 28)).drew.cell? (s0+1,2)=AE (AA AB 3)/\(W3.alloc (AK #[(),(),(),()] 28)).drew.cell? (s0+1,3)=AE (AA AB cb):=Nv _ (hW.rA _ _ Tz);have QG:=AO uH;have WG:=AO Tz;obtain⟨p1,p2⟩:=hW.rA _ _ hW.h0;obtain⟨s6,cE⟩:=ao W3.heap.size;rw[cE]at WG;have a0:W3.cell? s0=AE (AI pw):=p1.cell 0;obtain⟨b0,b1,b2,b3,b4⟩:=p2.q5;clear hW hs0 Ky p1 p2 Nv uH Tz;go_enter_defers func66,ntmps66
 go_upto_region 1 with(fail)
 rw[<-Jz.out,<-Tl.out];clear Jz;simp only[B8,Cd];go_upto_region 2 with(fail)
 go_cut [6,7]from 12 to 22 (λaq s7 wx=>∃I F N K L er:Nat,aq=AI I/\s7=AA AB er/\Hid (CD I F N K L er wx))
 case first=>
  go_region_held3 (λw=>w.cell? s0=AE (AI pw)/\w.cell? (s0+1,0)=AE (AA AB fb)/\w.cell? (s0+1,1)=AE (AA AB nb)/\w.cell? (s0+1,2)=AE (AA AB 3)/\w.cell? (s0+1,3)=AE (AA AB cb)) (first|with_reducible exact q0|with_reducible exact q1|with_reducible exact q2|with_reducible exact q3 _|with_reducible exact q5|with_reducible exact q6 _|with_reducible exact q8)
   (first
    |(go_at_call 85;(with_reducible refine(Q.out.GB _ _ QG.out).mono ?_);rintro e w4 ⟨g,rfl,h4⟩;have an:=Q.out.xB _ _ h4;have q2:=qY.out _ _ _ h4;have q3:=al.out _ _ _ h4)
    |(go_at_call 85;(with_reducible refine(Q.out.GB _ _ WG.out).mono ?_);rintro e w4 ⟨g,rfl,h4⟩;have an:=h4;have q2:=qY.out _ _ _ h4;have q3:=al.out _ _ _ h4)
    |(go_at_call 84;(with_reducible refine(Q.out.sort _ AD _ h4).mono ?_);rintro e w5 ⟨F,N,K,L,er,rfl,h5⟩;have q5:=ae.out _ _ _ _ _ _ _ h5;have q6:=ad.out _ _ _ _ _ _ _ h5;have q8:=q5)
    |(go_at_call 84;(with_reducible refine(Q.out.sort _ (AE _) _ an).mono ?_);rintro e w5 ⟨F,N,K,L,er,rfl,h5⟩;have q5:=ae.out _ _ _ _ _ _ _ h5;have q6:=ad.out _ _ _ _ _ _ _ h5;have q8:=vH.out _ _ _ _ _ _ _ h5;obtain⟨⟨z0,z1,z2,z3⟩,f0,f1,f2,f3⟩:=HZ.out _ _ _ _ _ _ _ h5))
  all_goals
   go_wp2_with fail
   go_meet
   first
    |exact⟨_,F,N,K,L,er,rfl,rfl,Q.out.xC _ _ _ _ _ _ h5⟩
    |exact⟨_,F,N,K,L,er,rfl,rfl,Q.out.xC6 _ _ _ _ _ _ _ h5⟩
 case rest=>
  obtain⟨I,F,N,K,L,er,rfl,rfl,hD⟩:=hcut;have HD:=AO hD.out;clear hD q0 q1 QG WG qY al ae ad vH HZ a0 b0 b1 b2 b3 b4;obtain⟨p1,p3,p4⟩:=Q.out.rD _ _ _ _ _ _ _ HD.out;have a0:wc.cell? s0=AE (AI pw):=p1.cell 0;obtain⟨c0,c1,c2,c3⟩:=p3.q4;obtain⟨z0,z1,z2,z3,z4⟩:=p4.q5;obtain⟨f0,f1,f2,f3,f4⟩:=p4.r5;clear p1 p3 p4;by_cases he:er=0
  ·subst he;have HE:=AO (Q.out.xD _ _ _ _ _ _ HD.out);clear HD;simp only[Int.ofNat_zero];go_upto_region 7 with(fail)
   generalize wc.alloc (AK #[(),(),(),(),()] 125)=w4 at*
   generalize wc.heap.size=gl at*
   have p1:=Q.out.rE _ _ _ _ _ _ _ HE.out;have a1:w4.cell? s0=AE (AI pw):=p1.cell 0;have HS:=AO (Q.out.sort2 _ _ _ _ _ _ _ HE.out);clear p1 HE a0 c0 c1 c2 c3 z0 z1 z2 z3 z4 f0 f1 f2 f3 f4;go_wp2_with fail
   refine HS.out.mono ?_;rintro e w5 ⟨F2,N2,K2,L2,n,cV,rfl,hF,hG,hX⟩;have p1:=Q.out.rF _ _ _ _ _ _ _ _ _ _ _ _ hF;have HG:=AO hG;have HX:=AO hX;obtain⟨y0,y1,y2,y3⟩:=p1.q4;obtain⟨g0,g1,g2,g3⟩:=p1.r4;clear p1 hF hG hX HS a1;go_upto_region 8 with(fail)
   generalize((((w5.setCell gl F2).setCell (gl,1) N2).setCell (gl,2) K2).setCell (gl,3) L2)=w6 at*
   clear y0 y1 y2 y3 g0 g1 g2 g3;by_cases tw:cV=0
   ·subst tw;have HP:=AO (HG.out rfl);clear HG HX;obtain⟨⟨p1,p2⟩,p3,p4⟩:=Q.out.rG _ _ _ _ _ _ _ _ _ _ _ _ HP.out;simp only[Int.ofNat_zero];obtain⟨y0,y1,y2,y3,y4⟩:=p1.q5;obtain⟨b0,b1,b2,b3,b4⟩:=p2.q5;have a0:w6.cell? s0=AE (AI pw):=p3.cell 0;by_cases ab:n=op
    ·have g9:((n:Int)==(op:Int))=true:=by simp[ab]
     have QF:=AO (Q.out.free _ _ _ _ _ _ _ _ _ _ _ _ HP.out ab);clear ab p1 p2 p3 p4;go_wp2_with fail
     refine QF.out.mono ?_;rintro e w7 ⟨rfl,p4,h9⟩;have H9:=AO h9;clear h9 QF y0 y1 y2 y3 y4 b0 b1 b2 b3 b4 a0;obtain⟨z0,z1,z2,z3,z4⟩:=p4.q5;obtain⟨f0,f1,f2,f3,f4⟩:=p4.r5;clear p4;go_wp2
     refine A6 (f:=67) (args:=#[AI pw,AL #[F,N,K,L]]) a8 (by simp[go_sem]) ?_;refine(Q.out.fX2 F N K L 3 _ _ H9.out).mono ?_;rintro e u' w8 ⟨rfl,rfl,Fl⟩;refine A6 (f:=67) (args:=#[AI pw,AL #[fb,nb,AA AB 3,cb]]) (by simp[settle]) (by simp[go_sem]) ?_;refine(Fl _).mono ?_;rintro e u' w9 ⟨rfl,rfl,J,EA⟩;have k0:=J.cell 0;have U:=J.cell 1;have O:=J.cell 2;have k3:=J.cell 3;have k4:=J.cell 4;simp only[AX,AV]at k0 U O k3 k4;exact⟨AM #[AL #[(),(),(),(),()],AA AB 3],by simp[results,Tryz.results66,go_sem,k0,U,O,k3,k4],EA⟩
    ·have g9:((n:Int)==(op:Int))=false:=by
      have:(n:Int)≠(op:Int):=a5;simpa using this
     have H9:=AO (Q.out.sG _ _ _ _ _ _ _ _ _ _ _ _ HP.out ab);clear ab;obtain⟨z0,z1,z2,z3,z4⟩:=p4.q5;obtain⟨f0,f1,f2,f3,f4⟩:=p4.r5;clear p1 p2 p3 p4;go_wp2
     refine A6 (f:=67) (args:=#[AI pw,AL #[F,N,K,L]]) a8 (by simp[go_sem]) ?_;refine(Q.out.fY2 F N K L F2 N2 K2 L2 n _ _ H9.out).mono ?_;rintro e u' w8 ⟨rfl,rfl,Fl⟩;refine A6 (f:=67) (args:=#[AI pw,AL #[fb,nb,AA AB 3,cb]]) (by simp[settle]) (by simp[go_sem]) ?_;refine(Fl _).mono ?_;rintro e u' w9 ⟨rfl,rfl,J,EA⟩;have k0:=J.cell 0;have U:=J.cell 1;have O:=J.cell 2;have k3:=J.cell 3;have k4:=J.cell 4;simp only[AX,AV]at k0 U O k3 k4;exact⟨AM #[AL #[F2,N2,K2,L2,n],()],by simp[results,Tryz.results66,go_sem,k0,U,O,k3,k4],EA⟩
   ·have ar:¬(cV:Int)=0:=a5;obtain⟨h9,p4⟩:=HX.out tw _ rfl;have H9:=AO h9;clear HG HX h9 tw;obtain⟨z0,z1,z2,z3,z4⟩:=p4.q5;obtain⟨f0,f1,f2,f3,f4⟩:=p4.r5;clear p4;go_wp2
    refine A6 (f:=67) (args:=#[AI pw,AL #[F,N,K,L]]) a8 (by simp[go_sem]) ?_;refine(Q.out.fX2 F N K L cV _ _ H9.out).mono ?_;rintro e u' w8 ⟨rfl,rfl,Fl⟩;refine A6 (f:=67) (args:=#[AI pw,AL #[fb,nb,AA AB 3,cb]]) (by simp[settle]) (by simp[go_sem]) ?_;refine(Fl _).mono ?_;rintro e u' w9 ⟨rfl,rfl,J,EA⟩;have k0:=J.cell 0;have U:=J.cell 1;have O:=J.cell 2;have k3:=J.cell 3;have k4:=J.cell 4;simp only[AX,AV]at k0 U O k3 k4;exact⟨AM #[AL #[(),(),(),(),()],cV],by simp[results,Tryz.results66,go_sem,k0,U,O,k3,k4],EA⟩
  ·have ar:¬(er:Int)=0:=a5;have H9:=AO (Q.out.eD _ _ _ _ _ _ _ HD.out he);clear HD he;go_wp2
   refine A6 (f:=67) (args:=#[AI pw,AL #[fb,nb,AA AB 3,cb]]) a8 (by simp[go_sem]) ?_;refine(Q.out.fX1 er _ _ H9.out).mono ?_;rintro e u' w9 ⟨rfl,rfl,J,EA⟩;have k0:=J.cell 0;have U:=J.cell 1;have O:=J.cell 2;have k3:=J.cell 3;have k4:=J.cell 4;simp only[AX,AV]at k0 U O k3 k4;exact⟨AM #[AL #[(),(),(),(),()],er],by simp[results,Tryz.results66,go_sem,k0,U,O,k3,k4],EA⟩
def dU(l:List Cy)(x:Int):Prop:=∀u∈l,u.b≠x
structure DR (l:List Cy):Prop where
 a0:∀t∈l,0<=t.a
 b0:∀t∈l,-1<=t.b
 nd:∀(i j:Nat) (t u:Cy),l[i]?=AE t->l[j]?=AE u->t.a=u.a->i=j
 sc:∀t∈l,0<=t.b->∃u∈l,u.a=t.b
 ij:∀(i j:Nat) (t u:Cy),l[i]?=AE t->l[j]?=AE u->t.b=u.b->0<=t.b->i=j
inductive Rk (l:List Cy):Nat->Int->Int->Prop
 |first {t:Cy}:t∈l->dU l t.a->Rk l 0 t.a 0
 |next {t:Cy} {n:Nat} {r:Int}:t∈l->Rk l n t.a r->0<=t.b->Rk l (n+1) t.b (Ab.wrap (r+t.c))
section
variable{l:List Cy}
theorem DR.kj(h:DR l){t u}(J:t∈l)(hu:u∈l)(e:t.a=u.a):t=u:=by
 obtain⟨i,hi⟩:=Ax.1 J;obtain⟨j,I⟩:=Ax.1 hu;have:=h.nd i j t u hi I e;subst this;rw[hi]at I;injection I
theorem DR.ZO(h:DR l){t u}(J:t∈l)(hu:u∈l)(e:t.b=u.b)(O:0<=t.b):t=u:=by
 obtain⟨i,hi⟩:=Ax.1 J;obtain⟨j,I⟩:=Ax.1 hu;have:=h.ij i j t u hi I e O;subst this;rw[hi]at I;injection I
theorem Rk.lp(h:DR l):∀{n m} {x y r s},Rk l n x r->Rk l m y s->x=y->n=m/\r=s:=by
 intro n
 induction n with
 |zero=>
  intro m x y r s J I e
  cases J with
  |first ht hf=>
   cases I with
   |first hu _=>exact⟨rfl,rfl⟩
   |next hu _ _=>exact absurd e.symm (hf _ hu)
 |succ n ih=>
  intro m x y r s J I e
  cases J with
  |next ht hr h0=>
   cases I with
   |first hu hf=>exact absurd e (hf _ ht)
   |next hu EC h02=>
    have:=h.ZO ht hu e h0;subst this;obtain⟨Q,O⟩:=ih hr EC rfl;subst Q O;exact⟨rfl,rfl⟩
theorem Rk.only(h:DR l){n m}{x r s}(I:Rk l n x r)(e:Rk l m x s):n=m/\r=s:=Rk.lp h I e rfl
theorem Rk.mem(h:DR l){n}{x r}(e:Rk l n x r):∃t∈l,t.a=x:=by
 cases e with
 |first ht _=>exact⟨_,ht,rfl⟩
 |next ht _ h0=>exact h.sc _ ht h0
structure Gx (l out:List Cy):Prop where
 rk:∀u∈out,(∃n,Rk l n u.a u.b)/\u.c=0/\u.d=0/\u.e=0
 up:out.Pairwise λu v=>u.a<v.a
 len:out.length=l.length
theorem Mu:∀(A B:List Int),A.Nodup->(∀x∈A,x∈B)->B.length<=A.length->∀x∈B,x∈A
 |[],B,_,_,h,x,hx=>by
  have:B=[]:=List.length_eq_zero_iff.1 (by simpa using h);rw[this]at hx;cases hx
 |a::A,B,hn,hs,h,x,hx=>by
  have O:a∈B:=hs a Az;have Q:=List.length_erase_of_mem O;have U:0<B.length:=List.length_pos_of_mem O;by_cases I:x=a
  ·subst I;exact Az
  ·refine BD _ (Mu A (B.erase a) (CK.1 hn).2 (λy J=>?_) ?_ x ((List.mem_erase_of_ne I).2 hx))
   ·have:y≠a:=λe=>(CK.1 hn).1 (e▸J);exact(List.mem_erase_of_ne this).2 (hs y (BD _ J))
   ·simp only[BW]at h;omega
theorem Je{out:List Cy}(h:out.Pairwise λu v=>u.a<v.a):(out.map (·.a)).Nodup:=
 List.pairwise_map.2 (h.imp λ{u v} I e=>by have e:u.a=v.a:=e;omega)
theorem Gx.all(h:DR l){out}(J:Gx l out):∀t∈l,∃u∈out,u.a=t.a:=λt I=>by
 have:=Mu (out.map (·.a)) (l.map (·.a)) (Je J.up) (λx O=>by
  obtain⟨u,hu,rfl⟩:=Av.1 O;obtain⟨⟨n,Q⟩,_⟩:=J.rk u hu;obtain⟨t,I,e⟩:=Q.mem h;exact Av.2 ⟨t,I,e⟩) (by rw[Ai,Ai,J.len];exact AQ _) t.a (Av.2 ⟨t,I,rfl⟩)
 obtain⟨u,hu,e⟩:=Av.1 this;exact⟨u,hu,e⟩
theorem bL:∀(A B:List Cy),A.Pairwise (λu v=>u.a<v.a)->B.Pairwise (λu v=>u.a<v.a)->(∀u,u∈A↔u∈B)->A=B
 |[],[],_,_,_=>rfl
 |[],b::B,_,_,h=>by have:=(h b).2 Az;cases this
 |a::A,[],_,_,h=>by have:=(h a).1 Az;cases this
 |a::A,b::B,hA,hB,h=>by
  rw[List.pairwise_cons]at hA hB;have O:a=b:=by
   rcases A8.1 ((h a).1 Az)with e|I
   ·exact e
   ·rcases A8.1 ((h b).2 Az)with e|J
    ·exact e.symm
    ·have:=hA.1 b J;have:=hB.1 a I;omega
  subst O;rw[bL A B hA.2 hB.2 λu=>?_];refine⟨λhu=>?_,λhu=>?_⟩
  ·rcases A8.1 ((h u).1 (BD _ hu))with e|I
   ·subst e;have:=hA.1 u hu;omega
   ·exact I
  ·rcases A8.1 ((h u).2 (BD _ hu))with e|I
   ·subst e;have:=hB.1 u hu;omega
   ·exact I
theorem Gx.only(h:DR l){A B}(J:Gx l A)(I:Gx l B):A=B:=by
 have key:∀(A B:List Cy),Gx l A->Gx l B->∀u,u∈A->u∈B:=λA B J I u hu=>by
  obtain⟨⟨n,U⟩,h1,h2,h3⟩:=J.rk u hu;obtain⟨t,ht,e⟩:=U.mem h;obtain⟨v,O,e2⟩:=I.all h t ht;obtain⟨⟨m,Q⟩,k1,k2,k3⟩:=I.rk v O;have e3:v.a=u.a:=by rw[e2,e]
  rw[e3]at Q;obtain⟨_,e4⟩:=Rk.only h U Q;have:u=v:=by
   cases u;cases v
   simp only at*
   subst e3 e4 h1 h2 h3 k1 k2 k3;rfl
  rw[this];exact O
 exact bL A B J.up I.up λu=>⟨key A B J I u,key B A I J u⟩
end
def GJ(l:List Cy):Prop:=DR l/\∀t∈l,∃n r,Rk l n t.a r
theorem Gx.ZY{l out}(h:DR l)(J:Gx l out):GJ l:=⟨h,λt O=>by
 obtain⟨u,hu,e⟩:=J.all h t O;obtain⟨⟨n,I⟩,_⟩:=J.rk u hu;rw[e]at I;exact⟨n,_,I⟩⟩
structure yE (l:List Cy) (id:Nat->Int):Prop where
 inj:∀i j,i<l.length->j<l.length->id i=id j->i=j
 pos:∀i,i<l.length->0<=id i
 a:∀(i:Nat) (t:Cy),l[i]?=AE t->t.a=id i
 b:∀(i:Nat) (t:Cy),l[i]?=AE t->t.b=-1\/(i+1<l.length/\t.b=id (i+1))
section
variable{l:List Cy}{id:Nat->Int}
theorem I4{i t}(h:l[i]?=AE t):i<l.length:=by
 rcases Ak i l.length with e|e
 ·exact e
 ·rw[BG e]at h;cases h
theorem yE.lists(h:yE l id):DR l:=by
 refine⟨λt I=>?_,λt I=>?_,λi j t u hi O e=>?_,λt I h0=>?_,λi j t u hi O e h0=>?_⟩
 ·obtain⟨i,hi⟩:=Ax.1 I;rw[h.a i t hi];exact h.pos i (I4 hi)
 ·obtain⟨i,hi⟩:=Ax.1 I;rcases h.b i t hi with e|⟨J,e⟩
  ·omega
  ·have:=h.pos _ J;omega
 ·rw[h.a i t hi,h.a j u O]at e;exact h.inj i j (I4 hi) (I4 O) e
 ·obtain⟨i,hi⟩:=Ax.1 I;rcases h.b i t hi with e|⟨J,e⟩
  ·omega
  ·have Q:=AU J;exact⟨l[i+1],Ae Q,by rw[h.a _ _ Q,e]⟩
 ·rcases h.b i t hi with e1|⟨J,e1⟩
  ·omega
  ·rcases h.b j u O with U|⟨Q,U⟩
   ·omega
   ·have:=h.inj _ _ J Q (by rw[<-e1,<-U];exact e);omega
theorem yE.rk(h:yE l id):∀i,i<l.length->∃n r,Rk l n (id i) r
 |0,h0=>by
  have J:=AU h0;refine⟨0,0,?_⟩;rw[<-h.a 0 _ J];refine .first (Ae J) λu hu e=>?_;obtain⟨j,I⟩:=Ax.1 hu;rw[h.a 0 _ J]at e;rcases h.b j u I with Q|⟨O,Q⟩
  ·have:=h.pos 0 h0;omega
  ·have:=h.inj _ _ O h0 (by rw[<-Q];exact e);omega
 |i+1,O=>by
  have J:=AU O;have h3:=AU (show i<l.length by omega);rcases h.b i _ h3 with e|⟨_,e⟩
  ·refine⟨0,0,?_⟩;rw[<-h.a (i+1) _ J];refine .first (Ae J) λu hu e2=>?_;obtain⟨j,I⟩:=Ax.1 hu;rw[h.a _ _ J]at e2;rcases h.b j u I with Q|⟨h4,Q⟩
   ·have:=h.pos _ O;omega
   ·have h5:=h.inj _ _ h4 O (by rw[<-Q];exact e2);obtain rfl:j=i:=a5;rw[h3]at I;injection I with I
    rw[I]at e;have:=h.pos _ O;omega
  ·obtain⟨n,r,U⟩:=yE.rk h i a5;rw[<-h.a i _ h3]at U;rw[<-e];exact⟨n+1,_,.next (Ae h3) U (by rw[e];exact h.pos _ O)⟩
theorem yE.ZY(h:yE l id):GJ l:=⟨h.lists,λt I=>by
 obtain⟨i,hi⟩:=Ax.1 I;obtain⟨n,r,e⟩:=h.rk i (I4 hi);rw[<-h.a i t hi]at e;exact⟨n,r,e⟩⟩
theorem DR.KN{l m}{f:Nat->Nat}(hl:m.length=l.length)(hf:∀i,i<l.length->f i<l.length/\m[i]?=l[f i]?)(Q:∀i j,i<l.length->j<l.length->f i=f j->i=j)(U:∀t,t∈l->t∈m)(h:DR l):DR m:=by
 have hm:∀t,t∈m->t∈l:=λt I=>by
  obtain⟨i,hi⟩:=Ax.1 I;have:=I4 hi;rw[(hf i a5).2]at hi;exact Ae hi
 refine⟨λt I=>h.a0 t (hm t I),λt I=>h.b0 t (hm t I),λi j t u hi J e=>?_,λt I O=>?_,λi j t u hi J e O=>?_⟩
 ·have h1:=I4 hi;have h2:=I4 J;rw[(hf i a5).2]at hi;rw[(hf j a5).2]at J;exact Q i j a5 a5 (h.nd _ _ t u hi J e)
 ·obtain⟨u,hu,e⟩:=h.sc t (hm t I) O;exact⟨u,U u hu,e⟩
 ·have h1:=I4 hi;have h2:=I4 J;rw[(hf i a5).2]at hi;rw[(hf j a5).2]at J;exact Q i j a5 a5 (h.ij _ _ t u hi J e O)
theorem Rk.KN{l m}(e:∀t,t∈l↔t∈m){n}{x r}(h:Rk l n x r):Rk m n x r:=by
 induction h with
 |first ht hf=>exact .first ((e _).1 ht) λu hu=>hf u ((e u).2 hu)
 |next ht _ h0 ih=>exact .next ((e _).1 ht) ih h0
theorem Gx.KN{l m out}(J:m.length=l.length)(e:∀t,t∈l↔t∈m)(h:Gx l out):Gx m out:=
 ⟨λu hu=>by
  obtain⟨⟨n,I⟩,O⟩:=h.rk u hu;exact⟨⟨n,I.KN e⟩,O⟩,h.up,by rw[J];exact h.len⟩
end
end Go.Proofs.YthfnbpjegjbbiaaGreat
