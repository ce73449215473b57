/- What the laws stand on. -/
import Derived.Test.YthfnbpjegjbbiaaGreatQC
namespace Go.Proofs.YthfnbpjegjbbiaaGreat
set_option linter.unusedVariables false
set_option linter.unusedSimpArgs false
set_option maxRecDepth 100000
set_option maxHeartbeats 8000000
open Go.ChangeShapes Go.WideShapes Go.ChangeAt Go.RowKit
open Go.Joins Go.Deep
open Go.ChangeShapes Go.WideShapes Go.ChangeAt Go.RowKit Go.Maps
open Go.ChangeMaps (setBlock heap_setBlock_same heap_setBlock_other)
open Go.Value renaming pointer → AI
open Go.Value renaming int → AA
open Go.IntKind renaming i64 → AB
open Option renaming some → AE
open Option renaming none → AD
open Lib renaming hid → AG
open Go.Ending renaming returned → AH
open Go.Value renaming slice → AJ
open Go.Obj renaming cells → AK
open Go.Value renaming agg → AL
open Go.Value renaming tuple → AM
open Go.Lib renaming hid → AO
open Go.Proofs.Tryz renaming prog → AP, underlying101 → Ad, underlying116 → Be, results139 → Cc
open Nat renaming le_refl → AQ, mul_le_mul_right → Af, le_trans → Ag, lt_or_ge → Ak, zero_le → Ao, sub_self → As, add_mul → A7, eq_zero_or_pos → BB, one_mul → BH, zero_add → BM, lt_of_lt_of_le → BN, add_sub_cancel → BV, div_le_self → BX, min_eq_left → Bi, add_assoc → B8, mod_lt → CM, mul_comm → CS, lt_trichotomy → CW, zero_mul → CY, min → CZ, reduceAdd → Cd, div_mul_le_self → Cf, lt_of_le_of_lt → Cg, mul_one → Cm, add_sub_cancel_left → Cq
open List renaming append_assoc → AR, getD_eq_getElem?_getD → AT, getElem?_eq_getElem → AU, getElem?_cons_succ → AV, getElem?_append_right → AW, getElem?_cons_zero → AX, append_nil → AY, length_take → AZ, length_append → Aa, mem_of_getElem? → Ae, mem_append → Ah, length_map → Ai, getElem?_append_left → Aj, set_append_right → Ap, length_drop → Aq, getElem?_take → At, mem_map → Av, getElem?_set → Aw, mem_iff_getElem? → Ax, take_of_length_le → Ay, mem_cons_self → Az, mem_cons → A8, replicate → BC, mem_cons_of_mem → BD, getElem?_eq_none → BG, getElem?_eq_some_iff → BI, nil_append → BL, getElem_of_mem → BP, take_append_drop → BS, length_cons → BW, getElem?_drop → Bc, filter_append → Bd, length_set → Bg, pairwise_iff_getElem → Bh, take_add_one → Bj, getElem?_map → Bk, range → Bo, mem_singleton → Bp, take_zero → Bs, drop_eq_getElem_cons → Bv, mem_of_mem_take → Bw, take_length → B6, set_cons_succ → B7, nodup_cons → CK, mem_filter → CL, take_take → CN, getElem_mem → CO, cons_append → CQ, take_append_of_le_length → Ca, findIdx_le_length → Ck, map_append → Cn, drop_zero → Cr, drop_drop → Cs
open Go.RowKit.Below renaming refl → AS, trans → CR, size → CU, mono → CV
open Go.IntKind renaming i64 → Ab, wrap_i64 → BQ
open Go renaming cell_regrown → Ac, leaves_cons → A6, bodyPost_ret → BA, FrameMode → Bf, wp_region_quiet_below → By, run_underlying → Bz, below_regrown → B0
open Go.IntWalk renaming i64_in → Al
open Go.Sort renaming grow → An
open Go.RowKit renaming intOf → BF
open Iff renaming rfl → BO
open Go.Result renaming andThen → BU
open Int renaming toNat_natCast → BY, natCast_mul → Br, lt_trichotomy → Co
open Go.Value renaming int → BZ, ownBlock → Bq
open Go.Calls renaming regrown_of → Ba
open Go.Builtin renaming zeroCells → Bb
open Go.World.ownsRow renaming frozenAt → Bl, stored → Ct
open Go.Addr renaming add_lit → Bm, add → Cj
open Go.Ending renaming returned → Bn
open And renaming intro → Bt
open Go.Sem renaming run → Bu
open Go.Instr renaming index → CX
open Classical renaming byContradiction → Cb
open List.Perm renaming append_left → Ce, refl → Ci
open Go.Lit renaming int → Cp
open Go.Proofs.Tryz
open Nat.le renaming refl → ar
theorem T8(a b c:Int):Ab.wrap (Ab.wrap (a+b)+c)=Ab.wrap (a+Ab.wrap (b+c)):=by
 rw[BQ,BQ,BQ,BQ];omega
theorem wrap_wrap(a:Int):Ab.wrap (Ab.wrap a)=Ab.wrap a:=by
 rw[BQ,BQ];omega
theorem wrap_zero:Ab.wrap 0=0:=by rw[BQ];omega
theorem qj{c}(h:Gj c):Ab.wrap c=c:=by
 have:=h.bounds;rw[BQ];omega
inductive WW (l:List Cy):Nat->Int->Int->Int->Prop
 |nil {x:Int}:WW l 0 x x 0
 |next {t:Cy} {n:Nat} {y s:Int}:t∈l->WW l n y t.a s->0<=t.b->WW l (n+1) y t.b (Ab.wrap (s+t.c))
theorem GZ:∀(A B:List Int),A.Nodup->(∀x∈A,x∈B)->A.length<=B.length
 |[],B,_,_=>by simp
 |a::A,B,hn,hs=>by
  have J:a∈B:=hs a Az;have O:=List.length_erase_of_mem J;have Q:0<B.length:=List.length_pos_of_mem J;have:=GZ A (B.erase a) (CK.1 hn).2 λy I=>by
   have:y≠a:=λe=>(CK.1 hn).1 (e▸I);exact(List.mem_erase_of_ne this).2 (hs y (BD _ I))
  simp only[BW];omega
theorem SG:∀(B A:List Int),A.Nodup->(∀x∈A,x∈B)->B.length<=A.length->B.Nodup
 |[],_,_,_,_=>List.nodup_nil
 |b::B,A,hn,hs,hl=>by
  have O:b∉B:=λhb=>by
   have:=GZ A B hn λx I=>by
    rcases A8.1 (hs x I)with e|e
    ·exact e▸hb
    ·exact e
   simp only[BW]at hl;omega
  refine CK.2 ⟨O,SG B (A.erase b) (hn.erase b) (λx I=>?_) ?_⟩
  ·have J:=(List.Nodup.mem_erase_iff hn).1 I;exact(A8.1 (hs x J.2)).resolve_left J.1
  ·have:=List.length_erase (a:=b) (l:=A);simp only[BW]at hl
   split at this<;>omega
section
variable{l:List Cy}
theorem WW.wr{n y x s}(h:WW l n y x s):Ab.wrap s=s:=by
 cases h with
 |nil=>exact wrap_zero
 |next=>exact wrap_wrap _
theorem Rk.wr{n x r}(h:Rk l n x r):Ab.wrap r=r:=by
 cases h with
 |first=>exact wrap_zero
 |next=>exact wrap_wrap _
theorem WW.add{n m y x z s s'}(e:WW l n y x s)(I:WW l m x z s'):WW l (n+m) y z (Ab.wrap (s+s')):=by
 induction I with
 |nil=>rw[Int.add_zero,e.wr];exact e
 |next ht _ h0 ih=>
  rw[<-T8];exact .next ht (ih e) h0
theorem Rk.add{n m y z r s}(e:Rk l m y r)(I:WW l n y z s):Rk l (m+n) z (Ab.wrap (r+s)):=by
 induction I with
 |nil=>rw[Int.add_zero,e.wr];exact e
 |next ht _ h0 ih=>
  rw[<-T8];exact .next ht (ih e) h0
theorem WW.one{t}(e:t∈l)(J:0<=t.b)(I:Gj t.c):WW l 1 t.a t.b t.c:=by
 have:=WW.next e (.nil (l:=l)) J;rwa [Int.zero_add,qj I]at this
theorem WW.AO2{n y x s}(h:WW l n y x s):0<n->∃t∈l,t.a=y:=by
 induction h with
 |nil=>intro h;omega
 |@next t n y s ht h1 _ ih=>
  intro _
  cases n with
  |zero=>cases h1;exact⟨t,ht,rfl⟩
  |succ n=>exact ih a5
theorem Rk.back(J:DR l){n}{y x s}(h:WW l n y x s):∀{m} {r},Rk l m x r->n<=m/\∃r',Rk l (m-n) y r':=by
 induction h with
 |nil=>intro m r e;exact⟨Ao _,r,e⟩
 |@next t n y s ht _ hb ih=>
  intro m r e;generalize I:t.b=z at e
  cases e with
  |first hu hf=>exact absurd I (hf t ht)
  |@next u m' r' hu hr' hb'=>
   have:=J.ZO ht hu I hb;subst this;obtain⟨Q,O⟩:=ih hr';refine⟨a5,?_⟩;rwa [show m'+1-(n+1)=m'-n by omega]
theorem Rk.at_{m x r}(h:Rk l m x r):∀k,k<=m->∃y s,Rk l k y s:=by
 induction h with
 |first ht hf=>
  intro k I;obtain rfl:k=0:=a5;exact⟨_,_,.first ht hf⟩
 |@next t n r ht hr hb ih=>
  intro k I;rcases Ak n k with e|e
  ·obtain rfl:k=n+1:=a5;exact⟨_,_,.next ht hr hb⟩
  ·exact ih k e
theorem Rk.AE0(h0:DR l){m}{x r}(h:Rk l m x r):∃L:List Int,L.length=m+1/\L.Nodup/\∀y∈L,∃k s,k<=m/\Rk l k y s:=by
 induction h with
 |@first t ht hf=>exact⟨[t.a],rfl,CK.2 ⟨a8,List.nodup_nil⟩,λy I=>by
   simp at I;subst I;exact⟨0,0,AQ _,.first ht hf⟩⟩
 |@next t n r ht hr hb Q=>
  obtain⟨L,h1,h2,h3⟩:=Q;have O:Rk l (n+1) t.b (Ab.wrap (r+t.c)):=.next ht hr hb;refine⟨t.b::L,by rw[BW,h1],CK.2 ⟨λhm=>?_,h2⟩,λy I=>?_⟩
  ·obtain⟨k,s,U,J⟩:=h3 _ hm;have:=(Rk.only h0 J O).1;omega
  ·rcases A8.1 I with e|e
   ·subst e;exact⟨n+1,_,AQ _,O⟩
   ·obtain⟨k,s,U,J⟩:=h3 _ e;exact⟨k,s,a5,J⟩
theorem Rk.lt(I:DR l){m}{x r}(h:Rk l m x r):m<l.length:=by
 obtain⟨L,h1,U,h3⟩:=h.AE0 I;have:=GZ L (l.map (·.a)) U λy J=>by
  obtain⟨k,s,_,Q⟩:=h3 y J;obtain⟨t,O,e⟩:=Q.mem I;exact Av.2 ⟨t,O,e⟩
 rw[Ai]at this;omega
def LK(S:List Cy)(x:Int):Option Cy:=S.find? λu=>decide (u.a=x)
theorem Ko{S x v}(h:LK S x=AE v):v∈S/\v.a=x:=by
 have I:=List.mem_of_find?_eq_some h;have e:=List.find?_some h;exact⟨I,by simpa using e⟩
theorem Oc{S x}(h:LK S x=AD):∀v∈S,v.a≠x:=λv I e=>by
 have:=(List.find?_eq_none.1 h) v I;simp[e]at this
structure Sm (l:List Cy) (k:Nat) (S:List Cy):Prop where
 up:S.Pairwise λu v=>u.a<v.a
 len:S.length=l.length
 el:∀u∈S,∃t∈l,t.a=u.a
 cl:∀u∈S,u.b=-1->∃m,m<2^k/\Rk l m u.a u.c
 op:∀u∈S,u.b≠-1->WW l (2^k) u.b u.a u.c
def ZZ(u:Cy):Bool:=decide (u.b≠-1)
def PO(S:List Cy):Nat:=S.countP ZZ
section
variable{k:Nat}{S S':List Cy}
theorem Sm.all(h:Sm l k S):∀t∈l,∃u∈S,u.a=t.a:=λt I=>by
 have:=Mu (S.map (·.a)) (l.map (·.a)) (Je h.up) (λx J=>by
  obtain⟨u,hu,rfl⟩:=Av.1 J;obtain⟨t,I,e⟩:=h.el u hu;exact Av.2 ⟨t,I,e⟩) (by rw[Ai,Ai,h.len];exact AQ _) t.a (Av.2 ⟨t,I,rfl⟩)
 obtain⟨u,hu,e⟩:=Av.1 this;exact⟨u,hu,e⟩
theorem Sm.pos(Q:DR l)(h:Sm l k S){u}(hu:u∈S)(O:u.b≠-1):∃v∈S,v.a=u.b/\0<=u.b:=by
 obtain⟨t,I,e⟩:=(h.op u hu O).AO2 (Nat.pow_pos a5);obtain⟨v,J,U⟩:=h.all t I;exact⟨v,J,by rw[U,e],by have:=Q.a0 t I;omega⟩
def lenT(S:List Cy)(t:Cy):Cy:=match LK S t.b with
 |some v=>⟨t.a,v.b,Ab.wrap (v.c+t.c),0,0⟩
 |none=>t
def gO(S:List Cy)(t:Cy):Bool:=match LK S t.b with
 |some v=>decide (v.b≠-1)
 |none=>false
theorem mG(S:List Cy)(t:Cy):(lenT S t).a=t.a:=by
 unfold lenT;split<;>rfl
theorem Sm.AK5(O:DR l)(h:Sm l k S){t}(J:t∈S):gO S t=ZZ (lenT S t):=by
 unfold gO lenT ZZ
 cases e:LK S t.b with
 |some v=>rfl
 |none=>
  have hb:t.b=-1:=Cb λhb=>by
   obtain⟨v,I,Q,_⟩:=h.pos O J hb;exact Oc e v I Q
  simp[hb]
theorem KX{α β:Type}(f:α->β)(p:β->Bool)(q:α->Bool):∀(A:List α),(∀y∈A,q y=p (f y))->(A.map f).countP p=A.countP q
 |[],_=>rfl
 |a::A,h=>by
  rw[List.map_cons,List.countP_cons,List.countP_cons,KX f p q A (λx e=>h x (BD _ e)),h a Az]
theorem Sm.count(J:DR l)(h:Sm l k S){A:List Cy}(I:A.Perm S):A.countP (gO S)=PO (A.map (lenT S)):=
 (KX _ _ _ A λ_ e=>h.AK5 J (I.mem_iff.1 e)).symm
theorem AD9{S:List Cy}(h:S.Pairwise λu v=>u.a<=v.a)(I:(S.map (·.a)).Nodup):S.Pairwise λu v=>u.a<v.a:=by
 have:=h.and (List.pairwise_map.1 I);exact this.imp λ{u v} ⟨J,e⟩=>by
  have e:u.a≠v.a:=e;omega
theorem Sm.step(h0:DR l)(h:Sm l k S){A:List Cy}(hA:A.Perm S)(hs:S'.Pairwise λu v=>u.a<=v.a)(hc:S'.Perm (A.map (lenT S))):Sm l (k+1) S':=by
 have I:∀u∈S',∃t∈S,u=lenT S t:=λu hu=>by
  obtain⟨t,J,e⟩:=Av.1 (hc.mem_iff.1 hu);exact⟨t,hA.mem_iff.1 J,e.symm⟩
 have wO:(S'.map (·.a)).Nodup:=by
  have h1:(S'.map (·.a)).Perm (S.map (·.a)):=by
   have h2:=hc.map (·.a);rw[List.map_map]at h2;have h3:A.map ((λu:Cy=>u.a)∘lenT S)=A.map (·.a):=List.map_congr_left λt _=>mG S t;rw[h3]at h2;exact h2.trans (hA.map _)
  exact h1.nodup_iff.2 (Je h.up)
 have ab:2^(k+1)=2^k+2^k:=by rw[Nat.pow_succ];omega
 refine⟨AD9 hs wO,by rw[hc.length_eq,Ai,hA.length_eq,h.len],λu hu=>?_,λu hu hb=>?_,λu hu hb=>?_⟩
 ·obtain⟨t,J,rfl⟩:=I u hu;rw[mG];exact h.el t J
 ·obtain⟨t,J,rfl⟩:=I u hu;unfold lenT at hb⊢
  cases e:LK S t.b with
  |none=>
   rw[e]at hb;obtain⟨m,h1,h2⟩:=h.cl t J hb;exact⟨m,a5,h2⟩
  |some v=>
   rw[e]at hb;obtain⟨Q,O⟩:=Ko e;obtain⟨m,h1,h2⟩:=h.cl v Q hb;have U:t.b≠-1:=λe1=>by
    obtain⟨t',Yc,e2⟩:=h.el v Q;have:=h0.a0 t' Yc;omega
   have h3:=h.op t J U;rw[<-O]at h3;exact⟨m+2^k,a5,h2.add h3⟩
 ·obtain⟨t,J,rfl⟩:=I u hu;unfold lenT at hb⊢
  cases e:LK S t.b with
  |none=>
   rw[e]at hb;obtain⟨v,Q,e2,_⟩:=h.pos h0 J hb;exact absurd e2 (Oc e v Q)
  |some v=>
   rw[e]at hb;obtain⟨Q,O⟩:=Ko e;have U:t.b≠-1:=λe1=>by
    obtain⟨t',Yc,e2⟩:=h.el v Q;have:=h0.a0 t' Yc;omega
   have h3:=h.op t J U;rw[<-O]at h3;rw[ab];exact(h.op v Q hb).add h3
def WQ(S:List Cy):List Int:=(S.filter ZZ).map (·.a)
theorem KE(S:List Cy):(WQ S).length=PO S:=by unfold WQ PO;rw[Ai,List.countP_eq_length_filter]
theorem Ph{S}(h:S.Pairwise λu v=>u.a<v.a):(WQ S).Nodup:=Je (h.filter _)
theorem Im{S x}:x∈WQ S↔∃u∈S,u.b≠-1/\u.a=x:=by
 unfold WQ;rw[Av];constructor
 ·rintro⟨u,hu,e⟩;have:=CL.1 hu;exact⟨u,this.1,by simpa [ZZ]using this.2,e⟩
 ·rintro⟨u,hu,hb,e⟩;exact⟨u,CL.2 ⟨hu,by simp[ZZ,hb]⟩,e⟩
theorem Sm.less(hr:GJ l)(h:Sm l k S)(h':Sm l (k+1) S')(ho:0<PO S):PO S'<PO S:=by
 have U:=hr.1;have ae:2^(k+1)=2^k+2^k:=by rw[Nat.pow_succ];omega
 have hp:0<2^k:=Nat.pow_pos a5;have rk:∀{S:List Cy} {k:Nat},Sm l k S->∀u∈S,∃n r,Rk l n u.a r:=λh u hu=>by
  obtain⟨t,ht,e⟩:=h.el u hu;rw[<-e];exact hr.2 t ht
 obtain⟨u0,Zt,ad⟩:∃u∈S,u.b≠-1:=by
  have:0<(WQ S).length:=by rw[KE];exact ho
  obtain⟨x,I⟩:=List.exists_mem_of_length_pos this;obtain⟨u,hu,hb,_⟩:=Im.1 I;exact⟨u,hu,hb⟩
 obtain⟨m0,r0,O⟩:=rk h u0 Zt;have hle:=(Rk.back U (h.op u0 Zt ad) O).1;obtain⟨y,s,hy⟩:=O.at_ (2^k) hle;obtain⟨t,ht,et⟩:=hy.mem U;obtain⟨u1,qH,e1⟩:=h.all t ht;have Dg:u1.b≠-1:=λhb=>by
  obtain⟨m,hm,Q⟩:=h.cl u1 qH hb;rw[e1,et]at Q;have:=(Rk.only U Q hy).1;omega
 have ab:y∉WQ S':=λhm=>by
  obtain⟨u,hu,hb,e⟩:=Im.1 hm;have h1:=h'.op u hu hb;rw[e]at h1;have:=(Rk.back U h1 hy).1;omega
 have J:∀x∈y::WQ S',x∈WQ S:=λx I=>by
  rcases A8.1 I with rfl|I
  ·exact Im.2 ⟨u1,qH,Dg,by rw[e1,et]⟩
  ·obtain⟨u,hu,hb,e⟩:=Im.1 I;obtain⟨t2,Tf,e2⟩:=h'.el u hu;obtain⟨v,hv,e3⟩:=h.all t2 Tf;refine Im.2 ⟨v,hv,λhc=>?_,by rw[e3,e2,e]⟩;obtain⟨m,hm,Q⟩:=h.cl v hv hc;rw[e3,e2]at Q;have:=(Rk.back U (h'.op u hu hb) Q).1;omega
 have:=GZ (y::WQ S') (WQ S) (CK.2 ⟨ab,Ph h'.up⟩) J;rw[BW,KE,KE]at this;omega
theorem Sm.bound(h0:DR l)(h:Sm l k S)(h':Sm l (k+1) S')(ho:PO S'<PO S):2^k<l.length:=by
 have:∃x∈WQ S,x∉WQ S':=Cb λJ=>by
  have:=GZ (WQ S) (WQ S') (Ph h.up) λx I=>Cb λh1=>J ⟨x,I,h1⟩;rw[KE,KE]at this;omega
 obtain⟨x,I,J⟩:=this;obtain⟨u,hu,hb,e⟩:=Im.1 I;obtain⟨t,ht,et⟩:=h.el u hu;obtain⟨v,U,ev⟩:=h'.all t ht;have Q:v.b=-1:=Cb λDT=>J (Im.2 ⟨v,U,DT,by rw[ev,et,e]⟩);obtain⟨m,hm,O⟩:=h'.cl v U Q;rw[ev,et]at O;have h1:=(Rk.back h0 (h.op u hu hb) O).1;have h2:=O.lt h0;omega
def uT(u:Cy):Cy:=⟨u.a,u.c,0,0,0⟩
theorem Sm.fin(h:Sm l k S)(J:PO S=0):Gx l (S.map uT):=by
 have I:∀u∈S,u.b=-1:=λu hu=>Cb λhb=>by
  have:u.a∈WQ S:=Im.2 ⟨u,hu,hb,rfl⟩;have:=List.length_pos_of_mem this;rw[KE]at this;omega
 refine⟨λu hu=>?_,List.pairwise_map.2 h.up,by rw[Ai,h.len]⟩;obtain⟨v,e,rfl⟩:=Av.1 hu;obtain⟨m,_,hm⟩:=h.cl v e (I v e);exact⟨⟨m,hm⟩,rfl,rfl,rfl⟩
end
structure Els (l E:List Cy):Prop where
 up:E.Pairwise λu v=>u.a<v.a
 el:∀u∈E,∃t∈l,t.a=u.a
 all:∀t∈l,∃u∈E,u.a=t.a
def Qi(t:Cy):Cy:=⟨t.b,t.a,t.c,0,0⟩
def La(L:List Cy)(t:Cy):Cy:=match LK L t.a with
 |some v=>v
 |none=>⟨t.a,-1,0,0,0⟩
def NN(L:List Cy)(t:Cy):Bool:=(LK L t.a).isSome
def I2(t:Cy):Bool:=decide (t.b=-1)
theorem oO{E}(h:Els l E)(hl:E.length<l.length):¬DR l:=λU=>by
 have O:(l.map (·.a)).Nodup:=by
  rw[List.nodup_iff_pairwise_ne,List.pairwise_map];refine Bh.2 λi j hi Q Ii e=>?_;have:=U.nd i j _ _ (AU hi) (AU Q) e;omega
 have:=GZ (l.map (·.a)) (E.map (·.a)) O λx I=>by
  obtain⟨t,J,rfl⟩:=Av.1 I;obtain⟨u,hu,e⟩:=h.all t J;exact Av.2 ⟨u,hu,e⟩
 rw[Ai,Ai]at this;omega
theorem vr{α:Type}{R}{l:List α}(h:l.Pairwise R)(J:∀a b,R a b->R b a){i j:Nat}{a b}(O:l[i]?=AE a)(hb:l[j]?=AE b)(Q:i≠j):R a b:=by
 obtain⟨hi,rfl⟩:=BI.1 O;obtain⟨I,rfl⟩:=BI.1 hb;rcases Nat.lt_or_gt_of_ne Q with e|e
 ·exact Bh.1 h i j hi I e
 ·exact J _ _ (Bh.1 h j i I hi e)
section
variable{E L:List Cy}
theorem Oy(J:L.Perm (l.map Qi)){x}{v}(h:LK L x=AE v):∃t∈l,t.b=x/\v=Qi t:=by
 obtain⟨Q,O⟩:=Ko h;obtain⟨t,I,e⟩:=Av.1 (J.mem_iff.1 Q);refine⟨t,I,?_,e.symm⟩;rw[<-O,<-e];rfl
theorem uj(J:L.Perm (l.map Qi)){t}(I:t∈l):∃v,LK L t.b=AE v:=by
 cases e:LK L t.b with
 |some v=>exact⟨v,rfl⟩
 |none=>exact absurd rfl (Oc e (Qi t) (J.mem_iff.2 (Av.2 ⟨t,I,rfl⟩)))
theorem V4(L:List Cy)(t:Cy):(La L t).a=t.a:=by
 unfold La
 cases e:LK L t.a with
 |some v=>exact(Ko e).2
 |none=>rfl
theorem iq{E:List Cy}(I:L.Perm (l.map Qi))(O:∀t∈l,0<=t.a):E.countP (NN L)=PO (E.map (La L)):=by
 refine(KX _ _ _ E λt _=>?_).symm;unfold NN La ZZ
 cases e:LK L t.a with
 |some v=>
  obtain⟨u,hu,_,rfl⟩:=Oy I e;have Q:=O u hu;have J:(Qi u).b≠-1:=by show u.a≠-1;omega
  simp[J]
 |none=>simp
theorem Uu(hE:Els l E)(hL:L.Perm (l.map Qi))(hlen:E.length=l.length)(a0:∀t∈l,0<=t.a)(b0:∀t∈l,-1<=t.b):DR l↔l.length<=E.countP (NN L)+l.countP I2:=by
 obtain⟨A,hA⟩:=ae ((E.filter (NN L)).map (·.a));obtain⟨B,hB⟩:=ae ((l.filter λt=> !I2 t).map (·.b));have av:A.length=E.countP (NN L):=by rw[hA,Ai,List.countP_eq_length_filter]
 have au:B.length+l.countP I2=l.length:=by
  rw[hB,Ai,<-List.countP_eq_length_filter];have:=List.length_eq_countP_add_countP I2 (l:=l);have h2:l.countP (λt=> !I2 t)=l.countP λa=>decide (¬I2 a=true):=by
   congr 1;funext a;cases I2 a<;>rfl
  omega
 have ao:A.Nodup:=by rw[hA];exact Je (hE.up.filter _)
 have Q:∀x,x∈A↔(∃t∈l,t.a=x)/\∃t∈l,t.b=x:=λx=>by
  rw[hA,Av];constructor
  ·rintro⟨u,hu,rfl⟩;have hu:=CL.1 hu;refine⟨hE.el u hu.1,?_⟩;obtain⟨v,hv⟩:=Option.isSome_iff_exists.1 (show (LK L u.a).isSome=true from hu.2);obtain⟨t,I,e,_⟩:=Oy hL hv;exact⟨t,I,e⟩
  ·rintro⟨⟨t,I,rfl⟩,s,hs,e⟩;obtain⟨u,hu,U⟩:=hE.all t I;refine⟨u,CL.2 ⟨hu,?_⟩,U⟩;show (LK L u.a).isSome=true;obtain⟨v,hv⟩:=uj hL hs;rw[U,<-e,hv];rfl
 have O:∀x,x∈B↔∃t∈l,t.b=x/\x≠-1:=λx=>by
  rw[hB,Av];constructor
  ·rintro⟨t,I,rfl⟩;have I:=CL.1 I;exact⟨t,I.1,rfl,by simpa [I2]using I.2⟩
  ·rintro⟨t,I,rfl,al⟩;exact⟨t,CL.2 ⟨I,by simp[I2,al]⟩,rfl⟩
 have aq:∀x∈A,x∈B:=λx hx=>by
  obtain⟨⟨t,I,e⟩,s,hs,U⟩:=(Q x).1 hx;have:=a0 t I;exact(O x).2 ⟨s,hs,U,a5⟩
 constructor
 ·intro h0;have J:B.Nodup:=by
   rw[hB];rw[List.nodup_iff_pairwise_ne,List.pairwise_map];refine(List.pairwise_filter).2 ?_;refine Bh.2 λi j hi hj Ii h1 h2 e=>?_;have:=b0 _ (CO hi);have:=h0.ij i j _ _ (AU hi) (AU hj) e (by
    have h1:l[i].b≠-1:=by simpa [I2]using h1
    omega)
   omega
  have:=GZ B A J λx hx=>by
   obtain⟨t,I,e,al⟩:=(O x).1 hx;have:=b0 t I;obtain⟨u,hu,U⟩:=h0.sc t I a5;exact(Q x).2 ⟨⟨u,hu,by rw[U,e]⟩,t,I,e⟩
  omega
 ·intro hle;have an:B.length<=A.length:=a5;have J:=SG B A ao aq an;have ab:=Mu A B ao aq an;have ar:(l.map (·.a)).Nodup:=SG _ _ (Je hE.up) (λx hx=>by
   obtain⟨u,hu,rfl⟩:=Av.1 hx;obtain⟨t,I,e⟩:=hE.el u hu;exact Av.2 ⟨t,I,e⟩) (by rw[Ai,Ai,hlen];exact AQ _)
  refine⟨a0,b0,λi j t u hi hj e=>?_,λt I h1=>?_,λi j t u hi hj e h1=>?_⟩
  ·exact Cb λIi=>vr (List.pairwise_map.1 ar) (λ_ _ h=>Ne.symm h) hi hj Ii e
  ·have:=ab t.b ((O _).2 ⟨t,I,rfl,a5⟩);obtain⟨u,hu,e⟩:=((Q _).1 this).1;exact⟨u,hu,e⟩
  ·refine Cb λIi=>?_;rw[hB]at J;have h2:=List.pairwise_filter.1 (List.pairwise_map.1 J);have ad:∀v:Cy,v.b=t.b->(!I2 v)=true:=λv hv=>by simp[I2];omega
   exact vr (R:=λa b:Cy=>(!I2 a)=true->(!I2 b)=true->a.b≠b.b) h2 (λ_ _ h h3 h4=>Ne.symm (h h4 h3)) hi hj Ii (ad t rfl) (ad u e.symm) e
theorem AA9(J:Els l E)(U:L.Perm (l.map Qi))(hlen:E.length=l.length)(h0:DR l)(DN:∀t∈l,Gj t.c):Sm l 0 (E.map (La L)):=by
 refine⟨List.pairwise_map.2 (J.up.imp λ{u v} h=>by rw[V4,V4];exact h),by rw[Ai,hlen],λu hu=>?_,λu hu hb=>?_,λu hu hb=>?_⟩
 ·obtain⟨t,I,rfl⟩:=Av.1 hu;rw[V4];exact J.el t I
 ·obtain⟨t,I,rfl⟩:=Av.1 hu;have O:=V4 L t;obtain⟨s,Q,es⟩:=J.el t I;unfold La at hb O⊢
  cases e:LK L t.a with
  |some v=>
   rw[e]at hb;obtain⟨w,hw,_,rfl⟩:=Oy U e;have:=h0.a0 w hw;have hb:w.a=-1:=hb;omega
  |none=>
   refine⟨0,Nat.pow_pos a5,?_⟩;show Rk l 0 t.a 0;rw[<-es];refine .first Q λu hu e2=>?_;exact Oc e (Qi u) (U.mem_iff.2 (Av.2 ⟨u,hu,rfl⟩)) (by show u.b=t.a;rw[e2,es])
 ·obtain⟨t,I,rfl⟩:=Av.1 hu;obtain⟨s,Q,es⟩:=J.el t I;unfold La at hb⊢
  cases e:LK L t.a with
  |some v=>
   obtain⟨w,hw,ew,rfl⟩:=Oy U e;have h1:=h0.a0 s Q;show WW l 1 w.a w.b w.c;exact .one hw a5 (DN w hw)
  |none=>rw[e]at hb;exact absurd rfl hb
end
end
def Km(l:List Cy)(j:Nat):Cy:=l.getD j Cz
theorem sV{l j t}(h:l[j]?=AE t):Km l j=t:=by
 unfold Km;rw[AT,h];rfl
theorem yo{l n x}(e:n<l.length)(J:(Km l n).a=x)(I:∀q,q<n->(Km l q).a≠x):LK l x=AE (Km l n):=by
 unfold LK
 induction l generalizing n with
 |nil=>simp at e
 |cons a l ih=>
  rw[List.find?_cons]
  match n with
  |0=>
   have:decide (a.a=x)=true:=by simpa [Km]using J
   rw[this];rfl
  |n+1=>
   have O:decide (a.a=x)=false:=by simpa [Km]using I 0 a5
   rw[O];exact ih (n:=n) (by simpa using e) (by simpa [Km]using J) λq Q=>by simpa [Km]using I (q+1) a5
theorem mE{l x}(h:∀q,q<l.length->(Km l q).a≠x):LK l x=AD:=by
 unfold LK;refine List.find?_eq_none.2 λu hu=>?_;obtain⟨q,I,e⟩:=BP hu;have:=h q I;unfold Km at this;rw[AT,AU I,Option.getD_some,e]at this;simpa using this
structure FI (l:List Cy) (key:Int) (j:Nat) (r:Cy) (ok:Bool):Prop where
 le:j<=l.length
 low:∀q,q+1<j->(Km l q).a<key
 row:ok=true->(j=0/\r.a=-9223372036854775808)\/(0<j/\r=Km l (j-1))
 fin:ok=false->∀q,q<l.length->(Km l q).a<key
def Tv:Cy:=⟨-9223372036854775808,0,0,0,0⟩
section
variable{l:List Cy}{key:Int}{j:Nat}{r:Cy}{ok:Bool}
theorem FI.start(l:List Cy)(key:Int):FI l key 0 Tv true:=⟨Ao _,λq e=>by omega,λ_=>.inl ⟨rfl,rfl⟩,(λh=>by cases h)⟩
theorem FI.mono{key'}(h:FI l key j r ok)(I:key<=key'):FI l key' j r ok:=⟨h.le,λq e=>by have:=h.low q e;omega,h.row,λhe q e=>by have:=h.fin he q e;omega⟩
theorem FI.lower(h:FI l key j r true)(I:r.a<key):∀q,q<j->(Km l q).a<key:=λq J=>by
 rcases Ak (q+1) j with e|e
 ·exact h.low q e
 ·rcases h.row rfl with⟨h2,_⟩|⟨_,h2⟩
  ·omega
  ·rw[show q=j-1 by omega,<-h2];exact I
theorem FI.next(h:FI l key j r true)(e:r.a<key)(I:j<l.length):FI l key (j+1) (Km l j) true:=
 ⟨I,λq J=>h.lower e q a5,λ_=>.inr ⟨a5,by rw[BV]⟩,(λh=>by cases h)⟩
theorem FI.end_(h:FI l key j r true)(e:r.a<key)(J:j=l.length):FI l key j Cz false:=
 ⟨h.le,λq I=>h.lower e q a5,(λh=>by cases h),λ_ q I=>h.lower e q a5⟩
theorem FI.noL(h:FI l key j r false):LK l key=AD:=mE λq e=>by have:=h.fin rfl q e;omega
theorem FI.atL(h:FI l key j r true)(O:-9223372036854775808<key)(e:r.a=key):LK l key=AE r:=by
 rcases h.row rfl with⟨_,h2⟩|⟨h1,h2⟩
 ·omega
 ·have I:j-1<l.length:=by have:=h.le;omega
  rw[h2];exact yo I (by rw[<-h2];exact e) λq J=>by have:=h.low q a5;omega
theorem FI.over(h:FI l key j r true)(hk:-9223372036854775808<key)(Q:key<r.a)(O:l.Pairwise λu v=>u.a<=v.a):LK l key=AD:=by
 rcases h.row rfl with⟨_,h2⟩|⟨h1,h2⟩
 ·omega
 ·have J:j-1<l.length:=by have:=h.le;omega
  refine mE λq I=>?_;rcases Ak (q+1) j with h3|h3
  ·have:=h.low q h3;omega
  ·have e:∀i (hi:i<l.length),Km l i=l[i]:=λi hi=>by unfold Km;rw[AT,AU hi];rfl
   rw[h2,e _ J]at Q;rw[e q I];rcases Ak (j-1) q with h4|h4
   ·have:=Bh.1 O (j-1) q J I h4;omega
   ·have U:q=j-1:=a5;subst U;omega
end
def FZ(rd:DD)(x gr ga gk:Nat)(r:Cy)(ok:Bool):List DD:=[rd,Cv gr 81 [AI x],Cv ga 47 (DH r),Cv gk 4 [ok]]
section
variable{X:Cx}{m x gr ga gk:Nat}{W:World}{rt:Rt}{l:List Cy}{pre post:List DD}
theorem JR(Y:List DD)(a:DD):(Y++[a])[Y.length]?=AE a:=a8
theorem MH(Y:List DD)(a b:DD):(Y++[a]).set Y.length b=Y++[b]:=a8
theorem Tb(rd:DD)(r:Cy)(ok:Bool):(pre++FZ rd x gr ga gk r ok++post)[pre.length]?=AE rd/\(pre++FZ rd x gr ga gk r ok++post)[pre.length+1]?=AE (Cv gr 81 [AI x])/\
  (pre++FZ rd x gr ga gk r ok++post)[pre.length+2]?=AE (Cv ga 47 (DH r))/\(pre++FZ rd x gr ga gk r ok++post)[pre.length+3]?=AE (Cv gk 4 [ok]):=by
 simp[FZ]
theorem WI(rd e:DD)(r:Cy)(ok:Bool):(pre++FZ rd x gr ga gk r ok++post).set pre.length e=pre++FZ e x gr ga gk r ok++post:=by
 simp[FZ]
theorem YX{rd r ok}(h:Wd X (pre++FZ rd x gr ga gk r ok++post) m W)(t:Cy)(b:Bool):
  Wd X (pre++FZ rd x gr ga gk t b++post) m ((((((W.setCell ga t.a).setCell (ga,1) t.b).setCell (ga,2) t.c).setCell (ga,3) t.d).setCell (ga,4) t.e).setCell gk b):=by
 have e2:∀c:List Value,(pre++FZ rd x gr ga gk r ok++post).set (pre.length+2) (Cv ga 47 c)=pre++[rd,Cv gr 81 [AI x],Cv ga 47 c,Cv gk 4 [ok]]++post:=λc=>by simp[FZ]
 have I:∀c:List Value,(pre++[rd,Cv gr 81 [AI x],Cv ga 47 c,Cv gk 4 [ok]]++post)[pre.length+2]?=AE (Cv ga 47 c):=λc=>by simp
 have e:∀c d:List Value,(pre++[rd,Cv gr 81 [AI x],Cv ga 47 c,Cv gk 4 [ok]]++post).set (pre.length+2) (Cv ga 47 d)=pre++[rd,Cv gr 81 [AI x],Cv ga 47 d,Cv gk 4 [ok]]++post:=λc d=>by simp
 have Q:=h.store (Tb _ _ _).2.2.1 a6 0 t.a;rw[e2]at Q;have O:=Q.store (I _) a6 1 t.b;rw[e]at O;have J:=O.store (I _) a6 2 t.c;rw[e]at J;have h3:=J.store (I _) a6 3 t.d;rw[e]at h3;have h4:=h3.store (I _) a6 4 t.e;rw[e]at h4;have a3:∀c:List Value,(pre++[rd,Cv gr 81 [AI x],Cv ga 47 c,Cv gk 4 [ok]]++post)[pre.length+3]?=AE (Cv gk 4 [ok]):=λc=>by simp
 have h5:=h4.store (a3 _) a6 0 b;have U:∀c d:List Value,(pre++[rd,Cv gr 81 [AI x],Cv ga 47 c,Cv gk 4 [ok]]++post).set (pre.length+3) (Cv gk 4 d)=pre++[rd,Cv gr 81 [AI x],Cv ga 47 c,Cv gk 4 d]++post:=λc d=>by simp
 rw[U]at h5;exact h5
def WH(X:Cx)(pre post:List DD)(x gr ga gk:Nat)(rt:Rt)(l:List Cy)(m:Nat)(key:Int)(e:Ending)(w':World):Prop:=
 (∃j r ok v b,e=AH (AM #[DW v,.bool b,AA AB 0])/\FI l key j r ok/\LK l key=(if b=true then AE v else AD)/\Wd X (pre++FZ (E0 X.p x (rat rt j) X.sz l) x gr ga gk r ok++post) (m+Cu rt.h j) w')\/
 (∃rd r ok,e=AH (AM #[DW Cz,false,AA AB 6])/\¬X.cm/\aj X x rt l rd/\Wd X (pre++FZ rd x gr ga gk r ok++post) (m+Cu rt.h l.length+1) w')
theorem uP{key j r ok}(hI:FI l key j r ok)(hk:-9223372036854775808<key)(hF:xX X rt l)(EZ:Src (pre++post) X.sz rt.first rt.k rt.h l)(hs:l.Pairwise λu v=>u.a<=v.a)(hn:X.N+m+Cu rt.h l.length+1<=1000000)
  (h:Wd X (pre++FZ (E0 X.p x (rat rt j) X.sz l) x gr ga gk r ok++post) (m+Cu rt.h j) W):
  Calls AP 131 #[key,AI gk,AI ga,AI gr] W (WH X pre post x gr ga gk rt l m key):=by
 obtain⟨W1,EJ⟩:=ae (W.alloc (AK #[(),(),(),(),()] 47));have U:=h.new ((AS W W).alloc ar (AK #[(),(),(),(),()] 47)) (heap_alloc_new _ _:Row _ _ 47 Z5) ar;rw[<-EJ,AR _ post]at U;obtain⟨R,hR⟩:=ae W.heap.size;rw[<-hR]at U;obtain⟨n,Z0⟩:=ae l.length;have MK:∀(rd:DD) (r:Cy) (ok:Bool) (c:List Value),Src (pre++FZ rd x gr ga gk r ok++(post++[Cv R 47 c])) X.sz rt.first rt.k rt.h l:=λrd r ok c=>by
  obtain⟨i,f,U,O,h3⟩:=EZ;rcases Ah.1 (Ae U)with hm|hm
  ·obtain⟨i',zf⟩:=Ax.1 (show f∈pre++FZ rd x gr ga gk r ok++(post++[Cv R 47 c])by simp[hm]);exact⟨i',f,zf,O,h3⟩
  ·obtain⟨i',zf⟩:=Ax.1 (show f∈pre++FZ rd x gr ga gk r ok++(post++[Cv R 47 c])by simp[hm]);exact⟨i',f,zf,O,h3⟩
 obtain⟨S,hS⟩:∃S:Nat->Cy->Bool->World->Prop,∀j r ok w,S j r ok w↔Wd X (pre++FZ (E0 X.p x (rat rt j) X.sz l) x gr ga gk r ok++(post++[Cv R 47 Z5])) (m+Cu rt.h j) w:=⟨_,λ_ _ _ _=>BO⟩;obtain⟨E,hE⟩:∃E:Cy->Bool->World->Prop,∀r ok w,E r ok w↔∃rd,aj X x rt l rd/\Wd X (pre++FZ rd x gr ga gk r ok++(post++[Cv R 47 Z5])) (m+Cu rt.h l.length+1) w:=⟨_,λ_ _ _=>BO⟩;have Tl:Hid (S j r ok W1):=(hS _ _ _ _).2 U;have GC:Hid (∀j r ok w,S j r ok w->Row w gr 81 [AI x]/\Row w ga 47 (DH r)/\Row w gk 4 [ok]/\Row w R 47 Z5):=λj r ok w q=>by
  have q:=(hS _ _ _ _).1 q;have q1:=Tb (x:=x) (gr:=gr) (ga:=ga) (gk:=gk) (pre:=pre) (post:=post++[Cv R 47 Z5]) (E0 X.p x (rat rt j) X.sz l) r ok;refine⟨q.row q1.2.1,q.row q1.2.2.1,q.row q1.2.2.2,q.row (i:=pre.length+4+post.length) ?_⟩;rw[<-AR,show pre.length+4+post.length=(pre++FZ (E0 X.p x (rat rt j) X.sz l) x gr ga gk r ok++post).length by simp[FZ];omega];exact JR _ _
 have aC:Hid (∀r ok w,E r ok w->Row w ga 47 (DH r)/\Row w gk 4 [ok]/\Row w R 47 Z5):=λr ok w q=>by
  obtain⟨rd,_,q⟩:=(hE _ _ _).1 q;have q1:=Tb (x:=x) (gr:=gr) (ga:=ga) (gk:=gk) (pre:=pre) (post:=post++[Cv R 47 Z5]) rd r ok;refine⟨q.row q1.2.2.1,q.row q1.2.2.2,q.row (i:=pre.length+4+post.length) ?_⟩;rw[<-AR,show pre.length+4+post.length=(pre++FZ rd x gr ga gk r ok++post).length by simp[FZ];omega];exact JR _ _
 have RO:Hid (∀j r ok w,j<n->S j r ok w->Calls AP 48 #[AI x] w λe w'=>
   (∃t:Cy,e=AH (AM #[DW t,true,()])/\t=Km l j/\S (j+1) r ok w')\/(e=AH (AM #[DW Cz,false,AA AB 6])/\¬X.cm/\E r ok w')):=λj r ok w hj q=>by
  refine(VT ((hS _ _ _ _).1 q) (Tb _ _ _).1 hF (MK _ _ _ _) a5 hn).mono ?_;rintro e w' (⟨t,ht,he,hw⟩|⟨he,Fy,hw⟩)
  ·rw[WI]at hw;exact .inl ⟨t,he,(sV ht).symm,(hS _ _ _ _).2 hw⟩
  ·rw[WI]at hw;exact .inr ⟨he,Fy,(hE _ _ _).2 ⟨_,⟨j,.inr rfl⟩,hw⟩⟩
 have aA:Hid (∀j r ok w,j=n->S j r ok w->Calls AP 48 #[AI x] w λe w'=>e=AH (AM #[DW Cz,false,()])/\S j r ok w'):=λj r ok w hj q=>by
  refine(ZT ((hS _ _ _ _).1 q) (Tb _ _ _).1 hF a5).mono ?_;rintro e w' ⟨he,hw⟩;exact⟨he,(hS _ _ _ _).2 hw⟩
 have G7:Hid (∀j r ok w (t:Cy) (b:Bool),S j r ok w->S j t b ((((((w.setCell ga t.a).setCell (ga,1) t.b).setCell (ga,2) t.c).setCell (ga,3) t.d).setCell (ga,4) t.e).setCell gk b)):=λj r ok w t b q=>(hS _ _ _ _).2 (YX ((hS _ _ _ _).1 q) t b);have ay:Hid (∀r ok w (t:Cy) (b:Bool),E r ok w->E t b ((((((w.setCell ga t.a).setCell (ga,1) t.b).setCell (ga,2) t.c).setCell (ga,3) t.d).setCell (ga,4) t.e).setCell gk b)):=λr ok w t b q=>by
  obtain⟨rd,q1,q2⟩:=(hE _ _ _).1 q;exact(hE _ _ _).2 ⟨rd,q1,YX q2 t b⟩
 have IS:∀(rd:DD) (r:Cy) (ok:Bool) (M:Nat) (w:World) (t:Cy),Wd X (pre++FZ rd x gr ga gk r ok++(post++[Cv R 47 Z5])) M w->
   Row (((((w.setCell R t.a).setCell (R,1) t.b).setCell (R,2) t.c).setCell (R,3) t.d).setCell (R,4) t.e) R 47 (DH t)/\
   Wd X (pre++FZ rd x gr ga gk r ok++post) M (((((w.setCell R t.a).setCell (R,1) t.b).setCell (R,2) t.c).setCell (R,3) t.d).setCell (R,4) t.e):=λrd r ok M w t q=>by
  rw[<-AR]at q;have q0:=q.store (JR _ _) a6 0 t.a;rw[MH]at q0;have q1:=q0.store (JR _ _) a6 1 t.b;rw[MH]at q1;have q2:=q1.store (JR _ _) a6 2 t.c;rw[MH]at q2;have q3:=q2.store (JR _ _) a6 3 t.d;rw[MH]at q3;have q4:=q3.store (JR _ _) a6 4 t.e;rw[MH]at q4;exact⟨q4.row (JR _ _),q4.drop rfl rfl⟩
 have YV:Hid (∀j r ok w (v:Cy) (b:Bool),FI l key j r ok->LK l key=(if b=true then AE v else AD)->S j r ok w->
   Row (((((w.setCell R v.a).setCell (R,1) v.b).setCell (R,2) v.c).setCell (R,3) v.d).setCell (R,4) v.e) R 47 (DH v)/\
   ∀q,WH X pre post x gr ga gk rt l m key (AH (AM #[DW v,b,()])) ((((((w.setCell R v.a).setCell (R,1) v.b).setCell (R,2) v.c).setCell (R,3) v.d).setCell (R,4) v.e).drewN q)):=λj r ok w v b k1 k2 q=>by
  obtain⟨q1,q2⟩:=IS _ _ _ _ w v ((hS _ _ _ _).1 q);exact⟨q1,λq=>.inl ⟨j,r,ok,v,b,rfl,k1,k2,q2.drewN q⟩⟩
 have O9:Hid (∀r ok w,¬X.cm->E r ok w->
   Row (((((w.setCell R ()).setCell (R,1) ()).setCell (R,2) ()).setCell (R,3) ()).setCell (R,4) ()) R 47 (DH Cz)/\
   WH X pre post x gr ga gk rt l m key (AH (AM #[DW Cz,false,AA AB 6])) (((((w.setCell R ()).setCell (R,1) ()).setCell (R,2) ()).setCell (R,3) ()).setCell (R,4) ())):=λr ok w k1 q=>by
  obtain⟨rd,q0,q⟩:=(hE _ _ _).1 q;obtain⟨q1,q2⟩:=IS _ _ _ _ w Cz q;exact⟨q1,.inr ⟨rd,r,ok,rfl,k1,q0,q2⟩⟩
 have au:(ga≠gk/\gk≠ga)/\(ga≠R/\R≠ga)/\gk≠R/\R≠gk:=by
  have q:=Tb (x:=x) (gr:=gr) (ga:=ga) (gk:=gk) (pre:=pre) (post:=post++[Cv R 47 Z5]) (E0 X.p x (rat rt j) X.sz l) r ok;have qR:(pre++FZ (E0 X.p x (rat rt j) X.sz l) x gr ga gk r ok++(post++[Cv R 47 Z5]))[(pre++FZ (E0 X.p x (rat rt j) X.sz l) x gr ga gk r ok++post).length]?=AE (Cv R 47 Z5):=by
   rw[<-AR];exact JR _ _
  have k1:=U.apart q.2.2.1 q.2.2.2 a5 (k:=ga) rfl;have k2:=U.apart q.2.2.1 qR (by simp[FZ]) (k:=ga) rfl;have k3:=U.apart q.2.2.2 qR (by simp[FZ]) (k:=gk) rfl;exact⟨⟨k1,λe=>k1 e.symm⟩,⟨k2,λe=>k2 e.symm⟩,k3,λe=>k3 e.symm⟩
 obtain⟨⟨RF,PR⟩,⟨aS,aR⟩,aE,aD⟩:=au;have aw:Hid (∀j r t,FI l key j r true->r.a<key->j<n->t=Km l j->FI l key (j+1) t true):=λj r t k1 k2 k3 k4=>by rw[k4];exact k1.next k2 a5
 have pZ:Hid (∀j r,FI l key j r true->r.a<key->j=n->FI l key j Cz false):=λj r k1 k2 k3=>k1.end_ k2 a5;have Ly:Hid (∀j r,FI l key j r false->LK l key=AD):=λj r k=>k.noL;have ax:Hid (∀j r,FI l key j r true->r.a=key->LK l key=AE r):=λj r k1 k2=>k1.atL hk k2;have az:Hid (∀j r,FI l key j r true->key<r.a->LK l key=AD):=λj r k1 k2=>k1.over hk k2 hs;have jg:Hid (∀j r ok,FI l key j r ok->j<=n):=λj r ok k=>by have:=k.le;omega
 obtain⟨J,hJ⟩:∃J:Nat->World->Prop,∀q w,J q w↔∃j r ok,FI l key j r ok/\q=2*(n-j)+(if ok=true then 1 else 0)/\S j r ok w:=⟨_,λ_ _=>BO⟩;have xu:=AO hJ;have aq:Hid (J (2*(n-j)+(if ok=true then 1 else 0)) W1):=(hJ _ _).2 ⟨j,r,ok,hI,rfl,Tl.out⟩;have FQ:=AO EJ;have HR:=AO hR;generalize WH X pre post x gr ga gk rt l m key=Dh at*
 generalize X.cm=cm at*
 generalize av:FI l key=FF at*
 generalize LK l key=lk at*
 clear hJ h U hI hn hF EZ hs MK IS hS hE av EJ hR Z0 Tl;go_enter func131,ntmps131
 go_upto_region 1 with(fail)
 rw[<-FQ.out,<-HR.out];clear FQ;go_loopw [8] (λ_ wr=>∃q:Nat,Hid (J q wr)) (λ_ wr=>Ho λq=>J q wr)
 case atStart=>exact⟨_,aq⟩
 case round=>
  obtain⟨q,hq⟩:=hrel;obtain⟨j,r,ok,hI,al,hS⟩:=(xu.out _ _).1 (Fi (P:=λq=>J q wr) hq.out).1;have HI:=AO hI;have an:=AO al;have HS:=AO hS;clear hq hI al hS aq;obtain⟨p1,p2,p3,p4⟩:=GC.out _ _ _ _ HS.out;have c1:wr.cell? gr=AE (AI x):=p1.cell 0;obtain⟨d0,d1,d2,d3,d4⟩:=p2.q5;have b0:wr.cell? gk=AE (.bool ok):=p3.cell 0;obtain⟨z0,z1,z2,z3,z4⟩:=p4.q5;obtain⟨f0,f1,f2,f3,f4⟩:=p4.r5;clear p1 p2 p3 p4;rcases ok with _| _
  ·obtain⟨I,Pt⟩:=YV.out j r false wr r false HI.out (by rw[Ly.out j r HI.out];rfl) HS.out;have Q:=AO I;have T6:=AO Pt;clear I Pt;go_wp2_with fail
   go_region
   go_wp2
   have r0:=Q.out.cell 0;have r1:=Q.out.cell 1;have r2:=Q.out.cell 2;have r3:=Q.out.cell 3;have r4:=Q.out.cell 4;simp only[DH,AX,AV]at r0 r1 r2 r3 r4;refine BA (v:=AM #[AL #[r.a,r.b,r.c,r.d,r.e],false,()]) (by simp[results,Tryz.results131,go_sem,r0,r1,r2,r3,r4]) rfl ?_;have:=T6.out 1;unfold DW at this;exact this
  ·have vJ:=HI.out;by_cases U:r.a<key
   ·have g1:decide (r.a<key)=true:=by simpa using U
    have KM:=AO U;clear U;rcases Ak j n with hj|hj
    ·have ao:=AO hj;have vK:=AO (RO.out j r true wr hj HS.out);clear hj;go_wp2_with fail
     refine vK.out.mono ?_;rintro e w2 (⟨t,rfl,ht,O⟩|⟨rfl,Fy,O⟩)
     ·have qc:=AO (aw.out j r t HI.out KM.out ao.out ht);obtain⟨p1,p2,p3,p4⟩:=GC.out _ _ _ _ O;have H9:=AO (G7.out _ _ _ w2 t true O);clear O ht d0 d1 d2 d3 d4 b0 c1 f0 f1 f2 f3 f4 z0 z1 z2 z3 z4;obtain⟨d0,d1,d2,d3,d4⟩:=p2.q5;have b0:w2.cell? gk=AE (.bool true):=p3.cell 0;obtain⟨e0,e1,e2,e3,e4⟩:=p2.r5;have e5:=p3.free 0;unfold DW;go_wp2
      have xx:=AO ((xu.out (2*(n-(j+1))+1) _).2 ⟨j+1,t,true,qc.out,rfl,H9.out⟩);go_roundw
      case rel=>exact⟨_,xx⟩
      case measure=>
       refine Cg (Fi (P:=λq=>J q _) xx.out).2 ?_;have:=an.out;have:=ao.out;simp at this⊢;omega
     ·obtain⟨p2,p3,p4⟩:=aC.out _ _ _ O;have H9:=AO (ay.out _ _ w2 Cz false O);obtain⟨I,Pt⟩:=O9.out _ _ _ Fy H9.out;have Q:=AO I;have T6:=AO Pt;clear O I Pt d0 d1 d2 d3 d4 b0 c1 f0 f1 f2 f3 f4 z0 z1 z2 z3 z4;obtain⟨d0,d1,d2,d3,d4⟩:=p2.q5;have b0:w2.cell? gk=AE (.bool true):=p3.cell 0;obtain⟨e0,e1,e2,e3,e4⟩:=p2.r5;have e5:=p3.free 0;obtain⟨z0,z1,z2,z3,z4⟩:=p4.q5;obtain⟨f0,f1,f2,f3,f4⟩:=p4.r5;unfold DW Cz;go_wp2
      obtain⟨r0,r1,r2,r3,r4⟩:=Q.out.q5;simp only[DH,Cz,AX,AV]at r0 r1 r2 r3 r4;refine BA (v:=AM #[AL #[(),(),(),(),()],false,AA AB 6]) (by simp[results,Tryz.results131,go_sem,r0,r1,r2,r3,r4]) rfl ?_;have:=T6.out;unfold DW Cz at this;exact this
    ·have ab:j=n:=by have:=jg.out _ _ _ HI.out;omega
     have aB:=AO ab;have vK:=AO (aA.out j r true wr ab HS.out);clear hj ab;go_wp2_with fail
     refine vK.out.mono ?_;rintro e w2 ⟨rfl,O⟩;have ad:=pZ.out j r HI.out KM.out aB.out;obtain⟨t,ht⟩:=ae Cz;rw[<-ht]at ad⊢;have qc:=AO ad;obtain⟨p1,p2,p3,p4⟩:=GC.out _ _ _ _ O;have H9:=AO (G7.out _ _ _ w2 t false O);clear ad ht O d0 d1 d2 d3 d4 b0 c1 f0 f1 f2 f3 f4 z0 z1 z2 z3 z4;obtain⟨d0,d1,d2,d3,d4⟩:=p2.q5;have b0:w2.cell? gk=AE (.bool true):=p3.cell 0;obtain⟨e0,e1,e2,e3,e4⟩:=p2.r5;have e5:=p3.free 0;have xx:=AO ((xu.out (2*(n-j)+0) _).2 ⟨j,t,false,qc.out,rfl,H9.out⟩);unfold DW;go_wp2
     go_roundw
     case rel=>exact⟨_,xx⟩
     case measure=>
      refine Cg (Fi (P:=λq=>J q _) xx.out).2 ?_;have:=an.out;simp at this⊢;omega
   ·have g1:decide (r.a<key)=false:=by simpa using U
    by_cases O:r.a=key
    ·have g2:(r.a==key)=true:=by simpa using O
     obtain⟨I,Pt⟩:=YV.out j r true wr r true HI.out (by rw[ax.out j r HI.out O];rfl) HS.out;have Q:=AO I;have T6:=AO Pt;clear I Pt U O;go_wp2_with fail
     go_region
     go_wp2
     have r0:=Q.out.cell 0;have r1:=Q.out.cell 1;have r2:=Q.out.cell 2;have r3:=Q.out.cell 3;have r4:=Q.out.cell 4;simp only[DH,AX,AV]at r0 r1 r2 r3 r4;refine BA (v:=AM #[AL #[r.a,r.b,r.c,r.d,r.e],true,()]) (by simp[results,Tryz.results131,go_sem,r0,r1,r2,r3,r4]) rfl ?_;have:=T6.out 1;unfold DW at this;exact this
    ·have g2:(r.a==key)=false:=by simpa using O
     obtain⟨I,Pt⟩:=YV.out j r true wr r false HI.out (by rw[az.out j r HI.out a5];rfl) HS.out;have Q:=AO I;have T6:=AO Pt;clear I Pt U O;go_wp2_with fail
     go_region
     go_wp2
     have r0:=Q.out.cell 0;have r1:=Q.out.cell 1;have r2:=Q.out.cell 2;have r3:=Q.out.cell 3;have r4:=Q.out.cell 4;simp only[DH,AX,AV]at r0 r1 r2 r3 r4;refine BA (v:=AM #[AL #[r.a,r.b,r.c,r.d,r.e],false,()]) (by simp[results,Tryz.results131,go_sem,r0,r1,r2,r3,r4]) rfl ?_;have:=T6.out 1;unfold DW at this;exact this
end
structure AT0 (t u:Cy) (key gz LU gy gh gk ga gr y fH:Nat) (Ea:Array Value) (W:World) (Dh:Ending->World->Prop) (A A2:World->Prop) (FB pz:Cy->Bool->Nat->World->Prop) (B2 C:Cy->Bool->Nat->World->Prop):Prop where
 key5:key<5
 eH:∀args w,Bu AP (callFunc fH args) w=.ok (.enter fH args) w
 hA:A (W.alloc (AK #[t.a,t.b,t.c,t.d,t.e] 47)).drew
 Ny:A2 ((W.alloc (AK #[t.a,t.b,t.c,t.d,t.e] 47)).alloc (AK #[(),(),(),(),()] 47)).drew
 xK:∀w,A w\/A2 w->Row w gz 170 [.func (.func 131) #[] #[AI gk,AI ga,AI gr]]/\Row w LU 3 [key]/\Row w W 47 (DH t)
 Pt:∀w,A w->Calls AP 131 #[AA AB (DS t key),AI (AE ⟨gk,0,AD⟩),AI (AE ⟨ga,0,AD⟩),AI (AE ⟨gr,0,AD⟩)] w λe w'=>∃v b er,e=AH (AM #[DW v,.bool b,AA AB (er:Nat)])/\FB v b er w'
 nS:∀w,A2 w->Calls AP 131 #[AA AB (DS t key),AI (AE ⟨gk,0,AD⟩),AI (AE ⟨ga,0,AD⟩),AI (AE ⟨gr,0,AD⟩)] w λe w'=>∃v b er,e=AH (AM #[DW v,.bool b,AA AB (er:Nat)])/\pz v b er w'
 iA:∀v b er w,FB v b er w\/pz v b er w->Row w gz 170 [.func (.func 131) #[] #[AI gk,AI ga,AI gr]]/\Row w LU 3 [key]/\Row w W 47 (DH t)
 hFBz:∀v b er w,pz v b er w->Row w (W+1) 47 (DH Cz)
 hne:gz≠W+1/\LU≠W+1
 hFB:∀v b er w,FB v b er w->(er=0/\B2 v b w (w.alloc (AK #[v.a,v.b,v.c,v.d,v.e] 47)))\/(er≠0/\Dh (AH er) (w.alloc (AK #[v.a,v.b,v.c,v.d,v.e] 47)))
 hFB2:∀v b er w,pz v b er w->(er=0/\B2 v b (W.heap.size+1) (((((w.setCell ⟨W.heap.size+1,0,AD⟩ (AA AB v.a)).setCell ⟨W.heap.size+1,1,AD⟩ (AA AB v.b)).setCell ⟨W.heap.size+1,2,AD⟩ (AA AB v.c)).setCell ⟨W.heap.size+1,3,AD⟩ (AA AB v.d)).setCell ⟨W.heap.size+1,4,AD⟩ (AA AB v.e)))\/(er≠0/\Dh (AH (AA AB er)) (((((w.setCell ⟨W.heap.size+1,0,AD⟩ (AA AB v.a)).setCell ⟨W.heap.size+1,1,AD⟩ (AA AB v.b)).setCell ⟨W.heap.size+1,2,AD⟩ (AA AB v.c)).setCell ⟨W.heap.size+1,3,AD⟩ (AA AB v.d)).setCell ⟨W.heap.size+1,4,AD⟩ (AA AB v.e)))
 hB2r:∀v b g w,B2 v b g w\/C v b g w->Row w gy 65 [AI y]/\Row w gh 148 [.func (.func fH) #[] Ea]/\Row w W 47 (DH t)/\Row w g 47 (DH v)
 hB2d:∀v b g w,B2 v b g w->B2 v b g w.drew
 hho:∀v b g w,B2 v b g w->Calls AP fH (#[DW t,DW v,b]++Ea) w λe w'=>e=AH (DW u)/\C v b g w'
 hpu:∀v b g w,C v b g w->Calls AP 30 #[AI y,DW u] w λe w'=>∃er:Nat,e=AH er/\Dh (AH er) w'/\∀w,w=w'->Row w gy 65 [AI y]/\Row w gh 148 [.func (.func fH) #[] Ea]/\Row w W 47 (DH t)/\Row w g 47 (DH v)
theorem fY{t u key gz LU gy gh gk ga gr y fH Ea W Dh A A2 FB pz B2 C}(O:AT0 t u key gz LU gy gh gk ga gr y fH Ea W Dh A A2 FB pz B2 C):
  Calls AP 111 #[DW t,AI gz,AI LU,AI gy,AI gh] W Dh:=by
 obtain⟨W1,EJ⟩:=ae (W.alloc (AK #[t.a,t.b,t.c,t.d,t.e] 47));have hA:=O.hA;have Ny:=O.Ny;rw[<-EJ]at hA Ny;have HA:=AO hA;have WX:=AO Ny;have ad:=AO O.hFB;have vR:=AO O.hFB2;have al:=AO O.hB2r;have au:=AO O.hho;have av:=AO O.hB2d;have bB:=AO O.hpu;have FQ:=AO EJ;have hZ:=O.hFBz;have eH:=O.eH;obtain⟨gR,Qt⟩:=O.hne;have gQ:W.heap.size≠W.heap.size+1:=a5;have tO:W1.heap.size=W.heap.size+1:=by rw[EJ];simp
 obtain⟨s0,hs0⟩:=ae W.heap.size;obtain⟨J,Gp⟩:=ae (W.heap.size+1);obtain⟨x,hx⟩:=ae (DS t key);have ao:(DH t)[key]?=AE (AA AB x):=by
  have:=O.key5;rw[hx];rcases(show key=0\/key=1\/key=2\/key=3\/key=4 by omega)with e|e|e|e|e<;>rw[e]<;>rfl
 have Nv:∀w,Row w gz 170 [.func (.func 131) #[] #[AI gk,AI ga,AI gr]]/\Row w LU 3 [key]/\Row w W 47 (DH t)->w.cell? gz=AE (.func (.func 131) #[] #[AI gk,AI ga,AI gr])/\w.cell? LU=AE (AA AB key)/\w.cell? (s0,key)=AE (AA AB x):=λw ⟨k1,k2,k3⟩=>by
  rw[hs0];exact⟨k1.cell 0,k2.cell 0,(k3.cell key).trans ao⟩
 have xK:=O.xK;have iA:=O.iA;have ar:Hid (∀v b er w,FB v b er w\/pz v b er w->w.cell? gz=AE (.func (.func 131) #[] #[AI gk,AI ga,AI gr])/\w.cell? LU=AE (AA AB key)/\w.cell? (s0,key)=AE (AA AB x)):=λv b er w q=>Nv w (iA v b er w q);have aq:Hid (∀v b er w,FB v b er w\/pz v b er w->∀o,(w.alloc o).cell? gz=AE (.func (.func 131) #[] #[AI gk,AI ga,AI gr])/\(w.alloc o).cell? LU=AE (AA AB key)/\(w.alloc o).cell? (s0,key)=AE (AA AB x)):=λv b er w q o=>by
  obtain⟨k1,k2,k3⟩:=iA v b er w q;exact Nv _ ⟨k1.alloc o,k2.alloc o,k3.alloc o⟩
 have vH:Hid (∀v b er w,FB v b er w\/pz v b er w->(((((w.setCell J v.a).setCell (J,1) v.b).setCell (J,2) v.c).setCell (J,3) v.d).setCell (J,4) v.e).cell? gz=AE (.func (.func 131) #[] #[AI gk,AI ga,AI gr])/\(((((w.setCell J v.a).setCell (J,1) v.b).setCell (J,2) v.c).setCell (J,3) v.d).setCell (J,4) v.e).cell? LU=AE (AA AB key)/\(((((w.setCell J v.a).setCell (J,1) v.b).setCell (J,2) v.c).setCell (J,3) v.d).setCell (J,4) v.e).cell? (s0,key)=AE (AA AB x)):=λv b er w q=>by
  obtain⟨k1,k2,k3⟩:=iA v b er w q;rw[Gp];exact Nv _ ⟨((((k1.E4 gR _).E4 gR _).E4 gR _).E4 gR _).E4 gR _,((((k2.E4 Qt _).E4 Qt _).E4 Qt _).E4 Qt _).E4 Qt _,((((k3.E4 gQ _).E4 gQ _).E4 gQ _).E4 gQ _).E4 gQ _⟩
 have q0:W1.drew.cell? gz=AE (.func (.func 131) #[] #[AI gk,AI ga,AI gr])/\W1.drew.cell? LU=AE (AA AB key)/\W1.drew.cell? (s0,key)=AE (AA AB x):=Nv _ (xK _ (.inl hA));have q1:(W1.alloc (AK #[(),(),(),(),()] 47)).drew.cell? gz=AE (.func (.func 131) #[] #[AI gk,AI ga,AI gr])/\(W1.alloc (AK #[(),(),(),(),()] 47)).drew.cell? LU=AE (AA AB key)/\(W1.alloc (AK #[(),(),(),(),()] 47)).drew.cell? (s0,key)=AE (AA AB x):=Nv _ (xK _ (.inr Ny));have Pt:=O.Pt;have nS:=O.nS;rw[<-hx]at Pt nS;have T6:=AO Pt;have an:=AO nS;have jW:(key:Int)<5:=by have:=O.key5;omega
 have Vn:(0:Int)<=(key:Int):=a5;rw[<-Gp]at vR hZ;have HZ:Hid (∀v b er w,pz v b er w->(w.cell? J=AE (AA AB 0)/\w.cell? (J,1)=AE (AA AB 0)/\w.cell? (J,2)=AE (AA AB 0)/\w.cell? (J,3)=AE (AA AB 0)/\w.cell? (J,4)=AE (AA AB 0))/\w.frozen? J=false/\w.frozen? (J,1)=false/\w.frozen? (J,2)=false/\w.frozen? (J,3)=false/\w.frozen? (J,4)=false):=λv b er w q=>by
  have k:=hZ v b er w q;exact⟨⟨k.cell 0,k.cell 1,k.cell 2,k.cell 3,k.cell 4⟩,k.free 0,k.free 1,k.free 2,k.free 3,k.free 4⟩
 rw[<-hs0]at al bB;have Tl:=AO hs0;have ax:W1=J:=by rw[tO,Gp]
 clear hZ hA Ny xK Pt nS iA O EJ hx ao Nv gR Qt gQ tO hs0 Gp;unfold DW;go_enter func111,ntmps111
 go_upto_region 1 with(fail)
 rw[<-FQ.out,<-Tl.out];clear FQ;go_region_held3 (λw=>w.cell? gz=AE (.func (.func 131) #[] #[AI gk,AI ga,AI gr])/\w.cell? LU=AE (AA AB key)/\w.cell? (s0,key)=AE (AA AB x)) (first|with_reducible exact q0|with_reducible exact q1|with_reducible exact Q|with_reducible exact q6 _|with_reducible exact q8)
  (first
   |(go_at_call 131;(with_reducible refine(T6.out _ HA.out).mono ?_);rintro e w5 ⟨v,b,er,rfl,h5⟩;unfold DW;have Q:=ar.out _ _ _ _ (.inl h5);have q6:=aq.out _ _ _ _ (.inl h5);have q8:=Q)
   |(go_at_call 131;(with_reducible refine(an.out _ WX.out).mono ?_);rintro e w5 ⟨v,b,er,rfl,h5⟩;unfold DW;have Q:=ar.out _ _ _ _ (.inr h5);have q6:=aq.out _ _ _ _ (.inr h5);have q8:=vH.out _ _ _ _ (.inr h5);obtain⟨⟨z0,z1,z2,z3,z4⟩,f0,f1,f2,f3,f4⟩:=HZ.out _ _ _ _ h5))
 ·have hB:=ad.out _ _ _ _ h5;clear Q q6 q8 h5;generalize w5.alloc (AK #[v.a,v.b,v.c,v.d,v.e] 47)=w6 at*
  generalize w5.heap.size=I at*
  rcases hB with⟨he,h6⟩|⟨he,h6⟩
  ·have e0:((er:Nat):Int)=0:=a5;rw[e0];have PJ:=AO (av.out _ _ _ _ h6);have U:Hid (∀v I w,Row w gy 65 [AI y]/\Row w gh 148 [.func (.func fH) #[] Ea]/\Row w s0 47 (DH t)/\Row w I 47 (DH v)->(w.cell? gy=AE (AI y)/\w.cell? gh=AE (.func (.func fH) #[] Ea))/\(w.cell? s0=AE (AA AB t.a)/\w.cell? (s0,1)=AE (AA AB t.b)/\w.cell? (s0,2)=AE (AA AB t.c)/\w.cell? (s0,3)=AE (AA AB t.d)/\w.cell? (s0,4)=AE (AA AB t.e))/\w.cell? I=AE (AA AB v.a)/\w.cell? (I,1)=AE (AA AB v.b)/\w.cell? (I,2)=AE (AA AB v.c)/\w.cell? (I,3)=AE (AA AB v.d)/\w.cell? (I,4)=AE (AA AB v.e)):=λv I w ⟨k1,k2,k3,k4⟩=>
    ⟨⟨k1.cell 0,k2.cell 0⟩,⟨k3.cell 0,k3.cell 1,k3.cell 2,k3.cell 3,k3.cell 4⟩,k4.cell 0,k4.cell 1,k4.cell 2,k4.cell 3,k4.cell 4⟩
   have HQ:Hid (∀v b I w,B2 v b I w\/C v b I w->(w.cell? gy=AE (AI y)/\w.cell? gh=AE (.func (.func fH) #[] Ea))/\(w.cell? s0=AE (AA AB t.a)/\w.cell? (s0,1)=AE (AA AB t.b)/\w.cell? (s0,2)=AE (AA AB t.c)/\w.cell? (s0,3)=AE (AA AB t.d)/\w.cell? (s0,4)=AE (AA AB t.e))/\w.cell? I=AE (AA AB v.a)/\w.cell? (I,1)=AE (AA AB v.b)/\w.cell? (I,2)=AE (AA AB v.c)/\w.cell? (I,3)=AE (AA AB v.d)/\w.cell? (I,4)=AE (AA AB v.e)):=λv b I w q=>U.out _ _ _ (al.out v b I w q);have q0:=HQ.out _ _ _ _ (.inl PJ.out);have ab:=AO (au.out _ _ _ _ PJ.out);unfold DW at ab bB;clear he e0 h6 ad vR T6 an;go_wp2_with fail
   go_region_held3 (λw=>(w.cell? gy=AE (AI y)/\w.cell? gh=AE (.func (.func fH) #[] Ea))/\(w.cell? s0=AE (AA AB t.a)/\w.cell? (s0,1)=AE (AA AB t.b)/\w.cell? (s0,2)=AE (AA AB t.c)/\w.cell? (s0,3)=AE (AA AB t.d)/\w.cell? (s0,4)=AE (AA AB t.e))/\w.cell? I=AE (AA AB v.a)/\w.cell? (I,1)=AE (AA AB v.b)/\w.cell? (I,2)=AE (AA AB v.c)/\w.cell? (I,3)=AE (AA AB v.d)/\w.cell? (I,4)=AE (AA AB v.e)) (first|with_reducible exact q0|with_reducible exact Q)
    (first
     |((with_reducible refine ab.out.mono ?_);rintro e w7 ⟨rfl,h7⟩;have Q:=HQ.out _ _ _ _ (.inr h7))
     |(go_at_call 30;(with_reducible refine(bB.out _ _ _ _ h7).mono ?_);rintro e w8 ⟨er,rfl,h8,Qs⟩;have Q:=U.out _ _ _ (Qs _ rfl)))
   have HP:=AO h8;clear h8 Qs Q;go_wp2
   exact HP.out
  ·have aw:¬(er:Int)=0:=a5;have HP:=AO h6;clear h6 he;go_wp2
   exact HP.out
 ·have hB:=vR.out _ _ _ _ h5;clear Q q6 q8 h5 z0 z1 z2 z3 z4 f0 f1 f2 f3 f4;generalize(((((w5.setCell J v.a).setCell (J,1) v.b).setCell (J,2) v.c).setCell (J,3) v.d).setCell (J,4) v.e)=w6 at*
  generalize J=I at*
  rcases hB with⟨he,h6⟩|⟨he,h6⟩
  ·have e0:((er:Nat):Int)=0:=a5;rw[e0];have PJ:=AO (av.out _ _ _ _ h6);have U:Hid (∀v I w,Row w gy 65 [AI y]/\Row w gh 148 [.func (.func fH) #[] Ea]/\Row w s0 47 (DH t)/\Row w I 47 (DH v)->(w.cell? gy=AE (AI y)/\w.cell? gh=AE (.func (.func fH) #[] Ea))/\(w.cell? s0=AE (AA AB t.a)/\w.cell? (s0,1)=AE (AA AB t.b)/\w.cell? (s0,2)=AE (AA AB t.c)/\w.cell? (s0,3)=AE (AA AB t.d)/\w.cell? (s0,4)=AE (AA AB t.e))/\w.cell? I=AE (AA AB v.a)/\w.cell? (I,1)=AE (AA AB v.b)/\w.cell? (I,2)=AE (AA AB v.c)/\w.cell? (I,3)=AE (AA AB v.d)/\w.cell? (I,4)=AE (AA AB v.e)):=λv I w ⟨k1,k2,k3,k4⟩=>
    ⟨⟨k1.cell 0,k2.cell 0⟩,⟨k3.cell 0,k3.cell 1,k3.cell 2,k3.cell 3,k3.cell 4⟩,k4.cell 0,k4.cell 1,k4.cell 2,k4.cell 3,k4.cell 4⟩
   have HQ:Hid (∀v b I w,B2 v b I w\/C v b I w->(w.cell? gy=AE (AI y)/\w.cell? gh=AE (.func (.func fH) #[] Ea))/\(w.cell? s0=AE (AA AB t.a)/\w.cell? (s0,1)=AE (AA AB t.b)/\w.cell? (s0,2)=AE (AA AB t.c)/\w.cell? (s0,3)=AE (AA AB t.d)/\w.cell? (s0,4)=AE (AA AB t.e))/\w.cell? I=AE (AA AB v.a)/\w.cell? (I,1)=AE (AA AB v.b)/\w.cell? (I,2)=AE (AA AB v.c)/\w.cell? (I,3)=AE (AA AB v.d)/\w.cell? (I,4)=AE (AA AB v.e)):=λv b I w q=>U.out _ _ _ (al.out v b I w q);have q0:=HQ.out _ _ _ _ (.inl PJ.out);have ab:=AO (au.out _ _ _ _ PJ.out);unfold DW at ab bB;clear he e0 h6 ad vR T6 an;go_wp2_with fail
   go_region_held3 (λw=>(w.cell? gy=AE (AI y)/\w.cell? gh=AE (.func (.func fH) #[] Ea))/\(w.cell? s0=AE (AA AB t.a)/\w.cell? (s0,1)=AE (AA AB t.b)/\w.cell? (s0,2)=AE (AA AB t.c)/\w.cell? (s0,3)=AE (AA AB t.d)/\w.cell? (s0,4)=AE (AA AB t.e))/\w.cell? I=AE (AA AB v.a)/\w.cell? (I,1)=AE (AA AB v.b)/\w.cell? (I,2)=AE (AA AB v.c)/\w.cell? (I,3)=AE (AA AB v.d)/\w.cell? (I,4)=AE (AA AB v.e)) (first|with_reducible exact q0|with_reducible exact Q)
    (first
     |((with_reducible refine ab.out.mono ?_);rintro e w7 ⟨rfl,h7⟩;have Q:=HQ.out _ _ _ _ (.inr h7))
     |(go_at_call 30;(with_reducible refine(bB.out _ _ _ _ h7).mono ?_);rintro e w8 ⟨er,rfl,h8,Qs⟩;have Q:=U.out _ _ _ (Qs _ rfl)))
   have HP:=AO h8;clear h8 Qs Q;go_wp2
   exact HP.out
  ·have aw:¬(er:Int)=0:=a5;have HP:=AO h6;clear h6 he;go_wp2
   exact HP.out
theorem Wd.Ek{X os m g T cs W}(h:Wd X os m W)(hm:Cv g T cs∈os):Row W g T cs:=by
 obtain⟨i,hi⟩:=Ax.1 hm;exact h.row hi
theorem Wg{X Y m g cs W}(h:Wd X (Y++[Cv g 47 cs]) m W)(e:cs.length=5)(x0 x1 x2 x3 x4:Value):Wd X (Y++[Cv g 47 [x0,x1,x2,x3,x4]]) m (((((W.setCell g x0).setCell (g,1) x1).setCell (g,2) x2).setCell (g,3) x3).setCell (g,4) x4):=by
 have O:=h.store (GI _ _) a6 0 x0;rw[Gn]at O;have J:=O.store (GI _ _) a6 1 x1;rw[Gn]at J;have I:=J.store (GI _ _) a6 2 x2;rw[Gn]at I;have h3:=I.store (GI _ _) a6 3 x3;rw[Gn]at h3;have h4:=h3.store (GI _ _) a6 4 x4;rw[Gn]at h4
 match cs,e with
 |[c0,c1,c2,c3,c4],_=>exact h4
structure u7 (X:Cx) (pre:List DD) (fH:Nat) (Ea:Array Value) (la lb:List Cy) (key:Nat) (res:Cy->Cy) (H:Nat->List DD):Prop where
 ent:∀args w,Bu AP (callFunc fH args) w=.ok (.enter fH args) w
 bare:∀i,Dr (H i)
 how:∀i zz m W t v b,la[i]?=AE t->LK lb (DS t key)=(if b=true then AE v else AD)->Wd X (pre++H i++zz) m W->Calls AP fH (#[DW t,DW v,b]++Ea) W λe w'=>e=AH (DW (res t))/\Wd X (pre++H (i+1)++zz) m w'
structure MT where
 X:Cx
 pre:List DD
 post:List DD
 H:Nat->List DD
 la:List Cy
 lb:List Cy
 key:Nat
 res:Cy->Cy
 fH:Nat
 Ea:Array Value
 x:Nat
 rt:Rt
 gr:Nat
 ga:Nat
 gk:Nat
 y:Nat
 wt:Wt
 gz:Nat
 LU:Nat
 gy:Nat
 gh:Nat
structure MT.Ok (P:MT):Prop where
 how:u7 P.X P.pre P.fH P.Ea P.la P.lb P.key P.res P.H
 key5:P.key<5
 rt:xX P.X P.rt P.lb
 src:Src (P.pre++P.post) P.X.sz P.rt.first P.rt.k P.rt.h P.lb
 up:P.lb.Pairwise λu v=>u.a<=v.a
 keys:P.la.Pairwise λu v=>DS u P.key<=DS v P.key
 kmin:∀t∈P.la,-9223372036854775808<DS t P.key
 wt:Ew P.wt P.X.sz
 wl:P.wt.l=[]
 wb:P.wt.bound=P.la.length
 fit:∀t∈P.la,Db P.wt.k (P.res t)=true
def MT.oJ(P:MT):Value:=.func (.func 131) #[] #[AI P.gk,AI P.ga,AI P.gr]
def MT.rows(P:MT):List DD:=[Cv P.gz 170 [P.oJ],Cv P.LU 3 [P.key],Cv P.gy 65 [AI P.y],Cv P.gh 148 [.func (.func P.fH) #[] P.Ea]]
def MT.L(P:MT)(i:Nat)(rd:DD)(r:Cy)(ok:Bool)(wo:DD)(V:List DD):List DD:=P.pre++P.H i++(P.post++(FZ rd P.x P.gr P.ga P.gk r ok++(wo::(P.rows++V))))
def MT.rd(P:MT)(j:Nat):DD:=E0 P.X.p P.x (rat P.rt j) P.X.sz P.lb
def MT.Qh(P:MT)(l:List Cy):Wt:={P.wt with l:=l}
def MT.wr(P:MT)(i:Nat):DD:=I6 P.X.p P.y (P.Qh ((P.la.take i).map P.res)) P.X.sz
def MT.WrE(P:MT)(a:DD):Prop:=∃l:List Cy,l.length<=P.la.length/\(a=I6 P.X.p P.y (P.Qh l) P.X.sz\/a=Yt P.X.p P.y (P.Qh l))
section
variable{P:MT}{i:Nat}{rd wo:DD}{r:Cy}{ok:Bool}{V:List DD}
theorem MT.YN:P.L i rd r ok wo V=(P.pre++P.H i++P.post)++FZ rd P.x P.gr P.ga P.gk r ok++(wo::(P.rows++V)):=by simp[MT.L]
theorem MT.Ng(U:List DD):P.L i rd r ok wo V++U=P.L i rd r ok wo (V++U):=by simp[MT.L]
theorem MT.jB:(P.L i rd r ok wo V)[(P.pre++P.H i++P.post++FZ rd P.x P.gr P.ga P.gk r ok).length]?=AE wo:=by
 rw[MT.YN];simp
theorem MT.U0(a:DD):(P.L i rd r ok wo V).set (P.pre++P.H i++P.post++FZ rd P.x P.gr P.ga P.gk r ok).length a=P.L i rd r ok a V:=by
 rw[MT.YN,MT.YN];simp
theorem MT.pE{m W}(e:Dr V){U}(h:Wd P.X (P.L i rd r ok wo (U++V)) m W):Wd P.X (P.L i rd r ok wo U) m W:=by
 rw[<-MT.Ng]at h;have:=Wd.GB (b:=[]) V e (by rw[AY];exact h);rwa [AY]at this
end
abbrev MSt:=Nat×Nat×Cy×Bool
def MT.Z(P:MT)(s:MSt):List DD:=P.L s.1 (P.rd s.2.1) s.2.2.1 s.2.2.2 (P.wr s.1) []
def MT.P_(P:MT)(i:Nat)(s:MSt):Prop:=s.1=i/\i<=P.la.length/\∃k0,FI P.lb k0 s.2.1 s.2.2.1 s.2.2.2/\∀t,P.la[i]?=AE t->k0<=DS t P.key
def MT.c(P:MT)(s:MSt):Nat:=Cu P.rt.h s.2.1+s.1/P.wt.h
def MT.Jt(P:MT)(er:Nat)(z':List DD):Prop:=er=6/\¬P.X.cm/\∃i rd r ok wo,aj P.X P.x P.rt P.lb rd/\P.WrE wo/\z'=P.L i rd r ok wo []
theorem MT.wok{P:MT}(e:P.Ok){l}(I:l.length<=P.la.length):Ew (P.Qh l) P.X.sz:=by
 have:=e.wt;exact {this with bound:=⟨this.bound.1,by show l.length<=P.wt.bound;rw[e.wb];exact I⟩}
theorem AF1{P:MT}(U:P.Ok):DoS P.X 111 #[AI (AE ⟨P.gz,0,AD⟩),AI (AE ⟨P.LU,0,AD⟩),AI (AE ⟨P.gy,0,AD⟩),AI (AE ⟨P.gh,0,AD⟩)] P.la P.P_ P.Z P.c P.Jt (Cu P.rt.h P.lb.length+P.la.length) where
 ent:=λargs w=>by kernel_rfl
 cost:=λi s ⟨h1,h2,k0,h3,_⟩=>by
  have J:=Df U.rt.ok.h.1 h3.le;have Q:s.1/P.wt.h<=s.1:=BX _ _;unfold MT.c;omega
 step:=λi s zz m W t ht ⟨h1,h2,k0,hI,hk⟩ h hn=>by
  obtain⟨I,j,r,ok⟩:=s;have h1:I=i:=h1;subst h1;have hI:FI P.lb k0 j r ok:=hI;have an:I<P.la.length:=(BI.1 ht).1;have ae:t∈P.la:=Ae ht;have au:=hk t ht;have aw:=hI.mono au;have av:=U.kmin t ae;have hq:I/P.wt.h<=I:=BX _ _;have EZ:∀V,Src (P.pre++P.H I++P.post++(P.wr I::(P.rows++V))) P.X.sz P.rt.first P.rt.k P.rt.h P.lb:=λV=>by
   obtain⟨q,f,J,Q,k3⟩:=U.src;have hm:f∈P.pre++P.H I++P.post++(P.wr I::(P.rows++V)):=by
    rcases Ah.1 (Ae J)with hm|hm<;>simp[hm]
   obtain⟨q',jR⟩:=Ax.1 hm;exact⟨q',f,jR,Q,k3⟩
  have h:Wd P.X (P.L I (P.rd j) r ok (P.wr I) []++zz) (m+(Cu P.rt.h j+I/P.wt.h)) W:=h;rw[MT.Ng,BL]at h;have ao:∀V w,Wd P.X (P.L I (P.rd j) r ok (P.wr I) V) (m+I/P.wt.h+Cu P.rt.h j) w->Calls AP 131 #[AA AB (DS t P.key),AI P.gk,AI P.ga,AI P.gr] w λe w'=>∃(v:Cy) (b:Bool) (er:Nat),e=AH (AM #[DW v,b,er])/\
    ((er=0/\∃j r ok,FI P.lb (DS t P.key) j r ok/\LK P.lb (DS t P.key)=(if b=true then AE v else AD)/\Wd P.X (P.L I (P.rd j) r ok (P.wr I) V) (m+I/P.wt.h+Cu P.rt.h j) w')\/
    (er=6/\¬P.X.cm/\∃rd r ok,aj P.X P.x P.rt P.lb rd/\Wd P.X (P.L I rd r ok (P.wr I) V) (m+I/P.wt.h+Cu P.rt.h P.lb.length+1) w')):=λV w hw=>by
   rw[MT.YN]at hw;refine(uP aw av U.rt (EZ V) U.up a5 hw).mono ?_;rintro e w' (⟨j,r,ok,v,b,he,J,Q,k3⟩|⟨rd,r,ok,he,J,Q,k3⟩)
   ·exact⟨v,b,0,he,.inl ⟨rfl,j,r,ok,J,Q,by rw[MT.YN];exact k3⟩⟩
   ·exact⟨Cz,false,6,he,.inr ⟨rfl,J,rd,r,ok,Q,by rw[MT.YN];exact k3⟩⟩
  have hT:Row (W.alloc (AK #[t.a,t.b,t.c,t.d,t.e] 47)) W 47 (DH t):=heap_alloc_new _ _;have uH:Wd P.X (P.L I (P.rd j) r ok (P.wr I) (zz++[Cv W 47 (DH t)])) (m+I/P.wt.h+Cu P.rt.h j) (W.alloc (AK #[t.a,t.b,t.c,t.d,t.e] 47)):=by
   have:=h.new ((AS W W).alloc ar _) hT ar;rw[MT.Ng]at this;rwa [show m+I/P.wt.h+Cu P.rt.h j=m+(Cu P.rt.h j+I/P.wt.h)by omega]
  have Gp:(W.alloc (AK #[t.a,t.b,t.c,t.d,t.e] 47)).heap.size=W+1:=a8;have ax:Wd P.X (P.L I (P.rd j) r ok (P.wr I) (zz++[Cv W 47 (DH t)]++[Cv (W+1) 47 Z5])) (m+I/P.wt.h+Cu P.rt.h j) ((W.alloc (AK #[t.a,t.b,t.c,t.d,t.e] 47)).alloc (AK #[(),(),(),(),()] 47)):=by
   have:=uH.new ((AS _ _).alloc ar (AK #[(),(),(),(),()] 47)) (heap_alloc_new _ _:Row _ _ 47 Z5) ar;rw[MT.Ng,Gp]at this;exact this
  have O:∀{i rd r ok wo V M w},Wd P.X (P.L i rd r ok wo (zz++[Cv W 47 (DH t)]++V)) M w->(Row w P.gz 170 [P.oJ]/\Row w P.LU 3 [P.key]/\Row w W 47 (DH t))/\Row w P.gy 65 [AI P.y]/\Row w P.gh 148 [.func (.func P.fH) #[] P.Ea]:=λ{i rd r ok wo V M w} q=>
   ⟨⟨q.Ek (by simp[MT.L,MT.rows]),q.Ek (by simp[MT.L,MT.rows]),q.Ek (by simp[MT.L,MT.rows])⟩,q.Ek (by simp[MT.L,MT.rows]),q.Ek (by simp[MT.L,MT.rows])⟩
  have ad:∀l:List Cy,l.length<=P.la.length->P.WrE (I6 P.X.p P.y (P.Qh l) P.X.sz)/\P.WrE (Yt P.X.p P.y (P.Qh l)):=λl hl=>⟨⟨l,hl,.inl rfl⟩,⟨l,hl,.inr rfl⟩⟩;have tf:((P.la.take I).map P.res).length=I:=by rw[Ai,AZ];omega
  have Of:P.la.take (I+1)=P.la.take I++[t]:=by rw[Bj,ht];rfl
  refine fY (u:=P.res t) (key:=P.key) (y:=P.y) (Ea:=P.Ea) (fH:=P.fH)
   (A:=λw=>Wd P.X (P.L I (P.rd j) r ok (P.wr I) (zz++[Cv W.heap.size 47 (DH t)])) (m+I/P.wt.h+Cu P.rt.h j) w)
   (A2:=λw=>Wd P.X (P.L I (P.rd j) r ok (P.wr I) (zz++[Cv W.heap.size 47 (DH t)]++[Cv (W.heap.size+1) 47 Z5])) (m+I/P.wt.h+Cu P.rt.h j) w)
   (FB:=λv b er w=>(er=0/\∃j r ok,FI P.lb (DS t P.key) j r ok/\LK P.lb (DS t P.key)=(if b=true then AE v else AD)/\Wd P.X (P.L I (P.rd j) r ok (P.wr I) (zz++[Cv W.heap.size 47 (DH t)])) (m+I/P.wt.h+Cu P.rt.h j) w)\/
    (er=6/\¬P.X.cm/\∃rd r ok,aj P.X P.x P.rt P.lb rd/\Wd P.X (P.L I rd r ok (P.wr I) (zz++[Cv W.heap.size 47 (DH t)])) (m+I/P.wt.h+Cu P.rt.h P.lb.length+1) w))
   (pz:=λv b er w=>(er=0/\∃j r ok,FI P.lb (DS t P.key) j r ok/\LK P.lb (DS t P.key)=(if b=true then AE v else AD)/\Wd P.X (P.L I (P.rd j) r ok (P.wr I) (zz++[Cv W.heap.size 47 (DH t)]++[Cv (W.heap.size+1) 47 Z5])) (m+I/P.wt.h+Cu P.rt.h j) w)\/
    (er=6/\¬P.X.cm/\∃rd r ok,aj P.X P.x P.rt P.lb rd/\Wd P.X (P.L I rd r ok (P.wr I) (zz++[Cv W.heap.size 47 (DH t)]++[Cv (W.heap.size+1) 47 Z5])) (m+I/P.wt.h+Cu P.rt.h P.lb.length+1) w))
   (B2:=λv b g w=>∃j r ok,FI P.lb (DS t P.key) j r ok/\LK P.lb (DS t P.key)=(if b=true then AE v else AD)/\Wd P.X (P.L I (P.rd j) r ok (P.wr I) (zz++[Cv W.heap.size 47 (DH t)]++[Cv g 47 (DH v)])) (m+I/P.wt.h+Cu P.rt.h j) w)
   (C:=λv b g w=>∃j r ok,FI P.lb (DS t P.key) j r ok/\Wd P.X (P.L (I+1) (P.rd j) r ok (P.wr I) (zz++[Cv W.heap.size 47 (DH t)]++[Cv g 47 (DH v)])) (m+I/P.wt.h+Cu P.rt.h j) w)
   ⟨U.key5,U.how.ent,uH.drewN 1,ax.drewN 1,?_,λw hw=>ao _ w hw,λw hw=>ao _ w hw,?_,?_,?_,?_,?_,?_,?_,?_,?_⟩
  ·rintro w (hw|hw)
   ·exact(O (V:=[]) (by rw[AY];exact hw)).1
   ·exact(O hw).1
  ·rintro v b er w ((⟨_,j,r,ok,_,_,hw⟩|⟨_,_,rd,r,ok,_,hw⟩)|(⟨_,j,r,ok,_,_,hw⟩|⟨_,_,rd,r,ok,_,hw⟩))
   ·exact(O (V:=[]) (by rw[AY];exact hw)).1
   ·exact(O (V:=[]) (by rw[AY];exact hw)).1
   ·exact(O hw).1
   ·exact(O hw).1
  ·rintro v b er w (⟨_,j,r,ok,_,_,hw⟩|⟨_,_,rd,r,ok,_,hw⟩)
   ·exact hw.Ek (by simp[MT.L,Z5,DH,Cz])
   ·exact hw.Ek (by simp[MT.L,Z5,DH,Cz])
  ·have hz:∀g T cs,Cv g T cs∈P.L I (P.rd j) r ok (P.wr I) (zz++[Cv W 47 (DH t)])->g≠W+1:=λg T cs hm=>by
    have:=(uH.Ek hm).lt;rw[Gp]at this;omega
   exact⟨hz _ _ _ (by simp[MT.L,MT.rows];exact .inr (.inr (.inr (.inr (.inr (.inl rfl)))))),hz _ _ _ (by simp[MT.L,MT.rows];exact .inr (.inr (.inr (.inr (.inr (.inr (.inl rfl)))))))⟩
  ·rintro v b er w (⟨he,j,r,ok,J,Q,hw⟩|⟨he,J,hw⟩)
   ·refine .inl ⟨he,j,r,ok,J,Q,?_⟩;have:=hw.new ((AS w w).alloc ar (AK #[v.a,v.b,v.c,v.d,v.e] 47)) (heap_alloc_new _ _:Row _ _ 47 (DH v)) ar;rwa [MT.Ng]at this
   ·obtain⟨rd,r2,ab,Q,k3⟩:=hw;refine .inr ⟨a5,.inr ⟨er,P.L I rd r2 ab (P.wr I) [],rfl,a5,⟨he,J,I,rd,r2,ab,_,Q,(ad _ (by rw[tf];omega)).1,rfl⟩,?_⟩⟩;rw[MT.Ng,BL];exact((MT.pE (λy hy=>by simp at hy;subst hy;exact⟨rfl,rfl⟩) k3).mono a5 a5).below ((AS _ _).alloc ar _)
  ·have al:∀{rd r ok M w} (v:Cy),Wd P.X (P.L I rd r ok (P.wr I) (zz++[Cv W.heap.size 47 (DH t)]++[Cv (W.heap.size+1) 47 Z5])) M w->Wd P.X (P.L I rd r ok (P.wr I) (zz++[Cv W.heap.size 47 (DH t)]++[Cv (W.heap.size+1) 47 (DH v)])) M (((((w.setCell ⟨W.heap.size+1,0,AD⟩ (AA AB v.a)).setCell ⟨W.heap.size+1,1,AD⟩ (AA AB v.b)).setCell ⟨W.heap.size+1,2,AD⟩ (AA AB v.c)).setCell ⟨W.heap.size+1,3,AD⟩ (AA AB v.d)).setCell ⟨W.heap.size+1,4,AD⟩ (AA AB v.e)):=λ{rd r ok M w} v q=>by
    rw[<-MT.Ng]at q⊢;exact Wg q rfl _ _ _ _ _
   rintro v b er w (⟨he,j,r,ok,J,Q,hw⟩|⟨he,J,hw⟩)
   ·exact .inl ⟨he,j,r,ok,J,Q,al v hw⟩
   ·obtain⟨rd,r2,ab,Q,k3⟩:=hw;refine .inr ⟨a5,.inr ⟨er,P.L I rd r2 ab (P.wr I) [],rfl,a5,⟨he,J,I,rd,r2,ab,_,Q,(ad _ (by rw[tf];omega)).1,rfl⟩,?_⟩⟩;rw[MT.Ng,BL];have k4:=al v k3;rw[AR]at k4;exact(MT.pE (λy hy=>by simp at hy;rcases hy with rfl|rfl<;>exact⟨rfl,rfl⟩) k4).mono a5 a5
  ·rintro v b g w (⟨j,r,ok,_,_,hw⟩|⟨j,r,ok,_,hw⟩)
   ·have q:=O hw;exact⟨q.2.1,q.2.2,q.1.2.2,hw.Ek (by simp[MT.L])⟩
   ·have q:=O hw;exact⟨q.2.1,q.2.2,q.1.2.2,hw.Ek (by simp[MT.L])⟩
  ·rintro v b g w ⟨j,r,ok,J,Q,hw⟩;exact⟨j,r,ok,J,Q,hw.drewN 1⟩
  ·rintro v b g w ⟨j,r,ok,J,Q,hw⟩;refine(U.how.how I _ _ w t v b ht Q hw).mono ?_;rintro e w' ⟨he,Kp⟩;exact⟨he,j,r,ok,J,Kp⟩
  ·rintro v b g w ⟨j,r,ok,J,hw⟩;have DT:=Df U.rt.ok.h.1 J.le;have hd:I/P.wt.h<=(I+1)/P.wt.h:=Nat.div_le_div_right a5;have zj:(I+1)/P.wt.h<=I+1:=BX _ _;have hcut:∀{wo M w},Wd P.X (P.L (I+1) (P.rd j) r ok wo (zz++[Cv W 47 (DH t)]++[Cv g 47 (DH v)])) M w->Wd P.X (P.L (I+1) (P.rd j) r ok wo zz) M w:=λ{wo M w} q=>by
    rw[AR]at q;exact MT.pE (λy hy=>by simp at hy;rcases hy with rfl|rfl<;>exact⟨rfl,rfl⟩) q
   refine(RX hw MT.jB (MT.wok U (by rw[tf];omega)) a5 (U.fit t ae) (by show ((P.la.take I).map P.res).length<P.wt.bound;rw[tf,U.wb];exact an)).mono ?_;have aq:(P.Qh ((P.la.take I).map P.res)).snoc (P.res t)=P.Qh ((P.la.take (I+1)).map P.res):=by
    rw[Of,Cn];rfl
   rw[aq,MT.U0,MT.U0];rintro e w' (⟨he,Kp⟩|⟨he,Fy,Kp⟩)
   ·refine⟨0,he,.inl ⟨(I+1,j,r,ok),rfl,⟨rfl,an,_,J,λt' Yc=>?_⟩,?_⟩,?_⟩
    ·obtain⟨q1,q2⟩:=BI.1 ht;obtain⟨q3,q4⟩:=BI.1 Yc;have:=Bh.1 U.keys I (I+1) q1 q3 a5;rwa [q2,q4]at this
    ·have Q:=hcut Kp;show Wd P.X (P.L (I+1) (P.rd j) r ok (P.wr (I+1)) []++zz) (m+(Cu P.rt.h j+(I+1)/P.wt.h)) w';rw[MT.Ng,BL];have e1:m+(Cu P.rt.h j+(I+1)/P.wt.h)=m+I/P.wt.h+Cu P.rt.h j+((((P.la.take I).map P.res).length+1)/P.wt.h-((P.la.take I).map P.res).length/P.wt.h):=by rw[tf];omega
     rw[e1];exact Q
    ·rintro w rfl;have q:=O Kp;exact⟨q.2.1,q.2.2,q.1.2.2,Kp.Ek (by simp[MT.L])⟩
   ·refine⟨6,he,.inr ⟨6,P.L (I+1) (P.rd j) r ok (Yt P.X.p P.y (P.Qh ((P.la.take (I+1)).map P.res))) [],rfl,a5,⟨rfl,Fy,I+1,_,r,ok,_,⟨j,.inl rfl⟩,(ad _ (by rw[Ai,AZ];omega)).2,rfl⟩,?_⟩,?_⟩
    ·rw[MT.Ng,BL];exact(hcut Kp).mono a5 a5
    ·rintro w rfl;have q:=O Kp;exact⟨q.2.1,q.2.2,q.1.2.2,Kp.Ek (by simp[MT.L])⟩
def E1(n:Nat):List Value:=[(),(),(),(),n]
section
variable{X:Cx}{m g s0 n:Nat}{W:World}{pre zz:List DD}{t v:Cy}
def Nr(pre:List DD)(g n:Nat)(zz:List DD)(s0:Nat)(t v:Cy)(cs:List Value):List DD:=pre++[Cv g 125 (E1 n)]++(zz++[Cv s0 47 (DH t),Cv (s0+1) 47 (DH v),Cv (s0+2) 47 cs])
theorem mb(h:Wd X (pre++[Cv g 125 (E1 n)]++zz) m W)(hs0:s0=W):Wd X (Nr pre g n zz s0 t v Z5) m (((W.alloc (AK #[t.a,t.b,t.c,t.d,t.e] 47)).alloc (AK #[v.a,v.b,v.c,v.d,v.e] 47)).alloc (AK #[(),(),(),(),()] 47)):=by
 have J:=h.new ((AS W W).alloc ar (AK #[t.a,t.b,t.c,t.d,t.e] 47)) (heap_alloc_new _ _:Row _ _ 47 (DH t)) ar;have I:=J.new ((AS _ _).alloc ar (AK #[v.a,v.b,v.c,v.d,v.e] 47)) (heap_alloc_new _ _:Row _ _ 47 (DH v)) ar;have h3:=I.new ((AS _ _).alloc ar (AK #[(),(),(),(),()] 47)) (heap_alloc_new _ _:Row _ _ 47 Z5) ar;have e:∀(w:World) (o:Obj),(w.alloc o).heap.size=w+1:=λw o=>by simp
 simp only[e,<-hs0,B8,Cd,AR,CQ,BL]at h3;unfold Nr;simp only[AR,CQ,BL];exact h3
theorem M3{cs}(h:Wd X (Nr pre g n zz s0 t v cs) m W):Row W g 125 (E1 n)/\Row W s0 47 (DH t)/\Row W (s0+1) 47 (DH v)/\Row W (s0+2) 47 cs:=
 ⟨h.Ek (by simp[Nr]),h.Ek (by simp[Nr]),h.Ek (by simp[Nr]),h.Ek (by simp[Nr])⟩
theorem cC{cs}(h:Wd X (Nr pre g n zz s0 t v cs) m W):Wd X (Nr pre g (n+1) zz s0 t v cs) m (W.setCell (g,4) ((n+1:Nat):Int)):=by
 have I:(Nr pre g n zz s0 t v cs)[pre.length]?=AE (Cv g 125 (E1 n)):=by simp[Nr]
 have:=h.store I a6 4 ((n+1:Nat):Int);have e:(Nr pre g n zz s0 t v cs).set pre.length (Cv g 125 ((E1 n).set 4 ((n+1:Nat):Int)))=Nr pre g (n+1) zz s0 t v cs:=by simp[Nr,E1]
 rwa [e]at this
theorem Oe{cs}(I:cs.length=5)(h:Wd X (Nr pre g n zz s0 t v cs) m W)(x0 x1 x2 x3 x4:Value):Wd X (Nr pre g n zz s0 t v [x0,x1,x2,x3,x4]) m (((((W.setCell (s0+2,0) x0).setCell (s0+2,1) x1).setCell (s0+2,2) x2).setCell (s0+2,3) x3).setCell (s0+2,4) x4):=by
 have e:∀cs,Nr pre g n zz s0 t v cs=(pre++[Cv g 125 (E1 n)]++(zz++[Cv s0 47 (DH t),Cv (s0+1) 47 (DH v)]))++[Cv (s0+2) 47 cs]:=λcs=>by simp[Nr]
 rw[e]at h⊢;exact Wg h I _ _ _ _ _
theorem Vk{cs}(h:Wd X (Nr pre g n zz s0 t v cs) m W):Wd X (pre++[Cv g 125 (E1 n)]++zz) m W:=by
 unfold Nr at h;rw[<-AR]at h;have:=Wd.GB (b:=[]) [Cv s0 47 (DH t),Cv (s0+1) 47 (DH v),Cv (s0+2) 47 cs] (λy e=>by simp at e;rcases e with rfl|rfl|rfl<;>exact⟨rfl,rfl⟩) (by rw[AY];exact h);rwa [AY]at this
theorem v8{cs}(h:Wd X (Nr pre g n zz s0 t v cs) m W):g≠s0/\g≠s0+1/\g≠s0+2:=by
 have e:(Nr pre g n zz s0 t v cs)[pre.length]?=AE (Cv g 125 (E1 n)):=by simp[Nr]
 have hb:(Nr pre g n zz s0 t v cs)[pre.length+1+zz.length]?=AE (Cv s0 47 (DH t)):=by
  unfold Nr;rw[<-AR,show pre.length+1+zz.length=(pre++[Cv g 125 (E1 n)]++zz).length by simp;omega,AW ar,As];rfl
 have I:(Nr pre g n zz s0 t v cs)[pre.length+1+zz.length+1]?=AE (Cv (s0+1) 47 (DH v)):=by
  unfold Nr;rw[<-AR,show pre.length+1+zz.length+1=(pre++[Cv g 125 (E1 n)]++zz).length+1 by simp;omega,AW a5,Cq];rfl
 have hd:(Nr pre g n zz s0 t v cs)[pre.length+1+zz.length+2]?=AE (Cv (s0+2) 47 cs):=by
  unfold Nr;rw[<-AR,show pre.length+1+zz.length+2=(pre++[Cv g 125 (E1 n)]++zz).length+2 by simp;omega,AW a5,Cq];rfl
 exact⟨h.apart e hb a5 (k:=g) rfl,h.apart e I a5 (k:=g) rfl,h.apart e hd a5 (k:=g) rfl⟩
theorem uk{b:Bool}(h:Wd X (pre++[Cv g 125 (E1 n)]++zz) m W)(hn:n<=1000000):
  Calls AP 87 #[DW t,DW v,b,AI g] W λe w'=>e=AH (DW (if b=true then v else ⟨t.a,-1,0,0,0⟩))/\Wd X (pre++[Cv g 125 (E1 (if b=true then n+1 else n))]++zz) m w':=by
 obtain⟨s0,hs0⟩:=ae W.heap.size;obtain⟨J,Ky⟩:=ae (((W.alloc (AK #[t.a,t.b,t.c,t.d,t.e] 47)).alloc (AK #[v.a,v.b,v.c,v.d,v.e] 47)).alloc (AK #[(),(),(),(),()] 47));have h3:Wd X (Nr pre g n zz s0 t v Z5) m J:=by rw[Ky];exact mb h hs0
 obtain⟨p1,p2,p3,p4⟩:=M3 h3;obtain⟨RF,PR,ab⟩:=v8 h3;obtain⟨n1,Pr⟩:=ae (n+1);have MX:Ab.wrap ((n:Int)+1)=(n1:Int):=by rw[BQ];omega
 have G7:Hid (∀x0 x1 x2 x3 x4,Row (((((J.setCell (s0+2,0) x0).setCell (s0+2,1) x1).setCell (s0+2,2) x2).setCell (s0+2,3) x3).setCell (s0+2,4) x4) (s0+2) 47 [x0,x1,x2,x3,x4]/\Wd X (pre++[Cv g 125 (E1 n)]++zz) m (((((J.setCell (s0+2,0) x0).setCell (s0+2,1) x1).setCell (s0+2,2) x2).setCell (s0+2,3) x3).setCell (s0+2,4) x4)):=λx0 x1 x2 x3 x4=>
  have q:=Oe rfl h3 x0 x1 x2 x3 x4
  ⟨(M3 q).2.2.2,Vk q⟩
 have ad:Hid (∀x0 x1 x2 x3 x4,Row ((((((J.setCell (g,4) n1).setCell (s0+2,0) x0).setCell (s0+2,1) x1).setCell (s0+2,2) x2).setCell (s0+2,3) x3).setCell (s0+2,4) x4) (s0+2) 47 [x0,x1,x2,x3,x4]/\Wd X (pre++[Cv g 125 (E1 n1)]++zz) m ((((((J.setCell (g,4) n1).setCell (s0+2,0) x0).setCell (s0+2,1) x1).setCell (s0+2,2) x2).setCell (s0+2,3) x3).setCell (s0+2,4) x4)):=λx0 x1 x2 x3 x4=>by
  have q0:=cC h3;rw[<-Pr]at q0;have q:=Oe rfl q0 x0 x1 x2 x3 x4;exact⟨(M3 q).2.2.2,Vk q⟩
 have c4:J.cell? (g,4)=AE (AA AB n):=p1.cell 4;obtain⟨d0,d1,d2,d3,d4⟩:=p2.q5;obtain⟨e0,e1,e2,e3,e4⟩:=p3.q5;obtain⟨z0,z1,z2,z3,z4⟩:=p4.q5;have fg:=p1.free 4;obtain⟨f0,f1,f2,f3,f4⟩:=p4.r5;have Jz:=AO Ky;replace hs0:=AO hs0;have OF:s0≠g:=λe=>RF e.symm;have an:s0+1≠g:=λe=>PR e.symm;have al:s0+2≠g:=λe=>ab e.symm;clear h h3 p1 p2 p3 p4 Ky
 cases b
 ·have HF:Hid (∀w,Wd X (pre++[Cv g 125 (E1 n)]++zz) m w->(Bn (AL #[t.a,AA AB (-1),(),(),()])=AH (DW (if false=true then v else ⟨t.a,-1,0,0,0⟩))/\Wd X (pre++[Cv g 125 (E1 (if false=true then n+1 else n))]++zz) m w)):=λw q=>⟨rfl,q⟩;generalize GP:(λ(e:Ending) (w':World)=>e=AH (DW (if false=true then v else ⟨t.a,-1,0,0,0⟩))/\Wd X (pre++[Cv g 125 (E1 (if false=true then n+1 else n))]++zz) m w')=Dh;replace GP:=AO GP;unfold DW;go_enter func87,ntmps87
  go_upto_region 1 with(fail)
  rw[<-Jz.out,<-hs0.out];clear Jz;simp only[B8,Cd];go_wp2
  obtain⟨I,hw⟩:=G7.out t.a (AA AB (-1)) () () ();have r0:=I.cell 0;have r1:=I.cell 1;have U:=I.cell 2;have Q:=I.cell 3;have O:=I.cell 4;simp only[AX,AV]at r0 r1 U Q O;refine BA (v:=AL #[t.a,AA AB (-1),(),(),()]) (by simp[results,Tryz.results87,go_sem,r0,r1,U,Q,O]) rfl ?_;exact by rw[<-GP.out];exact HF.out _ hw
 ·have HF:Hid (∀w,Wd X (pre++[Cv g 125 (E1 n1)]++zz) m w->(Bn (DW v)=AH (DW (if true=true then v else ⟨t.a,-1,0,0,0⟩))/\Wd X (pre++[Cv g 125 (E1 (if true=true then n+1 else n))]++zz) m w)):=λw q=>⟨rfl,by rw[if_pos rfl,<-Pr];exact q⟩;generalize GP:(λ(e:Ending) (w':World)=>e=AH (DW (if true=true then v else ⟨t.a,-1,0,0,0⟩))/\Wd X (pre++[Cv g 125 (E1 (if true=true then n+1 else n))]++zz) m w')=Dh;replace GP:=AO GP;replace Pr:=AO Pr;unfold DW;go_enter func87,ntmps87
  go_upto_region 1 with(fail)
  rw[<-Jz.out,<-hs0.out];clear Jz;simp only[B8,Cd];go_wp2
  obtain⟨I,hw⟩:=ad.out v.a v.b v.c v.d v.e;have r0:=I.cell 0;have r1:=I.cell 1;have U:=I.cell 2;have Q:=I.cell 3;have O:=I.cell 4;simp only[AX,AV]at r0 r1 U Q O;refine BA (v:=AL #[v.a,v.b,v.c,v.d,v.e]) (by simp[results,Tryz.results87,go_sem,r0,r1,U,Q,O]) rfl ?_;exact by rw[<-GP.out];exact HF.out _ hw
theorem si{b:Bool}(h:Wd X (pre++[Cv g 125 (E1 n)]++zz) m W)(hn:n<=1000000):
  Calls AP 89 #[DW t,DW v,b,AI g] W λe w'=>e=AH (DW (if b=true then ⟨t.a,v.b,Ab.wrap (v.c+t.c),0,0⟩else t))/\Wd X (pre++[Cv g 125 (E1 (if (b&&decide (v.b≠-1))=true then n+1 else n))]++zz) m w':=by
 obtain⟨s0,hs0⟩:=ae W.heap.size;obtain⟨W3,Ky⟩:=ae (((W.alloc (AK #[t.a,t.b,t.c,t.d,t.e] 47)).alloc (AK #[v.a,v.b,v.c,v.d,v.e] 47)).alloc (AK #[(),(),(),(),()] 47));have h3:Wd X (Nr pre g n zz s0 t v Z5) m W3:=by rw[Ky];exact mb h hs0
 obtain⟨p1,p2,p3,p4⟩:=M3 h3;obtain⟨RF,PR,ab⟩:=v8 h3;obtain⟨n1,Pr⟩:=ae (n+1);have MX:Ab.wrap ((n:Int)+1)=(n1:Int):=by rw[BQ];omega
 have G7:Hid (∀x0 x1 x2 x3 x4,Row (((((W3.setCell (s0+2,0) x0).setCell (s0+2,1) x1).setCell (s0+2,2) x2).setCell (s0+2,3) x3).setCell (s0+2,4) x4) (s0+2) 47 [x0,x1,x2,x3,x4]/\Wd X (pre++[Cv g 125 (E1 n)]++zz) m (((((W3.setCell (s0+2,0) x0).setCell (s0+2,1) x1).setCell (s0+2,2) x2).setCell (s0+2,3) x3).setCell (s0+2,4) x4)):=λx0 x1 x2 x3 x4=>
  have q:=Oe rfl h3 x0 x1 x2 x3 x4
  ⟨(M3 q).2.2.2,Vk q⟩
 have ad:Hid (∀x0 x1 x2 x3 x4,Row ((((((W3.setCell (g,4) n1).setCell (s0+2,0) x0).setCell (s0+2,1) x1).setCell (s0+2,2) x2).setCell (s0+2,3) x3).setCell (s0+2,4) x4) (s0+2) 47 [x0,x1,x2,x3,x4]/\Wd X (pre++[Cv g 125 (E1 n1)]++zz) m ((((((W3.setCell (g,4) n1).setCell (s0+2,0) x0).setCell (s0+2,1) x1).setCell (s0+2,2) x2).setCell (s0+2,3) x3).setCell (s0+2,4) x4)):=λx0 x1 x2 x3 x4=>by
  have q0:=cC h3;rw[<-Pr]at q0;have q:=Oe rfl q0 x0 x1 x2 x3 x4;exact⟨(M3 q).2.2.2,Vk q⟩
 have c4:W3.cell? (g,4)=AE (AA AB n):=p1.cell 4;obtain⟨d0,d1,d2,d3,d4⟩:=p2.q5;obtain⟨e0,e1,e2,e3,e4⟩:=p3.q5;obtain⟨z0,z1,z2,z3,z4⟩:=p4.q5;have fg:=p1.free 4;obtain⟨f0,f1,f2,f3,f4⟩:=p4.r5;have Jz:=AO Ky;replace hs0:=AO hs0;have OF:s0≠g:=λe=>RF e.symm;have an:s0+1≠g:=λe=>PR e.symm;have al:s0+2≠g:=λe=>ab e.symm;clear h h3 p1 p2 p3 p4 Ky;obtain⟨q,hq⟩:=ao (Ab.wrap (v.c+t.c))
 cases b
 ·have HF:Hid (∀w,Wd X (pre++[Cv g 125 (E1 n)]++zz) m w->(Bn (DW t)=AH (DW (if false=true then ⟨t.a,v.b,Ab.wrap (v.c+t.c),0,0⟩else t))/\Wd X (pre++[Cv g 125 (E1 (if (false&&decide (v.b≠-1))=true then n+1 else n))]++zz) m w)):=λw k=>⟨by rfl,by rw[if_neg a8];exact k⟩;generalize GP:(λ(e:Ending) (w':World)=>e=AH (DW (if false=true then ⟨t.a,v.b,Ab.wrap (v.c+t.c),0,0⟩else t))/\Wd X (pre++[Cv g 125 (E1 (if (false&&decide (v.b≠-1))=true then n+1 else n))]++zz) m w')=Dh;replace GP:=AO GP;replace Pr:=AO Pr;unfold DW;go_enter func89,ntmps89
  go_upto_region 1 with(fail)
  rw[<-Jz.out,<-hs0.out];clear Jz;simp only[B8,Cd];go_wp2
  obtain⟨I,hw⟩:=G7.out t.a t.b t.c t.d t.e;have r0:=I.cell 0;have U:=I.cell 1;have Q:=I.cell 2;have O:=I.cell 3;have J:=I.cell 4;simp only[AX,AV]at r0 U Q O J;refine BA (v:=AL #[t.a,t.b,t.c,t.d,t.e]) (by simp[results,Tryz.results89,go_sem,r0,U,Q,O,J]) rfl ?_;exact by rw[<-GP.out];exact HF.out _ hw
 ·by_cases hb:v.b=-1
  ·have g1:(v.b !=-1)=false:=by simpa using hb
   have hnb:¬(true&&decide (v.b≠-1))=true:=by simp[hb]
   replace hb:=AO hb;replace hnb:=AO hnb;have HF:Hid (∀w,Wd X (pre++[Cv g 125 (E1 n)]++zz) m w->(Bn (DW ⟨t.a,v.b,q,0,0⟩)=AH (DW (if true=true then ⟨t.a,v.b,Ab.wrap (v.c+t.c),0,0⟩else t))/\Wd X (pre++[Cv g 125 (E1 (if (true&&decide (v.b≠-1))=true then n+1 else n))]++zz) m w)):=λw k=>⟨by rw[if_pos rfl,hq],by rw[if_neg hnb.out];exact k⟩;generalize GP:(λ(e:Ending) (w':World)=>e=AH (DW (if true=true then ⟨t.a,v.b,Ab.wrap (v.c+t.c),0,0⟩else t))/\Wd X (pre++[Cv g 125 (E1 (if (true&&decide (v.b≠-1))=true then n+1 else n))]++zz) m w')=Dh;replace GP:=AO GP;replace Pr:=AO Pr;unfold DW;go_enter func89,ntmps89
   go_upto_region 1 with(fail)
   rw[<-Jz.out,<-hs0.out];clear Jz;simp only[B8,Cd];go_wp2
   obtain⟨I,hw⟩:=G7.out t.a v.b q () ();have r0:=I.cell 0;have U:=I.cell 1;have Q:=I.cell 2;have O:=I.cell 3;have J:=I.cell 4;simp only[AX,AV]at r0 U Q O J;refine BA (v:=AL #[t.a,v.b,q,(),()]) (by simp[results,Tryz.results89,go_sem,r0,U,Q,O,J]) rfl ?_;exact by rw[<-GP.out];exact HF.out _ hw
  ·have g1:(v.b !=-1)=true:=by simpa using hb
   have hnb:(true&&decide (v.b≠-1))=true:=by simp[hb]
   replace hb:=AO hb;replace hnb:=AO hnb;have HF:Hid (∀w,Wd X (pre++[Cv g 125 (E1 n1)]++zz) m w->(Bn (DW ⟨t.a,v.b,q,0,0⟩)=AH (DW (if true=true then ⟨t.a,v.b,Ab.wrap (v.c+t.c),0,0⟩else t))/\Wd X (pre++[Cv g 125 (E1 (if (true&&decide (v.b≠-1))=true then n+1 else n))]++zz) m w)):=λw k=>⟨by rw[if_pos rfl,hq],by rw[if_pos hnb.out,<-Pr];exact k⟩;generalize GP:(λ(e:Ending) (w':World)=>e=AH (DW (if true=true then ⟨t.a,v.b,Ab.wrap (v.c+t.c),0,0⟩else t))/\Wd X (pre++[Cv g 125 (E1 (if (true&&decide (v.b≠-1))=true then n+1 else n))]++zz) m w')=Dh;replace GP:=AO GP;replace Pr:=AO Pr;unfold DW;go_enter func89,ntmps89
   go_upto_region 1 with(fail)
   rw[<-Jz.out,<-hs0.out];clear Jz;simp only[B8,Cd];go_wp2
   obtain⟨I,hw⟩:=ad.out t.a v.b q () ();have r0:=I.cell 0;have U:=I.cell 1;have Q:=I.cell 2;have O:=I.cell 3;have J:=I.cell 4;simp only[AX,AV]at r0 U Q O J;refine BA (v:=AL #[t.a,v.b,q,(),()]) (by simp[results,Tryz.results89,go_sem,r0,U,Q,O,J]) rfl ?_;exact by rw[<-GP.out];exact HF.out _ hw
end
theorem Q9(k i g N cap:Nat)(w:World)(Vn:0<k)(hk:k<=5)(hn:i*k+k<=N)(hc:N<=cap)(Sf:cap<=1000000):Calls AP 158 #[AL #[k,AJ g N cap],i] w λe w'=>e=AH (AJ (g,i*k) k (cap-i*k))/\Below w w w':=by
 have Dg:=(AS w w).alloc ar (AK #[k,AJ g N cap] 223);have HB:=AO Dg;have U:Row (w.alloc (AK #[k,AJ g N cap] 223)) w 223 [k,AJ g N cap]:=heap_alloc_new _ _;obtain⟨c0,c1⟩:=U.q2;have Q:i<=i*k:=Nat.le_mul_of_pos_right _ Vn;obtain⟨a,J⟩:=ae (i*k);have hmul:(i:Int)*(k:Int)=(a:Int):=by rw[J];exact(Br i k).symm
 rw[<-J]at hn Q⊢;obtain⟨u,hu⟩:=ae (a+k);obtain⟨O,cN⟩:=ae (i+1);have MX:(i:Int)+1=(O:Int):=a5;have al:(O:Int)*(k:Int)=(u:Int):=by rw[hu,cN,J,<-Br,A7,BH]
 have I:u-a=k:=a5;have hcut:=λW=>KD (P:=AP) W 116 120 _ Be (info_parts QO).choose_spec.1 (info_parts QO).choose_spec.2.2.1 g N cap a u a5 a5 AB AB (a:Int) (u:Int) rfl rfl;rw[I,EX a5,BM,Cm]at hcut;have Sl:a<=1000000:=a5;have RD:u<=1000000:=a5;have ad:i<=1000000:=a5;have ab:O<=1000001:=a5;clear U J hu I Dg hn cN Q;go_enter func158,ntmps158
 go_wp2
 go_ret
 exact⟨rfl,HB.out⟩
theorem cS{W g N cap k i}{ws:List Nat}{t}(hg:Row W g 120 (ws.map vw))(Q:0<k/\k<=5)(hn:i*k+k<=N)(hc:N<=cap)(Sf:cap<=1000000)(hw:N<=ws.length)(ht:(ws.drop (i*k)).take k=DZ k t)(O:D7 t)(hf:Db k t=true):
  Calls AP 192 #[AL #[k,AJ g N cap],i] W λe w'=>e=AH (AL #[t.a,t.b,t.c,t.d,t.e])/\Below W W w':=by
 obtain⟨W3,e3,b3,s3,r1,r2,r3⟩:=V3 W [k,AJ g N cap] [(),(),(),(),()] [(),(),(),(),()] 223 47 47;have Jz:=AO e3;have Ei:=AO b3;have dJ:=AO s3;have O8:=AO r2;have IG:=AO r3;have al:=AO (hg.below b3 hg.lt);obtain⟨c0,c1⟩:=r1.q2;have ab:=hg.lt;have ae:Hid (g<W):=ab;have GC:Hid (∀w,Calls AP 158 #[AL #[k,AJ g N cap],i] w λe w'=>e=AH (AJ (g,i*k) k (cap-i*k))/\Below w w w'):=λw=>Q9 k i g N cap w Q.1 Q.2 hn hc Sf;have pq:Hid (Ev k (DZ k t) k=[AA AB t.a,AA AB t.b,AA AB t.c,AA AB t.d,AA AB t.e]):=by
  unfold Hid;rw[P9 Q.2,Rb Q.2 O hf]
 have Qe:Hid (Ev k (DZ k t) 0=[AA AB 0,AA AB 0,AA AB 0,AA AB 0,AA AB 0]):=N7 _ _;have pg:Hid (∀i j,j<5->∃v,(Ev k (DZ k t) i)[j]?=AE v):=λi j J=>⟨_,AU (show j<(Ev k (DZ k t) i).length from J)⟩;have TT:Hid (∀j,j<k->(Ev k (DZ k t) j).set j (AA AB (Ab.wrap ((ws.getD (i*k+j) 0:Nat):Int)))=Ev k (DZ k t) (j+1)):=by
  intro j J;rw[<-P8 Q.2 _ J,<-ht]
  congr 4
  rw[AT,AT,At,if_pos J,Bc]
 have Q7:Hid (i*k+k<=ws.length):=by unfold Hid;omega
 generalize Ev k (DZ k t)=CC at*
 generalize hoff:i*k=off at*
 replace hoff:=AO hoff;obtain⟨TA,TB,TC,TD,U⟩:=t;simp only at*
 clear hn ht O hf e3 b3 s3 r1 r2 r3 hw ab hg;go_enter func192,ntmps192
 go_upto_region 2 with(fail)
 rw[<-Jz.out];clear Jz;generalize hS:W.heap.size=s at*
 replace hS:=AO hS;go_wp2_with fail
 refine(GC.out _).mono ?_;rintro e w4 ⟨rfl,IE⟩;have PL:Hid (Below (s+2) W3 w4):=IE.mono (by rw[dJ.out];omega);have dM:Hid (Row w4 (s+2) 47 (CC 0)):=by unfold Hid;rw[Qe.out];exact IG.out.below IE IG.out.lt
 clear IE IG Qe c0 c1;go_wp2
 go_loopw [6,7,12] (λ_ _ iv wr=>∃j:Nat,j<=k/\iv=AA AB (j:Int)/\Hid (Below (s+2) W3 wr)/\Hid (Row wr (s+2) 47 (CC j))) (λ_ _ iv _=>k-(BF iv).toNat)
 case atStart=>exact⟨0,Ao _,rfl,PL.out,dM.out⟩
 case round=>
  obtain⟨j,J,rfl,HF,IF⟩:=hrel;by_cases ad:j<k
  ·have Kq:=TT.out j ad;have Pp:off+j<ws.length:=by have:=Q7.out;omega
   have cw:wr.cell? (g,off+j)=AE (.int .u64 (ws.getD (off+j) 0:Nat)):=by
    rw[(al.out.below HF.out (by have:=ae.out;omega)).cell (off+j)];exact MF Pp
   obtain⟨v0,ct⟩:=pg.out j j a5;have ct:wr.cell? (s+2,j)=AE v0:=by rw[IF.out.cell j];exact ct
   have fg:=IF.out.free j;have G7:Hid (Row (wr.setCell (s+2,j) (AA AB (Ab.wrap ((ws.getD (off+j) 0:Nat):Int)))) (s+2) 47 (CC (j+1))):=by
    have h1:=IF.out.set j (AA AB (Ab.wrap ((ws.getD (off+j) 0:Nat):Int)));rw[Kq]at h1;exact h1
   have OI:Hid (Below (s+2) W3 (wr.setCell (s+2,j) (AA AB (Ab.wrap ((ws.getD (off+j) 0:Nat):Int))))):=HF.out.setCell ar _;have UW:(0:Int)<=(j:Int):=a5;have nI:(j:Int)<(k:Int):=a5;have cM:(j:Int)<5:=a5;clear Kq Pp J;generalize ws.getD (off+j) 0=u at*
   obtain⟨z,hz⟩:=ao (Ab.wrap (u:Int));rw[hz]at G7 OI;go_wp2
   go_roundw
   case rel=>exact⟨j+1,a5,by go_num,OI.out,G7.out⟩
   case measure=>simp[BF];omega
  ·obtain rfl:j=k:=a5;have I:=IF.out;rw[pq.out]at I;have d0:=I.cell 0;have d1:=I.cell 1;have d2:=I.cell 2;have d3:=I.cell 3;have d4:=I.cell 4;simp only[AX,AV]at d0 d1 d2 d3 d4;have MM:=O8.out.below HF.out a5;obtain⟨e0,e1,e2,e3,e4⟩:=MM.q5;obtain⟨f0,f1,f2,f3,f4⟩:=MM.r5;have Eg:Hid (Row (((((wr.setCell (s+1,0) TA).setCell (s+1,1) TB).setCell (s+1,2) TC).setCell (s+1,3) TD).setCell (s+1,4) U) (s+1) 47 [TA,TB,TC,TD,U]):=((((MM.set 0 TA).set 1 TB).set 2 TC).set 3 TD).set 4 U;have an:Hid (Below s W (((((wr.setCell (s+1,0) TA).setCell (s+1,1) TB).setCell (s+1,2) TC).setCell (s+1,3) TD).setCell (s+1,4) U)):=by
    have h1:=Ei.out.trans (HF.out.mono (show s<=s+2 by omega));exact((((h1.setCell (p:=⟨s+1,0,AD⟩) (by show s<=s+1;omega) _).setCell (p:=⟨s+1,1,AD⟩) (by show s<=s+1;omega) _).setCell (p:=⟨s+1,2,AD⟩) (by show s<=s+1;omega) _).setCell (p:=⟨s+1,3,AD⟩) (by show s<=s+1;omega) _).setCell (p:=⟨s+1,4,AD⟩) (by show s<=s+1;omega) _
   clear I MM;go_wp2
   have q0:=Eg.out.cell 0;have q1:=Eg.out.cell 1;have q2:=Eg.out.cell 2;have q3:=Eg.out.cell 3;have q4:=Eg.out.cell 4;simp only[AX,AV]at q0 q1 q2 q3 q4;refine BA (v:=AL #[TA,TB,TC,TD,U]) (by simp[results,Tryz.results192,go_sem,q0,q1,q2,q3,q4]) rfl ⟨rfl,by rw[hS.out];exact an.out⟩
theorem ru{W}{g N cap k i:Nat}{ws}(t:Cy)(hg:Row W g 120 (ws.map vw))(hk:0<k/\k<=5)(hn:i*k+k<=N)(hc:N<=cap)(Sf:cap<=1000000)(hw:N<=ws.length):
  Calls AP 154 #[AL #[k,AJ g N cap],i,AL #[t.a,t.b,t.c,t.d,t.e]] W λe w'=>e=AH (AM #[])/\Row w' g 120 ((splice ws (i*k) (DZ k t)).map vw)/\DJ (λb=>b=g) W w':=by
 obtain⟨W2,e2,b2,s2,r1,r2⟩:=TM W [k,AJ g N cap] [t.a,t.b,t.c,t.d,t.e] 223 47;have ad:=hg.lt;have J:∀w,Calls AP 158 #[AL #[k,AJ g N cap],i] w λe w'=>e=AH (AJ (g,i*k) k (cap-i*k))/\Below w w w':=λw=>Q9 k i g N cap w hk.1 hk.2 hn hc Sf;have Te:=Ft hk.2 t;have vW:Hid (∀j,j<k->∃z,(DH t)[j]?=AE (AA AB z)/\(DZ k t)[j]?=AE (uw z)):=λj hj=>by
  have cM:j<t.EE.length:=by rw[Cy.TG];omega
  refine⟨t.EE[j],?_,?_⟩
  ·have e:DH t=t.EE.map (BZ AB):=rfl;rw[e,Bk,AU cM];rfl
  ·unfold DZ;rw[Bk,At,if_pos hj,AU cM];rfl
 have vB:Hid (∀j z,j<k->(DZ k t)[j]?=AE (uw z)->((splice ws (i*k) ((DZ k t).take j)).map vw).set (i*k+j) (.int .u64 (uw z:Nat))=(splice ws (i*k) ((DZ k t).take (j+1))).map vw/\i*k+j<((splice ws (i*k) ((DZ k t).take j)).map vw).length):=λj z hj hz=>by
  refine⟨?_,?_⟩
  ·rw[<-Rs ws _ (i*k) j (uw z) hz (by rw[Te];omega),List.map_set];rfl
  ·rw[Ai,DO _ _ _ (by rw[AZ,Te];omega)];omega
 have Tl:Hid (ws.map vw=(splice ws (i*k) ((DZ k t).take 0)).map vw):=by unfold Hid splice;simp
 have av:Hid ((DZ k t).take k=DZ k t):=Ay a5;have Lv:=AO e2;have Fg:=AO b2;have Lw:=AO s2;have jj:=AO (hg.below b2 hg.lt);have GC:=AO J;have Ka:=AO r1;have O8:Hid (Row W2 (W+1) 47 (DH t)):=r2;have al:=AO ad;have T7:Hid (DJ (λb=>b=g) W W2):=DJ.DE b2 _;obtain⟨c0,c1⟩:=r1.q2;generalize DZ k t=WL at*
 generalize hoff:i*k=off at*
 replace hoff:=AO hoff;clear Te J e2 b2 s2 r1 r2 hn hw hg ad;go_enter func154,ntmps154
 go_upto_region 1 with(fail)
 have e2:=Lv.out;change W2=(W.alloc (AK #[k,AJ g N cap] 223)).alloc (AK #[t.a,t.b,t.c,t.d,t.e] 47)at e2;rw[<-e2];clear e2 Lv;generalize hS:W.heap.size=s at*
 replace hS:=AO hS;go_wp2_with fail
 refine(GC.out _).mono ?_;rintro e w4 ⟨rfl,IE⟩;have ay:=AO (Ka.out.below IE Ka.out.lt);have az:=AO (O8.out.below IE O8.out.lt);have aw:Hid (Row w4 g 120 ((splice ws off (WL.take 0)).map vw)):=by unfold Hid;rw[<-Tl.out];exact jj.out.below IE jj.out.lt
 have ax:Hid (DJ (λb=>b=g) W w4):=T7.out.trans (DJ.DE IE (λ_=>False)) λ_ h=>h.elim;clear IE jj Ka O8 Tl c0 c1 Fg;go_wp2
 go_loopw [6,11] (λ_ iv wr=>∃j:Nat,j<=k/\iv=AA AB (j:Int)/\Hid (DJ (λb=>b=g) W wr)/\Hid (Row wr s 223 [k,AJ g N cap])/\Hid (Row wr (s+1) 47 (DH t))/\Hid (Row wr g 120 ((splice ws off (WL.take j)).map vw))) (λ_ iv _=>k-(BF iv).toNat)
 case atStart=>exact⟨0,Ao _,rfl,ax.out,ay.out,az.out,aw.out⟩
 case round=>
  obtain⟨j,hj,rfl,HF,pO,dL,pM⟩:=hrel;by_cases ab:j<k
  ·obtain⟨z,FJ,KU⟩:=vW.out j ab;have KU:=AO KU;have HK:Hid (∀I,Below wr wr I->(I.cell? s=AE (AA AB k)/\I.cell? (s,1)=AE (AJ g N cap)/\I.cell? (s+1,j)=AE (AA AB z))/\Row I g 120 ((splice ws off (WL.take j)).map vw)):=λI hb=>by
    have h1:=pO.out.below hb pO.out.lt;have h2:=dL.out.below hb dL.out.lt;refine⟨⟨h1.cell 0,h1.cell 1,?_⟩,pM.out.below hb pM.out.lt⟩;rw[h2.cell j];exact FJ
   have q1:=(HK.out wr.drew (DC (AS _ _))).1;have Du:Hid (∀I,Below wr wr I->(∃v,I.cell? (g,off+j)=AE v)/\I.frozen? (g,off+j)=false/\DJ (λb=>b=g) W (I.setCell (g,off+j) (.int .u64 (uw z:Nat)))/\Row (I.setCell (g,off+j) (.int .u64 (uw z:Nat))) s 223 [k,AJ g N cap]/\Row (I.setCell (g,off+j) (.int .u64 (uw z:Nat))) (s+1) 47 (DH t)/\Row (I.setCell (g,off+j) (.int .u64 (uw z:Nat))) g 120 ((splice ws off (WL.take (j+1))).map vw)/\((I.setCell (g,off+j) (.int .u64 (uw z:Nat))).cell? s=AE (AA AB k)/\(I.setCell (g,off+j) (.int .u64 (uw z:Nat))).cell? (s,1)=AE (AJ g N cap)/\(I.setCell (g,off+j) (.int .u64 (uw z:Nat))).cell? (s+1,j)=AE (AA AB z))):=λI hb=>by
    obtain⟨Gp,G9⟩:=vB.out j z ab KU.out;have O:=(HK.out I hb).2;have tq:g≠s:=by have:=al.out;omega
    have aA:g≠s+1:=by have:=al.out;omega
    have Q:=(pO.out.below hb pO.out.lt).E4 (p:=(g,off+j)) (λe=>tq e.symm) (.int .u64 (uw z:Nat));have ae:=(dL.out.below hb dL.out.lt).E4 (p:=(g,off+j)) (λe=>aA e.symm) (.int .u64 (uw z:Nat));refine⟨⟨_,by rw[O.cell (off+j)];exact AU G9⟩,O.free _,?_,Q,ae,?_,Q.cell 0,Q.cell 1,by rw[ae.cell j];exact FJ⟩
    ·exact(HF.out.trans (DJ.DE hb (λ_=>False)) λ_ h=>h.elim).set (p:=(g,off+j)) (.inl rfl) _
    ·have:=O.set (off+j) (.int .u64 (uw z:Nat));rw[Gp]at this;exact this
   have UW:(0:Int)<=(j:Int):=a5;have nI:(j:Int)<(k:Int):=a5;have cM:(j:Int)<5:=a5;have aB:IntKind.u64.wrap z=((uw z:Nat):Int):=bK z;clear FJ;generalize uw z=u at*
   go_wp2
   go_region_held3 (λw'=>w'.cell? s=AE (AA AB k)/\w'.cell? (s,1)=AE (AJ g N cap)/\w'.cell? (s+1,j)=AE (AA AB z)) (first|with_reducible exact q1|with_reducible exact q2|with_reducible exact q3)
    (first
     |(go_at_call 158;(with_reducible refine(GC.out _).mono ?_);rintro e w5 ⟨rfl,Fx⟩;have Nx:Below wr.heap.size wr w5:=(DC (AS _ _)).trans Fx;have q2:=(HK.out w5 Nx).1;obtain⟨⟨v9,ar⟩,au,we,an,ao,aq,q3⟩:=Du.out w5 Nx))
   have H5:=AO (Bt we (Bt an (Bt ao aq)));clear we an ao aq q2 q3 q1 ar au Nx Fx;go_wp2
   go_roundw
   case rel=>exact⟨j+1,a5,by go_num,H5.out.1,H5.out.2.1,H5.out.2.2.1,H5.out.2.2.2⟩
   case measure=>simp[BF];omega
  ·obtain rfl:j=k:=a5;have U:=pM.out;rw[av.out]at U;have H9:=AO U;clear U;go_wp2
   go_end0
   exact⟨rfl,H9.out,HF.out⟩
theorem oZ(o a b:Cy)(hf:Fm o)(w:World):Calls AP 186 #[AL #[a.a,a.b,a.c,a.d,a.e],AL #[b.a,b.b,b.c,b.d,b.e],AL #[o.a,o.b,o.c,o.d,o.e]] w λe w'=>e=AH (AA AB (DV o a b))/\Below w w w':=by
 obtain⟨W1,EJ,Dg,s1,r1,r2,r3⟩:=V3 w [a.a,a.b,a.c,a.d,a.e] [b.a,b.b,b.c,b.d,b.e] [o.a,o.b,o.c,o.d,o.e] 47 47 132;have FQ:=AO EJ;have U:=AO Dg;have HA:Hid (∀q i,i<5->(W1.drewN q).cell? (w,i)=AE (AA AB (DS a i))):=λq i hi=>O3 r1 hi;have ao:Hid (∀q i,i<5->(W1.drewN q).cell? ⟨w.heap.size+1,i,AD⟩=AE (AA AB (DS b i))):=λq i hi=>O3 r2 hi;obtain⟨d0,d1,d2,d3,d4⟩:=r3.q5;have ab:DV o a b=cmpL o.EE a b:=by unfold DV;rw[if_pos hf]
 have pL:Hid (∀i,i<5->-5<=DS o i/\DS o i<=5):=λi hi=>(hf i hi).1;have ar:Hid (∀i:Nat,i<5->∀W:World,(CX 132 (AL #[o.a,o.b,o.c,o.d,o.e]) i).run AP W=.ok (AA AB (DS o i)) W):=λi hi W=>Mz _ rfl o hi W;rw[ab];have G7:Hid (cmpL (o.EE.drop 0) a b=cmpL o.EE a b):=rfl;generalize cmpL o.EE a b=res at*
 clear hf ab r1 r2 r3 Dg s1 EJ;go_enter func186,ntmps186
 go_upto_region 1 with(fail)
 rw[<-FQ.out];clear FQ;go_wp2_with fail
 go_loopw [11] (λiv wr=>∃i q:Nat,i<=5/\iv=AA AB (i:Int)/\W1.drewN q=wr/\Hid (cmpL (o.EE.drop i) a b=res)) (λiv _=>5-(BF iv).toNat)
 case atStart=>exact⟨0,0,a5,rfl,rfl,G7.out⟩
 case round=>
  obtain⟨i,q,hi,rfl,rfl,HC⟩:=hrel;clear G7;by_cases al:i<5
  ·have g1:decide ((i:Int)<5)=true:=by simp;omega
   have i0:(0:Int)<=(i:Int):=a5;have i1:(i:Int)<5:=a5;obtain⟨z,hz⟩:=ae (DS o i);have an:Hid (-5<=z/\z<=5):=by rw[hz];exact pL.out i al
   have Lz:Hid (cmpL (z::o.EE.drop (i+1)) a b=res):=by rw[hz,<-uV al];exact HC.out
   have au:∀W:World,(CX 132 (AL #[o.a,o.b,o.c,o.d,o.e]) i).run AP W=.ok z W:=λW=>by rw[hz];exact ar.out i al W
   clear HC hz;by_cases Q:z=0
   ·have gz:(z==0)=true:=by simpa using Q
    have aq:decide (z=0)=true:=by simpa using Q
    have J:res=0:=by rw[<-Lz.out,Q,Hz]
    subst J;clear Q;go_wp2
    go_ret
    exact⟨rfl,FO U.out _⟩
   ·have gz:(z==0)=false:=by simpa using Q
    have aq:decide (z=0)=false:=by simpa using Q
    have jW:=Zl Q an.out;have HQ:Hid (∀q r,Calls AP 112 #[z] (W1.drewN (q+r)) λe Eo=>e=AH (Fe z:Nat)/\∃n,Eo=W1.drewN (q+n)):=λq r=>by
     have:=Vx z an.out (W1.drewN (q+r));rw[Vy Q]at this;exact this.mono λ_ _ ⟨he,hw⟩=>⟨he,r,hw⟩
    obtain⟨x,hx⟩:=ae (DS a (Fe z));obtain⟨y,hy⟩:=ae (DS b (Fe z));have yx:∀q,(W1.drewN q).cell? ⟨w,Fe z,AD⟩=AE (AA AB x):=λq=>by rw[hx];exact HA.out q _ jW
    have yy:∀q,(W1.drewN q).cell? ⟨w+1,Fe z,AD⟩=AE (AA AB y):=λq=>by rw[hy];exact ao.out q _ jW
    have RP:Hid (x=y->cmpL (o.EE.drop (i+1)) a b=res):=λh=>by rw[<-Lz.out,KI Q _ (by rw[<-hx,<-hy];exact h)]
    have KM:Hid (x<y->(if 0<z then (-1:Int)else 1)=res):=λh=>by rw[<-Lz.out,IU Q _ (by rw[<-hx,<-hy];exact h)]
    have O:Hid (y<x->(if 0<z then (1:Int)else -1)=res):=λh=>by rw[<-Lz.out,IV Q _ (by rw[<-hx,<-hy];exact h)]
    have xg:Hid (∀v,TI x y=v->∀q r,Calls AP 187 #[x,y] (W1.drewN (q+r)) λe Eo=>e=AH v/\∃n,Eo=W1.drewN (q+n)):=λv hv q r=>by
     have:=mV x y (W1.drewN (q+r));rw[hv]at this;exact this.mono λ_ _ ⟨he,hw⟩=>⟨he,r,hw⟩
    have k0:(0:Int)<=((Fe z:Nat):Int):=a5;have k1:((Fe z:Nat):Int)<5:=a5;have ad:0<z\/z<0:=a5;generalize Fe z=c at*
    clear hx hy Q Lz HA ao;rcases Co x y with h|h|h
    ·have I:=AO (xg.out (-1) (by unfold TI;rw[if_pos h]));have J:=KM.out h;rcases ad with hp|hp
     ·rw[if_pos hp]at J;have gp:decide (z<0)=false:=by simp;omega
      subst J;clear h hp KM O RP xg;go_wp2
      go_quiet ((with_reducible first|exact HQ.out _ _|exact I.out _ _))
      go_wp2
      go_ret
      exact⟨rfl,by first|exact FO U.out _|exact FO (FO U.out _) _⟩
     ·rw[if_neg a5]at J;have gp:decide (z<0)=true:=by simpa using hp
      subst J;clear h hp KM O RP xg;go_wp2
      go_quiet ((with_reducible first|exact HQ.out _ _|exact I.out _ _))
      go_wp2
      go_ret
      exact⟨rfl,by first|exact FO U.out _|exact FO (FO U.out _) _⟩
    ·have I:=AO (xg.out 0 (by unfold TI;rw[if_neg a5,if_pos h]));have HN:=AO (RP.out h);clear h KM O RP xg ad;go_wp2
     go_quiet ((with_reducible first|exact HQ.out _ _|exact I.out _ _))
     go_wp2
     go_roundw
     case rel=>exact⟨i+1,_,a5,by go_num,rfl,HN.out⟩
     case measure=>simp[BF];omega
    ·have I:=AO (xg.out 1 (by unfold TI;rw[if_neg a5,if_neg a5]));have J:=O.out h;rcases ad with hp|hp
     ·rw[if_pos hp]at J;have gp:decide (z<0)=false:=by simp;omega
      subst J;clear h hp KM O RP xg;go_wp2
      go_quiet ((with_reducible first|exact HQ.out _ _|exact I.out _ _))
      go_wp2
      go_ret
      exact⟨rfl,by first|exact FO U.out _|exact FO (FO U.out _) _⟩
     ·rw[if_neg a5]at J;have gp:decide (z<0)=true:=by simpa using hp
      subst J;clear h hp KM O RP xg;go_wp2
      go_quiet ((with_reducible first|exact HQ.out _ _|exact I.out _ _))
      go_wp2
      go_ret
      exact⟨rfl,by first|exact FO U.out _|exact FO (FO U.out _) _⟩
  ·obtain rfl:i=5:=a5;have J:res=0:=by rw[<-HC.out,oP];rfl
   subst J;clear HC;go_wp2
   go_ret
   exact⟨rfl,FO U.out _⟩
theorem RJ(o a b:Cy)(w:World):Calls AP 185 #[AL #[a.a,a.b,a.c,a.d,a.e],AL #[b.a,b.b,b.c,b.d,b.e],AL #[o.a,o.b,o.c,o.d,o.e]] w λe w'=>e=AH (AA AB (DV o a b))/\Below w w w':=by
 obtain⟨W1,EJ,Dg,s1,r1,r2,J⟩:=V3 w [a.a,a.b,a.c,a.d,a.e] [b.a,b.b,b.c,b.d,b.e] [o.a,o.b,o.c,o.d,o.e] 47 47 132;have U:=AO EJ;have HB:=AO Dg;have O7:=AO s1;have Ka:=AO r1;have O8:=AO r2;have IG:=AO J;obtain⟨d0,d1,d2,d3,d4⟩:=J.q5;have O:=AO (LV o);by_cases hf:Fm o
 ·have ab:=AO (oZ o a b hf);rw[decide_eq_true hf]at O;generalize DV o a b=res at*
  clear hf r1 r2 J Dg s1 EJ;go_enter func185,ntmps185
  go_upto_region 1 with(fail)
  rw[<-U.out];clear U;go_wp2_with fail
  refine(O.out _).mono ?_;rintro e w2 ⟨rfl,hb⟩;have ED:Below (w+3) W1 w2:=hb.mono (Nat.le_of_eq O7.out.symm);have Q:Hid (Below w w w2):=HB.out.trans (hb.mono (by have:=O7.out;omega));have Et:=Ka.out.below ED a5;have EC:=O8.out.below ED a5;have FT:=IG.out.below ED a5;obtain⟨q0,q1,q2,q3,q4⟩:=Et.q5;obtain⟨p0,p1,p2,p3,p4⟩:=EC.q5;obtain⟨e0,e1,e2,e3,e4⟩:=FT.q5;have Lw:Hid (w.heap.size<=w2.heap.size):=Q.out.size;clear hb ED Et EC FT Ka O8 IG d0 d1 d2 d3 d4;go_wp2_with fail
  refine(ab.out _).mono ?_;rintro e w3 ⟨rfl,hb⟩;have Ei:Hid (Below w w w3):=Q.out.trans (hb.mono Lw.out);clear hb;go_wp2
  go_ret
  exact⟨rfl,Ei.out⟩
 ·have I:DV o a b=0:=by unfold DV;rw[if_neg hf]
  rw[decide_eq_false hf]at O;rw[I];clear hf I r1 r2 J Dg s1 EJ;go_enter func185,ntmps185
  go_upto_region 1 with(fail)
  rw[<-U.out];clear U;go_wp2_with fail
  refine(O.out _).mono ?_;rintro e w2 ⟨rfl,hb⟩;have Q:Hid (Below w w w2):=HB.out.trans (hb.mono (by have:=O7.out;omega));clear hb;go_wp2
  go_ret
  exact⟨rfl,Q.out⟩
instance srtDec (o : Cy) (l : List Cy) : Decidable (Srt o l) := decidable_of_iff (∀ i, i < l.length - 1 -> DV o (l.getD i Cz) (l.getD (i + 1) Cz) <= 0) ⟨λh i hi => h i a5, λh i hi => h i a5⟩
theorem Uh:∀(l:List Cy) (i:Nat) (t:Cy),i<l.length->(((((EB l).set (i*5) t.a).set (i*5+1) t.b).set (i*5+2) t.c).set (i*5+3) t.d).set (i*5+4) t.e=EB (l.set i t)
 |[],i,t,h=>by simp at h
 |e::l,0,t,_=>by simp[EB,DH]
 |e::l,i+1,t,h=>by
  have I:=Uh l i t (by simpa using h);have J:EB (e::l)=DH e++EB l:=rfl;have h5:(DH e).length=5:=rfl;rw[B7];have O:EB (e::l.set i t)=DH e++EB (l.set i t):=rfl;rw[J,O,<-I];rw[Ap _ _ (by rw[h5];omega),Ap _ _ (by rw[h5];omega),Ap _ _ (by rw[h5];omega),Ap _ _ (by rw[h5];omega),Ap _ _ (by rw[h5];omega),h5];rw[show (i+1)*5-5=i*5 by omega,show (i+1)*5+1-5=i*5+1 by omega,show (i+1)*5+2-5=i*5+2 by omega,show (i+1)*5+3-5=i*5+3 by omega,show (i+1)*5+4-5=i*5+4 by omega]
theorem R6{w:World}{base g n cap:Nat}{l}(h:w.ownsRow base 47 5 (AJ g n cap) n (EB l)){i}(hi:i<l.length)(t:Cy):
  (((((w.setCell (g,i*5) t.a).setCell (g,i*5+1) t.b).setCell (g,i*5+2) t.c).setCell (g,i*5+3) t.d).setCell (g,i*5+4) t.e).ownsRow base 47 5 (AJ g n cap) n (EB (l.set i t)):=by
 have I:=(Ct h (i*5) t.a).1;have e:=(Ct I (i*5+1) t.b).1;have h3:=(Ct e (i*5+2) t.c).1;have h4:=(Ct h3 (i*5+3) t.d).1;have h5:=(Ct h4 (i*5+4) t.e).1;rw[Uh l i t hi]at h5;exact h5
theorem LZ{B a w}(h:Below B a w){g}(e:B<=g)(j:Nat)(U Q O J I:Value):Below B a (((((w.setCell (g,j) U).setCell (g,j+1) Q).setCell (g,j+2) O).setCell (g,j+3) J).setCell (g,j+4) I):=
 ((((h.setCell (p:=(g,j)) e U).setCell (p:=(g,j+1)) e Q).setCell (p:=(g,j+2)) e O).setCell (p:=(g,j+3)) e J).setCell (p:=(g,j+4)) e I
theorem fM{w:World}{b b' e z n v xs}(h:w.ownsRow b e z v n xs)(hb:b'<=b):w.ownsRow b' e z v n xs:=by
 obtain⟨Q,I⟩:=h;refine⟨Q,?_⟩;rcases I with I|⟨g,cap,cur,J,O,r⟩
 ·exact .inl I
 ·exact .inr ⟨g,cap,cur,J,Ag hb O,r⟩
theorem Dk{w:World}{base g n cap:Nat}{l}(h:w.ownsRow base 47 5 (AJ g n cap) n (EB l)){i}(hi:i<l.length){j}{u}(hu:(DH (l.getD i Cz))[j]?=AE u):w.cell? (g,i*5+j)=AE u:=by
 have e:n=l.length:=by have:=h.1;rw[Kz]at this;omega
 have I:j<5:=(BI.1 hu).1;exact(World.ownsRow.cellAt h (i*5+j) (by rw[e];omega)).trans (Su l i hi j u hu)
def Jg(k g N cap:Nat)(o:Cy)(told:Nat):List Value:=[k,AJ g N cap,o.a,o.b,o.c,o.d,o.e,told]
structure Ic (W:World) (r k g N cap q:Nat) (o:Cy) (told:Nat) (ws:List Nat) (l:List Cy):Prop where
 row:Row W r 225 (Jg k g N cap o told)
 words:Row W g 120 (ws.map vw)
 kk:0<k/\k<=5
 nn:N=q*k/\N<=cap/\cap<=1000000/\ws.length=cap/\q<=1000000
 len:l.length=q
 tol:told<=q
 flat:ws.take N=EN k l
 fit:∀u∈l,D7 u/\Db k u=true
section
variable{W W':World}{r k g N cap q told:Nat}{o:Cy}{ws:List Nat}{l:List Cy}
theorem Ic.below(h:Ic W r k g N cap q o told ws l)(hb:Below W W W'):Ic W' r k g N cap q o told ws l:=
 ⟨h.row.below hb h.row.lt,h.words.below hb h.words.lt,h.kk,h.nn,h.len,h.tol,h.flat,h.fit⟩
theorem Ot{k N q}{ws:List Nat}{l}(J:k<=5)(Q:N=q*k)(I:l.length=q)(hf:ws.take N=EN k l){i}{t}(e:l[i]?=AE t):i*k+k<=N/\(ws.drop (i*k)).take k=DZ k t:=by
 have hi:i<q:=by rw[<-I];exact(BI.1 e).1
 have O:(i+1)*k<=q*k:=Af _ hi;rw[A7,BH]at O;refine⟨a5,?_⟩;rw[<-X0 J e,<-hf,List.drop_take,CN,Bi a5]
theorem getD_some{l:List Cy}{i}(h:i<l.length):l[i]?=AE (l.getD i Cz):=by rw[AT,AU h];rfl
theorem Ic.get(h:Ic W r k g N cap q o told ws l){i}(hi:i<q):Calls AP 192 #[AL #[k,AJ g N cap],i] W λe w'=>e=AH (AL #[AA AB (l.getD i Cz).a,AA AB (l.getD i Cz).b,AA AB (l.getD i Cz).c,AA AB (l.getD i Cz).d,AA AB (l.getD i Cz).e])/\Below W W w':=by
 have I:=getD_some (l:=l) (i:=i) (by rw[h.len];exact hi);obtain⟨O,J⟩:=Ot h.kk.2 h.nn.1 h.len h.flat I;have hf:=h.fit _ (Ae I);exact cS h.words h.kk O h.nn.2.1 h.nn.2.2.1 (by rw[h.nn.2.2.2.1];exact h.nn.2.1) J hf.1 hf.2
theorem Ry(I:Row W r 225 (Jg k g N cap o told))(O:0<k)(J:N=q*k)(U:q<=1000000):Calls AP 153 #[AI r] W λe w'=>e=AH q/\∃d,w'=W.drewN d:=by
 obtain⟨c0,c1⟩:=I.q2;have hd:Int.tdiv (N:Int) (k:Int)=(q:Int):=by
  have Q:N/k=q:=by rw[J];exact Nat.mul_div_cancel _ O
  rw[<-Q];rfl
 have Vn:¬((k:Int)=0):=a5;clear I J;go_enter func153,ntmps153
 go_wp2
 go_region
 go_wp2
 go_ret
 exact⟨rfl,1,rfl⟩
theorem XA(h:Ic W r k g N cap q o told ws l):Calls AP 153 #[AI r] W λe w'=>e=AH q/\∃d,w'=W.drewN d:=Ry h.row h.kk.1 h.nn.1 h.nn.2.2.2.2
theorem ey(h:Ic W r k g N cap q o told ws l){i j}(hi:i<q)(hj:j<q):Calls AP 189 #[AI r,i,j] W λe w'=>e=AH (.bool (decide (DV o (l.getD i Cz) (l.getD j Cz)<0)))/\Below W W w':=by
 have Q1:Hid (∀d os,Calls AP 192 #[AL #[k,AJ g N cap],i] (An (redrawn W d) os) λe I=>e=AH (AL #[AA AB (l.getD i Cz).a,AA AB (l.getD i Cz).b,AA AB (l.getD i Cz).c,AA AB (l.getD i Cz).d,AA AB (l.getD i Cz).e])/\∃p:Regrown,I=An (redrawn W p.d) p.os):=λd os=>Ba ((h.below (B0 W d os)).get hi);have Q2:Hid (∀d os,Calls AP 192 #[AL #[k,AJ g N cap],j] (An (redrawn W d) os) λe I=>e=AH (AL #[AA AB (l.getD j Cz).a,AA AB (l.getD j Cz).b,AA AB (l.getD j Cz).c,AA AB (l.getD j Cz).d,AA AB (l.getD j Cz).e])/\∃p:Regrown,I=An (redrawn W p.d) p.os):=λd os=>Ba ((h.below (B0 W d os)).get hj);have Q3:Hid (∀d os,Calls AP 185 #[AL #[AA AB (l.getD i Cz).a,AA AB (l.getD i Cz).b,AA AB (l.getD i Cz).c,AA AB (l.getD i Cz).d,AA AB (l.getD i Cz).e],AL #[AA AB (l.getD j Cz).a,AA AB (l.getD j Cz).b,AA AB (l.getD j Cz).c,AA AB (l.getD j Cz).d,AA AB (l.getD j Cz).e],AL #[o.a,o.b,o.c,o.d,o.e]] (An (redrawn W d) os) λe I=>e=AH (AA AB (DV o (l.getD i Cz) (l.getD j Cz)))/\∃p:Regrown,I=An (redrawn W p.d) p.os):=λd os=>Ba (RJ o _ _ _);have k0:∀d os,(An (redrawn W d) os).cell? r=AE (AA AB k):=Ac (h.row.cell 0);have k1:∀d os,(An (redrawn W d) os).cell? (r,1)=AE (AJ g N cap):=Ac (h.row.cell 1);have k2:∀d os,(An (redrawn W d) os).cell? (r,2)=AE (AA AB o.a):=Ac (h.row.cell 2);have k3:∀d os,(An (redrawn W d) os).cell? (r,3)=AE (AA AB o.b):=Ac (h.row.cell 3);have k4:∀d os,(An (redrawn W d) os).cell? (r,4)=AE (AA AB o.c):=Ac (h.row.cell 4);have k5:∀d os,(An (redrawn W d) os).cell? (r,5)=AE (AA AB o.d):=Ac (h.row.cell 5);have k6:∀d os,(An (redrawn W d) os).cell? (r,6)=AE (AA AB o.e):=Ac (h.row.cell 6);generalize l.getD i Cz=U at*
 generalize l.getD j Cz=Q at*
 generalize DV o U Q=res at*
 obtain⟨ia,ib,ic,id,ie⟩:=U;obtain⟨ja,jb,jc,jd,je⟩:=Q;obtain⟨oa,ob,oc,od,oe⟩:=o;simp only at*
 clear h;go_enter func189,ntmps189
 go_wp2
 refine By a7 a7 ?_
 repeat(any_goals(first|go_big_quiet_step (with_reducible first|exact Q1.out _ _|exact Q2.out _ _|exact Q3.out _ _)|quiet_step (with_reducible first|exact Q1.out _ _|exact Q2.out _ _|exact Q3.out _ _)))
 refine wpQuiet_nil ?_;intro w5 J;obtain⟨⟨dq,osq⟩,J⟩:=J;have O:=B0 W dq osq;rw[<-J]at O;have HB:=AO O;clear J O;go_wp2
 go_ret
 exact⟨rfl,HB.out⟩
theorem eu(h:Ic W r k g N cap q o q ws l):Calls AP 190 #[AI r] W λe w'=>e=AH (AM #[AL #[(),(),(),(),()],false,()])/\Below W W w':=by
 obtain⟨W1,O⟩:=ae (W.alloc (AK #[(),(),(),(),()] 47));have Dg:Below W W W1:=by rw[O];exact(AS _ _).alloc ar _
 have Et:Row W1 W 47 [(),(),(),(),()]:=by rw[O];exact heap_alloc_new _ _
 have FQ:=AO O;have NQ:=AO Dg;have Ka:=AO Et;have Q:=h.below Dg;have HL:Hid (∀p,Calls AP 153 #[AI r] (W1.drewN p) λe w'=>e=AH q/\∃d,w'=W1.drewN d):=λp=>(XA (Q.below (DA (AS _ _) p))).mono λe w' ⟨he,d,hw⟩=>⟨he,p+d,by rw[hw,World.drewN_drewN]⟩;have c7:W1.cell? (r,7)=AE (AA AB q):=Q.row.cell 7;clear h Q Dg Et O;go_enter func190,ntmps190
 go_upto_region 1 with(fail)
 rw[<-FQ.out];clear FQ;go_quiet (with_reducible exact HL.out _)
 have J:Row (W1.drewN nq) W 47 [(),(),(),(),()]:=Ka.out.drewN nq;have PL:Hid (Below W W (W1.drewN nq)):=DA NQ.out nq;clear c7 HL NQ Ka;generalize W1.drewN nq=W4 at*
 generalize hS:W.heap.size=s at*
 obtain⟨z0,z1,z2,z3,z4⟩:=J.q5;obtain⟨f0,f1,f2,f3,f4⟩:=J.r5;have I:=AO (((((J.set 0 ()).set 1 ()).set 2 ()).set 3 ()).set 4 ());have U:=AO (LZ PL.out (AQ s) 0 () () () () ());clear J;go_wp2
 have q0:=I.out.cell 0;have q1:=I.out.cell 1;have q2:=I.out.cell 2;have q3:=I.out.cell 3;have q4:=I.out.cell 4;simp only[AX,AV,List.set_cons_zero,B7]at q0 q1 q2 q3 q4;refine BA (v:=AM #[AL #[(),(),(),(),()],false,()]) (by simp[results,Tryz.results190,go_sem,q0,q1,q2,q3,q4]) rfl ⟨rfl,by rw[hS];exact U.out⟩
theorem lJ(h:Ic W r k g N cap q o told ws l)(ht:told<q)(gG:r≠g):Calls AP 190 #[AI r] W λe w'=>e=AH (AM #[AL #[AA AB (l.getD told Cz).a,AA AB (l.getD told Cz).b,AA AB (l.getD told Cz).c,AA AB (l.getD told Cz).d,AA AB (l.getD told Cz).e],true,()])/\Ic w' r k g N cap q o (told+1) ws l/\DJ (λb=>b=r) W w':=by
 obtain⟨W1,EJ⟩:=ae (W.alloc (AK #[AA AB 0,AA AB 0,AA AB 0,AA AB 0,AA AB 0] 47));have Dg:Below W.heap.size W W1:=by rw[EJ];exact(AS _ _).alloc ar _
 have Et:Row W1 W.heap.size 47 [AA AB 0,AA AB 0,AA AB 0,AA AB 0,AA AB 0]:=by rw[EJ];exact heap_alloc_new _ _
 have FQ:=AO EJ;have NQ:=AO Dg;have Ka:=AO Et;have h1:=h.below Dg;have an:=AO h1;have KM:Hid (r<W.heap.size/\g<W.heap.size):=⟨h.row.lt,h.words.lt⟩;have HL:Hid (∀p,Calls AP 153 #[AI (AE ⟨r,0,AD⟩)] (W1.drewN p) λe w'=>e=AH (AA AB q)/\∃d,w'=W1.drewN d):=λp=>(XA (h1.below (DA (AS _ _) p))).mono λe w' ⟨he,d,hw⟩=>⟨he,p+d,by rw[hw,World.drewN_drewN]⟩;have c7:W1.cell? ⟨r,7,AD⟩=AE (AA AB told):=h1.row.cell 7;have g1:((told:Int)==(q:Int))=false:=by simp;omega
 have hq:told<1000000:=by have:=h.nn.2.2.2.2;omega
 have al:=AO ht;have pM:=AO gG;clear h h1 Dg Et EJ ht gG;go_enter func190,ntmps190
 go_upto_region 1 with(fail)
 rw[<-FQ.out];clear FQ;go_quiet (with_reducible exact HL.out _)
 have dM:Hid (Row (W1.drewN nq) W.heap.size 47 [AA AB 0,AA AB 0,AA AB 0,AA AB 0,AA AB 0]):=Ka.out.drewN nq;have PL:Hid (Below W.heap.size W (W1.drewN nq)):=DA NQ.out nq;have H4:Hid (Ic (W1.drewN nq) r k g N cap q o told ws l):=an.out.below (DA (AS _ _) nq);clear c7 HL NQ Ka an;generalize W1.drewN nq=I at*
 generalize hS:W.heap.size=s at*
 have ad:Hid (∀O,Below I.heap.size I O->Calls AP 192 #[AL #[AA AB k,AJ (AE ⟨g,0,AD⟩) N cap],AA AB told] O λe w'=>e=AH (AL #[AA AB (l.getD told Cz).a,AA AB (l.getD told Cz).b,AA AB (l.getD told Cz).c,AA AB (l.getD told Cz).d,AA AB (l.getD told Cz).e])/\Below O.heap.size O w'):=λO hb=>(H4.out.below hb).get al.out;have HK:Hid (∀O,Below I.heap.size I O->O.cell? ⟨r,0,AD⟩=AE (AA AB k)/\O.cell? ⟨r,1,AD⟩=AE (AJ (AE ⟨g,0,AD⟩) N cap)/\O.cell? ⟨r,7,AD⟩=AE (AA AB told)):=λO hb=>⟨(H4.out.row.below hb H4.out.row.lt).cell 0,(H4.out.row.below hb H4.out.row.lt).cell 1,(H4.out.row.below hb H4.out.row.lt).cell 7⟩;have q1:=HK.out I.drew (DC (AS _ _));have c7:I.cell? ⟨r,7,AD⟩=AE (AA AB told):=H4.out.row.cell 7;generalize hT:l.getD told Cz=t at*
 replace hT:=AO hT;obtain⟨ta,tb,tc,U,Q⟩:=t;simp only at*
 have Yh:Below I.heap.size I (I.alloc (AK #[AA AB 0,AA AB 0,AA AB 0,AA AB 0,AA AB 0] 47)):=(AS _ _).alloc ar _;have q5:=HK.out (I.alloc (AK #[AA AB 0,AA AB 0,AA AB 0,AA AB 0,AA AB 0] 47)) Yh;have q6:=HK.out (I.alloc (AK #[AA AB 0,AA AB 0,AA AB 0,AA AB 0,AA AB 0] 47)).drew (DC Yh);have HZ:Hid (∀O,Below (I.alloc (AK #[AA AB 0,AA AB 0,AA AB 0,AA AB 0,AA AB 0] 47)).heap.size (I.alloc (AK #[AA AB 0,AA AB 0,AA AB 0,AA AB 0,AA AB 0] 47)) O->Row O I.heap.size 47 [AA AB 0,AA AB 0,AA AB 0,AA AB 0,AA AB 0]):=λO hb=>(show Row (I.alloc (AK #[AA AB 0,AA AB 0,AA AB 0,AA AB 0,AA AB 0] 47)) I.heap.size 47 [AA AB 0,AA AB 0,AA AB 0,AA AB 0,AA AB 0]from heap_alloc_new _ _).below hb a8;go_upto_region 3 with(fail)
 go_cut [5]from 14 to 22 (λs5 wx=>∃b:Nat,s5=AI (AE ⟨b,0,AD⟩)/\I.heap.size<=b/\Hid (Row wx b 47 [AA AB ta,AA AB tb,AA AB tc,AA AB U,AA AB Q])/\Hid (Below I.heap.size I wx))
 case first=>
  go_region_held3 (λw'=>w'.cell? ⟨r,0,AD⟩=AE (AA AB k)/\w'.cell? ⟨r,1,AD⟩=AE (AJ (AE ⟨g,0,AD⟩) N cap)/\w'.cell? ⟨r,7,AD⟩=AE (AA AB told)) (first|with_reducible exact q1|with_reducible exact q5|with_reducible exact q6|with_reducible exact q2|with_reducible exact q3|with_reducible exact q4)
   (first
    |(go_at_call 192;(with_reducible refine(ad.out _ (DC (AS _ _))).mono ?_);rintro e J ⟨rfl,Fx⟩;have Nx:Below I.heap.size I J:=(DC (AS _ _)).trans Fx;have q2:=HK.out J Nx;have q4:=HK.out (J.alloc (AK #[AA AB 0,AA AB 0,AA AB 0,AA AB 0,AA AB 0] 47)) (Nx.alloc Nx.size _);have q3:=HK.out (J.alloc (AK #[AA AB ta,AA AB tb,AA AB tc,AA AB U,AA AB Q] 47)) (Nx.alloc Nx.size _);have IS:Hid (I.heap.size<=J.heap.size/\Row (J.alloc (AK #[AA AB ta,AA AB tb,AA AB tc,AA AB U,AA AB Q] 47)) J.heap.size 47 [AA AB ta,AA AB tb,AA AB tc,AA AB U,AA AB Q]/\Below I.heap.size I (J.alloc (AK #[AA AB ta,AA AB tb,AA AB tc,AA AB U,AA AB Q] 47))):=⟨Nx.size,heap_alloc_new _ _,Nx.alloc Nx.size _⟩)
    |(go_at_call 192;(with_reducible refine(ad.out _ (DC Yh)).mono ?_);rintro e J ⟨rfl,Fx⟩;have aq:Below (I.alloc (AK #[AA AB 0,AA AB 0,AA AB 0,AA AB 0,AA AB 0] 47)).heap.size (I.alloc (AK #[AA AB 0,AA AB 0,AA AB 0,AA AB 0,AA AB 0] 47)) J:=(DC (AS _ _)).trans Fx;have Nx:Below I.heap.size I J:=Yh.trans (aq.mono Yh.size);have q2:=HK.out J Nx;have mY:=HZ.out J aq;have z0:=mY.cell 0;have z1:=mY.cell 1;have z2:=mY.cell 2;have z3:=mY.cell 3;have z4:=mY.cell 4;simp only[AX,AV]at z0 z1 z2 z3 z4;have f0:=mY.free 0;have f1:=mY.free 1;have f2:=mY.free 2;have f3:=mY.free 3;have f4:=mY.free 4;have q4:=q2;have wg:=LZ Nx (AQ I.heap.size) 0 (AA AB ta) (AA AB tb) (AA AB tc) (AA AB U) (AA AB Q);have q3:=HK.out (((((J.setCell ⟨I.heap.size,0,AD⟩ (AA AB ta)).setCell ⟨I.heap.size,1,AD⟩ (AA AB tb)).setCell ⟨I.heap.size,2,AD⟩ (AA AB tc)).setCell ⟨I.heap.size,3,AD⟩ (AA AB U)).setCell ⟨I.heap.size,4,AD⟩ (AA AB Q)) wg;have IS:Hid (I.heap.size<=I.heap.size/\Row (((((J.setCell ⟨I.heap.size,0,AD⟩ (AA AB ta)).setCell ⟨I.heap.size,1,AD⟩ (AA AB tb)).setCell ⟨I.heap.size,2,AD⟩ (AA AB tc)).setCell ⟨I.heap.size,3,AD⟩ (AA AB U)).setCell ⟨I.heap.size,4,AD⟩ (AA AB Q)) I.heap.size 47 [AA AB ta,AA AB tb,AA AB tc,AA AB U,AA AB Q]/\Below I.heap.size I (((((J.setCell ⟨I.heap.size,0,AD⟩ (AA AB ta)).setCell ⟨I.heap.size,1,AD⟩ (AA AB tb)).setCell ⟨I.heap.size,2,AD⟩ (AA AB tc)).setCell ⟨I.heap.size,3,AD⟩ (AA AB U)).setCell ⟨I.heap.size,4,AD⟩ (AA AB Q))):=⟨AQ _,((((mY.set 0 (AA AB ta)).set 1 (AA AB tb)).set 2 (AA AB tc)).set 3 (AA AB U)).set 4 (AA AB Q),wg⟩))
  all_goals(go_wp2_with fail;go_meet;exact⟨_,rfl,IS.out.1,IS.out.2.1,IS.out.2.2⟩)
 case rest=>
  obtain⟨b,rfl,ay,av,ab⟩:=hcut;clear q1 q5 q6 Yh HZ ad HK c7 g1;have h6:=H4.out.below ab.out;have az:=KM.out;have Xe:s<=I.heap.size:=by rw[<-hS];exact PL.out.size
  have ax:s<I.heap.size:=dM.out.lt;have au:b≠r:=a5;have gE:s≠r:=a5;have PT:g≠r:=λe=>pM.out e.symm;have c7:wc.cell? ⟨r,7,AD⟩=AE (AA AB told):=h6.row.cell 7;have f7:=h6.row.free 7;have nW:(Jg k g N cap o told).set 7 (AA AB ((told:Int)+1))=Jg k g N cap o (told+1):=rfl;have MM:=h6.row.set 7 (AA AB ((told:Int)+1));rw[nW]at MM;have H6:Hid (Ic (wc.setCell ⟨r,7,AD⟩ (AA AB ((told:Int)+1))) r k g N cap q o (told+1) ws l):=⟨MM,h6.words.E4 (p:=⟨r,7,AD⟩) PT _,h6.kk,h6.nn,h6.len,by have:=al.out;omega,h6.flat,h6.fit⟩;have ao:=AO (av.out.E4 (p:=⟨r,7,AD⟩) au (AA AB ((told:Int)+1)));have vD:=AO ((dM.out.below ab.out ax).E4 (p:=⟨r,7,AD⟩) gE (AA AB ((told:Int)+1)));have vS:Hid (DJ (λb=>b=r) W (wc.setCell ⟨r,7,AD⟩ (AA AB ((told:Int)+1)))):=by
   have h0:DJ (λb=>b=r) W wc:=DJ.DE (by rw[hS];exact PL.out.trans (ab.out.mono Xe)) _;exact h0.set (p:=⟨r,7,AD⟩) (.inl rfl) _
  clear h6 MM nW;go_upto_region 5 with(fail)
  generalize wc.setCell ⟨r,7,AD⟩ (AA AB ((told:Int)+1))=W6 at*
  obtain⟨d0,d1,d2,d3,d4⟩:=ao.out.q5;obtain⟨z0,z1,z2,z3,z4⟩:=vD.out.q5;obtain⟨f0,f1,f2,f3,f4⟩:=vD.out.r5;have Eg:=AO (((((vD.out.set 0 (AA AB ta)).set 1 (AA AB tb)).set 2 (AA AB tc)).set 3 (AA AB U)).set 4 (AA AB Q));have aw:Hid (Ic (((((W6.setCell ⟨s,0,AD⟩ (AA AB ta)).setCell ⟨s,1,AD⟩ (AA AB tb)).setCell ⟨s,2,AD⟩ (AA AB tc)).setCell ⟨s,3,AD⟩ (AA AB U)).setCell ⟨s,4,AD⟩ (AA AB Q)) r k g N cap q o (told+1) ws l):=by
   have e1:r≠s:=λe=>gE e.symm;have e2:g≠s:=a5;have h:=H6.out;exact⟨((((h.row.E4 (p:=⟨s,0,AD⟩) e1 _).E4 (p:=⟨s,1,AD⟩) e1 _).E4 (p:=⟨s,2,AD⟩) e1 _).E4 (p:=⟨s,3,AD⟩) e1 _).E4 (p:=⟨s,4,AD⟩) e1 _,((((h.words.E4 (p:=⟨s,0,AD⟩) e2 _).E4 (p:=⟨s,1,AD⟩) e2 _).E4 (p:=⟨s,2,AD⟩) e2 _).E4 (p:=⟨s,3,AD⟩) e2 _).E4 (p:=⟨s,4,AD⟩) e2 _,h.kk,h.nn,h.len,h.tol,h.flat,h.fit⟩
  have jk:Hid (DJ (λb=>b=r) W (((((W6.setCell ⟨s,0,AD⟩ (AA AB ta)).setCell ⟨s,1,AD⟩ (AA AB tb)).setCell ⟨s,2,AD⟩ (AA AB tc)).setCell ⟨s,3,AD⟩ (AA AB U)).setCell ⟨s,4,AD⟩ (AA AB Q))):=by
   have hn:∀j,(λb=>b=r) (⟨s,j,AD⟩:Addr).block\/W.heap.size<=(⟨s,j,AD⟩:Addr).block:=λj=>.inr (by rw[hS];exact AQ _);exact((((vS.out.set (hn 0) _).set (hn 1) _).set (hn 2) _).set (hn 3) _).set (hn 4) _
  clear ao vD;go_wp2
  have q0:=Eg.out.cell 0;have q1:=Eg.out.cell 1;have q2:=Eg.out.cell 2;have q3:=Eg.out.cell 3;have q4:=Eg.out.cell 4;simp only[AX,AV,List.set_cons_zero,B7]at q0 q1 q2 q3 q4;refine BA (v:=AM #[AL #[AA AB ta,AA AB tb,AA AB tc,AA AB U,AA AB Q],.bool true,AA AB 0]) (by simp[results,Tryz.results190,go_sem,q0,q1,q2,q3,q4]) rfl ⟨by rw[hT.out],aw.out,jk.out⟩
end
theorem K8{o a b c}(h:DV o a b<0)(k:DV o b c<=0):DV o a c<0:=by
 rcases Int.lt_or_le (DV o a c) 0 with e|e
 ·exact e
 ·have I:DV o c a<=0:=by rw[Dy];omega
  have h3:=FU k I;rw[Dy]at h3;omega
theorem M9{o a b c}(h:DV o a b<=0)(k:DV o b c<0):DV o a c<0:=by
 rcases Int.lt_or_le (DV o a c) 0 with e|e
 ·exact e
 ·have I:DV o c a<=0:=by rw[Dy];omega
  have h3:=FU I h;rw[Dy]at h3;omega
theorem Md{o a b c}(h:DV o a b=0)(k:DV o a c=0):DV o b c=0:=by
 have I:DV o b a<=0:=by rw[Dy];omega
 have e:DV o c a<=0:=by rw[Dy];omega
 have h3:=FU I (show DV o a c<=0 by omega);have h4:=FU e (show DV o a b<=0 by omega);have h5:=Dy o b c;omega
def K6(o t x:Cy):Bool:=decide (DV o t x=0)
theorem Mb(o t:Cy):K6 o t t=true:=by simp[K6,QA]
theorem iO{o t u}(h:DV o t u=0)(x:Cy):K6 o t x=K6 o u x:=by
 unfold K6;have h':DV o u t=0:=by rw[Dy];omega
 by_cases e:DV o t x=0
 ·rw[decide_eq_true e,decide_eq_true (Md h e)]
 ·rw[decide_eq_false e,decide_eq_false λI=>e (Md h' I)]
def Cl(o:Cy)(l m:List Cy):Prop:=∀t,l.filter (K6 o t)=m.filter (K6 o t)
section
variable{o:Cy}{l m q a b c d:List Cy}{t x y:Cy}
theorem Cl.refl(o:Cy)(l:List Cy):Cl o l l:=λ_=>rfl
theorem Cl.symm(h:Cl o l m):Cl o m l:=λt=>(h t).symm
theorem Cl.trans(h:Cl o l m)(k:Cl o m q):Cl o l q:=λt=>(h t).trans (k t)
theorem Cl.append(h:Cl o a b)(k:Cl o c d):Cl o (a++c) (b++d):=λt=>by rw[Bd,Bd,h t,k t]
theorem Cl.left(h:Cl o (a++l) (a++m)):Cl o l m:=λt=>by
 have:=h t;rw[Bd,Bd]at this;exact List.append_cancel_left this
theorem Cl.right(h:Cl o (l++a) (m++a)):Cl o l m:=λt=>by
 have:=h t;rw[Bd,Bd]at this;exact List.append_cancel_right this
theorem Cl.mem(h:Cl o l m)(I:x∈l):x∈m:=by
 have e:x∈l.filter (K6 o x):=CL.2 ⟨I,Mb o x⟩;rw[h x]at e;exact(CL.1 e).1
theorem Cl.perm(h:Cl o l m):l.Perm m:=List.perm_iff_count.2 λz=>by
 rw[<-List.count_filter (l:=l) (Mb o z),h z,List.count_filter (Mb o z)]
theorem Cl.len(h:Cl o l m):l.length=m.length:=h.perm.length_eq
theorem Cl.swap(h:∀u∈a,∀v∈b,DV o v u≠0):Cl o (a++b) (b++a):=λt=>by
 rw[Bd,Bd];by_cases e:a.filter (K6 o t)=[]
 ·rw[e,BL,AY]
 ·have hb:b.filter (K6 o t)=[]:=by
   obtain⟨u,hu⟩:=List.exists_mem_of_ne_nil _ e;obtain⟨I,Q⟩:=CL.1 hu;refine List.filter_eq_nil_iff.2 λv O J=>h u I v O (Md (o:=o) (a:=t) ?_ ?_)
   ·simpa [K6]using J
   ·simpa [K6]using Q
  rw[hb,BL,AY]
end
def ND(o:Cy)(l:List Cy):Prop:=l.Pairwise λa b=>DV o a b<=0
def Ey(o:Cy)(l:List Cy)(a b:Nat):Prop:=∀i,a<=i->i+1<b->DV o (l.getD i Cz) (l.getD (i+1) Cz)<=0
theorem Ey.add{o l a b}(h:Ey o l a b):∀(d i:Nat),a<=i->i+d<b->DV o (l.getD i Cz) (l.getD (i+d) Cz)<=0
 |0,i,_,_=>by rw[Nat.add_zero,QA];exact Int.le_refl _
 |d+1,i,h1,h2=>FU (h.add d i h1 a5) (h (i+d) a5 h2)
theorem Ey.le{o l a b i j}(h:Ey o l a b)(e:a<=i)(I:i<=j)(h3:j<b):DV o (l.getD i Cz) (l.getD j Cz)<=0:=by
 have:=h.add (j-i) i e a5;rwa [show i+(j-i)=j by omega]at this
theorem Hi{l:List Cy}{i}(h:i<l.length):l.getD i Cz=l[i]:=by rw[AT,AU h];rfl
theorem uo{o l}:ND o l↔Ey o l 0 l.length:=by
 unfold ND;rw[Bh];refine⟨λh i _ hi=>?_,λh i j hi e I=>?_⟩
 ·rw[Hi a5,Hi hi];exact h i (i+1) a5 hi a5
 ·have:=h.le (Ao i) (Nat.le_of_lt I) e;rwa [Hi hi,Hi e]at this
def stepO(o:Cy)(q:List Cy)(t:Cy):List Cy:=match q.getLast? with
 |some u=>if DV o u t=0 then q else q++[t]
 |none=>q++[t]
def D8(o:Cy)(l:List Cy):List Cy:=l.foldl (stepO o) []
theorem Nq(o:Cy)(l:List Cy)(t:Cy):D8 o (l++[t])=stepO o (D8 o l) t:=by unfold D8;rw[List.foldl_append];rfl
theorem eO(o:Cy)(q:List Cy)(t:Cy):(stepO o q t).length<=q.length+1:=by
 unfold stepO
 split
 ·split<;>simp
 ·simp
theorem SC(o:Cy):∀l:List Cy,(D8 o l).length<=l.length:=by
 intro l
 suffices h:∀(l q:List Cy),(l.foldl (stepO o) q).length<=q.length+l.length by have:=h l [];simpa [D8]using this
 intro l
 induction l with
 |nil=>intro q;simp
 |cons t l ih=>intro q;have I:=ih (stepO o q t);have e:=eO o q t;simp only[List.foldl_cons,BW]at*;omega
theorem eM{o q t x}(h:x∈stepO o q t):x∈q\/x=t:=by
 unfold stepO at h
 split at h
 ·split at h
  ·exact .inl h
  ·simpa using h
 ·simpa using h
theorem Mt{o l x}(h:x∈D8 o l):x∈l:=by
 suffices hs:∀(l q:List Cy),x∈l.foldl (stepO o) q->x∈q\/x∈l by
  rcases hs l [] h with h|h
  ·cases h
  ·exact h
 intro l
 induction l with
 |nil=>intro q h;exact .inl h
 |cons t l ih=>
  intro q h;rcases ih _ h with h|h
  ·rcases eM h with h|h
   ·exact .inl h
   ·exact .inr (h▸Az)
  ·exact .inr (BD _ h)
theorem OQ{α:Type}{l m:List α}:(l++m).take 1=if l=[]then m.take 1 else l.take 1:=by
 cases l with
 |nil=>simp
 |cons a l=>simp
theorem XO{o:Cy}:∀(n:Nat) (l:List Cy),l.length=n->ND o l->ND o (D8 o l)/\(∀t,(D8 o l).filter (K6 o t)=(l.filter (K6 o t)).take 1)/\(∀u,(D8 o l).getLast?=AE u->∀x∈l,DV o x u<=0)/\(l≠[]->(D8 o l).getLast?≠AD)
 |0,l,hl,_=>by
  obtain rfl:=List.eq_nil_of_length_eq_zero hl;exact⟨List.Pairwise.nil,λ_=>rfl,λu h=>(by cases h),λh=>absurd rfl h⟩
 |n+1,l,hl,ha=>by
  obtain⟨l',t,rfl⟩:∃l' t,l=l'++[t]:=⟨l.dropLast,l.getLast (by intro e;rw[e]at hl;simp at hl),(List.dropLast_concat_getLast _).symm⟩;have Z1:l'.length=n:=by simpa using hl
  obtain⟨jX,_,an⟩:=List.pairwise_append.1 ha;obtain⟨i1,i2,i3,i4⟩:=XO n l' Z1 jX;rw[Nq];have U:∀x∈l',DV o x t<=0:=λx I=>an x I t a8;have hle:∀x∈D8 o l',DV o x t<=0:=λx I=>U x (Mt I);have Ih:(∀x∈l',DV o x t≠0)->ND o (D8 o l'++[t])/\(∀s,(D8 o l'++[t]).filter (K6 o s)=((l'++[t]).filter (K6 o s)).take 1)/\(∀u,(D8 o l'++[t]).getLast?=AE u->∀x∈l'++[t],DV o x u<=0)/\(l'++[t]≠[]->(D8 o l'++[t]).getLast?≠AD):=λal=>by
   refine⟨List.pairwise_append.2 ⟨i1,List.pairwise_singleton _ _,λx I y hy=>?_⟩,λs=>?_,λu hu x I=>?_,λ_=>by simp⟩
   ·simp at hy;subst hy;exact hle x I
   ·rw[Bd,Bd,OQ,i2 s];by_cases J:K6 o s t=true
    ·have O:l'.filter (K6 o s)=[]:=by
      refine List.filter_eq_nil_iff.2 λx I mZ=>al x I (Md (a:=s) ?_ ?_)
      ·simpa [K6]using mZ
      ·simpa [K6]using J
     rw[O,if_pos rfl,List.filter_cons_of_pos J];rfl
    ·rw[List.filter_cons_of_neg J,List.filter_nil,AY]
     split
     ·rename_i O;rw[O]
     ·rfl
   ·simp at hu;subst hu;rcases Ah.1 I with I|I
    ·exact U x I
    ·simp at I;subst I;rw[QA];exact Int.le_refl _
  unfold stepO
  split
  ·rename_i u hu
   have Q:=i3 u hu;by_cases he:DV o u t=0
   ·rw[if_pos he];have ad:u∈D8 o l':=List.mem_of_getLast? hu;refine⟨i1,λs=>?_,λv hv x I=>?_,λ_=>by rw[hu];simp⟩
    ·rw[Bd,OQ,i2 s];by_cases J:K6 o s t=true
     ·have ab:DV o t u=0:=by rw[Dy];omega
      have ae:K6 o s u=true:=by
       have:DV o s t=0:=by simpa [K6]using J
       rw[iO this];simp[K6,ab]
      have O:l'.filter (K6 o s)≠[]:=List.ne_nil_of_mem (CL.2 ⟨Mt ad,ae⟩);rw[if_neg O]
     ·rw[List.filter_cons_of_neg J,List.filter_nil]
      split
      ·rename_i O;rw[O]
      ·rfl
    ·rw[hu]at hv;injection hv with hv;subst hv
     rcases Ah.1 I with I|I
     ·exact Q x I
     ·simp at I;subst I;rw[Dy];omega
   ·rw[if_neg he];refine Ih λx I hz=>he ?_;have h1:=Q x I;have h2:=hle u (List.mem_of_getLast? hu);have h3:DV o t x<=0:=by rw[Dy];omega
    have h4:=FU h3 h1;rw[Dy]at h4;omega
  ·rename_i hn
   have O:l'=[]:=by
    rcases Classical.em (l'=[])with h|h
    ·exact h
    ·exact absurd hn (i4 h)
   exact Ih λx I=>by rw[O]at I;cases I
def swp{α:Type}(d:α)(l:List α)(i j:Nat):List α:=(l.set i (l.getD j d)).set j (l.getD i d)
section
variable{α:Type}{d:α}{l:List α}{i j k:Nat}
theorem Fb:(swp d l i j).length=l.length:=by unfold swp;rw[Bg,Bg]
theorem FH(hi:i<l.length)(O:j<l.length):(swp d l i j).getD k d=if k=j then l.getD i d else if k=i then l.getD j d else l.getD k d:=by
 unfold swp;rw[AT,Aw,Aw,Bg];by_cases J:j=k
 ·rw[if_pos J,if_pos O,if_pos J.symm];rfl
 ·rw[if_neg J,if_neg (show ¬k=j from λe=>J e.symm)];by_cases I:i=k
  ·rw[if_pos I,if_pos hi,if_pos I.symm];rfl
  ·rw[if_neg I,if_neg (λe=>I e.symm),<-AT]
theorem Wm(hi:i<l.length)(J:j<l.length):swp d l i j=swp d l j i:=by
 refine List.ext_getElem (by rw[Fb,Fb]) λn Q O=>?_;have e1:(swp d l i j).getD n d=(swp d l i j)[n]:=by rw[AT,AU Q];rfl
 have U:(swp d l j i).getD n d=(swp d l j i)[n]:=by rw[AT,AU O];rfl
 rw[<-e1,<-U,FH hi J,FH J hi];by_cases I:n=j
 ·by_cases e:n=i
  ·rw[if_pos I,if_pos e,<-I,<-e]
  ·rw[if_pos I,if_neg e,if_pos I]
 ·by_cases e:n=i
  ·rw[if_neg I,if_pos e,if_pos e]
  ·rw[if_neg I,if_neg e,if_neg e,if_neg I]
theorem rV(P M Q:List α)(x y:α):swp d (P++x::M++y::Q) P.length (P.length+1+M.length)=P++y::M++x::Q:=by
 have I:(P++x::M++y::Q).getD P.length d=x:=by simp[AT]
 have e:(P++x::M++y::Q).getD (P.length+1+M.length) d=y:=by
  rw[AT,AW (by simp;omega)];simp[show P.length+1+M.length-(P.length+(M.length+1))=0 by omega]
 unfold swp;rw[I,e,AR,Ap _ _ a5,As,CQ,List.set_cons_zero,Ap _ _ a5,show P.length+1+M.length-P.length=M.length+1 by omega,B7,Ap _ _ a5,As,List.set_cons_zero];simp
end
structure Ch (o:Cy) (a b:Nat) (l l':List Cy):Prop where
 len:l'.length=l.length
 out:∀i,i<a\/b<=i->l'.getD i Cz=l.getD i Cz
 cl:Cl o l l'
section
variable{o:Cy}{l l' l'':List Cy}{a b m i j k:Nat}
theorem Ch.refl(o:Cy)(a b:Nat)(l:List Cy):Ch o a b l l:=⟨rfl,λ_ _=>rfl,Cl.refl _ _⟩
theorem Ch.mono{a' b'}(h:Ch o a b l l')(e:a'<=a)(hb:b<=b'):Ch o a' b' l l':=⟨h.len,λi hi=>h.out i a5,h.cl⟩
theorem Ch.trans(h:Ch o a b l l')(k:Ch o a b l' l''):Ch o a b l l'':=⟨k.len.trans h.len,λi hi=>(k.out i hi).trans (h.out i hi),h.cl.trans k.cl⟩
theorem ext_get{l m:List Cy}(I:l.length=m.length)(h:∀i,i<l.length->l.getD i Cz=m.getD i Cz):l=m:=by
 refine List.ext_getElem I λi e J=>?_;rw[<-Hi e,<-Hi J];exact h i e
theorem Hu{l:List Cy}{n i}(h:i<n):(l.take n).getD i Cz=l.getD i Cz:=by
 rw[AT,AT,At,if_pos h]
theorem Hv{l:List Cy}{n i}:(l.drop n).getD i Cz=l.getD (n+i) Cz:=by
 rw[AT,AT,Bc]
theorem Ch.inR(h:Ch o a b l l')(aD:a<=b)(hb:b<=l.length){i}(h1:a<=i)(h2:i<b):∃j,a<=j/\j<b/\l.getD j Cz=l'.getD i Cz:=by
 have hl:=h.len;have U:l'.take a=l.take a:=ext_get (by rw[AZ,AZ];omega) λi hi=>by
  rw[AZ]at hi;rw[Hu a5,Hu a5];exact h.out i a5
 have Q:l'.drop b=l.drop b:=ext_get (by rw[Aq,Aq];omega) λi hi=>by
  rw[Hv,Hv];exact h.out _ a5
 have J:∀l:List Cy,l=l.take a++((l.drop a).take (b-a)++l.drop b):=λl=>by
  conv=>lhs;rw[<-BS a l]
  congr 1
  conv=>lhs;rw[<-BS (b-a) (l.drop a)]
  rw[Cs,show a+(b-a)=b by omega]
 have I:=h.cl;rw[J l,J l',U,Q]at I;have Sf:=I.left.right;have hm:l'.getD i Cz∈(l'.drop a).take (b-a):=by
  have:((l'.drop a).take (b-a)).getD (i-a) Cz=l'.getD i Cz:=by rw[Hu a5,Hv,show a+(i-a)=i by omega]
  rw[<-this,Hi (by rw[AZ,Aq];omega)];exact CO _
 obtain⟨j,O,e⟩:=BP (Sf.symm.mem hm);rw[AZ,Aq]at O;refine⟨a+j,a5,a5,?_⟩;rw[<-e,<-Hi,Hu a5,Hv]
theorem aT(hi:i+1<l.length)(h:DV o (l.getD (i+1) Cz) (l.getD i Cz)<0):Ch o i (i+2) l (swp Cz l i (i+1)):=by
 refine⟨Fb,λk Q=>?_,?_⟩
 ·rw[FH a5 hi,if_neg a5,if_neg a5]
 ·have J:l=l.take i++l.getD i Cz::[]++l.getD (i+1) Cz::l.drop (i+2):=by
   conv=>lhs;rw[<-BS i l,Bv (show i<l.length by omega),Bv hi]
   rw[Hi hi,Hi (show i<l.length by omega)];simp
  have O:(l.take i).length=i:=by rw[AZ];omega
  have e:swp Cz l i (i+1)=l.take i++l.getD (i+1) Cz::[]++l.getD i Cz::l.drop (i+2):=by
   have:=rV (d:=Cz) (l.take i) [] (l.drop (i+2)) (l.getD i Cz) (l.getD (i+1) Cz);rw[O,<-J]at this;exact this
  rw[e]
  conv=>arg 2;rw[J]
  have:=(Cl.refl o (l.take i)).append ((Cl.swap (o:=o) (a:=[l.getD i Cz]) (b:=[l.getD (i+1) Cz]) λu hu v I=>by simp only[Bp]at hu I;subst hu I;omega).append (Cl.refl o (l.drop (i+2))));simpa using this
def Ins(o:Cy)(l:List Cy)(a i j:Nat):Prop:=∀p q,a<=p->p<q->q<=i->q≠j->DV o (l.getD p Cz) (l.getD q Cz)<=0
theorem gA(h:Ey o l a i):Ins o l a i i:=λp q I e h3 h4=>h.le I (Nat.le_of_lt e) a5
theorem mR(h:Ins o l a i j)(hj:a<j)(ab:j<=i)(hi:i<l.length)(O:DV o (l.getD j Cz) (l.getD (j-1) Cz)<0):Ins o (swp Cz l j (j-1)) a i (j-1)/\Ch o a (i+1) l (swp Cz l j (j-1)):=by
 have e:=Wm (d:=Cz) (l:=l) (i:=j) (j:=j-1) a5 a5;have Q:=aT (o:=o) (l:=l) (i:=j-1) a5 (by rw[show j-1+1=j by omega];exact O);rw[show j-1+1=j by omega,<-e]at Q;refine⟨λp q U h2 h3 h4=>?_,Q.mono a5 a5⟩;rw[FH a5 a5,FH a5 a5,if_neg h4];by_cases I:q=j
 ·rw[if_pos I];by_cases hp:p=j-1
  ·rw[if_pos hp];omega
  ·rw[if_neg hp,if_neg a5];exact h p (j-1) U a5 a5 a5
 ·rw[if_neg I];by_cases hp:p=j-1
  ·rw[if_pos hp];exact h j q a5 a5 h3 I
  ·rw[if_neg hp];by_cases J:p=j
   ·rw[if_pos J];exact h (j-1) q a5 a5 h3 I
   ·rw[if_neg J];exact h p q U h2 h3 I
theorem mQ(h:Ins o l a i j)(J:j<=i)(e:j=a\/¬DV o (l.getD j Cz) (l.getD (j-1) Cz)<0):Ey o l a (i+1):=by
 intro p I O;by_cases hp:p+1=j
 ·rcases e with e|e
  ·omega
  ·rw[hp,Dy,show p=j-1 by omega];omega
 ·exact h p (p+1) I a5 a5 hp
def Mup(l l':List Cy)(a k:Nat):Prop:=∀p,l'.getD p Cz=if p<a then l.getD p Cz else if p<k then l.getD (p+1) Cz else if p=k then l.getD a Cz else l.getD p Cz
theorem fU(l:List Cy)(a:Nat):Mup l l a a:=λp=>by
 by_cases e:p<a
 ·rw[if_pos e]
 ·rw[if_neg e,if_neg e]
  split
  ·rename_i h;rw[h]
  ·rfl
theorem l9(h:Mup l l' a k)(U:a<=k)(hk:k+1<l.length)(hl:l'.length=l.length)(J:DV o (l.getD (k+1) Cz) (l.getD a Cz)<0):Mup l (swp Cz l' k (k+1)) a (k+1)/\Ch o k (k+2) l' (swp Cz l' k (k+1)):=by
 have Q:l'.getD k Cz=l.getD a Cz:=by rw[h k,if_neg a5,if_neg a5,if_pos rfl]
 have O:l'.getD (k+1) Cz=l.getD (k+1) Cz:=by rw[h (k+1),if_neg a5,if_neg a5,if_neg a5]
 refine⟨λp=>?_,aT a5 (by rw[Q,O];exact J)⟩;rw[FH a5 a5,Q,O,h p];by_cases I:p=k+1
 ·rw[if_pos I,if_neg a5,if_neg a5,if_pos I]
 ·rw[if_neg I];by_cases e:p=k
  ·rw[if_pos e,if_neg a5,if_pos a5,e]
  ·rw[if_neg e];by_cases h3:p<a
   ·rw[if_pos h3,if_pos h3]
   ·rw[if_neg h3,if_neg h3];by_cases h4:p<k
    ·rw[if_pos h4,if_pos a5]
    ·rw[if_neg h4,if_neg e,if_neg a5,if_neg I]
theorem sZ(h:Mup l l' a (i-1))(O:a<i)(J:i<=b)(I:Ey o l (a+1) b)(e:∀p,a+1<=p->p<i->DV o (l.getD p Cz) (l.getD a Cz)<0)(U:∀p,i<=p->p<b->0<=DV o (l.getD p Cz) (l.getD a Cz)):Ey o l' a b:=by
 intro p h1 Q;rw[h p,h (p+1),if_neg (show ¬p<a by omega),if_neg (show ¬p+1<a by omega)];by_cases h3:p<i-1
 ·rw[if_pos h3];by_cases h4:p+1<i-1
  ·rw[if_pos h4];exact I (p+1) a5 a5
  ·rw[if_neg h4,if_pos a5];have:=e (p+1) a5 a5;omega
 ·rw[if_neg h3];by_cases h4:p=i-1
  ·rw[if_pos h4,if_neg a5,if_neg a5];have:=U (p+1) a5 a5;rw[Dy];omega
  ·rw[if_neg h4,if_neg a5,if_neg a5];exact I p a5 Q
def Mdn(l l':List Cy)(m k:Nat):Prop:=∀p,l'.getD p Cz=if m<p then l.getD p Cz else if k<p then l.getD (p-1) Cz else if p=k then l.getD m Cz else l.getD p Cz
theorem fX(l:List Cy)(m:Nat):Mdn l l m m:=λp=>by
 by_cases e:m<p
 ·rw[if_pos e]
 ·rw[if_neg e,if_neg e]
  split
  ·rename_i h;rw[h]
  ·rfl
theorem mC(h:Mdn l l' m k)(Vn:0<k)(ab:k<=m)(hm:m<l.length)(hl:l'.length=l.length)(O:DV o (l.getD m Cz) (l.getD (k-1) Cz)<0):Mdn l (swp Cz l' k (k-1)) m (k-1)/\Ch o (k-1) (k+1) l' (swp Cz l' k (k-1)):=by
 have e1:l'.getD k Cz=l.getD m Cz:=by rw[h k,if_neg a5,if_neg a5,if_pos rfl]
 have U:l'.getD (k-1) Cz=l.getD (k-1) Cz:=by rw[h (k-1),if_neg a5,if_neg a5,if_neg a5]
 have e:=Wm (d:=Cz) (l:=l') (i:=k) (j:=k-1) a5 a5;have Q:=aT (o:=o) (l:=l') (i:=k-1) a5 (by rw[show k-1+1=k by omega,e1,U];exact O);rw[show k-1+1=k by omega,<-e,show k-1+2=k+1 by omega]at Q;refine⟨λp=>?_,Q⟩;rw[FH a5 a5,e1,U,h p];by_cases J:p=k-1
 ·rw[if_pos J,if_neg a5,if_neg a5,if_pos J]
 ·rw[if_neg J];by_cases I:p=k
  ·rw[if_pos I,if_neg a5,if_pos a5,I]
  ·rw[if_neg I];by_cases h3:m<p
   ·rw[if_pos h3,if_pos h3]
   ·rw[if_neg h3,if_neg h3];by_cases h4:k<p
    ·rw[if_pos h4,if_pos a5]
    ·rw[if_neg h4,if_neg I,if_neg a5,if_neg J]
theorem sd(h:Mdn l l' m i)(Z2:i<=m)(J:a<=i)(I:Ey o l a m)(e:∀p,a<=p->p<i->0<=DV o (l.getD m Cz) (l.getD p Cz))(Q:∀p,i<=p->p<m->DV o (l.getD m Cz) (l.getD p Cz)<0):Ey o l' a (m+1):=by
 intro p O U;rw[h p,h (p+1),if_neg (show ¬m<p by omega),if_neg (show ¬m<p+1 by omega)];by_cases h3:i<p
 ·rw[if_pos h3,if_pos a5,BV];have:=I (p-1) a5 a5;rwa [show p-1+1=p by omega]at this
 ·rw[if_neg h3];by_cases h4:p=i
  ·rw[if_pos h4,if_pos a5,BV];have:=Q p a5 a5;omega
  ·rw[if_neg h4,if_neg a5];by_cases h5:p+1=i
   ·rw[if_pos h5];have:=e p a5 a5;rw[Dy];omega
   ·rw[if_neg h5];exact I p O a5
end
theorem LW{k}(J:k<=5):∀(l:List Cy) (ws:List Nat),l.length*k<=ws.length->(∀p,p<l.length->(ws.drop (p*k)).take k=DZ k (l.getD p Cz))->ws.take (l.length*k)=EN k l
 |[],ws,_,_=>by simp[EN]
 |t::l,ws,hw,h=>by
  rw[BW,A7,BH]at hw;have e:=h 0 a8;rw[CY,Cr]at e;have I:=LW J l (ws.drop k) (by rw[Aq];omega) λp hp=>by
   have:=h (p+1) (by simpa using hp);rw[Cs,show k+p*k=(p+1)*k by rw[A7,BH];omega,this];rfl
  show ws.take ((l.length+1)*k)=DZ k t++EN k l;rw[<-I,show DZ k t=ws.take k from e.symm,A7,BH,Nat.add_comm,List.take_add]
theorem VL{ws E9:List Nat}{a b k}(I:a+k<=E9.length)(hb:b+k<=ws.length)(h:∀c,c<k->E9.getD (a+c) 0=ws.getD (b+c) 0):(E9.drop a).take k=(ws.drop b).take k:=by
 refine List.ext_getElem (by rw[AZ,AZ,Aq,Aq];omega) λc e J=>?_;rw[AZ,Aq]at e;have:=h c a5;rw[AT,AT,AU (show a+c<E9.length by omega),AU (show b+c<ws.length by omega)]at this;rw[List.getElem_take,List.getElem_take,List.getElem_drop,List.getElem_drop];exact this
def T2(ws E9:List Nat)(a b c:Nat):Prop:=E9.length=ws.length/\∀p,E9.getD p 0=if a<=p/\p<a+c then ws.getD (b+(p-a)) 0 else if b<=p/\p<b+c then ws.getD (a+(p-b)) 0 else ws.getD p 0
theorem ZC(ws:List Nat)(a b:Nat):T2 ws ws a b 0:=⟨rfl,λp=>by rw[if_neg a5,if_neg a5]⟩
theorem eI{ws E9 a b c k}(h:T2 ws E9 a b c)(hc:c<k)(hd:a+k<=b\/b+k<=a)(ha:a+k<=ws.length)(hb:b+k<=ws.length):T2 ws ((E9.set (a+c) (E9.getD (b+c) 0)).set (b+c) (E9.getD (a+c) 0)) a b (c+1):=by
 obtain⟨U,e⟩:=h;refine⟨by rw[Bg,Bg,U],λp=>?_⟩;rw[AT,Aw,Aw,Bg];by_cases Q:b+c=p
 ·rw[if_pos Q,if_pos a5,Option.getD_some,e,if_neg a5,if_neg a5,if_neg a5,if_pos a5,show p-b=c by omega]
 ·rw[if_neg Q];by_cases O:a+c=p
  ·rw[if_pos O,if_pos a5,Option.getD_some,e,if_neg a5,if_neg a5,if_pos a5,show p-a=c by omega]
  ·rw[if_neg O,<-AT,e];by_cases J:a<=p/\p<a+c
   ·rw[if_pos J,if_pos a5]
   ·rw[if_neg J,if_neg (show ¬(a<=p/\p<a+(c+1))by omega)];by_cases I:b<=p/\p<b+c
    ·rw[if_pos I,if_pos a5]
    ·rw[if_neg I,if_neg a5]
section
variable{W W':World}{r k g N cap q told:Nat}{o:Cy}{ws:List Nat}{l:List Cy}
theorem kP{ws E9 i j}(hk:k<=5)(hl:l.length=q)(hw:q*k<=ws.length)(hf:ws.take (q*k)=EN k l)(hi:i<q)(hj:j<q)(Ii:i≠j)(h:T2 ws E9 (i*k) (j*k) k):E9.take (q*k)=EN k (swp Cz l i j):=by
 obtain⟨h1,h2⟩:=h;have hlen:(swp Cz l i j).length=q:=Fb.trans hl;have e:∀p,p<q->(ws.drop (p*k)).take k=DZ k (l.getD p Cz):=λp hp=>(Ot hk rfl hl hf (getD_some a5)).2;have hle:∀p,p<q->p*k+k<=q*k:=λp hp=>by
  have:=Af k (show p+1<=q from hp);rw[A7,BH]at this;exact this
 have mq:∀p O,p≠O->p*k+k<=O*k\/O*k+k<=p*k:=λp O ab=>by
  rcases Nat.lt_or_gt_of_ne ab with J|J
  ·left;have:=Af k (show p+1<=O from J);rw[A7,BH]at this;exact this
  ·right;have:=Af k (show O+1<=p from J);rw[A7,BH]at this;exact this
 have I:=LW hk (swp Cz l i j) E9 (by rw[hlen,h1];exact hw) λp hp=>by
  rw[hlen]at hp;have ad:=hle p hp;rw[FH a5 a5];by_cases Q:p=j
  ·rw[if_pos Q,<-e i hi];refine VL a5 (by have:=hle i hi;omega) λc hc=>?_;rw[h2,if_neg (by have:=mq i j Ii;rw[Q];omega),if_pos (by rw[Q];omega),show p*k+c-j*k=c by rw[Q];omega]
  ·rw[if_neg Q];by_cases U:p=i
   ·rw[if_pos U,<-e j hj];refine VL a5 (by have:=hle j hj;omega) λc hc=>?_;rw[h2,if_pos (by rw[U];omega),show p*k+c-i*k=c by rw[U];omega]
   ·rw[if_neg U,<-e p hp];refine VL a5 a5 λc hc=>?_;rw[h2,if_neg (by have:=mq p i U;omega),if_neg (by have:=mq p j Q;omega)]
 rw[hlen]at I;exact I
theorem eo(h:Ic W r k g N cap q o told ws l){i j}(hi:i<q)(hj:j<q)(Ii:i≠j)(gG:r≠g):Calls AP 191 #[AI r,i,j] W λe w'=>e=AH (AM #[])/\(∃E9,Ic w' r k g N cap q o told E9 (swp Cz l i j))/\DJ (λb=>b=g) W w':=by
 have hle:∀p,p<q->p*k+k<=N:=λp hp=>by
  have:=Af k (show p+1<=q from hp);rw[A7,BH,<-h.nn.1]at this;exact this
 have mq:i*k+k<=j*k\/j*k+k<=i*k:=by
  rcases Nat.lt_or_gt_of_ne Ii with I|I
  ·left;have:=Af k (show i+1<=j from I);rw[A7,BH]at this;exact this
  ·right;have:=Af k (show j+1<=i from I);rw[A7,BH]at this;exact this
 obtain⟨n1,n2,n3,n4,n5⟩:=h.nn;have U:=h.kk;have ae:=hle i hi;have ad:=hle j hj;have Q1:Hid (∀d os,Calls AP 158 #[AL #[k,AJ g N cap],i] (An (redrawn W d) os) λe Eo=>e=AH (AJ (g,i*k) k (cap-i*k))/\∃p:Regrown,Eo=An (redrawn W p.d) p.os):=λd os=>Ba (Q9 k i g N cap _ U.1 U.2 ae n2 n3);have Q2:Hid (∀d os,Calls AP 158 #[AL #[k,AJ g N cap],j] (An (redrawn W d) os) λe Eo=>e=AH (AJ (g,j*k) k (cap-j*k))/\∃p:Regrown,Eo=An (redrawn W p.d) p.os):=λd os=>Ba (Q9 k j g N cap _ U.1 U.2 ad n2 n3);have k0:∀d os,(An (redrawn W d) os).cell? r=AE (AA AB k):=Ac (h.row.cell 0);have k1:∀d os,(An (redrawn W d) os).cell? (r,1)=AE (AJ g N cap):=Ac (h.row.cell 1);have Du:Hid (∀O E9,DJ (λb=>b=g) W O->Row O g 120 (E9.map vw)->T2 ws E9 (i*k) (j*k) k->Ic O r k g N cap q o told E9 (swp Cz l i j)):=λO E9 hf hr hs=>by
  refine⟨hf.row h.row λe=>gG e,hr,U,⟨n1,n2,n3,hs.1.trans n4,n5⟩,Fb.trans h.len,h.tol,?_,λu hu=>?_⟩
  ·rw[n1];exact kP U.2 h.len a5 (by rw[<-n1];exact h.flat) hi hj Ii hs
  ·obtain⟨p,hp,rfl⟩:=BP hu;rw[Fb,h.len]at hp;rw[<-Hi (by rw[Fb,h.len];exact hp),FH (by rw[h.len];exact hi) (by rw[h.len];exact hj)];have J:∀p,p<q->D7 (l.getD p Cz)/\Db k (l.getD p Cz)=true:=λp hp=>h.fit _ (M7 (by rw[h.len];exact hp))
   split
   ·exact J i hi
   ·split
    ·exact J j hj
    ·exact J p hp
 have HW:=AO h.words;have TT:Hid (∀E9 c,T2 ws E9 (i*k) (j*k) c->c<k->T2 ws ((E9.set (i*k+c) (E9.getD (j*k+c) 0)).set (j*k+c) (E9.getD (i*k+c) 0)) (i*k) (j*k) (c+1)/\i*k+c<E9.length/\j*k+c<E9.length):=λE9 c h1 h2=>⟨eI h1 h2 mq a5 a5,by rw[h1.1];omega,by rw[h1.1];omega⟩;have G7:Hid (T2 ws ws (i*k) (j*k) 0):=ZC _ _ _;have qb:Hid (∀c,c<k->i*k+c≠j*k+c):=λc hc=>by omega
 clear h hle hi hj gG n1 n4;generalize i*k=a at*
 generalize j*k=b at*
 generalize wz:(λ(e:Ending) (w':World)=>e=AH (AM #[])/\(∃E9,Ic w' r k g N cap q o told E9 (swp Cz l i j))/\DJ (λb=>b=g) W w')=Dh;have HP:Hid (∀O E9,DJ (λb=>b=g) W O->Row O g 120 (E9.map vw)->T2 ws E9 a b k->Dh (AH (AM #[])) O):=λO E9 h1 h2 h3=>by rw[<-wz];exact⟨rfl,⟨E9,Du.out O E9 h1 h2 h3⟩,h1⟩
 clear wz Du;go_enter func191,ntmps191
 go_wp2
 refine By a7 a7 ?_
 repeat(any_goals(first|go_big_quiet_step (with_reducible first|exact Q1.out _ _|exact Q2.out _ _)|quiet_step (with_reducible first|exact Q1.out _ _|exact Q2.out _ _)))
 refine wpQuiet_nil ?_;intro w5 Jr;obtain⟨⟨dq,osq⟩,Jr⟩:=Jr;have Fj:=B0 W dq osq;rw[<-Jr]at Fj;have aq:Hid (DJ (λb=>b=g) W w5):=DJ.DE Fj _;have ao:Hid (Row w5 g 120 (ws.map vw)):=HW.out.below Fj HW.out.lt;clear Jr Fj k0 k1 Q1 Q2 HW;go_wp2
 go_loopw [8,23] (λ_ iv wr=>∃(c:Nat) (E9:List Nat),c<=k/\iv=AA AB (c:Int)/\Hid (DJ (λb=>b=g) W wr)/\Hid (Row wr g 120 (E9.map vw))/\Hid (T2 ws E9 a b c)) (λ_ iv _=>k-(BF iv).toNat)
 case atStart=>exact⟨0,ws,Ao _,rfl,aq.out,ao.out,G7.out⟩
 case round=>
  obtain⟨c,E9,hc,rfl,HF,Q,HS⟩:=hrel;by_cases I:c<k
  ·obtain⟨Gp,G9,Tg⟩:=TT.out E9 c HS.out I;have ar:=qb.out c I;have c0:wr.cell? (g,a+c)=AE (.int .u64 (E9.getD (a+c) 0:Nat)):=by rw[Q.out.cell (a+c)];exact MF G9
   have c1:wr.cell? (g,b+c)=AE (.int .u64 (E9.getD (b+c) 0:Nat)):=by rw[Q.out.cell (b+c)];exact MF Tg
   have f0:=Q.out.free (a+c);have f1:=Q.out.free (b+c);have al:=AO Gp;have ab:Hid (Row ((wr.setCell (g,a+c) (.int .u64 (E9.getD (b+c) 0:Nat))).setCell (g,b+c) (.int .u64 (E9.getD (a+c) 0:Nat))) g 120 (((E9.set (a+c) (E9.getD (b+c) 0)).set (b+c) (E9.getD (a+c) 0)).map vw)):=by
    unfold Hid;rw[List.map_set,List.map_set];exact(Q.out.set (a+c) _).set (b+c) _
   have jk:Hid (DJ (λb=>b=g) W ((wr.setCell (g,a+c) (.int .u64 (E9.getD (b+c) 0:Nat))).setCell (g,b+c) (.int .u64 (E9.getD (a+c) 0:Nat)))):=(HF.out.set (p:=(g,a+c)) (.inl rfl) _).set (p:=(g,b+c)) (.inl rfl) _;have j0:(0:Int)<=(c:Int):=a5;have j1:(c:Int)<(k:Int):=a5;clear Gp G9 Tg;generalize E9.getD (a+c) 0=xa at*
   generalize E9.getD (b+c) 0=xb at*
   go_wp2
   go_region
   have an:=AO (ab.out.drewN 1);have jl:=AO jk.out.drew;clear ab jk HF Q c0 c1 f0 f1;go_wp2
   go_roundw
   case rel=>exact⟨c+1,_,a5,by go_num,jl.out,an.out,al.out⟩
   case measure=>simp[BF];omega
  ·obtain rfl:c=k:=a5;have H9:=AO (HP.out wr E9 HF.out Q.out HS.out);go_wp2
   go_end0
   exact H9.out
end
def Iw(l:List Cy)(a m b:Nat):List Cy:=l.take a++((l.drop m).take (b-m)++((l.drop a).take (m-a)++l.drop b))
section
variable{o:Cy}{l l':List Cy}{a b m i j k n:Nat}
theorem JM(I:a<=m)(e:m<=b)(h3:b<=l.length):(Iw l a m b).length=l.length:=by
 unfold Iw;rw[Aa,Aa,Aa,AZ,AZ,AZ,Aq,Aq,Aq];omega
theorem Px{l m:List Cy}{i}(h:i<l.length):(l++m).getD i Cz=l.getD i Cz:=by
 rw[AT,AT,Aj h]
theorem Nz{l m:List Cy}{i}(h:l.length<=i):(l++m).getD i Cz=m.getD (i-l.length) Cz:=by
 rw[AT,AT,AW h]
theorem LR(h1:a<=m)(U:m<=b)(h3:b<=l.length)(i:Nat):(Iw l a m b).getD i Cz=if i<a then l.getD i Cz else if i<a+(b-m)then l.getD (i+(m-a)) Cz else if i<b then l.getD (i-(b-m)) Cz else l.getD i Cz:=by
 unfold Iw;have l1:(l.take a).length=a:=by rw[AZ];omega
 have Q:((l.drop m).take (b-m)).length=b-m:=by rw[AZ,Aq];omega
 have O:((l.drop a).take (m-a)).length=m-a:=by rw[AZ,Aq];omega
 by_cases e:i<a
 ·rw[if_pos e,Px a5,Hu e]
 ·rw[if_neg e,Nz a5,l1];by_cases J:i<a+(b-m)
  ·rw[if_pos J,Px a5,Hu a5,Hv,show m+(i-a)=i+(m-a)by omega]
  ·rw[if_neg J,Nz a5,Q];by_cases I:i<b
   ·rw[if_pos I,Px a5,Hu a5,Hv,show a+(i-a-(b-m))=i-(b-m)by omega]
   ·rw[if_neg I,Nz a5,O,Hv,show b+(i-a-(b-m)-(m-a))=i by omega]
theorem lG(h:m<=b):Iw l m m b=l:=by
 unfold Iw;rw[As,Bs,BL]
 conv=>rhs;rw[<-BS m l,<-BS (b-m) (l.drop m),Cs,show m+(b-m)=b by omega]
theorem lF(h:a<=m):Iw l a m m=l:=by
 unfold Iw;rw[As,Bs,BL]
 conv=>rhs;rw[<-BS a l,<-BS (m-a) (l.drop a),Cs,show a+(m-a)=m by omega]
theorem bR{x}(h:x∈(l.drop a).take (b-a))(hb:b<=l.length):∃i,a<=i/\i<b/\l.getD i Cz=x:=by
 obtain⟨j,I,e⟩:=BP h;rw[AZ,Aq]at I;refine⟨a+j,a5,a5,?_⟩;rw[<-e,<-Hi,Hu a5,Hv]
theorem yZ(I:a<=m)(e:m<=b)(h3:b<=l.length)(h:∀i j,a<=i->i<m->m<=j->j<b->DV o (l.getD j Cz) (l.getD i Cz)<0):Ch o a b l (Iw l a m b):=by
 refine⟨JM I e h3,λi hi=>?_,?_⟩
 ·rw[LR I e h3];by_cases J:i<a
  ·rw[if_pos J]
  ·rw[if_neg J,if_neg a5,if_neg a5]
 ·have d1:l=l.take a++(((l.drop a).take (m-a)++(l.drop m).take (b-m))++l.drop b):=by
   conv=>lhs;rw[<-BS a l,<-BS (m-a) (l.drop a),Cs,show a+(m-a)=m by omega,<-BS (b-m) (l.drop m),Cs,show m+(b-m)=b by omega]
   rw[AR]
  unfold Iw
  conv=>arg 2;rw[d1]
  rw[<-AR ((l.drop m).take (b-m))];refine(Cl.refl o _).append ((Cl.swap λu hu v hv=>?_).append (Cl.refl o _));obtain⟨i,i1,U,rfl⟩:=bR hu a5;obtain⟨j,Q,O,rfl⟩:=bR hv h3;have:=h i j i1 U Q O;omega
def eG(l:List Cy)(a b n:Nat):Nat->Cy:=λi=>if a<=i/\i<a+n then l.getD (i+(b-a)) Cz else if b<=i/\i<b+n then l.getD (i-(b-a)) Cz else l.getD i Cz
def Mh(l l':List Cy)(a b k:Nat):Prop:=l'.length=l.length/\∀i,l'.getD i Cz=eG l a b k i
theorem eE(l:List Cy)(a b:Nat):Mh l l a b 0:=⟨rfl,λi=>by unfold eG;rw[if_neg a5,if_neg a5]⟩
theorem kN(h:Mh l l' a b k)(aD:a+n<=b)(hb:b+n<=l.length)(hk:k<n):Mh l (swp Cz l' (a+k) (b+k)) a b (k+1):=by
 obtain⟨U,e⟩:=h;refine⟨Fb.trans U,λi=>?_⟩;rw[FH a5 a5,e,e,e];unfold eG;by_cases J:i=b+k
 ·rw[if_pos J,if_neg a5,if_neg a5,if_neg a5,if_pos a5,J,show b+k-(b-a)=a+k by omega]
 ·rw[if_neg J];by_cases I:i=a+k
  ·rw[if_pos I,if_neg a5,if_neg a5,if_pos a5,I,show a+k+(b-a)=b+k by omega]
  ·rw[if_neg I];by_cases Q:a<=i/\i<a+k
   ·rw[if_pos Q,if_pos a5]
   ·rw[if_neg Q,if_neg (show ¬(a<=i/\i<a+(k+1))by omega)];by_cases O:b<=i/\i<b+k
    ·rw[if_pos O,if_pos a5]
    ·rw[if_neg O,if_neg a5]
def Nf(l0 l:List Cy)(a m b i j:Nat):Prop:=l.length=l0.length/\a+i<=m/\m+j<=b/\Iw l (m-i) m (m+j)=Iw l0 a m b
theorem W8(I:a<=m)(e:m<=b):Nf l l a m b (m-a) (b-m):=⟨rfl,a5,a5,by rw[show m-(m-a)=a by omega,show m+(b-m)=b by omega]⟩
theorem lI{l0}(h:Nf l0 l a m b i j)(hb:b<=l0.length)(Ii:j<i)(hs:Mh l l' (m-i) m j):Nf l0 l' a m b (i-j) j:=by
 obtain⟨h1,h2,h3,h4⟩:=h;obtain⟨J,I⟩:=hs;refine⟨J.trans h1,a5,h3,?_⟩;rw[<-h4];refine ext_get (by rw[JM a5 a5 a5,JM a5 a5 a5,J]) λq hq=>?_;rw[JM a5 a5 a5]at hq;rw[LR a5 a5 a5,LR a5 a5 a5,I,I,I];unfold eG;by_cases U:q<m-i
 ·rw[if_pos (show q<m-(i-j)by omega),if_pos U,if_neg a5,if_neg a5]
 ·rw[if_neg U];by_cases Q:q<m-i+(m+j-m)
  ·rw[if_pos (show q<m-(i-j)by omega),if_pos Q,if_pos a5,show q+(m-(m-i))=q+(m-(m-i))from rfl]
  ·rw[if_neg Q,if_neg (show ¬q<m-(i-j)by omega)];by_cases O:q<m-(i-j)+(m+j-m)
   ·rw[if_pos O,if_neg a5,if_pos a5,if_pos a5]
    congr 1;omega
   ·rw[if_neg O];by_cases e:q<m+j
    ·rw[if_pos e,if_pos e,if_neg a5,if_neg a5]
    ·rw[if_neg e,if_neg e,if_neg a5,if_neg a5]
theorem lH{l0}(h:Nf l0 l a m b i j)(hb:b<=l0.length)(Ii:i<j)(hs:Mh l l' (m-i) (m+j-i) i):Nf l0 l' a m b i (j-i):=by
 obtain⟨h1,h2,h3,h4⟩:=h;obtain⟨J,I⟩:=hs;refine⟨J.trans h1,h2,a5,?_⟩;rw[<-h4];refine ext_get (by rw[JM a5 a5 a5,JM a5 a5 a5,J]) λq hq=>?_;rw[JM a5 a5 a5]at hq;rw[LR a5 a5 a5,LR a5 a5 a5,I,I,I];unfold eG;by_cases e:q<m-i
 ·rw[if_pos e,if_pos e,if_neg a5,if_neg a5]
 ·rw[if_neg e,if_neg e];by_cases U:q<m-i+(m+(j-i)-m)
  ·rw[if_pos U,if_neg a5,if_neg a5,if_pos a5]
  ·rw[if_neg U];by_cases Q:q<m+(j-i)
   ·rw[if_pos Q,if_pos a5,if_pos a5]
    congr 1;omega
   ·rw[if_neg Q];by_cases O:q<m+j
    ·rw[if_neg a5,if_pos a5,if_neg a5,if_pos O]
     congr 1;omega
    ·rw[if_neg a5,if_neg a5,if_neg a5,if_neg O]
theorem ep{l0}(h:Nf l0 l a m b i i)(hb:b<=l0.length)(U:Mh l l' (m-i) m i):l'=Iw l0 a m b:=by
 obtain⟨h1,h2,h3,h4⟩:=h;obtain⟨Q,O⟩:=U;rw[<-h4];refine ext_get (by rw[JM a5 a5 a5,Q]) λq hq=>?_;rw[LR a5 a5 a5,O];unfold eG;by_cases J:q<m-i
 ·rw[if_pos J,if_neg a5,if_neg a5]
 ·rw[if_neg J];by_cases I:q<m-i+(m+i-m)
  ·rw[if_pos I,if_pos a5]
  ·rw[if_neg I,if_neg a5];by_cases e:q<m+i
   ·rw[if_pos e,if_pos a5]
    congr 1;omega
   ·rw[if_neg e,if_neg a5]
theorem fW{s e mid}(has:a<=s)(wG:s<=m)(J:m<=e)(ab:e<=b)(hb:b<=l.length)(IY:mid=s+(e-m))(h1:Ey o l a m)(U:Ey o l m b)
  (ad:a<s->e<b->DV o (l.getD (s-1) Cz) (l.getD e Cz)<=0)(ny:s<m->m<e->DV o (l.getD (e-1) Cz) (l.getD s Cz)<0):
  Ch o a b l (Iw l s m e)/\Ey o (Iw l s m e) a s/\Ey o (Iw l s m e) s mid/\Ey o (Iw l s m e) mid e/\Ey o (Iw l s m e) e b/\∀p q,a<=p->p<mid->mid<=q->q<b->DV o ((Iw l s m e).getD p Cz) ((Iw l s m e).getD q Cz)<=0:=by
 have I:=LR (l:=l) wG J a5;have M5:∀i j,s<=i->i<m->m<=j->j<e->DV o (l.getD j Cz) (l.getD i Cz)<0:=λi j O Q j1 j2=>by
  have k1:=U.le j1 (show j<=e-1 by omega) (show e-1<b by omega);have k2:=h1.le has O Q;exact K8 (M9 k1 (ny a5 a5)) k2
 refine⟨(yZ wG J a5 M5).mono has ab,λi O Q=>?_,λi O Q=>?_,λi O Q=>?_,λi O Q=>?_,λp q p1 p2 q1 q2=>?_⟩
 ·rw[I,I,if_pos (show i<s by omega),if_pos (show i+1<s by omega)];exact h1 i O a5
 ·rw[I,I,if_neg (show ¬i<s by omega),if_neg (show ¬i+1<s by omega),if_pos (show i<s+(e-m)by omega),if_pos (show i+1<s+(e-m)by omega),show i+1+(m-s)=i+(m-s)+1 by omega];exact U _ a5 a5
 ·rw[I,I,if_neg (show ¬i<s by omega),if_neg (show ¬i+1<s by omega),if_neg (show ¬i<s+(e-m)by omega),if_neg (show ¬i+1<s+(e-m)by omega),if_pos (show i<e by omega),if_pos (show i+1<e by omega),show i+1-(e-m)=i-(e-m)+1 by omega];exact h1 _ a5 a5
 ·rw[I,I,if_neg (show ¬i<s by omega),if_neg (show ¬i+1<s by omega),if_neg (show ¬i<s+(e-m)by omega),if_neg (show ¬i+1<s+(e-m)by omega),if_neg (show ¬i<e by omega),if_neg (show ¬i+1<e by omega)];exact U _ a5 a5
 ·rw[I,I,if_neg (show ¬q<s by omega),if_neg (show ¬q<s+(e-m)by omega)];by_cases c1:p<s
  ·rw[if_pos c1];by_cases c2:q<e
   ·rw[if_pos c2];exact h1.le p1 a5 a5
   ·rw[if_neg c2];exact FU (h1.le p1 (show p<=s-1 by omega) a5) (FU (ad a5 a5) (U.le J (show e<=q by omega) q2))
  ·rw[if_neg c1,if_pos (show p<s+(e-m)by omega)];by_cases c2:q<e
   ·rw[if_pos c2];have:=M5 (q-(e-m)) (p+(m-s)) a5 a5 a5 a5;omega
   ·rw[if_neg c2];exact U.le a5 a5 q2
theorem Zg{l1 l2 l3 mid}(J:a<=mid)(U:mid<=b)(hb:b<=l1.length)(hx:∀p q,a<=p->p<mid->mid<=q->q<b->DV o (l1.getD p Cz) (l1.getD q Cz)<=0)(I:Ch o a mid l1 l2)(s1:Ey o l2 a mid)(e:Ch o mid b l2 l3)(s2:Ey o l3 mid b):Ch o a b l1 l3/\Ey o l3 a b:=by
 refine⟨(I.mono ar U).trans (e.mono J ar),λi Q O=>?_⟩;by_cases h1:i+1<mid
 ·rw[e.out i a5,e.out (i+1) a5];exact s1 i Q h1
 ·by_cases h2:mid<=i
  ·exact s2 i h2 O
  ·obtain⟨p,p1,p2,p3⟩:=I.inR J a5 (i:=i) Q a5;obtain⟨q,q1,q2,q3⟩:=e.inR U (by rw[I.len];exact hb) (i:=i+1) a5 O;rw[e.out i a5,<-p3,<-q3,I.out q a5];exact hx p q p1 p2 q1 q2
def OE(o:Cy)(l:List Cy)(s a b:Nat):Prop:=∀i,a<=i->i+1<b->(i+1)%s≠0->DV o (l.getD i Cz) (l.getD (i+1) Cz)<=0
end
structure Nd (r n:Nat) (o:Cy) (R:List Cy->World->Prop):Prop where
 len:∀l W,R l W->l.length=n
 less:∀l W,R l W->∀i j:Nat,i<n->j<n->Calls AP 189 #[AI r,i,j] W λe w'=>e=AH (.bool (decide (DV o (l.getD i Cz) (l.getD j Cz)<0)))/\R l w'
 swap:∀l W,R l W->∀i j:Nat,i<n->j<n->i≠j->Calls AP 191 #[AI r,i,j] W λe w'=>e=AH (AM #[])/\R (swp Cz l i j) w'
theorem OV(r:Nat)(w:World):Bu AP (method 371 221 (AI r) "Less") w=.ok (189,AI r) w:=a7
theorem OU(r:Nat)(w:World):Bu AP (method 371 221 (AI r) "Swap") w=.ok (191,AI r) w:=a7
theorem sB(r:Nat)(w:World):Bu AP (method 371 221 (AI r) "Len") w=.ok (153,AI r) w:=a7
section
variable{r n:Nat}{o:Cy}{R:List Cy->World->Prop}{l:List Cy}{W:World}
theorem bz(C:Nd r n o R)(hn:n<=100000)(a b:Nat)(aD:a<=b)(hb:b<=n)(h:R l W):
  Calls AP 159 #[.iface 221 (AI r),a,b] W λe w'=>e=AH (AM #[])/\∃l',R l' w'/\Ch o a b l l'/\Ey o l' a b:=by
 have mL:=OV r;have mS:=OU r;have HC:=AO C;have H:=AO h;clear h C;go_enter func159,ntmps159
 go_wp2
 go_loopw [6] (λvi wr=>∃(i:Nat) (Q:List Cy),vi=AA AB (i:Int)/\a<i/\i<=b+1/\Hid (R Q wr)/\Hid (Ch o a b l Q)/\Hid (Ey o Q a i)) (λvi _=>b+1-(BF vi).toNat)
 case atStart=>exact⟨a+1,l,by go_num,a5,a5,H.out,Ch.refl _ _ _ _,λi i1 i2=>by omega⟩
 case round=>
  obtain⟨i,Q,rfl,ax,av,HR,vU,HA⟩:=hrel;have aq:=HC.out.len _ _ HR.out;by_cases ao:i<b
  ·go_wp2
   go_loopw [7] (λvj qm=>∃(j:Nat) (I:List Cy),vj=AA AB (j:Int)/\a<=j/\j<=i/\Hid (R I qm)/\Hid (Ch o a (i+1) Q I)/\Hid (Ins o I a i j)) (λvj _=>(BF vj).toNat)
   case atStart=>exact⟨i,Q,rfl,a5,AQ _,HR.out,Ch.refl _ _ _ _,gA HA.out⟩
   case round=>
    obtain⟨j,I,rfl,aw,ab,U,ae,HI⟩:=hrel;have au:=HC.out.len _ _ U.out;have ad:(j=a\/¬DV o (I.getD j Cz) (I.getD (j-1) Cz)<0)->∀J,R I J->∃(i':Nat) (O:List Cy),BZ AB ((i:Int)+1)=AA AB (i':Int)/\a<i'/\i'<=b+1/\Hid (R O J)/\Hid (Ch o a b l O)/\Hid (Ey o O a i'):=λhs J h9=>
     ⟨i+1,I,by go_num,a5,a5,h9,vU.out.trans (ae.out.mono ar a5),mQ HI.out ab hs⟩
    have al:=AO ad;clear ad;by_cases an:a<j
    ·have hl:=HC.out.less _ _ U.out j (j-1) a5 a5;rw[show ((j-1:Nat):Int)=(j:Int)-1 by omega]at hl;have HL:=AO hl;clear hl;by_cases Oi:DV o (I.getD j Cz) (I.getD (j-1) Cz)<0
     ·have HS:Hid (∀J,R I J->Calls AP 191 #[AI r,j,AA AB ((j:Int)-1)] J λe w'=>e=AH (AM #[])/\R (swp Cz I j (j-1)) w'):=λJ h9=>by
       have:=HC.out.swap _ _ h9 j (j-1) a5 a5 a5;rwa [show ((j-1:Nat):Int)=(j:Int)-1 by omega]at this
      have G7:=AO (mR HI.out an ab a5 Oi);have g1:=decide_eq_true Oi;go_wp2_with fail
      refine HL.out.mono ?_;rintro e w1 ⟨rfl,h1⟩;rw[g1];have H1:=AO h1;clear h1;go_wp2_with fail
      refine(HS.out _ H1.out).mono ?_;rintro e w2 ⟨rfl,h2⟩;have H2:=AO h2;clear h2;go_wp2
      go_roundw
      case rel=>
       exact⟨j-1,_,by congr 1;omega,a5,a5,H2.out,ae.out.trans G7.out.2,G7.out.1⟩
      case measure=>simp[BF];omega
     ·have g1:=decide_eq_false Oi;go_wp2_with fail
      refine HL.out.mono ?_;rintro e w1 ⟨rfl,h1⟩;rw[g1];have H1:=AO (al.out (.inr Oi) _ h1);clear h1;go_wp2
      go_roundw
      case rel=>exact H1.out
      case measure=>simp[BF];omega
    ·have H1:=AO (al.out (.inl a5) _ U.out);go_wp2
     go_roundw
     case rel=>exact H1.out
     case measure=>simp[BF];omega
  ·go_wp2
   go_end0
   exact⟨rfl,Q,HR.out,vU.out,λp p1 p2=>HA.out p p1 a5⟩
end
section
variable{r n:Nat}{o:Cy}{R:List Cy->World->Prop}{l:List Cy}{W:World}
theorem VE(C:Nd r n o R)(hn:n<=100000)(a b k:Nat)(aD:a+k<=b)(hb:b+k<=n)(h:R l W):
  Calls AP 165 #[.iface 221 (AI r),a,b,k] W λe w'=>e=AH (AM #[])/\∃l',R l' w'/\Mh l l' a b k:=by
 have mS:=OU r;have HC:=AO C;have H:=AO h;clear h C;go_enter func165,ntmps165
 go_wp2
 go_loopw [8] (λJ wr=>∃(i:Nat) (I:List Cy),J=AA AB (i:Int)/\i<=k/\Hid (R I wr)/\Hid (Mh l I a b i)) (λJ _=>k-(BF J).toNat)
 case atStart=>exact⟨0,l,rfl,a5,H.out,eE _ _ _⟩
 case round=>
  obtain⟨i,I,rfl,nJ,HR,HS⟩:=hrel;by_cases O:i<k
  ·have Ol:=HC.out.len _ _ H.out;have Q:=HC.out.swap _ _ HR.out (a+i) (b+i) a5 a5 a5;rw[Int.natCast_add,Int.natCast_add]at Q;have HL:=AO Q;have HT:=AO (kN HS.out aD a5 O);clear Q;go_wp2_with fail
   refine HL.out.mono ?_;rintro e w1 ⟨rfl,h1⟩;have H1:=AO h1;clear h1;go_wp2
   go_roundw
   case rel=>exact⟨i+1,_,by go_num,a5,H1.out,HT.out⟩
   case measure=>simp[BF];omega
  ·have U:i=k:=a5;subst U;go_wp2
   go_end0
   exact⟨rfl,I,HR.out,HS.out⟩
theorem sI(C:Nd r n o R)(hn:n<=100000)(a m b:Nat)(zv:a<m)(SX:m<b)(hb:b<=n)(h:R l W):
  Calls AP 163 #[.iface 221 (AI r),a,m,b] W λe w'=>e=AH (AM #[])/\R (Iw l a m b) w':=by
 have HC:=AO C;have H:=AO h;have Q7:=AO (C.len _ _ h);obtain⟨i0,FW⟩:∃i0:Nat,i0=m-a:=⟨_,rfl⟩;obtain⟨j0,UW⟩:∃j0:Nat,j0=b-m:=⟨_,rfl⟩;have s1:(m:Int)-(a:Int)=(i0:Int):=a5;have s2:(b:Int)-(m:Int)=(j0:Int):=a5;have G7:Hid (Nf l l a m b i0 j0):=by rw[FW,UW];exact W8 a5 a5
 have hp:0<i0/\0<j0:=a5;clear FW UW h C;go_enter func163,ntmps163
 go_wp2
 go_loopw [8,9] (λvi vj wr=>∃(i j:Nat) (O:List Cy),vi=AA AB (i:Int)/\vj=AA AB (j:Int)/\0<i/\0<j/\Hid (R O wr)/\Hid (Nf l O a m b i j)) (λvi vj _=>(BF vi).toNat+(BF vj).toNat)
 case atStart=>exact⟨i0,j0,l,rfl,rfl,hp.1,hp.2,H.out,G7.out⟩
 case round=>
  clear s1 s2 hp G7;obtain⟨i,j,O,rfl,rfl,hi,hj,HR,HS⟩:=hrel;have Xg:a+i<=m:=HS.out.2.1;have qJ:m+j<=b:=HS.out.2.2.1;have HQ:=AO (Bt Xg qJ);obtain⟨x,hx⟩:∃x:Nat,x=m-i:=⟨_,rfl⟩;have s3:(m:Int)-(i:Int)=(x:Int):=a5;have Ol:O.length=n:=HC.out.len _ _ HR.out;by_cases ab:i=j
  ·subst ab;have HL:=AO (VE HC.out hn x m i a5 a5 HR.out);have HE:Hid (∀l',Mh O l' x m i->l'=Iw l a m b):=λl' h'=>by rw[hx]at h';exact ep HS.out (by rw[Q7.out];exact hb) h'
   clear hx Xg qJ Ol;go_wp2_with fail
   refine HL.out.mono ?_;rintro e w1 ⟨rfl,l',I,J⟩;have h3:=HE.out l' J;rw[h3]at I;have H1:=AO I;clear I J h3;go_wp2
   go_end0
   exact⟨rfl,H1.out⟩
  ·have Qt:¬(i:Int)=(j:Int):=a5;have an:((i:Int) !=(j:Int))=true:=by simpa using Qt
   by_cases ae:j<i
   ·obtain⟨U,ad⟩:∃U:Nat,U=i-j:=⟨_,rfl⟩;have s4:(i:Int)-(j:Int)=(U:Int):=a5;have HL:=AO (VE HC.out hn x m j a5 a5 HR.out);have HE:Hid (∀l',Mh O l' x m j->Nf l l' a m b U j):=λl' h'=>by rw[hx]at h';rw[ad];exact lI HS.out (by rw[Q7.out];exact hb) ae h'
    have qc:Hid (0<U/\U<i):=by constructor<;>omega
    clear hx Xg qJ Ol ad ab Qt;go_wp2_with fail
    refine HL.out.mono ?_;rintro e w1 ⟨rfl,l',I,J⟩;have H1:=AO I;have H2:=AO (HE.out l' J);clear I J;go_wp2
    go_roundw
    case rel=>exact⟨U,j,l',rfl,rfl,qc.out.1,hj,H1.out,H2.out⟩
    case measure=>have:=qc.out;simp[BF];omega
   ·obtain⟨Q,Xo⟩:∃Q:Nat,Q=j-i:=⟨_,rfl⟩;have s4:(j:Int)-(i:Int)=(Q:Int):=a5;obtain⟨z,hz⟩:∃z:Nat,z=m+j:=⟨_,rfl⟩;have s6:(m:Int)+(j:Int)=(z:Int):=a5;have al:z<=n:=a5;obtain⟨y,hy⟩:∃y:Nat,y=m+j-i:=⟨_,rfl⟩;have s5:(z:Int)-(i:Int)=(y:Int):=a5;have HL:=AO (VE HC.out hn x y i a5 a5 HR.out);have HE:Hid (∀l',Mh O l' x y i->Nf l l' a m b i Q):=λl' h'=>by rw[hx,hy]at h';rw[Xo];exact lH HS.out (by rw[Q7.out];exact hb) a5 h'
    have xy:Hid (0<Q/\Q<j):=by constructor<;>omega
    clear hx Xg qJ Ol Xo ab Qt hy hz;go_wp2_with fail
    refine HL.out.mono ?_;rintro e w1 ⟨rfl,l',I,J⟩;have H1:=AO I;have H2:=AO (HE.out l' J);clear I J;go_wp2
    go_roundw
    case rel=>exact⟨i,Q,l',rfl,rfl,hi,xy.out.1,H1.out,H2.out⟩
    case measure=>have:=xy.out;simp[BF];omega
end
section
variable{r n:Nat}{o:Cy}{R:List Cy->World->Prop}{l:List Cy}{W:World}
def Ux(R:List Cy->World->Prop)(o:Cy)(l:List Cy)(a b:Nat)(e:Ending)(w':World):Prop:=e=AH (AM #[])/\∃l',R l' w'/\Ch o a b l l'/\Ey o l' a b
theorem rT(C:Nd r n o R)(hn:n<=100000)(a m b:Nat)(hm:m=a+1)(SX:m<b)(hb:b<=n)(h:R l W)(hs:Ey o l (a+1) b):
  Calls AP 160 #[.iface 221 (AI r),a,m,b] W (Ux R o l a b):=by
 have mL:=OV r;have mS:=OU r;have HC:=AO C;have H:=AO h;have HS:=AO hs;have Q7:=AO (C.len _ _ h);have s1:(m:Int)-(a:Int)=1:=a5;have HM:=AO hm;have zv:a<m:=a5;clear h hs C hm;go_enter func160,ntmps160
 go_wp2
 go_loopw [8,9] (λvi vj wr=>∃(i j:Nat),vi=AA AB (i:Int)/\vj=AA AB (j:Int)/\m<=i/\i<=j/\j<=b/\Hid (R l wr)/\Hid (∀p,m<=p->p<i->DV o (l.getD p Cz) (l.getD a Cz)<0)/\Hid (∀p,j<=p->p<b->0<=DV o (l.getD p Cz) (l.getD a Cz))) (λvi vj _=>(BF vj).toNat-(BF vi).toNat)
 case atStart=>exact⟨m,b,rfl,rfl,a5,a5,a5,H.out,λp p1 Q=>by omega,λp p1 Q=>by omega⟩
 case round=>
  clear s1;obtain⟨i,j,rfl,rfl,hi,Ii,ae,HR,vL,vN⟩:=hrel;by_cases aq:i<j
  ·obtain⟨I,SQ⟩:∃I:Nat,I=i+j:=⟨_,rfl⟩;obtain⟨h,hh⟩:∃h:Nat,h=I/2:=⟨_,rfl⟩;have Qv:i<=h:=a5;have ar:h<j:=a5;have MX:(i:Int)+(j:Int)=(I:Int):=a5;have Ns:Ab.wrap (I:Int)=(I:Int):=Al _ a5;have hdiv:(I:Int)/2=(h:Int):=a5;have HL:=AO (HC.out.less _ _ HR.out h a a5 a5);clear SQ hh;by_cases Oi:DV o (l.getD h Cz) (l.getD a Cz)<0
   ·have g1:=decide_eq_true Oi;have HN:Hid (∀p,m<=p->p<h+1->DV o (l.getD p Cz) (l.getD a Cz)<0):=λp p1 Q=>M9 (HS.out.le (by have:=HM.out;omega) (show p<=h by omega) a5) Oi;go_wp2_with fail
    refine HL.out.mono ?_;rintro e w1 ⟨rfl,h1⟩;rw[g1];have H1:=AO h1;clear h1 Oi;go_wp2
    go_roundw
    case rel=>exact⟨h+1,j,by go_num,rfl,a5,a5,ae,H1.out,HN.out,vN.out⟩
    case measure=>simp[BF];omega
   ·have g1:=decide_eq_false Oi;have HN:Hid (∀p,h<=p->p<b->0<=DV o (l.getD p Cz) (l.getD a Cz)):=λp p1 Q=>Int.not_lt.1 λp3=>Oi (M9 (HS.out.le (by have:=HM.out;omega) p1 Q) p3);go_wp2_with fail
    refine HL.out.mono ?_;rintro e w1 ⟨rfl,h1⟩;rw[g1];have H1:=AO h1;clear h1 Oi;go_wp2
    go_roundw
    case rel=>exact⟨i,h,rfl,rfl,hi,Qv,a5,H1.out,vL.out,HN.out⟩
    case measure=>simp[BF];omega
  ·have gV:i=j:=a5;subst gV;obtain⟨x,hx⟩:∃x:Nat,x+1=i:=⟨i-1,a5⟩;have s2:(i:Int)-1=(x:Int):=a5;have HX:=AO hx;have au:a<=x:=a5;have Od:x+1<=b:=a5;clear hx;go_wp2
   go_loopw [11] (λvk w3=>∃(k:Nat) (U:List Cy),vk=AA AB (k:Int)/\a<=k/\k<=x/\Hid (R U w3)/\Hid (Mup l U a k)/\Hid (Ch o a b l U)) (λvk _=>x-(BF vk).toNat)
   case atStart=>exact⟨a,l,rfl,a5,a5,HR.out,fU _ _,Ch.refl _ _ _ _⟩
   case round=>
    obtain⟨k,U,rfl,ao,KG,O,al,an⟩:=hrel;by_cases zX:k<x
    ·have ad:=HC.out.len _ _ O.out;have J:=HC.out.swap _ _ O.out k (k+1) a5 a5 a5;rw[Int.natCast_add]at J;have pI:=AO J;have ab:=l9 (o:=o) al.out ao (by rw[Q7.out];omega) (by rw[ad,Q7.out]) (vL.out (k+1) (by have:=HM.out;omega) (by have:=HX.out;omega));have G7:=AO ab;clear J ad ab;go_wp2_with fail
     refine pI.out.mono ?_;rintro e w4 ⟨rfl,h4⟩;have H4:=AO h4;clear h4;go_wp2
     go_roundw
     case rel=>exact⟨k+1,_,by go_num,a5,a5,H4.out,G7.out.1,an.out.trans (G7.out.2.mono a5 a5)⟩
     case measure=>simp[BF];omega
    ·have zW:k=x:=a5;subst zW;have HE:=AO (sZ (o:=o) (l:=l) (l':=U) (a:=a) (b:=b) (i:=i) (by rw[show i-1=k by have:=HX.out;omega];exact al.out) (by have:=HX.out;omega) ae HS.out (λp p1 Q=>vL.out p (by have:=HM.out;omega) Q) vN.out);go_wp2
     go_end0
     exact⟨rfl,U,O.out,an.out,HE.out⟩
theorem kM(C:Nd r n o R)(hn:n<=100000)(a m b:Nat)(zv:a+1<m)(hm:b=m+1)(hb:b<=n)(h:R l W)(hs:Ey o l a m):
  Calls AP 160 #[.iface 221 (AI r),a,m,b] W (Ux R o l a b):=by
 have mL:=OV r;have mS:=OU r;have HC:=AO C;have H:=AO h;have HS:=AO hs;have Q7:=AO (C.len _ _ h);obtain⟨d,hd⟩:∃d:Nat,d=m-a:=⟨_,rfl⟩;have s1:(m:Int)-(a:Int)=(d:Int):=a5;have g0:((d:Int)==1)=false:=by simp;omega
 have s2:(b:Int)-(m:Int)=1:=a5;have HM:=AO hm;have SX:m<b:=a5;clear h hs C hm hd;go_enter func160,ntmps160
 go_wp2
 go_loopw [12,13] (λvi vj wr=>∃(i j:Nat),vi=AA AB (i:Int)/\vj=AA AB (j:Int)/\a<=i/\i<=j/\j<=m/\Hid (R l wr)/\Hid (∀p,a<=p->p<i->0<=DV o (l.getD m Cz) (l.getD p Cz))/\Hid (∀p,j<=p->p<m->DV o (l.getD m Cz) (l.getD p Cz)<0)) (λvi vj _=>(BF vj).toNat-(BF vi).toNat)
 case atStart=>exact⟨a,m,rfl,rfl,a5,a5,a5,H.out,λp p1 p2=>by omega,λp p1 p2=>by omega⟩
 case round=>
  clear s1 s2 g0;obtain⟨i,j,rfl,rfl,hi,Ii,an,HR,vL,vN⟩:=hrel;by_cases ao:i<j
  ·obtain⟨I,SQ⟩:∃I:Nat,I=i+j:=⟨_,rfl⟩;obtain⟨h,hh⟩:∃h:Nat,h=I/2:=⟨_,rfl⟩;have Qv:i<=h:=a5;have ar:h<j:=a5;have MX:(i:Int)+(j:Int)=(I:Int):=a5;have Ns:Ab.wrap (I:Int)=(I:Int):=Al _ a5;have hdiv:(I:Int)/2=(h:Int):=a5;have HL:=AO (HC.out.less _ _ HR.out m h a5 a5);clear SQ hh;by_cases U:DV o (l.getD m Cz) (l.getD h Cz)<0
   ·have g1:=decide_eq_true U;have HN:Hid (∀p,h<=p->p<m->DV o (l.getD m Cz) (l.getD p Cz)<0):=λp p1 p2=>K8 U (HS.out.le a5 p1 p2);go_wp2_with fail
    refine HL.out.mono ?_;rintro e w1 ⟨rfl,h1⟩;rw[g1];have H1:=AO h1;clear h1 U;go_wp2
    go_roundw
    case rel=>exact⟨i,h,rfl,rfl,hi,Qv,a5,H1.out,vL.out,HN.out⟩
    case measure=>simp[BF];omega
   ·have g1:=decide_eq_false U;have HN:Hid (∀p,a<=p->p<h+1->0<=DV o (l.getD m Cz) (l.getD p Cz)):=λp p1 p2=>Int.not_lt.1 λp3=>U (K8 p3 (HS.out.le p1 (show p<=h by omega) a5));go_wp2_with fail
    refine HL.out.mono ?_;rintro e w1 ⟨rfl,h1⟩;rw[g1];have H1:=AO h1;clear h1 U;go_wp2
    go_roundw
    case rel=>exact⟨h+1,j,by go_num,rfl,a5,a5,an,H1.out,HN.out,vN.out⟩
    case measure=>simp[BF];omega
  ·have gV:i=j:=a5;subst gV;go_wp2
   go_loopw [15] (λvk w3=>∃(k:Nat) (Q:List Cy),vk=AA AB (k:Int)/\i<=k/\k<=m/\Hid (R Q w3)/\Hid (Mdn l Q m k)/\Hid (Ch o a b l Q)) (λvk _=>(BF vk).toNat)
   case atStart=>exact⟨m,l,rfl,a5,a5,HR.out,fX _ _,Ch.refl _ _ _ _⟩
   case round=>
    obtain⟨k,Q,rfl,aq,KG,O,ae,al⟩:=hrel;by_cases zX:i<k
    ·have ad:=HC.out.len _ _ O.out;obtain⟨y,hy⟩:∃y:Nat,y+1=k:=⟨k-1,a5⟩;have s3:(k:Int)-1=(y:Int):=a5;have ab:=HC.out.swap _ _ O.out k y a5 a5 a5;have pI:=AO ab;have J:=mC (o:=o) ae.out a5 KG (by rw[Q7.out];omega) (by rw[ad,Q7.out]) (vN.out (k-1) a5 a5);rw[show k-1=y by omega]at J;have G7:=AO J;have HY:=AO hy;clear ab ad J hy;go_wp2_with fail
     refine pI.out.mono ?_;rintro e w4 ⟨rfl,h4⟩;have H4:=AO h4;clear h4;go_wp2
     go_roundw
     case rel=>exact⟨y,_,rfl,by have:=HY.out;omega,by have:=HY.out;omega,H4.out,G7.out.1,al.out.trans (G7.out.2.mono (by have:=HY.out;omega) (by have:=HY.out;omega))⟩
     case measure=>have:=HY.out;simp[BF];omega
    ·have zW:k=i:=a5;subst zW;have HE:=AO (sd (o:=o) (l:=l) (l':=Q) (m:=m) (a:=a) (i:=k) ae.out KG hi HS.out vL.out vN.out);go_wp2
     go_end0
     exact⟨rfl,Q,O.out,al.out,by rw[HM.out];exact HE.out⟩
end
section
variable{r n:Nat}{o:Cy}{R:List Cy->World->Prop}{l:List Cy}{W:World}
theorem rU(C:Nd r n o R)(hn:n<=100000)(a m b:Nat)(zv:a+1<m)(SX:m+1<b)(hb:b<=n)(h:R l W)(Gp:Ey o l a m)(G9:Ey o l m b)
  (IH:∀a' m' b',b'-a'<b-a->a'<m'->m'<b'->b'<=n->∀l W,R l W->Ey o l a' m'->Ey o l m' b'->Calls AP 160 #[.iface 221 (AI r),a',m',b'] W (Ux R o l a' b')):
  Calls AP 160 #[.iface 221 (AI r),a,m,b] W (Ux R o l a b):=by
 have mL:=OV r;have HC:=AO C;have H:=AO h;have vC:=AO Gp;have Lw:=AO G9;have ao:=AO IH;have Q7:=AO (C.len _ _ h);obtain⟨d,hd⟩:∃d:Nat,d=m-a:=⟨_,rfl⟩;have s1:(m:Int)-(a:Int)=(d:Int):=a5;have g0:((d:Int)==1)=false:=by simp;omega
 obtain⟨d2,zj⟩:∃d2:Nat,d2=b-m:=⟨_,rfl⟩;have s2:(b:Int)-(m:Int)=(d2:Int):=a5;have g1:((d2:Int)==1)=false:=by simp;omega
 obtain⟨ab,aD⟩:∃ab:Nat,ab=a+b:=⟨_,rfl⟩;have MX:(a:Int)+(b:Int)=(ab:Int):=a5;have Ns:Ab.wrap (ab:Int)=(ab:Int):=Al _ a5;obtain⟨mid,IY⟩:∃mid:Nat,mid=ab/2:=⟨_,rfl⟩;have hdiv:(ab:Int)/2=(mid:Int):=a5;obtain⟨I,jU⟩:∃I:Nat,I=mid+m:=⟨_,rfl⟩;have s6:(mid:Int)+(m:Int)=(I:Int):=a5;have aB:I<=2*n:=a5;obtain⟨Q,O,gE⟩:∃Q O:Nat,(mid<m/\Q+b=I/\O=mid)\/(m<=mid/\Q=a/\O=m):=by
  by_cases ae:mid<m
  ·exact⟨I-b,mid,.inl ⟨ae,a5,rfl⟩⟩
  ·exact⟨a,m,.inr ⟨a5,rfl,rfl⟩⟩
 have q1:a<=Q:=a5;have q2:Q<=O:=a5;have q3:O<=m:=a5;have q4:O<=mid:=a5;have q5:I<=b+Q:=a5;have q6:mid<b:=a5;have q7:a<mid:=a5;have HQ:=AO (Bt q1 (Bt q2 (Bt q3 (Bt q4 (Bt q5 (Bt q6 (Bt q7 (Bt jU (Bt gE (Bt zv SX))))))))));obtain⟨pp,SU⟩:∃pp:Nat,pp+1=I:=⟨I-1,a5⟩;have s7:(I:Int)-1=(pp:Int):=a5;have aw:=AO SU;clear h Gp G9 IH C hd zj aD IY jU gE q1 q2 q3 q4 q5 q6 q7 SU;go_enter func160,ntmps160
 go_upto_if 102 with(fail)
 go_cut [18,19]from 103 to 108 (λar aq U=>ar=AA AB (Q:Int)/\aq=AA AB (O:Int)/\U=W)
 case first=>
  by_cases ae:mid<m
  ·have ad:(I:Int)-(b:Int)=(Q:Int):=by have:=HQ.out;omega
   have Ec:mid=O:=by have:=HQ.out;omega
   have NP:=AO Ec;clear Ec;go_wp2_with fail
   go_meet
   exact⟨rfl,congrArg (λx:Nat=>BZ AB (x:Int)) NP.out,rfl⟩
  ·have ad:a=Q:=by have:=HQ.out;omega
   have Ec:m=O:=by have:=HQ.out;omega
   have NP:=AO Ec;have G7:=AO ad;clear Ec ad;go_wp2_with fail
   go_meet
   exact⟨congrArg (λx:Nat=>BZ AB (x:Int)) G7.out,congrArg (λx:Nat=>BZ AB (x:Int)) NP.out,rfl⟩
 case rest=>
  obtain⟨rfl,rfl,rfl⟩:=hcut;clear s1 s2 g0 g1 MX Ns hdiv s6;go_wp2_with fail
  go_loopw [18,19] (λvi vj wr=>∃(i j:Nat),vi=AA AB (i:Int)/\vj=AA AB (j:Int)/\Q<=i/\i<=j/\j<=O/\Hid (R l wr)/\Hid (Q<i->0<=DV o (l.getD (I-i) Cz) (l.getD (i-1) Cz))/\Hid (j<O->DV o (l.getD (I-1-j) Cz) (l.getD j Cz)<0)) (λvi vj _=>(BF vj).toNat-(BF vi).toNat)
  case atStart=>exact⟨Q,O,rfl,rfl,a5,by have:=HQ.out;omega,a5,H.out,λhh=>by omega,λhh=>by omega⟩
  case round=>
   obtain⟨i,j,rfl,rfl,hi,Ii,av,HR,vL,vN⟩:=hrel;have hq:=HQ.out;have hp:=aw.out;by_cases az:i<j
   ·obtain⟨ij,SQ⟩:∃ij:Nat,ij=i+j:=⟨_,rfl⟩;obtain⟨c,hh⟩:∃c:Nat,c=ij/2:=⟨_,rfl⟩;have Qv:i<=c:=a5;have aA:c<j:=a5;have MX:(i:Int)+(j:Int)=(ij:Int):=a5;have Ns:Ab.wrap (ij:Int)=(ij:Int):=Al _ a5;have hdiv:(ij:Int)/2=(c:Int):=a5;obtain⟨q,qJ⟩:∃q:Nat,q+c=pp:=⟨pp-c,a5⟩;have s8:(pp:Int)-(c:Int)=(q:Int):=a5;have HL:=AO (HC.out.less _ _ HR.out q c a5 a5);have qY:Hid (q=I-(c+1)/\q=I-1-c):=by constructor<;>omega
    have gV:ij<=2*n:=a5;clear SQ hh hq hp qJ;by_cases Oi:DV o (l.getD q Cz) (l.getD c Cz)<0
    ·have g1:=decide_eq_true Oi;have HN:Hid (c<O->DV o (l.getD (I-1-c) Cz) (l.getD c Cz)<0):=λ_=>by rw[<-qY.out.2];exact Oi
     go_wp2_with fail
     refine HL.out.mono ?_;rintro e w1 ⟨rfl,h1⟩;rw[g1];have H1:=AO h1;clear h1 Oi;go_wp2
     go_roundw
     case rel=>exact⟨i,c,rfl,rfl,hi,Qv,a5,H1.out,vL.out,HN.out⟩
     case measure=>simp[BF];omega
    ·have g1:=decide_eq_false Oi;have HN:Hid (Q<c+1->0<=DV o (l.getD (I-(c+1)) Cz) (l.getD (c+1-1) Cz)):=λ_=>by rw[<-qY.out.1,BV];exact Int.not_lt.1 Oi
     go_wp2_with fail
     refine HL.out.mono ?_;rintro e w1 ⟨rfl,h1⟩;rw[g1];have H1:=AO h1;clear h1 Oi;go_wp2
     go_roundw
     case rel=>exact⟨c+1,j,by go_num,rfl,a5,a5,av,H1.out,HN.out,vN.out⟩
     case measure=>simp[BF];omega
   ·have gV:i=j:=a5;subst gV;obtain⟨e,he⟩:∃e:Nat,e+i=I:=⟨I-i,a5⟩;have s8:(I:Int)-(i:Int)=(e:Int):=a5;have k1:a<=i:=a5;have k2:i<=m:=a5;have k3:m<=e:=a5;have k4:e<=b:=a5;have k5:mid=i+(e-m):=a5;have al:=fW (o:=o) k1 k2 k3 k4 (by rw[Q7.out];exact hb) k5 vC.out Lw.out (λc1 c2=>by
     have:=vL.out a5;rw[show I-i=e by omega]at this;rw[Dy];omega) (λc1 c2=>by
     have:=vN.out a5;rwa [show I-1-i=e-1 by omega]at this)
    have xm:=AO al;have HK:=AO (Bt k1 (Bt k2 (Bt k3 (Bt k4 (Bt k5 hq)))));have Jb:Hid (∀w9,R l w9->i<m->m<e->Calls AP 163 #[.iface 221 (AI r),i,m,e] w9 λe' w'=>e'=AH (AM #[])/\R (Iw l i m e) w'):=λw9 h9 x1 x2=>sI HC.out hn i m e x1 x2 a5 h9;have NP:Hid (¬(i<m/\m<e)->Iw l i m e=l):=λau=>by
     rcases Ak i m with x|x
     ·have:m=e:=a5;rw[<-this];exact lF k2
     ·have:i=m:=a5;rw[this];exact lG k3
    have Vm:(Iw l i m e).length=n:=by rw[JM k2 k3 (by rw[Q7.out];omega),Q7.out]
    have Tm:=AO Vm;generalize Iw l i m e=l1 at*
    clear he k1 k2 k3 k4 k5 al hq hp Vm s7;go_upto_region 39 with(fail)
    go_cut [140]from 133 to 140 (λs U=>s=.bool (decide (i<m/\m<e))/\U=wr)
    case first=>
     by_cases x1:i<m
     ·by_cases x2:m<e
      ·go_wp2_with fail
       go_meet
       exact⟨congrArg Value.bool (decide_eq_true (Bt x1 x2)).symm,rfl⟩
      ·go_wp2_with fail
       go_meet
       exact⟨congrArg Value.bool (decide_eq_false (λx=>x2 x.2)).symm,rfl⟩
     ·go_wp2_with fail
      go_meet
      exact⟨congrArg Value.bool (decide_eq_false (λx=>x1 x.1)).symm,rfl⟩
    case rest=>
     obtain⟨rfl,rfl⟩:=hcut;go_upto_if 140 with(fail)
     go_cut []from 140 to 145 (λU=>Hid (R l1 U))
     case first=>
      by_cases x:i<m/\m<e
      ·have g2:=decide_eq_true x;have HX:=AO x;clear x;rw[g2];go_wp2_with fail
       refine(Jb.out _ HR.out HX.out.1 HX.out.2).mono ?_;rintro e' w2 ⟨rfl,h2⟩;have H2:=AO h2;clear h2;go_wp2_with fail
       go_meet
       exact H2.out
      ·have g2:=decide_eq_false x;have HX:=AO x;clear x;rw[g2];go_wp2_with fail
       go_meet
       rw[NP.out HX.out];exact HR.out
     case rest=>
      have H1:=AO hcut.out;clear hcut HR Jb NP;go_upto_region 41 with(fail)
      go_cut [153]from 146 to 153 (λs U=>s=.bool (decide (a<i/\i<mid))/\U=wc)
      case first=>
       by_cases x1:a<i
       ·by_cases x2:i<mid
        ·go_wp2_with fail
         go_meet
         exact⟨congrArg Value.bool (decide_eq_true (Bt x1 x2)).symm,rfl⟩
        ·go_wp2_with fail
         go_meet
         exact⟨congrArg Value.bool (decide_eq_false (λx=>x2 x.2)).symm,rfl⟩
       ·go_wp2_with fail
        go_meet
        exact⟨congrArg Value.bool (decide_eq_false (λx=>x1 x.1)).symm,rfl⟩
      case rest=>
       obtain⟨rfl,rfl⟩:=hcut;go_upto_if 153 with(fail)
       go_cut []from 153 to 158 (λU=>∃J,Hid (R J U)/\Hid (Ch o a mid l1 J)/\Hid (Ey o J a mid))
       case first=>
        by_cases x:a<i/\i<mid
        ·have g2:=decide_eq_true x;have HX:=AO x;have ay:=AO (ao.out a i mid (by have:=HK.out;omega) x.1 x.2 (by have:=HK.out;omega) _ _ H1.out xm.out.2.1 xm.out.2.2.1);clear x;rw[g2];go_wp2_with fail
         refine ay.out.mono ?_;rintro e' w2 ⟨rfl,J,h2,h3,h4⟩;have H2:=AO h2;have H3:=AO h3;have H4:=AO h4;clear h2 h3 h4;go_wp2_with fail
         go_meet
         exact⟨J,H2.out,H3.out,H4.out⟩
        ·have g2:=decide_eq_false x;have HX:Hid (Ey o l1 a mid):=by
          have hk:=HK.out;rcases Ak a i with y|y
          ·have:i=mid:=a5;rw[<-this];exact xm.out.2.1
          ·have:a=i:=a5;rw[this];exact xm.out.2.2.1
         clear x;rw[g2];go_wp2_with fail
         go_meet
         exact⟨l1,H1.out,Ch.refl _ _ _ _,HX.out⟩
       case rest=>
        obtain⟨J,H2,H3,H4⟩:=hcut;have I5:Hid (∀l3,Ch o mid b J l3->Ey o l3 mid b->Ch o a b l l3/\Ey o l3 a b):=λl3 c1 c2=>by
         have hk:=HK.out;obtain⟨x1,x2⟩:=Zg (o:=o) (l1:=l1) (a:=a) (b:=b) (mid:=mid) a5 a5 (by rw[Tm.out];exact hb) xm.out.2.2.2.2.2 H3.out H4.out c1 c2;exact⟨xm.out.1.trans x1,x2⟩
        have dQ:Hid (Ey o J mid e):=λp p1 p2=>by
         rw[H3.out.out p a5,H3.out.out (p+1) a5];exact xm.out.2.2.2.1 p p1 p2
        have an:Hid (Ey o J e b):=λp p1 p2=>by
         have hk:=HK.out;rw[H3.out.out p a5,H3.out.out (p+1) a5];exact xm.out.2.2.2.2.1 p p1 p2
        have ax:Hid (mid<e->e<b->Calls AP 160 #[.iface 221 (AI r),mid,e,b] wc (Ux R o J mid b)):=λy1 y2=>ao.out mid e b (by have:=HK.out;omega) y1 y2 hb _ _ H2.out dQ.out an.out;have Ly:Hid (¬(mid<e/\e<b)->Ey o J mid b):=λau=>by
         have hk:=HK.out;rcases Ak mid e with y|y
         ·have:e=b:=a5;rw[<-this];exact dQ.out
         ·have:mid=e:=a5;rw[this];exact an.out
        by_cases x1:mid<e
        ·by_cases x2:e<b
         ·go_wp2_with fail
          refine(ax.out x1 x2).mono ?_;rintro e' w3 ⟨rfl,l3,h3,h4,h5⟩;have H5:=AO (I5.out l3 h4 h5);have H6:=AO h3;clear h3 h4 h5;go_wp2
          go_end0
          exact⟨rfl,l3,H6.out,H5.out.1,H5.out.2⟩
         ·have H5:=AO (I5.out J (Ch.refl _ _ _ _) (Ly.out λy=>x2 y.2));go_wp2
          go_end0
          exact⟨rfl,J,H2.out,H5.out.1,H5.out.2⟩
        ·have H5:=AO (I5.out J (Ch.refl _ _ _ _) (Ly.out λy=>x1 y.1));go_wp2
         go_end0
         exact⟨rfl,J,H2.out,H5.out.1,H5.out.2⟩
theorem VD(C:Nd r n o R)(e:n<=100000):∀(d a m b:Nat),b-a<=d->a<m->m<b->b<=n->∀l W,R l W->Ey o l a m->Ey o l m b->Calls AP 160 #[.iface 221 (AI r),a,m,b] W (Ux R o l a b)
 |0,a,m,b,hd,h1,h2,_,_,_,_,_,_=>by omega
 |d+1,a,m,b,hd,h1,h2,hb,l,W,h,s1,s2=>by
  by_cases I:m=a+1
  ·exact rT C e a m b I h2 hb h (by rw[<-I];exact s2)
  ·by_cases c2:b=m+1
   ·exact kM C e a m b a5 c2 hb h s1
   ·exact rU C e a m b a5 a5 hb h s1 s2 λa' m' b' ab U Q k3 l W hR O J=>VD C e d a' m' b' a5 U Q k3 l W hR O J
end
section
variable{r n:Nat}{o:Cy}{R:List Cy->World->Prop}{l l':List Cy}{W:World}{s a b:Nat}
theorem fV{s q i:Nat}(I:q*s<=i)(e:i<q*s+s):i%s=i-q*s:=by
 obtain⟨x,rfl⟩:∃x,i=q*s+x:=⟨i-q*s,a5⟩;rw[CS,Nat.mul_add_mod,Nat.mod_eq_of_lt (by rw[CS]at I e;omega),Cq]
theorem LB{q}(h:OE o l s 0 (q*s))(I:Ch o (q*s) b l l')(O:Ey o l' (q*s) b):OE o l' s 0 b:=λi _ J e=>by
 by_cases U:i+1<q*s
 ·rw[I.out i a5,I.out (i+1) a5];exact h i (Ao _) U e
 ·by_cases Q:i+1=q*s
  ·exfalso;apply e;rw[Q,Nat.mul_mod_left]
  ·exact O i a5 J
theorem iu{a' b'}(h:OE o l s a' b')(e:Ch o a b l l')(hd:b<=a'\/b'<=a):OE o l' s a' b':=λi O J I=>by
 rw[e.out i a5,e.out (i+1) a5];exact h i O J I
theorem V5{q a' b'}(h:OE o l s a' b')(O:a'<=a)(J:b<=b')(h3:q*s<=a)(h4:b<=q*s+s):Ey o l a b:=λi I e=>h i a5 a5 (by
 rw[fV (q:=q) a5 a5];omega)
theorem ow(h:OE o l s 0 b)(hb:b<=s):Ey o l 0 b:=λi I e=>h i I e (by rw[Nat.mod_eq_of_lt a5];omega)
end
section
variable{r n:Nat}{o:Cy}{R:List Cy->World->Prop}{l:List Cy}{W:World}
theorem kW(C:Nd r n o R)(hn:n<=100000)(h:R l W):
  Calls AP 155 #[.iface 221 (AI r),n] W λe w'=>e=AH (AM #[])/\∃l',R l' w'/\Ch o 0 n l l'/\Ey o l' 0 n:=by
 have HC:=AO C;have H:=AO h;clear h C;go_enter func155,ntmps155
 go_wp2
 go_loopw [5,6] (λva vb wr=>∃(q a b:Nat) (U:List Cy),va=AA AB (a:Int)/\vb=AA AB (b:Int)/\a<=n/\Hid (a=q*20)/\Hid (b=a+20)/\Hid (R U wr)/\Hid (Ch o 0 n l U)/\Hid (OE o U 20 0 a)) (λva _ _=>n-(BF va).toNat)
 case atStart=>exact⟨0,0,20,l,rfl,rfl,a5,rfl,rfl,H.out,Ch.refl _ _ _ _,λi _ i2=>by omega⟩
 case round=>
  obtain⟨q,a,b,U,rfl,rfl,al,HA,J,HR,vU,HM⟩:=hrel;by_cases ab:b<=n
  ·obtain⟨b2,DT⟩:∃b2:Nat,b2=b+20:=⟨_,rfl⟩;have s1:(b:Int)+20=(b2:Int):=a5;have HL:=AO (bz HC.out hn a b (by have:=J.out;omega) ab HR.out);have Fg:=AO DT;clear DT;go_wp2_with fail
   refine HL.out.mono ?_;rintro e w1 ⟨rfl,l',h1,I,h3⟩;have H1:=AO h1;have H2:=AO (vU.out.trans (I.mono (Ao _) ab));have H3:Hid (OE o l' 20 0 b):=by
    have Q:=HA.out;have hm:=HM.out;rw[Q]at I h3 hm;exact LB hm I h3
   clear h1 I h3;go_wp2
   go_roundw
   case rel=>exact⟨q+1,b,b2,l',rfl,rfl,ab,by have:=HA.out;have:=J.out;unfold Hid;omega,Fg.out,H1.out,H2.out,H3.out⟩
   case measure=>have:=J.out;simp[BF];omega
  ·have HL:=AO (bz HC.out hn a n al ar HR.out);have av:Hid (n<a+20):=by have:=J.out;unfold Hid;omega
   go_wp2_with fail
   refine HL.out.mono ?_;rintro e w1 ⟨rfl,l1,h1,I,h3⟩;have H1:=AO h1;have H2:=AO (vU.out.trans (I.mono (Ao _) ar));have H3:Hid (OE o l1 20 0 n):=by
    have Q:=HA.out;have hm:=HM.out;rw[Q]at I h3 hm;exact LB hm I h3
   clear h1 I h3 HL HR vU HM HA J av ab al;go_wp2
   go_loopw [4,5,6,7] (λv4 v5 v6 v7 wr=>∃(s:Nat) (U:List Cy),v4=AA AB (s:Int)/\20<=s/\s<=300000/\Hid (R U wr)/\Hid (Ch o 0 n l U)/\Hid (OE o U s 0 n)) (λv4 _ _ _ _=>n-(BF v4).toNat)
   case atStart=>exact⟨20,l1,rfl,a5,a5,H1.out,H2.out,H3.out⟩
   case round=>
    obtain⟨s,U,rfl,ax,wG,HR,vU,HM⟩:=hrel;by_cases ab:s<n
    ·obtain⟨d,hd⟩:∃d:Nat,d=2*s:=⟨_,rfl⟩;have s1:(2:Int)*(s:Int)=(d:Int):=a5;have s2:(s:Int)*2=(d:Int):=a5;have wj:d<=200000:=a5;have HD:=AO hd;clear hd;go_wp2
     go_loopw [5,6] (λva vb wq=>∃(q a b:Nat) (O:List Cy),va=AA AB (a:Int)/\vb=AA AB (b:Int)/\a<=n/\b<=400000/\Hid (a=q*d)/\Hid (b=a+d)/\Hid (R O wq)/\Hid (Ch o 0 n l O)/\Hid (OE o O d 0 a)/\Hid (OE o O s a n)) (λva _ _=>n-(BF va).toNat)
     case atStart=>exact⟨0,0,d,U,rfl,rfl,a5,a5,by unfold Hid;omega,by unfold Hid;omega,HR.out,vU.out,λi _ i2=>by omega,HM.out⟩
     case round=>
      obtain⟨q,a,b,O,rfl,rfl,al,Ti,HA,J,an,aq,ao,ad⟩:=hrel;obtain⟨m,hm⟩:∃m:Nat,m=a+s:=⟨_,rfl⟩;have s3:(a:Int)+(s:Int)=(m:Int):=a5;have ae:Hid (∀x,x<=n->m<=x->x<=b->Ey o O a m/\Ey o O m x):=λx x1 x2 x3=>by
       have Q:=HA.out;have hB:=J.out;have hD:=HD.out;have e1:a=(2*q)*s:=by rw[Q,hD,<-Nat.mul_assoc,CS q 2]
       have e2:m=(2*q+1)*s:=by rw[A7,<-e1,BH];exact hm
       exact⟨V5 (q:=2*q) ad.out ar a5 a5 a5,V5 (q:=2*q+1) ad.out a5 x1 a5 a5⟩
      have aw:=AO hm;by_cases M6:b<=n
      ·obtain⟨b2,DT⟩:∃b2:Nat,b2=b+d:=⟨_,rfl⟩;have s4:(b:Int)+(d:Int)=(b2:Int):=a5;have HL:=AO (VD HC.out hn (b-a) a m b ar a5 (by have:=J.out;have:=HD.out;omega) M6 O wr (by exact an.out) (ae.out b M6 (by have:=J.out;have:=HD.out;omega) ar).1 (ae.out b M6 (by have:=J.out;have:=HD.out;omega) ar).2);have Fg:=AO DT;clear DT hm;go_wp2_with fail
       refine HL.out.mono ?_;rintro e w1 ⟨rfl,l',h1,I,h3⟩;have H1:=AO h1;have H2:=AO (aq.out.trans (I.mono (Ao _) M6));have H4:=AO (iu (a':=b) (b':=n) (λi i1 i2 i3=>ad.out i (by have:=J.out;omega) i2 i3) I (.inl ar));have H3:Hid (OE o l' d 0 b):=by
        have Q:=HA.out;have hq:=ao.out;rw[Q]at I h3 hq;exact LB hq I h3
       clear h1 I h3;go_wp2
       go_roundw
       case rel=>exact⟨q+1,b,b2,l',rfl,rfl,M6,by have:=Fg.out;omega,by have:=HA.out;have:=J.out;unfold Hid;rw[A7];omega,Fg.out,H1.out,H2.out,H3.out,H4.out⟩
       case measure=>have:=J.out;have:=HD.out;simp[BF];omega
      ·by_cases au:m<n
       ·have HL:=AO (VD HC.out hn (n-a) a m n ar a5 au ar O wr (by exact an.out) (ae.out n ar a5 a5).1 (ae.out n ar a5 a5).2);clear hm;go_wp2_with fail
        refine HL.out.mono ?_;rintro e w1 ⟨rfl,l',h1,I,h3⟩;have H1:=AO h1;have H2:=AO (aq.out.trans (I.mono (Ao _) ar));have H3:Hid (OE o l' d 0 n):=by
         have Q:=HA.out;have hq:=ao.out;rw[Q]at I h3 hq;exact LB hq I h3
        clear h1 I h3;go_wp2
        go_roundw
        case rel=>exact⟨d,l',rfl,by have:=HD.out;omega,a5,H1.out,H2.out,H3.out⟩
        case measure=>have:=HD.out;simp[BF];omega
       ·have H3:Hid (OE o O d 0 n):=by
         have Q:=HA.out;have hq:=ao.out;have hD:=HD.out;have e1:a=(2*q)*s:=by rw[Q,hD,<-Nat.mul_assoc,CS q 2]
         have h3:Ey o O a n:=V5 (q:=2*q) ad.out ar ar a5 a5;rw[Q]at h3 hq;exact LB hq (Ch.refl _ _ _ _) h3
        clear hm;go_wp2
        go_roundw
        case rel=>exact⟨d,O,rfl,by have:=HD.out;omega,a5,an.out,aq.out,H3.out⟩
        case measure=>have:=HD.out;simp[BF];omega
    ·have HE:=AO (ow HM.out (show n<=s by omega));go_wp2
     go_end0
     exact⟨rfl,U,HR.out,vU.out,HE.out⟩
theorem rj(C:Nd r n o R)(O:n<=100000)(h:R l W)(hlen:∀l W,R l W->Calls AP 153 #[AI r] W λe w'=>e=AH n/\R l w'):
  Calls AP 149 #[.iface 221 (AI r)] W λe w'=>e=AH (AM #[])/\∃l',R l' w'/\Ch o 0 n l l'/\Ey o l' 0 n:=by
 have mN:=sB r;have U:=AO (hlen _ _ h);have Q:Hid (∀w,R l w->Calls AP 155 #[.iface 221 (AI r),n] w λe w'=>e=AH (AM #[])/\∃l',R l' w'/\Ch o 0 n l l'/\Ey o l' 0 n):=λw hw=>kW C O hw;clear h C hlen;go_enter func149,ntmps149
 go_wp2_with fail
 refine U.out.mono ?_;rintro e w1 ⟨rfl,J⟩;have H1:=AO (Q.out _ J);clear J;go_wp2_with fail
 refine H1.out.mono ?_;rintro e w2 ⟨rfl,I⟩;have H2:=AO I;clear I;go_wp2
 go_end0
 exact⟨rfl,H2.out⟩
end
def ID(k:Nat)(l:List Cy):Prop:=∀u∈l,D7 u/\Db k u=true
section
variable{X:Cx}{os:List DD}{m i ir ig:Nat}{W W':World}{r b g M k q told:Nat}{o:Cy}{l:List Cy}
theorem Wd.bS(h:Wd X os m W)(U:os[ir]?=AE (Cv r 225 (Jg k g (q*k) M o told)))(hg:os[ig]?=AE (Fz b g M k l))(hk:0<k/\k<=5)(I:q*k<=M/\M<=1000000/\q<=1000000)(O:l.length=q)(Q:told<=q)(hf:ID k l):∃ws,Ic W r k g (q*k) M q o told ws l/\r≠g:=by
 obtain⟨h1,ws,h2,h4,h5⟩:=h.at_ hg;have J:=h.row U;exact⟨ws,⟨J,h4,hk,⟨rfl,I.1,I.2.1,h2,I.2.2⟩,O,Q,by rw[<-O];exact h5,hf⟩,λe=>absurd (J.typed (e▸h4)) a6⟩
theorem Wd.words(h:Wd X os m W)(Q:os[ig]?=AE (Fz b g M k l)){ws:List Nat}{l'}(hf:DJ (λk=>k=g) W W')(O:Row W' g 120 (ws.map vw))(hw:ws.length=M)(ht:ws.take (l'.length*k)=EN k l'):Wd X (os.set ig (Fz b g M k l')) m W':=by
 obtain⟨U,ab,h2,h4,h5⟩:=h.at_ Q;have WS:b≠g:=λe=>absurd (U.typed (e▸h4)) a6;have I:=hf.row U WS;refine h.Qp Q hf (λk' J=>⟨.inr J,λv hv=>?_⟩) VB ⟨I,ws,hw,O,ht⟩ (λk' J=>⟨.inl J,?_⟩) rfl rfl (λ_ _=>trivial)
 ·subst J;exact absurd (h4.typed hv) a6
 ·exact J.elim (λe=>by rw[e];exact I.lt) λe=>by rw[e];exact O.lt
theorem ek(h0:os[ir]?=AE (Cv r 225 (Jg k g (q*k) M o told)))(hi:ir≠ig)(hk:0<k/\k<=5)(hM:q*k<=M/\M<=1000000/\q<=1000000)(ht:told<=q)(Q:ig<os.length):
  Nd r q o (λl W=>Wd X (os.set ig (Fz b g M k l)) m W/\l.length=q/\ID k l):=by
 have hr:∀l,(os.set ig (Fz b g M k l))[ir]?=AE (Cv r 225 (Jg k g (q*k) M o told)):=λl=>Fc h0 λe=>hi e.symm;have U:∀l,(os.set ig (Fz b g M k l))[ig]?=AE (Fz b g M k l):=λl=>by rw[Aw,if_pos rfl,if_pos Q]
 have O:∀l l',(os.set ig (Fz b g M k l)).set ig (Fz b g M k l')=os.set ig (Fz b g M k l'):=λl l'=>List.set_set _;refine⟨λl W h=>h.2.1,λl W ⟨h,h1,h2⟩ i j hi hj=>?_,λl W ⟨h,h1,h2⟩ i j hi hj Ii=>?_⟩
 ·obtain⟨ws,J,_⟩:=h.bS (hr l) (U l) hk hM h1 ht h2;exact(ey J hi hj).mono λe w' ⟨he,hb⟩=>⟨he,h.below hb,h1,h2⟩
 ·obtain⟨ws,J,gG⟩:=h.bS (hr l) (U l) hk hM h1 ht h2;refine(eo J hi hj Ii gG).mono ?_;rintro e w' ⟨he,⟨E9,I⟩,hf⟩;have h9:=h.words (U l) hf I.words (I.nn.2.2.2.1) (by rw[I.len];exact I.flat);rw[O]at h9;exact⟨he,h9,I.len,I.fit⟩
theorem Iv{os:List DD}{i a}(h:os[i]?=AE a):os.set i a=os:=by
 refine List.ext_getElem? λj=>?_;rw[Aw];by_cases I:i=j
 ·subst I;rw[if_pos rfl,h,if_pos];rcases Ak i os.length with e|e
  ·exact e
  ·rw[BG e]at h;cases h
 ·rw[if_neg I]
theorem MG{os:List DD}{i a}(h:os[i]?=AE a):i<os.length:=by
 rcases Ak i os.length with e|e
 ·exact e
 ·rw[BG e]at h;cases h
theorem dg(h:Wd X os m W)(O:os[ir]?=AE (Cv r 225 (Jg k g (q*k) M o told)))(U:os[ig]?=AE (Fz b g M k l))(hi:ir≠ig)(Q:0<k/\k<=5)(J:q*k<=M/\M<=1000000/\q<=100000)(hl:l.length=q)(ht:told<=q)(hf:ID k l):
  Calls AP 149 #[.iface 221 (AI r)] W λe w'=>e=AH (AM #[])/\∃l',ND o l'/\Cl o l l'/\l'.length=q/\ID k l'/\Wd X (os.set ig (Fz b g M k l')) m w':=by
 have C:=ek (X:=X) (m:=m) (b:=b) O hi Q ⟨J.1,J.2.1,a5⟩ ht (MG U);refine(rj (l:=l) (W:=W) C J.2.2 ⟨by rw[Iv U];exact h,hl,hf⟩ λl W hR=>?_).mono ?_
 ·have I:=hR.1.row (Fc (b:=Fz b g M k l) O λe=>hi e.symm);exact(Ry I Q.1 rfl a5).mono λe w' ⟨he,d,hw⟩=>⟨he,by rw[hw];exact hR.1.drewN d,hR.2⟩
 ·rintro e w' ⟨he,l',⟨h1,h2,h3⟩,hc,ha⟩;exact⟨he,l',uo.2 (by rw[h2];exact ha),hc.cl,h2,h3,h1⟩
theorem jw(h:Wd X os m W)(I:os[ir]?=AE (Cv r 225 (Jg k g (q*k) M o told)))(hg:os[ig]?=AE (Fz b g M k l))(hk:0<k/\k<=5)(hM:q*k<=M/\M<=1000000/\q<=1000000)(U:l.length=q)(Q:told<q)(hf:ID k l){t}(J:l[told]?=AE t):
  Calls AP 190 #[AI r] W λe w'=>e=AH (AM #[AL #[t.a,t.b,t.c,t.d,t.e],true,()])/\Wd X (os.set ir (Cv r 225 (Jg k g (q*k) M o (told+1)))) m w':=by
 obtain⟨ws,O,gG⟩:=h.bS I hg hk hM U a5 hf;have hd:l.getD told Cz=t:=by rw[AT,J];rfl
 refine(lJ O Q gG).mono ?_;rw[hd];rintro e w' ⟨he,Xf,Vq⟩;exact⟨he,h.KN I a6 Vq Xf.row⟩
theorem U6(h:Wd X os m W)(J:os[ir]?=AE (Cv r 225 (Jg k g (q*k) M o q)))(U:os[ig]?=AE (Fz b g M k l))(Q:0<k/\k<=5)(hM:q*k<=M/\M<=1000000/\q<=1000000)(O:l.length=q)(hf:ID k l):
  Calls AP 190 #[AI r] W λe w'=>e=AH (AM #[AL #[(),(),(),(),()],false,()])/\Wd X os m w':=by
 obtain⟨ws,I,_⟩:=h.bS J U Q hM O ar hf;exact(eu I).mono λe w' ⟨he,hb⟩=>⟨he,h.below hb⟩
def Hl(l:List Cy)(i:Nat)(t:Cy):List Cy:=l.take i++t::l.drop (i+1)
theorem OW{l i t}(h:i<=l.length):(Hl l i t).length=max l.length (i+1):=by unfold Hl;rw[Aa,BW,AZ,Aq];omega
theorem OX{l i p t}(h:i<=l.length):(Hl l i t).getD p Cz=if p=i then t else l.getD p Cz:=by
 unfold Hl;have I:(l.take i).length=i:=by rw[AZ];omega
 rw[AT,AT];by_cases J:p<i
 ·rw[if_neg a5,Aj a5,At,if_pos J]
 ·rw[AW a5,I];by_cases e:p=i
  ·rw[if_pos e,e,As];rfl
  ·rw[if_neg e,show p-i=(p-i-1)+1 by omega,AV,Bc,show i+1+(p-i-1)=p by omega]
theorem XE(l:List Cy)(t:Cy):Hl l l.length t=l++[t]:=by unfold Hl;rw[B6,List.drop_eq_nil_of_le a5]
theorem XF{l i t}(h:ID k l)(e:D7 t/\Db k t=true):ID k (Hl l i t):=λu hu=>by
 unfold Hl at hu;rcases Ah.1 hu with hu|hu
 ·exact h u (Bw hu)
 ·rcases A8.1 hu with hu|hu
  ·rw[hu];exact e
  ·exact h u (List.mem_of_mem_drop hu)
theorem ZE{ws l i t}(U:k<=5)(hf:ws.take (l.length*k)=EN k l)(hi:i<=l.length)(hw:i*k+k<=ws.length)(Q:l.length*k<=ws.length):(splice ws (i*k) (DZ k t)).take ((Hl l i t).length*k)=EN k (Hl l i t):=by
 have O:=Ft U t;have Og:(splice ws (i*k) (DZ k t)).length=ws.length:=DO _ _ _ (by rw[O];exact hw);have hle:∀p I,p<I->p*k+k<=I*k:=λp I h=>by
  have:=Af k (show p+1<=I from h);rw[A7,BH]at this;exact this
 have e:∀p,p<l.length->(ws.drop (p*k)).take k=DZ k (l.getD p Cz):=λp hp=>(Ot U rfl rfl hf (getD_some hp)).2;have hlen:(Hl l i t).length*k<=ws.length:=by
  rw[OW hi];rcases Nat.le_total l.length (i+1)with h|h
  ·rw[Nat.max_eq_right h,A7,BH];exact hw
  ·rw[Nat.max_eq_left h];exact Q
 refine LW U _ _ (by rw[Og];exact hlen) λp hp=>?_;have ab:p*k+k<=(Hl l i t).length*k:=hle p _ hp;rw[OX hi];by_cases J:p=i
 ·rw[if_pos J,J];unfold splice;rw[List.drop_left' (by rw[AZ];omega),List.take_left' O]
 ·rw[if_neg J];rw[OW hi]at hp;rw[<-e p a5];refine VL a5 a5 λc hc=>?_;rw[AT,AT,EU _ _ _ (by rw[O];exact hw)];rw[O];rcases Nat.lt_or_gt_of_ne J with h2|h2
  ·have:=hle p i h2;omega
  ·have:=hle i p h2;omega
theorem Y0(h:Wd X os m W)(U:os[ig]?=AE (Fz b g M k l))(J:0<k/\k<=5){N}(i:Nat)(t:Cy)(hi:i<=l.length)(hn:i*k+k<=N)(O:N<=M/\M<=1000000)(ab:l.length*k<=M):
  Calls AP 154 #[AL #[k,AJ g N M],i,AL #[t.a,t.b,t.c,t.d,t.e]] W λe w'=>e=AH (AM #[])/\Wd X (os.set ig (Fz b g M k (Hl l i t))) m w'/\(∀{c ty Q},ty≠120->Row W c ty Q->Row w' c ty Q):=by
 obtain⟨h1,ws,h2,h4,h5⟩:=h.at_ U;refine(ru t h4 J hn O.1 O.2 (by rw[h2];exact O.1)).mono ?_;rintro e w' ⟨he,hr,hf⟩;exact⟨he,h.words U hf hr (by rw[DO _ _ _ (by rw[Ft J.2];omega)];exact h2) (ZE J.2 h5 hi a5 a5),λI hc=>hf.row hc λe=>I (Row.typed hc (e▸h4))⟩
theorem fC(x:Nat)(w:World):Bu AP (method 371 81 (AI x) "Next") w=.ok (48,AI x) w:=a7
end
section
variable{X:Cx}{os:List DD}{m ix ir ig:Nat}{W W':World}{x r b g M k q told:Nat}{o:Cy}{rt:Rt}{l:List Cy}
def Gl(rt:Rt)(i:Nat):Rt:={rt with pos:=rt.pos+i}
def Mk(X:Cx)(os:List DD)(m ix ig x b g M k:Nat)(rt:Rt)(l:List Cy)(i:Nat)(w':World):Prop:=
 Wd X ((os.set ix (E0 X.p x (Gl rt i) X.sz l)).set ig (Fz b g M k ((l.drop rt.pos).take i))) (m+(Cu rt.h (rt.pos+i)-Cu rt.h rt.pos)) w'
def O6(X:Cx)(os:List DD)(m ix ig x b g M k:Nat)(rt:Rt)(l:List Cy)(i:Nat)(w':World):Prop:=
 Wd X ((os.set ix (E0 X.p x (Gl rt (i+1)) X.sz l)).set ig (Fz b g M k ((l.drop rt.pos).take i))) (m+(Cu rt.h (rt.pos+(i+1))-Cu rt.h rt.pos)) w'
def QC(X:Cx)(os:List DD)(ix ig x b g M k:Nat)(w':World):Prop:=¬X.cm/\∃sH l' m',Wd X ((os.set ix (Nn X.p x sH)).set ig (Fz b g M k l')) m' w'
theorem fZ(hi:ix≠ig)(I:qV rt X.sz l)(EZ:Src os X.sz rt.first rt.k rt.h l)(U:os[ix]?=AE (E0 X.p x rt X.sz l))(hg:os[ig]?=AE (Fz b g M k [])){i}(hp:rt.pos+i<rt.count)(hn:X.N+(m+(Cu rt.h (rt.pos+i)-Cu rt.h rt.pos))<1000000){w}(h:Mk X os m ix ig x b g M k rt l i w){t}(ht:l[rt.pos+i]?=AE t):
  Calls AP 48 #[AI x] w λe w'=>
   (e=AH (AM #[AL #[t.a,t.b,t.c,t.d,t.e],true,()])/\Wd X ((os.set ix (E0 X.p x (Gl rt (i+1)) X.sz l)).set ig (Fz b g M k ((l.drop rt.pos).take i))) (m+(Cu rt.h (rt.pos+(i+1))-Cu rt.h rt.pos)) w')\/
   (e=AH (AM #[AL #[(),(),(),(),()],false,AA AB 6])/\QC X os ix ig x b g M k w'):=by
 have O:((os.set ix (E0 X.p x (Gl rt i) X.sz l)).set ig (Fz b g M k ((l.drop rt.pos).take i)))[ix]?=AE (E0 X.p x (Gl rt i) X.sz l):=Fc (IJ os U _) λe=>hi e.symm;have gN:qV (Gl rt i) X.sz l:=⟨⟨I.ok.k,I.ok.h,I.ok.sz,⟨I.ok.count.1,by show rt.pos+i<=rt.count;omega⟩,I.ok.first⟩,I.cnt,I.fit⟩;have Q:Src ((os.set ix (E0 X.p x (Gl rt i) X.sz l)).set ig (Fz b g M k ((l.drop rt.pos).take i))) X.sz (Gl rt i).first (Gl rt i).k (Gl rt i).h l:=(EZ.set U (b:=E0 X.p x (Gl rt i) X.sz l) ⟨rfl,rfl⟩).set (i:=ig) (a:=Fz b g M k []) (Fc hg hi) ⟨rfl,rfl⟩;have Dg:=Df (h:=rt.h) (c:=rt.pos) (c':=rt.pos+i) I.ok.h.1 a5;have DT:=Df (h:=rt.h) (c:=rt.pos+i) (c':=rt.pos+(i+1)) I.ok.h.1 a5;refine(OK h O gN hn hp Q ht).mono ?_;rintro e w' (⟨he,J⟩|⟨he,hc,J⟩)
 ·refine .inl ⟨he,?_⟩;rw[List.set_comm _ _ (λe=>hi e.symm),List.set_set]at J;have e1:m+(Cu rt.h (rt.pos+i)-Cu rt.h rt.pos)+(Cu (Gl rt i).h ((Gl rt i).pos+1)-Cu (Gl rt i).h (Gl rt i).pos)=m+(Cu rt.h (rt.pos+(i+1))-Cu rt.h rt.pos):=by
   show m+(Cu rt.h (rt.pos+i)-Cu rt.h rt.pos)+(Cu rt.h (rt.pos+i+1)-Cu rt.h (rt.pos+i))= _;rw[show rt.pos+i+1=rt.pos+(i+1)by omega];omega
  rw[e1]at J;exact J
 ·rw[List.set_comm _ _ (λe=>hi e.symm),List.set_set]at J;exact .inr ⟨he,hc,_,_,_,J⟩
theorem Jo{h}(hh:0<h)(p:Nat):∀i,Cu h (p+i)<=Cu h p+i
 |0=>AQ _
 |i+1=>by
  have I:=Jo hh p i;have e:=Qd (h:=h) (i:=p+i) hh;rw[show p+(i+1)=p+i+1 by omega,e]
  split<;>omega
theorem eB{l:List Cy}{p i t}(I:l[p+i]?=AE t):Hl ((l.drop p).take i) i t=(l.drop p).take (i+1):=by
 have J:p+i<l.length:=(BI.1 I).1;have O:((l.drop p).take i).length=i:=by rw[AZ,Aq];omega
 have e:Hl ((l.drop p).take i) i t=(l.drop p).take i++[t]:=by
  have:=XE ((l.drop p).take i) t;rwa [O]at this
 rw[e,Bj,Bc,I];rfl
theorem qu(h:Wd X os m W)(hr:os[ir]?=AE (Cv r 225 (Jg k g (q*k) M o told)))(hg:os[ig]?=AE (Fz b g M k []))(hx:os[ix]?=AE (E0 X.p x rt X.sz l))(gG:ir≠ig)(Lm:ir≠ix)(Yb:ix≠ig)(hk:0<k/\k<=5)(hM:q*k<=M/\M<=1000000/\q<=100000)
  (DN:qV rt X.sz l)(EZ:Src os X.sz rt.first rt.k rt.h l)(hp:rt.pos+q<=rt.count)(hn:X.N+m+q+1<=1000000):
  Calls AP 148 #[AI r,.iface 81 (AI x)] W λe w'=>
   (e=AH ()/\Mk X os m ix ig x b g M k rt l q w')\/(e=AH (AA AB 6)/\QC X os ix ig x b g M k w'):=by
 have mN:=fC x;have ab:=h.row hr;have Gg:=AO (Ry ab hk.1 rfl a5);have H0:Hid (∀d,Mk X os m ix ig x b g M k rt l 0 (W.drewN d)):=λd=>by
  unfold Mk;have e1:Gl rt 0=rt:=rfl;rw[e1,Nat.add_zero,As,Nat.add_zero,Bs,Iv (i:=ix) hx,Iv (i:=ig) hg];exact h.drewN d
 have RO:Hid (∀i w t,i<q->l[rt.pos+i]?=AE t->Mk X os m ix ig x b g M k rt l i w->Calls AP 48 #[AI x] w λe w'=>
   (e=AH (AM #[AL #[t.a,t.b,t.c,t.d,t.e],true,()])/\O6 X os m ix ig x b g M k rt l i w')\/
   (e=AH (AM #[AL #[(),(),(),(),()],false,AA AB 6])/\QC X os ix ig x b g M k w')):=λi w t hi ht hL=>by
  have au:Cu rt.h (rt.pos+i)-Cu rt.h rt.pos<=i:=by
   have h1:=Jo DN.ok.h.1 rt.pos i;omega
  exact fZ Yb DN EZ hx hg a5 a5 hL ht
 have an:Hid (∀i,i<q->∃t,l[rt.pos+i]?=AE t):=λi hi=>⟨_,AU (by have:=DN.cnt;omega)⟩;have aq:Hid (∀i w t I,i<q->l[rt.pos+i]?=AE t->O6 X os m ix ig x b g M k rt l i w->Row w I 47 [t.a,t.b,t.c,t.d,t.e]->
   (w.cell? r=AE (AA AB k)/\w.cell? (r,1)=AE (AJ g (q*k) M))/\Calls AP 154 #[AL #[k,AJ g (q*k) M],i,AL #[t.a,t.b,t.c,t.d,t.e]] w λe w'=>e=AH (AM #[])/\Mk X os m ix ig x b g M k rt l (i+1) w'/\
    (w'.cell? r=AE (AA AB k)/\w'.cell? (r,1)=AE (AJ g (q*k) M))/\Row w' I 47 [t.a,t.b,t.c,t.d,t.e]):=λi w t I hi ht hW nY=>by
  have m6:=hW.row (Fc (b:=Fz b g M k ((l.drop rt.pos).take i)) (Fc (b:=E0 X.p x (Gl rt (i+1)) X.sz l) hr λe=>Lm e.symm) λe=>gG e.symm);have hl:((l.drop rt.pos).take i).length=i:=by rw[AZ,Aq,DN.cnt];omega
  have nJ:i*k+k<=q*k:=by
   have:=Af k (show i+1<=q from hi);rw[A7,BH]at this;exact this
  refine⟨⟨m6.cell 0,m6.cell 1⟩,?_⟩;refine(Y0 hW (IJ _ (Fc (b:=E0 X.p x (Gl rt (i+1)) X.sz l) hg Yb) _) hk i t a5 nJ ⟨hM.1,hM.2.1⟩ (by rw[hl];omega)).mono ?_;rintro e w' ⟨he,h1,J⟩;refine⟨he,?_,⟨(J a6 m6).cell 0,(J a6 m6).cell 1⟩,J a6 nY⟩;rw[List.set_set,eB ht]at h1;exact h1
 clear h hr hg hx gG Lm Yb EZ ab DN hp hn;have al:Hid (∀i w w',O6 X os m ix ig x b g M k rt l i w->Below w w w'->O6 X os m ix ig x b g M k rt l i w'):=λi w w' h1 J=>Wd.below h1 J;have ao:Hid (∀w w',QC X os ix ig x b g M k w->Below w w w'->QC X os ix ig x b g M k w'):=λw w' h1 J=>by
  obtain⟨h3,sH,l',m',h4⟩:=h1;exact⟨h3,sH,l',m',h4.below J⟩
 generalize O6 X os m ix ig x b g M k rt l=LM at*
 generalize Mk X os m ix ig x b g M k rt l=LA at*
 generalize QC X os ix ig x b g M k=LN at*
 generalize q*k=N at*
 have hq:q<=100000:=hM.2.2;go_enter func148,ntmps148
 go_wp2_with fail
 refine Gg.out.mono ?_;rintro e w1 ⟨rfl,d,rfl⟩;have H1:=AO (H0.out d);clear H0 Gg;generalize W.drewN d=w1 at*
 go_wp2
 go_loopw [5,6,7,8,11] (λ_ _ _ _ iv wr=>∃i:Nat,i<=q/\iv=AA AB (i:Int)/\Hid (LA i wr)) (λ_ _ _ _ iv _=>q-(BF iv).toNat)
 case atStart=>exact⟨0,Ao _,rfl,H1.out⟩
 case round=>
  obtain⟨i,hi,rfl,HL⟩:=hrel;by_cases ad:i<q
  ·obtain⟨t,ht⟩:=an.out i ad;have xk:=AO (RO.out i wr t ad ht HL.out);have HT:=AO ht;obtain⟨ta,tb,U,Q,O⟩:=t;simp only at xk;clear ht;go_wp2_with fail
   refine xk.out.mono ?_;rintro e w2 (⟨rfl,J⟩|⟨rfl,J⟩)
   ·have nY:Below w2 w2 (w2.alloc (AK #[ta,tb,U,Q,O] 47)):=(AS _ _).alloc ar _;have GU:Row (w2.alloc (AK #[ta,tb,U,Q,O] 47)) w2 47 [ta,tb,U,Q,O]:=heap_alloc_new _ _;have IF:=AO GU;have Jz:=AO (al.out _ _ _ J nY);clear J nY GU;go_upto_region 7 with(fail)
    generalize w2.alloc (AK #[ta,tb,U,Q,O] 47)=w3 at*
    generalize w2.heap.size=I at*
    have dJ:Hid (((w3.drewN 1).cell? r=AE (AA AB k)/\(w3.drewN 1).cell? (r,1)=AE (AJ g N M))/\Calls AP 154 #[AL #[k,AJ g N M],i,AL #[ta,tb,U,Q,O]] (w3.drewN 1) λe w'=>e=AH (AM #[])/\LA (i+1) w'/\
     (w'.cell? r=AE (AA AB k)/\w'.cell? (r,1)=AE (AJ g N M))/\Row w' I 47 [ta,tb,U,Q,O]):=aq.out i (w3.drewN 1) ⟨ta,tb,U,Q,O⟩ I ad HT.out (al.out _ _ _ Jz.out (DA (AS _ _) 1)) (IF.out.drewN 1)
    have pK:Hid (Row (w3.drewN 1) I 47 [ta,tb,U,Q,O]):=IF.out.drewN 1;have e0:w3.drew.cell? r=AE (AA AB k):=dJ.out.1.1;have e1:w3.drew.cell? (r,1)=AE (AJ g N M):=dJ.out.1.2;have d0:w3.drew.cell? ⟨I,0,AD⟩=AE (AA AB ta):=pK.out.cell 0;have d1:w3.drew.cell? ⟨I,1,AD⟩=AE (AA AB tb):=pK.out.cell 1;have d2:w3.drew.cell? ⟨I,2,AD⟩=AE (AA AB U):=pK.out.cell 2;have d3:w3.drew.cell? ⟨I,3,AD⟩=AE (AA AB Q):=pK.out.cell 3;have d4:w3.drew.cell? ⟨I,4,AD⟩=AE (AA AB O):=pK.out.cell 4;have yB:=AO dJ.out.2;have ae:w3.drewN 1=w3.drew:=rfl;rw[ae]at yB;clear ae dJ;go_region_held3 (λw'=>w'.cell? r=AE (AA AB k)/\w'.cell? (r,1)=AE (AJ g N M)/\w'.cell? I=AE (AA AB ta)/\w'.cell? (I,1)=AE (AA AB tb)/\w'.cell? (I,2)=AE (AA AB U)/\w'.cell? (I,3)=AE (AA AB Q)/\w'.cell? (I,4)=AE (AA AB O)) (first|with_reducible exact⟨e0,e1,d0,d1,d2,d3,d4⟩|with_reducible exact q2)
     ((go_at_call 154;(with_reducible refine yB.out.mono ?_);rintro e w5 ⟨rfl,h5,h6,h7⟩;obtain⟨H5,q2⟩:Hid (LA (i+1) w5)/\(w5.cell? r=AE (AA AB k)/\w5.cell? (r,1)=AE (AJ g N M)/\w5.cell? I=AE (AA AB ta)/\w5.cell? (I,1)=AE (AA AB tb)/\w5.cell? (I,2)=AE (AA AB U)/\w5.cell? (I,3)=AE (AA AB Q)/\w5.cell? (I,4)=AE (AA AB O)):=⟨h5,h6.1,h6.2,h7.cell 0,h7.cell 1,h7.cell 2,h7.cell 3,h7.cell 4⟩))
    go_wp2
    go_roundw
    case rel=>exact⟨i+1,a5,by go_num,H5.out⟩
    case measure=>simp[BF];omega
   ·have H2:=AO J;clear J;go_wp2
    go_ret
    exact .inr ⟨rfl,ao.out _ _ H2.out ((AS _ _).alloc ar _)⟩
  ·obtain rfl:i=q:=a5;go_wp2
   go_ret
   exact .inl ⟨rfl,HL.out⟩
end
def xZ(fN:Nat)(vF:Value)(J:Nat->World->Prop)(Jm:Cy->Nat->World->Prop)(E Er:World->Prop):Prop:=
 ∀n w,J n w->Calls AP fN #[vF] w λe w'=>
  (∃t n',e=AH (AM #[DW t,true,()])/\n'<n/\Jm t n' w')\/
  (e=AH (AM #[DW Cz,false,()])/\E w')\/(e=AH (AM #[DW Cz,false,AA AB 6])/\Er w')
def AL5(fP:Nat)(vT:Value)(J:Nat->World->Prop)(Jm:Cy->Nat->World->Prop)(Er:World->Prop):Prop:=
 ∀t n w,Jm t n w->Calls AP fP #[vT,DW t] w λe w'=>(e=AH ()/\J n w')\/(e=AH (AA AB 6)/\Er w')
theorem XG{tF tT fN fP n:Nat}{vF vT J Jm E Er W}
  (mN:∀w,Bu AP (method 371 tF vF "Next") w=.ok (fN,vF) w)(mP:∀w,Bu AP (method 371 tT vT "Put") w=.ok (fP,vT) w)
  (eN:∀args w,Bu AP (callFunc fN args) w=.ok (.enter fN args) w)(eP:∀args w,Bu AP (callFunc fP args) w=.ok (.enter fP args) w)
  (hN:xZ fN vF J Jm E Er)(hP:AL5 fP vT J Jm Er)
  (O:∀t n w w',Jm t n w->Below w w w'->Jm t n w')(bE:∀w w',E w->Below w w w'->E w')(Q:∀w w',Er w->Below w w w'->Er w')
  (h:J n W):Calls AP 138 #[.iface tF vF,.iface tT vT] W λe w'=>(e=AH ()/\E w')\/(e=AH (AA AB 6)/\Er w'):=by
 have HN:=AO hN;have HP:=AO hP;have BJ:=AO O;have BE:=AO bE;have BR:=AO Q;have H:=AO h;clear hN hP O bE Q h;go_enter func138,ntmps138
 go_wp2_with fail
 go_loopw [4] (λ_ wr=>∃k:Nat,Hid (J k wr)) (λ_ wr=>Ho λk=>J k wr)
 case atStart=>exact⟨n,H⟩
 case round=>
  obtain⟨k,hJ⟩:=hrel;have HJ:Hid (J (Ho λk=>J k wr) wr):=(Fi (P:=λk=>J k wr) hJ.out).1;have xk:=AO (HN.out _ wr HJ.out);clear hJ;go_wp2_with fail
  refine xk.out.mono ?_;rintro e w2 (⟨t,n',rfl,wP,I⟩|⟨rfl,I⟩|⟨rfl,I⟩)
  ·have KM:=AO wP;have Jz:=AO (BJ.out t n' _ _ I ((AS w2 w2).alloc ar (AK #[t.a,t.b,t.c,t.d,t.e] 47)));have GU:Row (w2.alloc (AK #[t.a,t.b,t.c,t.d,t.e] 47)) w2 47 [t.a,t.b,t.c,t.d,t.e]:=heap_alloc_new _ _;have IF:=AO GU;clear I GU wP;unfold DW;go_upto_region 4 with(fail)
   generalize w2.alloc (AK #[t.a,t.b,t.c,t.d,t.e] 47)=w3 at*
   generalize w2.heap.size=bt at*
   have U:=AO (HP.out t n' w3 Jz.out);unfold DW at U;obtain⟨d0,d1,d2,d3,d4⟩:=IF.out.q5;go_wp2_with fail
   refine U.out.mono ?_;rintro e w4 (⟨rfl,h4⟩|⟨rfl,h4⟩)
   ·have H4:=AO h4;clear h4;go_wp2
    go_roundw
    case rel=>exact⟨n',H4⟩
    case measure=>exact Cg (Fi (P:=λk=>J k w4) H4.out).2 KM.out
   ·have H4:=AO h4;clear h4;go_wp2
    go_ret
    exact .inr ⟨rfl,H4.out⟩
  ·have H2:=AO I;clear I;unfold DW Cz;go_wp2
   go_ret
   exact .inl ⟨rfl,BE.out _ _ H2.out ((AS _ _).alloc ar _)⟩
  ·have H2:=AO I;clear I;unfold DW Cz;go_wp2
   go_ret
   exact .inr ⟨rfl,BR.out _ _ H2.out ((AS _ _).alloc ar _)⟩
def MY(x:Nat)(o:Cy)(hd:Bool)(la:Cy):List Value:=[.iface 65 (AI x),o.a,o.b,o.c,o.d,o.e,hd,la.a,la.b,la.c,la.d,la.e]
theorem WZ(x:Nat)(w:World):Bu AP (method 371 65 (AI x) "Put") w=.ok (30,AI x) w:=a7
section
variable{X:Cx}{os:List DD}{m iw jf:Nat}{W W':World}{x f:Nat}{o la t:Cy}{hd:Bool}
theorem Ud{W}(I:Row W f 220 (MY x o hd la)):Row (((((((W.setCell (f,6) true).setCell (f,7) t.a).setCell (f,8) t.b).setCell (f,9) t.c).setCell (f,10) t.d).setCell (f,11) t.e).drew) f 220 (MY x o true t)/\
  DJ (λk=>k=f) W (((((((W.setCell (f,6) true).setCell (f,7) t.a).setCell (f,8) t.b).setCell (f,9) t.c).setCell (f,10) t.d).setCell (f,11) t.e).drew):=
 ⟨by
  have h:=((((((I.set 6 true).set 7 t.a).set 8 t.b).set 9 t.c).set 10 t.d).set 11 t.e).drewN 1;have e:((((((MY x o hd la).set 6 true).set 7 t.a).set 8 t.b).set 9 t.c).set 10 t.d).set 11 t.e=MY x o true t:=rfl;rw[e]at h;exact h,by
  have Q:DJ (λk=>k=f) W W:=DJ.refl _ _;have O:=Q.set (p:=(f,6)) (.inl rfl) true;have J:=O.set (p:=(f,7)) (.inl rfl) t.a;have h3:=J.set (p:=(f,8)) (.inl rfl) t.b;have h4:=h3.set (p:=(f,9)) (.inl rfl) t.c;have h5:=h4.set (p:=(f,10)) (.inl rfl) t.d;exact(h5.set (p:=⟨f,11,AD⟩) (.inl rfl) (AA AB t.e)).drew⟩
theorem oq(W:World)(t:Cy):Below W W (W.alloc (AK #[t.a,t.b,t.c,t.d,t.e] 47))/\Row (W.alloc (AK #[t.a,t.b,t.c,t.d,t.e] 47)) W 47 [t.a,t.b,t.c,t.d,t.e]:=⟨(AS _ _).alloc ar _,heap_alloc_new _ _⟩
theorem iE(U:Row W f 220 (MY x o true la))(hc:DV o la t=0):Calls AP 184 #[AI f,AL #[t.a,t.b,t.c,t.d,t.e]] W λe w'=>e=AH ()/\Below W W w':=by
 obtain⟨Dg,GU⟩:=oq W t;have Po:=U.below Dg U.lt;have NQ:=AO Dg;have Q1:Hid (∀W d os,Calls AP 185 #[AL #[la.a,la.b,la.c,la.d,la.e],AL #[t.a,t.b,t.c,t.d,t.e],AL #[o.a,o.b,o.c,o.d,o.e]] (An (redrawn W d) os) λe Eo=>e=AH ()/\∃p:Regrown,Eo=An (redrawn W p.d) p.os):=λW d os=>Ba (by have:=RJ o la t (An (redrawn W d) os);rw[hc]at this;exact this);have O:=AO GU;have I:=AO Po;clear Dg U GU Po hc;obtain⟨ta,tb,tc,td,te⟩:=t;obtain⟨an,al,ae,ad,ab⟩:=la;obtain⟨oa,ob,oc,od,oe⟩:=o;simp only[MY]at*
 go_enter func184,ntmps184
 go_upto_region 1 with(fail)
 have k6:=Ac (I.out.cell 6);have k1:=Ac (I.out.cell 1);have k2:=Ac (I.out.cell 2);have k3:=Ac (I.out.cell 3);have k4:=Ac (I.out.cell 4);have k5:=Ac (I.out.cell 5);have k7:=Ac (I.out.cell 7);have k8:=Ac (I.out.cell 8);have k9:=Ac (I.out.cell 9);have bw:=Ac (I.out.cell 10);have ao:=Ac (I.out.cell 11);have b0:=Ac (O.out.cell 0);have b1:=Ac (O.out.cell 1);have b2:=Ac (O.out.cell 2);have b3:=Ac (O.out.cell 3);have b4:=Ac (O.out.cell 4);generalize W.alloc (AK #[ta,tb,tc,td,te] 47)=W1 at*
 generalize J:W.heap.size=bt at*
 have O7:=AO J;clear J;refine By a7 a7 ?_
 repeat(any_goals(first|go_big_quiet_step (with_reducible first|exact Q1.out _ _ _)|quiet_step (with_reducible first|exact Q1.out _ _ _)))
 refine wpQuiet_nil ?_;intro w5 Q;obtain⟨⟨dq,osq⟩,Q⟩:=Q;have Fj:=B0 W1 dq osq;rw[<-Q]at Fj;have HB:=AO Fj;clear Q Fj;go_wp2
 go_ret
 exact⟨rfl,by rw[O7.out];exact NQ.out.trans (HB.out.mono (by have h9:=NQ.out.size;rw[O7.out]at h9;exact h9))⟩
theorem uO(hr:Row W f 220 (MY x o hd la))(hc:hd=true->DV o la t≠0){P:Int->World->Prop}(hP:∀W6,Row W6 f 220 (MY x o true t)->DJ (λk=>k=f) W W6->Calls AP 30 #[AI x,AL #[AA AB t.a,AA AB t.b,AA AB t.c,AA AB t.d,AA AB t.e]] W6 λe w'=>∃er,e=AH (AA AB er)/\P er w'):Calls AP 184 #[AI f,AL #[AA AB t.a,AA AB t.b,AA AB t.c,AA AB t.d,AA AB t.e]] W λe w'=>∃er,e=AH (AA AB er)/\P er w':=by
 obtain⟨Dg,GU⟩:=oq W t;have Po:=hr.below Dg hr.lt;have NQ:=AO Dg;have mP:=WZ x;have HP:=AO hP;clear hP;have av:=hr.lt;have aw:=AO av;clear av;have Q1:Hid (∀W d os,Calls AP 185 #[AL #[la.a,la.b,la.c,la.d,la.e],AL #[t.a,t.b,t.c,t.d,t.e],AL #[o.a,o.b,o.c,o.d,o.e]] (An (redrawn W d) os) λe Eo=>e=AH (AA AB (DV o la t))/\∃p:Regrown,Eo=An (redrawn W p.d) p.os):=λW d os=>Ba (RJ o la t (An (redrawn W d) os));generalize DV o la t=res at*
 have O:=AO GU;have J:=AO Po;clear Dg hr GU Po;obtain⟨ta,tb,tc,td,te⟩:=t;obtain⟨au,ar,aq,ao,an⟩:=la;obtain⟨oa,ob,oc,od,oe⟩:=o;simp only[MY]at*
 cases hd
 case false=>
  clear hc;go_enter func184,ntmps184
  go_upto_region 1 with(fail)
  have k6:=Ac (J.out.cell 6);have k1:=Ac (J.out.cell 1);have k2:=Ac (J.out.cell 2);have k3:=Ac (J.out.cell 3);have k4:=Ac (J.out.cell 4);have k5:=Ac (J.out.cell 5);have k7:=Ac (J.out.cell 7);have k8:=Ac (J.out.cell 8);have k9:=Ac (J.out.cell 9);have bw:=Ac (J.out.cell 10);have ax:=Ac (J.out.cell 11);have b0:=Ac (O.out.cell 0);have b1:=Ac (O.out.cell 1);have b2:=Ac (O.out.cell 2);have b3:=Ac (O.out.cell 3);have b4:=Ac (O.out.cell 4);generalize W.alloc (AK #[ta,tb,tc,td,te] 47)=W1 at*
  generalize Q:W.heap.size=bt at*
  have O7:=AO Q;clear Q;refine By a7 a7 ?_
  repeat(any_goals(first|go_big_quiet_step (with_reducible first|exact Q1.out _ _ _)|quiet_step (with_reducible first|exact Q1.out _ _ _)))
  refine wpQuiet_nil ?_;intro w5 Jr;obtain⟨⟨dq,osq⟩,Jr⟩:=Jr;have Fj:=B0 W1 dq osq;rw[<-Jr]at Fj;have HB:=AO Fj;clear Jr Fj;go_upto_region 3 with(fail)
  have I:=J.out.below HB.out J.out.lt;have U:=O.out.below HB.out O.out.lt;obtain⟨c1,c2,c3,c4,c5⟩:=U.q5;have e6:=I.cell 6;have f6:=I.free 6;have e7:=I.cell 7;have f7:=I.free 7;have e8:=I.cell 8;have f8:=I.free 8;have e9:=I.cell 9;have f9:=I.free 9;have al:=I.cell 10;have ad:=I.free 10;have ae:=I.cell 11;have ab:=I.free 11;have l6:=I.lt;have l7:=U.lt;go_region
  obtain⟨r7,F7⟩:=Ud (t:=⟨ta,tb,tc,td,te⟩) (la:=⟨au,ar,aq,ao,an⟩) (o:=⟨oa,ob,oc,od,oe⟩) I;have NJ:f≠bt:=by have h9:=aw.out;omega
  have t7:=F7.row U λe=>NJ e.symm;have J4:Below W W w5:=by rw[O7.out];exact NQ.out.trans (HB.out.mono (by have h9:=NQ.out.size;rw[O7.out]at h9;exact h9))
  have hF:DJ (λk=>k=f) W (((((((w5.setCell (f,6) true).setCell (f,7) ta).setCell (f,8) tb).setCell (f,9) tc).setCell (f,10) td).setCell (f,11) te).drew):=(DJ.DE J4 _).trans F7 λb hb=>.inl hb;have HC:=AO (λd=>HP.out (World.drewN _ d) (r7.drewN d) (hF.drewN d));clear e6 f6 e7 f7 e8 f8 e9 f9 al ad ae ab c1 c2 c3 c4 c5 I U l6 l7 F7 hF;generalize(((((((w5.setCell (f,6) true).setCell (f,7) ta).setCell (f,8) tb).setCell (f,9) tc).setCell (f,10) td).setCell (f,11) te).drew)=W7 at*
  have e0:W7.cell? f=AE (.iface 65 (AI x)):=r7.cell 0;obtain⟨c1,c2,c3,c4,c5⟩:=t7.q5;go_upto_region 4 with(fail)
  refine wp_region_still_tail 5 a7 a7 ?_;simp only[List.take_succ_cons,Bs,List.drop_succ_cons,Cr];change wpStill AP _ W7.drew (λa'=>wpList AP _ _ _ a' W7.drew) _ _
  repeat still_step
  refine wpStill_nil ?_;go_wp2_with fail
  refine(HC.out 1).mono ?_;rintro e w9 ⟨er,rfl,gJ⟩;have H9:=AO gJ;clear gJ;go_wp2
  go_ret
  exact⟨er,rfl,H9.out⟩
 case true=>
  have ay:=hc rfl;clear hc;go_enter func184,ntmps184
  go_upto_region 1 with(fail)
  have k6:=Ac (J.out.cell 6);have k1:=Ac (J.out.cell 1);have k2:=Ac (J.out.cell 2);have k3:=Ac (J.out.cell 3);have k4:=Ac (J.out.cell 4);have k5:=Ac (J.out.cell 5);have k7:=Ac (J.out.cell 7);have k8:=Ac (J.out.cell 8);have k9:=Ac (J.out.cell 9);have bw:=Ac (J.out.cell 10);have ax:=Ac (J.out.cell 11);have b0:=Ac (O.out.cell 0);have b1:=Ac (O.out.cell 1);have b2:=Ac (O.out.cell 2);have b3:=Ac (O.out.cell 3);have b4:=Ac (O.out.cell 4);generalize W.alloc (AK #[ta,tb,tc,td,te] 47)=W1 at*
  generalize Q:W.heap.size=bt at*
  have O7:=AO Q;clear Q;refine By a7 a7 ?_
  repeat(any_goals(first|go_big_quiet_step (with_reducible first|exact Q1.out _ _ _)|quiet_step (with_reducible first|exact Q1.out _ _ _)))
  refine wpQuiet_nil ?_;intro w5 Jr;obtain⟨⟨dq,osq⟩,Jr⟩:=Jr;have Fj:=B0 W1 dq osq;rw[<-Jr]at Fj;have HB:=AO Fj;clear Jr Fj;go_upto_region 3 with(fail)
  have I:=J.out.below HB.out J.out.lt;have U:=O.out.below HB.out O.out.lt;obtain⟨c1,c2,c3,c4,c5⟩:=U.q5;have e6:=I.cell 6;have f6:=I.free 6;have e7:=I.cell 7;have f7:=I.free 7;have e8:=I.cell 8;have f8:=I.free 8;have e9:=I.cell 9;have f9:=I.free 9;have al:=I.cell 10;have ad:=I.free 10;have ae:=I.cell 11;have ab:=I.free 11;have l6:=I.lt;have l7:=U.lt;go_region
  obtain⟨r7,F7⟩:=Ud (t:=⟨ta,tb,tc,td,te⟩) (la:=⟨au,ar,aq,ao,an⟩) (o:=⟨oa,ob,oc,od,oe⟩) I;have NJ:f≠bt:=by have h9:=aw.out;omega
  have t7:=F7.row U λe=>NJ e.symm;have J4:Below W W w5:=by rw[O7.out];exact NQ.out.trans (HB.out.mono (by have h9:=NQ.out.size;rw[O7.out]at h9;exact h9))
  have hF:DJ (λk=>k=f) W (((((((w5.setCell (f,6) true).setCell (f,7) ta).setCell (f,8) tb).setCell (f,9) tc).setCell (f,10) td).setCell (f,11) te).drew):=(DJ.DE J4 _).trans F7 λb hb=>.inl hb;have HC:=AO (λd=>HP.out (World.drewN _ d) (r7.drewN d) (hF.drewN d));clear e6 f6 e7 f7 e8 f8 e9 f9 al ad ae ab c1 c2 c3 c4 c5 I U l6 l7 F7 hF;generalize(((((((w5.setCell (f,6) true).setCell (f,7) ta).setCell (f,8) tb).setCell (f,9) tc).setCell (f,10) td).setCell (f,11) te).drew)=W7 at*
  have e0:W7.cell? f=AE (.iface 65 (AI x)):=r7.cell 0;obtain⟨c1,c2,c3,c4,c5⟩:=t7.q5;go_upto_region 4 with(fail)
  refine wp_region_still_tail 5 a7 a7 ?_;simp only[List.take_succ_cons,Bs,List.drop_succ_cons,Cr];change wpStill AP _ W7.drew (λa'=>wpList AP _ _ _ a' W7.drew) _ _
  repeat still_step
  refine wpStill_nil ?_;go_wp2_with fail
  refine(HC.out 1).mono ?_;rintro e w9 ⟨er,rfl,gJ⟩;have H9:=AO gJ;clear gJ;go_wp2
  go_ret
  exact⟨er,rfl,H9.out⟩
end
def Dt(once:Bool)(o:Cy)(s:List Cy):List Cy:=if once then D8 o s else s
theorem SM(once:Bool)(o:Cy)(s:List Cy):(Dt once o s).length<=s.length:=by
 unfold Dt;split
 ·exact SC o s
 ·exact AQ _
def YL(X:Cx)(x n:Nat)(z:List DD):Prop:=∃t r,z=Yt X.p x t::r/\z.length=n/\Dr r
structure o5 (X:Cx) (o:Cy) (once:Bool) (k hh bd x tT fP:Nat) (vT:Value) (Z:List Cy->List DD) (n:Nat):Prop where
 len:∀s,(Z s).length=n
 mm:∀w,Bu AP (method 371 tT vT "Put") w=.ok (fP,vT) w
 me:∀args w,Bu AP (callFunc fP args) w=.ok (.enter fP args) w
 put:∀(DK UL:List DD) (m:Nat) (s:List Cy) (tu:Cy) (W:World),Wd X (DK++Z s++UL) m W->Db k tu=true->s.length<bd->X.N+m<1000000->
  Calls AP fP #[vT,DW tu] W λe w'=>
   (e=AH ()/\Wd X (DK++Z (s++[tu])++UL) (m+((Dt once o (s++[tu])).length/hh-(Dt once o s).length/hh)) w')\/
   (e=AH (AA AB 6)/\¬X.cm/\∃z m',YL X x n z/\Wd X (DK++z++UL) m' w')
 hd:∀s,s.length<=bd->∃t r,Z s=I6 X.p x t X.sz::r/\Ew t X.sz/\t.k=k/\t.h=hh/\t.bound=bd/\t.l=Dt once o s/\Dr r
def Tc(t:Wt)(l:List Cy):Wt:={t with l:=l}
theorem U9{t sz}(h:Ew t sz){l}(e:l.length<=t.bound):Ew (Tc t l) sz:=⟨h.k,h.h,h.sz,⟨h.bound.1,e⟩,h.blocks,h.first⟩
section
variable{X:Cx}{t0:Wt}{o:Cy}{x f:Nat}
theorem AE3(Q:Ew t0 X.sz):o5 X o false t0.k t0.h t0.bound x 65 30 (AI x) (λs=>[I6 X.p x (Tc t0 s) X.sz]) 1 where
 len:=λ_=>rfl
 mm:=WZ x
 me:=λargs w=>by kernel_rfl
 put:=λDK UL m s tu W h hf J U=>by
  have hi:(DK++[I6 X.p x (Tc t0 s) X.sz]++UL)[DK.length+0]?=AE (I6 X.p x (Tc t0 s) X.sz):=mT (j:=0) a8;refine(RX h hi (U9 Q a5) U hf (by show s.length<t0.bound;exact J)).mono ?_;rintro e w' (⟨he,I⟩|⟨he,hc,I⟩)
  ·rw[SN a8]at I;refine .inl ⟨he,?_⟩;have e1:(Dt false o (s++[tu])).length/t0.h-(Dt false o s).length/t0.h=((Tc t0 s).l.length+1)/(Tc t0 s).h-(Tc t0 s).l.length/(Tc t0 s).h:=by
    show (s++[tu]).length/t0.h-s.length/t0.h=(s.length+1)/t0.h-s.length/t0.h;rw[Aa];rfl
   rw[e1];exact I
  ·rw[SN a8]at I;exact .inr ⟨he,hc,_,_,⟨_,[],rfl,rfl,λq O=>by cases O⟩,I⟩
 hd:=λs J=>⟨_,[],rfl,U9 Q J,rfl,rfl,rfl,rfl,λq O=>by cases O⟩
def Vw(x:Nat)(o:Cy)(q:List Cy):List Value:=MY x o (!q.isEmpty) (q.getLast?.getD Cz)
theorem iK(x:Nat)(o:Cy)(q:List Cy)(t:Cy):Vw x o (q++[t])=MY x o true t:=by
 unfold Vw;rw[List.getLast?_concat]
 cases q<;>rfl
theorem oK(f:Nat)(w:World):Bu AP (method 371 218 (AI f) "Put") w=.ok (184,AI f) w:=a7
theorem AE4(DN:Ew t0 X.sz):o5 X o true t0.k t0.h t0.bound x 218 184 (AI (AE ⟨f,0,AD⟩)) (λs=>[I6 X.p x (Tc t0 (D8 o s)) X.sz,Cv f 220 (Vw x o (D8 o s))]) 2 where
 len:=λ_=>rfl
 mm:=oK f
 me:=λargs w=>by kernel_rfl
 put:=λDK UL m s tu W h hf hs hn=>by
  have hle:=SC o s;have Q:=Nq o s tu;have hj:(DK++[I6 X.p x (Tc t0 (D8 o s)) X.sz,Cv f 220 (Vw x o (D8 o s))]++UL)[DK.length+1]?=AE (Cv f 220 (Vw x o (D8 o s))):=mT (j:=1) a8;have I:=h.row hj;have qL:∀q,Dt true o q=D8 o q:=λq=>rfl;simp only[qL];by_cases mo:∃u,(D8 o s).getLast?=AE u/\DV o u tu=0
  ·obtain⟨u,hu,J⟩:=mo;have e1:D8 o (s++[tu])=D8 o s:=by
    rw[Q];unfold stepO;rw[hu];simp only[if_pos J]
   have e2:Vw x o (D8 o s)=MY x o true u:=by
    unfold Vw;rw[hu]
    cases U:D8 o s with
    |nil=>rw[U]at hu;cases hu
    |cons a l=>rfl
   rw[e2]at I;refine(iE I J).mono ?_;rintro e w' ⟨he,hb⟩;refine .inl ⟨he,?_⟩;rw[e1,As,Nat.add_zero];exact h.below hb
  ·have e1:D8 o (s++[tu])=D8 o s++[tu]:=by
    rw[Q];unfold stepO
    cases hu:(D8 o s).getLast? with
    |none=>rfl
    |some u=>simp only[if_neg λJ=>mo ⟨u,hu,J⟩]
   have ad:(!(D8 o s).isEmpty)=true->DV o ((D8 o s).getLast?.getD Cz) tu≠0:=λab J=>by
    cases hu:(D8 o s).getLast? with
    |none=>rw[List.getLast?_eq_none_iff.1 hu]at ab;cases ab
    |some u=>rw[hu]at J;exact mo ⟨u,hu,J⟩
   refine(uO (P:=λer w'=>(er=0/\Wd X (DK++[I6 X.p x (Tc t0 (D8 o (s++[tu]))) X.sz,Cv f 220 (Vw x o (D8 o (s++[tu])))]++UL) (m+((D8 o (s++[tu])).length/t0.h-(D8 o s).length/t0.h)) w')\/
    (er=6/\¬X.cm/\∃z m',YL X x 2 z/\Wd X (DK++z++UL) m' w')) I ad λW6 MM WR=>?_).mono ?_
   ·have h6:=h.KN hj a6 WR MM;rw[SN a8]at h6;have ae:Wd X (DK++[I6 X.p x (Tc t0 (D8 o s)) X.sz,Cv f 220 (MY x o true tu)]++UL) m W6:=h6;have hi:(DK++[I6 X.p x (Tc t0 (D8 o s)) X.sz,Cv f 220 (MY x o true tu)]++UL)[DK.length+0]?=AE (I6 X.p x (Tc t0 (D8 o s)) X.sz):=mT (j:=0) a8;refine(RX ae hi (U9 DN a5) hn hf (by show (D8 o s).length<t0.bound;omega)).mono ?_;rintro e w' (⟨he,O⟩|⟨he,J,O⟩)
    ·rw[SN a8]at O;refine⟨0,he,.inl ⟨rfl,?_⟩⟩;rw[e1,iK];have e2:((D8 o s++[tu]).length/t0.h-(D8 o s).length/t0.h)=((Tc t0 (D8 o s)).l.length+1)/(Tc t0 (D8 o s)).h-(Tc t0 (D8 o s)).l.length/(Tc t0 (D8 o s)).h:=by
      rw[Aa];rfl
     rw[e2];exact O
    ·rw[SN a8]at O;exact⟨6,he,.inr ⟨rfl,J,_,_,⟨_,[Cv f 220 (MY x o true tu)],rfl,rfl,λq U=>by rw[Bp.1 U];exact⟨rfl,rfl⟩⟩,O⟩⟩
   ·rintro e w' ⟨er,he,⟨rfl,O⟩|⟨rfl,O⟩⟩
    ·exact .inl ⟨he,O⟩
    ·exact .inr ⟨he,O⟩
 hd:=λs hs=>⟨_,_,rfl,U9 DN (Ag (SC o s) hs),rfl,rfl,rfl,rfl,λq U=>by rw[Bp.1 U];exact⟨rfl,rfl⟩⟩
end
def o1:Cy:=⟨1,0,0,0,0⟩
def o2:Cy:=⟨2,0,0,0,0⟩
def OY:Cy:=⟨2,1,3,0,0⟩
def OZ:Cy:=⟨1,2,3,0,0⟩
def ym:Cy:=⟨1,3,0,0,0⟩
theorem Ug:Fm o1:=a6
theorem xN:Fm o2:=a6
theorem cT:Fm OY:=a6
theorem cU:Fm OZ:=a6
theorem oF:Fm ym:=a6
theorem AF5:gB 3 o1:=a6
theorem tJ:gB 3 OY:=a6
theorem tK:gB 3 OZ:=a6
theorem y7:gB 3 ym:=a6
theorem lz:Ef o1=1:=a6
theorem Vc:Ef OY=3:=a6
theorem Vd:Ef OZ=3:=a6
theorem Zb:Ef ym=2:=a6
theorem oV(t:Cy):FM o1 t=⟨t.a,0,0,0,0⟩:=by unfold FM;rw[if_pos Ug];rfl
theorem oT(t:Cy):FM OY t=Qi t:=by unfold FM;rw[if_pos cT];rfl
theorem oU(t:Cy):FM OZ t=⟨t.a,t.b,t.c,0,0⟩:=by unfold FM;rw[if_pos cU];rfl
theorem uW(t:Cy):FM ym t=uT t:=by unfold FM;rw[if_pos oF];rfl
theorem oY(a b:Cy):DV o1 a b=if a.a=b.a then 0 else if a.a<b.a then -1 else 1:=by
 unfold DV;rw[if_pos Ug];show cmpL [1,0,0,0,0] a b= _;rcases Co a.a b.a with h|h|h
 ·rw[IU a5 _ (show DS a (Fe 1)<DS b (Fe 1)from h),if_pos a5,if_neg a5,if_pos h]
 ·rw[KI a5 _ (show DS a (Fe 1)=DS b (Fe 1)from h),Hz,if_pos h]
 ·rw[IV a5 _ (show DS b (Fe 1)<DS a (Fe 1)from h),if_pos a5,if_neg a5,if_neg a5]
theorem AA6(a b:Cy):DV o2 a b=if a.b=b.b then 0 else if a.b<b.b then -1 else 1:=by
 unfold DV;rw[if_pos xN];show cmpL [2,0,0,0,0] a b= _;rcases Co a.b b.b with h|h|h
 ·rw[IU a5 _ (show DS a (Fe 2)<DS b (Fe 2)from h),if_pos a5,if_neg a5,if_pos h]
 ·rw[KI a5 _ (show DS a (Fe 2)=DS b (Fe 2)from h),Hz,if_pos h]
 ·rw[IV a5 _ (show DS b (Fe 2)<DS a (Fe 2)from h),if_pos a5,if_neg a5,if_neg a5]
theorem ag{s}(h:ND o1 s):s.Pairwise λu v=>u.a<=v.a:=by
 have h:s.Pairwise λa b=>DV o1 a b<=0:=h;refine h.imp λ{u v} e=>?_;rw[oY]at e
 split at e
 ·omega
 ·split at e<;>omega
theorem AB0{s}(h:ND o2 s):s.Pairwise λu v=>u.b<=v.b:=by
 have h:s.Pairwise λa b=>DV o2 a b<=0:=h;refine h.imp λ{u v} e=>?_;rw[AA6]at e
 split at e
 ·omega
 ·split at e<;>omega
theorem bH{a b}:DV o1 a b=0↔a.a=b.a:=by
 rw[oY];constructor
 ·intro h
  split at h
  ·assumption
  ·split at h<;>omega
 ·intro h;rw[if_pos h]
theorem bU{o}:∀(E:List Cy),(∀t,(E.filter (K6 o t)).length<=1)->E.Pairwise λa b=>DV o a b≠0
 |[],_=>List.Pairwise.nil
 |a::E,h=>by
  refine List.Pairwise.cons (λb hb e=>?_) (bU E λt=>?_)
  ·have I:=h a;rw[List.filter_cons_of_pos (Mb o a),BW]at I;have:0<(E.filter (K6 o a)).length:=List.length_pos_of_mem (CL.2 ⟨hb,by simp[K6,e]⟩);omega
  ·have I:=h t;rw[List.filter_cons]at I
   split at I
   ·rw[BW]at I;omega
   ·exact I
theorem AA5{l s}(h1:ND o1 s)(Q:Cl o1 (l.map (FM o1)) s):Els l (Dt true o1 s):=by
 have hk:Dt true o1 s=D8 o1 s:=rfl;rw[hk];obtain⟨k1,O,_,_⟩:=XO (o:=o1) s.length s rfl h1;refine⟨?_,λu hu=>?_,λt J=>?_⟩
 ·have q1:=ag k1;have q2:=bU (o:=o1) (D8 o1 s) λt=>by rw[O,AZ];omega
  refine(q1.and q2).imp λ{u v} ⟨h3,h4⟩=>?_;have:u.a≠v.a:=λe=>h4 (bH.2 e);omega
 ·have:=(Cl.symm Q).mem (Mt hu);obtain⟨t,J,rfl⟩:=Av.1 this;exact⟨t,J,by rw[oV]⟩
 ·have hm:=Q.mem (Av.2 ⟨t,J,rfl⟩);have q:=O (FM o1 t);have:0<(s.filter (K6 o1 (FM o1 t))).length:=List.length_pos_of_mem (CL.2 ⟨hm,Mb _ _⟩);have h3:0<((D8 o1 s).filter (K6 o1 (FM o1 t))).length:=by rw[q,AZ];omega
  obtain⟨u,hu⟩:=List.exists_mem_of_length_pos h3;obtain⟨U,RD⟩:=CL.1 hu;have I:DV o1 (FM o1 t) u=0:=by simpa [K6]using RD
  refine⟨u,U,?_⟩;have:=bH.1 I;rw[oV]at this;exact this.symm
theorem Rl{p}{l:List Cy}{i t}(h:l[i]?=AE t):(l.take (i+1)).countP p=(if p t=true then (l.take i).countP p+1 else (l.take i).countP p):=by
 have e:l.take (i+1)=l.take i++[t]:=by rw[Bj,h];rfl
 rw[e,List.countP_append];by_cases hp:p t=true
 ·rw[if_pos hp];simp[hp]
 ·rw[if_neg hp];simp[hp]
theorem NT{p}{l:List Cy}{i n}(h:l.length<=n):(l.take i).countP p<=n:=Ag List.countP_le_length (by rw[AZ];omega)
section
variable{X:Cx}{g:Nat}{pre:List DD}
theorem uh{E L}(Q:E.length<=100000):u7 X pre 87 #[AI g] E L 0 (La L) (λi=>[Cv g 125 (E1 ((E.take i).countP (NN L)))]) where
 ent:=λargs w=>by kernel_rfl
 bare:=λi q J=>by simp at J;subst J;exact⟨rfl,rfl⟩
 how:=λi zz m W t v b O I h=>by
  have I:LK L t.a=(if b=true then AE v else AD):=I;refine(uk (b:=b) (v:=v) h (Ag (NT Q) a5)).mono ?_;rintro e w' ⟨he,hw⟩;refine⟨?_,?_⟩
  ·rw[he];unfold La;rw[I]
   cases b<;>rfl
  ·rw[Rl O];have U:NN L t=b:=by unfold NN;rw[I];cases b<;>rfl
   rw[U];exact hw
theorem sg{A S}(Q:A.length<=100000):u7 X pre 89 #[AI g] A S 1 (lenT S) (λi=>[Cv g 125 (E1 ((A.take i).countP (gO S)))]) where
 ent:=λargs w=>by kernel_rfl
 bare:=λi q J=>by simp at J;subst J;exact⟨rfl,rfl⟩
 how:=λi zz m W t v b O I h=>by
  have I:LK S t.b=(if b=true then AE v else AD):=I;refine(si (b:=b) (v:=v) h (Ag (NT Q) a5)).mono ?_;rintro e w' ⟨he,hw⟩;refine⟨?_,?_⟩
  ·rw[he];unfold lenT;rw[I]
   cases b<;>rfl
  ·rw[Rl O];have U:gO S t=(b&&decide (v.b≠-1)):=by unfold gO;rw[I];cases b<;>simp
   rw[U];exact hw
end
section
variable{X:Cx}{os:List DD}{m x:Nat}{W:World}
theorem aO(h:Wd X os m W):
  Calls AP 110 #[AI (AE ⟨x,0,AD⟩)] W λe w'=>∃gr ga gk,e=AH (.func (.func 131) #[] #[AI (AE ⟨gk,0,AD⟩),AI (AE ⟨ga,0,AD⟩),AI (AE ⟨gr,0,AD⟩)])/\
   Wd X (os++[Cv gr 81 [AI x],Cv ga 47 (DH Tv),Cv gk 4 [true]]) m w'/\Below W W w':=by
 have I:∀(w:World) (o:Obj),(w.alloc o).heap.size=w+1:=λw o=>by simp
 have O:=h.new ((AS W W).alloc ar (AK #[AI x] 81)) (heap_alloc_new _ _:Row _ _ 81 [AI x]) ar;have J:=O.new ((AS _ _).alloc ar (AK #[AA AB (-9223372036854775808),(),(),(),()] 47)) (heap_alloc_new _ _:Row _ _ 47 (DH Tv)) ar;have h3:=J.new ((AS _ _).alloc ar (AK #[true] 4)) (heap_alloc_new _ _:Row _ _ 4 [true]) ar;simp only[I,AR,CQ,BL]at h3;have hb:Below W W (((W.alloc (AK #[AI x] 81)).alloc (AK #[AA AB (-9223372036854775808),(),(),(),()] 47)).alloc (AK #[true] 4)):=
  (((AS W.heap.size W).alloc ar _).alloc (by simp only[I];omega) _).alloc (by simp only[I];omega) _
 have U:=AO h3;have Q:=AO hb;clear h O J h3 hb I;go_enter func110,ntmps110
 go_wp2
 go_ret
 exact⟨_,_,_,rfl,U.out,Q.out⟩
end
structure MWk (s0 pw fa na ka ca key fb nb kb cb fH k3:Nat) (Ea:Array Value) (W5:World) (Dh:Ending->World->Prop) (A0:World->Prop) (A1:Nat->World->Prop) (B1:Nat->List Value->World->Prop) (A2:Nat->Nat->World->Prop) (A3:Nat->Nat->Nat->World->Prop)
  (A4:Nat->Nat->Nat->Nat->Nat->Nat->World->Prop) (A5:Nat->Nat->Nat->Nat->Nat->Nat->Nat->World->Prop) (C:Nat->Nat->Nat->World->Prop) (D:Nat->Nat->Nat->List Value->World->Prop) (E:Nat->Nat->Nat->Nat->Nat->List Value->World->Prop):Prop where
 h0:A0 W5
 r0:∀w,A0 w->Row w (s0+2) 28 [fb,nb,kb,cb]
 read:∀w,A0 w->Calls AP 46 #[AI (AE ⟨pw,0,AD⟩),AL #[AA AB fb,AA AB nb,AA AB kb,AA AB cb]] w λe w'=>∃x,e=AH (AM #[AI (AE ⟨x,0,AD⟩),AA AB 0])/\A1 x w'
 r1:∀x w,A1 x w->Row w s0 28 [fa,na,ka,ca]
 write:∀x w,A1 x w->Calls AP 28 #[AI (AE ⟨pw,0,AD⟩),AA AB 3,AA AB ca] w λe w'=>(e=AH (AM #[AI AD,AA AB 5])/\B1 x Z4 w')\/(∃y,e=AH (AM #[AI (AE ⟨y,0,AD⟩),AA AB 0])/\A2 x y w')
 bB1:∀x cs w w',B1 x cs w->Below w w w'->B1 x cs w'
 rB1:∀x cs w,B1 x cs w->Row w (s0+4) 28 cs
 sB1:∀x w,B1 x Z4 w->B1 x Z4 ((((w.setCell (s0+4,0) ()).setCell (s0+4,1) ()).setCell (s0+4,2) ()).setCell (s0+4,3) ())
 fB1:∀x u w,B1 x Z4 w->CallsD AP 47 #[AI x] u w λe u' w'=>u'=u/\(e=AH (AM #[])/\Row w' (s0+4) 28 Z4/\Dh (AH (AM #[AL #[(),(),(),()],AA AB 5])) w')
 x2:∀x y w,A2 x y w->A3 x y w (w.alloc (AK #[AI y] 65))
 r3:∀x y gy w,A3 x y gy w->Row w gy 65 [AI y]
 finder:∀x y gy w,A3 x y gy w->Calls AP 110 #[AI (AE ⟨x,0,AD⟩)] w λe w'=>∃gr ga gk,e=AH (.func (.func 131) #[] #[AI (AE ⟨gk,0,AD⟩),AI (AE ⟨ga,0,AD⟩),AI (AE ⟨gr,0,AD⟩)])/\A4 x y gy gr ga gk w'
 x4:∀x y gy gr ga gk w,A4 x y gy gr ga gk w->A5 x y gy gr ga gk w (w.alloc (AK #[.func (.func 131) #[] #[AI gk,AI ga,AI gr]] 170))
 r5:∀x y gy gr ga gk gz w,A5 x y gy gr ga gk gz w->Row w s0 28 [fa,na,ka,ca]
 each:∀x y gy gr ga gk gz w,A5 x y gy gr ga gk gz w->Calls AP 61 #[AI pw,AL #[fa,na,ka,ca],.func (.func 111) #[] #[AI gz,AI (s0+1,0),AI gy,AI (s0+3,0)]] w λe w'=>(e=AH ()/\C x y gy w')\/(∃er:Nat,e=AH er/\0<er/\D x y er Z4 w')
 rC:∀x y gy w,C x y gy w->Row w gy 65 [AI y]
 close:∀x y gy w,C x y gy w->Calls AP 31 #[AI y] w λe w'=>(∃F N Q:Nat,e=AH (AM #[AL #[F,N,k3,Q],()])/\E x y F N Q Z4 w')\/(e=AH (AM #[AL #[(),(),(),()],AA AB 6])/\D x y 6 Z4 w')
 rD:∀x y er cs w,D x y er cs w->Row w (s0+4) 28 cs
 sD:∀x y er w,D x y er Z4 w->D x y er Z4 ((((w.setCell (s0+4,0) ()).setCell (s0+4,1) ()).setCell (s0+4,2) ()).setCell (s0+4,3) ())
 fD:∀x y er u w,D x y er Z4 w->CallsD AP 29 #[AI y] u w λe u' w'=>u'=u/\(e=AH (AM #[])/\∀u2,CallsD AP 47 #[AI x] u2 w' λe u' Eo=>u'=u2/\(e=AH (AM #[])/\Row Eo (s0+4) 28 Z4/\Dh (AH (AM #[AL #[(),(),(),()],er])) Eo))
 rE:∀x y F N Q cs w,E x y F N Q cs w->Row w (s0+4) 28 cs
 sE:∀(x y F N Q:Nat) w,E x y F N Q Z4 w->E x y F N Q [F,N,k3,Q] ((((w.setCell (s0+4,0) F).setCell (s0+4,1) N).setCell (s0+4,2) k3).setCell (s0+4,3) Q)
 fE:∀(x y F N Q:Nat) u w,E x y F N Q [F,N,k3,Q] w->CallsD AP 29 #[AI y] u w λe u' w'=>u'=u/\(e=AH (AM #[])/\∀u2,CallsD AP 47 #[AI x] u2 w' λe u' Eo=>u'=u2/\(e=AH (AM #[])/\Row Eo (s0+4) 28 [F,N,k3,Q]/\Dh (AH (AM #[AL #[F,N,k3,Q],()])) Eo))
theorem Zh{W:World}{s0 pw fa na ka ca key fb nb kb cb fH k3:Nat}{Ea W5 Dh A0 A1 B1 A2 A3}
  {A4}{A5}{C}{D}{E}
  (hs0:s0=W)(ad:W5=((((W.alloc (AK #[fa,na,ka,ca] 28)).alloc (AK #[key] 3)).alloc (AK #[fb,nb,kb,cb] 28)).alloc (AK #[.func (.func fH) #[] Ea] 148)).alloc (AK #[(),(),(),()] 28))
  (hW:MWk s0 pw fa na ka ca key fb nb kb cb fH k3 Ea W5 Dh A0 A1 B1 A2 A3 A4 A5 C D E):
  Calls AP 86 #[AI pw,AL #[fa,na,ka,ca],key,AL #[fb,nb,kb,cb],.func (.func fH) #[] Ea] W Dh:=by
 have I:=AO hW;have Tl:=AO hs0;have ae:=AO ad;have O:=AO hW.h0;have p5:=hW.r0 _ hW.h0;have Lx:=AO (hW.read _ hW.h0);obtain⟨b0,b1,b2,b3⟩:=p5.q4;clear hW hs0 ad p5;go_enter_defers func86,ntmps86
 go_upto_region 1 with(fail)
 rw[<-ae.out,<-Tl.out];clear ae O;go_wp2_with fail
 refine Lx.out.mono ?_;rintro e w2 ⟨x,rfl,h2⟩;have p5:=I.out.r1 x _ h2;obtain⟨a0,a1,a2,a3⟩:=p5.q4;have T3:=AO (I.out.write x _ h2);clear b0 b1 b2 b3 Lx p5 h2;go_wp2_with fail
 refine T3.out.mono ?_;rintro e w3 (⟨rfl,h3⟩|⟨y,rfl,h3⟩)
 ·have O:=AO (I.out.bB1 x _ _ _ h3 ((AS w3 w3).alloc ar (AK #[AI AD] 65)));clear h3 a0 a1 a2 a3 T3;go_upto_region 6 with(fail)
  generalize w3.alloc (AK #[AI AD] 65)=w4 at*
  generalize w3.heap.size=gy at*
  have H9:=AO (I.out.sB1 x _ O.out);have U:=I.out.rB1 x _ _ O.out;obtain⟨z0,z1,z2,z3⟩:=U.q4;obtain⟨f0,f1,f2,f3⟩:=U.r4;clear U;go_wp2
  refine A6 (f:=47) (args:=#[AI x]) a8 (by simp[go_sem]) ?_;refine(I.out.fB1 x _ _ H9.out).mono ?_;rintro e u' w9 ⟨rfl,rfl,J,EA⟩;have k0:=J.cell 0;have k1:=J.cell 1;have k2:=J.cell 2;have Lk:=J.cell 3;simp only[Z4,AX,AV]at k0 k1 k2 Lk;exact⟨AM #[AL #[(),(),(),()],AA AB 5],by simp[results,Tryz.results86,go_sem,k0,k1,k2,Lk],EA⟩
 have O:=AO (I.out.x2 x y _ h3);clear h3 a0 a1 a2 a3 T3;go_upto_region 6 with(fail)
 generalize w3.alloc (AK #[AI y] 65)=w4 at*
 generalize w3.heap.size=gy at*
 have p3:=I.out.r3 x y gy _ O.out;have c0:w4.cell? gy=AE (AI y):=p3.cell 0;have T6:=AO (I.out.finder x y gy _ O.out);clear O p3;go_wp2_with fail
 refine T6.out.mono ?_;rintro e w5 ⟨gr,ga,gk,rfl,h5⟩;have O:=AO (I.out.x4 x y gy gr ga gk _ h5);clear h5 c0 T6;go_upto_region 10 with(fail)
 generalize w5.alloc (AK #[.func (.func 131) #[] #[AI gk,AI ga,AI gr]] 170)=w6 at*
 generalize w5.heap.size=gz at*
 have p3:=I.out.r5 x y gy gr ga gk gz _ O.out;obtain⟨a0,a1,a2,a3⟩:=p3.q4;have ab:=AO (I.out.each x y gy gr ga gk gz _ O.out);clear O p3;go_wp2_with fail
 refine ab.out.mono ?_;rintro e w7 (⟨rfl,h7⟩|⟨er,rfl,Di,h7⟩)
 ·have p3:=I.out.rC x y gy _ h7;have c0:w7.cell? gy=AE (AI y):=p3.cell 0;have GR:=AO (I.out.close x y gy _ h7);clear h7 p3 ab a0 a1 a2 a3;go_wp2_with fail
  refine GR.out.mono ?_;rintro e w8 (⟨F,N,Q,rfl,h8⟩|⟨rfl,h8⟩)
  ·have H9:=AO (I.out.sE x y F N Q _ h8);have U:=I.out.rE x y F N Q _ _ h8;obtain⟨z0,z1,z2,z3⟩:=U.q4;obtain⟨f0,f1,f2,f3⟩:=U.r4;clear h8 U c0 GR;go_wp2
   refine A6 (f:=29) (args:=#[AI y]) a8 (by simp[go_sem]) ?_;refine(I.out.fE x y F N Q _ _ H9.out).mono ?_;rintro e u' Eo ⟨rfl,rfl,Fl⟩;refine A6 (f:=47) (args:=#[AI x]) (by simp[settle]) (by simp[go_sem]) ?_;refine(Fl _).mono ?_;rintro e u' w9 ⟨rfl,rfl,J,EA⟩;have k0:=J.cell 0;have k1:=J.cell 1;have k2:=J.cell 2;have Lk:=J.cell 3;simp only[AX,AV]at k0 k1 k2 Lk;exact⟨AM #[AL #[F,N,k3,Q],()],by simp[results,Tryz.results86,go_sem,k0,k1,k2,Lk],EA⟩
  ·have O:=AO h8;clear h8 c0 GR;have H9:=AO (I.out.sD x y 6 _ O.out);have U:=I.out.rD x y 6 _ _ O.out;obtain⟨z0,z1,z2,z3⟩:=U.q4;obtain⟨f0,f1,f2,f3⟩:=U.r4;clear U;go_wp2
   refine A6 (f:=29) (args:=#[AI y]) a8 (by simp[go_sem]) ?_;refine(I.out.fD x y 6 _ _ H9.out).mono ?_;rintro e u' Eo ⟨rfl,rfl,Fl⟩;refine A6 (f:=47) (args:=#[AI x]) (by simp[settle]) (by simp[go_sem]) ?_;refine(Fl _).mono ?_;rintro e u' w9 ⟨rfl,rfl,J,EA⟩;have k0:=J.cell 0;have k1:=J.cell 1;have k2:=J.cell 2;have Lk:=J.cell 3;simp only[Z4,AX,AV]at k0 k1 k2 Lk;exact⟨AM #[AL #[(),(),(),()],AA AB 6],by simp[results,Tryz.results86,go_sem,k0,k1,k2,Lk],EA⟩
 ·have O:=AO h7;have al:¬(er:Int)=0:=a5;clear h7 ab a0 a1 a2 a3 Di;have H9:=AO (I.out.sD x y er _ O.out);have U:=I.out.rD x y er _ _ O.out;obtain⟨z0,z1,z2,z3⟩:=U.q4;obtain⟨f0,f1,f2,f3⟩:=U.r4;clear U;go_wp2
  refine A6 (f:=29) (args:=#[AI y]) a8 (by simp[go_sem]) ?_;refine(I.out.fD x y er _ _ H9.out).mono ?_;rintro e u' Eo ⟨rfl,rfl,Fl⟩;refine A6 (f:=47) (args:=#[AI x]) (by simp[settle]) (by simp[go_sem]) ?_;refine(Fl _).mono ?_;rintro e u' w9 ⟨rfl,rfl,J,EA⟩;have k0:=J.cell 0;have k1:=J.cell 1;have k2:=J.cell 2;have Lk:=J.cell 3;simp only[Z4,AX,AV]at k0 k1 k2 Lk;exact⟨AM #[AL #[(),(),(),()],er],by simp[results,Tryz.results86,go_sem,k0,k1,k2,Lk],EA⟩
section
variable{X:Cx}{os os':List DD}{m:Nat}{W:World}{G:Nat->Prop}{D:St}{A:Ar}{S:Sp}
theorem vq{α:Type}{R}{l:List α}(h:∀(i j:Nat) (a b:α),l[i]?=AE a->l[j]?=AE b->i≠j->R a b):l.Pairwise R:=by
 refine Bh.2 λi j hi e I=>h i j _ _ (AU hi) (AU e) a5
theorem vp{α:Type}{R}(U:∀a b,R a b->R b a){l:List α}(h:l.Pairwise R)(i j:Nat)(a b:α)(ha:l[i]?=AE a)(hb:l[j]?=AE b)(Ii:i≠j):R a b:=by
 have J:=Bh.1 h;obtain⟨hi,Q⟩:=BI.1 ha;obtain⟨I,O⟩:=BI.1 hb;rcases Nat.lt_or_gt_of_ne Ii with e|e
 ·have h3:=J i j hi I e;rwa [Q,O]at h3
 ·have h3:=J j i I hi e;rw[Q,O]at h3;exact U _ _ h3
theorem UE{α f}{l l':List α}(h:l.Perm l'):DF f l=DF f l':=(h.map f).sum_nat
theorem KZ.perm(h:KZ X os m W G D A S)(hp:os'.Perm os):KZ X os' m W G D A S:=by
 have J:∀(i:Nat) (a:DD),os'[i]?=AE a->∃j:Nat,os[j]?=AE a:=λi a hi=>by
  obtain⟨j,I,e⟩:=BP (hp.mem_iff.1 (Ae hi));exact⟨j,by rw[AU I,e]⟩
 have gL:∀(i:Nat) (a:DD),os[i]?=AE a->∃j:Nat,os'[j]?=AE a:=λi a hi=>by
  obtain⟨j,I,e⟩:=BP (hp.mem_iff.2 (Ae hi));exact⟨j,by rw[AU I,e]⟩
 have Gp:∀a b:DD,(∀k,a.K k->¬b.K k)->∀k,b.K k->¬a.K k:=λa b U k hb O=>U k O hb;have G9:∀a b:DD,(∀z,I7 a.ex z->¬I7 b.ex z)->∀z,I7 b.ex z->¬I7 a.ex z:=λa b U k hb O=>U k O hb
 exact {h with
  used:=by rw[UE hp];exact h.used
  ok:=λi a hi=>by obtain⟨j,I⟩:=J i a hi;exact h.ok j a I
  st:=λi a b n hi hg=>by obtain⟨j,I⟩:=J i a hi;exact h.st j a b n I hg
  mem:=λi a hi=>by obtain⟨j,I⟩:=J i a hi;exact h.mem j a I
  Um:=λi a hi=>by obtain⟨j,I⟩:=J i a hi;exact h.Um j a I
  apart:=vp Gp ((hp.pairwise_iff (λ{a b}=>Gp a b)).2 (vq h.apart))
  exa:=vp G9 ((hp.pairwise_iff (λ{a b}=>G9 a b)).2 (vq h.exa))
  exs:=λi a hi=>by obtain⟨j,I⟩:=J i a hi;exact h.exs j a I
  free:=λz=>by
   rw[h.free z];refine⟨λ⟨Q,h2⟩=>⟨Q,λi a hi=>?_⟩,λ⟨Q,h2⟩=>⟨Q,λi a hi=>?_⟩⟩
   ·obtain⟨j,I⟩:=J i a hi;exact h2 j a I
   ·obtain⟨j,I⟩:=gL i a hi;exact h2 j a I
  sum:=by rw[UE hp];exact h.sum}
theorem Wd.perm(h:Wd X os m W)(hp:os'.Perm os):Wd X os' m W:=by
 obtain⟨G,D,A,S,h⟩:=h;exact⟨G,D,A,S,h.perm hp⟩
theorem Wd.front{a z x}(h:Wd X (a++z++[x]) m W):Wd X (a++[x]++z) m W:=by
 refine h.perm ?_;rw[AR,AR];exact Ce a (List.perm_append_comm)
end
def Mj(X:Cx)(pre post:List DD)(H:Nat->List DD)(Out:List Cy)(m na nb ca:Nat)(e:Ending)(w':World):Prop:=
 (∃F N:Nat,e=AH (AM #[AL #[AA AB F,AA AB N,AA AB (3:Nat),AA AB (Out.length:Nat)],AA AB 0])/\Gh F N 3 (Cw X.sz (3:Nat)) Out X.sz/\Wd X (pre++H ca++post++[De F N 3 (Cw X.sz (3:Nat)) Out X.sz]) (m+na+nb+ca+2) w')\/
 (∃er i:Nat,e=AH (AM #[AL #[(),(),(),()],er])/\0<er/\(er=6/\¬X.cm\/er=5/\∀q,¬Rm X (pre++H 0++post) q (Cu (Cw X.sz (3:Nat)) ca))/\Wd X (pre++H i++post) (m+na+nb+ca+2) w')
theorem yg(a b c d e f g h i j k l:DD):[a,c,e,f,i,j,k,g,l,b,h,d].Perm [a,b,c,d,e,f,g,h,i,j,k,l]:=by
 classical
 rw[List.perm_iff_count];intro x;simp only[List.count_cons,List.count_nil];omega
section
variable{X:Cx}{m:Nat}{W:World}
theorem We{pre post H fH fa na ka ha ca fb nb kb hb cb key Ea la lb res}
  (hH:u7 X pre fH Ea la lb key res H)(h:Wd X (pre++H 0++post) m W)(gW:Gh fa na ka ha la X.sz)(wU:De fa na ka ha la X.sz∈pre++post)(Z9:la.length=ca)(LL:Gh fb nb kb hb lb X.sz)(SX:De fb nb kb hb lb X.sz∈pre++post)(M5:lb.length=cb)
  (a2:key<5)(qF:lb.Pairwise λu v=>u.a<=v.a)(UU:la.Pairwise λu v=>DS u key<=DS v key)(SY:∀t∈la,-9223372036854775808<DS t key)(an:∀t∈la,D7 (res t)/\Db 3 (res t)=true)
  (al:3*X.sz+DF DD.gw (pre++H 0++post)<=X.rm)(hn:X.N+m+na+nb+ca+2<=1000000):
  Calls AP 86 #[AI X.p.w,AL #[fa,na,ka,ca],key,AL #[fb,nb,kb,cb],.func (.func fH) #[] Ea] W (Mj X pre post H (la.map res) m na nb ca):=by
 obtain⟨s0,hs0⟩:=ae W.heap.size;obtain⟨W5,aA⟩:=ae (((((W.alloc (AK #[fa,na,ka,ca] 28)).alloc (AK #[key] 3)).alloc (AK #[fb,nb,kb,cb] 28)).alloc (AK #[.func (.func fH) #[] Ea] 148)).alloc (AK #[(),(),(),()] 28));obtain⟨Bx,xI⟩:∃Bx:List Value->List DD,∀cs,Bx cs=[Cv s0 28 [fa,na,ka,ca],Cv (s0+1) 3 [key],Cv (s0+2) 28 [fb,nb,kb,cb],Cv (s0+3) 148 [.func (.func fH) #[] Ea],Cv (s0+4) 28 cs]:=⟨_,λ_=>rfl⟩;have Yj:∀cs,Dr (Bx cs):=λcs q hq=>by rw[xI]at hq;simp at hq;rcases hq with rfl|rfl|rfl|rfl|rfl<;>exact⟨rfl,rfl⟩
 obtain⟨O,hO⟩:=ae (pre++H 0++post);rw[<-hO]at h al;have aE:∀(w:World) (o:Obj),(w.alloc o).heap.size=w+1:=λw o=>by simp
 have h5:Wd X (O++Bx Z4) m W5:=by
  have U:=h.new ((AS W W).alloc ar (AK #[fa,na,ka,ca] 28)) (heap_alloc_new _ _:Row _ _ 28 [fa,na,ka,ca]) ar;have h2:=U.new ((AS _ _).alloc ar (AK #[key] 3)) (heap_alloc_new _ _:Row _ _ 3 [key]) ar;have h3:=h2.new ((AS _ _).alloc ar (AK #[fb,nb,kb,cb] 28)) (heap_alloc_new _ _:Row _ _ 28 [fb,nb,kb,cb]) ar;have h4:=h3.new ((AS _ _).alloc ar (AK #[.func (.func fH) #[] Ea] 148)) (heap_alloc_new _ _:Row _ _ 148 [.func (.func fH) #[] Ea]) ar;have h5:=h4.new ((AS _ _).alloc ar (AK #[(),(),(),()] 28)) (heap_alloc_new _ _:Row _ _ 28 Z4) ar;rw[<-aA]at h5;simp only[aE,<-hs0,B8,Cd,AR,CQ,BL]at h5;rw[xI];exact h5
 have cO:∀cs,DF DD.gw (O++Bx cs)=DF DD.gw O:=λcs=>by rw[DP,D5 _ (Yj _)];rfl
 have a0:=gW.len;obtain⟨RT,aq⟩:∃RT:Rt->Prop,∀rt,RT rt↔JG rt X.sz/\rt.pos=0/\rt.k=kb/\rt.h=hb/\rt.first=fb/\rt.blocks=nb/\rt.count=cb:=⟨_,λ_=>BO⟩;obtain⟨WT,ad⟩:∃WT:Wt->Prop,∀t,WT t↔t.k=3/\t.h=Cw X.sz (3:Nat)/\t.bound=ca/\t.l=[]/\Ew t X.sz:=⟨_,λ_=>BO⟩;obtain⟨mt,MO⟩:∃mt:List Value->Rt->Wt->Nat->Nat->Nat->Nat->Nat->Nat->Nat->MT,∀cs rt wt x y I gr ga gk J,mt cs rt wt x y I gr ga gk J=⟨X,pre,post++[Cv s0 28 [fa,na,ka,ca],Cv (s0+2) 28 [fb,nb,kb,cb],Cv (s0+4) 28 cs],H,la,lb,key,res,fH,Ea,x,rt,gr,ga,gk,y,wt,J,s0+1,I,s0+3⟩:=⟨_,λ_ _ _ _ _ _ _ _ _ _=>rfl⟩;have DN:∀{rt wt},RT rt->WT wt->∀cs x y I gr ga gk J,(mt cs rt wt x y I gr ga gk J).Ok:=λ{rt wt} U h2 cs x y I gr ga gk J=>by
  obtain⟨r1,r2,r3,r4,r5,r6,r7⟩:=(aq _).1 U;obtain⟨t1,t2,t3,t4,t5⟩:=(ad _).1 h2;rw[MO];refine⟨hH,a2,⟨r1,by show lb.length=rt.count;rw[r7,M5],λu hu=>by show D7 u/\Db rt.k u=true;rw[r3];exact LL.fit u hu,by show rt.blocks=Cu rt.h lb.length;rw[r6,r4];exact LL.bn⟩,?_,qF,UU,SY,t5,t4,by show wt.bound=la.length;rw[t3,Z9],λt ht=>by show Db wt.k (res t)=true;rw[t1];exact(an t ht).2⟩;show Src (pre++(post++ _)) X.sz rt.first rt.k rt.h lb;rw[r3,r4,r5];refine VH (nb:=nb) ?_ LL.bn;rcases Ah.1 SX with hm|hm<;>simp[hm]
 have uG:∀cs rt wt x y I gr ga gk J i rd r ok wo,(mt cs rt wt x y I gr ga gk J).L i rd r ok wo []=pre++H i++post++([Cv s0 28 [fa,na,ka,ca],Cv (s0+2) 28 [fb,nb,kb,cb],Cv (s0+4) 28 cs]++FZ rd x gr ga gk r ok)++(wo::(mt cs rt wt x y I gr ga gk J).rows):=λcs rt wt x y I gr ga gk J i rd r ok wo=>by
  rw[MO];simp[MT.L]
 have au:∀cs rt wt x y I gr ga gk J,Dr (mt cs rt wt x y I gr ga gk J).rows:=λcs rt wt x y I gr ga gk J q hq=>by
  simp[MT.rows]at hq;rcases hq with rfl|rfl|rfl|rfl<;>exact⟨rfl,rfl⟩
 have aC:∀cs x gr ga gk r ok rt,Dr ([Cv s0 28 [fa,na,ka,ca],Cv (s0+2) 28 [fb,nb,kb,cb],Cv (s0+4) 28 cs]++FZ (Nn X.p x rt) x gr ga gk r ok):=λcs x gr ga gk r ok rt q hq=>by
  simp[FZ]at hq;rcases hq with rfl|rfl|rfl|rfl|rfl|rfl|rfl<;>exact⟨rfl,rfl⟩
 have nw:∀cs rt wt x y I gr ga gk J i rd r ok wo M w,Wd X ((mt cs rt wt x y I gr ga gk J).L i rd r ok wo []) M w->Row w (s0+4) 28 cs:=λcs rt wt x y I gr ga gk J i rd r ok wo M w q=>q.Ek (by rw[uG];simp);have aB:∀cs rt wt x y I gr ga gk J i rd r ok wo M w x1 x2 x3 x4,cs.length=4->Wd X ((mt cs rt wt x y I gr ga gk J).L i rd r ok wo []) M w->Wd X ((mt [x1,x2,x3,x4] rt wt x y I gr ga gk J).L i rd r ok wo []) M ((((w.setCell (s0+4,0) x1).setCell (s0+4,1) x2).setCell (s0+4,2) x3).setCell (s0+4,3) x4):=λcs rt wt x y I gr ga gk J i rd r ok wo M w x1 x2 x3 x4 aw q=>by
  have e1:∀cs,(mt cs rt wt x y I gr ga gk J).L i rd r ok wo []=(pre++H i++post++[Cv s0 28 [fa,na,ka,ca],Cv (s0+2) 28 [fb,nb,kb,cb]])++Cv (s0+4) 28 cs::(FZ rd x gr ga gk r ok++(wo::(mt Z4 rt wt x y I gr ga gk J).rows)):=λcs=>by
   rw[uG,MO,MO];simp[MT.rows];rfl
  rw[e1]at q⊢;have k4:=GD q (i:=(pre++H i++post++[Cv s0 28 [fa,na,ka,ca],Cv (s0+2) 28 [fb,nb,kb,cb]]).length) (R:=s0+4) (cs:=cs) (by rw[AW ar,As];rfl) aw x1 x2 x3 x4;rw[Ap _ _ ar,As]at k4;exact k4
 obtain⟨PD,hU⟩:∃PD:Nat->Nat->Nat->List Value->World->Prop,∀x y er cs w,PD x y er cs w↔er=6/\¬X.cm/\∃rt wt I gr ga gk J i rd r ok wo,RT rt/\WT wt/\aj X x rt lb rd/\(mt cs rt wt x y I gr ga gk J).WrE wo/\Wd X ((mt cs rt wt x y I gr ga gk J).L i rd r ok wo []) (m+na+nb+ca+2) w:=⟨_,λ_ _ _ _ _=>BO⟩;obtain⟨PC,ax⟩:∃PC:Nat->Nat->Nat->World->Prop,∀x y I w,PC x y I w↔∃rt wt gr ga gk J j r ok,RT rt/\WT wt/\j<=lb.length/\Wd X ((mt Z4 rt wt x y I gr ga gk J).L ca ((mt Z4 rt wt x y I gr ga gk J).rd j) r ok ((mt Z4 rt wt x y I gr ga gk J).wr ca) []) (m+na+(Cu hb j+ca/wt.h)) w:=⟨_,λ_ _ _ _=>BO⟩;obtain⟨PE,ao⟩:∃PE:Nat->Nat->Nat->Nat->Nat->List Value->World->Prop,∀x y F N Q cs w,PE x y F N Q cs w↔Q=la.length/\∃rt wt I gr ga gk J j r ok,RT rt/\WT wt/\F=Dc ((mt cs rt wt x y I gr ga gk J).Qh (la.map res))/\N=Cu (Cw X.sz (3:Nat)) la.length/\Wd X ((mt cs rt wt x y I gr ga gk J).L ca ((mt cs rt wt x y I gr ga gk J).rd j) r ok (U5 X.p y ((mt cs rt wt x y I gr ga gk J).Qh (la.map res)) X.sz) []) (m+na+nb+ca+2) w:=⟨_,λ_ _ _ _ _ _ _=>BO⟩;have a6:∀u∈la.map res,D7 u/\Db 3 u=true:=λu hu=>by
  obtain⟨t,ht,rfl⟩:=Av.1 hu;exact an t ht
 have Se:∀cs rt wt x y I gr ga gk J i rd r ok wo M w (u:Bf),aj X x rt lb rd->Wd X ((mt cs rt wt x y I gr ga gk J).L i rd r ok wo []) M w->CallsD AP 47 #[AI x] u w λe u' w'=>u'=u/\(e=AH (AM #[])/\∃sH,Wd X ((mt cs rt wt x y I gr ga gk J).L i (Nn X.p x sH) r ok wo []) M w'):=λcs rt wt x y I gr ga gk J i rd r ok wo M w u aR q=>by
  rw[MT.YN]at q;have e1:(mt cs rt wt x y I gr ga gk J).x=x:=by rw[MO]
  rw[e1]at q;refine(MD u q (Tb _ _ _).1 aR).mono ?_;rintro e u' w' ⟨U,h2,j,h3⟩;rw[WI]at h3;refine⟨U,h2,rat rt j,?_⟩;rw[MT.YN,e1];exact h3
 have a3:∀cs rt wt x y I gr ga gk J i rd r ok wo M w (u:Bf),RT rt->WT wt->(mt cs rt wt x y I gr ga gk J).WrE wo->Wd X ((mt cs rt wt x y I gr ga gk J).L i rd r ok wo []) M w->CallsD AP 29 #[AI y] u w λe u' w'=>u'=u/\(e=AH (AM #[])/\∃l,Wd X ((mt cs rt wt x y I gr ga gk J).L i rd r ok (Yt X.p y ((mt cs rt wt x y I gr ga gk J).Qh l)) []) M w'):=λcs rt wt x y I gr ga gk J i rd r ok wo M w u U h2 aD q=>by
  have hk:=DN U h2 cs x y I gr ga gk J;have e1:(mt cs rt wt x y I gr ga gk J).y=y/\(mt cs rt wt x y I gr ga gk J).X=X:=by rw[MO];exact⟨rfl,rfl⟩
  obtain⟨l,hl,h3⟩:=aD;rw[e1.1,e1.2]at h3;rcases h3 with rfl|rfl
  ·have ab:=MT.wok hk hl;rw[e1.2]at ab;refine(U8 q MT.jB ab u).mono ?_;rintro e u' w' ⟨k1,k2,k3⟩;rw[MT.U0]at k3;exact⟨k1,k2,l,k3⟩
  ·refine(FG (q.at_ MT.jB) u).mono ?_;rintro e u' w' ⟨k1,k2,rfl⟩;exact⟨k1,k2,l,q⟩
 refine Zh (k3:=3) hs0 aA
  (A0:=λw=>Wd X (O++Bx Z4) m w)
  (A1:=λx w=>∃rt,RT rt/\Wd X (O++Bx Z4++[E0 X.p x rt X.sz lb]) m w)
  (B1:=λx cs w=>(∀q,¬Rm X O q (Cu (Cw X.sz (3:Nat)) ca))/\∃rt,RT rt/\Wd X (O++Bx cs++[E0 X.p x rt X.sz lb]) m w)
  (A2:=λx y w=>∃rt wt,RT rt/\WT wt/\Wd X (O++Bx Z4++[E0 X.p x rt X.sz lb,I6 X.p y wt X.sz]) m w)
  (A3:=λx y I w=>∃rt wt,RT rt/\WT wt/\Wd X (O++Bx Z4++[E0 X.p x rt X.sz lb,I6 X.p y wt X.sz,Cv I 65 [AI y]]) m w)
  (A4:=λx y I gr ga gk w=>∃rt wt,RT rt/\WT wt/\Wd X (O++Bx Z4++[E0 X.p x rt X.sz lb,I6 X.p y wt X.sz,Cv I 65 [AI y],Cv gr 81 [AI x],Cv ga 47 (DH Tv),Cv gk 4 [true]]) m w)
  (A5:=λx y I gr ga gk J w=>∃rt wt,RT rt/\WT wt/\Wd X ((mt Z4 rt wt x y I gr ga gk J).Z (0,0,Tv,true)) m w)
  (C:=PC) (D:=PD) (E:=PE)
  ⟨h5,?_,?_,?_,?_,?_,?_,?_,?_,?_,?_,?_,?_,?_,?_,?_,?_,?_,?_,?_,?_,?_,?_⟩
 ·
  rintro w q;exact q.Ek (by rw[xI];simp)
 ·
  rintro w q;refine(Mo q fb nb kb hb cb lb LL.Pp LL.hh.1 (by rw[<-M5];exact LL.bn) (by rw[<-M5];exact LL.len) LL.fst (by rw[cO];omega)).mono ?_;rintro e w' ⟨x,b,g,he,GU,hw⟩;exact⟨x,he,_,(aq _).2 ⟨GU,rfl,rfl,rfl,rfl,rfl,rfl⟩,hw⟩
 ·
  rintro x w ⟨rt,U,q⟩;exact q.Ek (by rw[xI];simp)
 ·
  rintro x w ⟨rt,U,q⟩;have Xp:=(cF (k:=3) a5 (Wd.bounds h).1).1;refine(OJ q 3 ca Xp a5 (by rw[D9,cO];show X.sz+(DF DD.gw O+X.sz)<=X.rm;omega)).mono ?_;rintro e w' (⟨he,aS,hw⟩|⟨y,t,he,t1,t2,t3,t4,t5,hw⟩)
  ·refine .inl ⟨he,λz hz=>aS z ?_,rt,U,hw⟩;exact VN (GL hz (Yj _)) λa ha=>by simp at ha;subst ha;rfl
  ·exact .inr ⟨y,he,rt,t,U,(ad _).2 ⟨t1,t2,t3,t4,t5⟩,by simpa [AR]using hw⟩
 ·
  rintro x cs w w' ⟨U,rt,h2,q⟩ hb;exact⟨U,rt,h2,q.below hb⟩
 ·
  rintro x cs w ⟨U,rt,h2,q⟩;exact q.Ek (by rw[xI];simp)
 ·
  rintro x w ⟨U,rt,h2,q⟩;have e1:∀cs,O++Bx cs++[E0 X.p x rt X.sz lb]=(O++[Cv s0 28 [fa,na,ka,ca],Cv (s0+1) 3 [key],Cv (s0+2) 28 [fb,nb,kb,cb],Cv (s0+3) 148 [.func (.func fH) #[] Ea]])++Cv (s0+4) 28 cs::[E0 X.p x rt X.sz lb]:=λcs=>by rw[xI];simp
  rw[e1]at q;have k4:=GD q (i:=(O++[Cv s0 28 [fa,na,ka,ca],Cv (s0+1) 3 [key],Cv (s0+2) 28 [fb,nb,kb,cb],Cv (s0+3) 148 [.func (.func fH) #[] Ea]]).length) (R:=s0+4) (cs:=Z4) (by rw[AW ar,As];rfl) rfl () () () ();rw[Ap _ _ ar,As]at k4;refine⟨U,rt,h2,?_⟩;rw[e1];exact k4
 ·
  rintro x u w ⟨U,rt,h2,q⟩;refine(Il u q (GI _ _)).mono ?_;rintro e u' w' ⟨k1,k2,k3⟩;rw[Gn]at k3;refine⟨k1,k2,k3.Ek (by rw[xI];simp),.inr ⟨5,0,rfl,a5,.inr ⟨rfl,by rw[<-hO];exact U⟩,?_⟩⟩;have k4:=JQ ⟨rfl,rfl⟩ k3;have k5:=Wd.GB (b:=[]) (Bx Z4) (Yj _) (by rw[AY];exact k4);rw[AY]at k5;rw[<-hO];exact k5.mono a5 a5
 ·
  rintro x y w ⟨rt,wt,U,h2,q⟩;have:=q.new ((AS w w).alloc ar (AK #[AI y] 65)) (heap_alloc_new _ _:Row _ _ 65 [AI y]) ar;exact⟨rt,wt,U,h2,by simpa [AR]using this⟩
 ·
  rintro x y I w ⟨rt,wt,U,h2,q⟩;exact q.Ek a8
 ·
  rintro x y I w ⟨rt,wt,U,h2,q⟩;refine(aO q).mono ?_;rintro e w' ⟨gr,ga,gk,he,hw,_⟩;exact⟨gr,ga,gk,he,rt,wt,U,h2,by simpa [AR]using hw⟩
 ·
  rintro x y I gr ga gk w ⟨rt,wt,U,h2,q⟩;have k1:=q.new ((AS w w).alloc ar (AK #[.func (.func 131) #[] #[AI gk,AI ga,AI gr]] 170)) (heap_alloc_new _ _:Row _ _ 170 [.func (.func 131) #[] #[AI gk,AI ga,AI gr]]) ar;generalize w.heap.size=J at*
  refine⟨rt,wt,U,h2,k1.perm ?_⟩;obtain⟨r1,r2,r3,r4,r5,r6,r7⟩:=(aq _).1 U;obtain⟨t1,t2,t3,t4,t5⟩:=(ad _).1 h2;have e1:rat rt 0=rt:=by unfold rat;rw[<-r2]
  have e2:(mt Z4 rt wt x y I gr ga gk J).wr 0=I6 X.p y wt X.sz:=by
   have:({wt with l:=[]}:Wt)=wt:=by rw[<-t4]
   rw[MO];unfold MT.wr MT.Qh;simp only[Bs,List.map_nil];rw[this]
  show (((mt Z4 rt wt x y I gr ga gk J).L 0 ((mt Z4 rt wt x y I gr ga gk J).rd 0) Tv true ((mt Z4 rt wt x y I gr ga gk J).wr 0) [])).Perm _;rw[e2,uG,xI,hO];have e3:(mt Z4 rt wt x y I gr ga gk J).rd 0=E0 X.p x rt X.sz lb:=by rw[MO];unfold MT.rd;show E0 X.p x (rat rt 0) X.sz lb= _;rw[e1]
  rw[e3];have:=(yg (Cv s0 28 [fa,na,ka,ca]) (Cv (s0+1) 3 [key]) (Cv (s0+2) 28 [fb,nb,kb,cb]) (Cv (s0+3) 148 [.func (.func fH) #[] Ea]) (Cv (s0+4) 28 Z4) (E0 X.p x rt X.sz lb) (I6 X.p y wt X.sz) (Cv I 65 [AI y]) (Cv gr 81 [AI x]) (Cv ga 47 (DH Tv)) (Cv gk 4 [true]) (Cv J 170 [.func (.func 131) #[] #[AI gk,AI ga,AI gr]])).append_left (pre++H 0++post);rw[MO];simpa [MT.rows,MT.oJ,FZ,AR]using this
 ·
  rintro x y I gr ga gk J w ⟨rt,wt,U,h2,q⟩;exact q.Ek (by rw[MT.Z,uG];simp)
 ·
  rintro x y I gr ga gk J w ⟨rt,wt,U,h2,q⟩;have hk:=DN U h2 Z4 x y I gr ga gk J;have hX:(mt Z4 rt wt x y I gr ga gk J).X=X:=by rw[MO]
  have ay:(mt Z4 rt wt x y I gr ga gk J).la=la:=by rw[MO]
  have av:(mt Z4 rt wt x y I gr ga gk J).lb=lb:=by rw[MO]
  have GU:(mt Z4 rt wt x y I gr ga gk J).rt=rt:=by rw[MO]
  have tq:#[AI (AE ⟨(mt Z4 rt wt x y I gr ga gk J).gz,0,AD⟩),AI (AE ⟨(mt Z4 rt wt x y I gr ga gk J).LU,0,AD⟩),AI (AE ⟨(mt Z4 rt wt x y I gr ga gk J).gy,0,AD⟩),AI (AE ⟨(mt Z4 rt wt x y I gr ga gk J).gh,0,AD⟩)]=#[AI J,AI (s0+1,0),AI I,AI (s0+3,0)]:=by rw[MO]
  obtain⟨r1,r2,r3,r4,r5,r6,r7⟩:=(aq _).1 U;obtain⟨t1,t2,t3,t4,t5⟩:=(ad _).1 h2;have I0:Cu rt.h lb.length=nb:=by rw[r4];exact LL.bn.symm
  have az:=AF1 hk;rw[tq,ay,av,GU,hX,I0,Z9]at az;have a1:∀i s,(mt Z4 rt wt x y I gr ga gk J).P_ i s->De fa na ka ha la X.sz∈(mt Z4 rt wt x y I gr ga gk J).Z s:=λi s _=>by
   rw[MT.Z,uG];rcases Ah.1 wU with hm|hm<;>simp[hm]
  have Gu:DF DD.gw ((mt Z4 rt wt x y I gr ga gk J).Z (0,0,Tv,true))=DF DD.gw O+2*X.sz:=by
   have e4:∀r ok,DF DD.gw (FZ ((mt Z4 rt wt x y I gr ga gk J).rd 0) x gr ga gk r ok)=X.sz:=λr ok=>by rw[MO];rfl
   have e5:DD.gw ((mt Z4 rt wt x y I gr ga gk J).wr 0)=X.sz:=by rw[MO];rfl
   have e6:DF DD.gw ((mt Z4 rt wt x y I gr ga gk J).wr 0::(mt Z4 rt wt x y I gr ga gk J).rows)=X.sz:=by rw[EL,e5,D5 _ (au _ _ _ _ _ _ _ _ _ _)];rfl
   have e7:DF DD.gw [Cv s0 28 [fa,na,ka,ca],Cv (s0+2) 28 [fb,nb,kb,cb],Cv (s0+4) 28 Z4]=0:=rfl;show DF DD.gw ((mt Z4 rt wt x y I gr ga gk J).L 0 ((mt Z4 rt wt x y I gr ga gk J).rd 0) Tv true ((mt Z4 rt wt x y I gr ga gk J).wr 0) [])= _;rw[uG,<-hO,DP,DP,DP,e4,e6,e7];omega
  refine(bI (count:=ca) az (s0:=(0,0,Tv,true)) ⟨rfl,Ao _,-9223372036854775808,by rw[av];exact FI.start lb _,λt ht=>by
    rw[ay]at ht;have:=SY t (Ae ht);have e6:(mt Z4 rt wt x y I gr ga gk J).key=key:=by rw[MO]
    rw[e6];omega⟩ (by unfold MT.c;rw[GU];show Cu rt.h 0+0/ _=0;rw[Dx,Nat.zero_div]) q gW a1 Z9 (by rw[Gu];omega) a5).mono ?_
  rintro e w' (⟨⟨i,j,r,ok⟩,he,⟨k1,k2,k0,k3,_⟩,hw⟩|⟨er,z',he,Di,KW,hw⟩)
  ·refine .inl ⟨he,(ax _ _ _ _).2 ⟨rt,wt,gr,ga,gk,J,j,r,ok,U,h2,by rw[av]at k3;exact k3.le,?_⟩⟩;have k1:=k1;subst k1;have hw:Wd X ((mt Z4 rt wt x y I gr ga gk J).L la.length ((mt Z4 rt wt x y I gr ga gk J).rd j) r ok ((mt Z4 rt wt x y I gr ga gk J).wr la.length) []) (m+na+(Cu (mt Z4 rt wt x y I gr ga gk J).rt.h j+la.length/(mt Z4 rt wt x y I gr ga gk J).wt.h)) w':=hw;have e7:(mt Z4 rt wt x y I gr ga gk J).wt=wt:=by rw[MO]
   rw[GU,e7,r4,Z9]at hw;exact hw
  ·refine .inr ⟨er,he,Di,(hU _ _ _ _ _).2 ?_⟩;rcases KW with⟨k1,k2,i,rd,r,ok,wo,k3,k4,rfl⟩|⟨k1,k2,i,⟨i',j,r,ok⟩,⟨k3,k4,k0,k5,_⟩,rfl⟩
   ·rw[hX]at k2;have Lk:aj X x rt lb rd:=by rw[MO]at k3;exact k3
    exact⟨k1,k2,rt,wt,I,gr,ga,gk,J,i,rd,r,ok,wo,U,h2,Lk,k4,hw.mono a5 a5⟩
   ·refine⟨k1,k2,rt,wt,I,gr,ga,gk,J,i',_,r,ok,_,U,h2,⟨j,.inl (by rw[MO];rfl)⟩,⟨_,?_,.inl rfl⟩,hw.mono a5 a5⟩;rw[Ai,AZ];omega
 ·
  rintro x y I w q;obtain⟨rt,wt,gr,ga,gk,J,j,r,ok,U,h2,h3,q⟩:=(ax _ _ _ _).1 q;exact q.Ek (by rw[uG,MO];simp[MT.rows])
 ·
  rintro x y I w q;obtain⟨rt,wt,gr,ga,gk,J,j,r,ok,U,h2,h3,q⟩:=(ax _ _ _ _).1 q;have hk:=DN U h2 Z4 x y I gr ga gk J;obtain⟨t1,t2,t3,t4,t5⟩:=(ad _).1 h2;have a9:Cu hb j<=nb:=by rw[LL.bn];exact Df LL.hh.1 h3
  have a7:ca/wt.h<=ca:=BX _ _;have ab:=MT.wok hk (l:=(la.take ca).map res) (by rw[MO,Ai,AZ];show min ca la.length<=la.length;omega);have e0:(la.take ca).map res=la.map res:=by rw[<-Z9,B6]
  rw[e0]at ab;have e1:(mt Z4 rt wt x y I gr ga gk J).wr ca=I6 X.p y ((mt Z4 rt wt x y I gr ga gk J).Qh (la.map res)) X.sz:=by
   rw[MO];unfold MT.wr MT.Qh;rw[<-e0]
  have e2:(mt Z4 rt wt x y I gr ga gk J).X=X:=by rw[MO]
  rw[e1]at q;rw[e2]at ab;have e3:(((mt Z4 rt wt x y I gr ga gk J).Qh (la.map res)).k=3/\((mt Z4 rt wt x y I gr ga gk J).Qh (la.map res)).h=Cw X.sz (3:Nat))/\((mt Z4 rt wt x y I gr ga gk J).Qh (la.map res)).l.length=la.length:=by
   rw[MO];exact⟨⟨t1,t2⟩,by show (la.map res).length=la.length;rw[Ai]⟩
  refine(ON q MT.jB ab a5).mono ?_;rintro e w' (⟨he,hw⟩|⟨he,Fy,hw⟩)
  ·rw[MT.U0]at hw;refine .inl ⟨_,_,_,?_,(ao _ _ _ _ _ _ _).2 ⟨rfl,rt,wt,I,gr,ga,gk,J,j,r,ok,U,h2,rfl,rfl,hw.mono ?_ a5⟩⟩
   ·rw[he,e3.1.1,e3.1.2,e3.2];rfl
   ·rw[e3.1.2,e3.2];have:=Dl (Cw X.sz (3:Nat)) la.length;have hd:la.length/Cw X.sz (3:Nat)<=Cu (Cw X.sz (3:Nat)) la.length:=by unfold Cu;split<;>omega
    have e9:la.length/Cw X.sz (3:Nat)=ca/wt.h:=by rw[Z9,t2]
    omega
  ·rw[MT.U0]at hw;refine .inr ⟨he,(hU _ _ _ _ _).2 ⟨rfl,Fy,rt,wt,I,gr,ga,gk,J,ca,_,r,ok,_,U,h2,⟨j,.inl (by rw[MO];rfl)⟩,⟨la.map res,by rw[MO,Ai];exact AQ _,.inr (by rw[MO])⟩,hw.mono a5 a5⟩⟩
 ·
  rintro x y er cs w q;obtain⟨_,_,rt,wt,I,gr,ga,gk,J,i,rd,r,ok,wo,_,_,_,_,q⟩:=(hU _ _ _ _ _).1 q;exact nw _ _ _ _ _ _ _ _ _ _ _ _ _ _ _ _ _ q
 ·
  rintro x y er w q;obtain⟨k1,k2,rt,wt,I,gr,ga,gk,J,i,rd,r,ok,wo,k3,k4,k5,k6,q⟩:=(hU _ _ _ _ _).1 q;exact(hU _ _ _ _ _).2 ⟨k1,k2,rt,wt,I,gr,ga,gk,J,i,rd,r,ok,wo,k3,k4,k5,k6,aB _ _ _ _ _ _ _ _ _ _ _ _ _ _ _ _ _ _ _ _ _ rfl q⟩
 ·
  rintro x y er u w q;obtain⟨k1,k2,rt,wt,I,gr,ga,gk,J,i,rd,r,ok,wo,k3,k4,k5,k6,q⟩:=(hU _ _ _ _ _).1 q;refine(a3 _ _ _ _ _ _ _ _ _ _ _ _ _ _ _ _ _ u k3 k4 k6 q).mono ?_;rintro e u' w' ⟨U,h2,l,h3⟩;refine⟨U,h2,λu2=>(Se _ _ _ _ _ _ _ _ _ _ _ _ _ _ _ _ _ u2 k5 h3).mono ?_⟩;rintro e u' Eo ⟨U,h2,sH,h4⟩;refine⟨U,h2,nw _ _ _ _ _ _ _ _ _ _ _ _ _ _ _ _ _ h4,.inr ⟨er,i,rfl,a5,.inl ⟨k1,k2⟩,?_⟩⟩;rw[uG]at h4;have k7:=Wd.GB _ (aC _ _ _ _ _ _ _ _) h4;have k8:=Wd.GB (b:=[]) (Yt X.p y ((mt Z4 rt wt x y I gr ga gk J).Qh l)::(mt Z4 rt wt x y I gr ga gk J).rows) (λq hq=>by
   rcases A8.1 hq with rfl|hq
   ·exact⟨rfl,rfl⟩
   ·exact au _ _ _ _ _ _ _ _ _ _ q hq) (by rw[AY];exact k7)
  rwa [AY]at k8
 ·
  rintro x y F N Q cs w q;obtain⟨_,rt,wt,I,gr,ga,gk,J,j,r,ok,_,_,_,_,q⟩:=(ao _ _ _ _ _ _ _).1 q;exact nw _ _ _ _ _ _ _ _ _ _ _ _ _ _ _ _ _ q
 ·
  rintro x y F N Q w q;obtain⟨k1,rt,wt,I,gr,ga,gk,J,j,r,ok,k2,k3,k4,k5,q⟩:=(ao _ _ _ _ _ _ _).1 q;have e1:∀cs,(mt cs rt wt x y I gr ga gk J).rd j=(mt Z4 rt wt x y I gr ga gk J).rd j/\(mt cs rt wt x y I gr ga gk J).Qh (la.map res)=(mt Z4 rt wt x y I gr ga gk J).Qh (la.map res):=λcs=>by rw[MO,MO];exact⟨rfl,rfl⟩
  refine(ao _ _ _ _ _ _ _).2 ⟨k1,rt,wt,I,gr,ga,gk,J,j,r,ok,k2,k3,?_,k5,?_⟩
  ·rw[(e1 _).2];exact k4
  ·rw[(e1 _).1,(e1 _).2];exact aB _ _ _ _ _ _ _ _ _ _ _ _ _ _ _ _ _ _ _ _ _ rfl q
 ·
  rintro x y F N Q u w q;obtain⟨k1,rt,wt,I,gr,ga,gk,J,j,r,ok,k2,k3,k4,k5,q⟩:=(ao _ _ _ _ _ _ _).1 q;obtain⟨t1,t2,t3,t4,t5⟩:=(ad _).1 k3;generalize aw:[BZ AB (F:Int),AA AB N,AA AB (3:Nat),AA AB Q]=cs at*
  refine(FG (q.at_ MT.jB) u).mono ?_;rintro e u' w' ⟨U,h2,rfl⟩;refine⟨U,h2,λu2=>(Se _ _ _ _ _ _ _ _ _ _ _ _ _ _ _ _ _ u2 ⟨j,.inl (by rw[MO];rfl)⟩ q).mono ?_⟩;rintro e u' Eo ⟨U,h2,sH,h4⟩;refine⟨U,h2,nw _ _ _ _ _ _ _ _ _ _ _ _ _ _ _ _ _ h4,.inl ⟨F,N,by rw[<-aw,k1,Ai],?_,?_⟩⟩
  ·have q1:=t5.h;have q2:=t5.first;rw[t1,t2]at q1;refine⟨a5,q1,rfl,by rw[k5,Ai],by rw[Ai];exact a0,?_,a6⟩;rw[k4,MO];unfold Dc MT.Qh
   split
   ·omega
   ·exact q2
  ·have h5:=Wc h4 MT.jB;have e1:(((mt cs rt wt x y I gr ga gk J).Qh (la.map res)).k=3/\((mt cs rt wt x y I gr ga gk J).Qh (la.map res)).h=Cw X.sz (3:Nat))/\((mt cs rt wt x y I gr ga gk J).Qh (la.map res)).l=la.map res:=by
    rw[MO];exact⟨⟨t1,t2⟩,rfl⟩
   rw[MT.U0,<-k4,e1.1.1,e1.1.2,e1.2,uG]at h5;have k7:=Wd.GB _ (aC _ _ _ _ _ _ _ _) h5;have e2:∀(a:DD) (z:List DD),pre++H ca++post++a::z=(pre++H ca++post++[a])++z++[]:=λa z=>by simp
   rw[e2]at k7;have k8:=Wd.GB _ (au _ _ _ _ _ _ _ _ _ _) k7;rw[AY,Ai,<-k5]at k8;exact k8
end
def FY(gl:Nat)(A S:List Cy)(i:Nat):List DD:=[Cv gl 125 (E1 ((A.take i).countP (gO S)))]
section
variable{X:Cx}{m:Nat}{W:World}
theorem yu{pre post}{gl gw gas gs fa I ka U ca fb nb kb hb cb op:Nat}{A S}
  (h:Wd X (pre++FY gl A S 0++post) m W)(gW:Gh fa I ka U A X.sz)(wU:De fa I ka U A X.sz∈pre++post)(Z9:A.length=ca)(LL:Gh fb nb kb hb S X.sz)(SX:De fb nb kb hb S X.sz∈pre++post)(M5:S.length=cb)
  (qF:S.Pairwise λu v=>u.a<=v.a)(UU:A.Pairwise λu v=>u.b<=v.b)(SY:∀t∈A,-1<=t.b)(Q:∀t∈A,D7 (lenT S t)/\Db 3 (lenT S t)=true)
  (J:3*X.sz+DF DD.gw (pre++FY gl A S 0++post)<=X.rm)(hn:X.N+m+I+nb+ca+2<=1000000)
  (hw:Cv gw 23 [AI X.p.w]∈pre++post)(has:Cv gas 28 [fa,I,ka,ca]∈pre++post)(hs:Cv gs 125 [fb,nb,kb,cb,op]∈pre++post):
  Calls AP 88 #[AI gw,AI gas,AI gs,AI gl] W (Mj X pre post (FY gl A S) (A.map (lenT S)) m I nb ca):=by
 obtain⟨R,hR⟩:=ae W.heap.size;obtain⟨W1,EJ⟩:=ae (W.alloc (AK #[(),(),(),()] 28));have Dg:Below W W W1:=by rw[EJ];exact(AS _ _).alloc ar _
 have h1:=h.new Dg (by rw[EJ];exact heap_alloc_new _ _:Row W1 _ 28 Z4) ar;rw[<-hR,AR]at h1;have NH:∀{a:DD},a∈pre++post->a∈pre++FY gl A S 0++(post++[Cv R 28 Z4]):=λ{a} U=>by
  rcases Ah.1 U with hm|hm<;>simp[hm]
 have ad:∀{a:DD},a∈pre++post->a∈pre++(post++[Cv R 28 Z4]):=λ{a} U=>by
  rcases Ah.1 U with hm|hm<;>simp[hm]
 have an:∀(b:Bool) (t:Cy),DS t 1=t.b:=λ_ _=>rfl;have HM:=AO (We (key:=1) (sg (X:=X) (g:=gl) (pre:=pre) (A:=A) (S:=S) gW.len) h1 gW (ad wU) Z9 LL (ad SX) M5 a5 qF UU (λt ht=>by have:=SY t ht;show _<t.b;omega) Q (by
  have e:DF DD.gw (pre++FY gl A S 0++(post++[Cv R 28 Z4]))=DF DD.gw (pre++FY gl A S 0++post):=by rw[<-AR,D9];rfl
  show 3*X.sz+DF DD.gw (pre++FY gl A S 0++(post++[Cv R 28 Z4]))<=X.rm;rw[e];exact J) hn)
 have q1:=h1.Ek (NH hw);have q2:=h1.Ek (NH has);have q3:=h1.Ek (NH hs);have G7:Hid (∀e w',Mj X pre (post++[Cv R 28 Z4]) (FY gl A S) (A.map (lenT S)) m I nb ca e w'->∃F N K L er:Nat,e=AH (AM #[AL #[F,N,K,L],er])/\Row w' R 28 Z4/\
   Row ((((w'.setCell R F).setCell (R,1) N).setCell (R,2) K).setCell (R,3) L) R 28 [F,N,K,L]/\
   Mj X pre post (FY gl A S) (A.map (lenT S)) m I nb ca (AH (AM #[AL #[AA AB F,AA AB N,AA AB K,AA AB L],AA AB er])) ((((w'.setCell ⟨R,0,AD⟩ (AA AB F)).setCell ⟨R,1,AD⟩ (AA AB N)).setCell ⟨R,2,AD⟩ (AA AB K)).setCell ⟨R,3,AD⟩ (AA AB L))):=by
  have e1:∀(i:Nat) (cs:List Value) (z:List DD),pre++FY gl A S i++(post++[Cv R 28 cs])++z=(pre++FY gl A S i++post)++Cv R 28 cs::z:=λi cs z=>by simp
  have ab:∀(i M:Nat) (z:List DD) (w:World) (x1 x2 x3 x4:Value),Wd X (pre++FY gl A S i++(post++[Cv R 28 Z4])++z) M w->Wd X ((pre++FY gl A S i++post)++Cv R 28 [x1,x2,x3,x4]::z) M ((((w.setCell R x1).setCell (R,1) x2).setCell (R,2) x3).setCell (R,3) x4):=λi M z w x1 x2 x3 x4 q=>by
   rw[e1]at q;have O:=GD q (i:=(pre++FY gl A S i++post).length) (R:=R) (cs:=Z4) (by rw[AW ar,As];rfl) rfl x1 x2 x3 x4;rw[Ap _ _ ar,As]at O;exact O
  rintro e w' (⟨F,N,he,NI,hw⟩|⟨er,i,he,Di,IB,hw⟩)
  ·have O:=ab _ _ _ _ (AA AB F) (AA AB N) (AA AB (3:Nat)) (AA AB ((A.map (lenT S)).length:Nat)) hw;exact⟨F,N,3,_,0,he,hw.Ek a8,O.Ek a8,.inl ⟨F,N,rfl,NI,O.cut rfl rfl⟩⟩
  ·rw[<-AY (pre++FY gl A S i++(post++[Cv R 28 Z4]))]at hw;have O:=ab _ _ _ _ (AA AB (0:Nat)) (AA AB (0:Nat)) (AA AB (0:Nat)) (AA AB (0:Nat)) hw;refine⟨0,0,0,0,er,he,hw.Ek a8,O.Ek a8,.inr ⟨er,i,rfl,Di,?_,by have:=O.cut rfl rfl;rwa [AY]at this⟩⟩;rcases IB with h|⟨h5,al⟩
   ·exact .inl h
   ·refine .inr ⟨h5,λq hq=>al q ?_⟩;rw[<-AR];exact GL hq λy hy=>by simp at hy;subst hy;exact⟨rfl,rfl⟩
 have ao:Hid (Calls AP 86 #[AI X.p.w,AL #[fa,I,ka,ca],AA AB 1,AL #[fb,nb,kb,cb],.func (.func 89) #[] #[AI gl]] W1 (Mj X pre (post++[Cv R 28 Z4]) (FY gl A S) (A.map (lenT S)) m I nb ca)):=HM.out;generalize Mj X pre (post++[Cv R 28 Z4]) (FY gl A S) (A.map (lenT S)) m I nb ca=aq at*
 generalize Mj X pre post (FY gl A S) (A.map (lenT S)) m I nb ca=Dh at*
 have FQ:=AO EJ;replace hR:=AO hR;have a0:W1.cell? gw=AE (AI X.p.w):=q1.cell 0;obtain⟨b0,b1,b2,b3⟩:=q2.q4;obtain⟨c0,c1,c2,c3⟩:=q3.q4;clear h h1 Dg EJ q1 q2 q3 gW wU Z9 LL SX M5 qF UU SY Q J hn hw has hs HM an;go_enter func88,ntmps88
 go_upto_region 1 with(fail)
 rw[<-FQ.out,<-hR.out];clear FQ;go_wp2_with fail
 refine ao.out.mono ?_;rintro e w7 h7;obtain⟨F,N,K,L,er,rfl,hr,EG,hp⟩:=G7.out e w7 h7;have HP:=AO hp;have Eg:=AO EG;obtain⟨z0,z1,z2,z3⟩:=hr.q4;obtain⟨f0,f1,f2,f3⟩:=hr.r4;clear h7 hr EG hp;go_wp2
 have r0:=Eg.out.cell 0;have r1:=Eg.out.cell 1;have r2:=Eg.out.cell 2;have r3:=Eg.out.cell 3;simp only[AX,AV]at r0 r1 r2 r3;refine BA (v:=AM #[AL #[F,N,K,L],er]) (by simp[results,Tryz.results88,go_sem,r0,r1,r2,r3]) rfl ?_;exact HP.out
end
section
variable{α:Type}{lt:α->α->Bool}{f g:Nat->α}{n x i j:Nat}
structure qW (lt:α->α->Bool):Prop where
 asym:∀a b,lt a b=true->lt b a=false
 trans:∀a b c,lt b a=false->lt c b=false->lt c a=false
def par(j:Nat):Nat:=(j-1)/2
def Hp(lt:α->α->Bool)(f:Nat->α)(n:Nat):Prop:=∀j,0<j->j<n->lt (f j) (f (par j))=false
def jC(lt:α->α->Bool)(f:Nat->α)(n x:Nat):Prop:=(∀j,0<j->j<n->par j≠x->lt (f j) (f (par j))=false)/\(0<x->∀j,0<j->j<n->par j=x->lt (f j) (f (par x))=false)
def u5(lt:α->α->Bool)(f:Nat->α)(n x:Nat):Prop:=(∀j,0<j->j<n->j≠x->lt (f j) (f (par j))=false)/\(0<x->∀j,0<j->j<n->par j=x->lt (f j) (f (par x))=false)
def Chg(f g:Nat->α)(i j:Nat):Prop:=∀p,g p=if p=i then f j else if p=j then f i else f p
theorem ME(h:0<j):par j<j:=by unfold par;omega
theorem Hp.xP(h:∀j,0<j->j<n->par j≠0->lt (f j) (f (par j))=false):jC lt f n 0:=⟨h,λh=>by omega⟩
theorem jC.leaf(h:jC lt f n x)(J:n<=2*x+1):Hp lt f n:=λj I e=>h.1 j I e (by unfold par;omega)
theorem jC.stop(O:qW lt)(h:jC lt f n x){c}(hle:lt (f c) (f x)=false)(Q:∀j,0<j->j<n->par j=x->lt (f j) (f c)=false):Hp lt f n:=λj J I=>by
 by_cases e:par j=x
 ·rw[e];exact O.trans _ _ _ hle (Q j J I e)
 ·exact h.1 j J I e
theorem jC.step(ho:qW lt)(h:jC lt f n x){c}(hc:c=2*x+1\/c=2*x+2)(Vr:c<n)(ae:lt (f c) (f x)=true)(Lp:∀j,0<j->j<n->par j=x->lt (f j) (f c)=false)(hg:Chg f g x c):jC lt g n c:=by
 have O:par c=x:=by unfold par;omega
 have ab:x≠c:=a5;have gx:g x=f c:=by rw[hg x,if_pos rfl]
 have gc:g c=f x:=by rw[hg c,if_neg (λe=>ab e.symm),if_pos rfl]
 have gp:∀p,p≠x->p≠c->g p=f p:=λp U h2=>by rw[hg p,if_neg U,if_neg h2]
 refine⟨λj h0 U Q=>?_,λ_ j h0 U Q=>?_⟩
 ·by_cases J:par j=x
  ·rw[J,gx];by_cases I:j=c
   ·rw[I,gc];exact ho.asym _ _ ae
   ·have:j≠x:=by unfold par at J;omega
    rw[gp j this I];exact Lp j h0 U J
  ·rw[gp (par j) J Q];by_cases ad:j=x
   ·rw[ad,gx];exact h.2 a5 c a5 Vr O
   ·have:j≠c:=λe=>J (by rw[e];exact O);rw[gp j ad this];exact h.1 j h0 U J
 ·have J:j≠x:=by unfold par at Q;omega
  have I:j≠c:=by unfold par at Q;omega
  rw[gp j J I,O,gx,<-Q];exact h.1 j h0 U (by rw[Q];exact λe=>ab e.symm)
theorem u5.root(h:u5 lt f n 0):Hp lt f n:=λj I e=>h.1 j I e a5
theorem u5.stop(h:u5 lt f n x)(hle:lt (f x) (f (par x))=false):Hp lt f n:=λj J I=>by
 by_cases e:j=x
 ·rw[e];exact hle
 ·exact h.1 j J I e
theorem u5.step(ho:qW lt)(h:u5 lt f n x)(hx:0<x)(ad:x<n)(O:lt (f x) (f (par x))=true)(hg:Chg f g (par x) x):u5 lt g n (par x):=by
 have Gi:=ME hx;have gp:g (par x)=f x:=by rw[hg,if_pos rfl]
 have gx:g x=f (par x):=by rw[hg,if_neg a5,if_pos rfl]
 have go:∀p,p≠par x->p≠x->g p=f p:=λp J Q=>by rw[hg p,if_neg J,if_neg Q]
 refine⟨λj U J hj=>?_,λhp j U J hj=>?_⟩
 ·by_cases I:j=x
  ·rw[I,gx,gp];exact ho.asym _ _ O
  ·rw[go j hj I];by_cases Q:par j=x
   ·rw[Q,gx];exact h.2 hx j U J Q
   ·by_cases h3:par j=par x
    ·rw[h3,gp];exact ho.trans _ _ _ (ho.asym _ _ O) (h3▸h.1 j U J I)
    ·rw[go _ h3 Q];exact h.1 j U J I
 ·have h4:=ME hp;have SU:lt (f (par x)) (f (par (par x)))=false:=h.1 (par x) hp a5 a5;rw[go (par (par x)) a5 a5];by_cases I:j=x
  ·rw[I,gx];exact SU
  ·have ab:j≠par x:=λe=>by rw[e]at hj;omega
   rw[go j ab I];exact ho.trans _ _ _ SU (hj▸h.1 j U J I)
theorem Hp.least(J:qW lt)(h:Hp lt f n)(I:∀a,lt a a=false):∀j,j<n->lt (f j) (f 0)=false:=λj=>by
 induction j using Nat.strongRecOn with
 |ind j ih=>
  intro O;rcases BB j with rfl|e
  ·exact I _
  ·have Q:=ME e;exact J.trans _ _ _ (ih (par j) Q a5) (h j e O)
end
theorem Kf{α}[DecidableEq α]{d}{l:List α}{i j}(hi:i<l.length)(J:j<l.length):(swp d l i j).Perm l:=by
 refine List.perm_iff_count.2 λa=>?_;have ei:l.getD i d=l[i]:=by rw[AT,AU hi];rfl
 have ej:l.getD j d=l[j]:=by rw[AT,AU J];rfl
 unfold swp;rw[List.count_set (by rw[Bg];exact J),List.count_set hi,List.getElem_set,ei,ej];have O:(l[i]==a)=true->0<l.count a:=λh=>List.count_pos_iff.2 (by rw[<-eq_of_beq h];exact CO hi);have U:(l[j]==a)=true->0<l.count a:=λh=>List.count_pos_iff.2 (by rw[<-eq_of_beq h];exact CO J);by_cases Q:i=j
 ·subst Q;rw[if_pos rfl]
  split
  ·next h=>have:=O h;omega
  ·omega
 ·rw[if_neg Q];by_cases I:(l[i]==a)=true
  ·have:=O I;by_cases e:(l[j]==a)=true
   ·simp only[I,e,if_true];omega
   ·simp only[I,Bool.eq_false_iff.2 e,if_true,Bool.false_eq_true,if_false];omega
  ·by_cases e:(l[j]==a)=true
   ·have:=U e;simp only[Bool.eq_false_iff.2 I,e,if_true,Bool.false_eq_true,if_false];omega
   ·simp only[Bool.eq_false_iff.2 I,Bool.eq_false_iff.2 e,Bool.false_eq_true,if_false];omega
theorem kV(o:Cy)(q:List Cy)(t:Cy):q.length<=(stepO o q t).length:=by
 unfold stepO
 split
 ·split
  ·exact AQ _
  ·rw[Aa];omega
 ·rw[Aa];omega
theorem mK(once:Bool)(o:Cy)(s:List Cy)(t:Cy):(Dt once o s).length<=(Dt once o (s++[t])).length:=by
 unfold Dt;split
 ·rw[Nq];exact kV _ _ _
 ·rw[Aa];omega
def I9(once:Bool)(o:Cy)(hh:Nat)(s:List Cy):Nat:=(Dt once o s).length/hh
theorem Ni(once:Bool)(o:Cy)(hh:Nat)(s:List Cy):I9 once o hh s<=s.length:=Ag (BX _ _) (SM once o s)
theorem Wa(once:Bool)(o:Cy)(hh:Nat)(s:List Cy)(t:Cy)(m:Nat):m+I9 once o hh s+((Dt once o (s++[t])).length/hh-(Dt once o s).length/hh)=m+I9 once o hh (s++[t]):=by
 have:=Nat.div_le_div_right (c:=hh) (mK once o s t);unfold I9;omega
theorem ZP(r:Nat)(w:World):Bu AP (method 371 221 (AI r) "Next") w=.ok (190,AI r) w:=a7
section
variable{X:Cx}{DK:List DD}{o:Cy}{once:Bool}{k hh bd xw tT fP n:Nat}{vT:Value}{Z:List Cy->List DD}{bx rd:DD}{r b g M q m:Nat}{s0 l:List Cy}{W:World}
def KS(DK:List DD)(Z:List Cy->List DD)(bx rd:DD)(b g M k q r:Nat)(o:Cy)(s l:List Cy)(told:Nat):List DD:=DK++Z s++[bx,rd,Fz b g M k l,Cv r 225 (Jg k g (q*k) M o told)]
theorem ku(hS:o5 X o once k hh bd xw tT fP vT Z n)(hk:0<k/\k<=5)(hM:q*k<=M/\M<=1000000/\q<=1000000)(hl:l.length=q)(hf:ID k l)(ad:s0.length+q<=bd)(hn:X.N+m+(s0.length+q)<1000000)
  (h:Wd X (KS DK Z bx rd b g M k q r o s0 l 0) (m+I9 once o hh s0) W):
  Calls AP 138 #[.iface 221 (AI r),.iface tT vT] W λe w'=>
   (e=AH ()/\Wd X (KS DK Z bx rd b g M k q r o (s0++l) l q) (m+I9 once o hh (s0++l)) w')\/
   (e=AH (AA AB 6)/\¬X.cm/\∃z m' told,YL X xw n z/\Wd X (DK++z++[bx,rd,Fz b g M k l,Cv r 225 (Jg k g (q*k) M o told)]) m' w'):=by
 have Og:∀told,told<=q->(s0++l.take told).length=s0.length+told:=λtold U=>by rw[Aa,AZ];omega
 refine XG (n:=q) (J:=λj w=>∃told,told+j=q/\Wd X (KS DK Z bx rd b g M k q r o (s0++l.take told) l told) (m+I9 once o hh (s0++l.take told)) w)
  (Jm:=λt j w=>∃told,told+1+j=q/\l[told]?=AE t/\Wd X (KS DK Z bx rd b g M k q r o (s0++l.take told) l (told+1)) (m+I9 once o hh (s0++l.take told)) w)
  (E:=λw=>Wd X (KS DK Z bx rd b g M k q r o (s0++l) l q) (m+I9 once o hh (s0++l)) w)
  (Er:=λw=>¬X.cm/\∃z m' told,YL X xw n z/\Wd X (DK++z++[bx,rd,Fz b g M k l,Cv r 225 (Jg k g (q*k) M o told)]) m' w)
  (ZP r) hS.mm (λargs w=>by kernel_rfl) hS.me ?_ ?_ ?_ ?_ ?_ ⟨0,a5,by rw[Bs,AY];exact h⟩
 ·rintro j w ⟨told,U,I⟩;have hr:(KS DK Z bx rd b g M k q r o (s0++l.take told) l told)[DK.length+n+3]?=AE (Cv r 225 (Jg k g (q*k) M o told)):=FR (j:=3) (hS.len _);have hg:(KS DK Z bx rd b g M k q r o (s0++l.take told) l told)[DK.length+n+2]?=AE (Fz b g M k l):=FR (j:=2) (hS.len _);rcases Nat.eq_or_lt_of_le (show told<=q by omega)with he|ab
  ·subst he;refine(U6 I hr hg hk hM hl hf).mono ?_;rintro e w' ⟨he,O⟩;refine .inr (.inl ⟨he,?_⟩);rwa [Ay a5]at O
  ·have Q:l[told]?=AE (l[told]' a5):=AU _;refine(jw I hr hg hk hM hl ab hf Q).mono ?_;rintro e w' ⟨he,O⟩;refine .inl ⟨_,j-1,he,a5,told,a5,Q,?_⟩;have e1:(KS DK Z bx rd b g M k q r o (s0++l.take told) l told).set (DK.length+n+3) (Cv r 225 (Jg k g (q*k) M o (told+1)))=KS DK Z bx rd b g M k q r o (s0++l.take told) l (told+1):=GM (j:=3) (hS.len _);rw[e1]at O;exact O
 ·rintro t j w ⟨told,U,Q,I⟩;have hle:=Ni once o hh (s0++l.take told);rw[Og told a5]at hle;refine(hS.put DK _ _ _ t w I (hf t (Ae Q)).2 (by rw[Og told a5];omega) a5).mono ?_;have e1:s0++l.take told++[t]=s0++l.take (told+1):=by rw[AR,Bj,Q];rfl
  rintro e w' (⟨he,O⟩|⟨he,hc,z,m',hz,O⟩)
  ·rw[Wa,e1]at O;exact .inl ⟨he,told+1,a5,O⟩
  ·exact .inr ⟨he,hc,z,m',told+1,hz,O⟩
 ·rintro t j w w' ⟨told,U,Q,I⟩ hb;exact⟨told,U,Q,I.below hb⟩
 ·exact λw w' I hb=>I.below hb
 ·rintro w w' ⟨hc,z,m',told,hz,I⟩ hb;exact⟨hc,z,m',told,hz,I.below hb⟩
end
def Yo(o:Cy)(q:Nat)(s:List Cy):Prop:=∀j,ND o ((s.drop (j*q)).take q)
theorem Oz(o:Cy):ND o []:=by simp[ND]
theorem oh{o a b c d}(I:Cl o a b)(e:Cl o c d):Cl o (a++c) (b++d):=λt=>by rw[Bd,Bd,I t,e t]
theorem YF{o q i s r}(h:Yo o q s)(J:s.length=i*q)(O:ND o r)(Q:r.length<=q):Yo o q (s++r):=λj=>by
 rcases CW j i with e|he|I
 ·have U:j*q+q<=i*q:=by
   have:=Af q (show j+1<=i from e);rw[A7,BH]at this;exact this
  rw[List.drop_append_of_le_length a5,Ca (by rw[Aq];omega)];exact h j
 ·subst he;rw[<-J,List.drop_left,Ay Q];exact O
 ·have U:i*q+q<=j*q:=by
   have:=Af q (show i+1<=j from I);rw[A7,BH]at this;exact this
  rw[List.drop_eq_nil_of_le (by rw[Aa];omega),List.take_nil];exact Oz o
end Go.Proofs.YthfnbpjegjbbiaaGreat
