/- What the laws stand on. -/
import Derived.Test.YthfnbpjegjbbiaaGreatQD
namespace Go.Proofs.YthfnbpjegjbbiaaGreat
set_option linter.unusedVariables false
set_option linter.unusedSimpArgs false
set_option maxRecDepth 100000
set_option maxHeartbeats 8000000
open Go.ChangeShapes Go.WideShapes Go.ChangeAt Go.RowKit
open Go.Joins Go.Deep
open Go.ChangeShapes Go.WideShapes Go.ChangeAt Go.RowKit Go.Maps
open Go.ChangeMaps (setBlock heap_setBlock_same heap_setBlock_other)
open Go.Value renaming pointer → AI
open Go.Value renaming int → AA
open Go.IntKind renaming i64 → AB
open Option renaming some → AE
open Option renaming none → AD
open Lib renaming hid → AG
open Go.Ending renaming returned → AH
open Go.Value renaming slice → AJ
open Go.Obj renaming cells → AK
open Go.Value renaming agg → AL
open Go.Value renaming tuple → AM
open Go.Lib renaming hid → AO
open Go.Proofs.Tryz renaming prog → AP, underlying101 → Ad, underlying116 → Be, results139 → Cc
open Nat renaming le_refl → AQ, mul_le_mul_right → Af, le_trans → Ag, lt_or_ge → Ak, zero_le → Ao, sub_self → As, add_mul → A7, eq_zero_or_pos → BB, one_mul → BH, zero_add → BM, lt_of_lt_of_le → BN, add_sub_cancel → BV, div_le_self → BX, min_eq_left → Bi, add_assoc → B8, mod_lt → CM, mul_comm → CS, lt_trichotomy → CW, zero_mul → CY, min → CZ, reduceAdd → Cd, div_mul_le_self → Cf, lt_of_le_of_lt → Cg, mul_one → Cm, add_sub_cancel_left → Cq
open List renaming append_assoc → AR, getD_eq_getElem?_getD → AT, getElem?_eq_getElem → AU, getElem?_cons_succ → AV, getElem?_append_right → AW, getElem?_cons_zero → AX, append_nil → AY, length_take → AZ, length_append → Aa, mem_of_getElem? → Ae, mem_append → Ah, length_map → Ai, getElem?_append_left → Aj, set_append_right → Ap, length_drop → Aq, getElem?_take → At, mem_map → Av, getElem?_set → Aw, mem_iff_getElem? → Ax, take_of_length_le → Ay, mem_cons_self → Az, mem_cons → A8, replicate → BC, mem_cons_of_mem → BD, getElem?_eq_none → BG, getElem?_eq_some_iff → BI, nil_append → BL, getElem_of_mem → BP, take_append_drop → BS, length_cons → BW, getElem?_drop → Bc, filter_append → Bd, length_set → Bg, pairwise_iff_getElem → Bh, take_add_one → Bj, getElem?_map → Bk, range → Bo, mem_singleton → Bp, take_zero → Bs, drop_eq_getElem_cons → Bv, mem_of_mem_take → Bw, take_length → B6, set_cons_succ → B7, nodup_cons → CK, mem_filter → CL, take_take → CN, getElem_mem → CO, cons_append → CQ, take_append_of_le_length → Ca, findIdx_le_length → Ck, map_append → Cn, drop_zero → Cr, drop_drop → Cs
open Go.RowKit.Below renaming refl → AS, trans → CR, size → CU, mono → CV
open Go.IntKind renaming i64 → Ab, wrap_i64 → BQ
open Go renaming cell_regrown → Ac, leaves_cons → A6, bodyPost_ret → BA, FrameMode → Bf, wp_region_quiet_below → By, run_underlying → Bz, below_regrown → B0
open Go.IntWalk renaming i64_in → Al
open Go.Sort renaming grow → An
open Go.RowKit renaming intOf → BF
open Iff renaming rfl → BO
open Go.Result renaming andThen → BU
open Int renaming toNat_natCast → BY, natCast_mul → Br, lt_trichotomy → Co
open Go.Value renaming int → BZ, ownBlock → Bq
open Go.Calls renaming regrown_of → Ba
open Go.Builtin renaming zeroCells → Bb
open Go.World.ownsRow renaming frozenAt → Bl, stored → Ct
open Go.Addr renaming add_lit → Bm, add → Cj
open Go.Ending renaming returned → Bn
open And renaming intro → Bt
open Go.Sem renaming run → Bu
open Go.Instr renaming index → CX
open Classical renaming byContradiction → Cb
open List.Perm renaming append_left → Ce, refl → Ci
open Go.Lit renaming int → Cp
open Go.Proofs.Tryz
open Nat.le renaming refl → ar
def Ep(w k hh rb Dn:Nat)(o:Cy)(once:Bool)(cnt:Nat):List Value:=[k,hh,rb,Dn,AI w,o.a,o.b,o.c,o.d,o.e,once,cnt]
def Q6(X:Cx)(x bd n:Nat)(Z:List Cy->List DD)(z:List DD):Prop:=(∃s,s.length<=bd/\z=Z s)\/YL X x n z
theorem Za{a z b:List DD}{j:Nat}{v}(h:a[j]?=AE v):(a++z++b)[j]?=AE v:=by
 have I:j<a.length:=by
  rcases Ak j a.length with e|e
  ·exact e
  ·rw[BG e]at h;cases h
 rw[AR,Aj I];exact h
structure FP where
 X:Cx
 DK:List DD
 Z:List Cy->List DD
 o:Cy
 once:Bool
 k:Nat
 hh:Nat
 bd:Nat
 xw:Nat
 tT:Nat
 fP:Nat
 vT:Value
 n:Nat
 first:Nat
 nb:Nat
 count:Nat
 q:Nat
 m:Nat
 fb:Nat
 x:Nat
 b:Nat
 g:Nat
 tb:Nat
 tg:Nat
 l:List Cy
def FP.rt(P:FP):Rt:=⟨P.k,P.hh,P.first,P.nb,P.count,0,P.b,P.g⟩
def FP.bx(P:FP):DD:=Cv P.fb 28 [P.first,P.nb,P.k,P.count]
def FP.rd(P:FP)(c:Nat):DD:=E0 P.X.p P.x (Gl P.rt c) P.X.sz P.l
def FP.tp(P:FP)(l:List Cy):DD:=Fz P.tb P.tg (P.q*P.k) P.k l
def FP.run(P:FP)(r q told:Nat):DD:=Cv r 225 (Jg P.k P.tg (q*P.k) (P.q*P.k) P.o told)
def FP.mm(P:FP)(c:Nat)(s:List Cy):Nat:=P.m+Cu P.hh c+I9 P.once P.o P.hh s
structure FP.Ok (P:FP):Prop where
 S:o5 P.X P.o P.once P.k P.hh P.bd P.xw P.tT P.fP P.vT P.Z P.n
 f:Gh P.first P.nb P.k P.hh P.l P.X.sz
 c:P.l.length=P.count
 src:Src P.DK P.X.sz P.first P.k P.hh P.l
 q:P.q<=P.count/\P.q*P.k<=1000000
 bd:P.count<=P.bd/\P.bd<=100000
 n:P.X.N+P.m+3*P.count+3<=1000000
 vm:JG P.rt P.X.sz
structure FP.Put (P:FP) (c:Nat) (s:List Cy):Prop where
 len:s.length=c
 asc:Yo P.o P.q s
 cl:Cl P.o (P.l.take c) s
 fit:ID P.k s
def FP.A(P:FP)(c:Nat)(W:World):Prop:=∃s,P.Put c s/\Wd P.X (P.DK++P.Z s++[P.bx,P.rd c,P.tp []]) (P.mm c s) W
def FP.nx(P:FP)(c:Nat):Nat:=min P.q (P.count-c)
def FP.B(P:FP)(c r:Nat)(W:World):Prop:=∃s,P.Put c s/\Wd P.X (P.DK++P.Z s++[P.bx,P.rd c,P.tp [],P.run r (P.nx c) 0]) (P.mm c s) W
def FP.C(P:FP)(c r:Nat)(W:World):Prop:=∃s,P.Put c s/\Wd P.X (P.DK++P.Z s++[P.bx,P.rd (c+P.nx c),P.tp ((P.l.drop c).take (P.nx c)),P.run r (P.nx c) 0]) (P.mm (c+P.nx c) s) W
def FP.D(P:FP)(c r:Nat)(W:World):Prop:=∃s l',P.Put c s/\(ND P.o l'/\Cl P.o ((P.l.drop c).take (P.nx c)) l'/\l'.length=P.nx c/\ID P.k l')/\Wd P.X (P.DK++P.Z s++[P.bx,P.rd (c+P.nx c),P.tp l',P.run r (P.nx c) 0]) (P.mm (c+P.nx c) s) W
def FP.No(P:FP)(W:World):Prop:=¬P.X.cm/\∃z rd tl l' m',Q6 P.X P.xw P.bd P.n P.Z z/\((∃c,rd=P.rd c)\/∃r',rd=Nn P.X.p P.x r')/\Dr tl/\Wd P.X (P.DK++z++P.bx::rd::P.tp l'::tl) m' W
section
variable{P:FP}{c r:Nat}{W W':World}
theorem FP.mA(e:P.Ok){s}(J:s.length<=c)(O:c<=P.count):P.X.N+P.mm c s+P.count+3<=1000000:=by
 have Q:=Ni P.once P.o P.hh s;have I:=Jo (h:=P.hh) e.f.hh.1 0 c;rw[BM,Dx]at I;have h3:=e.n;unfold FP.mm;omega
theorem FP.lq(c:Nat):P.nx c<=P.q/\P.nx c<=P.count-c:=⟨Nat.min_le_left _ _,Nat.min_le_right _ _⟩
theorem FP.toB(h:P.A c W){g}(hb:Below W W W')(e:Row W' g 225 (Jg P.k P.tg (P.nx c*P.k) (P.q*P.k) P.o 0))(I:W<=g):P.B c g W':=by
 obtain⟨s,O,J⟩:=h;refine⟨s,O,?_⟩;have h3:=J.new hb e I;rw[AR]at h3;exact h3
theorem FP.B.load(I:P.Ok)(hc:c<=P.count)(h:P.B c r W):Calls AP 148 #[AI r,.iface 81 (AI P.x)] W λe w'=>(e=AH ()/\P.C c r w')\/(e=AH (AA AB 6)/\P.No w'):=by
 obtain⟨s,O,h2⟩:=h;have hn:=P.lq c;have J:=I.q;have hlen:=I.S.len s;have hx:(P.DK++P.Z s++[P.bx,P.rd c,P.tp [],P.run r (P.nx c) 0])[P.DK.length+P.n+1]?=AE (E0 P.X.p P.x (Gl P.rt c) P.X.sz P.l):=FR (j:=1) hlen;have hg:(P.DK++P.Z s++[P.bx,P.rd c,P.tp [],P.run r (P.nx c) 0])[P.DK.length+P.n+2]?=AE (Fz P.tb P.tg (P.q*P.k) P.k []):=FR (j:=2) hlen;have hr:(P.DK++P.Z s++[P.bx,P.rd c,P.tp [],P.run r (P.nx c) 0])[P.DK.length+P.n+3]?=AE (Cv r 225 (Jg P.k P.tg (P.nx c*P.k) (P.q*P.k) P.o 0)):=FR (j:=3) hlen;have ab:=P.mA I (Nat.le_of_eq O.len) hc;have Q:qV (Gl P.rt c) P.X.sz P.l:=⟨⟨I.vm.k,I.vm.h,I.vm.sz,⟨I.vm.count.1,by show 0+c<=P.count;omega⟩,I.vm.first⟩,I.c,I.f.fit⟩;have EZ:Src (P.DK++P.Z s++[P.bx,P.rd c,P.tp [],P.run r (P.nx c) 0]) P.X.sz (Gl P.rt c).first (Gl P.rt c).k (Gl P.rt c).h P.l:=by
  obtain⟨j,f,hj,h3⟩:=I.src;exact⟨j,f,Za hj,h3⟩
 refine(qu h2 hr hg hx a5 a5 a5 I.f.kk ⟨Af _ hn.1,J.2,by have:=I.bd;omega⟩ Q EZ (by show 0+c+P.nx c<=P.count;omega) a5).mono ?_;rintro e w' (⟨he,h3⟩|⟨he,Fy,U,l',m',h3⟩)
 ·refine .inl ⟨he,s,O,?_⟩;unfold Mk at h3;rw[GM hlen,GM hlen]at h3;have e1:P.mm c s+(Cu (Gl P.rt c).h ((Gl P.rt c).pos+P.nx c)-Cu (Gl P.rt c).h (Gl P.rt c).pos)=P.mm (c+P.nx c) s:=by
   have:=Df (h:=P.hh) (c:=c) (c':=c+P.nx c) I.f.hh.1 a5;show P.mm c s+(Cu P.hh (0+c+P.nx c)-Cu P.hh (0+c))= _;rw[BM];unfold FP.mm;omega
  rw[e1]at h3;have e2:Gl (Gl P.rt c) (P.nx c)=Gl P.rt (c+P.nx c):=by
   show ({P.rt with pos:=0+c+P.nx c}:Rt)={P.rt with pos:=0+(c+P.nx c)};rw[B8]
  rw[e2,show (Gl P.rt c).pos=c from BM c]at h3;exact h3
 ·refine .inr ⟨he,Fy,P.Z s,_,[P.run r (P.nx c) 0],l',m',.inl ⟨s,by rw[O.len];have:=I.bd;omega,rfl⟩,.inr ⟨U,rfl⟩,λq J=>by rw[Bp.1 J];exact⟨rfl,rfl⟩,?_⟩;rw[GM hlen,GM hlen]at h3;exact h3
theorem FP.C.yR(I:P.Ok)(h:P.C c r W):Calls AP 149 #[.iface 221 (AI r)] W λe w'=>e=AH (AM #[])/\P.D c r w':=by
 obtain⟨s,h1,h2⟩:=h;have hn:=P.lq c;have hq:=I.q;have hlen:=I.S.len s;have PS:((P.l.drop c).take (P.nx c)).length=P.nx c:=by rw[AZ,Aq,I.c];omega
 have hg:(P.DK++P.Z s++[P.bx,P.rd (c+P.nx c),P.tp ((P.l.drop c).take (P.nx c)),P.run r (P.nx c) 0])[P.DK.length+P.n+2]?=AE (Fz P.tb P.tg (P.q*P.k) P.k ((P.l.drop c).take (P.nx c))):=FR (j:=2) hlen;have hr:(P.DK++P.Z s++[P.bx,P.rd (c+P.nx c),P.tp ((P.l.drop c).take (P.nx c)),P.run r (P.nx c) 0])[P.DK.length+P.n+3]?=AE (Cv r 225 (Jg P.k P.tg (P.nx c*P.k) (P.q*P.k) P.o 0)):=FR (j:=3) hlen;refine(dg h2 hr hg a5 I.f.kk ⟨Af _ hn.1,hq.2,by have:=I.bd;omega⟩ PS (Ao _) λu hu=>I.f.fit u (List.mem_of_mem_drop (Bw hu))).mono ?_;rintro e w' ⟨he,l',U,Q,k3,O,J⟩;refine⟨he,s,l',h1,⟨U,Q,k3,O⟩,?_⟩;rw[GM hlen]at J;exact J
theorem uS{k a b}(I:ID k a)(e:ID k b):ID k (a++b):=λu hu=>(Ah.1 hu).elim (I u) (e u)
theorem FP.D.ye(I:P.Ok)(hc:c<P.count){i}(hi:c=i*P.q)(h:P.D c r W):Calls AP 138 #[.iface 221 (AI r),.iface P.tT P.vT] W λe w'=>(e=AH ()/\P.A (c+P.nx c) w')\/(e=AH (AA AB 6)/\P.No w'):=by
 obtain⟨s,l',J,⟨k1,k2,k3,U⟩,h2⟩:=h;have hn:=P.lq c;have O:=I.q;have ae:=I.bd;have ad:=P.mA I (c:=c+P.nx c) (s:=s) (by rw[J.len];omega) a5;have ab:=P.mA I (c:=c) (s:=[]) a8 a5;have Q:Wd P.X (KS P.DK P.Z P.bx (P.rd (c+P.nx c)) P.tb P.tg (P.q*P.k) P.k (P.nx c) r P.o s l' 0) (P.m+Cu P.hh (c+P.nx c)+I9 P.once P.o P.hh s) W:=h2;refine(ku I.S I.f.kk ⟨Af _ hn.1,O.2,a5⟩ k3 U (by rw[J.len];omega) (by
  rw[J.len];have e1:P.mm (c+P.nx c) s=P.m+Cu P.hh (c+P.nx c)+I9 P.once P.o P.hh s:=rfl;omega) Q).mono ?_
 rintro e w' (⟨he,h3⟩|⟨he,Fy,z,m',told,hz,h3⟩)
 ·refine .inl ⟨he,s++l',⟨by rw[Aa,J.len,k3],YF J.asc (by rw[J.len];exact hi) k1 a5,?_,uS J.fit U⟩,?_⟩
  ·rw[List.take_add];exact oh J.cl k2
  ·have h4:Wd P.X ((P.DK++P.Z (s++l')++[P.bx,P.rd (c+P.nx c)])++P.tp l'::[P.run r (P.nx c) (P.nx c)]) (P.mm (c+P.nx c) (s++l')) w':=by
    have h5:Wd P.X (P.DK++P.Z (s++l')++[P.bx,P.rd (c+P.nx c),P.tp l',P.run r (P.nx c) (P.nx c)]) (P.mm (c+P.nx c) (s++l')) w':=h3;simpa using h5
   have h6:Wd P.X (P.DK++P.Z (s++l')++[P.bx,P.rd (c+P.nx c),P.tp l']++P.run r (P.nx c) (P.nx c)::[]) (P.mm (c+P.nx c) (s++l')) w':=by simpa using h4
   have h7:=h6.cut rfl rfl;rw[AY]at h7;have hg:(P.DK++P.Z (s++l')++[P.bx,P.rd (c+P.nx c),P.tp l'])[P.DK.length+P.n+2]?=AE (Fz P.tb P.tg (P.q*P.k) P.k l'):=FR (j:=2) (I.S.len _);have h8:=h7.jt hg (a':=Fz P.tb P.tg (P.q*P.k) P.k []) VB (λ⟨q1,ws,q2,q3,q4⟩=>⟨q1,ws,q2,q3,by simp[EN]⟩) (λ_ hk=>hk) rfl rfl (λ_ _=>trivial);rw[GM (I.S.len _)]at h8;exact h8
 ·exact .inr ⟨he,Fy,z,_,[P.run r (P.nx c) told],l',m',.inr hz,.inl ⟨_,rfl⟩,λq O=>by rw[Bp.1 O];exact⟨rfl,rfl⟩,h3⟩
def FP.Fin(P:FP)(er:Int)(z:List DD)(m':Nat):Prop:=(er=0/\∃s,z=P.Z s/\P.Put P.count s/\m'=P.mm P.count s)\/(er=6/\¬P.X.cm/\Q6 P.X P.xw P.bd P.n P.Z z)
def FP.G0(P:FP)(er:Int)(W:World):Prop:=∃z rd tl l' m',P.Fin er z m'/\((∃c,rd=P.rd c)\/∃r',rd=Nn P.X.p P.x r')/\Dr tl/\Wd P.X (P.DK++z++P.bx::rd::P.tp l'::tl) m' W
def FP.G1(P:FP)(er:Int)(W:World):Prop:=∃z rd tl m',P.Fin er z m'/\((∃c,rd=P.rd c)\/∃r',rd=Nn P.X.p P.x r')/\Dr tl/\Wd P.X (P.DK++z++P.bx::rd::Dw::tl) m' W
def FP.G2(P:FP)(er:Int)(W:World):Prop:=∃z m',P.Fin er z m'/\Wd P.X (P.DK++z) m' W
theorem FP.A.fin(h:P.A P.count W):P.G0 0 W:=by
 obtain⟨s,J,I⟩:=h;exact⟨P.Z s,P.rd P.count,[],[],_,.inl ⟨rfl,s,rfl,J,rfl⟩,.inl ⟨_,rfl⟩,λq e=>(List.not_mem_nil e).elim,I⟩
theorem FP.No.fin(h:P.No W):P.G0 6 W:=by
 obtain⟨J,z,rd,e,l',m',I,h3,h4,h5⟩:=h;exact⟨z,rd,e,l',m',.inr ⟨rfl,J,I⟩,h3,h4,h5⟩
theorem FP.Fin.len(e:P.Ok){er}{z}{m'}(h:P.Fin er z m'):z.length=P.n:=by
 rcases h with⟨_,s,rfl,_⟩|⟨_,_,⟨s,_,rfl⟩|⟨t,r',_,h,_⟩⟩
 ·exact e.S.len s
 ·exact e.S.len s
 ·exact h
theorem FP.G0.release(Q:P.Ok){er}(u:Bf)(h:P.G0 er W):CallsD AP 70 #[AI P.X.p.a,AI P.tb] u W λe J w'=>J=u/\(e=AH true/\P.G1 er w'):=by
 obtain⟨z,rd,O,l',m',I,h2,h3,h4⟩:=h;have U:(P.DK++z++P.bx::rd::P.tp l'::O)[P.DK.length+P.n+2]?=AE (P.tp l'):=FR (j:=2) (I.len Q);refine(L4 u (b:=P.tb) (g:=P.tg) (M:=P.q*P.k) h4 U (λ_=>BO) rfl rfl).mono ?_;rintro e J w' ⟨hu,he,h5⟩;rw[GM (I.len Q)]at h5;exact⟨hu,he,z,rd,O,m',I,h2,h3,h5⟩
theorem FP.G1.close(hP:P.Ok){er}(u:Bf)(h:P.G1 er W):CallsD AP 47 #[AI P.x] u W λe O w'=>O=u/\(e=AH (AM #[])/\P.G2 er w'):=by
 obtain⟨z,rd,J,m',h1,h2,h3,h4⟩:=h;have hlen:=h1.len hP;have MU:∀r' w',Wd P.X (P.DK++z++P.bx::Nn P.X.p P.x r'::Dw::J) m' w'->P.G2 er w':=λr' w' h5=>by
  have h6:Wd P.X (P.DK++z++(P.bx::Nn P.X.p P.x r'::Dw::J)++[]) m' w':=by rw[AY];exact h5
  have U:=Wd.GB _ (λq I=>by
   rcases A8.1 I with rfl|I
   ·exact⟨rfl,rfl⟩
   ·rcases A8.1 I with rfl|I
    ·exact⟨rfl,rfl⟩
    ·rcases A8.1 I with rfl|I
     ·exact⟨rfl,rfl⟩
     ·exact h3 q I) h6
  rw[AY]at U;exact⟨z,m',h1,U⟩
 rcases h2 with⟨c,rfl⟩|⟨r',rfl⟩
 ·have Q:(P.DK++z++P.bx::P.rd c::Dw::J)[P.DK.length+P.n+1]?=AE (E0 P.X.p P.x (Gl P.rt c) P.X.sz P.l):=FR (j:=1) hlen;refine(Il u h4 Q).mono ?_;rintro e O w' ⟨hu,he,h5⟩;rw[GM hlen]at h5;exact⟨hu,he,MU _ _ h5⟩
 ·have Q:(P.DK++z++P.bx::Nn P.X.p P.x r'::Dw::J)[P.DK.length+P.n+1]?=AE (Nn P.X.p P.x r'):=FR (j:=1) hlen;refine(Lg u (h4.at_ Q)).mono ?_;rintro e O w' ⟨hu,he,rfl⟩;exact⟨hu,he,MU _ _ h4⟩
theorem FP.A.below(h:P.A c W)(hb:Below W W W'):P.A c W':=by obtain⟨s,I,e⟩:=h;exact⟨s,I,e.below hb⟩
theorem FP.A.rows(I:P.Ok){RB}{js sb w rb Dn:Nat}(O:P.DK[js]?=AE (Cv sb 193 (Ep w P.k P.hh rb Dn P.o RB P.bd)))(h:P.A c W):
  Row W sb 193 (Ep w P.k P.hh rb Dn P.o RB P.bd)/\Row W P.fb 28 [P.first,P.nb,P.k,P.count]/\Row W P.tb 119 [AJ P.tg (P.q*P.k) (P.q*P.k)]:=by
 obtain⟨s,Q,e⟩:=h;have hb:(P.DK++P.Z s++[P.bx,P.rd c,P.tp []])[P.DK.length+P.n+0]?=AE P.bx:=FR (j:=0) (I.S.len s);have J:(P.DK++P.Z s++[P.bx,P.rd c,P.tp []])[P.DK.length+P.n+2]?=AE (P.tp []):=FR (j:=2) (I.S.len s);exact⟨e.row (Za O),e.row hb,(e.at_ J).1⟩
end
section
variable{X:Cx}{DK:List DD}{o:Cy}{once RB:Bool}{k hh bd xw tT fP n:Nat}{vT:Value}{Z:List Cy->List DD}{js sb rb Dn first nb count m:Nat}{l:List Cy}{W:World}
theorem qx(hS:o5 X o once k hh bd xw tT fP vT Z n)(Qr:DK[js]?=AE (Cv sb 193 (Ep X.p.w k hh rb Dn o RB bd)))
  (h:Wd X (DK++Z []) m W)(DN:Gh first nb k hh l X.sz)(hc:l.length=count)(EZ:Src DK X.sz first k hh l)
  (aB:0<rb/\rb<=100000)(ab:X.sz+(min count (rb*hh)*k)+DF DD.gw (DK++Z [])<=X.rm)(EC:X.rm<=1000000)(bj:count<=bd/\bd<=100000)(hn:X.N+m+3*count+3<=1000000):
  Calls AP 141 #[AI sb,AL #[first,nb,k,count],.iface tT vT] W λe w'=>
   (e=AH ()/\∃s,s.length=count/\Yo o (rb*hh) s/\Cl o l s/\ID k s/\Wd X (DK++Z s) (m+nb+I9 once o hh s) w')\/
   (e=AH (AA AB 6)/\¬X.cm/\∃z m',Q6 X xw bd n Z z/\Wd X (DK++z) m' w'):=by
 have Fa:=hS.len [];have aR:∀W z UL m,Wd X (DK++z++UL) m W->Row W sb 193 (Ep X.p.w k hh rb Dn o RB bd):=λW z UL m h=>h.row (Za Qr);obtain⟨W1,EJ⟩:=ae (W.alloc (AK #[first,nb,k,count] 28));have Dg:Below W W W1:=by rw[EJ];exact(AS _ _).alloc ar _
 have Et:Row W1 W 28 [first,nb,k,count]:=by rw[EJ];exact heap_alloc_new _ _
 have O:Wd X (DK++Z []++[Cv W 28 [first,nb,k,count]]) m W1:=h.new Dg Et ar;have FQ:=AO EJ;generalize LL:W.heap.size=fb at*
 generalize hM:min count (rb*hh)=q at*
 have aC:q<=count/\q<=rb*hh:=by rw[<-hM];exact⟨Nat.min_le_left _ _,Nat.min_le_right _ _⟩
 let P0:Nat->Nat->Nat->Nat->Nat->FP:=λx b g tb I=>⟨X,DK,Z,o,once,k,hh,bd,xw,tT,fP,vT,n,first,nb,count,q,m,fb,x,b,g,tb,I,l⟩
 have Gu:DF DD.gw (DK++Z []++[Cv fb 28 [first,nb,k,count]])=DF DD.gw (DK++Z []):=by rw[D9];rfl
 have Lx:Hid (∀d,Calls AP 46 #[AI (AE ⟨X.p.w,0,AD⟩),AL #[AA AB first,AA AB nb,AA AB k,AA AB count]] (W1.drewN d) λe w'=>∃x b g,e=AH (AM #[AI (AE ⟨x,0,AD⟩),AA AB 0])/\
   JG (⟨k,hh,first,nb,count,0,b,g⟩:Rt) X.sz/\Wd X (DK++Z []++[Cv fb 28 [AA AB first,AA AB nb,AA AB k,AA AB count],E0 X.p x ⟨k,hh,first,nb,count,0,b,g⟩ X.sz l]) m w'):=λd=>by
  have J:=Mo (O.drewN d) first nb k hh count l DN.Pp DN.hh.1 (by rw[<-hc];exact DN.bn) a5 DN.fst (by rw[Gu];omega);refine J.mono ?_;rintro e w' ⟨x,b,g,h3,h4,h5⟩;refine⟨x,b,g,h3,h4,?_⟩;rw[AR]at h5;exact h5
 have YS:Hid (∀x b g W,JG (⟨k,hh,first,nb,count,0,b,g⟩:Rt) X.sz->Wd X (DK++Z []++[Cv fb 28 [first,nb,k,count],E0 X.p x ⟨k,hh,first,nb,count,0,b,g⟩ X.sz l]) m W->
   Calls AP 54 #[AI (AE ⟨X.p.a,0,AD⟩),AA AB ((q*k:Nat):Int)] W λe w'=>∃tb I,e=AH (AM #[AI (AE ⟨tb,0,AD⟩),AA AB 0])/\(P0 x b g tb I).Ok/\(P0 x b g tb I).A 0 w'):=λx b g W GU J=>by
  have Xg:q*k<=1000000:=a5;have Ff:DF DD.gw (DK++Z []++[Cv fb 28 [first,nb,k,count],E0 X.p x ⟨k,hh,first,nb,count,0,b,g⟩ X.sz l])=DF DD.gw (DK++Z [])+X.sz:=by
   rw[DP,EL,EL];show _+(0+(X.sz+0))= _;omega
  refine(Wh J (q*k) (by rw[Ff];omega) Xg).mono ?_;rintro e w' ⟨tb,I,he,h3⟩;refine⟨tb,I,he,⟨hS,DN,hc,EZ,⟨aC.1,Xg⟩,bj,hn,GU⟩,[],⟨rfl,λj=>by rw[List.drop_nil,List.take_nil];exact Oz o,by rw[Bs];exact Cl.refl _ _,λu hu=>by cases hu⟩,?_⟩;rw[AR]at h3;have h4:Wd X (DK++Z []++[Cv fb 28 [first,nb,k,count],E0 X.p x ⟨k,hh,first,nb,count,0,b,g⟩ X.sz l,xL tb I (q*k)]) m w':=h3;have bb:(DK++Z []++[Cv fb 28 [first,nb,k,count],E0 X.p x ⟨k,hh,first,nb,count,0,b,g⟩ X.sz l,xL tb I (q*k)])[DK.length+n+2]?=AE (xL tb I (q*k)):=FR (j:=2) Fa;have h5:=h4.jt bb (a':=Fz tb I (q*k) k []) VB (λ⟨q1,ws,q2,q3⟩=>⟨q1,ws,q2,q3,by simp[EN]⟩) (λ_ hk=>hk) rfl rfl (λ_ _=>trivial);rw[GM Fa]at h5;show Wd X (DK++Z []++[Cv fb 28 [first,nb,k,count],E0 X.p x (Gl ⟨k,hh,first,nb,count,0,b,g⟩ 0) X.sz l,Fz tb I (q*k) k []]) (m+Cu hh 0+(Dt once o []).length/hh) w';have e1:(Dt once o []).length/hh=0:=by
   have:(Dt once o []).length=0:=by unfold Dt;split<;>rfl
   rw[this,Nat.zero_div]
  rw[e1,Dx];exact h5
 have bF:Hid (∀z UL m W,Wd X (DK++z++UL) m W->Calls AP 21 #[AI X.p.w] W λe w'=>e=AH (AI X.p.a)/\w'=W):=λz UL m W h=>Nk h;have Jb:Hid (∀(UL:List DD) (m:Nat) (W:World),Wd X (DK++Z []++Cv fb 28 [first,nb,k,count]::UL) m W->
   Row W sb 193 (Ep X.p.w k hh rb Dn o RB bd)/\Row W fb 28 [first,nb,k,count]):=λUL m W h=>⟨aR _ _ _ _ h,h.row (FR (j:=0) Fa)⟩
 have Du:Hid (∀x b g tb I er w',(P0 x b g tb I).G2 er w'->(er=0/\∃s,s.length=count/\Yo o (rb*hh) s/\Cl o l s/\ID k s/\Wd X (DK++Z s) (m+nb+I9 once o hh s) w')\/
   (er=6/\¬X.cm/\∃z m',Q6 X xw bd n Z z/\Wd X (DK++z) m' w')):=λx b g tb I er w' h=>by
  obtain⟨z,m',O,J⟩:=h;rcases O with⟨he,s,rfl,hp,rfl⟩|⟨he,Fy,hz⟩
  ·refine .inl ⟨he,s,hp.len,?_,?_,hp.fit,?_⟩
   ·have hlen:s.length=count:=hp.len;have nt:Yo o q s:=hp.asc;intro j;rcases Ak count (rb*hh)with bW|b4
    ·have hq:q=count:=a5
     cases j with
     |zero=>
      have h3:=nt 0;rw[CY,Cr,Ay a5]at h3⊢;exact h3
     |succ j=>
      have h4:rb*hh<=(j+1)*(rb*hh):=Nat.le_mul_of_pos_left _ a5;rw[List.drop_eq_nil_of_le a5,List.take_nil];exact Oz o
    ·have hq:q=rb*hh:=a5;rw[<-hq];exact nt j
   ·have h3:Cl o (l.take count) s:=hp.cl;rwa [Ay a5]at h3
   ·have h3:Wd X (DK++Z s) (m+Cu hh count+I9 once o hh s) w':=J;rwa [<-hc,<-DN.bn]at h3
  ·exact .inr ⟨he,Fy,z,m',hz,J⟩
 have bt:=AO O;have Fx:count<=100000:=a5;have Jw:0<hh/\hh<=254:=⟨DN.hh.1,DN.hh.2.2⟩;have b3:=DN.kk;have au:=AO (Jb.out [] m W1 O);have bn:Hid (0<count->0<q):=λh=>by rw[<-hM];exact Nat.lt_min.2 ⟨h,Nat.mul_pos aB.1 Jw.1⟩
 have a2:q*k<=1000000:=a5;clear h O Dg Et EJ Gu DN hc EZ ab hn aR;obtain⟨Q,hQ⟩:=ao (rb*hh);have hmul:(rb:Int)*(hh:Int)=(Q:Int):=by rw[<-hQ];exact(Br rb hh).symm
 have b5:Q<=25400000:=by
  rw[<-hQ];exact Nat.mul_le_mul aB.2 Jw.2
 rw[hQ]at hM;have HM:=AO hM;obtain⟨N,hN⟩:=ao (q*k);have ba:(q:Int)*(k:Int)=(N:Int):=by rw[<-hN];exact(Br q k).symm
 rw[hN]at YS;have ay:=AO hN;have b6:N<=1000000:=by rw[<-hN];exact a2
 have bS:q<=100000:=a5;clear hQ hM hN aC a2;go_enter_defers func141,ntmps141
 go_upto_region 1 with(fail)
 rw[<-FQ.out];clear FQ;have Et:=Lx.out 1;rw[show W1.drewN 1=W1.drew from rfl]at Et;have Ka:=AO Et;clear Et;have Xe:=au.out.1.cell 4;have jX:W1.drew.cell? (sb,4)=AE (AI X.p.w):=au.out.1.cell 4;have aE:W1.drew.cell? ⟨fb,0,AD⟩=AE (AA AB first):=au.out.2.cell 0;have Dg:W1.drew.cell? ⟨fb,1,AD⟩=AE (AA AB nb):=au.out.2.cell 1;have DT:W1.drew.cell? ⟨fb,2,AD⟩=AE (AA AB k):=au.out.2.cell 2;have ED:W1.drew.cell? ⟨fb,3,AD⟩=AE (AA AB count):=au.out.2.cell 3;clear Xe;go_region_held3 (λw'=>w'.cell? ⟨sb,4,AD⟩=AE (AI (AE ⟨X.p.w,0,AD⟩))/\w'.cell? ⟨fb,0,AD⟩=AE (AA AB first)/\w'.cell? ⟨fb,1,AD⟩=AE (AA AB nb)/\w'.cell? ⟨fb,2,AD⟩=AE (AA AB k)/\w'.cell? ⟨fb,3,AD⟩=AE (AA AB count)) (first|with_reducible exact⟨jX,aE,Dg,DT,ED⟩|with_reducible exact q2)
  ((go_at_call 46;(with_reducible refine Ka.out.mono ?_);rintro e w2 ⟨x,b,g,rfl,GU,J⟩;obtain⟨IF,H2,q2⟩:Hid (JG (⟨k,hh,first,nb,count,0,b,g⟩:Rt) X.sz)/\Hid (Wd X (DK++Z []++[Cv fb 28 [AA AB first,AA AB nb,AA AB k,AA AB count],E0 X.p x ⟨k,hh,first,nb,count,0,b,g⟩ X.sz l]) m w2)/\(w2.cell? ⟨sb,4,AD⟩=AE (AI (AE ⟨X.p.w,0,AD⟩))/\w2.cell? ⟨fb,0,AD⟩=AE (AA AB first)/\w2.cell? ⟨fb,1,AD⟩=AE (AA AB nb)/\w2.cell? ⟨fb,2,AD⟩=AE (AA AB k)/\w2.cell? ⟨fb,3,AD⟩=AE (AA AB count)):=⟨GU,J,(Jb.out _ _ _ J).1.cell 4,(Jb.out _ _ _ J).2.cell 0,(Jb.out _ _ _ J).2.cell 1,(Jb.out _ _ _ J).2.cell 2,(Jb.out _ _ _ J).2.cell 3⟩))
 have Lw:=AO (Jb.out _ _ _ H2.out);clear jX aE Dg DT ED q2 GU J;have ED:w2.drew.cell? ⟨fb,3,AD⟩=AE (AA AB count):=Lw.out.2.cell 3;have jX:w2.drew.cell? ⟨sb,1,AD⟩=AE (AA AB hh):=Lw.out.1.cell 1;have Sl:w2.drew.cell? ⟨sb,2,AD⟩=AE (AA AB rb):=Lw.out.1.cell 2;have aq:Ab.wrap (Q:Int)=(Q:Int):=Al _ a5;have aA:Ab.wrap (N:Int)=(N:Int):=Al _ a5;have aS:=AO aA;clear aA;have Lp:(if Ab.wrap (Q:Int)<(count:Int)then Ab.wrap (Q:Int)else (count:Int))=(q:Int):=by
  rw[aq,<-HM.out];split<;>omega
 have bp:=AO Lp;have bk:=AO aq;clear Lp aq;go_wp2_with fail
 have H3:=AO (H2.out.drewN 1);rw[show w2.drewN 1=w2.drew from rfl]at H3;go_region_held3 (λw'=>w'.cell? ⟨fb,3,AD⟩=AE (AA AB count)/\w'.cell? ⟨sb,1,AD⟩=AE (AA AB hh)/\w'.cell? ⟨sb,2,AD⟩=AE (AA AB rb)) (with_reducible exact⟨ED,jX,Sl⟩) (fail)
 rw[bp.out,bk.out];clear ED jX Sl Lw H2;generalize w2.drew=w3 at*
 have bu:Hid (∀tb I,P0 x b g tb I=P0 x b g tb I):=λ_ _=>rfl;have PT:=λd=>YS.out x b g (w3.drewN d) IF.out (H3.out.drewN d);have Xq:=PT 1;rw[show w3.drewN 1=w3.drew from rfl]at Xq;rw[<-aS.out]at Xq;have vO:=AO Xq;have zu:=bF.out _ _ _ _ (H3.out.drewN 1);rw[show w3.drewN 1=w3.drew from rfl]at zu;have WG:=AO zu;clear PT Xq zu bu;have dJ:=AO (Jb.out _ _ _ H3.out);have jX:w3.drew.cell? (sb,4)=AE (AI X.p.w):=dJ.out.1.cell 4;have Sl:w3.drew.cell? sb=AE (AA AB k):=dJ.out.1.cell 0;go_wp2_with fail
 go_region_held3 (λw'=>w'.cell? ⟨sb,4,AD⟩=AE (AI (AE ⟨X.p.w,0,AD⟩))/\w'.cell? ⟨sb,0,AD⟩=AE (AA AB k)) (first|with_reducible exact⟨jX,Sl⟩|with_reducible exact q4)
  (first
   |(go_at_call 21;(with_reducible refine WG.out.mono ?_);rintro e w4 ⟨rfl,rfl⟩)
   |(go_at_call 54;(with_reducible refine vO.out.mono ?_);rintro e w4 ⟨tb,I,rfl,uC,hA⟩;obtain⟨HP,HA,q4⟩:Hid (P0 x b g tb I).Ok/\Hid ((P0 x b g tb I).A 0 w4)/\(w4.cell? ⟨sb,4,AD⟩=AE (AI (AE ⟨X.p.w,0,AD⟩))/\w4.cell? ⟨sb,0,AD⟩=AE (AA AB k)):=⟨uC,hA,(hA.rows uC Qr).1.cell 4,(hA.rows uC Qr).1.cell 0⟩))
 rw[aS.out];have bq:Hid (∀c r W,c<=count->(P0 x b g tb I).B c r W->Calls AP 148 #[AI (AE ⟨r,0,AD⟩),.iface 81 (AI (AE ⟨x,0,AD⟩))] W λe w'=>(e=AH (AA AB 0)/\(P0 x b g tb I).C c r w')\/(e=AH (AA AB 6)/\(P0 x b g tb I).No w')):=λc r W O J=>FP.B.load HP.out O J;have bC:Hid (∀c r W,(P0 x b g tb I).C c r W->Calls AP 149 #[.iface 221 (AI (AE ⟨r,0,AD⟩))] W λe w'=>e=AH (AM #[])/\(P0 x b g tb I).D c r w'):=λc r W J=>FP.C.yR HP.out J;have T5:Hid (∀c r W (i:Nat),c<count->c=i*q->(P0 x b g tb I).D c r W->Calls AP 138 #[.iface 221 (AI (AE ⟨r,0,AD⟩)),.iface tT vT] W λe w'=>(e=AH (AA AB 0)/\(P0 x b g tb I).A (c+min q (count-c)) w')\/(e=AH (AA AB 6)/\(P0 x b g tb I).No w')):=λc r W i O J h3=>FP.D.ye HP.out O J h3;have HB:Hid (∀c W W' r N',N'=min q (count-c)*k->(P0 x b g tb I).A c W->Below W.heap.size W W'->Row W' r 225 (Jg k I N' N o 0)->W.heap.size<=r->(P0 x b g tb I).B c r W'):=λc W W' r N' ad O J h3 h4=>FP.toB O J (by rw[ad,<-ay.out]at h3;exact h3) h4;have YQ:Hid (∀c W,(P0 x b g tb I).A c W->Row W sb 193 (Ep X.p.w k hh rb Dn o RB bd)/\Row W fb 28 [AA AB first,AA AB nb,AA AB k,AA AB count]/\Row W tb 119 [AJ (AE ⟨I,0,AD⟩) N N]):=λc W O=>by
  have J:=O.rows HP.out Qr;rw[<-ay.out];exact J
 have dS:Hid (∀c W W',(P0 x b g tb I).A c W->Below W.heap.size W W'->(P0 x b g tb I).A c W'):=λc W W' O J=>O.below J;have jn:Hid (∀c W,(P0 x b g tb I).A c W->Calls AP 21 #[AI (AE ⟨X.p.w,0,AD⟩)] W λe w'=>e=AH (AI (AE ⟨X.p.a,0,AD⟩))/\w'=W):=λc W O=>by
  obtain⟨s,_,J⟩:=O;exact bF.out _ _ _ _ J
 have bw:Hid (∀W,(P0 x b g tb I).A count W->(P0 x b g tb I).G0 0 W):=λW O=>FP.A.fin O;have vS:Hid (∀W,(P0 x b g tb I).No W->(P0 x b g tb I).G0 6 W):=λW O=>FP.No.fin O;have ax:Hid (∀er u W,(P0 x b g tb I).G0 er W->CallsD AP 70 #[AI (AE ⟨X.p.a,0,AD⟩),AI (AE ⟨tb,0,AD⟩)] u W λe u' w'=>u'=u/\(e=AH (.bool true)/\(P0 x b g tb I).G1 er w')):=λer u W O=>FP.G0.release HP.out u O;have GR:Hid (∀er u W,(P0 x b g tb I).G1 er W->CallsD AP 47 #[AI (AE ⟨x,0,AD⟩)] u W λe u' w'=>u'=u/\(e=AH (AM #[])/\(P0 x b g tb I).G2 er w')):=λer u W O=>FP.G1.close HP.out u O;have pZ:=AO (Du.out x b g tb I);clear uC hA q4 Du bF Jb YS Lx vO WG dJ H3 IF bt au jX Sl ay HP;generalize(P0 x b g tb I).A=FA at*
 generalize(P0 x b g tb I).B=FB at*
 generalize(P0 x b g tb I).C=FC at*
 generalize(P0 x b g tb I).D=FD at*
 generalize(P0 x b g tb I).No=FN at*
 generalize(P0 x b g tb I).G0=F0 at*
 generalize(P0 x b g tb I).G1=F1 at*
 generalize(P0 x b g tb I).G2=F2 at*
 clear P0;have hs:=AO (YQ.out 0 w4 HA.out);have ca:=hs.out.1.cell 4;have cb:=hs.out.2.1.cell 3;have yD:=AO (jn.out 0 w4 HA.out);go_wp2_with fail
 refine yD.out.mono ?_;rintro e w5 ⟨rfl,rfl⟩;go_wp2_with fail
 go_loopw [11] (λiv wr=>∃(i c:Nat) (z:Int),iv=AA AB z/\c<=count/\(0<z->c=i*q/\z=(count:Int)-(c:Int))/\(z<=0->c=count)/\-1000000<=z/\z<=1000000/\Hid (FA c wr)) (λiv _=>(BF iv).toNat)
 case atStart=>exact⟨0,0,(count:Int),rfl,a5,λ_=>⟨a8,a5⟩,λh=>by omega,a5,a5,HA⟩
 case round=>
  obtain⟨i,c,z,rfl,bc,FJ,KU,cA,a9,al⟩:=hrel;clear HA yD hs ca cb;by_cases hz:0<z
  ·obtain⟨aD,a7⟩:=FJ hz;obtain⟨lf,cK⟩:∃lf:Nat,count-c=lf:=⟨_,rfl⟩;have b1:0<lf:=a5;have b2:lf<=100000:=a5;obtain rfl:z=(lf:Int):=a5;obtain⟨q',jR⟩:=ao (min q lf);obtain⟨N',ad⟩:=ao (q'*k);have a0:Hid (0<q'/\q'<=q/\q'<=lf/\q=min q q'+(q-q')):=by
    have:=bn.out a5;unfold Hid;omega
   have cg:(q':Int)*(k:Int)=(N':Int):=by rw[<-ad];exact(Br q' k).symm
   have b8:N'<=N:=by
    have h9:q'*k<=q*k:=Af k (by have:=a0.out;omega);have h8:((q*k:Nat):Int)=(N:Int):=by rw[Br];exact ba
    omega
   have Te:Ab.wrap (N':Int)=(N':Int):=Al _ a5;have Lp:(if (lf:Int)<(q:Int)then (lf:Int)else (q:Int))=(q':Int):=by rw[<-jR];split<;>omega
   have wS:(if lf<q then (lf:Int)else (q:Int))=(q':Int):=by rw[<-jR];split<;>omega
   have a1:=AO aD;have xo:=AO cK;have qY:=AO jR;have bo:=AO ad;have cf:=AO Lp;have vA:=AO Te;have cd:(0:Int)<=(N':Int):=a5;have cc:(N':Int)<=(N:Int):=a5;clear FJ KU a7 aD cK jR ad cA a9;have hR:=YQ.out c wr al.out;have t0:wr.drew.cell? tb=AE (AJ I N N):=hR.2.2.cell 0;have s0:wr.drew.cell? sb=AE (AA AB k):=hR.1.cell 0;have an:=AO (dS.out c wr (wr.drewN 1) al.out (DA (AS _ _) 1));rw[show wr.drewN 1=wr.drew from rfl]at an;clear hR;go_wp2_with fail
   go_region_held3 (λw'=>w'.cell? tb=AE (AJ I N N)/\w'.cell? sb=AE (AA AB k)) (with_reducible exact⟨t0,s0⟩) (fail)
   clear t0 s0 Lp wS Te;generalize wr.drew=U at*
   have aw:∀W,FA c W->W.cell? sb=AE (AA AB k)/\W.cell? (sb,5)=AE (AA AB o.a)/\W.cell? (sb,6)=AE (AA AB o.b)/\W.cell? (sb,7)=AE (AA AB o.c)/\W.cell? (sb,8)=AE (AA AB o.d)/\W.cell? (sb,9)=AE (AA AB o.e):=λW h=>⟨(YQ.out c W h).1.cell 0,(YQ.out c W h).1.cell 5,(YQ.out c W h).1.cell 6,(YQ.out c W h).1.cell 7,(YQ.out c W h).1.cell 8,(YQ.out c W h).1.cell 9⟩;have az:=AO (dS.out c U (U.drewN 1) an.out (DA (AS _ _) 1));rw[show U.drewN 1=U.drew from rfl]at az;have s1:=aw _ az.out;have Js:Below U U ((U.alloc (AK #[k,AJ I N' N,o.a,o.b,o.c,o.d,o.e,()] 225)).drew):=((AS U U).alloc ar _).drew;have s2:=aw _ (dS.out c _ _ an.out Js);have a3:Row (U.alloc (AK #[k,AJ I N' N,o.a,o.b,o.c,o.d,o.e,()] 225)) U 225 (Jg k I N' N o 0):=heap_alloc_new _ _;have av:=Row.drewN a3 1;rw[show∀w:World,w.drewN 1=w.drew from λ_=>rfl]at av;clear a3;have bA:=AO (HB.out c U _ U N' (by rw[xo.out,qY.out,bo.out]) an.out Js av ar);clear av;clear aw Js;go_wp2_with fail
   go_region_held3 (λW=>W.cell? sb=AE (AA AB k)/\W.cell? (sb,5)=AE (AA AB o.a)/\W.cell? (sb,6)=AE (AA AB o.b)/\W.cell? (sb,7)=AE (AA AB o.c)/\W.cell? (sb,8)=AE (AA AB o.d)/\W.cell? (sb,9)=AE (AA AB o.e)) (first|with_reducible exact s1|with_reducible exact s2) (fail)
   clear s1 s2 an az al;generalize(U.alloc (AK #[k,AJ I N' N,o.a,o.b,o.c,o.d,o.e,()] 225)).drew=w8 at*
   generalize U.heap.size=r at*
   have bs:=AO (bq.out c r w8 bc bA.out);go_wp2_with fail
   refine bs.out.mono ?_;rintro e w9 (⟨rfl,h9⟩|⟨rfl,h9⟩)
   ·have bm:=AO (bC.out c r w9 h9);clear h9;go_wp2_with fail
    refine bm.out.mono ?_;rintro e Lf ⟨rfl,OH⟩;have bB:=AO (T5.out c r Lf i (by have:=xo.out;omega) a1.out OH);clear OH;go_wp2_with fail
    refine bB.out.mono ?_;rintro e bD (⟨rfl,Xv⟩|⟨rfl,Xv⟩)
    ·have jK:=AO Xv;clear Xv;obtain⟨z9,bE⟩:∃z9:Int,(lf:Int)-(q:Int)=z9:=⟨_,rfl⟩;have ch:-100000<=z9/\z9<=100000:=a5;have cj:z9<(lf:Int):=by have:=a0.out;omega
     go_wp2
     go_roundw
     case rel=>
      have O:=xo.out;have J:=a1.out;refine⟨i+1,c+min q (count-c),z9,rfl,a5,λh=>⟨?_,a5⟩,λh=>by omega,a5,a5,jK.out⟩;rw[A7,BH];omega
     case measure=>simp[BF];omega
    ·have jK:=AO (vS.out _ Xv);clear Xv;go_wp2
     refine A6 (f:=70) (args:=#[AI X.p.a,AI tb]) a8 (by simp[go_sem]) ?_;refine(ax.out 6 _ _ jK.out).mono ?_;rintro e u1 Iu ⟨rfl,rfl,JZ⟩;refine A6 (f:=47) (args:=#[AI x]) (by simp[settle]) (by simp[go_sem]) ?_;refine(GR.out 6 _ _ JZ).mono ?_;rintro e u2 jN ⟨rfl,rfl,Pw⟩;refine⟨AA AB 6,by simp[results,Tryz.results141,go_sem],?_⟩;rcases pZ.out 6 jN Pw with⟨Tk,PV⟩|⟨Tk,PV⟩
     ·exact absurd Tk a6
     ·exact .inr ⟨rfl,PV⟩
   ·have jK:=AO (vS.out _ h9);clear h9;go_wp2
    refine A6 (f:=70) (args:=#[AI X.p.a,AI tb]) a8 (by simp[go_sem]) ?_;refine(ax.out 6 _ _ jK.out).mono ?_;rintro e u1 Iu ⟨rfl,rfl,JZ⟩;refine A6 (f:=47) (args:=#[AI x]) (by simp[settle]) (by simp[go_sem]) ?_;refine(GR.out 6 _ _ JZ).mono ?_;rintro e u2 jN ⟨rfl,rfl,Pw⟩;refine⟨AA AB 6,by simp[results,Tryz.results141,go_sem],?_⟩;rcases pZ.out 6 jN Pw with⟨Tk,PV⟩|⟨Tk,PV⟩
    ·exact absurd Tk a6
    ·exact .inr ⟨rfl,PV⟩
  ·obtain rfl:c=count:=KU a5;have jK:=AO (bw.out _ al.out);clear al FJ KU;have g1:decide ((0:Int)<z)=false:=by simp;omega
   go_wp2
   refine A6 (f:=70) (args:=#[AI X.p.a,AI tb]) a8 (by simp[go_sem]) ?_;refine(ax.out 0 _ _ jK.out).mono ?_;rintro e u1 Iu ⟨rfl,rfl,JZ⟩;refine A6 (f:=47) (args:=#[AI x]) (by simp[settle]) (by simp[go_sem]) ?_;refine(GR.out 0 _ _ JZ).mono ?_;rintro e u2 jN ⟨rfl,rfl,Pw⟩;refine⟨AA AB 0,by simp[results,Tryz.results141,go_sem],?_⟩;rcases pZ.out 0 jN Pw with⟨Tk,PV⟩|⟨Tk,PV⟩
   ·exact .inl ⟨rfl,PV⟩
   ·exact absurd Tk a6
end
section
variable{W:World}{sb w k hh rb Dn cnt first nb count pa pb:Nat}{o:Cy}{once:Bool}
theorem XI(hr:Row W sb 193 (Ep w k hh rb Dn o once cnt))(hb:first<=2000000/\nb<=2000000/\count<=100000000/\pa<=nb/\pb<=100000000/\hh<=254)(hA:pa*hh<=count):
  Calls AP 151 #[AI sb,AL #[first,nb,k,count],pa,pb] W λe w'=>
   e=AH (KH (first+pa) (min pb (nb-pa)) k (min (pb*hh) (count-pa*hh)))/\Below W W w':=by
 obtain⟨W1,EJ,Dg,tO,Et,EC⟩:=TM W [first,nb,k,count] [(),(),(),()] 28 28;have wH:=hr.below Dg hr.lt;have FQ:=AO EJ;have NQ:=AO Dg;have Ka:=AO Et;have O8:=AO EC;have az:=AO wH;obtain⟨d,hd⟩:=ao (nb-pa);obtain⟨Q,U⟩:=ao (pb*hh);obtain⟨A,Ny⟩:=ao (pa*hh);rw[Ny]at hA;obtain⟨R,hR⟩:=ao (count-A);obtain⟨F,hF⟩:=ao (first+pa);have Gp:(nb:Int)-(pa:Int)=(d:Int):=a5;have G9:(pb:Int)*(hh:Int)=(Q:Int):=by rw[<-U];exact(Br pb hh).symm
 have Tg:(pa:Int)*(hh:Int)=(A:Int):=by rw[<-Ny];exact(Br pa hh).symm
 have Xe:(count:Int)-(A:Int)=(R:Int):=a5;have mw:(first:Int)+(pa:Int)=(F:Int):=a5;have an:Q<=25400000000:=by rw[<-U];exact Nat.mul_le_mul hb.2.2.2.2.1 hb.2.2.2.2.2
 have OF:(if d<pb then (d:Int)else (pb:Int))=((min pb d:Nat):Int):=by split<;>omega
 have al:(if R<Q then (R:Int)else (Q:Int))=((min Q R:Nat):Int):=by split<;>omega
 have wd:Ab.wrap (d:Int)=(d:Int):=Al _ a5;have wQ:Ab.wrap (Q:Int)=(Q:Int):=Al _ a5;have wA:Ab.wrap (A:Int)=(A:Int):=Al _ a5;have wR:Ab.wrap (R:Int)=(R:Int):=Al _ a5;have wF:Ab.wrap (F:Int)=(F:Int):=Al _ a5;rw[hF,hd,U,Ny,hR];unfold KH;generalize ad:min pb d=J at*
 generalize ab:min Q R=I at*
 clear ad ab hd U Ny hR hF Dg Et EC wH hr EJ tO;go_enter func151,ntmps151
 go_upto_region 1 with(fail)
 rw[<-FQ.out];clear FQ;generalize O:W.heap.size=s at*
 have O7:=AO O;clear O;obtain⟨b0,b1,b2,b3⟩:=Ka.out.q4;have a1:W1.drew.cell? (sb,1)=AE (AA AB hh):=az.out.cell 1;obtain⟨e0,e1,e2,e3⟩:=O8.out.q4;obtain⟨f0,f1,f2,f3⟩:=O8.out.r4;refine wp_region_still_tail 31 a7 a7 ?_;simp only[List.take_succ_cons,Bs,List.drop_succ_cons,Cr];change wpStill AP _ W1.drew (λa'=>wpList AP _ _ _ a' W1.drew) _ _
 repeat still_step
 refine wpStill_nil ?_;go_wp2
 have EG:Row (((((W1.setCell (s+1,0) F).setCell (s+1,1) J).setCell (s+1,2) k).setCell (s+1,3) I).drew) (s+1) 28 [F,J,k,I]:=((((O8.out.set 0 F).set 1 J).set 2 k).set 3 I).drewN 1;have ae:Below W W (((((W1.setCell (s+1,0) F).setCell (s+1,1) J).setCell (s+1,2) k).setCell (s+1,3) I).drew):=by
  have h0:Below s W W1:=NQ.out;have h1:=h0.setCell (p:=(s+1,0)) (by show s<=s+1;omega) F;have h2:=h1.setCell (p:=(s+1,1)) (by show s<=s+1;omega) J;have h3:=h2.setCell (p:=(s+1,2)) (by show s<=s+1;omega) k;have h4:=(h3.setCell (p:=(s+1,3)) (by show s<=s+1;omega) I).drew;rw[O7.out];exact h4
 generalize((((W1.setCell (s+1,0) F).setCell (s+1,1) J).setCell (s+1,2) k).setCell (s+1,3) I).drew=w9 at*
 obtain⟨q0,q1,q2,q3⟩:=EG.q4;exact BA (v:=AL #[F,J,k,I]) (by simp[results,Tryz.results151,go_sem,q0,q1,q2,q3]) rfl ⟨rfl,ae⟩
end
section
variable{α:Type}{sx:Nat}{d:α}{lt:α->α->Bool}{R:List α->World->Prop}{h:List α}{n:Nat}{W:World}
structure U1 (sx:Nat) (d:α) (lt:α->α->Bool) (R:List α->World->Prop):Prop where
 len:∀h W,R h W->Calls AP 161 #[AI sx] W λe w'=>e=AH h.length/\R h w'
 less:∀h W i j,R h W->i<h.length->j<h.length->Calls AP 193 #[AI sx,i,j] W λe w'=>e=AH (.bool (lt (h.getD i d) (h.getD j d)))/\R h w'
 swap:∀h W i j,R h W->i<h.length->j<h.length->Calls AP 196 #[AI sx,i,j] W λe w'=>e=AH (AM #[])/\R (swp d h i j) w'
theorem UG(x:Nat)(w:World):Bu AP (method 371 234 (AI x) "Less") w=.ok (193,AI x) w:=a7
theorem Pd(x:Nat)(w:World):Bu AP (method 371 234 (AI x) "Swap") w=.ok (196,AI x) w:=a7
theorem Rq(x:Nat)(w:World):Bu AP (method 371 234 (AI x) "Len") w=.ok (161,AI x) w:=a7
theorem qz(W:World):Calls AP 164 #[.iface 234 (AI sx),()] W λe w'=>e=AH (AM #[])/\w'=W:=by
 go_enter func164,ntmps164
 go_wp2_with fail
 go_loopw [1] (λI wr=>I=AA AB 0/\wr=W) (λ_ _=>0)
 case atStart=>exact⟨rfl,rfl⟩
 case round=>
  obtain⟨rfl,rfl⟩:=hrel;go_wp2
  go_end0
  exact⟨rfl,rfl⟩
theorem RN{i j}(hi:i<h.length)(J:j<h.length):Chg (λp=>h.getD p d) (λp=>(swp d h i j).getD p d) i j:=λp=>by
 show (swp d h i j).getD p d=if p=i then h.getD j d else if p=j then h.getD i d else h.getD p d
 rw[FH hi J];by_cases I:p=i
 ·by_cases e:p=j
  ·rw[if_pos e,if_pos I,<-I,<-e]
  ·rw[if_neg e,if_pos I,if_pos I]
 ·by_cases e:p=j
  ·rw[if_pos e,if_neg I,if_pos e]
  ·rw[if_neg e,if_neg I,if_neg I,if_neg e]
variable [DecidableEq α]
def p7(d:α)(lt:α->α->Bool)(R:List α->World->Prop)(h:List α)(n:Nat)(e:Ending)(w':World):Prop:=∃b h',e=AH (.bool b)/\Hp lt (λp=>h'.getD p d) n/\h'.Perm h/\(∀p,n<=p->h'.getD p d=h.getD p d)/\(b=false->h'=h)/\R h' w'
theorem UY(hC:U1 sx d lt R)(ho:qW lt)(hr:R h W)(hn:n<=h.length/\n<=1000000)(hx:jC lt (λp=>h.getD p d) n 0):
  Calls AP 199 #[.iface 234 (AI sx),(),n] W (p7 d lt R h n):=by
 have HC:=AO hC;have hO:=AO ho;have mL:=UG sx;have mS:=Pd sx;have aq:=AO hx;have NP:=AO hr;obtain⟨RF,PR⟩:=hn;clear hC ho hx hr;go_enter func199,ntmps199
 go_wp2_with fail
 go_loopw [7] (λiv wr=>∃(i:Nat) (h':List α),iv=AA AB (i:Nat)/\i<=n/\h'.length=h.length/\(i=0->h'=h)/\Hid (jC lt (λp=>h'.getD p d) n i)/\Hid (h'.Perm h)/\Hid (∀p,n<=p->h'.getD p d=h.getD p d)/\Hid (R h' wr)) (λiv _=>n-(BF iv).toNat)
 case atStart=>exact⟨0,h,rfl,a5,rfl,λ_=>rfl,aq,Ci _,λ_ _=>rfl,NP⟩
 case round=>
  obtain⟨i,h',rfl,NH,hlen,h0,HX,HP,HT,h3⟩:=hrel;generalize wr=w2 at*
  clear aq NP;obtain⟨e2,tw⟩:=ao (2*i);obtain⟨I,Li⟩:=ao (e2+1);obtain⟨J,Sf⟩:=ao (I+1);have m1:(2:Int)*(i:Int)=(e2:Int):=a5;have m2:(e2:Int)+1=(I:Int):=a5;have m3:(I:Int)+1=(J:Int):=a5;have M5:2*i+1<=I/\I<=2*i+1/\J<=2*i+2/\2*i+2<=J:=a5;have ad:Hid (∀j,0<j->par j=i->j=I\/j=J):=λj _ hj=>by unfold par at hj;omega
  have au:e2<=2*i/\2*i<=e2:=a5;clear tw Li Sf;have al:∀a,lt a a=false:=λa=>by
   cases hq:lt a a with
   |false=>rfl
   |true=>have:=hO.out.asym a a hq;rw[hq]at this;exact this
  have ae:=AO al;clear al;by_cases av:I<n
  ·by_cases ar:J<n
   ·have Tm:=AO (HC.out.less h' w2 J I h3.out a5 a5);clear h3;go_wp2_with fail
    refine Tm.out.mono ?_;rintro e w3 ⟨rfl,h3⟩;replace h3:=AO h3;by_cases Dg:lt (h'.getD J d) (h'.getD I d)=true
    ·rw[Dg];have HM:Hid (∀j,0<j->j<n->par j=i->lt (h'.getD j d) (h'.getD J d)=false):=λj j0 j1 j2=>by
      rcases ad.out j j0 j2 with rfl|rfl
      ·exact hO.out.asym _ _ Dg
      ·exact ae.out _
     clear Dg;have O:J<h'.length:=a5;have vM:=AO (HC.out.less h' w3 J i h3.out O a5);go_wp2_with fail
     refine vM.out.mono ?_;rintro e w4 ⟨rfl,h4⟩;replace h4:=AO h4;by_cases DT:lt (h'.getD J d) (h'.getD i d)=true
     ·rw[DT];have Lw:=AO (HC.out.swap h' w4 i J h4.out a5 O);have G7:=AO (HX.out.step hO.out (c:=J) a5 a5 DT HM.out (RN a5 O));have Oj:(swp d h' i J).length=h'.length:=Fb;have Q:=AO ((Kf (d:=d) (i:=i) (j:=J) a5 O).trans HP.out);have WC:Hid (∀p,n<=p->(swp d h' i J).getD p d=h.getD p d):=λp hp=>by rw[FH a5 O,if_neg a5,if_neg a5];exact HT.out p hp
      have an:i<J:=a5;have M5:J<n:=a5;generalize swp d h' i J=h2 at*
      clear DT;go_wp2_with fail
      refine Lw.out.mono ?_;rintro e w5 ⟨rfl,h5⟩;replace h5:=AO h5;go_wp2
      go_roundw
      case rel=>exact⟨J,h2,rfl,a5,a5,λh0=>by omega,G7,Q,WC,h5⟩
      case measure=>simp[BF];omega
     ·have ED:lt (h'.getD J d) (h'.getD i d)=false:=by simpa using DT
      rw[ED];have U:=AO (HX.out.stop hO.out ED HM.out);clear DT ED;by_cases FW:i=0
      ·subst FW;obtain rfl:=h0 rfl;go_wp2
       go_ret
       exact⟨_,_,rfl,U.out,Ci _,λ_ _=>rfl,λ_=>rfl,h4.out⟩
      ·have ab:0<i:=a5;go_wp2
       go_ret
       exact⟨_,_,rfl,U.out,HP.out,HT.out,λhf=>by simp at hf,h4.out⟩
    ·have zq:lt (h'.getD J d) (h'.getD I d)=false:=by simpa using Dg
     rw[zq];have HM:Hid (∀j,0<j->j<n->par j=i->lt (h'.getD j d) (h'.getD I d)=false):=λj j0 j1 j2=>by
      rcases ad.out j j0 j2 with rfl|rfl
      ·exact ae.out _
      ·exact zq
     clear Dg zq;have O:I<h'.length:=a5;have vM:=AO (HC.out.less h' w3 I i h3.out O a5);go_wp2_with fail
     refine vM.out.mono ?_;rintro e w4 ⟨rfl,h4⟩;replace h4:=AO h4;by_cases DT:lt (h'.getD I d) (h'.getD i d)=true
     ·rw[DT];have Lw:=AO (HC.out.swap h' w4 i I h4.out a5 O);have G7:=AO (HX.out.step hO.out (c:=I) a5 a5 DT HM.out (RN a5 O));have Oj:(swp d h' i I).length=h'.length:=Fb;have Q:=AO ((Kf (d:=d) (i:=i) (j:=I) a5 O).trans HP.out);have WC:Hid (∀p,n<=p->(swp d h' i I).getD p d=h.getD p d):=λp hp=>by rw[FH a5 O,if_neg a5,if_neg a5];exact HT.out p hp
      have an:i<I:=a5;have M5:I<n:=a5;generalize swp d h' i I=h2 at*
      clear DT;go_wp2_with fail
      refine Lw.out.mono ?_;rintro e w5 ⟨rfl,h5⟩;replace h5:=AO h5;go_wp2
      go_roundw
      case rel=>exact⟨I,h2,rfl,a5,a5,λh0=>by omega,G7,Q,WC,h5⟩
      case measure=>simp[BF];omega
     ·have ED:lt (h'.getD I d) (h'.getD i d)=false:=by simpa using DT
      rw[ED];have U:=AO (HX.out.stop hO.out ED HM.out);clear DT ED;by_cases FW:i=0
      ·subst FW;obtain rfl:=h0 rfl;go_wp2
       go_ret
       exact⟨_,_,rfl,U.out,Ci _,λ_ _=>rfl,λ_=>rfl,h4.out⟩
      ·have ab:0<i:=a5;go_wp2
       go_ret
       exact⟨_,_,rfl,U.out,HP.out,HT.out,λhf=>by simp at hf,h4.out⟩
   ·generalize w2=w3 at*
    have HM:Hid (∀j,0<j->j<n->par j=i->lt (h'.getD j d) (h'.getD I d)=false):=λj j0 j1 j2=>by
     rcases ad.out j j0 j2 with rfl|rfl
     ·exact ae.out _
     ·exact absurd j1 ar
    have O:I<h'.length:=a5;have vM:=AO (HC.out.less h' w3 I i h3.out O a5);go_wp2_with fail
    refine vM.out.mono ?_;rintro e w4 ⟨rfl,h4⟩;replace h4:=AO h4;by_cases DT:lt (h'.getD I d) (h'.getD i d)=true
    ·rw[DT];have Lw:=AO (HC.out.swap h' w4 i I h4.out a5 O);have G7:=AO (HX.out.step hO.out (c:=I) a5 a5 DT HM.out (RN a5 O));have Oj:(swp d h' i I).length=h'.length:=Fb;have Q:=AO ((Kf (d:=d) (i:=i) (j:=I) a5 O).trans HP.out);have WC:Hid (∀p,n<=p->(swp d h' i I).getD p d=h.getD p d):=λp hp=>by rw[FH a5 O,if_neg a5,if_neg a5];exact HT.out p hp
     have an:i<I:=a5;have M5:I<n:=a5;generalize swp d h' i I=h2 at*
     clear DT;go_wp2_with fail
     refine Lw.out.mono ?_;rintro e w5 ⟨rfl,h5⟩;replace h5:=AO h5;go_wp2
     go_roundw
     case rel=>exact⟨I,h2,rfl,a5,a5,λh0=>by omega,G7,Q,WC,h5⟩
     case measure=>simp[BF];omega
    ·have ED:lt (h'.getD I d) (h'.getD i d)=false:=by simpa using DT
     rw[ED];have U:=AO (HX.out.stop hO.out ED HM.out);clear DT ED;by_cases FW:i=0
     ·subst FW;obtain rfl:=h0 rfl;go_wp2
      go_ret
      exact⟨_,_,rfl,U.out,Ci _,λ_ _=>rfl,λ_=>rfl,h4.out⟩
     ·have ab:0<i:=a5;go_wp2
      go_ret
      exact⟨_,_,rfl,U.out,HP.out,HT.out,λhf=>by simp at hf,h4.out⟩
  ·have U:=AO (HX.out.leaf a5);by_cases FW:i=0
   ·subst FW;obtain rfl:=h0 rfl;go_wp2
    go_ret
    exact⟨_,_,rfl,U.out,Ci _,λ_ _=>rfl,λ_=>rfl,h3.out⟩
   ·have ab:0<i:=a5;go_wp2
    go_ret
    exact⟨_,_,rfl,U.out,HP.out,HT.out,λhf=>by simp at hf,h3.out⟩
end
section
variable {α : Type} [DecidableEq α] {sx : Nat} {d : α} {lt : α -> α -> Bool} {R : List α -> World -> Prop} {h : List α} {n x : Nat} {W : World}
theorem tN(hC:U1 sx d lt R)(ho:qW lt)(hr:R h W)(hn:n=h.length/\n<=1000000/\x<n)(hx:u5 lt (λp=>h.getD p d) n x):
  Calls AP 164 #[.iface 234 (AI sx),x] W λe w'=>e=AH (AM #[])/\∃h',Hp lt (λp=>h'.getD p d) n/\h'.Perm h/\R h' w':=by
 have HC:=AO hC;have hO:=AO ho;have mL:=UG sx;have mS:=Pd sx;have ad:=AO hx;have NP:=AO hr;obtain⟨RF,PR,aq⟩:=hn;have HN:=AO RF;clear hC ho hx hr RF;go_enter func164,ntmps164
 go_wp2_with fail
 go_loopw [1] (λiv wr=>∃(j:Nat) (h':List α),iv=AA AB (j:Nat)/\j<n/\Hid (h'.length=h.length)/\Hid (u5 lt (λp=>h'.getD p d) n j)/\Hid (h'.Perm h)/\Hid (R h' wr)) (λiv _=>(BF iv).toNat)
 case atStart=>exact⟨x,h,rfl,a5,rfl,ad,Ci _,NP⟩
 case round=>
  obtain⟨j,h',rfl,al,hlen,HX,HP,h3⟩:=hrel;generalize wr=w2 at*
  clear ad NP;by_cases UW:j=0
  ·subst UW;have HE:=AO HX.out.root;go_wp2
   go_end0
   exact⟨rfl,h',HE.out,HP.out,h3.out⟩
  ·obtain⟨jm,ab⟩:=ao (j-1);obtain⟨J,O⟩:=ao (jm/2);have m1:(j:Int)-1=(jm:Int):=a5;have m2:(jm:Int).tdiv 2=(J:Int):=by rw[<-O];rfl
   have ae:par j=J:=by unfold par;rw[ab];exact O
   have Dg:J<j/\jm<j:=a5;have g1:((J:Int)==(j:Int))=false:=by simp;omega
   have Q:j<h'.length:=by have:=hlen.out;have:=HN.out;omega
   have Tm:=AO (HC.out.less h' w2 j J h3.out Q a5);have qZ:=AO ae;have nI:0<j:=a5;have I:=AO Q;clear O ab ae h3 Q;go_wp2_with fail
   refine Tm.out.mono ?_;rintro e w3 ⟨rfl,h3⟩;replace h3:=AO h3;by_cases hb:lt (h'.getD j d) (h'.getD J d)=true
   ·rw[hb];have G7:=AO (HX.out.step hO.out nI al (by show lt (h'.getD j d) (h'.getD (par j) d)=true;rw[qZ.out];exact hb) (RN (by rw[qZ.out];have:=I.out;omega) I.out));rw[qZ.out]at G7;have pI:=AO (HC.out.swap h' w3 J j h3.out (by have:=I.out;omega) I.out);have jg:Hid ((swp d h' J j).length=h.length):=Fb.trans hlen.out;have an:=AO ((Kf (d:=d) (i:=J) (j:=j) (by have:=I.out;omega) I.out).trans HP.out);generalize swp d h' J j=h2 at*
    clear hb;go_wp2_with fail
    refine pI.out.mono ?_;rintro e w4 ⟨rfl,h4⟩;replace h4:=AO h4;go_wp2
    go_roundw
    case rel=>exact⟨J,h2,rfl,a5,jg,G7,an,h4⟩
    case measure=>simp[BF];omega
   ·have U:lt (h'.getD j d) (h'.getD J d)=false:=by simpa using hb
    rw[U];have HE:=AO (HX.out.stop (by show lt (h'.getD j d) (h'.getD (par j) d)=false;rw[qZ.out];exact U));clear hb U;go_wp2
    go_end0
    exact⟨rfl,h',HE.out,HP.out,h3.out⟩
theorem eR(x:Nat)(w:World):Bu AP (method 371 234 (AI x) "Push") w=.ok (195,AI x) w:=a7
theorem kX(x:Nat)(w:World):Bu AP (method 371 234 (AI x) "Pop") w=.ok (201,AI x) w:=a7
theorem nR(hC:U1 sx d lt R)(Q:qW lt)(O:R h W)(hn:h.length<=1000000)(J:jC lt (λp=>h.getD p d) h.length 0):
  Calls AP 197 #[.iface 234 (AI sx),()] W λe w'=>e=AH (AM #[])/\∃h',Hp lt (λp=>h'.getD p d) h.length/\h'.Perm h/\R h' w':=by
 have mN:=Rq sx;have HL:=AO (hC.len h W O);have HD:Hid (∀W,R h W->Calls AP 199 #[.iface 234 (AI sx),(),h.length] W (p7 d lt R h h.length)):=λW h1=>UY hC Q h1 ⟨AQ _,hn⟩ J;clear hC Q O J;generalize hN:h.length=N at*
 clear hN;go_enter func197,ntmps197
 go_wp2_with fail
 refine HL.out.mono ?_;rintro e w2 ⟨rfl,h2⟩;have I:=AO (HD.out w2 h2);clear h2 HD;go_wp2_with fail
 refine I.out.mono ?_;rintro e w3 ⟨b,h',rfl,h3,h4,h5,h6,U⟩;have H3:=AO h3;have H4:=AO h4;have H7:=AO U;clear h3 h4 h5 h6 U
 cases b
 ·have HU:=AO (qz (sx:=sx) w3);go_wp2_with fail
  refine HU.out.mono ?_;rintro e w4 ⟨rfl,rfl⟩;go_wp2
  go_end0
  exact⟨rfl,h',H3.out,H4.out,H7.out⟩
 ·go_wp2
  go_end0
  exact⟨rfl,h',H3.out,H4.out,H7.out⟩
theorem nD{enc:α->Value}(hC:U1 sx d lt R)(ho:qW lt)(hr:R h W)(hn:h.length<=1000000)(I:0<h.length)(hx:Hp lt (λp=>h.getD p d) h.length)
  (ab:∀h W,R h W->0<h.length->Calls AP 201 #[AI sx] W λe w'=>e=AH (enc (h.getD (h.length-1) d))/\R (h.take (h.length-1)) w'):
  Calls AP 198 #[.iface 234 (AI sx)] W λe w'=>e=AH (enc (h.getD 0 d))/\∃h',Hp lt (λp=>h'.getD p d) (h.length-1)/\h'.length=h.length-1/\(h.getD 0 d::h').Perm h/\R h' w':=by
 have mN:=Rq sx;have mS:=Pd sx;have mP:=kX sx;have HL:=AO (hC.len h W hr);obtain⟨n,hN⟩:=ao (h.length-1);have pI:Hid (∀W,R h W->Calls AP 196 #[AI sx,(),n] W λe w'=>e=AH (AM #[])/\R (swp d h 0 n) w'):=λW J=>hC.swap h W 0 n J I a5;have Q:jC lt (λp=>(swp d h 0 n).getD p d) n 0:=Hp.xP λj h0 J hp=>by
  have Gi:=ME h0;have ad:par j≠n:=a5;show lt ((swp d h 0 n).getD j d) ((swp d h 0 n).getD (par j) d)=false;rw[FH I a5,FH I a5,if_neg a5,if_neg a5,if_neg ad,if_neg hp];exact hx j h0 a5
 have HD:Hid (∀W,R (swp d h 0 n) W->Calls AP 199 #[.iface 234 (AI sx),(),n] W (p7 d lt R (swp d h 0 n) n)):=λW J=>UY hC ho J ⟨by rw[Fb];omega,a5⟩ Q;have T5:=AO ab;have Du:Hid (∀h':List α,h'.Perm (swp d h 0 n)->(∀p,n<=p->h'.getD p d=(swp d h 0 n).getD p d)->h'.length-1=n/\0<h'.length/\h'.getD n d=h.getD 0 d/\(h.getD 0 d::h'.take n).Perm h):=λh' hp ht=>by
  have hl:h'.length=h.length:=by rw[hp.length_eq,Fb]
  have J:h'.getD n d=h.getD 0 d:=by rw[ht n ar,FH I a5,if_pos rfl]
  refine⟨a5,a5,J,?_⟩;have O:h'=h'.take n++[h'.getD n d]:=by
   have h3:h'.take (n+1)=h':=Ay a5;rw[Bj,AU a5]at h3;have h4:h'.getD n d=h'[n]:=by rw[AT,AU a5];rfl
   rw[h4];exact h3.symm
  rw[J]at O;have h5:(h.getD 0 d::h'.take n).Perm h':=by
   have U:(h.getD 0 d::h'.take n).Perm (h'.take n++[h.getD 0 d]):=(List.perm_append_singleton _ _).symm;rw[<-O]at U;exact U
  exact h5.trans (hp.trans (Kf I a5))
 have m1:(h.length:Int)-1=(n:Int):=a5;have hnb:h.length<=1000000:=hn;generalize al:h.getD 0 d=s0 at*
 clear hC ho hr hx ab Q al;have xj:=AO hN;clear hN;generalize ae:h.length=L at*
 clear ae;generalize swp d h 0 n=J at*
 go_enter func198,ntmps198
 go_wp2_with fail
 refine HL.out.mono ?_;rintro e w2 ⟨rfl,O⟩;have H2:=AO (pI.out w2 O);clear O pI;go_wp2_with fail
 refine H2.out.mono ?_;rintro e w3 ⟨rfl,h3⟩;have H3:=AO (HD.out w3 h3);clear h3 HD;go_wp2_with fail
 refine H3.out.mono ?_;rintro e w4 ⟨b,h',rfl,h4,h5,U,h7,h8⟩;obtain⟨k1,k2,k3,k4⟩:=Du.out h' h5 U;have H8:=T5.out h' w4 h8 k2;rw[k1,k3]at H8;have H9:=AO H8;have H4:=AO h4;have K4:=AO k4;have K1:=AO k1;clear h4 h5 U h7 h8 k1 k2 k3 k4 H8;go_wp2_with fail
 refine H9.out.mono ?_;rintro e w5 ⟨rfl,h9⟩;have an:=AO h9;clear h9;go_wp2
 go_ret
 refine⟨rfl,h'.take n,?_,?_,K4.out,an.out⟩
 ·rw[xj.out];intro j h0 J;have O:=H4.out j h0 J;have h3:=ME h0;show lt ((h'.take n).getD j d) ((h'.take n).getD (par j) d)=false;rw[AT,AT,At,At,if_pos J,if_pos a5,<-AT,<-AT];exact O
 ·rw[xj.out,AZ];have:=K1.out;omega
theorem gH{v a}(hC:U1 sx d lt R)(ho:qW lt)(hn:h.length+1<=1000000)(hx:Hp lt (λp=>h.getD p d) h.length)
  (wJ:Calls AP 195 #[AI sx,v] W λe w'=>e=AH (AM #[])/\R (h++[a]) w'):
  Calls AP 162 #[.iface 234 (AI sx),v] W λe w'=>e=AH (AM #[])/\∃h',Hp lt (λp=>h'.getD p d) (h.length+1)/\h'.Perm (h++[a])/\R h' w':=by
 have mN:=Rq sx;have mP:=eR sx;have bB:=AO wJ;have O:(h++[a]).length=h.length+1:=by rw[Aa];rfl
 have U:∀p,p<h.length->(h++[a]).getD p d=h.getD p d:=λp hp=>by rw[AT,AT,Aj hp]
 have HL:Hid (∀W,R (h++[a]) W->Calls AP 161 #[AI sx] W λe w'=>e=AH ((h.length+1:Nat):Int)/\R (h++[a]) w'):=λW J=>by
  have I:=hC.len _ W J;rw[O]at I;exact I
 have HU:Hid (∀W,R (h++[a]) W->Calls AP 164 #[.iface 234 (AI sx),h.length] W λe w'=>e=AH (AM #[])/\∃h',Hp lt (λp=>h'.getD p d) (h.length+1)/\h'.Perm (h++[a])/\R h' w'):=λW J=>by
  refine tN hC ho J ⟨O.symm,hn,a5⟩ ⟨λj Q I hj=>?_,λhp j Q I hj=>by unfold par at hj;omega⟩;have h3:=ME Q;show lt ((h++[a]).getD j d) ((h++[a]).getD (par j) d)=false;rw[U j a5,U (par j) a5];exact hx j Q a5
 obtain⟨L,hL⟩:=ao (h.length+1);have m1:(L:Int)-1=(h.length:Int):=a5;have ab:1<=L/\L<=1000000:=a5;rw[hL]at HL HU⊢;clear hC ho hx wJ O U hL hn;generalize h.length=n at*
 generalize h++[a]=J at*
 go_enter func162,ntmps162
 go_wp2_with fail
 refine bB.out.mono ?_;rintro e w2 ⟨rfl,I⟩;have H2:=AO (HL.out w2 I);clear I HL;go_wp2_with fail
 refine H2.out.mono ?_;rintro e w3 ⟨rfl,h3⟩;have H3:=AO (HU.out w3 h3);clear h3 HU;go_wp2_with fail
 refine H3.out.mono ?_;rintro e w4 ⟨rfl,h',h4,h5,h6⟩;have H4:=AO h4;have H5:=AO h5;have H6:=AO h6;clear h4 h5 h6;go_wp2
 go_end0
 exact⟨rfl,h',H4.out,H5.out,H6.out⟩
end
def Kh(k g N cap:Nat)(o:Cy)(lv:Value):List Value:=[k,AJ g N cap,o.a,o.b,o.c,o.d,o.e,lv]
def Qq(o:Cy)(cur:Nat->Cy)(a b:Nat×Nat):Bool:=decide (DV o (cur a.1) (cur b.1)<0)||(decide (DV o (cur a.1) (cur b.1)=0)&&decide (a.1<b.1))
theorem Ob(o:Cy)(cur:Nat->Cy):qW (Qq o cur) where
 asym:=λa b h=>by
  have J:=Dy o (cur a.1) (cur b.1);unfold Qq at*
  simp only[Bool.or_eq_true,Bool.and_eq_true,decide_eq_true_eq,Bool.or_eq_false_iff,Bool.and_eq_false_iff,decide_eq_false_iff_not]at*
  omega
 trans:=λa b c h k=>by
  have J:=Dy o (cur a.1) (cur b.1);have U:=Dy o (cur b.1) (cur c.1);have h3:=Dy o (cur a.1) (cur c.1);unfold Qq at*
  simp only[Bool.or_eq_false_iff,Bool.and_eq_false_iff,decide_eq_false_iff_not]at*
  have h4:DV o (cur a.1) (cur b.1)<=0:=a5;have h5:DV o (cur b.1) (cur c.1)<=0:=a5;have Q:=FU h4 h5;refine⟨a5,?_⟩;by_cases I:DV o (cur c.1) (cur a.1)=0
  ·right;have O:DV o (cur a.1) (cur b.1)=0:=by
    by_cases e:DV o (cur a.1) (cur b.1)<0
    ·have:=K8 e h5;omega
    ·omega
   have OH:DV o (cur b.1) (cur c.1)=0:=by
    by_cases e:DV o (cur b.1) (cur c.1)<0
    ·have:=M9 h4 e;omega
    ·omega
   omega
  ·left;exact I
section
variable{W:World}{sx k g N cap n c:Nat}{o:Cy}{A:Option Addr}
theorem OT(I:Row W sx 237 (Kh k g N cap o (AJ A n c))):Calls AP 161 #[AI sx] W λe w'=>e=AH n/\w'=W:=by
 have J:W.cell? (sx,7)=AE (AJ A n c):=I.cell 7;clear I;go_enter func161,ntmps161
 go_wp2
 go_ret
 exact⟨rfl,rfl⟩
end
section
variable{o:Cy}{P:Nat}{live live':Nat->List Cy}{jQ out:List Cy}{p0:Nat}{t:Cy}{r:List Cy}
def XW(o:Cy)(P:Nat)(live:Nat->List Cy)(c:Cy):List Cy:=(Bo P).flatMap λp=>(live p).filter (K6 o c)
structure Yk (o:Cy) (P:Nat) (live:Nat->List Cy) (jQ out:List Cy):Prop where
 cl:∀c,out.filter (K6 o c)++XW o P live c=jQ.filter (K6 o c)
 asc:ND o out
 le:∀x∈out,∀p,p<P->∀y∈live p,DV o x y<=0
 live:∀p,p<P->ND o (live p)
theorem Ss{f g:Nat->List Cy}:∀(l:List Nat) (_:∀p∈l,f p=g p),l.flatMap f=l.flatMap g
 |[],_=>rfl
 |a::l,h=>by rw[List.flatMap_cons,List.flatMap_cons,h a Az,Ss l λp hp=>h p (BD _ hp)]
theorem range_split{P p0}(h:p0<P):Bo P=Bo p0++p0::(Bo (P-p0-1)).map (λi=>p0+1+i):=by
 refine List.ext_getElem (by simp;omega) λi Q O=>?_;rw[List.getElem_range];rcases CW i p0 with I|he|J
 ·rw[List.getElem_append_left (by simp;omega),List.getElem_range]
 ·subst he;rw[List.getElem_append_right a8];simp
 ·rw[List.getElem_append_right (by simp;omega)];obtain⟨k,e⟩:∃k,i-(Bo p0).length=k+1:=⟨i-p0-1,by simp;omega⟩;simp only[e,List.getElem_cons_succ,List.getElem_map,List.getElem_range];simp at e;omega
theorem Yk.step(h:Yk o P live jQ out)(hp:p0<P)(hl:live p0=t::r)(Lp:∀p u us,p<P->live p=u::us->DV o t u<0\/(DV o t u=0/\p0<=p))
  (h0:live' p0=r)(h1:∀p,p≠p0->live' p=live p):Yk o P live' jQ (out++[t]):=by
 have zw:∀p,p<P->∀y∈live p,DV o t y<=0:=λp I y e=>by
  cases J:live p with
  |nil=>rw[J]at e;cases e
  |cons u us=>
   have h2:DV o t u<=0:=by rcases Lp p u us I J with h|h<;>omega
   rw[J]at e;rcases A8.1 e with rfl|e
   ·exact h2
   ·have h3:=h.live p I;rw[J]at h3;exact FU h2 ((List.pairwise_cons.1 h3).1 y e)
 have ab:∀p,p<p0->∀y∈live p,DV o t y<0:=λp I y e=>by
  cases J:live p with
  |nil=>rw[J]at e;cases e
  |cons u us=>
   have h2:DV o t u<0:=by rcases Lp p u us a5 J with h|h<;>omega
   rw[J]at e;rcases A8.1 e with rfl|e
   ·exact h2
   ·have h3:=h.live p a5;rw[J]at h3;exact K8 h2 ((List.pairwise_cons.1 h3).1 y e)
 have O:∀p,∀y∈live' p,y∈live p:=λp y e=>by
  by_cases I:p=p0
  ·rw[I]at e⊢;rw[hl];rw[h0]at e;exact BD _ e
  ·rwa [h1 p I]at e
 refine⟨λc=>?_,?_,λx Q p I y e=>?_,λp I=>?_⟩
 ·rw[<-h.cl c,Bd,AR]
  congr 1
  unfold XW;rw[range_split hp,List.flatMap_append,List.flatMap_append,List.flatMap_cons,List.flatMap_cons,h0,hl];have e1:(Bo p0).flatMap (λp=>(live' p).filter (K6 o c))=(Bo p0).flatMap (λp=>(live p).filter (K6 o c)):=by
   refine Ss _ λp I=>?_;rw[h1 p (by have:=List.mem_range.1 I;omega)]
  have e2:((Bo (P-p0-1)).map (λi=>p0+1+i)).flatMap (λp=>(live' p).filter (K6 o c))=((Bo (P-p0-1)).map (λi=>p0+1+i)).flatMap (λp=>(live p).filter (K6 o c)):=by
   refine Ss _ λp I=>?_;obtain⟨i,_,rfl⟩:=Av.1 I;rw[h1 _ a5]
  rw[e1,e2];by_cases U:K6 o c t=true
  ·have e3:(Bo p0).flatMap (λp=>(live p).filter (K6 o c))=[]:=by
    refine List.flatMap_eq_nil_iff.2 λp I=>List.filter_eq_nil_iff.2 λy e he=>?_;have h2:=ab p (List.mem_range.1 I) y e;unfold K6 at he U;simp only[decide_eq_true_eq]at he U;have:=Md U he;omega
   rw[e3,List.filter_cons_of_pos U,List.filter_cons_of_pos U];rfl
  ·rw[List.filter_cons_of_neg U,List.filter_cons_of_neg U];rfl
 ·exact List.pairwise_append.2 ⟨h.asc,List.pairwise_singleton _ _,λx Q y e=>by
   rw[Bp.1 e];exact h.le x Q p0 hp t (by rw[hl];exact Az)⟩
 ·rcases Ah.1 Q with Q|Q
  ·exact h.le x Q p I y (O p y e)
  ·rw[Bp.1 Q];exact zw p I y (O p y e)
 ·by_cases J:p=p0
  ·rw[J,h0];have h3:=h.live p0 hp;rw[hl]at h3;exact(List.pairwise_cons.1 h3).2
  ·rw[h1 p J];exact h.live p I
theorem Yk.done(h:Yk o P live jQ out)(I:∀p,p<P->live p=[]):Cl o jQ out/\ND o out:=by
 refine⟨λc=>?_,h.asc⟩;rw[<-h.cl c];have e:XW o P live c=[]:=List.flatMap_eq_nil_iff.2 λp hp=>by rw[I p (List.mem_range.1 hp)];rfl
 rw[e,AY]
theorem Yk.start(J:∀p,p<P->ND o (live p))(hi:jQ=(Bo P).flatMap live):Yk o P live jQ []:=by
 refine⟨λc=>?_,Oz o,λx I=>absurd I List.not_mem_nil,J⟩;rw[hi];unfold XW;rw[List.filter_nil,BL];generalize Bo P=e
 induction e with
 |nil=>rfl
 |cons q e ih=>rw[List.flatMap_cons,List.flatMap_cons,Bd,ih]
end
section
variable{W:World}{sx k g N cap n c gl i j a b:Nat}{o ta tb:Cy}
theorem ef(hr:Row W sx 237 (Kh k g N cap o (AJ gl n c)))(hi:i<n)(hj:j<n)
  (O:W.cell? (gl,i*2)=AE (AA AB (a:Nat)))(J:W.cell? (gl,j*2)=AE (AA AB (b:Nat)))
  (hA:∀W',Below W W W'->Calls AP 192 #[AL #[k,AJ g N cap],a] W' λe w'=>e=AH (AL #[ta.a,ta.b,ta.c,ta.d,ta.e])/\Below W' W' w')
  (hB:∀W',Below W W W'->Calls AP 192 #[AL #[k,AJ g N cap],b] W' λe w'=>e=AH (AL #[tb.a,tb.b,tb.c,tb.d,tb.e])/\Below W' W' w'):
  Calls AP 193 #[AI sx,i,j] W λe w'=>e=AH (.bool (decide (DV o ta tb<0)||(decide (DV o ta tb=0)&&decide (a<b))))/\Below W W w':=by
 have c7:W.drew.cell? (sx,7)=AE (AJ gl n c):=hr.cell 7;have ci:W.drew.cell? (gl,i*2)=AE (AA AB (a:Nat)):=O;have cj:W.drew.cell? (gl,j*2)=AE (AA AB (b:Nat)):=J;have i1:(0:Int)<=(i:Int):=a5;have i2:(i:Int)<(n:Int):=a5;have j1:(0:Int)<=(j:Int):=a5;have j2:(j:Int)<(n:Int):=a5;have Q1:Hid (∀d os,Calls AP 192 #[AL #[k,AJ g N cap],a] (An (redrawn W.drew d) os) λe Q=>e=AH (AL #[ta.a,ta.b,ta.c,ta.d,ta.e])/\∃p:Regrown,Q=An (redrawn W.drew p.d) p.os):=λd os=>Ba (hA _ ((DC (AS _ _)).trans (B0 W.drew d os)));have Q2:Hid (∀d os,Calls AP 192 #[AL #[k,AJ g N cap],b] (An (redrawn W.drew d) os) λe Q=>e=AH (AL #[tb.a,tb.b,tb.c,tb.d,tb.e])/\∃p:Regrown,Q=An (redrawn W.drew p.d) p.os):=λd os=>Ba (hB _ ((DC (AS _ _)).trans (B0 W.drew d os)));have Q3:Hid (∀d os,Calls AP 185 #[AL #[ta.a,ta.b,ta.c,ta.d,ta.e],AL #[tb.a,tb.b,tb.c,tb.d,tb.e],AL #[o.a,o.b,o.c,o.d,o.e]] (An (redrawn W.drew d) os) λe Q=>e=AH (AA AB (DV o ta tb))/\∃p:Regrown,Q=An (redrawn W.drew p.d) p.os):=λd os=>Ba (RJ o _ _ _);have I:Row W.drew sx 237 (Kh k g N cap o (AJ gl n c)):=hr.drewN 1;have k0:∀d os,(An (redrawn W.drew d) os).cell? sx=AE (AA AB k):=Ac (I.cell 0);have k1:∀d os,(An (redrawn W.drew d) os).cell? (sx,1)=AE (AJ g N cap):=Ac (I.cell 1);have k2:∀d os,(An (redrawn W.drew d) os).cell? (sx,2)=AE (AA AB o.a):=Ac (I.cell 2);have k3:∀d os,(An (redrawn W.drew d) os).cell? (sx,3)=AE (AA AB o.b):=Ac (I.cell 3);have k4:∀d os,(An (redrawn W.drew d) os).cell? (sx,4)=AE (AA AB o.c):=Ac (I.cell 4);have k5:∀d os,(An (redrawn W.drew d) os).cell? (sx,5)=AE (AA AB o.d):=Ac (I.cell 5);have k6:∀d os,(An (redrawn W.drew d) os).cell? (sx,6)=AE (AA AB o.e):=Ac (I.cell 6);have OC:Hid (Below W W W.drew):=DC (AS _ _);generalize DV o ta tb=res at*
 obtain⟨ia,ib,ic,id,ie⟩:=ta;obtain⟨ja,jb,jc,jd,je⟩:=tb;obtain⟨oa,ob,oc,od,oe⟩:=o;simp only at*
 clear hr I hA hB O J hi hj;go_enter func193,ntmps193
 go_wp2_with fail
 go_region_held3 (λW=>W.cell? (sx,7)=AE (AJ gl n c)/\W.cell? (gl,i*2)=AE (AA AB (a:Nat))/\W.cell? (gl,j*2)=AE (AA AB (b:Nat))) (with_reducible exact⟨c7,ci,cj⟩) (fail)
 clear c7 ci cj;go_wp2_with fail
 generalize W.drew=W1 at*
 refine By a7 a7 ?_
 repeat(any_goals(first|go_big_quiet_step (with_reducible first|exact Q1.out _ _|exact Q2.out _ _|exact Q3.out _ _)|quiet_step (with_reducible first|exact Q1.out _ _|exact Q2.out _ _|exact Q3.out _ _)))
 refine wpQuiet_nil ?_;intro w5 U;obtain⟨⟨dq,osq⟩,U⟩:=U;have Fj:=B0 W1 dq osq;rw[<-U]at Fj;have HB:=AO Fj;clear U Fj;have HF:Hid (Below W W w5):=OC.out.trans (HB.out.mono OC.out.size);by_cases h1:res<0
 ·have HR:Hid ((decide (res<0)||decide (res=0)&&decide (a<b))=true):=by unfold Hid;rw[decide_eq_true h1];rfl
  go_wp2
  go_ret
  exact⟨by rw[HR.out];rfl,HF.out⟩
 ·by_cases h2:res=0
  ·subst h2;clear h1;by_cases h3:a<b
   ·go_wp2
    go_ret
    exact⟨a8,HF.out⟩
   ·go_wp2
    go_ret
    exact⟨a8,HF.out⟩
  ·have ab:Hid (decide (res<0)=false):=decide_eq_false h1;have g2:(res==0)=false:=by simpa using h2
   go_wp2
   go_ret
   exact⟨by rw[ab.out];rfl,HF.out⟩
end
section
variable{W:World}{sx k g N cap n m c gl a:Nat}{o:Cy}{v:Value}
theorem kZ(I:Row W sx 237 (Kh k g N cap o (AJ gl n c)))(hm:n=m+1)(O:n<=c/\n<=1000000){x:Nat}
  (Z9:W.cell? (gl,m*2)=AE (AA AB (a:Nat)))(U:W.cell? (gl,m*2+1)=AE (AI x)):
  Calls AP 201 #[AI sx] W λe w'=>e=AH (.iface 242 (AL #[a,AI x]))/\Row w' sx 237 (Kh k g N cap o (AJ gl m c))/\DJ (λb=>b=sx) W w':=by
 have c7:W.cell? (sx,7)=AE (AJ gl n c):=I.cell 7;have f7:=I.free 7;have m1:(n:Int)-1=(m:Int):=a5;have i1:(0:Int)<=(m:Int):=a5;have i2:(m:Int)<(n:Int):=a5;have i3:(m:Int)<=(c:Int):=a5;have J:=O.2;have HR:=AO I;have Q:=I.lt;clear hm I;go_enter func201,ntmps201
 go_wp2
 go_ret
 refine⟨rfl,?_,?_⟩
 ·have h1:=(HR.out.set 7 (AJ gl m c)).alloc (AK #[a,AI x] 242);exact h1
 ·have h0:DJ (λb=>b=sx) W W:=DJ.refl _ _;have h2:=h0.set (p:=(sx,7)) (.inl rfl) (AJ gl m c);exact h2.trans (DJ.DE ((AS _ _).alloc ar _) (λb=>b=sx)) λb hb=>.inl hb
end
section
variable{W:World}{sx k g N cap n c gl i j a b xa xb B p x:Nat}{o:Cy}{lv:Value}{cs xs:List Value}
theorem eV(hr:Row W sx 237 (Kh k g N cap o (AJ gl n c)))(I:Row W gl 242 cs)(hi:i<n)(hj:j<n)
  (Z9:cs[i*2]?=AE (AA AB (a:Nat)))(O:cs[i*2+1]?=AE (AI xa))(M5:cs[j*2]?=AE (AA AB (b:Nat)))(U:cs[j*2+1]?=AE (AI xb)):
  Calls AP 196 #[AI sx,i,j] W λe w'=>e=AH (AM #[])/\
   Row w' gl 242 ((((cs.set (i*2) b).set (i*2+1) (AI xb)).set (j*2) a).set (j*2+1) (AI xa))/\DJ (λb=>b=gl) W w':=by
 have c7:W.cell? (sx,7)=AE (AJ gl n c):=hr.cell 7;have ca:W.cell? (gl,i*2)=AE (AA AB (a:Nat)):=(I.cell _).trans Z9;have al:W.cell? (gl,i*2+1)=AE (AI xa):=(I.cell _).trans O;have cb:W.cell? (gl,j*2)=AE (AA AB (b:Nat)):=(I.cell _).trans M5;have ae:W.cell? (gl,j*2+1)=AE (AI xb):=(I.cell _).trans U;have fa:=I.free (i*2);have ad:=I.free (i*2+1);have fb:=I.free (j*2);have ab:=I.free (j*2+1);have i1:(0:Int)<=(i:Int):=a5;have i2:(i:Int)<(n:Int):=a5;have j1:(0:Int)<=(j:Int):=a5;have j2:(j:Int)<(n:Int):=a5;have HL:=AO I;have J:∀v1 v2,Row ((W.setCell (gl,i*2) v1).setCell (gl,i*2+1) v2) gl 242 ((cs.set (i*2) v1).set (i*2+1) v2):=λv1 v2=>(I.set _ _).set _ _;have hlen:j*2+1<cs.length:=by
  rcases Ak (j*2+1) cs.length with hx|hx
  ·exact hx
  ·rw[BG hx]at U;cases U
 obtain⟨Q,z3⟩:∃Q,((W.setCell (gl,i*2) b).setCell (gl,i*2+1) (AI xb)).cell? (gl,j*2)=AE Q:=⟨_,by rw[(J _ _).cell];exact AU (by simp;omega)⟩;obtain⟨v5,z5⟩:∃Q,(W.setCell (gl,i*2) b).cell? (gl,j*2)=AE Q:=⟨_,by rw[(I.set _ _).cell];exact AU (by simp;omega)⟩;obtain⟨v4,z4⟩:∃v4,(((W.setCell (gl,i*2) b).setCell (gl,i*2+1) (AI xb)).setCell (gl,j*2) a).cell? (gl,j*2+1)=AE v4:=⟨_,by rw[((J _ _).set _ _).cell];exact AU (by simp;omega)⟩;have f3:=(J b (AI xb)).free (j*2);have f4:=((J b (AI xb)).set (j*2) a).free (j*2+1);clear hr I Z9 O M5 U hi hj J hlen;go_enter func196,ntmps196
 go_wp2_with fail
 go_region
 go_wp2
 go_end0
 refine⟨rfl,?_,?_⟩
 ·exact((((HL.out.set (i*2) b).set (i*2+1) (AI xb)).set (j*2) a).set (j*2+1) (AI xa)).drewN 1
 ·exact(((((DJ.refl (λb=>b=gl) W).set (p:=(gl,i*2)) (.inl rfl) b).set (p:=(gl,i*2+1)) (.inl rfl) (AI xb)).set (p:=(gl,j*2)) (.inl rfl) a).set (p:=(gl,j*2+1)) (.inl rfl) (AI xa)).drew
theorem Rx(a:Nat×Nat)(w:World):Bu AP (Instr.typeAssert (.iface 242 (AL #[a.1,AI a.2])) 20 242 false) w=.ok (AL #[a.1,AI a.2]) w:=a7
theorem y6:(AP.info? 242).map (λi=>(i.zero,i.size,i.bytes))=AE (AE (AL #[(),AI AD]),2,16):=a7
theorem eW(hr:Row W sx 237 (Kh k g N cap o lv))(U:W.ownsRow B 242 2 lv n xs)(hB:B<=W)(hn:n<=1000000):
  Calls AP 195 #[.pointer sx,.iface 242 (AL #[p,.pointer x])] W λe w'=>e=AH (AM #[])/\
   ∃Ji,Row w' sx 237 (Kh k g N cap o Ji)/\w'.ownsRow B 242 2 Ji (n+1) (xs++[AA AB (p:Nat),.pointer x])/\DJ (λb=>b=sx\/lv.ownBlock=AE b) W w'/\(∀b,Ji.ownBlock=AE b->lv.ownBlock=AE b\/W.heap.size<=b):=by
 obtain⟨it,FW,Fa,FJ,KU⟩:=info_parts y6;have ab:AE sx≠lv.ownBlock:=λe=>by
  obtain⟨h1,⟨h4,_⟩|⟨gl,c,c2,h4,h5,h6,_⟩⟩:=U
  ·rw[h4]at e;cases e
  ·rw[h4]at e;have e:sx=gl:=by injection e
   subst e;have hx:Row W sx 242 c2.toList:=by unfold Row;rw[Array.toArray_toList];exact h6
   exact absurd (hr.typed hx) a6
 have Dg:Below W W (W.drew.alloc (AK #[p,.pointer x] 242)):=(DC (AS _ _)).alloc ar _;have DT:Below W W (W.alloc (AK #[p,.pointer x] 242)).drew:=DC ((AS _ _).alloc ar _);have o1:=Gm U Dg;have o2:=Gm U DT;have c7:W.drew.cell? (sx,7)=AE lv:=hr.cell 7;have c8:(W.alloc (AK #[p,.pointer x] 242)).cell? (sx,7)=AE lv:=(hr.alloc _).cell 7;have HK:Hid (∀w6 I O J,Below W.heap.size W w6->J.ownsRow B 242 2 (.slice (AE ⟨I,0,AD⟩) (n+1) O) (n+1) (xs++[AA AB (p:Nat),.pointer (AE ⟨x,0,AD⟩)])->w6.grownBy J lv.ownBlock->(lv.ownBlock=AE I\/I=W.heap.size+1)->
   Row J sx 237 (Kh k g N cap o lv)/\Row (J.setCell ⟨sx,7,AD⟩ (.slice (AE ⟨I,0,AD⟩) (n+1) O)) sx 237 (Kh k g N cap o (.slice (AE ⟨I,0,AD⟩) (n+1) O))/\(J.setCell ⟨sx,7,AD⟩ (.slice (AE ⟨I,0,AD⟩) (n+1) O)).ownsRow B 242 2 (.slice (AE ⟨I,0,AD⟩) (n+1) O) (n+1) (xs++[AA AB (p:Nat),.pointer (AE ⟨x,0,AD⟩)])/\
   DJ (λb=>b=sx\/lv.ownBlock=AE b) W (J.setCell (sx,7) (.slice I (n+1) O))/\(∀b,(Value.slice I (n+1) O).ownBlock=AE b->lv.ownBlock=AE b\/W.heap.size<=b)):=λw6 I O J hb ho hg Eu=>by
  have WR:DJ (λb=>lv.ownBlock=AE b) W w6:=DJ.DE hb _;have Yg:=WR.grown hg λk hk=>.inl hk;have tV:=Yg.row hr λe=>ab e.symm;refine⟨tV,tV.set 7 _,XJ ho tV a6 _,(Yg.mono λb hb=>.inr hb).set (p:=(sx,7)) (.inl (.inl rfl)) _,λb hb=>?_⟩;have hb:I=b:=by injection hb
  subst hb;exact Eu.elim .inl λe=>.inr a5
 have ae:=Rx (p,x);have ad:=AO hB;clear U hB ab hr;go_enter func195,ntmps195
 go_wp2_with fail
 go_region_law ((refine step_append_lies _ rfl _ _ 235 rfl B 242 it _ 2 16 underlying235 FW Fa FJ KU rfl a6 lv n xs (by rfl) (by first|exact o1|exact o2) W.heap.size 1 1 [p,.pointer x] (by rfl) (by rfl) (World.news_of_block (cs:=#[p,.pointer x]) (t:=242) (fr:=(0,0)) (by first|exact heap_alloc_new W _|exact heap_alloc_new W.drew _)) (by simp[Value.oneCell']) a5 (by unfold maxLen;omega) a5 (by have:=ad.out;simp;omega) (W.heap.size+1) a8 ?_;intro I O J U wY Eu al;have q7:=HK.out _ I O J (by first|exact Dg|exact DT) U wY Eu;have q8:J.cell? (sx,7)=AE lv:=q7.1.cell 7;have q9:=q7.1.free 7;have Q:=AO q7.2;clear q7 U wY Eu))
 all_goals
  go_wp2
  go_end0
  exact⟨rfl,_,Q.out.1,Q.out.2.1,Q.out.2.2.1,Q.out.2.2.2⟩
end
def LQ(a:Nat×Nat):List Value:=[a.1,AI a.2]
def Hw(h:List (Nat×Nat)):List Value:=h.flatMap LQ
theorem N5(a:Nat×Nat)(h:List (Nat×Nat)):Hw (a::h)=AA AB (a.1:Nat)::AI a.2::Hw h:=rfl
theorem aN(h:List (Nat×Nat))(a:Nat×Nat):Hw (h++[a])=Hw h++LQ a:=by unfold Hw;rw[List.flatMap_append];simp
theorem Gc:∀{h} {i} {a},h[i]?=AE a->(Hw h)[i*2]?=AE (AA AB (a.1:Nat))/\(Hw h)[i*2+1]?=AE (AI a.2)
 |[],_,_,hi=>by simp at hi
 |b::h,0,a,hi=>by
  simp at hi;subst hi;exact⟨rfl,rfl⟩
 |b::h,i+1,a,hi=>by
  have e:=Gc (h:=h) (i:=i) (a:=a) (by simpa using hi);rw[N5,show (i+1)*2=i*2+1+1 by omega];exact e
theorem P5:∀{h} {i} (a:Nat×Nat),i<h.length->((Hw h).set (i*2) a.1).set (i*2+1) (AI a.2)=Hw (h.set i a)
 |[],_,_,hi=>by simp at hi
 |b::h,0,a,_=>rfl
 |b::h,i+1,a,hi=>by
  have e:=P5 (h:=h) (i:=i) a (by simpa using hi);rw[N5,show (i+1)*2=i*2+1+1 by omega,B7,B7,B7,B7,e];rfl
theorem Sw:∀(h:List (Nat×Nat)) (n:Nat),(Hw h).take (n*2)=Hw (h.take n)
 |[],n=>by rw[List.take_nil];exact List.take_nil
 |a::h,0=>by rw[CY,Bs,Bs];rfl
 |a::h,n+1=>by
  rw[N5,show (n+1)*2=n*2+1+1 by omega,List.take_succ_cons,List.take_succ_cons,Sw h n];rfl
theorem JY{w base e v n xs}(h:w.ownsRow base e 2 v n xs)(U:0<n):
  ∃gl c cs,v=AJ (AE ⟨gl,0,AD⟩) n c/\base<=gl/\Row w gl e cs/\n<=c/\c<=maxLen/\cs.length=c*2/\cs.take (n*2)=xs:=by
 obtain⟨h1,⟨_,I⟩|⟨gl,c,cur,I,h3,h4,h5,Q,O,J⟩⟩:=h
 ·omega
 ·exact⟨gl,c,cur.toList,I,h3,by unfold Row;rw[Array.toArray_toList];exact h4,h5,Q,by simpa using O,J⟩
theorem Ms{w:World}{base e v n xs}(h:w.ownsRow base e 2 v n xs):∃A c,v=AJ A n c:=by
 obtain⟨J,⟨I,h3⟩|⟨gl,c,cur,I,_⟩⟩:=h
 ·exact⟨AD,0,by rw[I,h3]⟩
 ·exact⟨_,_,I⟩
theorem lY{w base e n gl c cs xs}(J:Row w gl e cs)(hb:base<=gl)(O:n<=c)(U:c<=maxLen)(Q:cs.length=c*2)(I:cs.take (n*2)=xs):w.ownsRow base e 2 (AJ gl n c) n xs:=by
 refine⟨by rw[<-I,AZ];omega,.inr ⟨gl,c,cs.toArray,rfl,hb,J,O,U,by simpa using Q,by simpa using I⟩⟩
def NU(X:Cx)(sx k g M:Nat)(o:Cy)(lv:Value)(h:List (Nat×Nat)):DD:=⟨λb=>b=sx\/lv.ownBlock=AE b,λW=>Row W sx 237 (Kh k g M M o lv)/\W.ownsRow X.w0.heap.size 242 2 lv h.length (Hw h),AD,(0,0),λ_=>True⟩
section
variable{X:Cx}{os:List DD}{m iz ig:Nat}{W W':World}{sx k b g M:Nat}{o:Cy}{lv:Value}{h cl:List (Nat×Nat)}{cur:List Cy}
theorem kY:(NU X sx k g M o lv h).Ok:=⟨λW W' ⟨e,h2⟩ hk=>⟨Ej e (hk _ (.inl rfl)),Fw h2 λk he=>hk k (.inr he)⟩,λ_ _ _ _ _=>trivial,λ_ _ h=>by cases h⟩
theorem Wd.streams(hw:Wd X os m W)(hi:os[iz]?=AE (NU X sx k g M o lv h)){Ji}{h'}(hf:DJ (λb=>b=sx\/lv.ownBlock=AE b) W W')(I:Row W' sx 237 (Kh k g M M o Ji))(J:W'.ownsRow X.w0.heap.size 242 2 Ji h'.length (Hw h'))
  (hb:∀b,Ji.ownBlock=AE b->lv.ownBlock=AE b\/W<=b):Wd X (os.set iz (NU X sx k g M o Ji h')) m W':=by
 obtain⟨h1,U⟩:=hw.at_ hi;refine hw.Qp hi hf (λb hb=>⟨hb,λv e=>?_⟩) kY ⟨I,J⟩ (λb DT=>⟨?_,?_⟩) rfl rfl (λ_ _=>trivial)
 ·rcases hb with rfl|hb
  ·exact absurd (h1.typed e) a6
  ·obtain⟨h3,⟨h4,_⟩|⟨gl,c,c2,h4,h5,Q,_⟩⟩:=U
   ·rw[h4]at hb;cases hb
   ·rw[h4]at hb;have hb:gl=b:=by injection hb
    subst hb;have O:Row W gl 242 c2.toList:=by unfold Row;rw[Array.toArray_toList];exact Q
    exact absurd (O.typed e) a6
 ·rcases DT with rfl|DT
  ·exact .inl (.inl rfl)
  ·exact(hb b DT).elim (λh=>.inl (.inr h)) .inr
 ·rcases DT with rfl|DT
  ·exact I.lt
  ·exact(J.lt b DT).2
def StR(X:Cx)(os:List DD)(m iz:Nat)(sx k g M:Nat)(o:Cy)(P:Nat)(h:List (Nat×Nat))(W:World):Prop:=(∀a∈h,a.1<P)/\h.length<=100000/\∃lv,Wd X (os.set iz (NU X sx k g M o lv h)) m W
theorem E7{h:List (Nat×Nat)}{i}(hi:i<h.length):h[i]?=AE (h.getD i (0,0))/\h.getD i (0,0)∈h:=by
 have e:h.getD i (0,0)=h[i]:=by rw[AT,AU hi];rfl
 rw[e];exact⟨AU hi,CO hi⟩
theorem kO{h i j}(hi:i<h.length)(e:j<h.length):∀a∈swp (0,0) h i j,a∈h:=λ_ I=>(Kf hi e).mem_iff.1 I
theorem Vu(hw:Wd X os m W)(J:os[ig]?=AE (Fz b g M k cur))(I:0<k/\k<=5)(O:cur.length*k<=M/\M<=1000000)(hf:ID k cur){p}(hp:p<cur.length):
  Calls AP 192 #[AL #[k,AJ g M M],p] W λe w'=>e=AH (AL #[AA AB (cur.getD p Cz).a,AA AB (cur.getD p Cz).b,AA AB (cur.getD p Cz).c,AA AB (cur.getD p Cz).d,AA AB (cur.getD p Cz).e])/\Below W W w':=by
 obtain⟨_,ws,h2,h3,h4⟩:=hw.at_ J;obtain⟨h5,h6⟩:=Ot I.2 rfl rfl h4 (getD_some hp);obtain⟨U,Q⟩:=hf _ (M7 hp);exact cS h3 I a5 ar O.2 a5 h6 U Q
theorem Pb(hg:os[ig]?=AE (Fz b g M k cur))(hi:iz≠ig)(ad:iz<os.length)(hk:0<k/\k<=5)(hM:cur.length*k<=M/\M<=1000000)(hf:ID k cur):
  U1 sx (0,0) (Qq o λp=>cur.getD p Cz) (StR X os m iz sx k g M o cur.length):=by
 have hs:∀lv h,(os.set iz (NU X sx k g M o lv h))[iz]?=AE (NU X sx k g M o lv h):=λlv h=>by rw[Aw,if_pos rfl,if_pos ad]
 have Ff:∀lv h,(os.set iz (NU X sx k g M o lv h))[ig]?=AE (Fz b g M k cur):=λlv h=>Fc hg hi;refine⟨λh W ⟨J,hle,lv,hw⟩=>?_,λh W i j ⟨J,hle,lv,hw⟩ hi hj=>?_,λh W i j ⟨J,hle,lv,hw⟩ hi hj=>?_⟩
 ·obtain⟨I,Q⟩:=hw.at_ (hs lv h);obtain⟨A,c,rfl⟩:=Ms Q;exact(OT I).mono λe w' ⟨he,hW⟩=>⟨he,J,hle,AJ A h.length c,by rw[hW];exact hw⟩
 ·obtain⟨I,Q⟩:=hw.at_ (hs lv h);obtain⟨gl,c,cs,rfl,h3,h4,h5,h6,h7,h8⟩:=JY Q a5;obtain⟨m1,m2⟩:=E7 hi;obtain⟨U,m4⟩:=E7 hj;have O:∀(p q:Nat) (v:Value),p<h.length->q<2->(Hw h)[p*2+q]?=AE v->W.cell? (gl,p*2+q)=AE v:=λp q v hp hq hv=>by
   rw[h4.cell,<-hv,<-h8,At,if_pos a5]
  refine(ef I hi hj (O i 0 _ hi a5 (Gc m1).1) (O j 0 _ hj a5 (Gc U).1) (λW' hb=>Vu (hw.below hb) (Ff _ h) hk hM hf (J _ m2)) (λW' hb=>Vu (hw.below hb) (Ff _ h) hk hM hf (J _ m4))).mono ?_;exact λe w' ⟨he,hb⟩=>⟨he,J,hle,_,hw.below hb⟩
 ·obtain⟨I,Q⟩:=hw.at_ (hs lv h);obtain⟨gl,c,cs,rfl,h3,h4,h5,h6,h7,h8⟩:=JY Q a5;obtain⟨m1,m2⟩:=E7 hi;obtain⟨U,m4⟩:=E7 hj;have O:∀(p q:Nat) (v:Value),p<h.length->q<2->(Hw h)[p*2+q]?=AE v->cs[p*2+q]?=AE v:=λp q v hp hq hv=>by
   rw[<-hv,<-h8,At,if_pos a5]
  refine(eV I h4 hi hj (O i 0 _ hi a5 (Gc m1).1) (O i 1 _ hi a5 (Gc m1).2) (O j 0 _ hj a5 (Gc U).1) (O j 1 _ hj a5 (Gc U).2)).mono ?_;rintro e w' ⟨he,hr,hF⟩;have IZ:((((cs.set (i*2) (AA AB ((h.getD j (0,0)).1:Nat))).set (i*2+1) (AI (AE ⟨(h.getD j (0,0)).2,0,AD⟩))).set (j*2) (AA AB ((h.getD i (0,0)).1:Nat))).set (j*2+1) (AI (AE ⟨(h.getD i (0,0)).2,0,AD⟩))).take (h.length*2)=Hw (swp (0,0) h i j):=by
   rw[List.take_set,List.take_set,List.take_set,List.take_set,h8,P5 _ hi,P5 _ (by rw[Bg];exact hj)];rfl
  have ab:sx≠gl:=λe=>absurd (I.typed (e▸h4)) a6;have ho:w'.ownsRow X.w0.heap.size 242 2 (AJ gl h.length c) (swp (0,0) h i j).length (Hw (swp (0,0) h i j)):=by rw[Fb];exact lY hr h3 h5 h6 (by simp[h7]) IZ
  have h9:=hw.streams (h':=swp (0,0) h i j) (hs _ h) (hF.mono λb hb=>by
   have hb:b=gl:=hb;subst hb;exact .inr rfl) (hF.row I ab) ho (λb hb=>.inl hb)
  rw[List.set_set]at h9;exact⟨he,λa ha=>J a (kO hi hj a ha),by rw[Fb];exact hle,_,h9⟩
def yO(a:Nat×Nat):Value:=.iface 242 (AL #[a.1,AI a.2])
theorem ri{P}(O:iz<os.length)(h:List (Nat×Nat))(W:World)(I:StR X os m iz sx k g M o P h W)(J:0<h.length):
  Calls AP 201 #[AI sx] W λe w'=>e=AH (yO (h.getD (h.length-1) (0,0)))/\StR X os m iz sx k g M o P (h.take (h.length-1)) w':=by
 obtain⟨h0,hle,lv,hw⟩:=I;have U:∀lv h,(os.set iz (NU X sx k g M o lv h))[iz]?=AE (NU X sx k g M o lv h):=λlv h=>by rw[Aw,if_pos rfl,if_pos O]
 obtain⟨h1,h2⟩:=hw.at_ (U lv h);obtain⟨gl,c,cs,rfl,h3,h4,h5,h6,h7,h8⟩:=JY h2 J;obtain⟨Q,m2⟩:=E7 (show h.length-1<h.length by omega);have GA:∀(p q:Nat) (v:Value),p<h.length->q<2->(Hw h)[p*2+q]?=AE v->W.cell? (gl,p*2+q)=AE v:=λp q v hp hq hv=>by
  rw[h4.cell,<-hv,<-h8,At,if_pos a5]
 refine(kZ h1 (show h.length=(h.length-1)+1 by omega) ⟨h5,a5⟩ (GA _ 0 _ a5 a5 (Gc Q).1) (GA _ 1 _ a5 a5 (Gc Q).2)).mono ?_;rintro e w' ⟨he,I,hF⟩;have Qt:gl≠sx:=λe=>absurd (h1.typed (e▸h4)) a6;have zV:(h.take (h.length-1)).length=h.length-1:=by rw[AZ];omega
 have ho:w'.ownsRow X.w0.heap.size 242 2 (AJ gl (h.length-1) c) (h.take (h.length-1)).length (Hw (h.take (h.length-1))):=by
  rw[zV];refine lY (hF.row h4 Qt) h3 a5 h6 h7 ?_;rw[<-Sw,<-h8,CN,Bi a5]
 have h9:=hw.streams (h':=h.take (h.length-1)) (U _ h) (hF.mono λb hb=>.inl hb) I ho (λb hb=>.inl hb);rw[List.set_set]at h9;exact⟨he,λa ha=>h0 a (Bw ha),a5,_,h9⟩
theorem kU{P}(I:iz<os.length){h}{W}(hr:StR X os m iz sx k g M o P h W)(a:Nat×Nat)(ha:a.1<P)(hl:h.length+1<=100000):
  Calls AP 195 #[AI sx,yO a] W λe w'=>e=AH (AM #[])/\StR X os m iz sx k g M o P (h++[a]) w':=by
 obtain⟨h0,hle,lv,hw⟩:=hr;have J:∀lv h,(os.set iz (NU X sx k g M o lv h))[iz]?=AE (NU X sx k g M o lv h):=λlv h=>by rw[Aw,if_pos rfl,if_pos I]
 obtain⟨h1,h2⟩:=hw.at_ (J lv h);refine(eW (p:=a.1) (x:=a.2) h1 h2 hw.size a5).mono ?_;rintro e w' ⟨he,Ji,k1,U,k3,Q⟩;have ho:w'.ownsRow X.w0.heap.size 242 2 Ji (h++[a]).length (Hw (h++[a])):=by rw[Aa,aN];exact U
 have O:=hw.streams (h':=h++[a]) (J _ h) k3 k1 ho Q;rw[List.set_set]at O;refine⟨he,λb hb=>?_,by rw[Aa];exact hl,_,O⟩;rcases Ah.1 hb with hb|hb
 ·exact h0 b hb
 ·rw[Bp.1 hb];exact ha
end
theorem Dj{a b:List DD}{i:Nat}{v}(h:a[i]?=AE v):(a++b)[i]?=AE v:=by rw[Aj (MG h)];exact h
theorem IW{a b:List DD}{i u v}(h:a[i]?=AE u):(a++b).set i v=a.set i v++b:=List.set_append_left _ _ (MG h)
theorem DG(a b:List DD)(j:Nat):(a++b)[a.length+j]?=b[j]?:=by rw[AW a5,Cq]
theorem Wd.forget{X a b m W}(h:Wd X (a++b) m W)(hb:Dr b):Wd X a m W:=by
 have I:Wd X (a++b++[]) m W:=by rw[AY];exact h
 have e:=I.GB b hb;rwa [AY]at e
theorem Hg(g:Nat)(t:TypeId)(cs:List Value):(Cv g t cs).gr=AD/\(Cv g t cs).ex.2=0:=⟨rfl,rfl⟩
theorem DI{a l}(O:a.gr=AD/\a.ex.2=0)(J:Dr l):Dr (a::l):=λq I=>(A8.1 I).elim (λe=>by rw[e];exact O) (J q)
theorem Eb:Dr []:=λq e=>by cases e
section
variable{X:Cx}{os:List DD}{m iz ig ip:Nat}{W W':World}{sx k b g M p0 x0:Nat}{o t nx:Cy}{lv:Value}{hp:List (Nat×Nat)}{cur l:List Cy}{rt:Rt}
theorem UC{W b u t}(e:Row W b 47 (DH u)):Row (((((W.setCell b t.a).setCell (b,1) t.b).setCell (b,2) t.c).setCell (b,3) t.d).setCell (b,4) t.e) b 47 (DH t)/\
  DJ (λk=>k=b) W (((((W.setCell b t.a).setCell (b,1) t.b).setCell (b,2) t.c).setCell (b,3) t.d).setCell (b,4) t.e):=by
 refine⟨((((e.set 0 _).set 1 _).set 2 _).set 3 _).set 4 _,?_⟩;exact((((((DJ.refl (λk=>k=b) W).set (p:=⟨b,0,AD⟩) (.inl rfl) _).set (p:=⟨b,1,AD⟩) (.inl rfl) _).set (p:=⟨b,2,AD⟩) (.inl rfl) _).set (p:=⟨b,3,AD⟩) (.inl rfl) _).set (p:=⟨b,4,AD⟩) (.inl rfl) _)
theorem Mr{z W w' s0}{u t:Cy}(h:Wd X (os++Cv s0 47 (DH u)::z) m W)(J:Dr z)(hw:w'=(((((W.setCell s0 t.a).setCell (s0,1) t.b).setCell (s0,2) t.c).setCell (s0,3) t.d).setCell (s0,4) t.e)):
  (w'.cell? s0=AE (AA AB t.a)/\w'.cell? (s0,1)=AE (AA AB t.b)/\w'.cell? (s0,2)=AE (AA AB t.c)/\w'.cell? (s0,3)=AE (AA AB t.d)/\w'.cell? (s0,4)=AE (AA AB t.e))/\Hid (Wd X os m w'):=by
 subst hw;have O:Wd X ((os++[Cv s0 47 (DH u)])++z) m W:=by rw[AR];exact h
 have e:=O.forget J;have I:(os++[Cv s0 47 (DH u)])[os.length]?=AE (Cv s0 47 (DH u)):=by rw[AW ar,As];rfl
 obtain⟨h3,h4⟩:=UC (t:=t) (e.row I);have h5:=e.KN I a6 h4 h3;rw[GY]at h5;exact⟨⟨h3.cell 0,h3.cell 1,h3.cell 2,h3.cell 3,h3.cell 4⟩,h5.forget (DI (Hg _ _ _) Eb)⟩
theorem ZF(h:Wd X os m W)(O:os[iz]?=AE (NU X sx k g M o lv [])):Calls AP 194 #[AI sx] W λe w'=>e=AH (AM #[DW Cz,false,()])/\Wd X os m w':=by
 obtain⟨W1,J⟩:=ae (W.alloc (AK #[(),(),(),(),()] 47));have Dg:Below W W W1:=by rw[J];exact(AS _ _).alloc ar _
 have I:Row W1 W 47 [(),(),(),(),()]:=by rw[J];exact heap_alloc_new _ _
 have U:Hid (Wd X (os++[Cv W 47 (DH Cz)]) m W1):=h.new Dg (g:=W) (t:=47) (cs:=DH Cz) I ar;obtain⟨A,c,rfl⟩:=Ms (h.at_ O).2;have HL:Hid (Calls AP 161 #[AI sx] W1 λe w'=>e=AH ()/\w'=W1):=OT (U.out.at_ (Dj O)).1;have FQ:=AO J;obtain⟨c0,c1,c2,c3,c4⟩:=I.q5;obtain⟨d0,d1,d2,d3,d4⟩:=I.r5;generalize aE:W.heap.size=s0 at*
 clear h O Dg J I;go_enter func194,ntmps194
 go_upto_region 1 with(fail)
 rw[<-FQ.out];clear FQ;go_wp2_with fail
 refine HL.out.mono ?_;rintro e w2 ⟨rfl,rfl⟩;clear HL aE;go_wp2
 have Q:=Mr (t:=⟨0,0,0,0,0⟩) U.out Eb rfl;dsimp only at Q;generalize(((((w2.setCell s0 ()).setCell (s0,1) ()).setCell (s0,2) ()).setCell (s0,3) ()).setCell (s0,4) ())=w9 at*
 obtain⟨⟨q0,q1,q2,q3,q4⟩,H9⟩:=Q;exact BA (v:=AM #[AL #[(),(),(),(),()],false,()]) (by simp[results,Tryz.results194,go_sem,q0,q1,q2,q3,q4]) rfl ⟨rfl,H9.out⟩
theorem XH{hp:List (Nat×Nat)}(O:(hp.map (·.1)).Nodup){i j}(hi:i<hp.length)(Q:j<hp.length)(U:i≠j):(hp.getD i (0,0)).1≠(hp.getD j (0,0)).1:=λe=>by
 have J:∀{i:Nat} (h:i<hp.length),(hp.getD i (0,0)).1=(hp.map (·.1))[i]'(by rw[Ai];exact h):=λ{i} h=>by
  rw[List.getElem_map,AT,AU h];rfl
 rw[J hi,J Q]at e;have I:=Bh.1 O;rcases Nat.lt_or_gt_of_ne U with h|h
 ·exact I i j _ _ h e
 ·exact I j i _ _ h e.symm
theorem gf(J:(hp.map (·.1)).Nodup)(e:0<hp.length)(h0:hp.getD 0 (0,0)=(p0,x0))(tX:p0<=cur.length)(hh:Hp (Qq o λp=>cur.getD p Cz) (λi=>hp.getD i (0,0)) hp.length):jC (Qq o λp=>(Hl cur p0 nx).getD p Cz) (λi=>hp.getD i (0,0)) hp.length 0:=by
 refine Hp.xP λj U O I=>?_;have Q:=hh j U O;have h2:=ME U;have h3:=XH J O e a5;have h4:=XH J (show par j<hp.length by omega) e I;rw[h0]at h3 h4;unfold Qq at Q⊢;simp only[OX tX];rw[if_neg h3,if_neg h4];exact Q
theorem kz(a:Nat×Nat)(w:World):Bu AP (Instr.field 242 (AL #[a.1,AI a.2]) 1) w=.ok (AI a.2) w:=a7
theorem ee(h:Wd X os m W)(hg:os[ig]?=AE (Fz b g M k cur))(hs:os[iz]?=AE (NU X sx k g M o lv hp))(hr:os[ip]?=AE (E0 X.p x0 rt X.sz l))(hd:ig≠iz/\ip≠ig/\ip≠iz)
    (ab:0<hp.length/\hp.length<=100000)(h0:hp.getD 0 (0,0)=(p0,x0))(hk:0<k/\k<=5)(hM:cur.length*k<=M/\M<=1000000)(hf:ID k cur)(Gi:∀a∈hp,a.1<cur.length)(wO:(hp.map (·.1)).Nodup)
    (hh:Hp (Qq o λp=>cur.getD p Cz) (λi=>hp.getD i (0,0)) hp.length)(DN:qV rt X.sz l)(hn:X.N+m<1000000)(EZ:Src os X.sz rt.first rt.k rt.h l)(a9:rt.k=k)(ht:cur.getD p0 Cz=t):
    Calls AP 194 #[AI sx] W λe w'=>
      (e=AH (AM #[DW t,true,()])/\
        ((∃ nx jT Ji,rt.pos<rt.count/\l[rt.pos]?=AE nx/\Hp (Qq o λp=>(Hl cur p0 nx).getD p Cz) (λi=>jT.getD i (0,0)) jT.length/\jT.Perm hp/\
            Wd X (((os.set ip (E0 X.p x0 {rt with pos:=rt.pos+1} X.sz l)).set ig (Fz b g M k (Hl cur p0 nx))).set iz (NU X sx k g M o Ji jT)) (m+(Cu rt.h (rt.pos+1)-Cu rt.h rt.pos)) w')\/
         (∃ jT Ji,rt.pos=rt.count/\Hp (Qq o λp=>cur.getD p Cz) (λi=>jT.getD i (0,0)) jT.length/\((p0,x0)::jT).Perm hp/\
            Wd X ((os.set ip (Nn X.p x0 rt)).set iz (NU X sx k g M o Ji jT)) m w')))\/
      (e=AH (AM #[DW Cz,false,AA AB 6])/\¬X.cm/\Wd X (os.set ip (Nn X.p x0 rt)) (m+1) w'):=by
  obtain⟨gl,c,cs,rfl,h3,h4,h5,h6,h7,h8⟩:=JY (h.at_ hs).2 ab.1;have aR:=(E7 ab.1).1;rw[h0]at aR;have tX:p0<cur.length:=by
    have:=Gi _ (E7 ab.1).2;rw[h0]at this;exact this
  have GC:Hid (∀(os' z:List DD) m' W',os'[iz]?=AE (NU X sx k g M o (AJ gl hp.length c) hp)->Wd X (os'++z) m' W'->Row W' sx 237 (Kh k g M M o (AJ gl hp.length c))/\W'.cell? gl=AE (AA AB (p0:Nat))/\W'.cell? (gl,1)=AE (AI x0)):=λos' z m' W' hi hw=>by
    obtain⟨k1,k2⟩:=hw.at_ (Dj hi);obtain⟨bo,c2,bp,e2,_,k4,k5,_,k7,k8⟩:=JY k2 ab.1;injection e2 with e2 _ e3
    injection e2 with e2
    injection e2 with e2
    subst e2;obtain⟨m1,m2⟩:=Gc aR;refine⟨k1,?_,?_⟩
    · rw[k4.cell,<-m1,<-k8,At,if_pos a5,CY]
    · rw[k4.cell,<-m2,<-k8,At,if_pos a5,CY]
  have RO:Hid (∀W4 z,Wd X (os++z) m W4->Calls AP 48 #[AI x0] W4 λe w'=>
      (∃ Q nb O nd ne,e=AH (AM #[AL #[AA AB Q,AA AB nb,AA AB O,AA AB nd,AA AB ne],.bool true,AA AB 0])/\rt.pos<rt.count/\l[rt.pos]?=AE ⟨Q,nb,O,nd,ne⟩/\Wd X (os.set ip (E0 X.p x0 {rt with pos:=rt.pos+1} X.sz l)++z) (m+(Cu rt.h (rt.pos+1)-Cu rt.h rt.pos)) w')\/
      (e=AH (AM #[AL #[(),(),(),(),()],false,()])/\rt.pos=rt.count/\Wd X (os++z) m w')\/
      (e=AH (AM #[AL #[(),(),(),(),()],false,AA AB 6])/\¬X.cm/\Wd X (os.set ip (Nn X.p x0 rt)++z) (m+1) w')):=λW4 z h4=>by
    have aB:(os++z)[ip]?=AE (E0 X.p x0 rt X.sz l):=Dj hr;rcases Nat.eq_or_lt_of_le DN.ok.count.2 with he|al
    · refine(L5 h4 aB DN.ok he).mono ?_
      exact λe w' ⟨h1,h2⟩=>.inr (.inl ⟨h1,he,h2⟩)
    · obtain⟨nx,Pq⟩:∃nx,l[rt.pos]?=AE nx:=⟨_,AU (by rw[DN.cnt];exact al)⟩
      have a8:Src (os++z) X.sz rt.first rt.k rt.h l:=by
        obtain⟨j,f,k1,k2,k3⟩:=EZ;exact⟨j,f,Dj k1,k2,k3⟩
      refine(OK h4 aB DN hn al a8 Pq).mono ?_;rintro e w' (⟨h1,h2⟩|⟨h1,h2,h3⟩)
      · rw[IW hr]at h2
        exact .inl ⟨nx.a,nx.b,nx.c,nx.d,nx.e,h1,al,Pq,h2⟩
      · rw[IW hr]at h3
        exact .inr (.inr ⟨h1,h2,h3⟩)
  clear h3 h4 h5 h6 h7 h8;generalize a0:hp.length=n at*
  obtain⟨W1,EJ⟩:=ae (W.alloc (AK #[(),(),(),(),()] 47));have Dg:Below W W W1:=by rw[EJ];exact(AS _ _).alloc ar _
  have H1:Hid (Wd X (os++[Cv W 47 (DH Cz)]) m W1):=h.new Dg (by rw[EJ];exact heap_alloc_new _ _) ar;have FQ:=AO EJ;clear EJ Dg;generalize aE:W.heap.size=s0 at*
  obtain⟨I,I8⟩:=ae (W1.alloc (AK #[p0,AI x0] 242));have DT:Below W1 W1 I:=by rw[I8];exact(AS _ _).alloc ar _
  have H2:Hid (Wd X (os++[Cv s0 47 (DH Cz),Cv W1 242 (LQ (p0,x0))]) m I):=by
    have J:=H1.out.new DT (g:=W1) (t:=242) (cs:=LQ (p0,x0)) (by rw[I8];exact heap_alloc_new _ _) ar;rw[AR]at J;exact J
  have Lv:=AO I8;clear I8 DT;generalize bb:W1.heap.size=U at*
  have Et:=GC.out os _ _ _ hs H1.out;have HL:=AO (OT Et.1);have c7:W1.cell? (sx,7)=AE (AJ gl n c):=Et.1.cell 7;have l0:=Et.2.1;have l1:=Et.2.2;have n1:(0:Int)<(n:Int):=a5;have n2:((n:Int)==0)=false:=by simp;omega
  clear Et;go_enter func194,ntmps194
  go_upto_region 1 with(fail)
  rw[<-FQ.out];clear FQ;go_wp2_with fail
  refine HL.out.mono ?_;rintro e w2 ⟨rfl,rfl⟩;clear HL;go_upto_region 4 with(fail)
  rw[<-Lv.out];clear Lv c7 l0 l1 aE bb;have an:=H2.out.drewN 1;rw[show I.drewN 1=I.drew from rfl]at an;have EC:=GC.out os _ _ _ hs an;obtain⟨c0,c1⟩:=EC.1.q2;have e0:I.drew.cell? U=AE (AA AB (p0:Nat)):=(an.row (DG os _ 1)).cell 0;have HG:=AO (Vu an (Dj hg) hk hM hf tX);rw[ht]at HG;have HK:Hid (∀w3,Below I I w3->(w3.cell? sx=AE (AA AB k)/\w3.cell? (sx,1)=AE (AJ g M M)/\w3.cell? U=AE (AA AB (p0:Nat)))):=λw3 hb=>by
    have J:=H2.out.below hb;have h8:=GC.out os _ _ _ hs J;exact⟨h8.1.cell 0,h8.1.cell 1,(J.row (DG os _ 1)).cell 0⟩
  clear EC an;obtain⟨W3,Ky⟩:=ae (I.alloc (AK #[(),(),(),(),()] 47));have ED:Below I I W3.drew:=by rw[Ky];exact((AS _ _).alloc ar _).drew
  have H3:Hid (Wd X (os++[Cv s0 47 (DH Cz),Cv U 242 (LQ (p0,x0)),Cv I 47 (DH Cz)]) m W3.drew):=by
    have J:=H2.out.new ED (g:=I) (t:=47) (cs:=DH Cz) (by rw[Ky];exact heap_alloc_new _ _) ar;rw[AR]at J;exact J
  have jj:=AO (Vu H3.out (Dj hg) hk hM hf tX);rw[ht]at jj;have b3:=HK.out _ ED;have Ei:Hid (∀w3,Below W3.drew.heap.size W3.drew w3->Below I I w3/\Hid (Wd X (os++[Cv s0 47 (DH Cz),Cv U 242 (LQ (p0,x0)),Cv I 47 (DH Cz)]) m w3)):=λw3 hb=>⟨ED.trans (hb.mono ED.size),H3.out.below hb⟩;have PF:Hid (∀w3,Wd X (os++[Cv s0 47 (DH Cz),Cv U 242 (LQ (p0,x0)),Cv I 47 (DH Cz)]) m w3->(w3.cell? I=AE (AA AB 0)/\w3.cell? (I,1)=AE (AA AB 0)/\w3.cell? (I,2)=AE (AA AB 0)/\w3.cell? (I,3)=AE (AA AB 0)/\w3.cell? (I,4)=AE (AA AB 0))/\
      (w3.frozen? I.heap.size=false/\w3.frozen? (I.heap.size,1)=false/\w3.frozen? (I.heap.size,2)=false/\w3.frozen? (I.heap.size,3)=false/\w3.frozen? (I.heap.size,4)=false)):=λw3 J=>by
    have hr:=J.row (DG os _ 2);exact⟨⟨hr.cell 0,hr.cell 1,hr.cell 2,hr.cell 3,hr.cell 4⟩,hr.free 0,hr.free 1,hr.free 2,hr.free 3,hr.free 4⟩
  have Fg:Hid (∀w3,Below I.drew.heap.size I.drew w3->Below I I w3/\Hid (Wd X (os++[Cv s0 47 (DH Cz),Cv U 242 (LQ (p0,x0))]) m w3)):=λw3 hb=>⟨(DC (AS _ _)).trans hb,H2.out.below ((DC (AS _ _)).trans hb)⟩;rw[Ky]at jj b3 Ei;clear Ky ED H3;go_region_held3 (λw'=>w'.cell? sx=AE (AA AB k)/\w'.cell? (sx,1)=AE (AJ g M M)/\w'.cell? U=AE (AA AB (p0:Nat))) (first|with_reducible exact⟨c0,c1,e0⟩|with_reducible exact b3|with_reducible exact q3|with_reducible exact q4|with_reducible exact q5)
    (first
      | (go_at_call 192;(with_reducible refine HG.out.mono ?_);rintro e w3 ⟨rfl,ED⟩;obtain⟨IE,H9⟩:=Fg.out w3 ED;have q3:=HK.out w3 IE;have q4:=HK.out _ (IE.alloc IE.size (AK #[(),(),(),(),()] 47));have q5:=HK.out _ (IE.alloc IE.size (AK #[t.a,t.b,t.c,t.d,t.e] 47)))
      | (go_at_call 192;(with_reducible refine jj.out.mono ?_);rintro e w3 ⟨rfl,ED⟩;obtain⟨IE,H9⟩:=Ei.out w3 ED;have q3:=HK.out w3 IE;obtain⟨⟨z0,z1,z2,z3,z4⟩,⟨y0,y1,y2,y3,y4⟩⟩:=PF.out w3 H9.out;have q4:=HK.out _ (((((IE.setCell (p:=I.heap.size) ar t.a).setCell (p:=(I.heap.size,1)) ar t.b).setCell (p:=(I.heap.size,2)) ar t.c).setCell (p:=(I.heap.size,3)) ar t.d).setCell (p:=(I.heap.size,4)) ar t.e);have q5:=q4))
  all_goals
    first
      | (have hx:Wd X (os++[Cv s0 47 (DH Cz),Cv U 242 (LQ (p0,x0)),Cv w3.heap.size 47 (DH t)]) m (w3.alloc (AK #[t.a,t.b,t.c,t.d,t.e] 47)):=by
           have J:=H9.out.new ((AS _ _).alloc ar _) (g:=w3) (t:=47) (cs:=DH t) (heap_alloc_new w3 (AK #[t.a,t.b,t.c,t.d,t.e] 47)) ar;rw[AR]at J;exact J
         clear q3 q4 q5 ED IE;generalize w3.alloc (AK #[t.a,t.b,t.c,t.d,t.e] 47)=W4 at*
         generalize w3.heap.size=s3 at*)
      | (have hx:Wd X (os++[Cv s0 47 (DH Cz),Cv U 242 (LQ (p0,x0)),Cv I.heap.size 47 (DH t)]) m (((((w3.setCell I.heap.size t.a).setCell (I.heap.size,1) t.b).setCell (I.heap.size,2) t.c).setCell (I.heap.size,3) t.d).setCell (I.heap.size,4) t.e):=by
           have Eu:(os++[Cv s0 47 (DH Cz),Cv U 242 (LQ (p0,x0)),Cv I 47 (DH Cz)])[os.length+2]?=AE (Cv I 47 (DH Cz)):=DG os _ 2;obtain⟨h3,h4⟩:=UC (t:=t) (H9.out.row Eu);have J:=H9.out.KN Eu a6 h4 h3;rw[Ap _ _ a5,show os.length+2-os.length=2 by omega]at J;exact J
         clear q3 q4 q5 ED IE z0 z1 z2 z3 z4 y0 y1 y2 y3 y4;generalize((((w3.setCell I.heap.size t.a).setCell (I.heap.size,1) t.b).setCell (I.heap.size,2) t.c).setCell (I.heap.size,3) t.d).setCell (I.heap.size,4) t.e=W4 at*
         generalize I.heap.size=s3 at*)
    have H4:=AO hx;have e1:W4.cell? (U,1)=AE (AI x0):=(hx.row (DG os _ 1)).cell 1;have ao:=AO (RO.out W4 _ hx);clear hx H9 c0 c1 e0 b3 HG jj Ei Fg PF HK H2 H1;go_wp2_with fail
    refine ao.out.mono ?_;rintro e w5 (⟨Q,nb,O,nd,ne,rfl,al,Pq,h5⟩|⟨rfl,aD,h5⟩|⟨rfl,Fy,h5⟩)
    · obtain⟨jP,nF⟩:∃jP,jP=os.set ip (E0 X.p x0 {rt with pos:=rt.pos+1} X.sz l):=⟨_,rfl⟩
      obtain⟨m1,OF⟩:=ae (m+(Cu rt.h (rt.pos+1)-Cu rt.h rt.pos));rw[<-nF,<-OF]at h5;have mw:jP[iz]?=AE (NU X sx k g M o (AJ gl n c) hp):=by rw[nF];exact Fc hs hd.2.2
      have Z3:jP[ig]?=AE (Fz b g M k cur):=by rw[nF];exact Fc hg hd.2.1
      have au:=DN.fit _ (Ae Pq);rw[a9]at au;have h6:Wd X (jP++[Cv s0 47 (DH Cz),Cv U 242 (LQ (p0,x0)),Cv s3 47 (DH t),Cv w5 47 (DH ⟨Q,nb,O,nd,ne⟩)]) m1 (w5.alloc (AK #[Q,nb,O,nd,ne] 47)):=by
        have J:=h5.new ((AS _ _).alloc ar _) (g:=w5) (t:=47) (cs:=DH ⟨Q,nb,O,nd,ne⟩) (heap_alloc_new w5 (AK #[Q,nb,O,nd,ne] 47)) ar;rw[AR]at J;exact J
      have bj:=AO nF;have dQ:=AO OF;have bk:=AO au;have KM:=AO al;have bn:=AO Pq;clear h5 ao H4 nF OF au Pq e1;go_upto_region 10 with(fail)
      generalize w5.alloc (AK #[Q,nb,O,nd,ne] 47)=w6 at*
      generalize w5.heap.size=s5 at*
      have Ua:=h6.drewN 1;rw[show w6.drewN 1=w6.drew from rfl]at Ua;have MM:=GC.out jP _ _ _ mw Ua;obtain⟨c0,c1⟩:=MM.1.q2;have e0:w6.drew.cell? U=AE (AA AB (p0:Nat)):=(Ua.row (DG _ _ 1)).cell 0;have d0:w6.drew.cell? s5=AE (AA AB Q):=(Ua.row (DG _ _ 3)).cell 0;have d1:w6.drew.cell? (s5,1)=AE (AA AB nb):=(Ua.row (DG _ _ 3)).cell 1;have d2:w6.drew.cell? (s5,2)=AE (AA AB O):=(Ua.row (DG _ _ 3)).cell 2;have d3:w6.drew.cell? (s5,3)=AE (AA AB nd):=(Ua.row (DG _ _ 3)).cell 3;have d4:w6.drew.cell? (s5,4)=AE (AA AB ne):=(Ua.row (DG _ _ 3)).cell 4;have aC:p0*k+k<=M:=by
        have h1:=Af k (show p0+1<=cur.length from tX);rw[A7,BH]at h1;omega
      have aq:Hid (Calls AP 154 #[AL #[k,AJ g M M],p0,AL #[Q,nb,O,nd,ne]] w6.drew λe w'=>e=AH (AM #[])/\Wd X (jP.set ig (Fz b g M k (Hl cur p0 ⟨Q,nb,O,nd,ne⟩))++[Cv s0 47 (DH Cz),Cv U 242 (LQ (p0,x0)),Cv s3 47 (DH t),Cv s5 47 (DH ⟨Q,nb,O,nd,ne⟩)]) m1 w'):=by
        refine(Y0 Ua (Dj Z3) hk p0 ⟨Q,nb,O,nd,ne⟩ a5 aC ⟨AQ _,hM.2⟩ hM.1).mono ?_;rintro e w' ⟨h1,h2,_⟩;rw[IW Z3]at h2;exact⟨h1,h2⟩
      have a7:Hid (∀w',Wd X (jP.set ig (Fz b g M k (Hl cur p0 ⟨Q,nb,O,nd,ne⟩))++[Cv s0 47 (DH Cz),Cv U 242 (LQ (p0,x0)),Cv s3 47 (DH t),Cv s5 47 (DH ⟨Q,nb,O,nd,ne⟩)]) m1 w'->(w'.cell? sx=AE (AA AB k)/\w'.cell? (sx,1)=AE (AJ g M M)/\w'.cell? U=AE (AA AB (p0:Nat))/\w'.cell? s5=AE (AA AB Q)/\w'.cell? (s5,1)=AE (AA AB nb)/\w'.cell? (s5,2)=AE (AA AB O)/\w'.cell? (s5,3)=AE (AA AB nd)/\w'.cell? (s5,4)=AE (AA AB ne))):=λw' J=>by
        have EG:=GC.out _ _ _ _ (Fc mw hd.1) J;exact⟨EG.1.cell 0,EG.1.cell 1,(J.row (DG _ _ 1)).cell 0,(J.row (DG _ _ 3)).cell 0,(J.row (DG _ _ 3)).cell 1,(J.row (DG _ _ 3)).cell 2,(J.row (DG _ _ 3)).cell 3,(J.row (DG _ _ 3)).cell 4⟩
      have H6:=AO h6;clear h6 Ua MM aC;go_region_held3 (λw'=>w'.cell? sx=AE (AA AB k)/\w'.cell? (sx,1)=AE (AJ g M M)/\w'.cell? U=AE (AA AB (p0:Nat))/\w'.cell? s5=AE (AA AB Q)/\w'.cell? (s5,1)=AE (AA AB nb)/\w'.cell? (s5,2)=AE (AA AB O)/\w'.cell? (s5,3)=AE (AA AB nd)/\w'.cell? (s5,4)=AE (AA AB ne)) (first|with_reducible exact⟨c0,c1,e0,d0,d1,d2,d3,d4⟩|with_reducible exact q7)
        ((go_at_call 154;(with_reducible refine aq.out.mono ?_);rintro e w7 ⟨rfl,h7⟩;have q7:=a7.out w7 h7))
      have Zv:(jP.set ig (Fz b g M k (Hl cur p0 ⟨Q,nb,O,nd,ne⟩)))[iz]?=AE (NU X sx k g M o (AJ gl n c) hp):=Fc mw hd.1;have ba:(jP.set ig (Fz b g M k (Hl cur p0 ⟨Q,nb,O,nd,ne⟩)))[ig]?=AE (Fz b g M k (Hl cur p0 ⟨Q,nb,O,nd,ne⟩)):=IJ jP Z3 _;have Fl:(Hl cur p0 ⟨Q,nb,O,nd,ne⟩).length=cur.length:=by rw[OW a5];omega
      have a1:Calls AP 197 #[.iface 234 (AI sx),()] w7 λe w'=>e=AH (AM #[])/\∃h' Ji,Hp (Qq o λp=>(Hl cur p0 ⟨Q,nb,O,nd,ne⟩).getD p Cz) (λi=>h'.getD i (0,0)) h'.length/\h'.Perm hp/\
          Wd X ((jP.set ig (Fz b g M k (Hl cur p0 ⟨Q,nb,O,nd,ne⟩))).set iz (NU X sx k g M o Ji h')++[Cv s0 47 (DH Cz),Cv U 242 (LQ (p0,x0)),Cv s3 47 (DH t),Cv s5 47 (DH ⟨Q,nb,O,nd,ne⟩)]) m1 w':=by
        have hC:=Pb (X:=X) (m:=m1) (o:=o) (sx:=sx) (Dj (b:=[Cv s0 47 (DH Cz),Cv U 242 (LQ (p0,x0)),Cv s3 47 (DH t),Cv s5 47 (DH ⟨Q,nb,O,nd,ne⟩)]) ba) (λe=>hd.1 e.symm) (MG (Dj Zv)) hk ⟨by rw[Fl];exact hM.1,hM.2⟩ (XF hf bk.out);refine(nR (h:=hp) hC (Ob _ _) ⟨λa ha=>by rw[Fl];exact Gi a ha,a5,AJ gl n c,by rw[Iv (Dj Zv)];exact h7⟩ a5 ?_).mono ?_
        · exact gf wO a5 h0 a5 (by rw[a0];exact hh)
        · rintro e w' ⟨h1,h',h2,h3,_,_,Ji,h5⟩
          rw[IW Zv]at h5;exact⟨h1,h',Ji,by rw[h3.length_eq];exact h2,h3,h5⟩
      have a3:=AO a1;clear a1 h7 q7 H6 aq a7 c0 c1 e0 d0 d1 d2 d3 d4;go_wp2_with fail
      refine a3.out.mono ?_;rintro e w8 ⟨rfl,h',Ji,k1,k2,h8⟩;have xq:=AO k1;have YR:=AO k2;clear k1 k2 a3;have Qs:=h8.row (DG _ _ 0);have ad:=h8.row (DG _ _ 2);obtain⟨y0,y1,y2,y3,y4⟩:=Qs.q5;obtain⟨az,ay,ax,aw,av⟩:=Qs.r5;obtain⟨v0,v1,v2,v3,v4⟩:=ad.q5;have H8:=AO h8;clear h8 Qs ad;go_wp2
      have J:=Mr (t:=t) H8.out (DI (Hg _ _ _) (DI (Hg _ _ _) (DI (Hg _ _ _) Eb))) rfl;generalize(((((w8.setCell s0 t.a).setCell (s0,1) t.b).setCell (s0,2) t.c).setCell (s0,3) t.d).setCell (s0,4) t.e)=w9 at*
      obtain⟨⟨q0,q1,q2,q3,q4⟩,H9⟩:=J;exact BA (v:=AM #[DW t,true,()]) (by simp[results,Tryz.results194,go_sem,q0,q1,q2,q3,q4,DW]) rfl (.inl ⟨rfl,.inl ⟨⟨Q,nb,O,nd,ne⟩,h',Ji,KM.out,bn.out,xq.out,YR.out,by rw[<-bj.out,<-dQ.out];exact H9.out⟩⟩)
    · have h6:=h5.below ((AS _ _).alloc ar (AK #[(),(),(),(),()] 47))
      have GP:Calls AP 198 #[.iface 234 (AI sx)] (w5.alloc (AK #[(),(),(),(),()] 47)) λe w'=>e=AH (.iface 242 (AL #[p0,AI x0]))/\∃h' Ji,Hp (Qq o λp=>cur.getD p Cz) (λi=>h'.getD i (0,0)) h'.length/\((p0,x0)::h').Perm hp/\
          Wd X (os.set iz (NU X sx k g M o Ji h')++[Cv s0 47 (DH Cz),Cv U 242 (LQ (p0,x0)),Cv s3 47 (DH t)]) m w':=by
        have hC:=Pb (X:=X) (m:=m) (o:=o) (sx:=sx) (Dj (b:=[Cv s0 47 (DH Cz),Cv U 242 (LQ (p0,x0)),Cv s3 47 (DH t)]) hg) (λe=>hd.1 e.symm) (MG (Dj hs)) hk hM hf;refine(nD (h:=hp) (enc:=yO) hC (Ob _ _) ⟨Gi,a5,AJ gl n c,by rw[Iv (Dj hs)];exact h6⟩ a5 a5 (by rw[a0];exact hh) λh W hr ab=>ri (MG (Dj hs)) h W hr ab).mono ?_;rintro e w' ⟨h1,h',h2,h3,h4,_,_,Ji,h5⟩;rw[h0]at h1 h4;rw[IW hs]at h5;exact⟨h1,h',Ji,by rw[h3];exact h2,h4,h5⟩
      have T5:=AO GP;have aA:=Rx (p0,x0);have aS:=kz (p0,x0);dsimp only at aA aS;have bc:=AO aD;clear GP h5 h6 ao H4 aD e1;go_wp2_with fail
      refine T5.out.mono ?_;rintro e w7 ⟨rfl,h',Ji,k1,k2,h7⟩;have a2:Calls AP 47 #[AI x0] w7 λe w'=>e=AH (AM #[])/\Wd X ((os.set ip (Nn X.p x0 rt)).set iz (NU X sx k g M o Ji h')++[Cv s0 47 (DH Cz),Cv U 242 (LQ (p0,x0)),Cv s3 47 (DH t)]) m w':=by
        have Eu:(os.set iz (NU X sx k g M o Ji h'))[ip]?=AE (E0 X.p x0 rt X.sz l):=Fc hr λe=>hd.2.2 e.symm;refine(UA h7 (Dj Eu)).mono ?_;rintro e w' ⟨h1,h2⟩;rw[IW Eu,List.set_comm _ _ (λe=>hd.2.2 e.symm)]at h2;exact⟨h1,h2⟩
      have GR:=AO a2;have xq:=AO k1;have YR:=AO k2;clear a2 k1 k2 h7 T5;go_wp2_with fail
      refine GR.out.mono ?_;rintro e w8 ⟨rfl,h8⟩;clear GR aA aS;have Qs:=h8.row (DG _ _ 0);have ad:=h8.row (DG _ _ 2);obtain⟨y0,y1,y2,y3,y4⟩:=Qs.q5;obtain⟨az,ay,ax,aw,av⟩:=Qs.r5;obtain⟨v0,v1,v2,v3,v4⟩:=ad.q5;have H8:=AO h8;clear h8 Qs ad;go_wp2
      have J:=Mr (t:=t) H8.out (DI (Hg _ _ _) (DI (Hg _ _ _) Eb)) rfl;generalize(((((w8.setCell s0 t.a).setCell (s0,1) t.b).setCell (s0,2) t.c).setCell (s0,3) t.d).setCell (s0,4) t.e)=w9 at*
      obtain⟨⟨q0,q1,q2,q3,q4⟩,H9⟩:=J;exact BA (v:=AM #[DW t,true,()]) (by simp[results,Tryz.results194,go_sem,q0,q1,q2,q3,q4,DW]) rfl (.inl ⟨rfl,.inr ⟨h',Ji,bc.out,xq.out,YR.out,H9.out⟩⟩)
    · have h6:=h5.below ((AS _ _).alloc ar (AK #[(),(),(),(),()] 47))
      have MM:=h6.row (DG _ _ 0);have H6:=AO h6;obtain⟨y0,y1,y2,y3,y4⟩:=MM.q5;obtain⟨az,ay,ax,aw,av⟩:=MM.r5;have bm:=AO Fy;clear h5 ao H4 h6 MM Fy;go_upto_region 8 with(fail)
      generalize w5.alloc (AK #[(),(),(),(),()] 47)=w6 at*
      go_wp2
      have J:=Mr (t:=⟨0,0,0,0,0⟩) H6.out (DI (Hg _ _ _) (DI (Hg _ _ _) Eb)) rfl;dsimp only at J;generalize(((((w6.setCell s0 ()).setCell (s0,1) ()).setCell (s0,2) ()).setCell (s0,3) ()).setCell (s0,4) ())=w9 at*
      obtain⟨⟨q0,q1,q2,q3,q4⟩,H9⟩:=J;exact BA (v:=AM #[AL #[(),(),(),(),()],false,AA AB 6]) (by simp[results,Tryz.results194,go_sem,q0,q1,q2,q3,q4]) rfl (.inr ⟨rfl,bm.out,H9.out⟩)
end
section
variable{W:World}{sx k g M n c:Nat}{o:Cy}{A:Option Addr}
theorem ZM{J:Nat->World->Prop}{hf:Nat->Nat×Nat}(fm:Bf)(hn:n<=1000000)
  (I:∀i W,J i W->Row W sx 237 (Kh k g M M o (AJ A n c)))
  (GA:∀i W,J i W->i<n->∃gl,A=AE ⟨gl,0,AD⟩/\W.cell? ⟨gl,i*2,AD⟩=AE (AA AB ((hf i).1:Nat))/\W.cell? ⟨gl,i*2+1,AD⟩=AE (AI (AE ⟨(hf i).2,0,AD⟩)))
  (Fl:∀i W,i<n->J i W->Calls AP 47 #[AI (AE ⟨(hf i).2,0,AD⟩)] W λe w'=>e=AH (AM #[])/\J (i+1) w')
  (hb:∀i W W',J i W->Below W W W'->J i W')(h:J 0 W):
  CallsD AP 156 #[AI sx] fm W λe u' w'=>u'=fm/\(e=AH (AM #[])/\J n w'):=by
 have c7:W.cell? (sx,7)=AE (AJ A n c):=(I 0 W h).cell 7;have HJ:=AO h;have HC:=AO GA;have GR:=AO Fl;have HB:=AO hb;clear h I GA Fl hb;go_enter_d func156,ntmps156
 go_wp2_with fail
 go_loopw [9] (λQ wr=>∃i:Nat,i<=n/\Q=AA AB (i:Int)/\Hid (J i wr)) (λQ _=>n-(BF Q).toNat)
 case atStart=>exact⟨0,Ao _,rfl,HJ.out⟩
 case round=>
  obtain⟨i,hi,rfl,U⟩:=hrel;clear HJ;by_cases O:i<n
  ·obtain⟨gl,rfl,e1,e2⟩:=HC.out i wr U.out O;have i1:(0:Int)<=(i:Int):=a5;have i2:(i:Int)<(n:Int):=a5;have HX:=AO (GR.out i _ O (HB.out i wr (wr.alloc (AK #[((hf i).1:Nat),AI (AE ⟨(hf i).2,0,AD⟩)] 242)) U.out ((AS _ _).alloc ar _)));generalize(hf i).1=p at*
   generalize(hf i).2=x at*
   go_wp2_with fail
   refine HX.out.mono ?_;rintro e w3 ⟨rfl,h3⟩;have H3:=AO h3;clear h3;go_wp2
   go_roundw
   case rel=>exact⟨i+1,a5,by go_num,H3.out⟩
   case measure=>simp[BF];omega
  ·obtain rfl:i=n:=a5;go_wp2
   go_end0
   exact⟨rfl,U.out⟩
end
structure Sr where
 x:Nat
 rt:Rt
 l:List Cy
 op:Bool
def jO(X:Cx)(r:Sr):DD:=if r.op then E0 X.p r.x r.rt X.sz r.l else Nn X.p r.x r.rt
def IN(cur:List Cy)(q:List Sr)(p:Nat):List Cy:=match q[p]?with
 |some r=>if r.op then cur.getD p Cz::r.l.drop r.rt.pos else []
 |none=>[]
def ZV(q:List Sr):Nat:=DF (λr:Sr=>Cu r.rt.h r.rt.pos) q
def rdT(q:List Sr):Nat:=DF (λr:Sr=>Cu r.rt.h r.rt.count) q
structure MP where
 X:Cx
 DK:List DD
 Z:List Cy->List DD
 o:Cy
 once:Bool
 k:Nat
 hh:Nat
 bd:Nat
 xw:Nat
 tT:Nat
 fP:Nat
 vT:Value
 n:Nat
 m:Nat
 s0:List Cy
 bx:DD
 b:Nat
 g:Nat
 M:Nat
 sx:Nat
 rs:List (List Cy)
def MP.os(P:MP)(z:List DD)(cur:List Cy)(st:DD)(q:List Sr):List DD:=P.DK++z++(P.bx::Fz P.b P.g P.M P.k cur::st::q.map (jO P.X))
def MP.st(P:MP)(lv:Value)(h:List (Nat×Nat)):DD:=NU P.X P.sx P.k P.g P.M P.o lv h
def MP.mm(P:MP)(q:List Sr)(s:List Cy):Nat:=P.m+ZV q+I9 P.once P.o P.hh s
structure MP.Ok (P:MP):Prop where
 S:o5 P.X P.o P.once P.k P.hh P.bd P.xw P.tT P.fP P.vT P.Z P.n
 kk:0<P.k/\P.k<=5
 M:P.rs.length*P.k<=P.M/\P.M<=1000000
 len:P.rs.length<=100000
 asc:∀l∈P.rs,ND P.o l
 fit:∀l∈P.rs,ID P.k l
 bx:P.bx.gr=AD/\P.bx.ex.2=0
 bd:P.s0.length+P.rs.flatten.length<=P.bd
 n:P.X.N+P.m+DF (λl:List Cy=>Cu P.hh l.length) P.rs+P.bd+3<=1000000
structure MP.Rd (P:MP) (r:Sr):Prop where
 ok:qV r.rt P.X.sz r.l
 src:Src P.DK P.X.sz r.rt.first r.rt.k r.rt.h r.l
 k:r.rt.k=P.k
 h:r.rt.h=P.hh
 pos:0<r.rt.pos/\r.rt.pos<=r.rt.count
 shut:r.op=false->r.rt.pos=r.rt.count
structure MP.St (P:MP) (cur:List Cy) (q:List Sr) (h:List (Nat×Nat)):Prop where
 cl:cur.length=q.length
 ql:q.map (·.l)=P.rs.take q.length
 fit:ID P.k cur
 rd:∀r∈q,P.Rd r
 hp:Hp (Qq P.o λp=>cur.getD p Cz) (λi=>h.getD i (0,0)) h.length
 nd:(h.map (·.1)).Nodup
 mem:∀a,a∈h↔∃r,q[a.1]?=AE r/\r.op=true/\r.x=a.2
structure HQ (q:List Sr) (h:List (Nat×Nat)):Prop where
 len:h.length<=100000
 m1:∀a∈h,∃r,q[a.1]?=AE r/\r.x=a.2
 m2:∀(p:Nat) (r:Sr),q[p]?=AE r->r.op=true->(p,r.x)∈h
def MP.No(P:MP)(W:World):Prop:=¬P.X.cm/\∃z cur lv h q m',Q6 P.X P.xw P.bd P.n P.Z z/\HQ q h/\Wd P.X (P.os z cur (P.st lv h) q) m' W
section
variable{P:MP}{cur:List Cy}{q:List Sr}{h:List (Nat×Nat)}{z:List DD}{st:DD}{W:World}{lv:Value}{m:Nat}
theorem OS{X r}(h:r.op=true):jO X r=E0 X.p r.x r.rt X.sz r.l:=by unfold jO;rw[if_pos h]
theorem Mq{X r}(h:r.op=false):jO X r=Nn X.p r.x r.rt:=by unfold jO;rw[h];rfl
theorem MP.ou:(P.os z cur st q)[P.DK.length+z.length+1]?=AE (Fz P.b P.g P.M P.k cur):=FR (j:=1) rfl
theorem MP.Uw:(P.os z cur st q)[P.DK.length+z.length+2]?=AE st:=FR (j:=2) rfl
theorem MP.xU{p r}(e:q[p]?=AE r):(P.os z cur st q)[P.DK.length+z.length+(3+p)]?=AE (jO P.X r):=by
 unfold MP.os;rw[FR rfl,show 3+p=p+1+1+1 by omega,AV,AV,AV,Bk,e];rfl
theorem MP.kf{c2}:(P.os z cur st q).set (P.DK.length+z.length+1) (Fz P.b P.g P.M P.k c2)=P.os z c2 st q:=by
 unfold MP.os;rw[GM rfl];rfl
theorem MP.ZI{s2}:(P.os z cur st q).set (P.DK.length+z.length+2) s2=P.os z cur s2 q:=by
 unfold MP.os;rw[GM rfl];rfl
theorem MP.VJ{p r}:(P.os z cur st q).set (P.DK.length+z.length+(3+p)) (jO P.X r)=P.os z cur st (q.set p r):=by
 unfold MP.os;rw[GM rfl,show 3+p=p+1+1+1 by omega,B7,B7,B7,List.map_set]
theorem Gz{α:Type}{l:List α}{i a}(h:l[i]?=AE a):i<l.length:=by
 rcases Ak i l.length with e|e
 ·exact e
 ·rw[BG e]at h;cases h
theorem UI{α:Type}{l:List α}{i a}(h:l[i]?=AE a):l.set i a=l:=by
 refine List.ext_getElem? λj=>?_;rw[Aw];by_cases e:i=j
 ·subst e;rw[if_pos rfl,if_pos (Gz h),h]
 ·rw[if_neg e]
theorem Src.app{DK os1 sz first k hh l}(I:Src DK sz first k hh l):Src (DK++os1) sz first k hh l:=by
 obtain⟨j,f,e,J,h3⟩:=I;refine⟨j,f,?_,J,h3⟩;rw[Aj (MG e)];exact e
theorem MP.src{sz first k hh l}(e:Src P.DK sz first k hh l):Src (P.os z cur st q) sz first k hh l:=e.app.app
theorem bO{α f g}:∀(l:List α) (_:∀a∈l,f a<=g a),DF f l<=DF g l
 |[],_=>AQ _
 |a::l,h=>by
  rw[EL,EL];exact Nat.add_le_add (h a Az) (bO l λb hb=>h b (BD _ hb))
theorem rX{α f g}(l:List α)(h:∀a∈l,f a=g a):DF f l=DF g l:=by
 unfold DF;rw[List.map_congr_left h]
theorem Rp{α β f g}{e:α->β}:∀(l:List α) (_:∀a∈l,f a=g (e a)),DF f l=DF g (l.map e)
 |[],_=>rfl
 |a::l,h=>by
  rw[EL,List.map_cons,EL,h a Az,Rp l λb hb=>h b (BD _ hb)]
def Tt(q:List Sr):Nat:=DF (λr:Sr=>if r.op then 1+(r.rt.count-r.rt.pos)else 0) q
theorem VU(I:∀r∈q,P.Rd r):ZV q<=rdT q:=bO q λr e=>Df (I r e).ok.ok.h.1 (I r e).pos.2
theorem ZU(I:∀r∈q,P.Rd r):rdT q=DF (λl:List Cy=>Cu P.hh l.length) (q.map (·.l)):=Rp q λr e=>by rw[(I r e).h,(I r e).ok.cnt]
theorem mem_set{α:Type}{l:List α}{i a b}(h:b∈l.set i a):b=a\/b∈l:=by
 rcases List.mem_or_eq_of_mem_set h with h|h
 ·exact .inr h
 ·exact .inl h
def Sr.step(r:Sr):Sr:={r with rt:={r.rt with pos:=r.rt.pos+1}}
def Sr.shut(r:Sr):Sr:={r with op:=false}
theorem MP.Rd.step{r}(h:P.Rd r)(hp:r.rt.pos<r.rt.count)(e:r.op=true):P.Rd r.step:=
 ⟨⟨⟨h.ok.ok.k,h.ok.ok.h,h.ok.ok.sz,⟨h.ok.ok.count.1,hp⟩,h.ok.ok.first⟩,h.ok.cnt,h.ok.fit⟩,h.src,h.k,h.h,⟨Nat.succ_pos _,hp⟩,λhf=>absurd (e.symm.trans hf) a6⟩
theorem MP.Rd.AE5{r}(h:P.Rd r)(hp:r.rt.pos=r.rt.count):P.Rd r.shut:=⟨h.ok,h.src,h.k,h.h,h.pos,λ_=>hp⟩
theorem lQ{p r}(e:q[p]?=AE r):ZV (q.set p r.step)+Cu r.rt.h r.rt.pos=ZV q+Cu r.rt.h (r.rt.pos+1):=Jf _ _ _ r r.step e
theorem lR{p r}(e:q[p]?=AE r):ZV (q.set p r.shut)=ZV q:=by
 have I:ZV (q.set p r.shut)+Cu r.rt.h r.rt.pos=ZV q+Cu r.rt.h r.rt.pos:=Jf (λr:Sr=>Cu r.rt.h r.rt.pos) q p r r.shut e;omega
theorem fA{p r}(I:q[p]?=AE r)(e:r.op=true)(hp:r.rt.pos<r.rt.count):Tt (q.set p r.step)+1=Tt q:=by
 have J:=Jf (λr:Sr=>if r.op then 1+(r.rt.count-r.rt.pos)else 0) q p r r.step I;simp only[show r.step.op=true from e,e,if_pos]at J;have O:r.step.rt.count=r.rt.count:=rfl;have h3:r.step.rt.pos=r.rt.pos+1:=rfl;unfold Tt;omega
theorem fB{p r}(I:q[p]?=AE r)(J:r.op=true)(hp:r.rt.pos=r.rt.count):Tt (q.set p r.shut)+1=Tt q:=by
 have e:=Jf (λr:Sr=>if r.op then 1+(r.rt.count-r.rt.pos)else 0) q p r r.shut I;simp only[show r.shut.op=false from rfl,J,if_pos]at e;unfold Tt;simp only[Bool.false_eq_true,if_false]at e;omega
theorem MP.St.get(e:P.St cur q h){a}(J:a∈h):∃r,q[a.1]?=AE r/\r.op=true/\r.x=a.2/\P.Rd r:=by
 obtain⟨r,I,O,h3⟩:=(e.mem a).1 J;exact⟨r,I,O,h3,e.rd r (Ae I)⟩
theorem MP.St.lt(e:P.St cur q h):∀a∈h,a.1<cur.length:=λa I=>by
 obtain⟨r,J,_⟩:=e.get I;rw[e.cl];exact Gz J
theorem MP.St.more(J:P.St cur q h){p0:Nat}{O:Sr}{nx:Cy}{h':List (Nat×Nat)}(Q:q[p0]?=AE O)(ho:O.op=true)(hp:O.rt.pos<O.rt.count)(Pq:D7 nx/\Db P.k nx=true)
  (hh:Hp (Qq P.o λp=>(Hl cur p0 nx).getD p Cz) (λi=>h'.getD i (0,0)) h'.length)(U:h'.Perm h):P.St (Hl cur p0 nx) (q.set p0 O.step) h' where
 cl:=by
  have I:p0<cur.length:=by rw[J.cl];exact Gz Q
  rw[OW a5,Bg,<-J.cl];omega
 ql:=by
  rw[Bg,<-J.ql,List.map_set];exact UI (by rw[Bk,Q];rfl)
 fit:=XF J.fit Pq
 rd:=λr I=>(mem_set I).elim (λe=>by rw[e];exact(J.rd O (Ae Q)).step hp ho) (J.rd r)
 hp:=hh
 nd:=(U.map (·.1)).nodup_iff.2 J.nd
 mem:=λa=>by
  rw[U.mem_iff,J.mem a];by_cases he:p0=a.1
  ·subst he;rw[Aw,if_pos rfl,if_pos (Gz Q)];refine⟨λ⟨r,I,h2,h3⟩=>⟨_,rfl,ho,?_⟩,λ⟨r,I,h2,h3⟩=>⟨O,Q,ho,?_⟩⟩
   ·rw[Q]at I;injection I with I;rw[<-h3,<-I];rfl
   ·injection I with I;rw[<-h3,<-I];rfl
  ·rw[Aw,if_neg he]
theorem MP.St.less(I:P.St cur q h){p0}{r0}{h'}(U:q[p0]?=AE r0)(hp:r0.rt.pos=r0.rt.count)
  (hh:Hp (Qq P.o λp=>cur.getD p Cz) (λi=>h'.getD i (0,0)) h'.length)(J:((p0,r0.x)::h').Perm h):P.St cur (q.set p0 r0.shut) h' where
 cl:=by rw[Bg];exact I.cl
 ql:=by
  rw[Bg,<-I.ql,List.map_set];exact UI (by rw[Bk,U];rfl)
 fit:=I.fit
 rd:=λr O=>(mem_set O).elim (λe=>by rw[e];exact(I.rd r0 (Ae U)).AE5 hp) (I.rd r)
 hp:=hh
 nd:=by
  have O:=(J.map (·.1)).nodup_iff.2 I.nd;rw[List.map_cons,CK]at O;exact O.2
 mem:=λa=>by
  have O:=(J.map (·.1)).nodup_iff.2 I.nd;rw[List.map_cons,CK]at O;have h2:=I.mem a;rw[<-J.mem_iff,A8]at h2;by_cases he:p0=a.1
  ·subst he;rw[Aw,if_pos rfl,if_pos (Gz U)];refine⟨λQ=>absurd (Av.2 ⟨a,Q,rfl⟩) O.1,λ⟨r,h3,h4,_⟩=>?_⟩;injection h3 with h3
   rw[<-h3]at h4;cases h4
  ·rw[Aw,if_neg he];refine⟨λQ=>h2.1 (.inr Q),λQ=>(h2.2 Q).elim (λe=>absurd (by rw[e]) he) id⟩
theorem se(o:Cy)(cur:Nat->Cy)(a:Nat×Nat):Qq o cur a a=false:=by
 cases h:Qq o cur a a with
 |false=>rfl
 |true=>have:=(Ob o cur).asym a a h;rw[h]at this;cases this
theorem MP.St.least(J:P.St cur q h){a}(O:a∈h):Qq P.o (λp=>cur.getD p Cz) a (h.getD 0 (0,0))=false:=by
 obtain⟨j,I,rfl⟩:=BP O;have Q:=J.hp.least (Ob _ _) (se _ _) j I;have e:h.getD j (0,0)=h[j]:=by rw[AT,AU I];rfl
 rw[<-e];exact Q
theorem MP.St.told(J:P.St cur q h){out}{N}(U:N=q.length){p0 x0}{r0}(h0:h.getD 0 (0,0)=(p0,x0))(O:q[p0]?=AE r0)(Q:r0.op=true)
  (hm:Yk P.o N (IN cur q) P.rs.flatten out){live'}(Ol:live' p0=r0.l.drop r0.rt.pos)(Vm:∀p,p≠p0->live' p=IN cur q p):Yk P.o N live' P.rs.flatten (out++[cur.getD p0 Cz]):=by
 refine hm.step (by rw[U];exact Gz O) (r:=r0.l.drop r0.rt.pos) (by unfold IN;rw[O];show (if r0.op then _ else _)= _;rw[if_pos Q]) (λp u us hp e=>?_) Ol Vm;unfold IN at e
 cases hq:q[p]?with
 |none=>rw[hq]at e;cases e
 |some r=>
  rw[hq]at e;have e:(if r.op then cur.getD p Cz::r.l.drop r.rt.pos else [])=u::us:=e
  cases hro:r.op with
  |false=>rw[hro]at e;cases e
  |true=>
   rw[hro,if_pos rfl]at e;injection e with e _
   have I:=J.least ((J.mem (p,r.x)).2 ⟨r,hq,hro,rfl⟩);rw[h0]at I;unfold Qq at I;simp only[Bool.or_eq_false_iff,Bool.and_eq_false_iff,decide_eq_false_iff_not]at I;have h2:=Dy P.o (cur.getD p0 Cz) (cur.getD p Cz);rw[<-e];omega
def MP.J(P:MP)(n:Nat)(W:World):Prop:=∃cur q h lv out,P.St cur q h/\q.length=P.rs.length/\Yk P.o P.rs.length (IN cur q) P.rs.flatten out/\Tt q=n/\Wd P.X (P.os (P.Z (P.s0++out)) cur (P.st lv h) q) (P.mm q (P.s0++out)) W
def MP.Jm(P:MP)(t:Cy)(n:Nat)(W:World):Prop:=∃cur q h lv out,P.St cur q h/\q.length=P.rs.length/\Yk P.o P.rs.length (IN cur q) P.rs.flatten (out++[t])/\Tt q=n/\Db P.k t=true/\(out++[t]).length<=P.rs.flatten.length/\Wd P.X (P.os (P.Z (P.s0++out)) cur (P.st lv h) q) (P.mm q (P.s0++out)) W
def MP.E(P:MP)(W:World):Prop:=∃cur q lv out,P.St cur q []/\q.length=P.rs.length/\Yk P.o P.rs.length (IN cur q) P.rs.flatten out/\Wd P.X (P.os (P.Z (P.s0++out)) cur (P.st lv []) q) (P.mm q (P.s0++out)) W
theorem Yk.len{o N live jQ out}(h:Yk o N live jQ out):out.length<=jQ.length:=by
 have I:Cl o (out++(Bo N).flatMap live) jQ:=λc=>by
  rw[Bd,<-h.cl c];unfold XW;rw[List.filter_flatMap]
 have e:=I.len;rw[Aa]at e;omega
theorem MP.St.VU(e:P.St cur q h)(J:q.length=P.rs.length):ZV q<=DF (λl:List Cy=>Cu P.hh l.length) P.rs:=by
 have I:=e.ql;rw[J,B6]at I;rw[<-I,<-ZU e.rd];exact Go.Proofs.YthfnbpjegjbbiaaGreat.VU e.rd
theorem MP.vu(e:P.Ok)(I:P.St cur q h)(O:q.length=P.rs.length){out}(Q:out.length<=P.rs.flatten.length):P.X.N+P.mm q (P.s0++out)+3<=1000000:=by
 have U:=I.VU O;have J:=Ni P.once P.o P.hh (P.s0++out);have h3:=e.n;have h4:=e.bd;rw[Aa]at J;unfold MP.mm;omega
theorem MP.St.hlen(I:P.St cur q h):h.length<=q.length:=by
 have e:(h.map (·.1)).length<=(Bo q.length).length:=I.nd.length_le_of_subset λp hp=>by
  obtain⟨a,J,rfl⟩:=Av.1 hp;obtain⟨r,e,_⟩:=I.get J;exact List.mem_range.2 (Gz e)
 rwa [Ai,List.length_range]at e
theorem MP.St.yc(e:P.St cur q h):q.length<=P.rs.length:=by
 have I:=congrArg List.length e.ql;rw[Ai,AZ]at I;omega
theorem MP.St.hq(Q:P.Ok)(e:P.St cur q h):HQ q h:=⟨by have:=e.hlen;have:=e.yc;have:=Q.len;omega,λa O=>by
 obtain⟨r,U,_,h3,_⟩:=e.get O;exact⟨r,U,h3⟩,λp r I J=>(e.mem (p,r.x)).2 ⟨r,I,J,rfl⟩⟩
theorem MP.St.qJ(hP:P.Ok)(J:P.St cur q h){p0}{r0}(Q:q[p0]?=AE r0):HQ (q.set p0 r0.shut) h:=⟨by have:=J.hlen;have:=J.yc;have:=hP.len;omega,λa U=>by
 obtain⟨r,I,_,h3,_⟩:=J.get U;by_cases he:p0=a.1
 ·subst he;refine⟨r0.shut,by rw[Aw,if_pos rfl,if_pos (Gz Q)],?_⟩;rw[Q]at I;injection I with I;rw[<-h3,<-I];rfl
 ·exact⟨r,by rw[Aw,if_neg he];exact I,h3⟩,λp r e O=>by
 rw[Aw]at e
 split at e
 ·split at e
  ·injection e with e;rw[<-e]at O;cases O
  ·cases e
 ·exact(J.mem (p,r.x)).2 ⟨r,e,O,rfl⟩⟩
theorem MP.next(hP:P.Ok):xZ 194 (AI P.sx) P.J P.Jm P.E P.No:=by
 rintro n W ⟨cur,q,h,lv,out,J,RE,hm,zJ,hw⟩;have hz:=hP.S.len (P.s0++out);have ao:=hm.len;have Og:(P.s0++out).length<=P.bd:=by rw[Aa];have:=hP.bd;omega
 rcases BB h.length with hl|hl
 ·have hl:=List.length_eq_zero_iff.1 hl;subst hl;refine(ZF hw MP.Uw).mono ?_;rintro e w' ⟨he,h1⟩;exact .inr (.inl ⟨he,cur,q,lv,out,J,RE,hm,h1⟩)
 ·obtain⟨p0,x0,h0⟩:∃p0 x0,h.getD 0 (0,0)=(p0,x0):=⟨_,_,rfl⟩;have ab:=(E7 hl).2;rw[h0]at ab;obtain⟨I,Q,ho,hx,O⟩:=J.get ab;have hx:I.x=x0:=hx;subst hx;have Q:q[p0]?=AE I:=Q;have tX:=Gz Q;have Eu:=MP.xU (P:=P) (z:=P.Z (P.s0++out)) (cur:=cur) (st:=P.st lv h) Q;rw[OS ho]at Eu;have hM:cur.length*P.k<=P.M/\P.M<=1000000:=⟨by rw[J.cl,RE];exact hP.M.1,hP.M.2⟩;have aq:=MP.vu hP J RE ao;have zg:h.length<=100000:=by have:=J.hlen;have:=J.yc;have:=hP.len;omega
  have EZ:Src (P.os (P.Z (P.s0++out)) cur (P.st lv h) q) P.X.sz I.rt.first I.rt.k I.rt.h I.l:=MP.src O.src;have al:=J.fit _ (M7 (i:=p0) (by rw[J.cl];exact tX));refine(ee hw MP.ou MP.Uw Eu ⟨a5,a5,a5⟩ ⟨hl,zg⟩ h0 hP.kk hM J.fit J.lt J.nd J.hp O.ok a5 EZ O.k rfl).mono ?_;rintro e w' (⟨he,(⟨nx,h',Ji,Gi,Pq,h1,h2,h3⟩|⟨h',Ji,ae,h1,h2,h3⟩)⟩|⟨he,Fy,h3⟩)
  ·have an:=O.ok.fit nx (Ae Pq);rw[O.k]at an;have ad:=J.more Q ho Gi an h1 h2;have h4:Wd P.X (P.os (P.Z (P.s0++out)) (Hl cur p0 nx) (P.st Ji h') (q.set p0 I.step)) (P.mm q (P.s0++out)+(Cu I.rt.h (I.rt.pos+1)-Cu I.rt.h I.rt.pos)) w':=by
    rw[<-MP.ZI (P:=P) (st:=P.st lv h),<-MP.kf (P:=P) (cur:=cur),<-MP.VJ,OS (X:=P.X) (r:=I.step) ho];exact h3
   have h5:P.mm (q.set p0 I.step) (P.s0++out)=P.mm q (P.s0++out)+(Cu I.rt.h (I.rt.pos+1)-Cu I.rt.h I.rt.pos):=by
    have h6:=lQ Q;have h7:=Df (h:=I.rt.h) (c:=I.rt.pos) (c':=I.rt.pos+1) O.ok.ok.h.1 a5;unfold MP.mm;omega
   have U:=J.told (N:=P.rs.length) RE.symm h0 Q ho hm (live':=IN (Hl cur p0 nx) (q.set p0 I.step)) (by
    unfold IN;rw[Aw,if_pos rfl,if_pos tX];show (if I.step.op then (Hl cur p0 nx).getD p0 Cz::I.l.drop (I.rt.pos+1)else [])= _;have PS:I.rt.pos<I.l.length:=by rw[O.ok.cnt];exact Gi
    rw[show I.step.op=true from ho,if_pos rfl,OX (by rw[J.cl];omega),if_pos rfl,Bv PS];rw[AU PS]at Pq;injection Pq with Pq
    rw[Pq]) (λp hp=>by
    unfold IN;rw[Aw,if_neg (λe=>hp e.symm),OX (by rw[J.cl];omega),if_neg hp])
   refine .inl ⟨_,Tt (q.set p0 I.step),he,?_,_,_,h',Ji,out,ad,by rw[Bg];exact RE,U,rfl,al.2,U.len,by rw[h5];exact h4⟩;have:=fA Q ho Gi;omega
  ·have ad:=J.less Q ae h1 h2;have h4:Wd P.X (P.os (P.Z (P.s0++out)) cur (P.st Ji h') (q.set p0 I.shut)) (P.mm q (P.s0++out)) w':=by
    rw[<-MP.ZI (P:=P) (st:=P.st lv h),<-MP.VJ,Mq (X:=P.X) (r:=I.shut) rfl];exact h3
   have h5:P.mm (q.set p0 I.shut) (P.s0++out)=P.mm q (P.s0++out):=by unfold MP.mm;rw[lR Q]
   have U:=J.told (N:=P.rs.length) RE.symm h0 Q ho hm (live':=IN cur (q.set p0 I.shut)) (by
    unfold IN;rw[Aw,if_pos rfl,if_pos tX];have gP:I.l.drop I.rt.pos=[]:=List.drop_eq_nil_of_le (by rw[O.ok.cnt,ae];exact AQ _);rw[gP];rfl) (λp hp=>by
    unfold IN;rw[Aw,if_neg (λe=>hp e.symm)])
   refine .inl ⟨_,Tt (q.set p0 I.shut),he,?_,cur,q.set p0 I.shut,h',Ji,out,ad,by rw[Bg];exact RE,U,rfl,al.2,U.len,by rw[h5];exact h4⟩;have:=fB Q ho ae;omega
  ·refine .inr (.inr ⟨he,Fy,P.Z (P.s0++out),cur,lv,h,q.set p0 I.shut,P.mm q (P.s0++out)+1,.inl ⟨_,Og,rfl⟩,J.qJ hP Q,?_⟩);rw[<-MP.VJ,Mq (X:=P.X) (r:=I.shut) rfl];exact h3
theorem MP.put(J:P.Ok):AL5 P.fP P.vT P.J P.Jm P.No:=by
 rintro t n W ⟨cur,q,h,lv,out,Q,RE,hm,zJ,U,I,hw⟩;have zT:out.length<=P.rs.flatten.length:=by rw[Aa]at I;omega
 have ab:=MP.vu J Q RE zT;refine(J.S.put P.DK _ _ (P.s0++out) t W hw U (by rw[Aa]at I⊢;have:=J.bd;simp only[BW,List.length_nil]at I;omega) a5).mono ?_;rintro e w' (⟨he,O⟩|⟨he,Fy,z,m',hz,O⟩)
 ·refine .inl ⟨he,cur,q,h,lv,out++[t],Q,RE,hm,zJ,?_⟩;have h2:P.mm q (P.s0++out)+((Dt P.once P.o (P.s0++out++[t])).length/P.hh-(Dt P.once P.o (P.s0++out)).length/P.hh)=P.mm q (P.s0++(out++[t])):=by
   unfold MP.mm;rw[Wa,AR]
  rw[h2,AR P.s0 out [t]]at O;exact O
 ·exact .inr ⟨he,Fy,z,cur,lv,h,q,m',.inr hz,Q.hq J,O⟩
theorem eS(x:Nat)(w:World):Bu AP (method 371 234 (AI x) "Next") w=.ok (194,AI x) w:=a7
theorem MP.Jm.below{t n W'}(h:P.Jm t n W)(hb:Below W W W'):P.Jm t n W':=by
 obtain⟨cur,q,h,lv,out,O,J,h3,h4,h5,I,e⟩:=h;exact⟨cur,q,h,lv,out,O,J,h3,h4,h5,I,e.below hb⟩
theorem MP.E.below{W'}(h:P.E W)(hb:Below W W W'):P.E W':=by
 obtain⟨cur,q,lv,out,I,e,h3,h4⟩:=h;exact⟨cur,q,lv,out,I,e,h3,h4.below hb⟩
theorem MP.No.below{W'}(h:P.No W)(hb:Below W W W'):P.No W':=by
 obtain⟨e,z,cur,lv,h,q,m',J,I,h3⟩:=h;exact⟨e,z,cur,lv,h,q,m',J,I,h3.below hb⟩
theorem MP.J.ye{n}(I:P.Ok)(h:P.J n W):Calls AP 138 #[.iface 234 (AI P.sx),.iface P.tT P.vT] W λe w'=>(e=AH ()/\P.E w')\/(e=AH (AA AB 6)/\P.No w'):=
 XG (eS P.sx) I.S.mm (λargs w=>by kernel_rfl) I.S.me (MP.next I) (MP.put I) (λ_ _ _ _ h hb=>h.below hb) (λ_ _ h hb=>h.below hb) (λ_ _ h hb=>h.below hb) h
def MP.Fin(P:MP)(er:Int)(z:List DD)(m':Nat):Prop:=(er=0/\∃out,z=P.Z (P.s0++out)/\ND P.o out/\Cl P.o P.rs.flatten out/\m'=P.m+DF (λl:List Cy=>Cu P.hh l.length) P.rs+I9 P.once P.o P.hh (P.s0++out))\/(er=6/\¬P.X.cm/\Q6 P.X P.xw P.bd P.n P.Z z)
def MP.G0(P:MP)(er:Int)(W:World):Prop:=∃z cur lv h q m',P.Fin er z m'/\HQ q h/\Wd P.X (P.os z cur (P.st lv h) q) m' W
def MP.G1(P:MP)(er:Int)(W:World):Prop:=∃z cur lv h q m',P.Fin er z m'/\(∀r∈q,r.op=false)/\Wd P.X (P.os z cur (P.st lv h) q) m' W
def MP.G2(P:MP)(er:Int)(W:World):Prop:=∃z m',P.Fin er z m'/\Wd P.X (P.DK++z) m' W
theorem MP.No.fin(h:P.No W):P.G0 6 W:=by
 obtain⟨e,z,cur,lv,h,q,m',J,I,h3⟩:=h;exact⟨z,cur,lv,h,q,m',.inr ⟨rfl,e,J⟩,I,h3⟩
theorem fe(e:P.St cur q [])(p:Nat):IN cur q p=[]:=by
 unfold IN
 cases hq:q[p]?with
 |none=>rfl
 |some r=>
  cases ho:r.op with
  |false=>simp[ho]
  |true=>exact absurd ((e.mem (p,r.x)).2 ⟨r,hq,ho,rfl⟩) a8
theorem MP.E.fin(J:P.Ok)(h:P.E W):P.G0 0 W:=by
 obtain⟨cur,q,lv,out,e,U,hm,hw⟩:=h;obtain⟨Q,O⟩:=hm.done λp _=>fe e p;have h3:ZV q=DF (λl:List Cy=>Cu P.hh l.length) P.rs:=by
  have h4:=e.ql;rw[U,B6]at h4;rw[<-h4,<-ZU e.rd];refine rX q λr I=>?_;obtain⟨p,hp,rfl⟩:=BP I
  cases ho:q[p].op with
  |false=>rw[(e.rd _ I).shut ho]
  |true=>exact absurd ((e.mem (p,q[p].x)).2 ⟨q[p],AU hp,ho,rfl⟩) a8
 exact⟨_,cur,lv,[],q,_,.inl ⟨rfl,out,rfl,O,Q,by unfold MP.mm;rw[h3]⟩,e.hq J,hw⟩
theorem Un{h:List (Nat×Nat)}{i a b}(e:h[i]?=AE a)(hb:b∈h.drop i):b=a\/b∈h.drop (i+1):=by
 rw[Bv (Gz e)]at hb;rw[AU (Gz e)]at e;injection e with e
 rcases A8.1 hb with hb|hb
 ·exact .inl (hb.trans e)
 ·exact .inr hb
theorem MP.G0.close{er}(u:Bf)(h:P.G0 er W):CallsD AP 156 #[AI P.sx] u W λe u' w'=>u'=u/\(e=AH (AM #[])/\P.G1 er w'):=by
 obtain⟨z,cur,lv,h,q,m',hf,hq,hw⟩:=h;obtain⟨A,c,rfl⟩:=Ms (hw.at_ MP.Uw).2;refine(ZM (n:=h.length) (c:=c) (A:=A) (o:=P.o) (k:=P.k) (g:=P.g) (M:=P.M) (hf:=λi=>h.getD i (0,0)) u (by have:=hq.len;omega)
  (J:=λi w=>∃I,(∀a∈h,∃r,I[a.1]?=AE r/\r.x=a.2)/\(∀(p:Nat) (r:Sr),I[p]?=AE r->r.op=true->(p,r.x)∈h.drop i)/\Wd P.X (P.os z cur (P.st (AJ A h.length c) h) I) m' w) ?_ ?_ ?_ ?_ ⟨q,hq.m1,λp r h1 U=>by rw[Cr];exact hq.m2 p r h1 U,hw⟩).mono ?_
 ·rintro i w ⟨I,_,_,h3⟩;exact(h3.at_ MP.Uw).1
 ·rintro i w ⟨I,_,_,h3⟩ hi;have h4:=(h3.at_ MP.Uw).2;obtain⟨gl,c2,cs,e1,_,Q,_,_,_,k2⟩:=JY h4 a5;injection e1 with e1 _ _
  obtain⟨m1,_⟩:=E7 hi;obtain⟨m2,m3⟩:=Gc m1;refine⟨gl,e1,?_,?_⟩
  ·rw[Q.cell,<-m2,<-k2,At,if_pos a5]
  ·rw[Q.cell,<-m3,<-k2,At,if_pos a5]
 ·rintro i w hi ⟨I,h1,U,h3⟩;obtain⟨m1,m2⟩:=E7 hi;obtain⟨r,O,hx⟩:=h1 _ m2;have Eu:=MP.xU (P:=P) (z:=z) (cur:=cur) (st:=P.st (AJ A h.length c) h) O
  cases ho:r.op with
  |true=>
   rw[OS ho]at Eu;have h4:=UA h3 Eu;rw[hx]at h4;refine h4.mono ?_;rintro e w' ⟨he,h5⟩;refine⟨he,I.set (h.getD i (0,0)).1 r.shut,λa ha=>?_,λp r2 hp cH=>?_,?_⟩
   ·obtain⟨r3,Q,k2⟩:=h1 a ha;by_cases he:(h.getD i (0,0)).1=a.1
    ·refine⟨r.shut,by rw[<-he,Aw,if_pos rfl,if_pos (Gz O)],?_⟩;rw[<-he,O]at Q;injection Q with Q
     rw[<-k2,<-Q];rfl
    ·exact⟨r3,by rw[Aw,if_neg he];exact Q,k2⟩
   ·rw[Aw]at hp
    split at hp
    ·split at hp
     ·injection hp with hp;rw[<-hp]at cH;cases cH
     ·cases hp
    ·rename_i hne
     exact(Un m1 (U p r2 hp cH)).elim (λe=>absurd (by rw[<-e]) hne) id
   ·rw[<-MP.VJ,Mq (X:=P.X) (r:=r.shut) rfl];rw[<-hx]at h5;exact h5
  |false=>
   rw[Mq ho]at Eu;have h4:=Qo (h3.at_ Eu);rw[hx]at h4;refine h4.mono ?_;rintro e w' ⟨he,h5⟩;refine⟨he,I,h1,λp r2 hp cH=>(Un m1 (U p r2 hp cH)).elim (λe=>?_) id,by rw[h5];exact h3⟩;have e1:(h.getD i (0,0)).1=p:=by rw[<-e]
   rw[e1,hp]at O;injection O with O
   rw[O]at cH;rw[ho]at cH;cases cH
 ·rintro i w w' ⟨I,h1,U,h3⟩ hb;exact⟨I,h1,U,h3.below hb⟩
 ·rintro e u' w' ⟨hu,he,I,h1,U,h3⟩;refine⟨hu,he,z,cur,_,h,I,m',hf,λr O=>?_,h3⟩;obtain⟨p,hp,rfl⟩:=BP O
  cases ho:I[p].op with
  |false=>rfl
  |true=>
   have h4:=U p _ (AU hp) ho;rw[List.drop_length]at h4;cases h4
theorem MP.G1.release(hP:P.Ok){er}(u:Bf)(h:P.G1 er W):CallsD AP 70 #[AI P.X.p.a,AI P.b] u W λe I w'=>I=u/\(e=AH true/\P.G2 er w'):=by
 obtain⟨z,cur,lv,h,q,m',hf,Q,hw⟩:=h;refine(L4 u hw MP.ou (b:=P.b) (g:=P.g) (M:=P.M) (λk=>BO) rfl rfl).mono ?_;rintro e I w' ⟨hu,he,J⟩;refine⟨hu,he,z,m',hf,?_⟩;have h2:(P.os z cur (P.st lv h) q).set (P.DK.length+z.length+1) Dw=P.DK++z++(P.bx::Dw::P.st lv h::q.map (jO P.X)):=by
  unfold MP.os;rw[GM rfl];rfl
 rw[h2]at J;refine J.forget (DI hP.bx (DI ⟨rfl,rfl⟩ (DI ⟨rfl,rfl⟩ λa U=>?_)));obtain⟨r,O,rfl⟩:=Av.1 U;rw[Mq (Q r O)];exact⟨rfl,rfl⟩
end
section
variable{X:Cx}{os:List DD}{m iz ig:Nat}{W W':World}{sx k b g M first nb hh count:Nat}{o t:Cy}{lv:Value}{hp:List (Nat×Nat)}{cur l:List Cy}
theorem gZ(O:∀a∈hp,a.1<cur.length)(Q:Hp (Qq o λp=>cur.getD p Cz) (λi=>hp.getD i (0,0)) hp.length):Hp (Qq o λp=>(cur++[t]).getD p Cz) (λi=>hp.getD i (0,0)) hp.length:=λj J I=>by
 have e:=Q j J I;have U:=ME J;have h3:=O _ (E7 I).2;have h4:=O _ (E7 (show par j<hp.length by omega)).2;unfold Qq at e⊢;simp only[AT]at e h3 h4⊢;rw[Aj h3,Aj h4];exact e
theorem ko(h:Wd X os m W)(hg:os[ig]?=AE (Fz b g M k cur))(hs:os[iz]?=AE (NU X sx k g M o lv hp))(hd:ig≠iz)(Q:hp.length=cur.length)(RF:hp.length+1<=100000)(hk:0<k/\k<=5)(hM:(cur.length+1)*k<=M/\M<=1000000)
  (hf:ID k cur)(hH:Hp (Qq o λp=>cur.getD p Cz) (λi=>hp.getD i (0,0)) hp.length)(Gi:∀a∈hp,a.1<cur.length)(Lu:hh=Cw X.sz k)(Gt:0<hh)(hnb:nb=Cu hh count)(JC:0<count/\count<=100000)(Sb:first<=2000000)
  (ad:X.sz+DF DD.gw os<=X.rm)(hlen:l.length=count)(O:ID k l)(EZ:Src os X.sz first k hh l)(hn:X.N+m<1000000)(ht:l[0]?=AE t):
  Calls AP 157 #[AI sx,AI X.p.w,AL #[first,nb,k,count]] W λe w'=>
   (e=AH ()/\∃x rt h' Ji,qV rt X.sz l/\(rt.pos=1/\rt.count=count/\rt.first=first/\rt.k=k/\rt.h=hh)/\Hp (Qq o λp=>(cur++[t]).getD p Cz) (λi=>h'.getD i (0,0)) h'.length/\h'.Perm (hp++[(cur.length,x)])/\
    Wd X ((os.set ig (Fz b g M k (cur++[t]))).set iz (NU X sx k g M o Ji h')++[E0 X.p x rt X.sz l]) (m+1) w')\/
   (e=AH (AA AB 6)/\¬X.cm/\∃x rt,Wd X (os++[Nn X.p x rt]) (m+1) w'):=by
 obtain⟨W1,EJ⟩:=ae (W.alloc (AK #[first,nb,k,count] 28));have Dg:Below W W W1:=by rw[EJ];exact(AS _ _).alloc ar _
 have Et:Row W1 W 28 [first,nb,k,count]:=by rw[EJ];exact heap_alloc_new _ _
 have Lx:=AO (Mo (h.below Dg) first nb k hh count l Lu Gt hnb JC.2 Sb ad);have RO:Hid (∀x b' J W2,JG ⟨k,hh,first,nb,count,0,b',J⟩ X.sz->Wd X (os++[E0 X.p x ⟨k,hh,first,nb,count,0,b',J⟩ X.sz l]) m W2->Calls AP 48 #[AI x] W2 λe w'=>
   (e=AH (AM #[AL #[t.a,t.b,t.c,t.d,t.e],true,()])/\Wd X (os++[E0 X.p x ⟨k,hh,first,nb,count,1,b',J⟩ X.sz l]) (m+1) w')\/
   (e=AH (AM #[AL #[(),(),(),(),()],false,AA AB 6])/\¬X.cm/\Wd X (os++[Nn X.p x ⟨k,hh,first,nb,count,0,b',J⟩]) (m+1) w')):=λx b' J W2 GU h2=>by
  have Eu:(os++[E0 X.p x ⟨k,hh,first,nb,count,0,b',J⟩ X.sz l])[os.length]?=AE (E0 X.p x ⟨k,hh,first,nb,count,0,b',J⟩ X.sz l):=by rw[AW ar,As];rfl
  refine(OK h2 Eu ⟨GU,hlen,O⟩ hn JC.1 (EZ.snoc _) ht).mono ?_;rintro e w' (⟨h3,h4⟩|⟨h3,h4,h5⟩)
  ·rw[GY]at h4;have e1:Cu hh (0+1)-Cu hh 0=1:=by
    have h6:=Dx hh;have h7:=Es Gt (show 0<0+1 by omega);have h8:=Jo Gt 0 1;rw[h6]at h8⊢;omega
   have h6:Wd X (os++[E0 X.p x ⟨k,hh,first,nb,count,1,b',J⟩ X.sz l]) (m+(Cu hh (0+1)-Cu hh 0)) w':=h4;rw[e1]at h6;exact .inl ⟨h3,h6⟩
  ·rw[GY]at h5;exact .inr ⟨h3,h4,h5⟩
 have ab:∀(z:List DD) m' W',Wd X (os++z) m' W'->Row W' sx 237 (Kh k g M M o lv):=λz m' W' hw=>(hw.at_ (Dj hs)).1;obtain⟨A,c,Oi⟩:=Ms (h.at_ hs).2;have GC:Hid (∀(z:List DD) m' W',Wd X (os++z) m' W'->Row W' sx 237 (Kh k g M M o (AJ A hp.length c))):=λz m' W' hw=>by rw[<-Oi];exact ab z m' W' hw
 have FQ:=AO EJ;obtain⟨b0,b1,b2,b3⟩:=Et.q4;have az:=AO Oi;have an:=AO Q;have Q7:=AO hlen;clear EJ Dg Et h ab Oi hnb Lu Q hlen;generalize aE:W.heap.size=s0 at*
 go_enter func157,ntmps157
 go_upto_region 1 with(fail)
 rw[<-FQ.out];clear FQ aE;go_wp2_with fail
 refine Lx.out.mono ?_;rintro e w2 ⟨x,b',J,rfl,GU,h2⟩;have pT:=AO (RO.out x b' J w2 GU h2);have IF:=AO GU;clear Lx h2 b0 b1 b2 b3 GU;go_wp2_with fail
 refine pT.out.mono ?_;rintro e w3 (⟨rfl,h3⟩|⟨rfl,Fy,h3⟩)
 ·have h4:Wd X (os++[E0 X.p x ⟨k,hh,first,nb,count,1,b',J⟩ X.sz l]++[Cv w3 47 (DH t)]) (m+1) (w3.alloc (AK #[t.a,t.b,t.c,t.d,t.e] 47)):=
   h3.new ((AS _ _).alloc ar _) (g:=w3.heap.size) (t:=47) (cs:=DH t) (heap_alloc_new w3 (AK #[t.a,t.b,t.c,t.d,t.e] 47)) ar
  rw[AR]at h4;have Gg:=AO (OT (GC.out _ _ _ h4));have H4:=AO h4;clear h3 h4 pT;go_wp2_with fail
  refine Gg.out.mono ?_;rintro e w4 ⟨rfl,Zs⟩;generalize w3.alloc (AK #[t.a,t.b,t.c,t.d,t.e] 47)=w5 at*
  subst Zs;generalize w3.heap.size=I at*
  have Ua:=H4.out.drewN 1;rw[show w4.drewN 1=w4.drew from rfl]at Ua;have MM:=GC.out _ _ _ Ua;obtain⟨c0,c1⟩:=MM.q2;have d0:w4.drew.cell? I=AE (AA AB t.a):=(Ua.row (DG _ _ 1)).cell 0;have d1:w4.drew.cell? (I,1)=AE (AA AB t.b):=(Ua.row (DG _ _ 1)).cell 1;have d2:w4.drew.cell? (I,2)=AE (AA AB t.c):=(Ua.row (DG _ _ 1)).cell 2;have d3:w4.drew.cell? (I,3)=AE (AA AB t.d):=(Ua.row (DG _ _ 1)).cell 3;have d4:w4.drew.cell? (I,4)=AE (AA AB t.e):=(Ua.row (DG _ _ 1)).cell 4;have aw:(os++[E0 X.p x ⟨k,hh,first,nb,count,1,b',J⟩ X.sz l,Cv I 47 (DH t)])[ig]?=AE (Fz b g M k cur):=Dj hg;have Q:=an.out;have aq:Hid (Calls AP 154 #[AL #[k,AJ g M M],hp.length,AL #[t.a,t.b,t.c,t.d,t.e]] w4.drew λe w'=>e=AH (AM #[])/\Wd X (os.set ig (Fz b g M k (cur++[t]))++[E0 X.p x ⟨k,hh,first,nb,count,1,b',J⟩ X.sz l,Cv I 47 (DH t)]) (m+1) w'):=by
   have ax:=hM.1;rw[A7,BH]at ax;refine(Y0 Ua aw hk hp.length t a5 (by rw[Q];omega) ⟨AQ _,hM.2⟩ a5).mono ?_;rintro e w' ⟨h1,h2,_⟩;rw[Q,XE,IW hg]at h2;exact⟨h1,h2⟩
  have ao:Hid (∀w',Wd X (os.set ig (Fz b g M k (cur++[t]))++[E0 X.p x ⟨k,hh,first,nb,count,1,b',J⟩ X.sz l,Cv I 47 (DH t)]) (m+1) w'->(w'.cell? sx=AE (AA AB k)/\w'.cell? (sx,1)=AE (AJ g M M)/\w'.cell? I=AE (AA AB t.a)/\w'.cell? (I,1)=AE (AA AB t.b)/\w'.cell? (I,2)=AE (AA AB t.c)/\w'.cell? (I,3)=AE (AA AB t.d)/\w'.cell? (I,4)=AE (AA AB t.e))):=λw' U=>by
   have EG:=(U.at_ (Dj (Fc hs hd))).1;exact⟨EG.cell 0,EG.cell 1,(U.row (DG _ _ 1)).cell 0,(U.row (DG _ _ 1)).cell 1,(U.row (DG _ _ 1)).cell 2,(U.row (DG _ _ 1)).cell 3,(U.row (DG _ _ 1)).cell 4⟩
  clear Ua MM H4 Gg Q;go_wp2_with fail
  go_region_held3 (λw'=>w'.cell? sx=AE (AA AB k)/\w'.cell? (sx,1)=AE (AJ g M M)/\w'.cell? I=AE (AA AB t.a)/\w'.cell? (I,1)=AE (AA AB t.b)/\w'.cell? (I,2)=AE (AA AB t.c)/\w'.cell? (I,3)=AE (AA AB t.d)/\w'.cell? (I,4)=AE (AA AB t.e)) (first|with_reducible exact⟨c0,c1,d0,d1,d2,d3,d4⟩|with_reducible exact q7)
   ((go_at_call 154;(with_reducible refine aq.out.mono ?_);rintro e w7 ⟨rfl,h7⟩;have q7:=ao.out w7 h7))
  have Zv:(os.set ig (Fz b g M k (cur++[t])))[iz]?=AE (NU X sx k g M o lv hp):=Fc hs hd;have av:(os.set ig (Fz b g M k (cur++[t])))[ig]?=AE (Fz b g M k (cur++[t])):=IJ os hg _;have Q:=an.out;have hlen:=Q7.out;have Fl:(cur++[t]).length=cur.length+1:=by rw[Aa];rfl
  have al:Calls AP 162 #[.iface 234 (AI sx),.iface 242 (AL #[hp.length,AI x])] w7 λe w'=>e=AH (AM #[])/\∃h' Ji,Hp (Qq o λp=>(cur++[t]).getD p Cz) (λi=>h'.getD i (0,0)) h'.length/\h'.Perm (hp++[(cur.length,x)])/\
    Wd X ((os.set ig (Fz b g M k (cur++[t]))).set iz (NU X sx k g M o Ji h')++[E0 X.p x ⟨k,hh,first,nb,count,1,b',J⟩ X.sz l,Cv I 47 (DH t)]) (m+1) w':=by
   have hC:=Pb (X:=X) (m:=m+1) (o:=o) (sx:=sx) (Dj (b:=[E0 X.p x ⟨k,hh,first,nb,count,1,b',J⟩ X.sz l,Cv I 47 (DH t)]) av) (λe=>hd e.symm) (MG (Dj Zv)) hk ⟨by rw[Fl];exact hM.1,hM.2⟩ (λu hu=>(Ah.1 hu).elim (hf u) λhu=>by rw[Bp.1 hu];exact O t (Ae ht));have hR:StR X (os.set ig (Fz b g M k (cur++[t]))++[E0 X.p x ⟨k,hh,first,nb,count,1,b',J⟩ X.sz l,Cv I 47 (DH t)]) (m+1) iz sx k g M o (cur++[t]).length hp w7:=⟨λa ha=>by rw[Fl];have:=Gi a ha;omega,a5,lv,by rw[Iv (Dj Zv)];exact h7⟩;have au:=kU (MG (Dj Zv)) hR (hp.length,x) (by rw[Fl];omega) RF;refine(gH (h:=hp) (a:=(hp.length,x)) hC (Ob _ _) a5 (gZ Gi hH) au).mono ?_;rintro e w' ⟨h1,h',h2,h3,_,_,Ji,h5⟩;rw[IW Zv]at h5;have h6:=h3.length_eq;rw[Aa]at h6;exact⟨h1,h',Ji,by rw[h6];exact h2,by rw[<-Q];exact h3,h5⟩
  have bB:=AO al;clear Q hlen Fl al h7 q7 aq ao c0 c1 d0 d1 d2 d3 d4;go_wp2_with fail
  refine bB.out.mono ?_;rintro e w8 ⟨rfl,h',Ji,k1,k2,h8⟩;have U:Wd X ((os.set ig (Fz b g M k (cur++[t]))).set iz (NU X sx k g M o Ji h')++[E0 X.p x ⟨k,hh,first,nb,count,1,b',J⟩ X.sz l]) (m+1) w8:=by
   have OH:Wd X (((os.set ig (Fz b g M k (cur++[t]))).set iz (NU X sx k g M o Ji h')++[E0 X.p x ⟨k,hh,first,nb,count,1,b',J⟩ X.sz l])++[Cv I 47 (DH t)]) (m+1) w8:=by rw[AR];exact h8
   exact OH.forget (DI (Hg _ _ _) Eb)
  have H9:=AO U;have xq:=AO k1;have YR:=AO k2;clear h8 U k1 k2 bB;go_wp2
  go_ret
  refine .inl ⟨rfl,x,⟨k,hh,first,nb,count,1,b',J⟩,h',Ji,⟨⟨IF.out.k,IF.out.h,IF.out.sz,⟨IF.out.count.1,JC.1⟩,IF.out.first⟩,Q7.out,O⟩,⟨rfl,rfl,rfl,rfl,rfl⟩,xq.out,YR.out,H9.out⟩
 ·have H9:=AO (h3.below ((AS _ _).alloc ar (AK #[(),(),(),(),()] 47)));have ay:=AO Fy;clear h3 pT Fy;go_wp2
  go_ret
  exact .inr ⟨rfl,ay.out,x,_,H9.out⟩
end
section
variable{os:List DD}{sz first k hh:Nat}{l:List Cy}{q rb P pa pb i:Nat}
theorem Kn(i rb hh:Nat):i*(rb*hh)=i*rb*hh:=(Nat.mul_assoc _ _ _).symm
theorem KJ(e:0<hh)(a:Nat):Cu hh (a*hh)=a:=by
 unfold Cu;rw[Nat.mul_mod_left,if_neg a5,Nat.mul_div_cancel _ e]
theorem Jn(I:0<hh)(c a:Nat):Cu hh (c-a*hh)=Cu hh c-a:=by
 rcases Nat.le_total (a*hh) c with hle|hle
 ·unfold Cu;have e:c=(c-a*hh)+hh*a:=by rw[CS hh a];omega
  have J:c%hh=(c-a*hh)%hh:=by
   conv=>lhs;rw[e]
   exact Nat.add_mul_mod_self_left _ _ _
  have h3:c/hh=(c-a*hh)/hh+a:=by
   conv=>lhs;rw[e]
   exact Nat.add_mul_div_left _ _ I
  rw[J,h3];generalize(c-a*hh)%hh=x;generalize(c-a*hh)/hh=y
  split<;>omega
 ·rw[Nat.sub_eq_zero_of_le hle,Dx];have e:Cu hh c<=Cu hh (a*hh):=Df I hle;rw[KJ I]at e;omega
theorem aV(e:0<hh)(c b:Nat):Cu hh (min (b*hh) c)=min b (Cu hh c):=by
 rcases Nat.le_total (b*hh) c with hle|hle
 ·rw[Bi hle,KJ e,Bi];have I:=Df e hle;rwa [KJ e]at I
 ·rw[Nat.min_eq_right hle,Nat.min_eq_right];have I:=Df e hle;rwa [KJ e]at I
def Uq(l:List Cy)(a n:Nat):List Cy:=(l.drop a).take n
theorem RL:(Uq l pa pb).length=min pb (l.length-pa):=by unfold Uq;rw[AZ,Aq]
theorem Jl(e:0<hh):Cu hh (Uq l (pa*hh) (pb*hh)).length=min pb (Cu hh l.length-pa):=by
 rw[RL,aV e,Jn e]
theorem cY{k}(h:ID k l):ID k (Uq l pa pb):=λu hu=>h u (List.mem_of_mem_drop (Bw hu))
theorem Src.part(I:Src os sz first k hh l)(e:0<hh)(pa pb:Nat):Src os sz (first+pa) k hh (Uq l (pa*hh) (pb*hh)):=by
 obtain⟨j,f,h1,U,h3⟩:=I;refine⟨j,f,h1,λD O hd i hi=>?_,λJ=>?_⟩
 ·rw[Jl e]at hi;have h4:=U D O hd (pa+i) a5;rw[show first+pa+i=first+(pa+i)by omega,h4]
  congr 1
  unfold JN Uq
  congr 1
  rw[List.drop_take,CN,Cs,show pa*hh+i*hh=(pa+i)*hh by rw[A7],Bi];have h5:=Af hh (show i+1<=pb by omega);rw[A7,BH]at h5;omega
 ·rw[Jl e];rw[RL]at J;have h5:0<l.length:=a5;have h6:=h3 h5;have h7:pa*hh<l.length:=a5;have Q:0<Cu hh (l.length-pa*hh):=Es e a5;rw[Jn e]at Q;omega
def WU(q:Nat)(l:List Cy)(P:Nat):List (List Cy):=(Bo P).map λi=>Uq l (i*q) q
theorem RM:(WU q l P).length=P:=by unfold WU;rw[Ai,List.length_range]
theorem uf(h:i<P):(WU q l P)[i]?=AE (Uq l (i*q) q):=by unfold WU;rw[Bk,List.getElem?_range h];rfl
theorem YE:WU q l (P+1)=WU q l P++[Uq l (P*q) q]:=by unfold WU;rw[List.range_succ,Cn];rfl
theorem TJ:∀P,(WU q l P).flatten=l.take (P*q)
 |0=>by rw[CY];rfl
 |P+1=>by
  rw[YE,List.flatten_append,TJ P,A7,BH,List.take_add];simp[Uq]
theorem Vz(e:0<hh):∀P,DF (λl:List Cy=>Cu hh l.length) (WU (rb*hh) l P)=min (P*rb) (Cu hh l.length)
 |0=>by rw[CY,Nat.zero_min];rfl
 |P+1=>by
  rw[YE,D9,Vz e P,Kn];show _+Cu hh (Uq l (P*rb*hh) (rb*hh)).length= _;rw[Jl e,A7,BH];omega
end
def MP.A(P:MP)(i:Nat)(W:World):Prop:=∃cur q h lv,P.St cur q h/\q.length=i/\h.length=i/\(∀(p:Nat) (r:Sr),q[p]?=AE r->r.op=true/\r.rt.pos=1/\cur.getD p Cz::r.l.drop 1=r.l)/\Wd P.X (P.os (P.Z P.s0) cur (P.st lv h) q) (P.m+i+I9 P.once P.o P.hh P.s0) W
section
variable{P:MP}{cur:List Cy}{q:List Sr}{h:List (Nat×Nat)}{z:List DD}{st:DD}{W:World}{lv:Value}{m i:Nat}
theorem MP.bW{r}:P.os z cur st (q++[r])=P.os z cur st q++[jO P.X r]:=by
 unfold MP.os;rw[Cn];simp
theorem MP.A.below{W'}(h:P.A i W)(hb:Below W W W'):P.A i W':=by
 obtain⟨cur,q,h,lv,I,e,h3,h4,h5⟩:=h;exact⟨cur,q,h,lv,I,e,h3,h4,h5.below hb⟩
theorem LO{α f c}:∀(l:List α) (_:∀a∈l,f a=c),DF f l=l.length*c
 |[],_=>by rw[List.length_nil,CY];rfl
 |a::l,h=>by rw[EL,h a Az,LO l λb hb=>h b (BD _ hb),BW,A7,BH,Nat.add_comm]
theorem TN{hh}(I:0<hh):Cu hh 1=1:=by
 have J:=Dx hh;have O:=Es I (show 0<1 by omega);have e:=Jo I 0 1;rw[J]at e;rw[BM]at e;omega
theorem MP.A.start(hP:P.Ok)(h:P.A P.rs.length W):∃n,P.J n W:=by
 obtain⟨cur,q,h,lv,O,J,hh,hl,hw⟩:=h;have RE:=O.ql;rw[J,B6]at RE;have wV:∀(p:Nat) (r:Sr),q[p]?=AE r->IN cur q p=r.l:=λp r I=>by
  unfold IN;rw[I];obtain⟨U,h2,h3⟩:=hl p r I;show (if r.op then cur.getD p Cz::r.l.drop r.rt.pos else [])=r.l;rw[U,h2,h3];rfl
 have IZ:P.rs.flatten=(Bo P.rs.length).flatMap (IN cur q):=by
  rw[List.flatMap_def]
  congr 1
  rw[<-RE];refine List.ext_getElem? λj=>?_;rw[Bk,Bk,Ai];rcases Ak j q.length with e|e
  ·rw[AU e,List.getElem?_range e];show AE _=AE _;rw[wV j _ (AU e)]
  ·rw[BG e,BG (by rw[List.length_range];exact e)];rfl
 have hm:Yk P.o P.rs.length (IN cur q) P.rs.flatten []:=Yk.start (λp hp=>by
  rw[<-J]at hp;rw[wV p _ (AU hp)];exact hP.asc _ (by rw[<-RE];exact Av.2 ⟨_,CO hp,rfl⟩)) IZ
 have Q:ZV q=P.rs.length:=by
  have U:ZV q=q.length*1:=LO q λr I=>by
   obtain⟨p,hp,rfl⟩:=BP I;rw[(hl p _ (AU hp)).2.1];exact TN (O.rd _ I).ok.ok.h.1
  rw[U,J];omega
 refine⟨_,cur,q,h,lv,[],O,J,hm,rfl,?_⟩;rw[AY];unfold MP.mm;rw[Q];exact hw
theorem AK4(e:∀r∈q,r.op=true)(hb:P.bx.gr=AD):DF DD.gw (P.os z cur (P.st lv h) q)=DF DD.gw (P.DK++z)+P.M+q.length*P.X.sz:=by
 unfold MP.os;rw[DP,EL,EL,EL];have Q:P.bx.gw=0:=by unfold DD.gw;rw[hb]
 have O:DF DD.gw (q.map (jO P.X))=q.length*P.X.sz:=by
  rw[LO (c:=P.X.sz) _ λa J=>?_,Ai];obtain⟨r,I,rfl⟩:=Av.1 J;rw[OS (e r I)];rfl
 rw[Q,O];show _+(0+(P.M+(0+ _)))= _;omega
theorem MP.A.add(Q:P.Ok){first nb count}{l}(hi:P.rs[i]?=AE l)(hlen:l.length=count)(JC:0<count/\count<=100000)(Lu:P.hh=Cw P.X.sz P.k)(Gt:0<P.hh)(hnb:nb=Cu P.hh count)(Sb:first<=2000000)(EZ:Src P.DK P.X.sz first P.k P.hh l)
  (ab:DF DD.gw (P.DK++P.Z P.s0)+P.M+P.rs.length*P.X.sz<=P.X.rm)(h:P.A i W):
  Calls AP 157 #[AI P.sx,AI P.X.p.w,AL #[first,nb,P.k,count]] W λe w'=>(e=AH ()/\P.A (i+1) w')\/(e=AH (AA AB 6)/\P.No w'):=by
 obtain⟨cur,q,h,lv,J,hq,zg,hl,hw⟩:=h;have an:=Gz hi;have U:=Q.fit l (Ae hi);obtain⟨t,ht⟩:∃t,l[0]?=AE t:=⟨_,AU a5⟩;have Yd:∀r∈q,r.op=true:=λr I=>by
  obtain⟨p,hp,rfl⟩:=BP I;exact(hl p _ (AU hp)).1
 have Gu:=AK4 (P:=P) (z:=P.Z P.s0) (cur:=cur) (lv:=lv) (h:=h) Yd Q.bx.1;have ML:P.X.sz+DF DD.gw (P.os (P.Z P.s0) cur (P.st lv h) q)<=P.X.rm:=by
  rw[Gu,hq];have h1:=Af P.X.sz (show i+1<=P.rs.length from an);rw[A7,BH]at h1;omega
 have ao:(cur.length+1)*P.k<=P.M:=by
  have h1:=Af P.k (show cur.length+1<=P.rs.length by rw[J.cl,hq];exact an);exact Ag h1 Q.M.1
 have hn:=Q.n;have Dg:=Ni P.once P.o P.hh P.s0;have DT:=Q.bd;have aq:P.X.N+(P.m+i+I9 P.once P.o P.hh P.s0)<1000000:=by
  have h1:ZV q=i:=by
   have h1:ZV q=q.length*1:=LO q λr I=>by
    obtain⟨p,hp,rfl⟩:=BP I;rw[(hl p _ (AU hp)).2.1];exact TN (J.rd _ I).ok.ok.h.1
   rw[h1,hq];omega
  have h2:ZV q<=DF (λl:List Cy=>Cu P.hh l.length) P.rs:=by
   have h3:=VU J.rd;rw[ZU J.rd,J.ql]at h3;have h4:DF (λl:List Cy=>Cu P.hh l.length) (P.rs.take q.length)<=DF (λl:List Cy=>Cu P.hh l.length) P.rs:=by
    conv=>rhs;rw[<-BS q.length P.rs]
    rw[DP];omega
   omega
  omega
 refine(ko hw MP.ou MP.Uw a5 (by rw[zg,J.cl,hq]) (by have:=Q.len;omega) Q.kk ⟨ao,Q.M.2⟩ J.fit J.hp J.lt Lu Gt hnb JC Sb ML hlen U (MP.src EZ) aq ht).mono ?_;rintro e w' (⟨he,x,rt,h',Ji,h1,⟨e1,e2,e3,e4,e5⟩,h2,h3,h4⟩|⟨he,Fy,x,rt,h4⟩)
 ·have Og:(Sr.mk x rt l true).op=true:=rfl;have h5:Wd P.X (P.os (P.Z P.s0) (cur++[t]) (P.st Ji h') (q++[⟨x,rt,l,true⟩])) (P.m+i+I9 P.once P.o P.hh P.s0+1) w':=by
   rw[MP.bW,OS Og,<-MP.ZI (P:=P) (st:=P.st lv h),<-MP.kf (P:=P) (cur:=cur)];exact h4
  have hR:P.Rd ⟨x,rt,l,true⟩:=⟨h1,by show Src P.DK P.X.sz rt.first rt.k rt.h l;rw[e3,e4,e5];exact EZ,e4,e5,⟨by show 0<rt.pos;omega,by show rt.pos<=rt.count;omega⟩,λhf=>by cases hf⟩;have ae:∀p,p<q.length->(q++[⟨x,rt,l,true⟩])[p]?=q[p]?:=λp hp=>Aj hp;have ad:(q++[⟨x,rt,l,true⟩])[q.length]?=AE ⟨x,rt,l,true⟩:=by rw[AW ar,As];rfl
  have al:∀(p:Nat) (r:Sr),(q++[⟨x,rt,l,true⟩])[p]?=AE r->q[p]?=AE r\/(p=q.length/\r=⟨x,rt,l,true⟩):=λp r I=>by
   rcases CW p q.length with hp|hp|hp
   ·rw[ae p hp]at I;exact .inl I
   ·rw[hp,ad]at I;injection I with I;exact .inr ⟨hp,I.symm⟩
   ·rw[BG (by rw[Aa];show q.length+1<=p;omega)]at I;cases I
  have nV:=J.cl;refine .inl ⟨he,cur++[t],q++[⟨x,rt,l,true⟩],h',Ji,⟨?_,?_,?_,?_,h2,?_,?_⟩,by rw[Aa,hq];rfl,by rw[h3.length_eq,Aa,zg];rfl,?_,by rw[show P.m+(i+1)+I9 P.once P.o P.hh P.s0=P.m+i+I9 P.once P.o P.hh P.s0+1 by omega];exact h5⟩
  ·rw[Aa,Aa,nV];rfl
  ·rw[Aa,Cn,J.ql,hq];show P.rs.take i++[l]=P.rs.take (i+1);rw[Bj,hi];rfl
  ·exact λu hu=>(Ah.1 hu).elim (J.fit u) λhu=>by rw[Bp.1 hu];exact U t (Ae ht)
  ·exact λr I=>(Ah.1 I).elim (J.rd r) λI=>by rw[Bp.1 I];exact hR
  ·have h6:=h3.map (·.1);rw[h6.nodup_iff,Cn,List.nodup_append];refine⟨J.nd,a8,λa ha b hb=>?_⟩;obtain⟨c,hc,rfl⟩:=Av.1 ha;have h7:=J.lt c hc;simp at hb;rw[hb];omega
  ·intro a;rw[h3.mem_iff,Ah,Bp,J.mem a];constructor
   ·rintro(⟨r,O,k2,k3⟩|O)
    ·exact⟨r,by rw[ae _ (Gz O)];exact O,k2,k3⟩
    ·subst O;exact⟨⟨x,rt,l,true⟩,by show (q++[_])[cur.length]?= _;rw[nV];exact ad,rfl,rfl⟩
   ·rintro⟨r,O,k2,k3⟩;rcases al _ _ O with k4|⟨k4,k5⟩
    ·exact .inl ⟨r,k4,k2,k3⟩
    ·right;rw[k5]at k3;have k3:x=a.2:=k3;rw[nV,<-k4,k3]
  ·intro p r I;rcases al p r I with O|⟨O,k2⟩
   ·obtain⟨k3,k4,k5⟩:=hl p r O;refine⟨k3,k4,?_⟩;have hp:p<cur.length:=by rw[nV];exact Gz O
    rw[AT,Aj hp,<-AT];exact k5
   ·subst k2;refine⟨rfl,e1,?_⟩;rw[O,<-nV,AT,AW ar,As];show t::l.drop 1=l;rw[AU a5]at ht;injection ht with ht
    rw[<-ht];exact(Bv (show 0<l.length by omega)).symm
 ·refine .inr ⟨he,Fy,P.Z P.s0,cur,lv,h,q++[⟨x,rt,l,false⟩],P.m+i+I9 P.once P.o P.hh P.s0+1,.inl ⟨P.s0,a5,rfl⟩,⟨by have:=Q.len;omega,λa ha=>?_,λp r I ho=>?_⟩,?_⟩
  ·obtain⟨r,O,_,k3,_⟩:=J.get ha;exact⟨r,by rw[Aj (Gz O)];exact O,k3⟩
  ·rcases CW p q.length with hp|hp|hp
   ·rw[Aj hp]at I;exact(J.mem (p,r.x)).2 ⟨r,I,ho,rfl⟩
   ·rw[hp,AW ar,As]at I;have I:AE (Sr.mk x rt l false)=AE r:=I;injection I with I
    rw[<-I]at ho;cases ho
   ·rw[BG (by rw[Aa];show q.length+1<=p;omega)]at I;cases I
  ·rw[MP.bW,Mq (r:=⟨x,rt,l,false⟩) rfl];exact h4
end
section
variable{X:Cx}{DK:List DD}{o:Cy}{once RB:Bool}{k hh bd xw tT fP n:Nat}{vT:Value}{Z:List Cy->List DD}{js sb WO rb Dn first nb count m PN:Nat}{s0 l:List Cy}{W:World}
theorem Me{hh}(e:0<hh)(c:Nat):c<=Cu hh c*hh:=LY e
theorem jz(hS:o5 X o once k hh bd xw tT fP vT Z n)(Qr:DK[js]?=AE (Cv sb 193 (Ep X.p.w k hh WO Dn o RB bd)))
  (h:Wd X (DK++Z s0) (m+I9 once o hh s0) W)(DN:Gh first nb k hh l X.sz)(hc:l.length=count)(EZ:Src DK X.sz first k hh l)(b4:0<rb/\rb<=1000000)(Qw:Dn<=1000000)
  (ab:∀i,i<PN↔i*rb<nb)(ay:PN<=min Dn nb)(nt:∀i,ND o (Uq l (i*(rb*hh)) (rb*hh)))
  (O:DF DD.gw (DK++Z s0)+min Dn nb*k+PN*X.sz<=X.rm)(EC:X.rm<=1000000)(Sa:first+nb<=2000000)(bs:s0.length+count<=bd/\bd<=100000)(hn:X.N+m+nb+bd+3<=1000000):
  Calls AP 150 #[AI sb,AL #[first,nb,k,count],rb,.iface tT vT] W λe w'=>
   (e=AH ()/\∃out,ND o out/\Cl o l out/\Wd X (DK++Z (s0++out)) (m+nb+I9 once o hh (s0++out)) w')\/
   (e=AH (AA AB 6)/\¬X.cm/\∃z m',Q6 X xw bd n Z z/\Wd X (DK++z) m' w'):=by
 have Fa:=hS.len s0;have Jw:0<hh/\hh<=254:=⟨DN.hh.1,DN.hh.2.2⟩;have bp:=DN.kk;have Fl:count<=100000:=by rw[<-hc];exact DN.len
 have Lo:nb=Cu hh count:=by rw[<-hc];exact DN.bn
 have gS:nb<=count:=by rw[Lo];exact Dl _ _
 have bn:count<=nb*hh:=by rw[Lo];exact Me Jw.1 _
 obtain⟨mn,U⟩:=ao (min Dn nb);rw[U]at ay O;obtain⟨M,hM⟩:=ao (mn*k);rw[hM]at O;have a2:M<=1000000:=a5;have ad:∀W z m,Wd X (DK++z) m W->Row W sb 193 (Ep X.p.w k hh WO Dn o RB bd):=λW z m h=>h.row (Dj Qr);obtain⟨W1,EJ⟩:=ae (W.alloc (AK #[first,nb,k,count] 28));have Dg:Below W W W1:=by rw[EJ];exact(AS _ _).alloc ar _
 have Et:Row W1 W 28 [first,nb,k,count]:=by rw[EJ];exact heap_alloc_new _ _
 have I:Wd X (DK++Z s0++[Cv W 28 [first,nb,k,count]]) (m+I9 once o hh s0) W1:=h.new Dg Et ar;have FQ:=AO EJ;generalize LL:W.heap.size=fb at*
 let P0:Nat->Nat->Nat->MP:=λb g sx=>⟨X,DK,Z,o,once,k,hh,bd,xw,tT,fP,vT,n,m,s0,Cv fb 28 [first,nb,k,count],b,g,M,sx,WU (rb*hh) l PN⟩
 have IX:∀b g sx,(P0 b g sx).Ok:=λb g sx=>{
  S:=hS
  kk:=bp
  M:=⟨by show (WU (rb*hh) l PN).length*k<=M;rw[RM,<-hM];exact Af k ay,a2⟩
  len:=by show (WU (rb*hh) l PN).length<=100000;rw[RM];omega
  asc:=λl' Z1=>by
   obtain⟨i,_,rfl⟩:=Av.1 Z1;exact nt i
  fit:=λl' Z1=>by
   obtain⟨i,_,rfl⟩:=Av.1 Z1;exact cY DN.fit
  bx:=⟨rfl,rfl⟩
  bd:=by
   show s0.length+(WU (rb*hh) l PN).flatten.length<=bd;rw[TJ,AZ];omega
  n:=by
   show X.N+m+DF (λl:List Cy=>Cu hh l.length) (WU (rb*hh) l PN)+bd+3<=1000000;rw[Vz Jw.1,hc,<-Lo];omega}
 have YS:Hid (Calls AP 54 #[AI (AE ⟨X.p.a,0,AD⟩),AA AB (M:Nat)] W1.drew λe w'=>∃b g,e=AH (AM #[AI (AE ⟨b,0,AD⟩),AA AB 0])/\Wd X (DK++(Z s0++[Cv fb 28 [AA AB first,AA AB nb,AA AB k,AA AB count],Fz b g M k []])) (m+I9 once o hh s0) w'):=by
  have Gu:DF DD.gw (DK++Z s0++[Cv fb 28 [first,nb,k,count]])=DF DD.gw (DK++Z s0):=by rw[D9];rfl
  refine(Wh (I.drewN 1) M (by rw[Gu];omega) a2).mono ?_;rintro e w' ⟨b,g,he,h3⟩;refine⟨b,g,he,?_⟩;have aw:(DK++Z s0++[Cv fb 28 [first,nb,k,count]]++[xL b g M])[(DK++Z s0++[Cv fb 28 [first,nb,k,count]]).length]?=AE (xL b g M):=by rw[AW ar,As];rfl
  have h5:=h3.jt aw (a':=Fz b g M k []) VB (λ⟨q1,ws,q2,q3⟩=>⟨q1,ws,q2,q3,by simp[EN]⟩) (λ_ hk=>hk) rfl rfl (λ_ _=>trivial);rw[GY,AR,AR]at h5;exact h5
 have QG:Hid (∀b g sx W W',Wd X (DK++(Z s0++[Cv fb 28 [first,nb,k,count],Fz b g M k []])) (m+I9 once o hh s0) W->Below W W W'->Row W' sx 237 (Kh k g M M o (AJ AD 0 0))->W<=sx->(P0 b g sx).A 0 W'):=λb g sx W W' h2 hb hr hle=>by
  have h3:=h2.new hb hr hle;have aw:(DK++(Z s0++[Cv fb 28 [first,nb,k,count],Fz b g M k []])++[Cv sx 237 (Kh k g M M o (AJ AD 0 0))])[(DK++(Z s0++[Cv fb 28 [first,nb,k,count],Fz b g M k []])).length]?=AE (Cv sx 237 (Kh k g M M o (AJ AD 0 0))):=by rw[AW ar,As];rfl
  have h5:=h3.jt aw (a':=NU X sx k g M o (AJ AD 0 0) []) kY (λhr=>⟨hr,World.ownsRow_nil _ _ _ _⟩) (λb hk=>hk.elim id λe=>by cases e) rfl rfl (λ_ _=>trivial);rw[GY]at h5;refine⟨[],[],[],AJ AD 0 0,⟨rfl,rfl,(λu hu=>by cases hu),(λr hr=>by cases hr),(λj UW hj=>by cases hj),a8,λa=>⟨λha=>(by cases ha),λ⟨r,hr,_⟩=>(by simp at hr)⟩⟩,rfl,rfl,(λp r hr=>by simp at hr),?_⟩;have e1:(P0 b g sx).os ((P0 b g sx).Z (P0 b g sx).s0) [] ((P0 b g sx).st (AJ AD 0 0) []) []=DK++(Z s0++[Cv fb 28 [first,nb,k,count],Fz b g M k []])++[NU X sx k g M o (AJ AD 0 0) []]:=by
   show DK++Z s0++[Cv fb 28 [first,nb,k,count],Fz b g M k [],NU X sx k g M o (AJ AD 0 0) []]= _;simp
  rw[e1];exact h5
 have bF:Hid (∀os m W,Wd X os m W->Calls AP 21 #[AI X.p.w] W λe w'=>e=AH (AI X.p.a)/\w'=W):=λos m W h=>Nk h;have Jb:Hid (∀(z2:List DD) (m:Nat) (W:World),Wd X (DK++(Z s0++Cv fb 28 [first,nb,k,count]::z2)) m W->
   Row W sb 193 (Ep X.p.w k hh WO Dn o RB bd)/\Row W fb 28 [first,nb,k,count]):=λz2 m W h=>⟨ad _ _ _ h,by
   rw[<-AR]at h;exact h.row (FR (j:=0) Fa)⟩
 have Du:Hid (∀b g sx er w',(P0 b g sx).G2 er w'->(er=0/\∃out,ND o out/\Cl o l out/\Wd X (DK++Z (s0++out)) (m+nb+I9 once o hh (s0++out)) w')\/
   (er=6/\¬X.cm/\∃z m',Q6 X xw bd n Z z/\Wd X (DK++z) m' w')):=λb g sx er w' h=>by
  obtain⟨z,m',I,h2⟩:=h;have bm:nb<=PN*rb:=by
   have:=(ab PN).2;rcases Ak (PN*rb) nb with h3|h3
   ·exact absurd (this h3) (Nat.lt_irrefl _)
   ·exact h3
  rcases I with⟨he,out,rfl,ha,Fl,rfl⟩|⟨he,Fy,hz⟩
  ·refine .inl ⟨he,out,ha,?_,?_⟩
   ·have h3:Cl o (WU (rb*hh) l PN).flatten out:=Fl;rw[TJ,Ay]at h3
    ·exact h3
    ·rw[hc,Kn];exact Ag bn (Af hh bm)
   ·have h3:Wd X (DK++Z (s0++out)) (m+DF (λl:List Cy=>Cu hh l.length) (WU (rb*hh) l PN)+I9 once o hh (s0++out)) w':=h2;rw[Vz Jw.1,hc,<-Lo,Nat.min_eq_right bm]at h3;exact h3
  ·exact .inr ⟨he,Fy,z,m',hz,h2⟩
 have bj:Hid (∀b g sx i W F' Q C',i*rb<nb->F'=first+i*rb->Q=min rb (nb-i*rb)->C'=min (rb*hh) (count-i*rb*hh)->(P0 b g sx).A i W->Calls AP 157 #[AI (AE ⟨sx,0,AD⟩),AI (AE ⟨X.p.w,0,AD⟩),AL #[AA AB (F':Nat),AA AB (Q:Nat),AA AB k,AA AB (C':Nat)]] W λe w'=>∃er,e=AH (AA AB er)/\((er=0/\(P0 b g sx).A (i+1) w')\/(er=6/\(P0 b g sx).No w'))):=λb g sx i W F' Q C' hi hF az hC hA=>by
  have a1:=(ab i).2 hi;have hlen:(Uq l (i*rb*hh) (rb*hh)).length=C':=by rw[RL,hc,hC]
  have I0:=Jl (l:=l) (pa:=i*rb) (pb:=rb) Jw.1;rw[hlen,hc,<-Lo,<-az]at I0;have bu:0<C':=by
   rcases BB C' with h0|h0
   ·rw[h0,Dx]at I0;omega
   ·exact h0
  have Gu:=(IX b g sx);refine(MP.A.add (IX b g sx) (l:=Uq l (i*rb*hh) (rb*hh)) ?_ hlen ⟨bu,by rw[hC];omega⟩ DN.Pp Jw.1 I0.symm (by rw[hF];omega) ?_ ?_ hA).mono ?_
  ·show (WU (rb*hh) l PN)[i]?= _;rw[uf a1,Kn]
  ·rw[hF];exact EZ.part Jw.1 (i*rb) rb
  ·show DF DD.gw (DK++Z s0)+M+(WU (rb*hh) l PN).length*X.sz<=X.rm;rw[RM];exact O
  ·rintro e w' (⟨he,h3⟩|⟨he,h3⟩)
   ·exact⟨0,he,.inl ⟨rfl,h3⟩⟩
   ·exact⟨6,he,.inr ⟨rfl,h3⟩⟩
 have ba:Hid (∀b g sx i W a F' Q C',a=i*rb->i*rb<nb->F'=first+i*rb->Q=min rb (nb-i*rb)->C'=min (rb*hh) (count-i*rb*hh)->(P0 b g sx).A i W->Calls AP 151 #[AI sb,AL #[first,nb,k,count],a,rb] W λe w'=>e=AH (AL #[F',Q,k,C'])/\(P0 b g sx).A i w'):=λb g sx i W a F' Q C' ha hi hF az hC hA=>by
  subst ha;obtain⟨cur,q,h,lv,hs,hq,zg,hl,hw⟩:=hA;have bq:=Jn Jw.1 count (i*rb);have hle:i*rb*hh<=count:=by
   rcases Ak (i*rb*hh) count with I|I
   ·omega
   ·rw[Nat.sub_eq_zero_of_le I,Dx,<-Lo]at bq;omega
  have av:Row W sb 193 (Ep X.p.w k hh WO Dn o RB bd):=by
   have GS:Wd X (DK++Z s0++((P0 b g sx).bx::Fz b g M k cur::(P0 b g sx).st lv h::q.map (jO X))) (m+i+I9 once o hh s0) W:=hw;rw[AR]at GS;exact ad _ _ _ GS
  have zP:first<=2000000/\nb<=2000000/\count<=100000000/\i*rb<=nb/\rb<=100000000/\hh<=254:=⟨a5,a5,a5,a5,a5,Jw.2⟩;have zN:=XI (pa:=i*rb) (pb:=rb) av zP hle;rw[<-hF,<-az,<-hC]at zN;unfold KH at zN;refine zN.mono ?_;rintro e w' ⟨he,hb⟩;exact⟨he,cur,q,h,lv,hs,hq,zg,hl,hw.below hb⟩
 have Ym:Hid (∀b g sx z cur lv h q m W,Wd X ((P0 b g sx).os z cur ((P0 b g sx).st lv h) q) m W->Row W sb 193 (Ep X.p.w k hh WO Dn o RB bd)/\Row W fb 28 [first,nb,k,count]):=λb g sx z cur lv h q m W hw=>by
  have GS:Wd X (DK++z++(Cv fb 28 [first,nb,k,count]::Fz b g M k cur::(P0 b g sx).st lv h::q.map (jO X))) m W:=hw;refine⟨?_,GS.row (FR (j:=0) rfl)⟩;rw[AR]at GS;exact ad _ _ _ GS
 have pO:Hid (∀b g sx i W,(P0 b g sx).A i W->Row W sb 193 (Ep X.p.w k hh WO Dn o RB bd)/\Row W fb 28 [first,nb,k,count]):=λb g sx i W hA=>by
  obtain⟨cur,q,h,lv,hs,hq,zg,hl,hw⟩:=hA;exact Ym.out _ _ _ _ _ _ _ _ _ _ hw
 have a7:Hid (∀b g sx W,(P0 b g sx).No W->Row W sb 193 (Ep X.p.w k hh WO Dn o RB bd)/\Row W fb 28 [first,nb,k,count]):=λb g sx W hA=>by
  obtain⟨_,z,cur,lv,h,q,m',_,_,hw⟩:=hA;exact Ym.out _ _ _ _ _ _ _ _ _ _ hw
 have dS:Hid (∀b g sx i W W',(P0 b g sx).A i W->Below W W W'->(P0 b g sx).A i W'):=λb g sx i W W' h hb=>h.below hb;have T5:Hid (∀b g sx W,(P0 b g sx).A PN W->Calls AP 138 #[.iface 234 (AI sx),.iface tT vT] W λe w'=>(e=AH ()/\(P0 b g sx).G0 0 w')\/(e=AH (AA AB 6)/\(P0 b g sx).G0 6 w')):=λb g sx W hA=>by
  have bt:(P0 b g sx).rs.length=PN:=RM;rw[<-bt]at hA;obtain⟨n',hJ⟩:=hA.start (IX b g sx);refine(hJ.ye (IX b g sx)).mono ?_;rintro e w' (⟨he,h3⟩|⟨he,h3⟩)
  ·exact .inl ⟨he,h3.fin (IX b g sx)⟩
  ·exact .inr ⟨he,h3.fin⟩
 have vS:Hid (∀b g sx W,(P0 b g sx).No W->(P0 b g sx).G0 6 W):=λb g sx W h=>h.fin;have GR:Hid (∀b g sx er u W,(P0 b g sx).G0 er W->CallsD AP 156 #[AI sx] u W λe u' w'=>u'=u/\(e=AH (AM #[])/\(P0 b g sx).G1 er w')):=λb g sx er u W h=>MP.G0.close u h;have a9:Hid (∀b g sx er u W,(P0 b g sx).G1 er W->CallsD AP 70 #[AI (AE ⟨X.p.a,0,AD⟩),AI (AE ⟨b,0,AD⟩)] u W λe u' w'=>u'=u/\(e=AH (.bool true)/\(P0 b g sx).G2 er w')):=λb g sx er u W h=>MP.G1.release (IX b g sx) u h;have bB:=AO I;have vC:=AO (show Row W1 sb 193 (Ep X.p.w k hh WO Dn o RB bd)from I.row (Dj (Dj Qr)));have NQ:=AO Et;have bk:=AO ab;have b6:=AO hM;have b5:=AO U;have hmul:(mn:Int)*(k:Int)=(M:Int):=by rw[<-hM];exact(Br mn k).symm
 have Lp:(if nb<Dn then (nb:Int)else (Dn:Int))=(mn:Int):=by rw[<-U];split<;>omega
 have cb:(if (nb:Int)<(Dn:Int)then (nb:Int)else (Dn:Int))=(mn:Int):=by rw[<-U];split<;>omega
 have ca:nb<=100000:=a5;have b8:mn<=100000:=a5;have WG:=AO (bF.out _ _ _ (I.drewN 1));rw[show W1.drewN 1=W1.drew from rfl]at WG;clear h I Dg Et EJ DN EZ O hn ad bn Lo ab ay nt hM U IX hc Sa bs Ym;go_enter_defers func150,ntmps150
 go_upto_region 1 with(fail)
 rw[<-FQ.out];clear FQ;have aq:Ab.wrap (M:Int)=(M:Int):=Al _ a5;have Xq:=YS.out;rw[<-aq]at Xq;have vO:=AO Xq;have bw:=AO aq;have a4:W1.drew.cell? (sb,4)=AE (AI X.p.w):=vC.out.cell 4;have a3:W1.drew.cell? (sb,3)=AE (AA AB Dn):=vC.out.cell 3;have a0:W1.drew.cell? sb=AE (AA AB k):=vC.out.cell 0;have b1:W1.drew.cell? (fb,1)=AE (AA AB nb):=NQ.out.cell 1;clear Xq YS aq;go_region_held3 (λw'=>w'.cell? (sb,4)=AE (AI X.p.w)/\w'.cell? (sb,3)=AE (AA AB Dn)/\w'.cell? sb=AE (AA AB k)/\w'.cell? (fb,1)=AE (AA AB nb)) (first|with_reducible exact⟨a4,a3,a0,b1⟩|with_reducible exact q4)
  (first
   |(go_at_call 21;(with_reducible refine WG.out.mono ?_);rintro e w4 ⟨rfl,rfl⟩)
   |(go_at_call 54;(with_reducible refine vO.out.mono ?_);rintro e w4 ⟨b,g,rfl,h4⟩;obtain⟨H4,q4⟩:Hid (Wd X (DK++(Z s0++[Cv fb 28 [first,nb,k,count],Fz b g M k []])) (m+I9 once o hh s0) w4)/\(w4.cell? (sb,4)=AE (AI X.p.w)/\w4.cell? (sb,3)=AE (AA AB Dn)/\w4.cell? sb=AE (AA AB k)/\w4.cell? (fb,1)=AE (AA AB nb)):=⟨h4,(Jb.out _ _ _ h4).1.cell 4,(Jb.out _ _ _ h4).1.cell 3,(Jb.out _ _ _ h4).1.cell 0,(Jb.out _ _ _ h4).2.cell 1⟩))
 all_goals
  rw[bw.out];have yD:=AO (bF.out _ _ _ h4);have s4:w4.cell? (sb,4)=AE (AI X.p.w):=q4.1;clear a4 a3 a0 b1 q4 vO WG vC NQ bB h4;go_wp2_with fail
  refine yD.out.mono ?_;rintro e J ⟨rfl,Jr⟩;subst Jr;clear yD s4;have al:=H4.out.drewN 1;rw[show J.drewN 1=J.drew from rfl]at al;have J0:=AO (Jb.out _ _ _ al);have an:Hid (Row J.drew b 119 [AJ g M M]):=by
   have h6:Wd X (DK++Z s0++[Cv fb 28 [first,nb,k,count],Fz b g M k []]) (m+I9 once o hh s0) J.drew:=by rw[AR];exact al
   exact(h6.at_ (FR (j:=1) Fa)).1
  have Js:Below J J ((J.alloc (AK #[k,AJ g M M,o.a,o.b,o.c,o.d,o.e,AJ AD 0 0] 237)).drew):=((AS J J).alloc ar _).drew;have au:=Row.drewN (heap_alloc_new J (AK #[k,AJ g M M,o.a,o.b,o.c,o.d,o.e,AJ AD 0 0] 237):Row _ _ 237 (Kh k g M M o (AJ AD 0 0))) 1;rw[show∀w:World,w.drewN 1=w.drew from λ_=>rfl]at au;have jJ:=AO (QG.out b g J J _ H4.out Js au ar);have ax:∀W,(Row W sb 193 (Ep X.p.w k hh WO Dn o RB bd)/\Row W fb 28 [first,nb,k,count])->Row W b 119 [AJ g M M]->(W.cell? sb=AE (AA AB k)/\W.cell? b=AE (AJ g M M)/\W.cell? (sb,5)=AE (AA AB o.a)/\W.cell? (sb,6)=AE (AA AB o.b)/\W.cell? (sb,7)=AE (AA AB o.c)/\W.cell? (sb,8)=AE (AA AB o.d)/\W.cell? (sb,9)=AE (AA AB o.e)):=λW I h2=>⟨I.1.cell 0,h2.cell 0,I.1.cell 5,I.1.cell 6,I.1.cell 7,I.1.cell 8,I.1.cell 9⟩;have s1:=ax _ J0.out an.out;have Fx:Below J J.drew ((J.alloc (AK #[k,AJ g M M,o.a,o.b,o.c,o.d,o.e,AJ AD 0 0] 237)).drew):=by
   have h7:Below J.drew.heap.size J.drew (J.drew.alloc (AK #[k,AJ g M M,o.a,o.b,o.c,o.d,o.e,AJ AD 0 0] 237)):=(AS _ _).alloc ar _;exact h7
  have s2:=ax _ (Jb.out _ _ _ (H4.out.below Js)) (an.out.below Fx an.out.lt);clear ax Js au al Fx J0 an;go_wp2_with fail
  go_region_held3 (λW=>W.cell? sb=AE (AA AB k)/\W.cell? b=AE (AJ g M M)/\W.cell? (sb,5)=AE (AA AB o.a)/\W.cell? (sb,6)=AE (AA AB o.b)/\W.cell? (sb,7)=AE (AA AB o.c)/\W.cell? (sb,8)=AE (AA AB o.d)/\W.cell? (sb,9)=AE (AA AB o.e)) (first|with_reducible exact s1|with_reducible exact s2) (fail)
  clear s1 s2 H4;generalize(J.alloc (AK #[k,AJ g M M,o.a,o.b,o.c,o.d,o.e,AJ AD 0 0] 237)).drew=w6 at*
  generalize J.heap.size=sx at*
  have bS:=AO (ba.out b g sx);have b3:=AO (bj.out b g sx);have aC:=AO (pO.out b g sx);have bW:=AO (a7.out b g sx);have bE:=AO (T5.out b g sx);have bD:=AO (vS.out b g sx);have aB:=AO (GR.out b g sx);have aE:=AO (a9.out b g sx);have pZ:=AO (Du.out b g sx);have bC:=AO (dS.out b g sx);clear ba bj pO a7 T5 vS GR a9 Du QG bF Jb dS;generalize(P0 b g sx).A=FA at*
  generalize(P0 b g sx).No=FN at*
  generalize(P0 b g sx).G0=F0 at*
  generalize(P0 b g sx).G1=F1 at*
  generalize(P0 b g sx).G2=F2 at*
  clear P0;go_wp2_with fail
  go_loopw [12] (λiv wr=>∃(i a:Nat),iv=AA AB (a:Int)/\Hid (a=i*rb)/\a<=1100000/\i<=PN/\Hid (FA i wr)) (λiv _=>nb-(BF iv).toNat)
  case atStart=>exact⟨0,0,rfl,by unfold Hid;simp,a5,a5,jJ⟩
  case round=>
   obtain⟨i,a,rfl,vY,aD,a1,YT⟩:=hrel;clear jJ;have hR:=aC.out i wr YT.out;have t1:wr.cell? (fb,1)=AE (AA AB nb):=hR.2.cell 1;by_cases aS:a<nb
   ·have hi:i*rb<nb:=by rw[<-vY.out];exact aS
    obtain⟨F',hF⟩:=ae (first+i*rb);obtain⟨N',hN⟩:=ae (min rb (nb-i*rb));obtain⟨C',hC⟩:=ae (min (rb*hh) (count-i*rb*hh));have aR:FA i wr.drew:=bC.out i wr _ YT.out (DC (AS _ _));have bb:=AO (bS.out i wr.drew a F' N' C' vY.out hi hF hN hC aR);have bc:=AO (λW=>b3.out i W F' N' C' hi hF hN hC);have b2:i+1<=PN:=(bk.out i).2 hi;have aA:Hid (∀W,FA i W->(W.cell? (sb,4)=AE (AI X.p.w)/\W.cell? fb=AE (AA AB first)/\W.cell? (fb,1)=AE (AA AB nb)/\W.cell? (fb,2)=AE (AA AB k)/\W.cell? (fb,3)=AE (AA AB count))):=λW h=>by
     have I:=aC.out i W h;exact⟨I.1.cell 4,I.2.cell 0,I.2.cell 1,I.2.cell 2,I.2.cell 3⟩
    have jG:Hid (∀(er:Int) W,((er=0/\FA (i+1) W)\/(er=6/\FN W))->(W.cell? (sb,4)=AE (AI X.p.w)/\W.cell? fb=AE (AA AB first)/\W.cell? (fb,1)=AE (AA AB nb)/\W.cell? (fb,2)=AE (AA AB k)/\W.cell? (fb,3)=AE (AA AB count))):=λer W h=>by
     rcases h with⟨_,h⟩|⟨_,h⟩
     ·have I:=aC.out (i+1) W h;exact⟨I.1.cell 4,I.2.cell 0,I.2.cell 1,I.2.cell 2,I.2.cell 3⟩
     ·have I:=bW.out W h;exact⟨I.1.cell 4,I.2.cell 0,I.2.cell 1,I.2.cell 2,I.2.cell 3⟩
    have s3:=aA.out _ aR;clear hF hN hC hR aR;go_wp2_with fail
    go_region_held3 (λW=>W.cell? (sb,4)=AE (AI X.p.w)/\W.cell? fb=AE (AA AB first)/\W.cell? (fb,1)=AE (AA AB nb)/\W.cell? (fb,2)=AE (AA AB k)/\W.cell? (fb,3)=AE (AA AB count)) (first|with_reducible exact s3|with_reducible exact q5|with_reducible exact q6)
     (first
      |(go_at_call 151;(with_reducible refine bb.out.mono ?_);rintro e w7 ⟨rfl,h7⟩;have q5:=aA.out w7 h7;have q6:=q5;have H7:=AO (bc.out w7 h7))
      |(go_at_call 157;(with_reducible refine H7.out.mono ?_);rintro e w8 ⟨er,rfl,h8⟩;have q6:=jG.out er w8 h8;have q5:=q6))
    all_goals
     have H8:=AO h8;clear s3 q5 q6 H7 bb bc aA jG h7 h8 YT t1;rcases H8.out with⟨rfl,h9⟩|⟨rfl,h9⟩
     ·have H9:=AO h9;clear h9 H8;have G7:Hid (a+rb=(i+1)*rb):=by unfold Hid;rw[A7,BH,<-vY.out]
      go_wp2
      go_roundw
      case rel=>exact⟨i+1,a+rb,by go_num,G7,a5,b2,H9⟩
      case measure=>simp[BF];omega
     ·have jK:=AO (bD.out _ h9);clear h9 H8;go_wp2
      refine A6 (f:=156) (args:=#[AI sx]) a8 (by simp[go_sem]) ?_;refine(aB.out 6 _ _ jK.out).mono ?_;rintro e u1 Iu ⟨rfl,rfl,JZ⟩;refine A6 (f:=70) (args:=#[AI X.p.a,AI b]) (by simp[settle]) (by simp[go_sem]) ?_;refine(aE.out 6 _ _ JZ).mono ?_;rintro e u2 jN ⟨rfl,rfl,Pw⟩;refine⟨AA AB 6,by simp[results,Tryz.results150,go_sem],?_⟩;rcases pZ.out 6 jN Pw with⟨Tk,PV⟩|⟨Tk,PV⟩
      ·exact absurd Tk a6
      ·exact .inr ⟨rfl,PV⟩
   ·have bo:i=PN:=by
     rcases Ak i PN with I|I
     ·exact absurd (by rw[vY.out];exact(bk.out i).1 I) aS
     ·omega
    subst bo;have bA:=AO (bE.out wr YT.out);clear YT hR;go_wp2_with fail
    refine bA.out.mono ?_;rintro e w9 (⟨rfl,h9⟩|⟨rfl,h9⟩)
    ·have jK:=AO h9;clear h9;go_wp2
     refine A6 (f:=156) (args:=#[AI sx]) a8 (by simp[go_sem]) ?_;refine(aB.out 0 _ _ jK.out).mono ?_;rintro e u1 Iu ⟨rfl,rfl,JZ⟩;refine A6 (f:=70) (args:=#[AI X.p.a,AI b]) (by simp[settle]) (by simp[go_sem]) ?_;refine(aE.out 0 _ _ JZ).mono ?_;rintro e u2 jN ⟨rfl,rfl,Pw⟩;refine⟨AA AB 0,by simp[results,Tryz.results150,go_sem],?_⟩;rcases pZ.out 0 jN Pw with⟨Tk,PV⟩|⟨Tk,PV⟩
     ·exact .inl ⟨rfl,PV⟩
     ·exact absurd Tk a6
    ·have jK:=AO h9;clear h9;go_wp2
     refine A6 (f:=156) (args:=#[AI sx]) a8 (by simp[go_sem]) ?_;refine(aB.out 6 _ _ jK.out).mono ?_;rintro e u1 Iu ⟨rfl,rfl,JZ⟩;refine A6 (f:=70) (args:=#[AI X.p.a,AI b]) (by simp[settle]) (by simp[go_sem]) ?_;refine(aE.out 6 _ _ JZ).mono ?_;rintro e u2 jN ⟨rfl,rfl,Pw⟩;refine⟨AA AB 6,by simp[results,Tryz.results150,go_sem],?_⟩;rcases pZ.out 6 jN Pw with⟨Tk,PV⟩|⟨Tk,PV⟩
     ·exact absurd Tk a6
     ·exact .inr ⟨rfl,PV⟩
end
structure JP where
 X:Cx
 DK:List DD
 Z:List Cy->List DD
 o:Cy
 once:Bool
 k:Nat
 hh:Nat
 bd:Nat
 xw:Nat
 tT:Nat
 fP:Nat
 vT:Value
 n:Nat
 m:Nat
 first:Nat
 nb:Nat
 count:Nat
 rb:Nat
 Dn:Nat
 L:Nat
 l:List Cy
structure JP.Ok (P:JP):Prop where
 S:o5 P.X P.o P.once P.k P.hh P.bd P.xw P.tT P.fP P.vT P.Z P.n
 f:Gh P.first P.nb P.k P.hh P.l P.X.sz
 c:P.l.length=P.count
 src:Src P.DK P.X.sz P.first P.k P.hh P.l
 rb:0<P.rb/\P.rb<=1000000
 Dn:0<P.Dn/\P.Dn<=1000000
 L:P.rb*P.Dn=P.L
 fst:P.first+P.nb<=2000000
 asc:Yo P.o (P.rb*P.hh) P.l
 room:∀s,s.length<=P.bd->DF DD.gw (P.DK++P.Z s)+P.Dn*P.k+P.Dn*P.X.sz<=P.X.rm
 rm:P.X.rm<=1000000
 bd:P.count<=P.bd/\P.bd<=100000
 n:P.X.N+P.m+P.nb+P.bd+3<=1000000
structure JP.Put (P:JP) (i:Nat) (s:List Cy):Prop where
 len:s.length=min (i*(P.L*P.hh)) P.count
 asc:Yo P.o (P.L*P.hh) s
 cl:Cl P.o (P.l.take (i*(P.L*P.hh))) s
def JP.A(P:JP)(i:Nat)(W:World):Prop:=∃s,P.Put i s/\Wd P.X (P.DK++P.Z s) (P.m+min (i*P.L) P.nb+I9 P.once P.o P.hh s) W
def JP.No(P:JP)(W:World):Prop:=¬P.X.cm/\∃z m',Q6 P.X P.xw P.bd P.n P.Z z/\Wd P.X (P.DK++z) m' W
section
variable{P:JP}{i:Nat}{W W':World}
theorem JP.A.below(h:P.A i W)(hb:Below W W W'):P.A i W':=by
 obtain⟨s,I,e⟩:=h;exact⟨s,I,e.below hb⟩
theorem uq{o q l}(h:Yo o q l)(a j n:Nat):ND o (Uq (Uq l (a*q) n) (j*q) q):=by
 have I:=h (a+j);have e:Uq (Uq l (a*q) n) (j*q) q=(((l.drop ((a+j)*q)).take q)).take (n-j*q):=by
  unfold Uq;rw[List.drop_take,Cs,CN,CN,A7,Nat.min_comm]
 rw[e];exact I.sublist (List.take_sublist _ _)
theorem TK{rb nb}(h:0<rb)(i:Nat):i<(nb+rb-1)/rb↔i*rb<nb:=by
 rw[Nat.lt_div_iff_mul_lt h];omega
theorem JP.A.merge(I:P.Ok){RB}{js sb WO:Nat}(Qr:P.DK[js]?=AE (Cv sb 193 (Ep P.X.p.w P.k P.hh WO P.Dn P.o RB P.bd)))(hi:i*P.L<P.nb){F' N' C'}(hF:F'=P.first+i*P.L)(hN:N'=min P.L (P.nb-i*P.L))(hC:C'=min (P.L*P.hh) (P.count-i*P.L*P.hh))(h:P.A i W):
  Calls AP 150 #[AI sb,AL #[AA AB (F':Nat),AA AB (N':Nat),AA AB P.k,AA AB (C':Nat)],AA AB P.rb,.iface P.tT P.vT] W λe w'=>∃er,e=AH (AA AB er)/\((er=0/\P.A (i+1) w')\/(er=6/\P.No w')):=by
 obtain⟨s,hp,hw⟩:=h;have Jw:=I.f.hh.1;have Lo:P.nb=Cu P.hh P.count:=by rw[<-I.c];exact I.f.bn
 have hlen:(Uq P.l (i*P.L*P.hh) (P.L*P.hh)).length=C':=by rw[RL,I.c,hC]
 have I0:=Jl (l:=P.l) (pa:=i*P.L) (pb:=P.L) Jw;rw[hlen,I.c,<-Lo,<-hN]at I0;have hle:i*P.L*P.hh<P.count:=by
  have Q:=Jn Jw P.count (i*P.L);rw[<-Lo]at Q;rcases Ak (i*P.L*P.hh) P.count with O|O
  ·exact O
  ·rw[Nat.sub_eq_zero_of_le O,Dx]at Q;omega
 have qQ:i*(P.L*P.hh)=i*P.L*P.hh:=Kn _ _ _;have Og:s.length=i*(P.L*P.hh):=by rw[hp.len,qQ];omega
 have ae:=I.bd;have ad:=I.f.len;rw[I.c]at ad;have zS:P.nb<=P.count:=by rw[Lo];exact Dl _ _
 have hn:=I.n;have Sa:=I.fst;have hL:=I.L;have J:=I.rb;have al:(N'+P.rb-1)/P.rb<=P.Dn:=by
  have Q:¬P.Dn<(N'+P.rb-1)/P.rb:=λh=>by
   have O:=(TK J.1 _).1 h;rw[CS,hL]at O;omega
  omega
 have an:(N'+P.rb-1)/P.rb<=N':=by
  have Q:¬N'<(N'+P.rb-1)/P.rb:=λh=>by
   have O:=(TK J.1 _).1 h;have h3:=Nat.le_mul_of_pos_right N' J.1;omega
  omega
 have ab:=I.room s a5;have Et:min P.Dn N'*P.k<=P.Dn*P.k:=Af _ (Nat.min_le_left _ _);have EC:=Af P.X.sz al;have Kp:Wd P.X (P.DK++P.Z s) ((P.m+i*P.L)+I9 P.once P.o P.hh s) W:=by
  rw[Bi a5]at hw;exact hw
 refine(jz (PN:=(N'+P.rb-1)/P.rb) (s0:=s) I.S Qr Kp ⟨I.f.kk,I.f.hh,I.f.Pp,by rw[hlen];exact I0.symm,by rw[hlen];omega,a5,cY I.f.fit⟩ hlen (by rw[hF];exact I.src.part Jw (i*P.L) P.L) J I.Dn.2 (λj=>TK J.1 j) a5 (λj=>?_) a5 I.rm a5 ⟨?_,ae.2⟩ a5).mono ?_
 ·have h3:i*P.L*P.hh=(i*P.Dn)*(P.rb*P.hh):=by
   rw[<-hL];simp only[CS,Nat.mul_left_comm]
  rw[h3];exact uq I.asc _ _ _
 ·rw[Og,qQ,hC];omega
 ·rintro e w' (⟨he,out,Q,O,h3⟩|⟨he,Fy,z,m',hz,h3⟩)
  ·have Pp:=O.len;rw[hlen]at Pp;have U:(i+1)*(P.L*P.hh)=i*(P.L*P.hh)+P.L*P.hh:=by rw[A7,BH]
   refine⟨0,he,.inl ⟨rfl,s++out,⟨?_,?_,?_⟩,?_⟩⟩
   ·rw[Aa,<-Pp,Og,U,qQ,hC];omega
   ·exact YF hp.asc Og Q (by rw[<-Pp,hC];omega)
   ·rw[U,List.take_add];refine oh hp.cl ?_;rw[qQ];exact O
   ·have h4:P.m+i*P.L+N'=P.m+min ((i+1)*P.L) P.nb:=by
     rw[A7,BH];omega
    rw[h4]at h3;exact h3
  ·exact⟨6,he,.inr ⟨rfl,Fy,z,m',hz,h3⟩⟩
end
section
variable{P:JP}{W:World}{js sb WO:Nat}{RB:Bool}
theorem fy{X:Cx}{first nb k count rb Dn hh bd fb L:Nat}{o once}{FA:Nat->World->Prop}{FN:World->Prop}{tT vT}(hb:first<=2000000/\nb<=100000/\count<=100000/\rb<=1000000/\Dn<=1000000/\0<L/\L<=100000000/\hh<=254)(hL:rb*Dn=L)
  (YQ:∀i W,FA i W->Row W sb 193 (Ep X.p.w k hh WO Dn o once bd)/\Row W fb 28 [first,nb,k,count])(dS:∀i W W',FA i W->Below W W W'->FA i W')
  (jg:∀i,i*L<nb->i*L*hh<=count)
  (O:∀i W F' N' C',i*L<nb->F'=first+i*L->N'=min L (nb-i*L)->C'=min (L*hh) (count-i*L*hh)->FA i W->Calls AP 150 #[AI sb,AL #[AA AB (F':Nat),AA AB (N':Nat),AA AB k,AA AB (C':Nat)],AA AB rb,.iface tT vT] W λe w'=>∃er,e=AH (AA AB er)/\((er=0/\FA (i+1) w')\/(er=6/\FN w')))
  (LL:W=fb)(h:FA 0 (W.alloc (AK #[first,nb,k,count] 28))):
  Calls AP 143 #[AI sb,AL #[first,nb,k,count],rb,.iface tT vT] W λe w'=>
   (e=AH ()/\∃i,nb<=i*L/\FA i w')\/(e=AH (AA AB 6)/\FN w'):=by
 obtain⟨W1,EJ⟩:=ae (W.alloc (AK #[first,nb,k,count] 28));rw[<-EJ]at h;have FQ:=AO EJ;have HH:=AO h;have Ka:=AO (YQ 0 W1 h);have hmul:(rb:Int)*(Dn:Int)=(L:Int):=by rw[<-hL];exact(Br rb Dn).symm
 have a3:W1.cell? (sb,3)=AE (AA AB Dn):=Ka.out.1.cell 3;have aq:=AO YQ;have al:=AO dS;have ao:=AO O;have an:=AO jg;have HL:=AO hL;clear EJ h YQ dS O hL jg;go_enter func143,ntmps143
 go_upto_region 1 with(fail)
 rw[<-FQ.out];clear FQ LL;go_wp2_with fail
 clear a3;go_loopw [10] (λiv wr=>∃(i a:Nat),iv=AA AB (a:Int)/\Hid (a=i*L)/\a<=100200000/\Hid (FA i wr)) (λiv _=>nb-(BF iv).toNat)
 case atStart=>exact⟨0,0,rfl,by unfold Hid;simp,a5,HH⟩
 case round=>
  obtain⟨i,a,rfl,U,aD,YT⟩:=hrel;clear HH Ka;have hR:=aq.out i wr YT.out;obtain⟨t0,t1,t2,t3⟩:=hR.2.q4;by_cases ab:a<nb
  ·have hi:i*L<nb:=by rw[<-U.out];exact ab
   obtain⟨F',hF⟩:=ae (first+i*L);obtain⟨N',hN⟩:=ae (min L (nb-i*L));obtain⟨C',hC⟩:=ae (min (L*hh) (count-i*L*hh));have J:Hid (Calls AP 151 #[AI sb,AL #[first,nb,k,count],a,L] wr λe w'=>e=AH (AL #[F',N',k,C'])/\FA i w'):=by
    have zP:first<=2000000/\nb<=2000000/\count<=100000000/\i*L<=nb/\L<=100000000/\hh<=254:=⟨a5,a5,a5,a5,a5,a5⟩;have zN:=XI (pa:=i*L) (pb:=L) hR.1 zP (an.out i hi);rw[<-hF,<-hN,<-hC,<-U.out]at zN;unfold KH at zN;refine zN.mono ?_;rintro e w' ⟨he,hb⟩;exact⟨he,al.out i wr w' YT.out hb⟩
   have Q:=AO (λW=>ao.out i W F' N' C' hi hF hN hC);clear hF hN hC hR YT;go_wp2_with fail
   refine J.out.mono ?_;rintro e w7 ⟨rfl,h7⟩;have H7:=AO (Q.out w7 h7);clear h7 J Q;go_wp2_with fail
   refine H7.out.mono ?_;rintro e w8 ⟨er,rfl,h8⟩;rcases h8 with⟨rfl,h9⟩|⟨rfl,h9⟩
   ·have H9:=AO h9;clear h9 H7 t0 t1 t2 t3;have G7:Hid (a+L=(i+1)*L):=by unfold Hid;rw[A7,BH,<-U.out]
    go_wp2
    go_roundw
    case rel=>exact⟨i+1,a+L,by go_num,G7,a5,H9⟩
    case measure=>simp[BF];omega
   ·have H9:=AO h9;clear h9 H7;go_wp2
    go_ret
    exact .inr ⟨rfl,H9.out⟩
  ·have I:nb<=i*L:=by rw[<-U.out];omega
   have ad:=AO I;clear I hR;go_wp2
   go_ret
   exact .inl ⟨rfl,i,ad.out,YT.out⟩
theorem qv(I:P.Ok)(Qr:P.DK[js]?=AE (Cv sb 193 (Ep P.X.p.w P.k P.hh WO P.Dn P.o RB P.bd)))(ab:P.L<=100000000)(h:Wd P.X (P.DK++P.Z []) P.m W):
  Calls AP 143 #[AI sb,AL #[P.first,P.nb,P.k,P.count],P.rb,.iface P.tT P.vT] W λe w'=>
   (e=AH ()/\∃s,s.length=P.count/\Yo P.o (P.L*P.hh) s/\Cl P.o P.l s/\Wd P.X (P.DK++P.Z s) (P.m+P.nb+I9 P.once P.o P.hh s) w')\/
   (e=AH (AA AB 6)/\P.No w'):=by
 have EJ:Below W W (W.alloc (AK #[P.first,P.nb,P.k,P.count] 28)):=(AS _ _).alloc ar _
 let bx:DD:=Cv W.heap.size 28 [P.first,P.nb,P.k,P.count]
 let Q:JP:={P with DK:=P.DK++[bx]}
 have WS:∀z,DF DD.gw (P.DK++[bx]++z)=DF DD.gw (P.DK++z):=λz=>by
  rw[DP,DP,DP,EL];show _+(0+0)+ _= _;omega
 have hQ:Q.Ok:={I with
  src:=I.src.app
  room:=λs hs=>by
   show DF DD.gw (P.DK++[bx]++P.Z s)+ _+ _<= _;rw[WS];exact I.room s hs}
 have ae:Q.DK[js]?=AE (Cv sb 193 (Ep P.X.p.w P.k P.hh WO P.Dn P.o RB P.bd)):=Dj Qr;have h1:Wd P.X (P.DK++[bx]++P.Z []) P.m (W.alloc (AK #[P.first,P.nb,P.k,P.count] 28)):=
  (h.new EJ (heap_alloc_new W (AK #[P.first,P.nb,P.k,P.count] 28)) ar).front
 have JS:I9 P.once P.o P.hh []=0:=by
  have h2:=Ni P.once P.o P.hh [];simp at h2;exact h2
 have uH:Q.A 0 (W.alloc (AK #[P.first,P.nb,P.k,P.count] 28)):=⟨[],⟨a8,λj=>by rw[List.drop_nil,List.take_nil];exact Oz _,by simp;exact Cl.refl _ _⟩,by
  show Wd P.X (P.DK++[bx]++P.Z []) (P.m+min (0*P.L) P.nb+I9 P.once P.o P.hh []) _;rw[JS,CY,Nat.zero_min];exact h1⟩
 have Jw:=I.f.hh.1;have Lo:P.nb=Cu P.hh P.count:=by rw[<-I.c];exact I.f.bn
 have Fl:=I.f.len;rw[I.c]at Fl;have gS:P.nb<=P.count:=by rw[Lo];exact Dl _ _
 have ad:0<P.L:=by rw[<-I.L];exact Nat.mul_pos I.rb.1 I.Dn.1
 refine(fy (X:=P.X) (first:=P.first) (nb:=P.nb) (k:=P.k) (count:=P.count) (rb:=P.rb) (Dn:=P.Dn) (hh:=P.hh) (o:=P.o) (once:=RB) (bd:=P.bd) (WO:=WO) (FA:=Q.A) (FN:=Q.No) (L:=P.L) ⟨I.f.fst,a5,Fl,I.rb.2,I.Dn.2,ad,ab,I.f.hh.2.2⟩ I.L (λi W ⟨s,_,hw⟩=>?_) (λi W W' h hb=>h.below hb) (λi hi=>?_) (λi W F' N' C' hi hF hN hC hA=>JP.A.merge hQ ae hi hF hN hC hA) rfl uH).mono ?_
 ·have J:Wd P.X (P.DK++[bx]++P.Z s) _ W:=hw;refine⟨J.row (Dj (Dj Qr)),?_⟩;have Qx:(P.DK++[bx]++P.Z s)[P.DK.length]?=AE bx:=by rw[AR];exact DG P.DK _ 0
  exact J.row Qx
 ·have hi:i*P.L<P.nb:=hi;have h2:=Jn Jw P.count (i*P.L);rw[<-Lo]at h2;rcases Ak (i*P.L*P.hh) P.count with h3|h3
  ·omega
  ·rw[Nat.sub_eq_zero_of_le h3,Dx]at h2;omega
 ·rintro e w' (⟨he,i,U,s,hp,hw⟩|⟨he,Fy,z,m',hz,hw⟩)
  ·have J:Wd P.X (P.DK++bx::P.Z s) (P.m+min (i*P.L) P.nb+I9 P.once P.o P.hh s) w':=by
    have US:Wd P.X (P.DK++[bx]++P.Z s) (P.m+min (i*P.L) P.nb+I9 P.once P.o P.hh s) w':=hw;rw[AR]at US;exact US
   have h3:=J.cut rfl rfl;rw[Nat.min_eq_right U]at h3;have M5:P.count<=i*(P.L*P.hh):=by
    rw[Kn];refine Ag (Me Jw P.count) ?_;rw[<-Lo];exact Af _ U
   have Gi:s.length=min (i*(P.L*P.hh)) P.count:=hp.len;have O:Cl P.o (P.l.take (i*(P.L*P.hh))) s:=hp.cl;rw[Ay (by rw[I.c];exact M5)]at O;exact .inl ⟨he,s,by rw[Gi];omega,hp.asc,O,h3⟩
  ·have J:Wd P.X (P.DK++bx::z) m' w':=by
    have US:Wd P.X (P.DK++[bx]++z) m' w':=hw;rw[AR]at US;exact US
   exact .inr ⟨he,Fy,z,m',hz,J.cut rfl rfl⟩
end
structure VP where
 X:Cx
 DK:List DD
 o:Cy
 on:Bool
 k:Nat
 hh:Nat
 bd:Nat
 ob:Nat
 m:Nat
 a:Nat
 R:List Cy->Prop
def VP.bx(P:VP)(F N k C:Nat):DD:=Cv P.ob 28 [F,N,k,C]
def VP.P0(P:VP)(W:World):Prop:=Wd P.X (P.DK++[P.bx 0 0 0 0]) P.m W
def VP.P1(P:VP)(x:Nat)(W:World):Prop:=∃t,Ew t P.X.sz/\t.k=P.k/\t.h=P.hh/\t.bound=P.bd/\t.l=[]/\Wd P.X (P.DK++[P.bx 0 0 0 0]++[I6 P.X.p x t P.X.sz]) P.m W
def VP.P2(P:VP)(x:Nat)(W:World):Prop:=∃s t r,P.R s/\Ew t P.X.sz/\t.k=P.k/\t.h=P.hh/\t.l=Dt P.on P.o s/\Dr r/\Wd P.X (P.DK++[P.bx 0 0 0 0]++I6 P.X.p x t P.X.sz::r) (P.m+P.a+I9 P.on P.o P.hh s) W
def VP.P3(P:VP)(x F N C:Nat)(B:DD)(W:World):Prop:=∃s t r,P.R s/\Ew t P.X.sz/\t.k=P.k/\t.h=P.hh/\t.l=Dt P.on P.o s/\(F=Dc t/\N=Cu P.hh t.l.length/\C=t.l.length)/\Dr r/\Wd P.X (P.DK++[B]++U5 P.X.p x t P.X.sz::r) (P.m+P.a+Cu P.hh t.l.length) W
def VP.P6(P:VP)(x:Nat)(W:World):Prop:=¬P.X.cm/\∃q r m',((∃t,q=Yt P.X.p x t)\/∃t,q=I6 P.X.p x t P.X.sz/\Ew t P.X.sz)/\Dr r/\Wd P.X (P.DK++[P.bx 0 0 0 0]++q::r) m' W
def VP.P7(P:VP)(W:World):Prop:=¬P.X.cm/\∃r m',Dr r/\Wd P.X (P.DK++[P.bx 0 0 0 0]++r) m' W
section
variable{P:VP}{x:Nat}{W W':World}
theorem VP.P0.below(h:P.P0 W)(hb:Below W W W'):P.P0 W':=Wd.below h hb
theorem Na{B z}:(P.DK++[B]++z)[P.DK.length]?=AE B:=by rw[AR];exact DG P.DK _ 0
theorem dB{B q r}:(P.DK++[B]++q::r)[P.DK.length+1]?=AE q:=by
 have h:=DG (P.DK++[B]) (q::r) 0;rw[Aa]at h;exact h
theorem ZH{B q q' r}:(P.DK++[B]++q::r).set (P.DK.length+1) q'=P.DK++[B]++q'::r:=by
 rw[Ap _ _ (by rw[Aa];show P.DK.length+1<= _;omega),Aa];show _++(q::r).set (P.DK.length+1-(P.DK.length+1)) q'= _;rw[As];rfl
theorem ZK{B B' z}:(P.DK++[B]++z).set P.DK.length B'=P.DK++[B']++z:=by
 rw[AR,Ap _ _ ar,As,AR];rfl
theorem VP.P0.write(Lu:P.hh=Cw P.X.sz P.k)(Gt:0<P.hh)(O:P.bd<=100000)(I:P.X.sz+DF DD.gw P.DK<=P.X.rm)(h:P.P0 W):
  Calls AP 28 #[AI (AE ⟨P.X.p.w,0,AD⟩),P.k,P.bd] W λe w'=>(e=AH (AM #[AI AD,AA AB 5])/\(∀q,¬Rm P.X P.DK q (Cu P.hh P.bd))/\P.P0 w')\/(∃x,e=AH (AM #[AI (AE ⟨x,0,AD⟩),()])/\P.P1 x w'):=by
 have hg:DF DD.gw (P.DK++[P.bx 0 0 0 0])=DF DD.gw P.DK:=by rw[D9];rfl
 refine(OJ h P.k P.bd (by rw[<-Lu];exact Gt) O (by rw[hg];exact I)).mono ?_;rintro e w' (⟨he,U,Q⟩|⟨x,t,he,U,Q,h3,h4,h5,h6⟩)
 ·refine .inl ⟨he,λq hq=>U q λz FJ KU=>?_,Q⟩;rw[<-Lu]at KU;obtain⟨k1,k2⟩:=hq z FJ KU;refine⟨k1,λi a hi J=>?_⟩;rcases Hh hi with⟨_,e⟩|⟨_,e⟩
  ·rw[e]at J;exact DX _ _ J
  ·exact k2 i a e J
 ·exact .inr ⟨x,he,t,h5,U,by rw[Q,Lu],h3,h4,h6⟩
theorem bJ{t}(h:t.l=[]):Tc t []=t:=by
 unfold Tc;rw[<-h]
def VP.jM(P:VP)(fF:Nat)(fs:Array Value):Prop:=∀(x tT fP n:Nat) (vT:Value) (Z:List Cy->List DD) (W:World),o5 P.X P.o P.on P.k P.hh P.bd x tT fP vT Z n->Wd P.X (P.DK++[P.bx 0 0 0 0]++Z []) P.m W->
 Calls AP fF (#[.iface tT vT]++fs) W λe w'=>(e=AH ()/\∃s,P.R s/\s.length<=P.bd/\Wd P.X (P.DK++[P.bx 0 0 0 0]++Z s) (P.m+P.a+I9 P.on P.o P.hh s) w')\/(e=AH (AA AB 6)/\¬P.X.cm/\∃z m',Q6 P.X x P.bd n Z z/\Wd P.X (P.DK++[P.bx 0 0 0 0]++z) m' w')
theorem X7{fF tT fP n fs vT Z}(hF:P.jM fF fs)(hS:o5 P.X P.o P.on P.k P.hh P.bd x tT fP vT Z n)(h:Wd P.X (P.DK++[P.bx 0 0 0 0]++Z []) P.m W):
  Calls AP fF (#[.iface tT vT]++fs) W λe w'=>∃er,e=AH (AA AB er)/\((er=0/\P.P2 x w')\/(er=6/\P.P6 x w')):=by
 refine(hF x tT fP n vT Z W hS h).mono ?_;rintro e w' (⟨he,s,hR,I,hw⟩|⟨he,Fy,z,m',hz,hw⟩)
 ·obtain⟨t,r,Q,O,U,h3,h4,h5,J⟩:=hS.hd s I;rw[Q]at hw;exact⟨0,he,.inl ⟨rfl,s,t,r,hR,O,U,h3,h5,J,hw⟩⟩
 ·rcases hz with⟨s,I,rfl⟩|⟨t,r,rfl,hl,hb⟩
  ·obtain⟨t,r,Q,O,U,h3,h4,h5,J⟩:=hS.hd s I;rw[Q]at hw;exact⟨6,he,.inr ⟨rfl,Fy,_,r,m',.inr ⟨t,rfl,O⟩,J,hw⟩⟩
  ·exact⟨6,he,.inr ⟨rfl,Fy,_,r,m',.inl ⟨t,rfl⟩,hb,hw⟩⟩
theorem VP.P1.AK8{fF fs}(hF:P.jM fF fs)(I:P.on=false)(h:P.P1 x W):Calls AP fF (#[.iface 65 (AI x)]++fs) W λe w'=>∃er,e=AH (AA AB er)/\((er=0/\P.P2 x w')\/(er=6/\P.P6 x w')):=by
 obtain⟨t,Q,O,h3,h4,h5,J⟩:=h;have hS:=AE3 (X:=P.X) (o:=P.o) (x:=x) Q;rw[O,h3,h4,<-I]at hS;refine X7 hF hS ?_;show Wd P.X (P.DK++[P.bx 0 0 0 0]++[I6 P.X.p x (Tc t []) P.X.sz]) P.m W;rw[bJ h5];exact J
theorem VP.P1.AK7{fF f fs}(hF:P.jM fF fs)(J:P.on=true)(h:P.P1 x W)(hb:Below W.heap.size W W')(O:Row W' f 220 (MY x P.o false Cz))(hf:W.heap.size<=f):Calls AP fF (#[.iface 218 (AI f)]++fs) W' λe w'=>∃er,e=AH (AA AB er)/\((er=0/\P.P2 x w')\/(er=6/\P.P6 x w')):=by
 obtain⟨t,h1,U,h3,h4,h5,Q⟩:=h;have hS:=AE4 (X:=P.X) (o:=P.o) (x:=x) (f:=f) h1;rw[U,h3,h4,<-J]at hS;refine X7 hF hS ?_;have I:=Q.new hb O hf;show Wd P.X (P.DK++[P.bx 0 0 0 0]++[I6 P.X.p x (Tc t []) P.X.sz,Cv f 220 (Vw x P.o [])]) P.m W';rw[bJ h5];rw[AR]at I;exact I
theorem VP.P2.close(h:P.P2 x W)(Q:∀s,P.R s->P.X.N+(P.m+P.a+I9 P.on P.o P.hh s)<1000000):
  Calls AP 31 #[AI x] W λe w'=>(∃F N C:Nat,e=AH (AM #[AL #[F,N,P.k,C],()])/\P.P3 x F N C (P.bx 0 0 0 0) w')\/(e=AH (AM #[AL #[(),(),(),()],AA AB 6])/\P.P6 x w'):=by
 obtain⟨s,t,r,hR,O,J,h3,h4,h5,h6⟩:=h;refine(ON h6 dB O (Q s hR)).mono ?_;rintro e w' (⟨he,I⟩|⟨he,Fy,I⟩)
 ·rw[ZH]at I;refine .inl ⟨Dc t,Cu t.h t.l.length,t.l.length,by rw[he,J];rfl,s,t,r,hR,O,J,h3,h4,⟨rfl,by rw[h3],rfl⟩,h5,?_⟩;have hle:t.l.length/t.h<=Cu t.h t.l.length:=by unfold Cu;split<;>omega
  have U:I9 P.on P.o P.hh s=t.l.length/t.h:=by unfold I9;rw[h4,h3]
  rw[U]at I;rw[show P.m+P.a+t.l.length/t.h+(Cu t.h t.l.length-t.l.length/t.h)=P.m+P.a+Cu t.h t.l.length by omega,h3]at I;exact I
 ·rw[ZH]at I;exact .inr ⟨he,Fy,_,r,_,.inl ⟨t,rfl⟩,h5,I⟩
theorem VP.P3.drop{F N C B}(u:Bf)(h:P.P3 x F N C B W):CallsD AP 29 #[AI x] u W λe I w'=>I=u/\(e=AH (AM #[])/\P.P3 x F N C B w'):=by
 obtain⟨s,t,r,hR,h1,U,h3,h4,h5,Q,J⟩:=h;have O:Nc W x P.X.p t:=J.at_ dB;refine(FG O u).mono ?_;rintro e I w' ⟨hu,he,hw⟩;exact⟨hu,he,s,t,r,hR,h1,U,h3,h4,h5,Q,by rw[hw];exact J⟩
theorem VP.P6.drop(u:Bf)(h:P.P6 x W):CallsD AP 29 #[AI x] u W λe J w'=>J=u/\(e=AH (AM #[])/\P.P7 w'):=by
 obtain⟨O,q,r,m',Q,hb,hw⟩:=h;rcases Q with⟨t,rfl⟩|⟨t,rfl,ht⟩
 ·have U:Nc W x P.X.p t:=hw.at_ dB;refine(FG U u).mono ?_;rintro e J w' ⟨hu,he,I⟩;exact⟨hu,he,O,_,m',DI ⟨rfl,rfl⟩ hb,by rw[I];exact hw⟩
 ·refine(U8 hw dB ht u).mono ?_;rintro e J w' ⟨hu,he,I⟩;rw[ZH]at I;exact⟨hu,he,O,_,m',DI ⟨rfl,rfl⟩ hb,I⟩
theorem Ij{W b c0 c1 c2 c3}{F N k C:Nat}(e:Row W b 28 [c0,c1,c2,c3]):Row ((((W.setCell b F).setCell (b,1) N).setCell (b,2) k).setCell (b,3) C) b 28 [F,N,k,C]/\
  DJ (λk=>k=b) W ((((W.setCell b F).setCell (b,1) N).setCell (b,2) k).setCell (b,3) C):=
 ⟨(((e.set 0 _).set 1 _).set 2 _).set 3 _,((((DJ.refl (λk=>k=b) W).set (p:=⟨b,0,AD⟩) (.inl rfl) _).set (p:=⟨b,1,AD⟩) (.inl rfl) _).set (p:=⟨b,2,AD⟩) (.inl rfl) _).set (p:=⟨b,3,AD⟩) (.inl rfl) _⟩
theorem VP.P3.store{F N C}(h:P.P3 x F N C (P.bx 0 0 0 0) W)(hw:W'=((((W.setCell P.ob F).setCell (P.ob,1) N).setCell (P.ob,2) P.k).setCell (P.ob,3) C)):P.P3 x F N C (P.bx F N P.k C) W':=by
 obtain⟨s,t,r,hR,h1,U,h3,h4,h5,Q,I⟩:=h;obtain⟨O,J⟩:=Ij (F:=F) (N:=N) (k:=P.k) (C:=C) (I.row Na);have e:=I.KN Na a6 J O;rw[ZK]at e;subst hw;exact⟨s,t,r,hR,h1,U,h3,h4,h5,Q,e⟩
theorem VP.P6.store(h:P.P6 x W)(hw:W'=((((W.setCell P.ob ()).setCell (P.ob,1) ()).setCell (P.ob,2) ()).setCell (P.ob,3) ())):P.P6 x W':=by
 obtain⟨U,q,r,m',Q,hb,I⟩:=h;obtain⟨O,J⟩:=Ij (F:=0) (N:=0) (k:=0) (C:=0) (I.row Na);have e:=I.KN Na a6 J O;rw[ZK]at e;subst hw;exact⟨U,q,r,m',Q,hb,e⟩
theorem VP.P0.store(h:P.P0 W)(hw:W'=((((W.setCell P.ob ()).setCell (P.ob,1) ()).setCell (P.ob,2) ()).setCell (P.ob,3) ())):P.P0 W':=by
 have I:Wd P.X (P.DK++[P.bx 0 0 0 0]++[]) P.m W:=by rw[AY];exact h
 obtain⟨O,J⟩:=Ij (F:=0) (N:=0) (k:=0) (C:=0) (I.row Na);have e:=I.KN Na a6 J O;rw[ZK,AY]at e;subst hw;exact e
end
section
variable{P:VP}{W:World}{js sb rb Dn fF:Nat}{once UR:Bool}{fs:Array Value}
theorem UB(Qr:P.DK[js]?=AE (Cv sb 193 (Ep P.X.p.w P.k P.hh rb Dn P.o once P.bd)))(gM:(UR&&once)=P.on)(hF:P.jM fF fs)(eF:∀args w,Bu AP (callFunc fF args) w=.ok (.enter fF args) w)
  (Lu:P.hh=Cw P.X.sz P.k)(Gt:0<P.hh)(az:P.bd<=100000)(ao:P.X.sz+DF DD.gw P.DK<=P.X.rm)(hn:∀s,P.R s->P.X.N+(P.m+P.a+I9 P.on P.o P.hh s)<1000000)(av:W=P.ob)(h:Wd P.X P.DK P.m W):
  Calls AP 139 #[AI sb,UR,.func (.func fF) #[] fs] W λe w'=>
   (e=AH (AM #[AL #[(),(),(),()],AA AB 5])/\(∀q,¬Rm P.X P.DK q (Cu P.hh P.bd))/\Wd P.X P.DK P.m w')\/
   (∃x F N C:Nat,e=AH (AM #[AL #[F,N,P.k,C],()])/\∃s t,P.R s/\Ew t P.X.sz/\t.k=P.k/\t.h=P.hh/\t.l=Dt P.on P.o s/\(F=Dc t/\N=Cu P.hh t.l.length/\C=t.l.length)/\Wd P.X (P.DK++[U5 P.X.p x t P.X.sz]) (P.m+P.a+Cu P.hh t.l.length) w')\/
   (e=AH (AM #[AL #[(),(),(),()],AA AB 6])/\¬P.X.cm/\∃m',Wd P.X P.DK m' w'):=by
 obtain⟨W1,EJ⟩:=ae (W.alloc (AK #[(),(),(),()] 28));have Dg:Below W W W1:=by rw[EJ];exact(AS _ _).alloc ar _
 have Et:Row W1 P.ob 28 [(),(),(),()]:=by rw[EJ,<-av];exact heap_alloc_new _ _
 have h1:P.P0 W1:=h.new Dg Et (by rw[av];exact AQ _);have Ym:Hid (∀(z:List DD) m W,Wd P.X (P.DK++z) m W->Row W sb 193 (Ep P.X.p.w P.k P.hh rb Dn P.o once P.bd)):=λz m W h=>h.row (Dj Qr);have NP:Hid (∀W,P.P0 W->Row W sb 193 (Ep P.X.p.w P.k P.hh rb Dn P.o once P.bd)):=λW h=>Ym.out _ _ _ h;have Ka:Hid (∀x W,P.P1 x W->Row W sb 193 (Ep P.X.p.w P.k P.hh rb Dn P.o once P.bd)):=λx W ⟨t,_,_,_,_,_,h⟩=>by rw[AR]at h;exact Ym.out _ _ _ h
 have OC:Hid (∀W,P.P0 W->Row W P.ob 28 [(),(),(),()]):=λW h=>by
  have h7:Wd P.X (P.DK++[P.bx 0 0 0 0]++[]) P.m W:=by rw[AY];exact h
  exact h7.row Na
 have Ei:Hid (∀x F N C B cs W,B=Cv P.ob 28 cs->P.P3 x F N C B W->Row W P.ob 28 cs):=λx F N C B cs W hB ⟨s,t,r,_,_,_,_,_,_,_,h⟩=>by
  rw[hB]at h;exact h.row Na
 have PJ:Hid (∀x W,P.P6 x W->Row W P.ob 28 [(),(),(),()]):=λx W ⟨_,q,r,m',_,_,h⟩=>h.row Na;have dR:Hid (∀W,P.P7 W->Row W P.ob 28 [(),(),(),()]):=λW ⟨_,r,m',_,h⟩=>h.row Na;have T3:Hid (Calls AP 28 #[AI (AE ⟨P.X.p.w,0,AD⟩),AA AB P.k,AA AB P.bd] W1.drew λe w'=>∃v er,e=AH (AM #[AI v,AA AB er])/\((v=AD/\er=5/\(∀q,¬Rm P.X P.DK q (Cu P.hh P.bd))/\P.P0 w')\/∃x,v=AE ⟨x,0,AD⟩/\er=0/\P.P1 x w')/\Row w' sb 193 (Ep P.X.p.w P.k P.hh rb Dn P.o once P.bd)):=by
  refine(VP.P0.write (W:=W1.drew) Lu Gt az ao (h1.below (DC (AS _ _)))).mono ?_;rintro e w' (⟨he,h2,h3⟩|⟨x,he,h2⟩)
  ·exact⟨AD,5,he,.inl ⟨rfl,rfl,h2,h3⟩,NP.out _ h3⟩
  ·exact⟨_,0,he,.inr ⟨x,rfl,rfl,h2⟩,Ka.out _ _ h2⟩
 have aB:Hid (∀x W,P.on=false->P.P1 x W->Calls AP fF (#[.iface 65 (AI (AE ⟨x,0,AD⟩))]++fs) W λe w'=>∃er,e=AH (AA AB er)/\((er=0/\P.P2 x w')\/(er=6/\P.P6 x w'))):=λx W ho h=>h.AK8 hF ho;have aA:Hid (∀x W,P.on=true->P.P1 x W->Calls AP fF (#[.iface 218 (AI (AE ⟨W.heap.size,0,AD⟩))]++fs) (W.alloc (.cells (MY x P.o false Cz).toArray 220)) λe w'=>∃er,e=AH (AA AB er)/\((er=0/\P.P2 x w')\/(er=6/\P.P6 x w'))):=λx W ho h=>h.AK7 hF ho ((AS _ _).alloc ar _) (heap_alloc_new _ _) ar;have jF:Hid (∀x W,P.P2 x W->Calls AP 31 #[AI x] W λe w'=>(∃F N C:Nat,e=AH (AM #[AL #[F,N,P.k,C],()])/\P.P3 x F N C (P.bx 0 0 0 0) w')\/(e=AH (AM #[AL #[(),(),(),()],AA AB 6])/\P.P6 x w')):=λx W h=>h.close hn;have aw:Hid (∀x F N C B u W,P.P3 x F N C B W->CallsD AP 29 #[AI x] u W λe u' w'=>u'=u/\(e=AH (AM #[])/\P.P3 x F N C B w')):=λx F N C B u W h=>h.drop u;have yA:Hid (∀x u W,P.P6 x W->CallsD AP 29 #[AI x] u W λe u' w'=>u'=u/\(e=AH (AM #[])/\P.P7 w')):=λx u W h=>h.drop u;have dJ:Hid (∀x F N C W,P.P3 x F N C (P.bx 0 0 0 0) W->P.P3 x F N C (P.bx F N P.k C) ((((W.setCell P.ob F).setCell (P.ob,1) N).setCell (P.ob,2) P.k).setCell (P.ob,3) C)):=λx F N C W h=>h.store rfl;have aq:Hid (∀x W,P.P6 x W->P.P6 x ((((W.setCell P.ob ()).setCell (P.ob,1) ()).setCell (P.ob,2) ()).setCell (P.ob,3) ())):=λx W h=>h.store rfl;have Tl:Hid (∀W,P.P0 W->P.P0 ((((W.setCell P.ob ()).setCell (P.ob,1) ()).setCell (P.ob,2) ()).setCell (P.ob,3) ())):=λW h=>h.store rfl;have aD:Hid (∀W,P.P0 W->Wd P.X P.DK P.m W):=λW h=>Wd.forget h (DI (Hg _ _ _) Eb);have pe:Hid (∀x F N C W,P.P3 x F N C (P.bx F N P.k C) W->∃s t,P.R s/\Ew t P.X.sz/\t.k=P.k/\t.h=P.hh/\t.l=Dt P.on P.o s/\(F=Dc t/\N=Cu P.hh t.l.length/\C=t.l.length)/\Wd P.X (P.DK++[U5 P.X.p x t P.X.sz]) (P.m+P.a+Cu P.hh t.l.length) W):=λx F N C W ⟨s,t,r,h1,h2,h3,h4,h5,h6,h7,h8⟩=>by
  have O:Wd P.X (P.DK++P.bx F N P.k C::([U5 P.X.p x t P.X.sz]++r)) (P.m+P.a+Cu P.hh t.l.length) W:=by rw[AR]at h8;exact h8
  have OH:=O.cut rfl rfl;rw[<-AR]at OH;exact⟨s,t,h1,h2,h3,h4,h5,h6,OH.forget h7⟩
 have au:Hid (∀W,P.P7 W->¬P.X.cm/\∃m',Wd P.X P.DK m' W):=λW ⟨Fy,r,m',hb,h⟩=>by
  have O:Wd P.X (P.DK++P.bx 0 0 0 0::r) m' W:=by rw[AR]at h;exact h
  exact⟨Fy,m',(O.cut rfl rfl).forget hb⟩
 have pJ:=AO (NP.out _ (h1.below (DC (AS _ _))));have FQ:=AO EJ;have wN:=AO gM;have Nw:Hid (∀F N C:Nat,P.bx F N P.k C=Cv P.ob 28 [AA AB (F:Nat),AA AB (N:Nat),AA AB (P.k:Nat),AA AB (C:Nat)]):=λ_ _ _=>rfl;clear EJ Dg Et h hF Lu Gt ao hn Ym Qr gM;go_enter_defers func139,ntmps139
 go_upto_region 1 with(fail)
 rw[<-FQ.out];clear FQ;have a4:W1.drew.cell? (sb,4)=AE (AI P.X.p.w):=pJ.out.cell 4;obtain⟨a0,-,-,-,-,-,-,-,-,-,-,ax⟩:=pJ.out.q12;clear h1 pJ av;go_region_held3 (λw'=>w'.cell? (sb,4)=AE (AI P.X.p.w)/\w'.cell? sb=AE (AA AB P.k)/\w'.cell? (sb,11)=AE (AA AB P.bd)) (first|with_reducible exact⟨a4,a0,ax⟩|with_reducible exact q2)
  ((go_at_call 28;(with_reducible refine T3.out.mono ?_);rintro e w2 ⟨v,er,rfl,h2,EC⟩;obtain⟨H2,q2⟩:Hid ((v=AD/\er=5/\(∀q,¬Rm P.X P.DK q (Cu P.hh P.bd))/\P.P0 w2)\/∃x,v=AE ⟨x,0,AD⟩/\er=0/\P.P1 x w2)/\(w2.cell? ⟨sb,4,AD⟩=AE (AI (AE ⟨P.X.p.w,0,AD⟩))/\w2.cell? ⟨sb,0,AD⟩=AE (AA AB P.k)/\w2.cell? ⟨sb,11,AD⟩=AE (AA AB P.bd)):=⟨h2,EC.cell 4,EC.cell 0,EC.cell 11⟩))
 clear a4 a0 ax q2 h2 EC T3;rcases H2.out with⟨rfl,rfl,ML,h2⟩|⟨x,rfl,rfl,h2⟩
 ·generalize w2=I at*
  have J:=OC.out I h2;have g9:I.cell? P.ob=AE (AA AB 0)/\I.cell? (P.ob,1)=AE (AA AB 0)/\I.cell? (P.ob,2)=AE (AA AB 0)/\I.cell? (P.ob,3)=AE (AA AB 0):=⟨J.cell 0,J.cell 1,J.cell 2,J.cell 3⟩;have f9:I.frozen? P.ob=false/\I.frozen? (P.ob,1)=false/\I.frozen? (P.ob,2)=false/\I.frozen? (P.ob,3)=false:=⟨J.free 0,J.free 1,J.free 2,J.free 3⟩;obtain⟨uN,uM,uL,uK⟩:=g9;obtain⟨an,al,ad,ab⟩:=f9;have H9:=AO (Tl.out I h2);have aC:=AO ML;clear h2 J H2 ML;go_wp2
  generalize((((I.setCell P.ob ()).setCell (P.ob,1) ()).setCell (P.ob,2) ()).setCell (P.ob,3) ())=Lf at*
  have WM:=OC.out Lf H9.out;obtain⟨q0,q1,q2,q3⟩:=WM.q4;exact⟨AM #[AL #[(),(),(),()],AA AB 5],by simp[results,Cc,go_sem,q0,q1,q2,q3],.inl ⟨rfl,aC.out,aD.out Lf H9.out⟩⟩
 ·have dN:=AO h2;have aE:w2.cell? ⟨sb,10,AD⟩=AE (.bool once):=(Ka.out x w2 h2).cell 10;have o0:w2.cell? ⟨sb,5,AD⟩=AE (AA AB P.o.a):=(Ka.out x w2 h2).cell 5;have o1:w2.cell? ⟨sb,6,AD⟩=AE (AA AB P.o.b):=(Ka.out x w2 h2).cell 6;have o2:w2.cell? ⟨sb,7,AD⟩=AE (AA AB P.o.c):=(Ka.out x w2 h2).cell 7;have o3:w2.cell? ⟨sb,8,AD⟩=AE (AA AB P.o.d):=(Ka.out x w2 h2).cell 8;have o4:w2.cell? ⟨sb,9,AD⟩=AE (AA AB P.o.e):=(Ka.out x w2 h2).cell 9;clear h2 H2;have aR:Hid (∀w3 er,((er=0/\P.P2 x w3)\/(er=6/\P.P6 x w3))->True):=λ_ _ _=>trivial;by_cases zQ:P.on=true
  ·have h3:UR=true/\once=true:=by have:=wN.out;rw[zQ]at this;simpa using this
   obtain⟨rfl,rfl⟩:=h3;have HG:=AO (aA.out x w2 zQ dN.out);go_wp2_with fail
   refine HG.out.mono ?_;rintro e w8 ⟨er,rfl,h8⟩;rcases h8 with⟨rfl,O⟩|⟨rfl,O⟩
   ·have GR:=AO (jF.out x w8 O);clear O HG;go_wp2_with fail
    refine GR.out.mono ?_;rintro e I (⟨F,N,C,rfl,O⟩|⟨rfl,O⟩)
    ·clear GR;have J:=Ei.out x F N C _ _ I rfl O;have g9:I.cell? P.ob=AE (AA AB 0)/\I.cell? (P.ob,1)=AE (AA AB 0)/\I.cell? (P.ob,2)=AE (AA AB 0)/\I.cell? (P.ob,3)=AE (AA AB 0):=⟨J.cell 0,J.cell 1,J.cell 2,J.cell 3⟩;have f9:I.frozen? P.ob=false/\I.frozen? (P.ob,1)=false/\I.frozen? (P.ob,2)=false/\I.frozen? (P.ob,3)=false:=⟨J.free 0,J.free 1,J.free 2,J.free 3⟩;obtain⟨uN,uM,uL,uK⟩:=g9;obtain⟨an,al,ad,ab⟩:=f9;have H9:=AO (dJ.out x F N C I O);clear O J;go_wp2
     generalize((((I.setCell P.ob F).setCell (P.ob,1) N).setCell (P.ob,2) P.k).setCell (P.ob,3) C)=Lf at*
     refine A6 (f:=29) (args:=#[AI x]) a8 (by simp[go_sem]) ?_;refine(aw.out x F N C _ _ _ H9.out).mono ?_;rintro e u1 U ⟨rfl,rfl,Q⟩;have WM:=Ei.out x F N C _ _ U (Nw.out F N C) Q;obtain⟨q0,q1,q2,q3⟩:=WM.q4;refine⟨AM #[AL #[F,N,P.k,C],()],by simp[results,Cc,go_sem,q0,q1,q2,q3],?_⟩;exact .inr (.inl ⟨x,F,N,C,rfl,pe.out x F N C U Q⟩)
    ·clear GR;have J:=PJ.out x I O;have g9:I.cell? P.ob=AE (AA AB 0)/\I.cell? (P.ob,1)=AE (AA AB 0)/\I.cell? (P.ob,2)=AE (AA AB 0)/\I.cell? (P.ob,3)=AE (AA AB 0):=⟨J.cell 0,J.cell 1,J.cell 2,J.cell 3⟩;have f9:I.frozen? P.ob=false/\I.frozen? (P.ob,1)=false/\I.frozen? (P.ob,2)=false/\I.frozen? (P.ob,3)=false:=⟨J.free 0,J.free 1,J.free 2,J.free 3⟩;obtain⟨uN,uM,uL,uK⟩:=g9;obtain⟨an,al,ad,ab⟩:=f9;have H9:=AO (aq.out x I O);clear O J;go_wp2
     generalize((((I.setCell P.ob ()).setCell (P.ob,1) ()).setCell (P.ob,2) ()).setCell (P.ob,3) ())=Lf at*
     refine A6 (f:=29) (args:=#[AI x]) a8 (by simp[go_sem]) ?_;refine(yA.out x _ _ H9.out).mono ?_;rintro e u1 U ⟨rfl,rfl,Q⟩;have WM:=dR.out U Q;obtain⟨q0,q1,q2,q3⟩:=WM.q4;refine⟨AM #[AL #[(),(),(),()],AA AB 6],by simp[results,Cc,go_sem,q0,q1,q2,q3],?_⟩;exact .inr (.inr ⟨rfl,au.out U Q⟩)
   ·clear HG;generalize w8=I at*
    have J:=PJ.out x I O;have g9:I.cell? P.ob=AE (AA AB 0)/\I.cell? (P.ob,1)=AE (AA AB 0)/\I.cell? (P.ob,2)=AE (AA AB 0)/\I.cell? (P.ob,3)=AE (AA AB 0):=⟨J.cell 0,J.cell 1,J.cell 2,J.cell 3⟩;have f9:I.frozen? P.ob=false/\I.frozen? (P.ob,1)=false/\I.frozen? (P.ob,2)=false/\I.frozen? (P.ob,3)=false:=⟨J.free 0,J.free 1,J.free 2,J.free 3⟩;obtain⟨uN,uM,uL,uK⟩:=g9;obtain⟨an,al,ad,ab⟩:=f9;have H9:=AO (aq.out x I O);clear O J;go_wp2
    generalize((((I.setCell P.ob ()).setCell (P.ob,1) ()).setCell (P.ob,2) ()).setCell (P.ob,3) ())=Lf at*
    refine A6 (f:=29) (args:=#[AI x]) a8 (by simp[go_sem]) ?_;refine(yA.out x _ _ H9.out).mono ?_;rintro e u1 U ⟨rfl,rfl,Q⟩;have WM:=dR.out U Q;obtain⟨q0,q1,q2,q3⟩:=WM.q4;refine⟨AM #[AL #[AA AB 0,AA AB 0,AA AB 0,AA AB 0],AA AB 6],by simp[results,Cc,go_sem,q0,q1,q2,q3],?_⟩;exact .inr (.inr ⟨rfl,au.out U Q⟩)
  ·have ay:P.on=false:=by simpa using zQ
   have HG:=AO (aB.out x w2 ay dN.out)
   cases UR
   ·go_wp2_with fail
    refine HG.out.mono ?_;rintro e w8 ⟨er,rfl,h8⟩;rcases h8 with⟨rfl,O⟩|⟨rfl,O⟩
    ·have GR:=AO (jF.out x w8 O);clear O HG;go_wp2_with fail
     refine GR.out.mono ?_;rintro e I (⟨F,N,C,rfl,O⟩|⟨rfl,O⟩)
     ·clear GR;have J:=Ei.out x F N C _ _ I rfl O;have g9:I.cell? P.ob=AE (AA AB 0)/\I.cell? (P.ob,1)=AE (AA AB 0)/\I.cell? (P.ob,2)=AE (AA AB 0)/\I.cell? (P.ob,3)=AE (AA AB 0):=⟨J.cell 0,J.cell 1,J.cell 2,J.cell 3⟩;have f9:I.frozen? P.ob=false/\I.frozen? (P.ob,1)=false/\I.frozen? (P.ob,2)=false/\I.frozen? (P.ob,3)=false:=⟨J.free 0,J.free 1,J.free 2,J.free 3⟩;obtain⟨uN,uM,uL,uK⟩:=g9;obtain⟨an,al,ad,ab⟩:=f9;have H9:=AO (dJ.out x F N C I O);clear O J;go_wp2
      generalize((((I.setCell P.ob F).setCell (P.ob,1) N).setCell (P.ob,2) P.k).setCell (P.ob,3) C)=Lf at*
      refine A6 (f:=29) (args:=#[AI x]) a8 (by simp[go_sem]) ?_;refine(aw.out x F N C _ _ _ H9.out).mono ?_;rintro e u1 U ⟨rfl,rfl,Q⟩;have WM:=Ei.out x F N C _ _ U (Nw.out F N C) Q;obtain⟨q0,q1,q2,q3⟩:=WM.q4;refine⟨AM #[AL #[F,N,P.k,C],()],by simp[results,Cc,go_sem,q0,q1,q2,q3],?_⟩;exact .inr (.inl ⟨x,F,N,C,rfl,pe.out x F N C U Q⟩)
     ·clear GR;have J:=PJ.out x I O;have g9:I.cell? P.ob=AE (AA AB 0)/\I.cell? (P.ob,1)=AE (AA AB 0)/\I.cell? (P.ob,2)=AE (AA AB 0)/\I.cell? (P.ob,3)=AE (AA AB 0):=⟨J.cell 0,J.cell 1,J.cell 2,J.cell 3⟩;have f9:I.frozen? P.ob=false/\I.frozen? (P.ob,1)=false/\I.frozen? (P.ob,2)=false/\I.frozen? (P.ob,3)=false:=⟨J.free 0,J.free 1,J.free 2,J.free 3⟩;obtain⟨uN,uM,uL,uK⟩:=g9;obtain⟨an,al,ad,ab⟩:=f9;have H9:=AO (aq.out x I O);clear O J;go_wp2
      generalize((((I.setCell P.ob ()).setCell (P.ob,1) ()).setCell (P.ob,2) ()).setCell (P.ob,3) ())=Lf at*
      refine A6 (f:=29) (args:=#[AI x]) a8 (by simp[go_sem]) ?_;refine(yA.out x _ _ H9.out).mono ?_;rintro e u1 U ⟨rfl,rfl,Q⟩;have WM:=dR.out U Q;obtain⟨q0,q1,q2,q3⟩:=WM.q4;refine⟨AM #[AL #[(),(),(),()],AA AB 6],by simp[results,Cc,go_sem,q0,q1,q2,q3],?_⟩;exact .inr (.inr ⟨rfl,au.out U Q⟩)
    ·clear HG;generalize w8=I at*
     have J:=PJ.out x I O;have g9:I.cell? P.ob=AE (AA AB 0)/\I.cell? (P.ob,1)=AE (AA AB 0)/\I.cell? (P.ob,2)=AE (AA AB 0)/\I.cell? (P.ob,3)=AE (AA AB 0):=⟨J.cell 0,J.cell 1,J.cell 2,J.cell 3⟩;have f9:I.frozen? P.ob=false/\I.frozen? (P.ob,1)=false/\I.frozen? (P.ob,2)=false/\I.frozen? (P.ob,3)=false:=⟨J.free 0,J.free 1,J.free 2,J.free 3⟩;obtain⟨uN,uM,uL,uK⟩:=g9;obtain⟨an,al,ad,ab⟩:=f9;have H9:=AO (aq.out x I O);clear O J;go_wp2
     generalize((((I.setCell P.ob ()).setCell (P.ob,1) ()).setCell (P.ob,2) ()).setCell (P.ob,3) ())=Lf at*
     refine A6 (f:=29) (args:=#[AI x]) a8 (by simp[go_sem]) ?_;refine(yA.out x _ _ H9.out).mono ?_;rintro e u1 U ⟨rfl,rfl,Q⟩;have WM:=dR.out U Q;obtain⟨q0,q1,q2,q3⟩:=WM.q4;refine⟨AM #[AL #[(),(),(),()],AA AB 6],by simp[results,Cc,go_sem,q0,q1,q2,q3],?_⟩;exact .inr (.inr ⟨rfl,au.out U Q⟩)
   ·have h3:once=false:=by have:=wN.out;rw[ay]at this;simpa using this
    subst h3;go_wp2_with fail
    refine HG.out.mono ?_;rintro e w8 ⟨er,rfl,h8⟩;rcases h8 with⟨rfl,O⟩|⟨rfl,O⟩
    ·have GR:=AO (jF.out x w8 O);clear O HG;go_wp2_with fail
     refine GR.out.mono ?_;rintro e I (⟨F,N,C,rfl,O⟩|⟨rfl,O⟩)
     ·clear GR;have J:=Ei.out x F N C _ _ I rfl O;have g9:I.cell? P.ob=AE (AA AB 0)/\I.cell? (P.ob,1)=AE (AA AB 0)/\I.cell? (P.ob,2)=AE (AA AB 0)/\I.cell? (P.ob,3)=AE (AA AB 0):=⟨J.cell 0,J.cell 1,J.cell 2,J.cell 3⟩;have f9:I.frozen? P.ob=false/\I.frozen? (P.ob,1)=false/\I.frozen? (P.ob,2)=false/\I.frozen? (P.ob,3)=false:=⟨J.free 0,J.free 1,J.free 2,J.free 3⟩;obtain⟨uN,uM,uL,uK⟩:=g9;obtain⟨an,al,ad,ab⟩:=f9;have H9:=AO (dJ.out x F N C I O);clear O J;go_wp2
      generalize((((I.setCell P.ob F).setCell (P.ob,1) N).setCell (P.ob,2) P.k).setCell (P.ob,3) C)=Lf at*
      refine A6 (f:=29) (args:=#[AI x]) a8 (by simp[go_sem]) ?_;refine(aw.out x F N C _ _ _ H9.out).mono ?_;rintro e u1 U ⟨rfl,rfl,Q⟩;have WM:=Ei.out x F N C _ _ U (Nw.out F N C) Q;obtain⟨q0,q1,q2,q3⟩:=WM.q4;refine⟨AM #[AL #[F,N,P.k,C],()],by simp[results,Cc,go_sem,q0,q1,q2,q3],?_⟩;exact .inr (.inl ⟨x,F,N,C,rfl,pe.out x F N C U Q⟩)
     ·clear GR;have J:=PJ.out x I O;have g9:I.cell? P.ob=AE (AA AB 0)/\I.cell? (P.ob,1)=AE (AA AB 0)/\I.cell? (P.ob,2)=AE (AA AB 0)/\I.cell? (P.ob,3)=AE (AA AB 0):=⟨J.cell 0,J.cell 1,J.cell 2,J.cell 3⟩;have f9:I.frozen? P.ob=false/\I.frozen? (P.ob,1)=false/\I.frozen? (P.ob,2)=false/\I.frozen? (P.ob,3)=false:=⟨J.free 0,J.free 1,J.free 2,J.free 3⟩;obtain⟨uN,uM,uL,uK⟩:=g9;obtain⟨an,al,ad,ab⟩:=f9;have H9:=AO (aq.out x I O);clear O J;go_wp2
      generalize((((I.setCell P.ob ()).setCell (P.ob,1) ()).setCell (P.ob,2) ()).setCell (P.ob,3) ())=Lf at*
      refine A6 (f:=29) (args:=#[AI x]) a8 (by simp[go_sem]) ?_;refine(yA.out x _ _ H9.out).mono ?_;rintro e u1 U ⟨rfl,rfl,Q⟩;have WM:=dR.out U Q;obtain⟨q0,q1,q2,q3⟩:=WM.q4;refine⟨AM #[AL #[(),(),(),()],AA AB 6],by simp[results,Cc,go_sem,q0,q1,q2,q3],?_⟩;exact .inr (.inr ⟨rfl,au.out U Q⟩)
    ·clear HG;generalize w8=I at*
     have J:=PJ.out x I O;have g9:I.cell? P.ob=AE (AA AB 0)/\I.cell? (P.ob,1)=AE (AA AB 0)/\I.cell? (P.ob,2)=AE (AA AB 0)/\I.cell? (P.ob,3)=AE (AA AB 0):=⟨J.cell 0,J.cell 1,J.cell 2,J.cell 3⟩;have f9:I.frozen? P.ob=false/\I.frozen? (P.ob,1)=false/\I.frozen? (P.ob,2)=false/\I.frozen? (P.ob,3)=false:=⟨J.free 0,J.free 1,J.free 2,J.free 3⟩;obtain⟨uN,uM,uL,uK⟩:=g9;obtain⟨an,al,ad,ab⟩:=f9;have H9:=AO (aq.out x I O);clear O J;go_wp2
     generalize((((I.setCell P.ob ()).setCell (P.ob,1) ()).setCell (P.ob,2) ()).setCell (P.ob,3) ())=Lf at*
     refine A6 (f:=29) (args:=#[AI x]) a8 (by simp[go_sem]) ?_;refine(yA.out x _ _ H9.out).mono ?_;rintro e u1 U ⟨rfl,rfl,Q⟩;have WM:=dR.out U Q;obtain⟨q0,q1,q2,q3⟩:=WM.q4;refine⟨AM #[AL #[(),(),(),()],AA AB 6],by simp[results,Cc,go_sem,q0,q1,q2,q3],?_⟩;exact .inr (.inr ⟨rfl,au.out U Q⟩)
end
structure SP where
 X:Cx
 DK:List DD
 sb:Nat
 rb:Nat
 Dn:Nat
 o:Cy
 once:Bool
 k:Nat
 hh:Nat
 first:Nat
 nb:Nat
 count:Nat
 l:List Cy
 m:Nat
 b2:Nat
 b3:Nat
 b4:Nat
 b6:Nat
 b7:Nat
def DM(b F N k C:Nat):DD:=Cv b 28 [F,N,k,C]
def SP.bs(P:SP)(q:Nat):List DD:=[Cv P.b2 188 [AI P.sb],DM P.b3 P.first P.nb P.k P.count,DM P.b4 0 0 0 0,Cv P.b6 3 [q]]
structure SP.Ok (P:SP) (js:Nat):Prop where
 row:P.DK[js]?=AE (Cv P.sb 193 (Ep P.X.p.w P.k P.hh P.rb P.Dn P.o P.once P.count))
 f:Gh P.first P.nb P.k P.hh P.l P.X.sz
 c:P.l.length=P.count
 src:Src P.DK P.X.sz P.first P.k P.hh P.l
 rb:0<P.rb/\P.rb<=100000
 Dn:2<=P.Dn/\P.Dn<=1000000
 room1:DF DD.gw P.DK+2*P.X.sz+P.rb*P.hh*P.k<=P.X.rm
 room2:DF DD.gw P.DK+P.X.sz+P.Dn*P.k+P.Dn*P.X.sz<=P.X.rm
 rm:P.X.rm<=1000000
 n:P.X.N+P.m+40*P.nb+3*P.count+10<=1000000
 prod:P.nb*P.Dn<=100000000
structure SP.Sd (P:SP) (q i:Nat) (l':List Cy) (m':Nat):Prop where
 pw:2^i<=q
 ib:i=0\/2^(i-1)<P.nb
 m:m'<=P.m+2*P.nb*(1+i)
 kind:(q<P.nb/\l'.length=P.count/\Yo P.o (q*P.hh) l'/\Cl P.o P.l l')\/(P.nb<=q/\∃s,ND P.o s/\Cl P.o P.l s/\l'=Dt P.once P.o s)
def SP.A(P:SP)(q i F N C:Nat)(W:World):Prop:=∃l' m',P.Sd q i l' m'/\Gh F N P.k P.hh l' P.X.sz/\C=l'.length/\Wd P.X (P.DK++P.bs q++[De F N P.k P.hh l' P.X.sz,DM P.b7 F N P.k C]) m' W
def SP.Jt(P:SP)(er:Int):Prop:=(er=5/\∀z,¬Rm P.X P.DK z (3*P.nb))\/(er=6/\¬P.X.cm)
def SP.E(P:SP)(er:Int)(q:Nat)(W:World):Prop:=P.Jt er/\∃m',Wd P.X (P.DK++P.bs q++[DM P.b7 0 0 0 0]) m' W
section
variable{P:SP}{q i js:Nat}{W W':World}{X:Cx}{os:List DD}{m:Nat}{a:DD}
theorem Wd.AK9(h:Wd X os m W){j:Nat}(hi:os[j]?=AE a)(I:0<a.ex.2):a.ex.1+a.ex.2<=2000000:=by
 obtain⟨G,D,A,S,h⟩:=h;have e:=h.exs j a hi (a.ex.1+a.ex.2-1) ⟨a5,a5⟩;have J:=(h.s0.2.2.has e).2;have h3:=h.s0.1;have h4:=h.s0.2.1;omega
theorem NB(q:Nat):Dr (P.bs q):=DI ⟨rfl,rfl⟩ (DI ⟨rfl,rfl⟩ (DI ⟨rfl,rfl⟩ (DI ⟨rfl,rfl⟩ Eb)))
theorem n8{o once k hh bd x tT fP n vT Z}(hS:o5 X o once k hh bd x tT fP vT Z n){s}(e:s.length<=bd):DF DD.gw (Z s)=X.sz:=by
 obtain⟨t,r,J,_,_,_,_,_,I⟩:=hS.hd s e;rw[J,EL,D5 r I];rfl
theorem og{o k l s}(h:Cl o l s)(hf:ID k l):ID k s:=λu hu=>hf u (h.symm.mem hu)
theorem mJ{on o k s}(hf:ID k s):ID k (Dt on o s):=λu hu=>by
 unfold Dt at hu
 split at hu
 ·exact hf u (Mt hu)
 ·exact hf u hu
theorem af{o q s}(h:Yo o q s)(e:s.length<=q):ND o s:=by
 have I:=h 0;rwa [CY,Cr,Ay e]at I
theorem SP.Ok.file(e:P.Ok js){t}{on}{s}(J:Ew t P.X.sz)(U:t.k=P.k)(ab:t.h=P.hh)(I:t.l=Dt on P.o s)(hs:s.length<=P.count)(hf:ID P.k s):Gh (Dc t) (Cu P.hh t.l.length) P.k P.hh t.l P.X.sz/\Cu P.hh t.l.length<=P.nb:=by
 have Q:=SM on P.o s;rw[<-I]at Q;have O:=e.f.len;rw[e.c]at O;refine⟨⟨e.f.kk,e.f.hh,e.f.Pp,rfl,a5,?_,by rw[I];exact mJ hf⟩,?_⟩
 ·unfold Dc;have:=J.first;split<;>omega
 ·have h3:=e.f.bn;rw[e.c]at h3;rw[h3];exact Df e.f.hh.1 a5
theorem Rm.less{DK z2 F n z}(h:Rm X DK z (3*n))(U:∀a∈z2,a.ex.2=0\/(a.ex=(F,n))):∃I,Rm X (DK++z2) I n:=by
 have key:∀I,z<=I->I+n<=z+3*n->(I+n<=F\/F+n<=I)->Rm X (DK++z2) I n:=λI J h2 h3 y ad ab=>by
  obtain⟨Q,O⟩:=h y a5 a5;refine⟨Q,λi a hi=>?_⟩;rcases Ah.1 (Ae hi)with hm|hm
  ·obtain⟨j,hj,e⟩:=BP hm;exact O j a (by rw[AU hj,e])
  ·rcases U a hm with h4|h4
   ·unfold I7;rw[h4];omega
   ·unfold I7;rw[h4];show ¬(F<=y/\y<F+n);omega
 rcases Ak F (z+n)with J|J
 ·exact⟨z+2*n,key _ a5 a5 a5⟩
 ·exact⟨z,key _ a5 a5 a5⟩
def SP.V1(P:SP)(ob:Nat):VP:=⟨P.X,P.DK++P.bs P.rb,P.o,decide (P.nb<=P.rb)&&P.once,P.k,P.hh,P.count,ob,P.m,P.nb,λs=>s.length=P.count/\Yo P.o (P.rb*P.hh) s/\Cl P.o P.l s⟩
def SP.V2(P:SP)(ob q F N C b9 m:Nat)(l':List Cy):VP:=⟨P.X,P.DK++(P.bs q++[De F N P.k P.hh l' P.X.sz,DM P.b7 F N P.k C,DM b9 F N P.k C]),P.o,decide (P.nb<=q*P.Dn)&&P.once,P.k,P.hh,P.count,ob,m,P.nb,λs=>s.length=P.count/\Yo P.o (q*P.Dn*P.hh) s/\Cl P.o l' s⟩
theorem iW{tT b2 I sb:Nat}{vT}{first nb k count:Nat}{Q:Int->World->Prop}(O:W.cell? b2=AE (AI sb))(c0:W.cell? I=AE (AA AB first))(c1:W.cell? (I,1)=AE (AA AB nb))(c2:W.cell? (I,2)=AE (AA AB k))(U:W.cell? (I,3)=AE (AA AB count))
  (hF:Calls AP 141 #[AI sb,AL #[AA AB first,AA AB nb,AA AB k,AA AB count],.iface tT vT] W λe w'=>∃er,e=AH (AA AB er)/\Q er w'):
  Calls AP 140 (#[.iface tT vT]++#[AI b2,AI I]) W λe w'=>∃er,e=AH (AA AB er)/\Q er w':=by
 have J:=AO hF;clear hF;show Calls AP 140 #[.iface tT vT,AI b2,AI I] W _;go_enter func140,ntmps140
 go_wp2_with fail
 refine J.out.mono ?_;rintro e w' ⟨er,rfl,h⟩;have HQ:=AO h;clear h J;go_wp2
 go_ret
 exact⟨_,rfl,HQ.out⟩
theorem iV{tT b2 b9 I sb q:Nat}{vT}{first nb k count:Nat}{Q:Int->World->Prop}(O:W.cell? b2=AE (AI sb))(c0:W.cell? b9=AE (AA AB first))(c1:W.cell? (b9,1)=AE (AA AB nb))(c2:W.cell? (b9,2)=AE (AA AB k))(c3:W.cell? (b9,3)=AE (AA AB count))(U:W.cell? I=AE (AA AB q))
  (hF:Calls AP 143 #[AI sb,AL #[AA AB first,AA AB nb,AA AB k,AA AB count],AA AB q,.iface tT vT] W λe w'=>∃er,e=AH (AA AB er)/\Q er w'):
  Calls AP 142 (#[.iface tT vT]++#[AI b2,AI b9,AI I]) W λe w'=>∃er,e=AH (AA AB er)/\Q er w':=by
 have J:=AO hF;clear hF;show Calls AP 142 #[.iface tT vT,AI b2,AI b9,AI I] W _;go_enter func142,ntmps142
 go_wp2_with fail
 refine J.out.mono ?_;rintro e w' ⟨er,rfl,h⟩;have HQ:=AO h;clear h J;go_wp2
 go_ret
 exact⟨_,rfl,HQ.out⟩
theorem AA4(J:P.Ok js)(I:Nat):(P.V1 I).jM 140 #[AI P.b2,AI P.b3]:=by
 intro x tT fP n vT Z W hS hw;have Fl:=J.f.len;rw[J.c]at Fl;have GS:Wd P.X (P.DK++(P.bs P.rb++[(P.V1 I).bx 0 0 0 0]++Z [])) P.m W:=by
  have h:=hw;rw[AR,show (P.V1 I).DK=P.DK++P.bs P.rb from rfl,AR]at h;rw[AR];exact h
 have EC:=GS.row (DG P.DK (P.bs P.rb++[(P.V1 I).bx 0 0 0 0]++Z []) 0);have FT:=GS.row (DG P.DK (P.bs P.rb++[(P.V1 I).bx 0 0 0 0]++Z []) 1);have hg:DF DD.gw ((P.V1 I).DK++[(P.V1 I).bx 0 0 0 0]++Z [])=DF DD.gw P.DK+P.X.sz:=by
  rw[DP,n8 hS (Ao _),D9];show DF DD.gw (P.DK++P.bs P.rb)+0+P.X.sz= _;rw[DP,D5 _ (NB _)];rfl
 have hn:=J.n;have h1:=J.room1;have h2:min P.count (P.rb*P.hh)*P.k<=P.rb*P.hh*P.k:=Af _ (Nat.min_le_right _ _);have ML:=J.rm;have O:P.X.sz+(min P.count (P.rb*P.hh)*P.k)+DF DD.gw ((P.V1 I).DK++[(P.V1 I).bx 0 0 0 0]++Z [])<=P.X.rm:=by rw[hg];omega
 have jU:P.X.N+P.m+3*P.count+3<=1000000:=a5;have Yf:=qx (DK:=(P.V1 I).DK++[(P.V1 I).bx 0 0 0 0]) (js:=js) (count:=P.count) hS (Dj (Dj J.row)) hw J.f J.c J.src.app.app J.rb O ML ⟨AQ _,Fl⟩ jU;refine(iW (Q:=λer w'=>(er=0/\∃s,(P.V1 I).R s/\s.length<=P.count/\Wd P.X ((P.V1 I).DK++[(P.V1 I).bx 0 0 0 0]++Z s) (P.m+P.nb+I9 (P.V1 I).on P.o P.hh s) w')\/(er=6/\¬P.X.cm/\∃z m',Q6 P.X x P.count n Z z/\Wd P.X ((P.V1 I).DK++[(P.V1 I).bx 0 0 0 0]++z) m' w')) (EC.cell 0) (FT.cell 0) (FT.cell 1) (FT.cell 2) (FT.cell 3) (Yf.mono ?_)).mono ?_
 ·rintro e w' (⟨he,s,U,k2,k3,k4,k5⟩|⟨he,Fy,z,m',U,k2⟩)
  ·exact⟨0,he,.inl ⟨rfl,s,⟨U,k2,k3⟩,by rw[U];exact AQ _,k5⟩⟩
  ·exact⟨6,he,.inr ⟨rfl,Fy,z,m',U,k2⟩⟩
 ·rintro e w' ⟨er,he,(⟨rfl,h⟩|⟨rfl,h⟩)⟩
  ·exact .inl ⟨he,h⟩
  ·exact .inr ⟨he,h⟩
end
def SP.CC(P:SP)(q i F' N' k' C':Nat)(er:Int)(q6:Nat)(f1 b7 b9:DD)(W:World):Prop:=
 (er=0/\k'=P.k/\∃l' m',P.Sd (q*P.Dn) (i+1) l' m'/\Gh F' N' P.k P.hh l' P.X.sz/\C'=l'.length/\Wd P.X (P.DK++(P.bs q6++[f1,b7,b9])++[De F' N' P.k P.hh l' P.X.sz]) m' W)\/
 (P.Jt er/\(F'=0/\N'=0/\k'=0/\C'=0)/\∃m',Wd P.X (P.DK++(P.bs q6++[f1,b7,b9])++[]) m' W)
section
variable{P:SP}{q i js F N C F' N' k' C' Jq q6 m:Nat}{er:Int}{W W':World}{f1 b7 b9:DD}{l':List Cy}{z:List DD}
theorem Mf(j:Nat):(P.DK++(P.bs q6++[f1,b7,b9])++z)[P.DK.length+j]?=(P.bs q6++[f1,b7,b9]++z)[j]?:=by rw[AR];exact DG _ _ j
theorem ZJ(j:Nat)(v:DD):(P.DK++(P.bs q6++[f1,b7,b9])++z).set (P.DK.length+j) v=P.DK++(P.bs q6++[f1,b7,b9]++z).set j v:=by
 rw[AR,Ap _ _ a5,Cq]
theorem SP.CC.map{f1' b7' b9' q6'}(h:P.CC q i F' N' k' C' er q6 f1 b7 b9 W)(hw:∀z m,Wd P.X (P.DK++(P.bs q6++[f1,b7,b9])++z) m W->Wd P.X (P.DK++(P.bs q6'++[f1',b7',b9'])++z) m W'):P.CC q i F' N' k' C' er q6' f1' b7' b9' W':=by
 rcases h with⟨h1,h2,l',m',h3,h4,h5,h6⟩|⟨h1,h2,m',h6⟩
 ·exact .inl ⟨h1,h2,l',m',h3,h4,h5,hw _ _ h6⟩
 ·exact .inr ⟨h1,h2,m',hw _ _ h6⟩
theorem SP.CC.get(h:P.CC q i F' N' k' C' er q6 f1 b7 b9 W):∃z m,Wd P.X (P.DK++(P.bs q6++[f1,b7,b9])++z) m W:=by
 rcases h with⟨_,_,l',m',_,_,_,h6⟩|⟨_,_,m',h6⟩
 ·exact⟨_,_,h6⟩
 ·exact⟨_,_,h6⟩
theorem SP.CC.below(h:P.CC q i F' N' k' C' er q6 f1 b7 b9 W)(hb:Below W W W'):P.CC q i F' N' k' C' er q6 f1 b7 b9 W':=h.map λ_ _ hw=>hw.below hb
theorem SP.CC.yP{g c0 c1 c2 c3}{A B K D:Nat}(h:P.CC q i F' N' k' C' er q6 f1 (Cv g 28 [c0,c1,c2,c3]) b9 W)(hw:W'=((((W.setCell g A).setCell (g,1) B).setCell (g,2) K).setCell (g,3) D)):P.CC q i F' N' k' C' er q6 f1 (DM g A B K D) b9 W':=by
 refine h.map λz m I=>?_;have J:(P.DK++(P.bs q6++[f1,Cv g 28 [c0,c1,c2,c3],b9])++z)[P.DK.length+5]?=AE (Cv g 28 [c0,c1,c2,c3]):=Mf 5;obtain⟨Q,O⟩:=Ij (F:=A) (N:=B) (k:=K) (C:=D) (I.row J);have e:=I.KN J a6 O Q;rw[ZJ]at e;rw[hw,AR];exact e
theorem SP.CC.yQ{n}(h:P.CC q i F' N' k' C' er q6 f1 b7 b9 W):P.CC q i F' N' k' C' er n f1 b7 b9 (W.setCell P.b6 n):=by
 refine h.map λz m I=>?_;have J:(P.DK++(P.bs q6++[f1,b7,b9])++z)[P.DK.length+3]?=AE (Cv P.b6 3 [q6]):=Mf 3;have e:=I.store J a6 0 n;rw[ZJ]at e;rw[AR];exact e
theorem SP.CC.free{k hh sz l0}(h:P.CC q i F' N' k' C' er q6 (De F N k hh l0 sz) b7 b9 W)(hf:F<=2000000)(O:N<=2000000)(c:Nat):Calls AP 67 #[AI P.X.p.w,AL #[F,N,k,c]] W λe w'=>e=AH ()/\P.CC q i F' N' k' C' er q6 Dw b7 b9 w':=by
 have key:∀z m,Wd P.X (P.DK++(P.bs q6++[De F N k hh l0 sz,b7,b9])++z) m W->Calls AP 67 #[AI P.X.p.w,AL #[F,N,k,c]] W λe w'=>e=AH ()/\Wd P.X (P.DK++(P.bs q6++[Dw,b7,b9])++z) m w':=λz m J=>by
  have Q:(P.DK++(P.bs q6++[De F N k hh l0 sz,b7,b9])++z)[P.DK.length+4]?=AE (De F N k hh l0 sz):=Mf 4;refine(OM J Q hf O c).mono ?_;rintro e w' ⟨he,I⟩;rw[ZJ]at I;exact⟨he,by rw[AR];exact I⟩
 rcases h with⟨J,I,l',m',h3,h4,h5,h6⟩|⟨J,I,m',h6⟩
 ·exact(key _ _ h6).mono λe w' ⟨he,h7⟩=>⟨he,.inl ⟨J,I,l',m',h3,h4,h5,h7⟩⟩
 ·exact(key _ _ h6).mono λe w' ⟨he,h7⟩=>⟨he,.inr ⟨J,I,m',h7⟩⟩
theorem SP.CC.fin(h:P.CC q i F' N' k' C' er (q*P.Dn) Dw (DM P.b7 F' N' k' C') (DM Jq F N P.k C) W):(er=0/\P.A (q*P.Dn) (i+1) F' N' C' W)\/P.E er (q*P.Dn) W:=by
 rcases h with⟨h1,h2,l',m',h3,h4,h5,h6⟩|⟨h1,⟨e1,e2,e3,e4⟩,m',h6⟩
 ·subst h2;refine .inl ⟨h1,l',m',h3,h4,h5,?_⟩;have e:=Wd.perm (os':=P.DK++P.bs (q*P.Dn)++[De F' N' P.k P.hh l' P.X.sz,DM P.b7 F' N' P.k C']++[Dw,DM Jq F N P.k C]) h6 (by
   rw[AR,AR,AR,AR];refine Ce _ (Ce _ ?_);show List.Perm [_,_,Dw,_] [Dw,_,_,_];refine(List.perm_append_comm (l₁:=[De F' N' P.k P.hh l' P.X.sz,DM P.b7 F' N' P.k C']) (l₂:=[Dw,DM Jq F N P.k C])).trans ?_;refine List.Perm.cons _ ?_;exact(List.perm_append_comm (l₁:=[DM Jq F N P.k C,De F' N' P.k P.hh l' P.X.sz]) (l₂:=[DM P.b7 F' N' P.k C'])).trans (Ci _))
  exact e.forget (DI ⟨rfl,rfl⟩ (DI ⟨rfl,rfl⟩ Eb))
 ·subst e1 e2 e3 e4;refine .inr ⟨h1,m',?_⟩;rw[AY]at h6;have e:=Wd.perm (os':=P.DK++P.bs (q*P.Dn)++[DM P.b7 0 0 0 0]++[Dw,DM Jq F N P.k C]) h6 (by
   rw[AR,AR];refine Ce _ (Ce _ ?_);exact List.perm_append_comm (l₁:=[DM P.b7 0 0 0 0]) (l₂:=[Dw,DM Jq F N P.k C])|>.trans (List.Perm.cons _ (List.Perm.swap _ _ _)))
  exact e.forget (DI ⟨rfl,rfl⟩ (DI ⟨rfl,rfl⟩ Eb))
theorem AA3(J:P.Ok js)(I:Nat)(tP:P.Sd q i l' m)(hq:q<P.nb)(hf:Gh F N P.k P.hh l' P.X.sz)(hC:C=l'.length):(P.V2 I q F N C Jq m l').jM 142 #[AI P.b2,AI Jq,AI P.b6]:=by
 intro x tT fP n vT Z W hS hw;obtain⟨hi,ab,hm,hk⟩:=tP;rcases hk with⟨_,hl,ad,Fl⟩|⟨O,_⟩
 ·have Nu:=J.f.len;rw[J.c]at Nu;have hnb:N=P.nb:=by
   have O:=hf.bn;have U:=J.f.bn;rw[O,U,hl,J.c]
  have gS:P.nb<=P.count:=by
   have U:=J.f.bn;rw[J.c]at U;rw[U];exact Dl _ _
  have ar:i<=17:=by
   rcases ab with O|O
   ·omega
   ·rcases Ak 17 i with U|U
    ·have h3:2^17<=2^(i-1):=Nat.pow_le_pow_right a5 a5;have h4:(2:Nat)^17=131072:=a6;omega
    ·exact U
  have ao:m<=P.m+36*P.nb:=by
   have O:2*P.nb*(1+i)<=2*P.nb*18:=Nat.mul_le_mul_left _ a5;omega
  have hn:=J.n;have vz:Wd P.X (P.DK++(P.bs q++[De F N P.k P.hh l' P.X.sz,DM P.b7 F N P.k C,DM Jq F N P.k C])++([(P.V2 I q F N C Jq m l').bx 0 0 0 0]++Z [])) m W:=by
   rw[<-AR];exact hw
  have EC:=vz.row (Mf 0);have MM:=vz.row (Mf 3);have EG:=vz.row (Mf 6);have Pt:(P.DK++(P.bs q++[De F N P.k P.hh l' P.X.sz,DM P.b7 F N P.k C,DM Jq F N P.k C])++([(P.V2 I q F N C Jq m l').bx 0 0 0 0]++Z []))[P.DK.length+4]?=AE (De F N P.k P.hh l' P.X.sz):=Mf 4;have al:F+N<=2000000:=vz.AK9 Pt (by show 0<N;omega);have hg:∀s,s.length<=P.count->DF DD.gw ((P.V2 I q F N C Jq m l').DK++[(P.V2 I q F N C Jq m l').bx 0 0 0 0]++Z s)=DF DD.gw P.DK+P.X.sz:=λs hs=>by
   rw[DP,n8 hS hs,D9];show DF DD.gw (P.DK++(P.bs q++[De F N P.k P.hh l' P.X.sz,DM P.b7 F N P.k C,DM Jq F N P.k C]))+0+P.X.sz= _;rw[DP,DP,D5 _ (NB _)];rfl
  let Q:JP:=⟨P.X,(P.V2 I q F N C Jq m l').DK++[(P.V2 I q F N C Jq m l').bx 0 0 0 0],Z,P.o,(P.V2 I q F N C Jq m l').on,P.k,P.hh,P.count,x,tT,fP,vT,n,m,F,N,P.count,q,P.Dn,q*P.Dn,l'⟩
  have aq:=J.room2;have Di:0<q:=BN (Nat.pow_pos a5) hi
  have hQ:Q.Ok:={
   S:=hS
   f:=hf
   c:=hl
   src:=by
    refine Src.app ⟨P.DK.length+4,De F N P.k P.hh l' P.X.sz,DG P.DK _ 4,λD hD hd=>?_,λ_=>?_⟩
    ·have O:=hd hD;rw[hf.bn]at O;exact O
    ·show F<=F/\F+Cu P.hh l'.length<=F+N;rw[hf.bn];omega
   rb:=⟨Di,by show q<=1000000;omega⟩
   Dn:=⟨by have:=J.Dn.1;show 0<P.Dn;omega,J.Dn.2⟩
   L:=rfl
   fst:=al
   asc:=ad
   room:=λs hs=>by
    show DF DD.gw ((P.V2 I q F N C Jq m l').DK++[(P.V2 I q F N C Jq m l').bx 0 0 0 0]++Z s)+P.Dn*P.k+P.Dn*P.X.sz<=P.X.rm;rw[hg s hs];omega
   rm:=J.rm
   bd:=⟨AQ _,Nu⟩
   n:=by show P.X.N+m+N+P.count+3<=1000000;omega}
  have ae:q*P.Dn<=100000000:=Ag (Af _ a5) J.prod;have an:C=P.count:=by rw[hC,hl]
  subst an;refine(iV (Q:=λer w'=>(er=0/\∃s,(P.V2 I q F N P.count Jq m l').R s/\s.length<=P.count/\Wd P.X ((P.V2 I q F N P.count Jq m l').DK++[(P.V2 I q F N P.count Jq m l').bx 0 0 0 0]++Z s) (m+P.nb+I9 (P.V2 I q F N P.count Jq m l').on P.o P.hh s) w')\/(er=6/\¬P.X.cm/\∃z m',Q6 P.X x P.count n Z z/\Wd P.X ((P.V2 I q F N P.count Jq m l').DK++[(P.V2 I q F N P.count Jq m l').bx 0 0 0 0]++z) m' w')) (EC.cell 0) (EG.cell 0) (EG.cell 1) (EG.cell 2) (EG.cell 3) (MM.cell 0) ((qv (P:=Q) (js:=js) (WO:=P.rb) (RB:=P.once) hQ (Dj (Dj J.row)) ae hw).mono ?_)).mono ?_
  ·rintro e w' (⟨he,s,k1,k2,k3,k5⟩|⟨he,Fy,z,m',k1,k2⟩)
   ·have k6:Wd P.X ((P.V2 I q F N P.count Jq m l').DK++[(P.V2 I q F N P.count Jq m l').bx 0 0 0 0]++Z s) (m+N+I9 (P.V2 I q F N P.count Jq m l').on P.o P.hh s) w':=k5;rw[hnb]at k6;have k7:s.length=P.count:=k1;exact⟨0,he,.inl ⟨rfl,s,⟨k7,k2,k3⟩,a5,by rw[<-hnb];rw[<-hnb]at k6;exact k6⟩⟩
   ·exact⟨6,he,.inr ⟨rfl,Fy,z,m',k1,k2⟩⟩
  ·rintro e w' ⟨er,he,(⟨rfl,h⟩|⟨rfl,h⟩)⟩
   ·exact .inl ⟨he,h⟩
   ·exact .inr ⟨he,h⟩
 ·omega
end
def SP.B1(P:SP)(F N k' C:Nat)(er:Int)(W:World):Prop:=
 (er=0/\k'=P.k/\∃l' m',P.Sd P.rb 0 l' m'/\Gh F N P.k P.hh l' P.X.sz/\C=l'.length/\Wd P.X (P.DK++P.bs P.rb++[De F N P.k P.hh l' P.X.sz]) m' W)\/
 (P.Jt er/\(F=0/\N=0/\k'=0/\C=0)/\∃m',Wd P.X (P.DK++P.bs P.rb) m' W)
section
variable{P:SP}{q i js F N C Jq m:Nat}{W W':World}{l':List Cy}
theorem SP.Ok.kind(I:P.Ok js){q}{s}(O:s.length=P.count)(J:Yo P.o (q*P.hh) s)(h3:Cl P.o P.l s):
  (q<P.nb/\(Dt (decide (P.nb<=q)&&P.once) P.o s).length=P.count/\Yo P.o (q*P.hh) (Dt (decide (P.nb<=q)&&P.once) P.o s)/\Cl P.o P.l (Dt (decide (P.nb<=q)&&P.once) P.o s))\/(P.nb<=q/\∃s',ND P.o s'/\Cl P.o P.l s'/\Dt (decide (P.nb<=q)&&P.once) P.o s=Dt P.once P.o s'):=by
 have Q:=I.f.bn;rw[I.c]at Q;rcases Ak q P.nb with e|e
 ·rw[decide_eq_false a5,Bool.false_and];exact .inl ⟨e,O,J,h3⟩
 ·rw[decide_eq_true e,Bool.true_and];refine .inr ⟨e,s,af J ?_,h3,rfl⟩;rw[O];refine Ag (Me I.f.hh.1 P.count) ?_;rw[<-Q];exact Af _ e
theorem SP.X6(I:P.Ok js)(h:Wd P.X (P.DK++P.bs P.rb) P.m W):Calls AP 139 #[AI P.sb,.bool (decide (P.nb<=P.rb)),.func (.func 140) #[] #[AI P.b2,AI P.b3]] W λe w'=>
  ∃(F N k' C:Nat) (er:Int),e=AH (AM #[AL #[F,N,k',C],er])/\P.B1 F N k' C er w':=by
 have Fl:=I.f.len;rw[I.c]at Fl;have M6:=I.f.bn;rw[I.c]at M6;have hn:=I.n;have hr:=I.room1;have hg:DF DD.gw (P.DK++P.bs P.rb)=DF DD.gw P.DK:=by rw[DP,D5 _ (NB _)];rfl
 have gS:P.nb<=P.count:=by rw[M6];exact Dl _ _
 refine(UB (P:=P.V1 W) (once:=P.once) (UR:=decide (P.nb<=P.rb)) (Dj I.row) rfl (AA4 I _) (λargs w=>by kernel_rfl) I.f.Pp I.f.hh.1 Fl (by show P.X.sz+DF DD.gw (P.DK++P.bs P.rb)<=P.X.rm;rw[hg];omega) (λs hs=>?_) rfl h).mono ?_
 ·have h1:=Ni (P.V1 W).on P.o P.hh s;have J:s.length=P.count:=hs.1;show P.X.N+(P.m+P.nb+I9 (P.V1 W.heap.size).on P.o P.hh s)<1000000;omega
 ·rintro e w' (⟨he,h1,J⟩|⟨x,F,N,C,he,s,t,⟨h1,J,h3⟩,h4,h5,U,Q,⟨h8,O,OH⟩,Xv⟩|⟨he,Fy,m',J⟩)
  ·refine⟨0,0,0,0,5,he,.inr ⟨.inl ⟨rfl,λz hz=>?_⟩,⟨rfl,rfl,rfl,rfl⟩,P.m,J⟩⟩;obtain⟨z',ab⟩:=Rm.less (z2:=P.bs P.rb) (F:=0) hz λa ha=>.inl (NB _ a ha).2;refine h1 z' ?_;show Rm P.X (P.DK++P.bs P.rb) z' (Cu P.hh P.count);rw[<-M6];exact ab
  ·have Og:s.length<=P.count:=a5;obtain⟨f1,f2⟩:=I.file h4 h5 U Q Og (og h3 I.f.fit);have JZ:Wd P.X (P.DK++P.bs P.rb++[U5 P.X.p x t P.X.sz]) (P.m+P.nb+Cu P.hh t.l.length) w':=Xv;have Eu:(P.DK++P.bs P.rb++[U5 P.X.p x t P.X.sz])[(P.DK++P.bs P.rb).length]?=AE (U5 P.X.p x t P.X.sz):=DG _ _ 0;have Pw:=Wc JZ Eu;have h5:t.k=P.k:=h5;have U:t.h=P.hh:=U;have O:N=Cu P.hh t.l.length:=O;rw[GY,h5,U,<-h8,<-O]at Pw;have hk:=I.kind h1 J h3;have Q:t.l=Dt (decide (P.nb<=P.rb)&&P.once) P.o s:=Q;rw[<-Q]at hk;refine⟨F,N,P.k,C,0,he,.inl ⟨rfl,rfl,t.l,P.m+P.nb+N,⟨by rw[Nat.pow_zero];exact I.rb.1,.inl rfl,by rw[O];omega,hk⟩,by rw[h8,O];exact f1,OH,Pw⟩⟩
  ·exact⟨0,0,0,0,6,he,.inr ⟨.inr ⟨rfl,Fy⟩,⟨rfl,rfl,rfl,rfl⟩,m',J⟩⟩
theorem SP.Zc(I:P.Ok js)(Q:P.Sd q i l' m)(hq:q<P.nb)(hf:Gh F N P.k P.hh l' P.X.sz)(hC:C=l'.length)(h:Wd P.X (P.DK++(P.bs q++[De F N P.k P.hh l' P.X.sz,DM P.b7 F N P.k C,DM Jq F N P.k C])) m W):
  Calls AP 139 #[AI P.sb,.bool (decide (P.nb<=q*P.Dn)),.func (.func 142) #[] #[AI P.b2,AI Jq,AI P.b6]] W λe w'=>
  ∃(F' N' k' C':Nat) (er:Int),e=AH (AM #[AL #[F',N',k',C'],er])/\P.CC q i F' N' k' C' er q (De F N P.k P.hh l' P.X.sz) (DM P.b7 F N P.k C) (DM Jq F N P.k C) w':=by
 have Fl:=I.f.len;rw[I.c]at Fl;have M6:=I.f.bn;rw[I.c]at M6;have hn:=I.n;have hr:=I.room1;have hg:DF DD.gw (P.DK++(P.bs q++[De F N P.k P.hh l' P.X.sz,DM P.b7 F N P.k C,DM Jq F N P.k C]))=DF DD.gw P.DK:=by rw[DP,DP,D5 _ (NB _)];rfl
 have gS:P.nb<=P.count:=by rw[M6];exact Dl _ _
 have al:=Q.ib;have au:i<=17:=by
  rcases al with O|O
  ·omega
  ·rcases Ak 17 i with J|J
   ·have h3:2^17<=2^(i-1):=Nat.pow_le_pow_right a5 a5;have h4:(2:Nat)^17=131072:=a6;omega
   ·exact J
 have ar:m<=P.m+36*P.nb:=by
  have O:2*P.nb*(1+i)<=2*P.nb*18:=Nat.mul_le_mul_left _ a5;have:=Q.m;omega
 have ab:l'.length=P.count/\Cl P.o P.l l':=by
  rcases Q.kind with⟨_,O,_,J⟩|⟨O,_⟩
  ·exact⟨O,J⟩
  ·omega
 refine(UB (P:=P.V2 W q F N C Jq m l') (once:=P.once) (UR:=decide (P.nb<=q*P.Dn)) (Dj I.row) rfl (AA3 I _ Q hq hf hC) (λargs w=>by kernel_rfl) I.f.Pp I.f.hh.1 Fl (by show P.X.sz+DF DD.gw (P.DK++(P.bs q++[De F N P.k P.hh l' P.X.sz,DM P.b7 F N P.k C,DM Jq F N P.k C]))<=P.X.rm;rw[hg];omega) (λs hs=>?_) rfl h).mono ?_
 ·have O:=Ni (P.V2 W q F N C Jq m l').on P.o P.hh s;have J:s.length=P.count:=hs.1;show P.X.N+(m+P.nb+I9 (P.V2 W.heap.size q F N C Jq m l').on P.o P.hh s)<1000000;omega
 ·rintro e w' (⟨he,O,J⟩|⟨x,F',N',C',he,s,t,⟨O,J,h3⟩,h4,h5,h6,h7,⟨h8,h9,OH⟩,Xv⟩|⟨he,Fy,m',J⟩)
  ·refine⟨0,0,0,0,5,he,.inr ⟨.inl ⟨rfl,λz hz=>?_⟩,⟨rfl,rfl,rfl,rfl⟩,m,by rw[AY];exact J⟩⟩;have an:N=P.nb:=by rw[hf.bn,ab.1,M6]
   obtain⟨z',ae⟩:=Rm.less (z2:=P.bs q++[De F N P.k P.hh l' P.X.sz,DM P.b7 F N P.k C,DM Jq F N P.k C]) (F:=F) hz λa U=>by
    rcases Ah.1 U with U|U
    ·exact .inl (NB _ a U).2
    ·simp at U;rcases U with rfl|rfl|rfl
     ·right;show (F,N)=(F,P.nb);rw[an]
     ·exact .inl rfl
     ·exact .inl rfl
   refine O z' ?_;show Rm P.X (P.DK++(P.bs q++[De F N P.k P.hh l' P.X.sz,DM P.b7 F N P.k C,DM Jq F N P.k C])) z' (Cu P.hh P.count);rw[<-M6];exact ae
  ·have Og:s.length<=P.count:=a5;have ad:Cl P.o P.l s:=ab.2.trans h3;obtain⟨f1,f2⟩:=I.file h4 h5 h6 h7 Og (og ad I.f.fit);have JZ:Wd P.X (P.DK++(P.bs q++[De F N P.k P.hh l' P.X.sz,DM P.b7 F N P.k C,DM Jq F N P.k C])++[U5 P.X.p x t P.X.sz]) (m+P.nb+Cu P.hh t.l.length) w':=Xv;have Eu:(P.DK++(P.bs q++[De F N P.k P.hh l' P.X.sz,DM P.b7 F N P.k C,DM Jq F N P.k C])++[U5 P.X.p x t P.X.sz])[(P.DK++(P.bs q++[De F N P.k P.hh l' P.X.sz,DM P.b7 F N P.k C,DM Jq F N P.k C])).length]?=AE (U5 P.X.p x t P.X.sz):=DG _ _ 0;have Pw:=Wc JZ Eu;have h5:t.k=P.k:=h5;have h6:t.h=P.hh:=h6;have h9:N'=Cu P.hh t.l.length:=h9;rw[GY,h5,h6,<-h8,<-h9]at Pw;have hk:=I.kind O J ad;have h7:t.l=Dt (decide (P.nb<=q*P.Dn)&&P.once) P.o s:=h7;rw[<-h7]at hk;have aq:=Q.m;have ao:2^(i+1)<=q*P.Dn:=by
    rw[Nat.pow_succ];exact Nat.mul_le_mul Q.pw I.Dn.1
   refine⟨F',N',P.k,C',0,he,.inl ⟨rfl,rfl,t.l,m+P.nb+N',⟨ao,.inr (by rw[BV];exact Cg Q.pw hq),?_,hk⟩,by rw[h8,h9];exact f1,OH,Pw⟩⟩;have Tk:2*P.nb*(1+(i+1))=2*P.nb*(1+i)+2*P.nb:=by rw[show 1+(i+1)=(1+i)+1 by omega,Nat.mul_add,Cm]
   rw[Tk,h9];omega
  ·exact⟨0,0,0,0,6,he,.inr ⟨.inr ⟨rfl,Fy⟩,⟨rfl,rfl,rfl,rfl⟩,m',by rw[AY];exact J⟩⟩
end
def SP.p6(P:SP)(e:Ending)(w':World):Prop:=
 (∃(F N C:Nat) (l':List Cy) (m' i:Nat),e=AH (AM #[AL #[F,N,P.k,C],()])/\(∃s,ND P.o s/\Cl P.o P.l s/\l'=Dt P.once P.o s)/\Gh F N P.k P.hh l' P.X.sz/\C=l'.length/\
  (i=0\/2^(i-1)<P.nb)/\m'<=P.m+2*P.nb*(1+i)/\Wd P.X (P.DK++[De F N P.k P.hh l' P.X.sz]) m' w')\/
 (∃er,e=AH (AM #[AL #[AA AB 0,AA AB 0,AA AB 0,AA AB 0],AA AB er])/\P.Jt er/\∃m',Wd P.X P.DK m' w')
section
variable{P:SP}{q i js F N C:Nat}{W W':World}{er:Int}
theorem SP.A.row(h:P.A q i F N C W):Row W P.b2 188 [AI P.sb]/\Row W P.b3 28 [P.first,P.nb,P.k,P.count]/\Row W P.b4 28 [(),(),(),()]/\Row W P.b6 3 [q]/\Row W P.b7 28 [F,N,P.k,C]:=by
 obtain⟨l',m',_,_,_,h⟩:=h;rw[AR]at h;exact⟨h.row (DG _ _ 0),h.row (DG _ _ 1),h.row (DG _ _ 2),h.row (DG _ _ 3),h.row (DG _ _ 5)⟩
theorem SP.E.row(h:P.E er q W):Row W P.b2 188 [AI P.sb]/\Row W P.b3 28 [P.first,P.nb,P.k,P.count]/\Row W P.b4 28 [(),(),(),()]/\Row W P.b6 3 [q]/\Row W P.b7 28 [(),(),(),()]:=by
 obtain⟨_,m',h⟩:=h;rw[AR]at h;exact⟨h.row (DG _ _ 0),h.row (DG _ _ 1),h.row (DG _ _ 2),h.row (DG _ _ 3),h.row (DG _ _ 4)⟩
theorem SP.A.sort(e:P.Ok js)(h:P.A q i F N C W):Row W P.sb 193 (Ep P.X.p.w P.k P.hh P.rb P.Dn P.o P.once P.count):=by
 obtain⟨l',m',_,_,_,h⟩:=h;exact h.row (Dj (Dj e.row))
theorem SP.A.fin(h:P.A q i F N C W)(hq:P.nb<=q)(hw:W'=((((W.setCell P.b4 F).setCell (P.b4,1) N).setCell (P.b4,2) P.k).setCell (P.b4,3) C)):
  (W'.cell? P.b4=AE (AA AB (F:Nat))/\W'.cell? (P.b4,1)=AE (AA AB (N:Nat))/\W'.cell? (P.b4,2)=AE (AA AB (P.k:Nat))/\W'.cell? (P.b4,3)=AE (AA AB (C:Nat)))/\
   Hid (P.p6 (AH (AM #[AL #[F,N,P.k,C],()])) W'):=by
 subst hw;obtain⟨l',m',I,U,h3,h⟩:=h;have J:Wd P.X (P.DK++(P.bs q++[De F N P.k P.hh l' P.X.sz,DM P.b7 F N P.k C])) m' W:=by rw[<-AR];exact h
 have O:(P.DK++(P.bs q++[De F N P.k P.hh l' P.X.sz,DM P.b7 F N P.k C]))[P.DK.length+2]?=AE (Cv P.b4 28 [((0:Nat):Int),((0:Nat):Int),((0:Nat):Int),((0:Nat):Int)]):=DG _ _ 2;obtain⟨e,Q⟩:=Ij (F:=F) (N:=N) (k:=P.k) (C:=C) (J.row O);have h4:=J.KN O a6 Q e;rw[Ap _ _ a5,Cq]at h4;refine⟨⟨e.cell 0,e.cell 1,e.cell 2,e.cell 3⟩,.inl ⟨F,N,C,l',m',i,rfl,?_,U,h3,I.ib,I.m,?_⟩⟩
 ·rcases I.kind with⟨h5,_⟩|⟨_,h5⟩
  ·omega
  ·exact h5
 ·have h5:=Wd.perm (os':=P.DK++[De F N P.k P.hh l' P.X.sz]++([Cv P.b2 188 [AI P.sb],DM P.b3 P.first P.nb P.k P.count,DM P.b4 F N P.k C,Cv P.b6 3 [q]]++[DM P.b7 F N P.k C])) h4 (by
   rw[AR];refine Ce _ ?_;exact(List.perm_append_comm (l₁:=[De F N P.k P.hh l' P.X.sz]) (l₂:=[Cv P.b2 188 [AI P.sb],DM P.b3 P.first P.nb P.k P.count,DM P.b4 F N P.k C,Cv P.b6 3 [q]]++[DM P.b7 F N P.k C])).trans (by
    show List.Perm ([_,_,_,_]++([_]++[_])) ([_,_,_,_]++([_]++[_]));exact Ce _ List.perm_append_comm))
  exact h5.forget (DI ⟨rfl,rfl⟩ (DI ⟨rfl,rfl⟩ (DI ⟨rfl,rfl⟩ (DI ⟨rfl,rfl⟩ (DI ⟨rfl,rfl⟩ Eb)))))
theorem SP.E.fin(h:P.E er q W)(hw:W'=((((W.setCell P.b4 ()).setCell (P.b4,1) ()).setCell (P.b4,2) ()).setCell (P.b4,3) ())):
  (W'.cell? P.b4=AE (AA AB 0)/\W'.cell? (P.b4,1)=AE (AA AB 0)/\W'.cell? (P.b4,2)=AE (AA AB 0)/\W'.cell? (P.b4,3)=AE (AA AB 0))/\
   Hid (P.p6 (AH (AM #[AL #[(),(),(),()],er])) W'):=by
 subst hw;obtain⟨Q,m',h⟩:=h;have I:Wd P.X (P.DK++(P.bs q++[DM P.b7 0 0 0 0])) m' W:=by rw[<-AR];exact h
 have J:(P.DK++(P.bs q++[DM P.b7 0 0 0 0]))[P.DK.length+2]?=AE (Cv P.b4 28 [((0:Nat):Int),((0:Nat):Int),((0:Nat):Int),((0:Nat):Int)]):=DG _ _ 2;obtain⟨e,O⟩:=Ij (F:=0) (N:=0) (k:=0) (C:=0) (I.row J);have h4:=I.KN J a6 O e;rw[Ap _ _ a5,Cq]at h4;refine⟨⟨e.cell 0,e.cell 1,e.cell 2,e.cell 3⟩,.inr ⟨er,rfl,Q,m',?_⟩⟩;exact h4.forget (DI ⟨rfl,rfl⟩ (DI ⟨rfl,rfl⟩ (DI ⟨rfl,rfl⟩ (DI ⟨rfl,rfl⟩ (DI ⟨rfl,rfl⟩ Eb)))))
theorem SP.B1.box{k' b7}(h:P.B1 F N k' C er W)(hb:Below W W W')(e:Row W' b7 28 [F,N,k',C])(I:W<=b7):(er=0/\k'=P.k/\({P with b7:=b7}:SP).A P.rb 0 F N C W')\/((F=0/\N=0/\k'=0/\C=0)/\({P with b7:=b7}:SP).E er P.rb W'):=by
 rcases h with⟨h1,h2,l',m',h3,h4,h5,h6⟩|⟨h1,⟨e1,e2,e3,e4⟩,m',h6⟩
 ·subst h2;have J:=h6.new hb e I;rw[AR]at J;exact .inl ⟨h1,rfl,l',m',⟨h3.pw,h3.ib,h3.m,h3.kind⟩,h4,h5,J⟩
 ·subst e1 e2 e3 e4;exact .inr ⟨⟨rfl,rfl,rfl,rfl⟩,h1,m',h6.new hb e I⟩
theorem SP.CC.row(O:P.Ok js){F' N' k' C' q6 Jq}{f1 b7}(h:P.CC q i F' N' k' C' er q6 f1 b7 (DM Jq F N P.k C) W):Row W P.b2 188 [AI P.sb]/\Row W P.b6 3 [q6]/\Row W Jq 28 [F,N,P.k,C]/\Row W P.sb 193 (Ep P.X.p.w P.k P.hh P.rb P.Dn P.o P.once P.count)/\(∀cs,b7=Cv P.b7 28 cs->Row W P.b7 28 cs):=by
 obtain⟨z,m,I⟩:=h.get;exact⟨I.row (Mf 0),I.row (Mf 3),I.row (Mf 6),I.row (Dj (Dj O.row)),λcs e=>by
  have J:(P.DK++(P.bs q6++[f1,b7,DM Jq F N P.k C])++z)[P.DK.length+5]?=AE b7:=Mf 5;rw[e]at J I;exact I.row J⟩
theorem SP.A.step(J:P.Ok js)(h:P.A q i F N C W)(hq:q<P.nb):∃Q,F<=2000000/\N<=2000000/\q*P.Dn<=100000000/\q<q*P.Dn/\∀W' b9,Below W W W'->Row W' b9 28 [F,N,P.k,C]->W<=b9->
  Calls AP 139 #[AI P.sb,.bool (decide (P.nb<=q*P.Dn)),.func (.func 142) #[] #[AI P.b2,AI b9,AI P.b6]] W' λe w'=>
  ∃(F' N' k' C':Nat) (er:Int),e=AH (AM #[AL #[F',N',k',C'],er])/\P.CC q i F' N' k' C' er q (De F N P.k P.hh Q P.X.sz) (DM P.b7 F N P.k C) (DM b9 F N P.k C) w':=by
 obtain⟨l',m',O,I,h3,h4⟩:=h;have ab:0<q:=BN (Nat.pow_pos a5) O.pw;have qJ:=Nat.mul_le_mul_left q J.Dn.1;refine⟨l',I.fst,?_,Ag (Af _ a5) J.prod,a5,λW' b9 hb U hg=>?_⟩
 ·have h5:=I.bn;have h6:=Dl P.hh l'.length;have h7:=I.len;omega
 ·have h5:=h4.new hb U hg;refine SP.Zc J O hq I h3 ?_;rw[AR,AR]at h5;exact h5
def qOf(b:Nat)(w:World):Nat:=match w.cell? ⟨b,0,AD⟩with
 |some v=>(BF v).toNat
 |none=>0
theorem bT{b n:Nat}{w}(h:Row w b 3 [n]):qOf b w=n:=by
 have e:w.cell? b=AE (AA AB (n:Nat)):=h.cell 0;unfold qOf;rw[e];simp[BF]
theorem qp(hP:P.Ok js)(h:Wd P.X P.DK P.m W)(DT:W=P.b2)(ED:P.b2+1=P.b3)(IE:P.b3+1=P.b4)(RG:P.b4+1=P.b6):
  Calls AP 130 #[AI P.sb,AL #[P.first,P.nb,P.k,P.count]] W P.p6:=by
 obtain⟨W1,EJ⟩:=ae (W.alloc (AK #[AI P.sb] 188));obtain⟨W2,I8⟩:=ae (W1.alloc (AK #[P.first,P.nb,P.k,P.count] 28));obtain⟨W3,Ky⟩:=ae (W2.alloc (AK #[(),(),(),()] 28));obtain⟨W4,ad⟩:=ae (W3.alloc (AK #[P.rb] 3));have z1:W1=P.b3:=by rw[EJ];simp;omega
 have z2:W2=P.b4:=by rw[I8];simp;omega
 have z3:W3=P.b6:=by rw[Ky];simp;omega
 have h1:Wd P.X (P.DK++[Cv P.b2 188 [AI P.sb]]) P.m W1:=h.new (by rw[EJ];exact(AS _ _).alloc ar _) (by rw[EJ,<-DT];exact heap_alloc_new _ _) a5;have h2:Wd P.X (P.DK++[Cv P.b2 188 [AI P.sb]]++[DM P.b3 P.first P.nb P.k P.count]) P.m W2:=h1.new (by rw[I8];exact(AS _ _).alloc ar _) (by rw[I8,<-z1];exact heap_alloc_new _ _) a5;have h3:Wd P.X (P.DK++[Cv P.b2 188 [AI P.sb]]++[DM P.b3 P.first P.nb P.k P.count]++[DM P.b4 0 0 0 0]) P.m W3:=h2.new (by rw[Ky];exact(AS _ _).alloc ar _) (by rw[Ky,<-z2];exact heap_alloc_new _ _) a5;have av:Wd P.X (P.DK++[Cv P.b2 188 [AI P.sb]]++[DM P.b3 P.first P.nb P.k P.count]++[DM P.b4 0 0 0 0]++[Cv P.b6 3 [P.rb]]) P.m W4:=h3.new (by rw[ad];exact(AS _ _).alloc ar _) (by rw[ad,<-z3];exact heap_alloc_new _ _) a5;have h4:Wd P.X (P.DK++P.bs P.rb) P.m W4:=by
  rw[AR,AR,AR]at av;exact av
 have Jz:Hid (W3=((W.alloc (AK #[AI P.sb] 188)).alloc (AK #[P.first,P.nb,P.k,P.count] 28)).alloc (AK #[(),(),(),()] 28)):=by unfold Hid;rw[Ky,I8,EJ]
 have az:=AO ad;have r2:Row W3 P.b2 188 [AI P.sb]:=by
  rw[AR,AR]at h3;exact h3.row (DG _ _ 0)
 have rs:Row W3 P.sb 193 (Ep P.X.p.w P.k P.hh P.rb P.Dn P.o P.once P.count):=h3.row (Dj (Dj (Dj hP.row)));have q2:W3.cell? P.b2=AE (AI P.sb):=r2.cell 0;have s2:W3.cell? (P.sb,2)=AE (AA AB P.rb):=rs.cell 2;have u2:W4.cell? P.b2=AE (AI P.sb):=(h4.row (DG _ _ 0)).cell 0;have u3:W4.cell? (P.b3,1)=AE (AA AB P.nb):=(h4.row (DG _ _ 1)).cell 1;have u6:W4.cell? P.b6=AE (AA AB P.rb):=(h4.row (DG _ _ 3)).cell 0;have Qg:=AO (SP.X6 hP h4);obtain⟨one,gM⟩:=ao (decide (P.nb<=P.rb));rw[gM]at Qg;have a6:decide ((P.nb:Int)<=(P.rb:Int))=one:=by rw[<-gM];simp
 have HP:=AO hP;clear EJ I8 Ky ad h h1 h2 h3 h4 av z1 z2 r2 rs hP;go_enter func130,ntmps130
 go_upto_region 1 with(fail)
 rw[<-Jz.out];go_upto_region 2 with(fail)
 rw[<-az.out];go_wp2_with fail
 refine Qg.out.mono ?_;rintro e w5 ⟨F,N,k',C,er,rfl,xJ⟩;have Qx:=xJ.box (W':=w5.alloc (AK #[F,N,k',C] 28)) ((AS _ _).alloc ar _) (heap_alloc_new w5 (AK #[F,N,k',C] 28)) ar;have jI:Hid (∃q i F9 N9 C9,(er=0/\({P with b7:=w5}:SP).A q i F9 N9 C9 (w5.alloc (AK #[F,N,k',C] 28)))\/({P with b7:=w5}:SP).E er q (w5.alloc (AK #[F,N,k',C] 28))):=by
  rcases Qx with⟨e1,e2,hA⟩|⟨_,hE⟩
  ·exact⟨_,_,F,N,C,.inl ⟨e1,hA⟩⟩
  ·exact⟨P.rb,0,F,N,C,.inr hE⟩
 clear Qx xJ Qg u2 u3 u6 gM a6 q2 s2;go_upto_region 3 with(fail)
 generalize w5.alloc (AK #[F,N,k',C] 28)=w6 at*
 generalize w5.heap.size=b7 at*
 obtain⟨Q,J⟩:∃Q:SP,Q={P with b7:=b7}:=⟨_,rfl⟩;have qX:Hid (Q.Ok js):=by rw[J];exact⟨HP.out.row,HP.out.f,HP.out.c,HP.out.src,HP.out.rb,HP.out.Dn,HP.out.room1,HP.out.room2,HP.out.rm,HP.out.n,HP.out.prod⟩
 have aA:Hid (Q.p6=P.p6):=by rw[J];rfl
 have e1:P.sb=Q.sb:=by rw[J]
 have e2:P.b2=Q.b2:=by rw[J]
 have e3:P.b3=Q.b3:=by rw[J]
 have e4:P.b4=Q.b4:=by rw[J]
 have e6:P.b6=Q.b6:=by rw[J]
 have e7:b7=Q.b7:=by rw[J]
 have e8:P.nb=Q.nb:=by rw[J]
 have e9:P.k=Q.k:=by rw[J]
 rw[<-J]at jI;have a9:=AO J;clear J DT ED IE RG z3 Jz az;rw[e1,e2,e3,e4,e6,e7];have bb:=qX.out.Dn;have a8:Q.nb<=100000:=by
  have h1:=qX.out.f.bn;have h2:=Dl Q.hh Q.l.length;have h3:=qX.out.f.len;omega
 clear e1 e2 e3 e4 e6 e7 e8 e9;go_loopw [8] (λiv wr=>∃(er:Int) (q i F N C:Nat),iv=AA AB er/\Hid ((er=0/\Q.A q i F N C wr)\/Q.E er q wr)) (λ_ wr=>Q.nb-qOf Q.b6 wr)
 case atStart=>
  obtain⟨q,i,F,N,C,h1⟩:=jI.out;exact⟨er,q,i,F,N,C,rfl,h1⟩
 case round=>
  obtain⟨er,q,i,F,N,C,rfl,G7⟩:=hrel;clear jI;rcases G7.out with⟨rfl,hA⟩|hE
  ·obtain⟨k2,k3,k4,k6,k7⟩:=hA.row;have kS:=hA.sort qX.out;have c6:wr.cell? Q.b6=AE (AA AB q):=k6.cell 0;have a1:wr.cell? (Q.b3,1)=AE (AA AB Q.nb):=k3.cell 1;have HA:=AO hA;by_cases hq:q<Q.nb
   ·obtain⟨l0,hF,hN,hL,aS,U⟩:=hA.step qX.out hq;obtain⟨L,qQ⟩:=ao (q*Q.Dn);have hmul:(q:Int)*(Q.Dn:Int)=(L:Int):=by rw[<-qQ];exact(Br q Q.Dn).symm
    have jg:=AO qQ;have aE:qOf Q.b6 wr=q:=bT k6;have a2:=AO aE;rw[qQ]at hL aS;have wI:Row ((wr.alloc (AK #[F,N,Q.k,C] 28)).drew) wr 28 [F,N,Q.k,C]:=Row.drewN (heap_alloc_new wr (AK #[F,N,Q.k,C] 28)) 1;have au:=U _ wr (((AS wr wr).alloc ar _).drew) wI ar;obtain⟨yj,nG⟩:=ao (decide (Q.nb<=q*Q.Dn));rw[nG]at au;rw[qQ]at nG;have bc:decide ((Q.nb:Int)<=(L:Int))=yj:=by rw[<-nG];simp
    have aB:=AO au;have aw:Ab.wrap (L:Int)=(L:Int):=Al _ a5;have vA:=AO aw;have al:∀w,Below wr wr w->(w.cell? Q.b7=AE (AA AB F)/\w.cell? (Q.b7,1)=AE (AA AB N)/\w.cell? (Q.b7,2)=AE (AA AB Q.k)/\w.cell? (Q.b7,3)=AE (AA AB C)/\w.cell? Q.b6=AE (AA AB q)/\w.cell? Q.b2=AE (AI Q.sb)/\w.cell? (Q.sb,3)=AE (AA AB Q.Dn)):=λw hb=>by
     have I:=k7.below hb k7.lt;exact⟨I.cell 0,I.cell 1,I.cell 2,I.cell 3,(k6.below hb k6.lt).cell 0,(k2.below hb k2.lt).cell 0,(kS.below hb kS.lt).cell 3⟩
    have ab:∀cs,Below wr wr ((wr.alloc (.cells cs 28)).drew):=λcs=>((AS wr wr).alloc ar _).drew;have s1:=al wr.drew (DC (AS _ _));have s2:=al _ (ab #[(),(),(),()]);have s3:=al _ (ab #[F,N,Q.k,C]);have a0:((wr.alloc (AK #[F,N,Q.k,C] 28)).drew).cell? (Q.b3,1)=AE (AA AB Q.nb):=(k3.below (ab #[F,N,Q.k,C]) k3.lt).cell 1;have d2:((wr.alloc (AK #[F,N,Q.k,C] 28)).drew).cell? Q.b2=AE (AI Q.sb):=s3.2.2.2.2.2.1;clear aw wI au U aE qQ ab k2 k3 k4 k6 k7 kS hA al;go_upto_region 4 with(fail)
    go_region_held3 (λw=>w.cell? Q.b7=AE (AA AB F)/\w.cell? (Q.b7,1)=AE (AA AB N)/\w.cell? (Q.b7,2)=AE (AA AB Q.k)/\w.cell? (Q.b7,3)=AE (AA AB C)/\w.cell? Q.b6=AE (AA AB q)/\w.cell? Q.b2=AE (AI Q.sb)/\w.cell? (Q.sb,3)=AE (AA AB Q.Dn)) (first|with_reducible exact s1|with_reducible exact s2|with_reducible exact s3) (fail)
    rw[vA.out];clear s1 s2 s3;generalize(wr.alloc (AK #[F,N,Q.k,C] 28)).drew=w7 at*
    generalize wr.heap.size=b9 at*
    clear G7 HA c6 a1;go_wp2_with fail
    refine aB.out.mono ?_;rintro e w8 ⟨F',N',k9,C',ay,rfl,aq⟩;obtain⟨j2,j6,O,jS,I⟩:=aq.row qX.out;have I:=I [F,N,Q.k,C] rfl;obtain⟨x0,x1,x2,x3⟩:=I.q4;obtain⟨y0,y1,y2,y3⟩:=I.r4;have ax:=aq.yP (A:=F') (B:=N') (K:=k9) (D:=C') rfl;clear aq aB d2 a0 j2 j6 O jS I;go_upto_region 6 with(fail)
    generalize((((w8.setCell Q.b7 F').setCell (Q.b7,1) N').setCell (Q.b7,2) k9).setCell (Q.b7,3) C')=w9 at*
    clear x0 x1 x2 x3 y0 y1 y2 y3;have zk:=ax.below (DC (AS _ _));obtain⟨j2,j6,O,jS,I⟩:=zk.row qX.out;have s4:w9.drew.cell? Q.b2=AE (AI Q.sb)/\w9.drew.cell? (Q.sb,4)=AE (AI Q.X.p.w)/\w9.drew.cell? b9=AE (AA AB F)/\w9.drew.cell? (b9,1)=AE (AA AB N)/\w9.drew.cell? (b9,2)=AE (AA AB Q.k)/\w9.drew.cell? (b9,3)=AE (AA AB C):=⟨j2.cell 0,jS.cell 4,O.cell 0,O.cell 1,O.cell 2,O.cell 3⟩;have QF:=AO (zk.free hF hN C);have aC:Hid (∀w,Q.CC q i F' N' k9 C' ay q Dw (DM Q.b7 F' N' k9 C') (DM b9 F N Q.k C) w->w.cell? Q.b2=AE (AI Q.sb)/\w.cell? (Q.sb,4)=AE (AI Q.X.p.w)/\w.cell? b9=AE (AA AB F)/\w.cell? (b9,1)=AE (AA AB N)/\w.cell? (b9,2)=AE (AA AB Q.k)/\w.cell? (b9,3)=AE (AA AB C)):=λw h=>by
     obtain⟨j2,j6,O,jS,I⟩:=h.row qX.out;exact⟨j2.cell 0,jS.cell 4,O.cell 0,O.cell 1,O.cell 2,O.cell 3⟩
    clear zk j2 j6 O jS I ax;go_region_held3 (λw=>w.cell? Q.b2=AE (AI Q.sb)/\w.cell? (Q.sb,4)=AE (AI Q.X.p.w)/\w.cell? b9=AE (AA AB F)/\w.cell? (b9,1)=AE (AA AB N)/\w.cell? (b9,2)=AE (AA AB Q.k)/\w.cell? (b9,3)=AE (AA AB C)) (first|with_reducible exact s4|with_reducible exact s5)
     ((go_at_call 67;(with_reducible refine QF.out.mono ?_);rintro e Lf ⟨rfl,OH⟩;have s5:=aC.out Lf OH))
    have zM:=(OH.row qX.out).2.1;have c6:Lf.cell? Q.b6=AE (AA AB q):=zM.cell 0;have f6:Lf.frozen? Q.b6=false:=zM.free 0;have Xv:=OH.yQ (n:=L);have aR:=(Xv.row qX.out).2.1;have aD:=bT aR;have IS:=SP.CC.fin (by rw[<-jg.out]at Xv;exact Xv);rw[jg.out]at IS;have I5:=AO IS;have a3:=AO aD;clear OH Xv zM aR aD IS s4 s5 QF aC;go_wp2
    go_roundw
    case rel=>exact⟨ay,L,i+1,F',N',C',rfl,I5.out⟩
    case measure=>rw[a3.out,a2.out];omega
   ·have an:Q.nb<=q:=a5;have ba:=AO an;obtain⟨d0,d1,d2,d3⟩:=k7.q4;obtain⟨z0,z1,z2,z3⟩:=k4.q4;obtain⟨y0,y1,y2,y3⟩:=k4.r4;have IS:=hA.fin an rfl;clear k2 k3 k4 k6 k7 kS hA an;go_wp2
    generalize((((wr.setCell Q.b4 F).setCell (Q.b4,1) N).setCell (Q.b4,2) Q.k).setCell (Q.b4,3) C)=w9 at*
    obtain⟨⟨q0,q1,q2,q3⟩,HD⟩:=IS;rw[aA.out]at HD;exact BA (v:=AM #[AL #[F,N,Q.k,C],()]) (by simp[results,Tryz.results130,go_sem,q0,q1,q2,q3]) rfl HD.out
  ·obtain⟨k2,k3,k4,k6,k7⟩:=hE.row;obtain⟨d0,d1,d2,d3⟩:=k7.q4;obtain⟨z0,z1,z2,z3⟩:=k4.q4;obtain⟨y0,y1,y2,y3⟩:=k4.r4;have gX:er=5\/er=6:=hE.1.elim (λh=>.inl h.1) λh=>.inr h.1;have IS:=hE.fin rfl;have a7:(er==0)=false:=by rcases gX with rfl|rfl<;>rfl
   clear k2 k3 k4 k6 k7 hE G7 gX;go_wp2
   generalize((((wr.setCell Q.b4 ()).setCell (Q.b4,1) ()).setCell (Q.b4,2) ()).setCell (Q.b4,3) ())=w9 at*
   obtain⟨⟨q0,q1,q2,q3⟩,HD⟩:=IS;rw[aA.out]at HD;exact BA (v:=AM #[AL #[(),(),(),()],er]) (by simp[results,Tryz.results130,go_sem,q0,q1,q2,q3]) rfl HD.out
end
def Nh(X:Cx)(os:List DD)(i m first nb k hh:Nat)(l:List Cy)(W:World):Prop:=∃G D A S,KZ X (os.set i Dw) m W G D A S/\EO D first k hh l nb/\∀z,first<=z->z<first+nb->hasB S.fr z
section
variable{X:Cx}{os:List DD}{m i:Nat}{W W':World}{G:Nat->Prop}{D:St}{A:Ar}{S:Sp}{first nb k hh:Nat}{l:List Cy}
theorem kD(h:Wd X os m W)(hi:os[i]?=AE (De first nb k hh l X.sz))(hf:first<=2000000)(hn:nb<=2000000)(c:Nat):
  Calls AP 67 #[AI X.p.w,AL #[first,nb,k,c]] W λe w'=>e=AH ()/\Nh X os i m first nb k hh l w':=by
 obtain⟨G,D,A,S,h⟩:=h;have ab:EO D first k hh l nb:=h.Um i _ hi h.size;obtain⟨Vo,J⟩:=h.held hi;have Vo:∀z,I7 (first,nb) z->¬hasB S.fr z:=Vo;have J:0<nb->S.first<=first/\first+nb<=S.first+S.blocks:=J;have U:=Jk (S:=S) h.sys.eZ (f:=first) (n:=nb) (by
  rcases BB nb with I|I
  ·exact .inr I
  ·exact .inl (J I).1) (by
  rcases BB nb with I|I
  ·exact .inr I
  ·exact .inl (J I).2) (λz O z2=>Vo z ⟨O,z2⟩)
 have Xt:(if nb=0 then 0 else (E5 S first nb).2)=0:=by
  by_cases I:nb=0
  ·rw[if_pos I]
  ·rw[if_neg I];rcases Jj (s:=S) h.sys.eZ (first:Int) (nb:Int)with⟨s',a',m',ha,hm,h1,he,hg⟩|⟨_,KW⟩
   ·rw[he]
   ·exact absurd ⟨(J a5).1,(J a5).2,λz O z2=>Vo z ⟨O,z2⟩⟩ (KW first nb rfl rfl a5)
 refine(Uk (F:=⟨D,A,S⟩) h.sys first nb k c a5 a5).mono ?_;rintro e w' ⟨he,G',k1,k2,k3⟩;refine⟨by rw[he,Xt];rfl,G',_,_,_,h.step hi k1 (k2.mono λk hk=>.inl hk) k3 LS trivial (λk hk=>hk.elim) ⟨rfl,rfl⟩ h.alive id h.Dp (λ_ _=>rfl) trivial rfl rfl (λ_ _ hw _=>hw) (λb n hb=>by cases hb) ⟨U.1,U.2.1⟩ (λz=>?_) (λz Q=>absurd Q (DX _ _)) ?_,ab,λz O z2=>(U.2.2.1 z).2 (.inr ⟨O,z2⟩)⟩
 ·show hasB (Dq S first nb).fr z↔ _;rw[U.2.2.1 z];exact⟨λQ=>⟨Q,DX _ _⟩,λQ=>Q.1⟩
 ·show EI (Dq S first nb).fr+0=EI S.fr+nb;rw[U.2.2.2];omega
theorem Nh.below(h:Nh X os i m first nb k hh l W)(hb:Below W W W'):Nh X os i m first nb k hh l W':=by
 obtain⟨G,D,A,S,I,e,h3⟩:=h;exact⟨G,D,A,S,I.below hb,e,h3⟩
theorem Nh.wd(h:Nh X os i m first nb k hh l W):Wd X (os.set i Dw) m W:=by
 obtain⟨G,D,A,S,e,_⟩:=h;exact⟨G,D,A,S,e⟩
theorem Nh.none(h:Nh X os i m first 0 k hh l W)(hi:i<os.length):Wd X (os.set i (De first 0 k hh l X.sz)) m W:=by
 obtain⟨G,D,A,S,I,O,h3⟩:=h;have Q:(os.set i Dw)[i]?=AE Dw:=by rw[Aw,if_pos rfl,if_pos hi]
 have h4:=I.step Q I.sys (DJ.refl _ _) (λk J=>.inl J) (aP (first:=first) (nb:=0) (k:=k) (h:=hh) (l:=l) (sz:=X.sz)) trivial (λk J=>J.elim) ⟨rfl,rfl⟩ I.alive id I.Dp (λ_ _=>rfl) (λ_=>O) rfl rfl (λ_ _ hw _=>hw) (λb n hb=>by cases hb) ⟨rfl,rfl⟩ (λz=>⟨λe=>⟨.inl e,DX _ _⟩,λe=>e.1.elim id λh=>absurd h (DX _ _)⟩) (λz e=>absurd e (DX _ _)) rfl;rw[List.set_set]at h4;exact⟨G,D,A,S,h4⟩
theorem kC(h:Nh X os i m first nb k hh l W)(hi:i<os.length)(hn:0<nb/\nb<=2000000)(hf:first<=2000000):
  Calls AP 64 #[AI X.p.s,first,nb] W λe w'=>e=AH ()/\Wd X (os.set i (De first nb k hh l X.sz)) m w':=by
 obtain⟨G,D,A,S,I,h2,h3⟩:=h;have Eu:(os.set i Dw)[i]?=AE Dw:=by rw[Aw,if_pos rfl,if_pos hi]
 obtain⟨Gs,hs,Ib⟩:=I.sys.spc;rcases SW (s:=S) I.sys.eZ (first:Int) (nb:Int)with⟨s',a',m',Q,hm,h4,he,hg⟩|⟨_,KW⟩
 ·have Q:a'=first:=a5;have hm:m'=nb:=a5;subst Q hm;refine(Xj X.p.s S Gs (a':Int) (m':Int) W hs (Gj.of a5 a5) (Gj.of a5 a5)).mono ?_;rw[he];rintro e w' ⟨h5,h6⟩;obtain⟨G',k1,k2,k3⟩:=Ib _ _ h6;have U:=I.step Eu k1 (k2.mono λk J=>.inl J) k3 (aP (first:=a') (nb:=m') (k:=k) (h:=hh) (l:=l) (sz:=X.sz)) trivial (λk J=>J.elim) ⟨rfl,rfl⟩ I.alive id I.Dp (λ_ _=>rfl) (λ_=>h2) rfl rfl (λ_ _ hw _=>hw) (λb n hb=>by cases hb) ⟨hg.first,hg.blocks⟩ (λz=>by
    show hasB s'.fr z↔(hasB S.fr z\/I7 (0,0) z)/\¬I7 (a',m') z;rw[hg.has z];exact⟨λ⟨x,y⟩=>⟨.inl x,y⟩,λ⟨x,y⟩=>⟨x.elim id λh=>absurd h (DX _ _),y⟩⟩) (λz O=>.inr (h3 z O.1 O.2)) (by
    show EI s'.fr+m'=EI S.fr+0;have:=hg.sum;omega)
  rw[List.set_set]at U;exact⟨h5,G',_,_,_,U⟩
 ·exact absurd (λb Dg DT=>h3 b Dg DT) (KW first nb rfl rfl a5)
theorem dz(h:Wd X os m W)(hi:os[i]?=AE (De first nb k hh l X.sz))(hf:first<=2000000)(hn:nb<=2000000)(c:Nat):
  Calls AP 127 #[AI X.p.w,AL #[first,nb,k,c]] W λe w'=>e=AH true/\Wd X os m w':=by
 have ao:=MG hi;have al:=Iv hi;obtain⟨W1,EJ⟩:=ae (W.alloc (AK #[first,nb,k,c] 28));have Dg:Below W W W1:=by rw[EJ];exact(AS _ _).alloc ar _
 have Et:Row W1 W 28 [first,nb,k,c]:=by rw[EJ];exact heap_alloc_new _ _
 have h1:Wd X (os++[Cv W 28 [first,nb,k,c]]) m W1:=h.new Dg Et ar;have cN:(os++[Cv W 28 [first,nb,k,c]])[i]?=AE (De first nb k hh l X.sz):=Dj hi;have QF:=AO (kD h1 cN hf hn c);obtain⟨b0,b1,b2,b3⟩:=Et.q4;have FQ:=AO EJ;generalize aE:W.heap.size=s0 at*
 have ab:∀w,Wd X ((os++[Cv s0 28 [first,nb,k,c]]).set i (De first nb k hh l X.sz)) m w->Wd X os m w:=λw hw=>by
  rw[Iv cN]at hw;exact hw.forget (DI ⟨rfl,rfl⟩ Eb)
 have Du:=AO ab;have Q:i<(os++[Cv s0 28 [first,nb,k,c]]).length:=MG cN;have J:∀w,Nh X (os++[Cv s0 28 [first,nb,k,c]]) i m first nb k hh l w->Row w s0 28 [first,nb,k,c]:=λw hw=>by
  have h9:=hw.wd;rw[IW hi]at h9;exact h9.row (by
   have OH:=DG (os.set i Dw) [Cv s0 28 [first,nb,k,c]] 0;exact OH)
 have GC:=AO J;clear EJ Dg Et h h1 cN ab J al;have aq:(nb:Int)<=2000000:=a5;go_enter func127,ntmps127
 go_upto_region 1 with(fail)
 rw[<-FQ.out];clear FQ aE;go_wp2_with fail
 refine QF.out.mono ?_;rintro e w2 ⟨rfl,O⟩;have EC:=GC.out w2 O;clear QF b0 b1 b2 b3;rcases BB nb with h0|h0
 ·have U:Wd X ((os++[Cv s0 28 [first,nb,k,c]]).set i (De first nb k hh l X.sz)) m w2:=by subst h0;exact O.none Q
  have H3:=AO (Du.out w2 U);clear U;have c1:w2.drew.cell? (s0,1)=AE (AA AB nb):=EC.cell 1;have c0:w2.drew.cell? s0=AE (AA AB first):=EC.cell 0;have g0:((nb:Int)==0)=true:=by simp;omega
  have H4:=AO (H3.out.drewN 1);have H2:=AO O;clear O EC;go_wp2_with fail
  go_region
  go_wp2
  go_ret
  exact⟨rfl,H4.out⟩
 ·have I:=O.below (DC (AS _ _));have zL:=GC.out _ I;have c1:w2.drew.cell? (s0,1)=AE (AA AB nb):=zL.cell 1;have c0:w2.drew.cell? s0=AE (AA AB first):=zL.cell 0;have g0:((nb:Int)==0)=false:=by simp;omega
  have HH:=AO (kC I Q ⟨h0,hn⟩ hf);have an:=AO (PX I.wd);have H2:=AO O;have ad:Hid (∀w,Wd X ((os++[Cv s0 28 [first,nb,k,c]]).set i (De first nb k hh l X.sz)) m w->w.cell? (s0,1)=AE (AA AB nb)/\w.cell? s0=AE (AA AB first)):=λw hw=>by
   rw[IW hi]at hw;have OH:=hw.row (DG (os.set i (De first nb k hh l X.sz)) [Cv s0 28 [first,nb,k,c]] 0);exact⟨OH.cell 1,OH.cell 0⟩
  clear O EC I zL;go_wp2_with fail
  go_region_held3 (λw=>w.cell? (s0,1)=AE (AA AB nb)/\w.cell? s0=AE (AA AB first)) (first|with_reducible exact⟨c1,c0⟩|with_reducible exact q5)
   (first
    |(go_at_call 42;(with_reducible refine an.out.mono ?_);rintro e w5 ⟨rfl,rfl⟩)
    |(go_at_call 64;(with_reducible refine HH.out.mono ?_);rintro e w5 ⟨rfl,h5⟩;have q5:=ad.out w5 h5))
  have H9:=AO (Du.out _ h5);clear h5 q5;go_wp2
  go_ret
  exact⟨rfl,H9.out⟩
theorem Wv{rm rb Dn}(h:Wd X os m W)(k0:0<k/\k<=5)(Lu:hh=Cw X.sz k)(Gt:0<hh)(ML:min (X.rm-DF DD.gw os) 65536=rm)(aq:2*X.sz<=rm)(J:(rm-2*X.sz)/(hh*k)=rb)(Qw:(rm-X.sz)/(X.sz+k)=Dn):
  Calls AP 129 #[AI X.p.w,k] W λe w'=>e=AH (AL #[k,hh,rb,Dn])/\Below W W w':=by
 obtain⟨W1,EJ⟩:=ae (W.alloc (AK #[(),(),(),()] 190));have Dg:Below W W W1:=by rw[EJ];exact(AS _ _).alloc ar _
 have Et:Row W1 W 190 [(),(),(),()]:=by rw[EJ];exact heap_alloc_new _ _
 have U:=h.below Dg;have ab:=h.bounds;have HD:=AO (RZ U);have HZ:=AO (RY U);have HO:=AO (j4 U k);rw[<-Lu]at HO;have jn:=AO (Nk U);have xo:=AO (U7 U);have JI:hh<=256:=by rw[Lu];exact Ag (Ix _ _) (by have:=ab.1.2;omega)
 have az:rm<=65536:=by rw[<-ML];exact Nat.min_le_right _ _
 generalize hG:X.rm-DF DD.gw os=LF at*
 have wS:(if 65536<LF then (65536:Int)else (LF:Int))=(rm:Int):=by rw[<-ML];split<;>omega
 have aA:(if (65536:Int)<(LF:Int)then (65536:Int)else (LF:Int))=(rm:Int):=by rw[<-ML];split<;>omega
 generalize hz:X.sz=sz at*
 obtain⟨S2,al⟩:=ao (2*sz);obtain⟨A1,Tz⟩:=ao (rm-S2);obtain⟨Q,O⟩:=ao (hh*k);obtain⟨B1,xJ⟩:=ao (rm-sz);obtain⟨SK,ad⟩:=ao (sz+k);rw[al]at J;rw[Tz,O]at J;rw[xJ,ad]at Qw;have aw:0<Q:=by rw[<-O];exact Nat.mul_pos Gt k0.1
 have av:Q<=1280:=by rw[<-O];exact Nat.mul_le_mul JI k0.2
 have e1:(2:Int)*(sz:Int)=(S2:Int):=a5;have e2:(rm:Int)-(S2:Int)=(A1:Int):=a5;have e3:(hh:Int)*(k:Int)=(Q:Int):=by rw[<-O];exact(Br hh k).symm
 have e4:(A1:Int).tdiv (Q:Int)=(rb:Int):=by rw[<-J];rfl
 have e5:(rm:Int)-(sz:Int)=(B1:Int):=a5;have e6:(sz:Int)+(k:Int)=(SK:Int):=a5;have e7:(B1:Int).tdiv (SK:Int)=(Dn:Int):=by rw[<-Qw];rfl
 have n1:¬((Q:Int)=0):=a5;have n2:¬((SK:Int)=0):=a5;have n3:((Q:Int)==0)=false:=by simpa using n1
 have n4:((SK:Int)==0)=false:=by simpa using n2
 have n5:¬(Q=0):=a5;have n6:¬(SK=0):=a5;have ay:rb<=65536:=by rw[<-J];exact Ag (BX _ _) a5
 have ax:Dn<=65536:=by rw[<-Qw];exact Ag (BX _ _) a5
 have w1:Ab.wrap (S2:Int)=(S2:Int):=Al _ a5;have w2:Ab.wrap (A1:Int)=(A1:Int):=Al _ a5;have w3:Ab.wrap (Q:Int)=(Q:Int):=Al _ a5;have w4:Ab.wrap (rb:Int)=(rb:Int):=Al _ a5;have w5:Ab.wrap (B1:Int)=(B1:Int):=Al _ a5;have w6:Ab.wrap (SK:Int)=(SK:Int):=Al _ a5;have w7:Ab.wrap (Dn:Int)=(Dn:Int):=Al _ a5;have FQ:=AO EJ;have NQ:=AO Dg;have Ka:=AO Et;generalize aE:W.heap.size=s0 at*
 obtain⟨x0,x1,x2,x3⟩:=Ka.out.q4;obtain⟨f0,f1,f2,f3⟩:=Ka.out.r4;clear EJ Dg Et h U ML hG al Tz O xJ ad Lu J Qw hz ab aq;go_enter func129,ntmps129
 go_upto_region 1 with(fail)
 rw[<-FQ.out];clear FQ;go_wp2_with fail
 refine HD.out.mono ?_;rintro e w ⟨rfl,rfl⟩;go_wp2_with fail
 refine HZ.out.mono ?_;rintro e w' ⟨rfl,rfl⟩;go_wp2_with fail
 refine HO.out.mono ?_;rintro e Eo ⟨rfl,rfl⟩;go_wp2_with fail
 refine jn.out.mono ?_;rintro e au ⟨rfl,rfl⟩;go_wp2_with fail
 refine xo.out.mono ?_;rintro e I ⟨rfl,rfl⟩;go_upto_region 3 with(fail)
 refine wp_region_still_tail 18 a7 a7 ?_;simp only[List.take_succ_cons,Bs,List.drop_succ_cons,Cr];change wpStill AP _ I.drew (λa'=>wpList AP _ _ _ a' I.drew) _ _
 repeat still_step
 refine wpStill_nil ?_;go_wp2
 have EG:Row (((((I.setCell s0 k).setCell (s0,1) hh).setCell (s0,2) rb).setCell (s0,3) Dn).drew) s0 190 [k,hh,rb,Dn]:=((((Ka.out.set 0 k).set 1 hh).set 2 rb).set 3 Dn).drewN 1;have an:Below W W (((((I.setCell s0 k).setCell (s0,1) hh).setCell (s0,2) rb).setCell (s0,3) Dn).drew):=by
  have h0:Below s0 W I:=NQ.out;have U:=h0.setCell (p:=s0) ar k;have h2:=U.setCell (p:=(s0,1)) ar hh;have h3:=h2.setCell (p:=(s0,2)) ar rb;have h4:=(h3.setCell (p:=(s0,3)) ar Dn).drew;rw[aE];exact h4
 generalize((((I.setCell s0 k).setCell (s0,1) hh).setCell (s0,2) rb).setCell (s0,3) Dn).drew=w9 at*
 obtain⟨q0,q1,q2,q3⟩:=EG.q4;rw[aE]at an;exact BA (v:=AL #[k,hh,rb,Dn]) (by simp[results,Tryz.results129,go_sem,q0,q1,q2,q3]) rfl ⟨rfl,an⟩
end
section
variable{X:Cx}{os:List DD}{m i:Nat}{W W':World}{G:Nat->Prop}{D:St}{A:Ar}{S:Sp}{first nb k hh count:Nat}{l:List Cy}
def jo(W w:World)(a:Nat):Prop:=Below W W w/\W<=a/\J5 w (λk=>k=a) a (empty 0)
theorem jo.below{W w w' a}(h:jo W w a)(hb:Below w w w'):jo W w' a:=
 ⟨h.1.trans (hb.mono h.1.size),h.2.1,h.2.2.E4 (DJ.DE hb λ_=>False) (λ_ _ h=>h) (λ_ _ h=>h)⟩
theorem bN{w a wp n p}(h:Sys W G p ⟨D,A,S⟩ n)(h0:jo W w a)(hr:Row w wp 87 [ptr p.d,ptr a,ptr p.s])(hw:W<=wp/\wp≠a):∃G',Sys w G' ⟨wp,p.d,a,p.s⟩ ⟨D,empty 0,S⟩ n:=by
 have O:=λk I=>h.lt (k:=k) I;obtain⟨hb,RH,ha⟩:=h0;obtain⟨U,Ga,Q,ab,hd,Sl,hs,hg,h1,h2,h3,h4⟩:=h.below hb;have J:∀k,U k\/Q k->k<W:=λk I=>O k ((hg k).2 (I.elim (λh=>.inr (.inl h)) λh=>.inr (.inr (.inr h))));refine⟨λk=>k=wp\/U k\/k=a\/Q k,U,λk=>k=a,Q,hr,hd,ha,hs,λk=>BO,λk I=>⟨λe=>?_,(h1 k I).2.1,λe=>?_⟩,λk I=>⟨λKG=>?_,λe=>?_⟩,λk I e=>?_,λq hq=>by cases hq⟩
 ·have e:k=a:=e;have:=J k (.inl I);omega
 ·have e:k=wp:=e;have:=J k (.inl I);omega
 ·have I:k=a:=I;have:=J k (.inr KG);omega
 ·have I:k=a:=I;have e:k=wp:=e;omega
 ·have e:k=wp:=e;have:=J k (.inr I);omega
end
section
variable{X:Cx}{os:List DD}{m i:Nat}{W W':World}{G:Nat->Prop}{D:St}{A:Ar}{S:Sp}{first nb k hh count:Nat}{l:List Cy}
theorem iX(h:Wd X os m W)(Lu:hh=Cw X.sz k)(Gt:0<hh)(hnb:nb=Cu hh count)(JC:count<=100000):
  Calls AP 126 #[AI X.p.w,AL #[first,nb,k,count]] W λe w'=>e=AH true/\Below W W w':=by
 obtain⟨W1,EJ⟩:=ae (W.alloc (AK #[first,nb,k,count] 28));have Dg:Below W W W1:=by rw[EJ];exact(AS _ _).alloc ar _
 have Et:Row W1 W 28 [first,nb,k,count]:=by rw[EJ];exact heap_alloc_new _ _
 obtain⟨G,D,A,S,hF⟩:=h;have h1:=hF.below Dg;have ad:8<=X.sz:=(Wd.bounds ⟨G,D,A,S,hF⟩).1.1;have ao:Hid (∀w,Below W1 W1 w->Calls AP 19 #[AI X.p.w] w λe w'=>e=AH (AI X.p.d)/\w'=w):=λw hb=>RZ ⟨G,D,A,S,h1.below hb⟩;have an:Hid (∀w,Below W1 W1 w->Calls AP 42 #[AI X.p.w] w λe w'=>e=AH (AI X.p.s)/\w'=w):=λw hb=>PX ⟨G,D,A,S,h1.below hb⟩;have aq:Hid (∀w,Below W1.heap.size W1 w->Calls AP 25 #[AA AB 0] w λe w'=>∃a,e=AH (AI (AE ⟨a,0,AD⟩))/\jo W1 w' a):=λw hb=>by
  refine(QB 0 w a5 a5).mono ?_;rintro e w' ⟨he,ha,DT⟩;exact⟨w,he,hb.trans (DT.mono hb.size),hb.size,ha⟩
 have al:Hid (∀w a,jo W1 w a->Calls AP 24 #[AI (AE ⟨X.p.d,0,AD⟩),AI (AE ⟨a,0,AD⟩),AI (AE ⟨X.p.s,0,AD⟩)] w λe w'=>∃wp,e=AH (AI (AE ⟨wp,0,AD⟩))/\jo W1 w' a/\Row w' wp 87 [ptr X.p.d,ptr a,ptr X.p.s]/\W1.heap.size<=wp/\wp≠a):=λw a J=>by
  refine(Sq X.p.d a X.p.s w).mono ?_;rintro e w' ⟨he,rfl⟩;have aC:a<w:=J.2.2.lt rfl;exact⟨w.heap.size,he,J.below ((AS _ _).alloc ar _),heap_alloc_new _ _,J.1.size,a5⟩
 have Lx:Hid (∀w a wp,jo W1 w a->Row w wp 87 [ptr X.p.d,ptr a,ptr X.p.s]->W1<=wp->wp≠a->Calls AP 46 #[AI wp,AL #[first,nb,k,count]] w λe w'=>e=AH (AM #[AI AD,AA AB 7])/\Below W1 W1 w'):=λw a wp J hr hw ab=>by
  obtain⟨G',mh⟩:=bN h1.sys J hr ⟨hw,ab⟩;have Q:D.size=X.sz:=hF.size;refine(So mh k hh first nb count (by show hh=Cw D.size k;rw[Q];exact Lu) Gt hnb a5 (by show (empty 0).room-(empty 0).used<D.size;rw[Q];exact BN (by show 0-0<8;omega) ad)).mono ?_;rintro e w' ⟨he,hb⟩;exact⟨he,J.1.trans (hb.mono J.1.size)⟩
 have PF:Hid (∀w,Below W1 W1 w->w.cell? W=AE (AA AB first)/\w.cell? (W,1)=AE (AA AB nb)/\w.cell? (W,2)=AE (AA AB k)/\w.cell? (W,3)=AE (AA AB count)):=λw hb=>by
  have h9:=Et.below hb Et.lt;exact⟨h9.cell 0,h9.cell 1,h9.cell 2,h9.cell 3⟩
 have I5:Hid (∀w,Below W1 W1 w->Below W W w):=λw hb=>Dg.trans (hb.mono Dg.size);have I:Below W1 W1 W1.drew:=DC (AS _ _);have q0:=PF.out _ I;have FQ:=AO EJ;have au:=AO hnb;have av:=AO Lu;generalize aE:W.heap.size=s0 at*
 clear EJ Dg Et hF h1 hnb Lu;go_enter func126,ntmps126
 go_upto_region 1 with(fail)
 rw[<-FQ.out];clear FQ;go_region_held3 (λw=>w.cell? ⟨s0,0,AD⟩=AE (AA AB first)/\w.cell? ⟨s0,1,AD⟩=AE (AA AB nb)/\w.cell? ⟨s0,2,AD⟩=AE (AA AB k)/\w.cell? ⟨s0,3,AD⟩=AE (AA AB count)) (first|with_reducible exact q0|with_reducible exact U|with_reducible exact q6|with_reducible exact q7)
  (first
   |(go_at_call 19;(with_reducible refine(ao.out _ (by first|with_reducible exact I|with_reducible exact Fx)).mono ?_);rintro e w4 ⟨rfl,rfl⟩)
   |(go_at_call 42;(with_reducible refine(an.out _ (by first|with_reducible exact I|with_reducible exact Fx)).mono ?_);rintro e w4 ⟨rfl,rfl⟩)
   |(go_at_call 25;(with_reducible refine(aq.out _ I).mono ?_);rintro e w5 ⟨a,rfl,h5⟩;have Fx:=h5.1;have U:=PF.out w5 Fx;have q6:=U;have q7:=U)
   |(go_at_call 24;(with_reducible refine(al.out _ _ h5).mono ?_);rintro e w6 ⟨wp,rfl,h6,MM,qE,O⟩;have q6:=PF.out w6 h6.1)
   |(go_at_call 46;(with_reducible refine(Lx.out _ _ _ h6 MM qE O).mono ?_);rintro e w7 ⟨rfl,zo⟩;have q7:=PF.out w7 zo))
 all_goals
  have H9:=AO (I5.out _ zo);clear zo q7 q6 U q0 h6 MM qE O h5 Fx I;go_wp2
  go_ret
  exact⟨rfl,by rw[aE]at*;exact H9.out⟩
end
section
variable{X:Cx}{os:List DD}{m i:Nat}{W W':World}{first nb k hh count:Nat}{l:List Cy}{o:Cy}{once:Bool}
def V8(X:Cx)(os:List DD)(i m nb k hh:Nat)(l:List Cy)(o:Cy)(once:Bool)(e:Ending)(w':World):Prop:=
 (∃(F N C:Nat) (l':List Cy) (m' j:Nat),e=AH (AM #[AL #[F,N,k,C],()])/\(∃s,ND o s/\Cl o l s/\l'=Dt once o s)/\Gh F N k hh l' X.sz/\C=l'.length/\
  (j=0\/2^(j-1)<nb)/\m'<=m+2*nb*(1+j)/\Wd X (os.set i Dw++[De F N k hh l' X.sz]) m' w')\/
 (∃er,e=AH (AM #[AL #[AA AB 0,AA AB 0,AA AB 0,AA AB 0],AA AB er])/\((er=5/\∀z,¬Rm X os z (3*nb))\/(er=6/\¬X.cm))/\∃m',Wd X os m' w')
def V9(X:Cx)(os:List DD)(m nb k hh:Nat)(l:List Cy)(o:Cy)(once:Bool)(zs:List DD)(F N k' C:Nat)(er:Int)(w':World):Prop:=
 (er=0/\k'=k/\∃(l':List Cy) (m' j:Nat),((∃s,ND o s/\Cl o l s/\l'=Dt once o s)/\Gh F N k hh l' X.sz/\C=l'.length/\(j=0\/2^(j-1)<nb)/\m'<=m+2*nb*(1+j))/\Wd X (os++zs++[De F N k hh l' X.sz]) m' w')\/
 ((F=0/\N=0/\k'=0/\C=0)/\((er=5/\∀z,¬Rm X os z (3*nb))\/(er=6/\¬X.cm))/\∃m',Wd X (os++zs) m' w')
end
section
variable{X:Cx}{os:List DD}{m i:Nat}{W W':World}{first nb k hh count:Nat}{l:List Cy}{o:Cy}{once:Bool}
theorem ZG{sz hh k g rmX rm rb Dn}(Q:0<k/\k<=5)(Gt:0<hh/\hh*k<=sz-2)(J:8<=sz/\sz<=256)(ML:min (rmX-g) 65536=rm)(h5:5*sz<=rmX-g)(e:(rm-2*sz)/(hh*k)=rb)(I:(rm-sz)/(sz+k)=Dn):
  (0<rb/\rb<=100000)/\(2<=Dn/\Dn<=7281)/\g+2*sz+rb*hh*k<=rmX/\g+sz+Dn*k+Dn*sz<=rmX:=by
 have Ju:5*sz<=rm:=a5;have O:rm<=65536/\rm<=rmX-g:=a5;have hp:0<hh*k:=Nat.mul_pos Gt.1 Q.1;have h1:rb*(hh*k)<=rm-2*sz:=by rw[<-e];exact Cf _ _
 have h2:Dn*(sz+k)<=rm-sz:=by rw[<-I];exact Cf _ _
 have h3:1<=rb:=by rw[<-e];exact(Nat.le_div_iff_mul_le hp).2 a5
 have h4:2<=Dn:=by rw[<-I];exact(Nat.le_div_iff_mul_le a5).2 a5
 have h6:rb<=rb*(hh*k):=Nat.le_mul_of_pos_right _ hp;have U:Dn*9<=Dn*(sz+k):=Nat.mul_le_mul_left _ a5;rw[Nat.mul_add]at h2 U;rw[Nat.mul_assoc];refine⟨⟨h3,a5⟩,⟨h4,a5⟩,a5,a5⟩
theorem V9.fin{b5 b6 b8 cz sb F N k' C}{er:Int}{w9 Lf rb Dn}(hi:os[i]?=AE (De first nb k hh l X.sz))
  (h:(er=0/\k'=k/\∃(l':List Cy) (m' j:Nat),((∃s,ND o s/\Cl o l s/\l'=Dt once o s)/\Gh F N k hh l' X.sz/\C=l'.length/\(j=0\/2^(j-1)<nb)/\m'<=m+2*nb*(1+j))/\Wd X (os.set i Dw++([DM b5 first nb k count,Cv b6 132 [o.a,o.b,o.c,o.d,o.e],DM b8 0 0 0 0]++[Cv sb 193 (Ep X.p.w k hh rb Dn o once count)])++[De F N k hh l' X.sz,DM cz F N k C]) m' w9)\/
   ((F=0/\N=0/\k'=0/\C=0)/\((er=5/\∀z,¬Rm X os z (3*nb))\/(er=6/\¬X.cm))/\∃m',Wd X (os++([DM b5 first nb k count,Cv b6 132 [o.a,o.b,o.c,o.d,o.e],DM b8 0 0 0 0]++[Cv sb 193 (Ep X.p.w k hh rb Dn o once count)])++[DM cz 0 0 0 0]) m' w9))(hw:Lf=((((w9.setCell b8 F).setCell (b8,1) N).setCell (b8,2) k').setCell (b8,3) C)):
  (Lf.cell? b8=AE (AA AB (F:Nat))/\Lf.cell? (b8,1)=AE (AA AB (N:Nat))/\Lf.cell? (b8,2)=AE (AA AB (k':Nat))/\Lf.cell? (b8,3)=AE (AA AB (C:Nat)))/\
   Hid (V8 X os i m nb k hh l o once (AH (AM #[AL #[F,N,k',C],er])) Lf):=by
 subst hw;have key:∀(os' z:List DD) m',Wd X (os'++([DM b5 first nb k count,Cv b6 132 [o.a,o.b,o.c,o.d,o.e],DM b8 0 0 0 0]++[Cv sb 193 (Ep X.p.w k hh rb Dn o once count)])++z) m' w9->(Row (((((w9.setCell b8 F).setCell (b8,1) N).setCell (b8,2) k').setCell (b8,3) C)) b8 28 [F,N,k',C])/\Wd X (os'++z) m' (((((w9.setCell b8 F).setCell (b8,1) N).setCell (b8,2) k').setCell (b8,3) C)):=λos' z m' J=>by
  rw[AR]at J;have O:(os'++([DM b5 first nb k count,Cv b6 132 [o.a,o.b,o.c,o.d,o.e],DM b8 0 0 0 0]++[Cv sb 193 (Ep X.p.w k hh rb Dn o once count)]++z))[os'.length+2]?=AE (Cv b8 28 [((0:Nat):Int),((0:Nat):Int),((0:Nat):Int),((0:Nat):Int)]):=DG os' _ 2;obtain⟨e,I⟩:=Ij (F:=F) (N:=N) (k:=k') (C:=C) (J.row O);have h4:=J.KN O a6 I e;rw[Ap _ _ a5,Cq]at h4;refine⟨e,?_⟩;have h5:Wd X (os'++[DM b5 first nb k count,Cv b6 132 [o.a,o.b,o.c,o.d,o.e],DM b8 F N k' C,Cv sb 193 (Ep X.p.w k hh rb Dn o once count)]++z) m' (((((w9.setCell b8 F).setCell (b8,1) N).setCell (b8,2) k').setCell (b8,3) C)):=by rw[AR];exact h4
  exact h5.GB _ (DI ⟨rfl,rfl⟩ (DI ⟨rfl,rfl⟩ (DI ⟨rfl,rfl⟩ (DI ⟨rfl,rfl⟩ Eb))))
 rcases h with⟨rfl,rfl,l',m',j,⟨J,h2,h3,h4,h5⟩,h6⟩|⟨⟨rfl,rfl,rfl,rfl⟩,h2,m',h6⟩
 ·obtain⟨e,I⟩:=key _ _ _ h6;have k3:Wd X ((os.set i Dw++[De F N k' hh l' X.sz])++[DM cz F N k' C]) m' (((((w9.setCell b8 F).setCell (b8,1) N).setCell (b8,2) k').setCell (b8,3) C)):=by rw[AR];exact I
  exact⟨⟨e.cell 0,e.cell 1,e.cell 2,e.cell 3⟩,.inl ⟨F,N,C,l',m',j,rfl,J,h2,h3,h4,h5,k3.forget (DI ⟨rfl,rfl⟩ Eb)⟩⟩
 ·obtain⟨e,I⟩:=key _ _ _ h6;exact⟨⟨e.cell 0,e.cell 1,e.cell 2,e.cell 3⟩,.inr ⟨er,rfl,h2,m',I.forget (DI ⟨rfl,rfl⟩ Eb)⟩⟩
theorem qy(h:Wd X os m W)(hi:os[i]?=AE (De first nb k hh l X.sz))(hf:Gh first nb k hh l X.sz)(hc:l.length=count)(Yf:Fm o)(ab:5*X.sz<=X.rm-DF DD.gw os)(NG:X.rm<=1000000)(hnb:nb<=10000)(hn:X.N+m+40*nb+3*count+10<=1000000):
  Calls AP 108 #[AI X.p.w,AL #[first,nb,k,count],AL #[o.a,o.b,o.c,o.d,o.e],once] W (V8 X os i m nb k hh l o once):=by
 have Fl:count<=100000:=by rw[<-hc];exact hf.len
 have Lo:nb=Cu hh count:=by rw[<-hc];exact hf.bn
 have av:=h.bounds;obtain⟨rm,ML⟩:=ao (min (X.rm-DF DD.gw os) 65536);obtain⟨rb,aq⟩:=ao ((rm-2*X.sz)/(hh*k));obtain⟨Dn,Qw⟩:=ao ((rm-X.sz)/(X.sz+k));obtain⟨n1,n2,n3,n4⟩:=ZG hf.kk ⟨hf.hh.1,hf.hh.2.1⟩ av.1 ML ab aq Qw;obtain⟨W1,EJ⟩:=ae (W.alloc (AK #[first,nb,k,count] 28));obtain⟨W2,I8⟩:=ae (W1.alloc (AK #[o.a,o.b,o.c,o.d,o.e] 132));obtain⟨W3,Ky⟩:=ae (W2.alloc (AK #[(),(),(),()] 28));obtain⟨O,e5⟩:=ao W.heap.size;obtain⟨J,e6⟩:=ao (O+1);obtain⟨I,e8⟩:=ao (J+1);have z1:W1=J:=by rw[EJ];simp;omega
 have z2:W2=I:=by rw[I8];simp;omega
 have U:Wd X (os++[DM O first nb k count]) m W1:=h.new (by rw[EJ];exact(AS _ _).alloc ar _) (by rw[EJ,<-e5];exact heap_alloc_new _ _) a5;have h2:Wd X (os++[DM O first nb k count]++[Cv J 132 [o.a,o.b,o.c,o.d,o.e]]) m W2:=U.new (by rw[I8];exact(AS _ _).alloc ar _) (by rw[I8,<-z1];exact heap_alloc_new _ _) a5;have ax:Wd X (os++[DM O first nb k count]++[Cv J 132 [o.a,o.b,o.c,o.d,o.e]]++[DM I 0 0 0 0]) m W3:=h2.new (by rw[Ky];exact(AS _ _).alloc ar _) (by rw[Ky,<-z2];exact heap_alloc_new _ _) a5;have h3:Wd X (os++[DM O first nb k count,Cv J 132 [o.a,o.b,o.c,o.d,o.e],DM I 0 0 0 0]) m W3:=by rw[AR,AR]at ax;exact ax
 have Jz:Hid (W3=((W.alloc (AK #[first,nb,k,count] 28)).alloc (AK #[o.a,o.b,o.c,o.d,o.e] 132)).alloc (AK #[(),(),(),()] 28)):=by unfold Hid;rw[Ky,I8,EJ]
 have Qx:Dr [DM O first nb k count,Cv J 132 [o.a,o.b,o.c,o.d,o.e],DM I 0 0 0 0]:=DI ⟨rfl,rfl⟩ (DI ⟨rfl,rfl⟩ (DI ⟨rfl,rfl⟩ Eb));have Ia:DF DD.gw (os++[DM O first nb k count,Cv J 132 [o.a,o.b,o.c,o.d,o.e],DM I 0 0 0 0])=DF DD.gw os:=by rw[DP,D5 _ Qx];rfl
 have aC:Hid (Calls AP 91 #[AL #[o.a,o.b,o.c,o.d,o.e]] W3 λe w'=>e=AH true/\Below W3 W3 w'):=by
  have U:=LV o W3;rw[decide_eq_true Yf]at U;exact U
 have aR:Hid (∀w,Wd X (os++[DM O first nb k count,Cv J 132 [o.a,o.b,o.c,o.d,o.e],DM I 0 0 0 0]) m w->Calls AP 126 #[AI X.p.w,AL #[first,nb,k,count]] w λe w'=>e=AH true/\Wd X (os++[DM O first nb k count,Cv J 132 [o.a,o.b,o.c,o.d,o.e],DM I 0 0 0 0]) m w'):=λw hw=>(iX hw hf.Pp hf.hh.1 Lo Fl).mono λe w' ⟨he,hb⟩=>⟨he,hw.below hb⟩;have jn:Hid (∀w,Wd X (os++[DM O first nb k count,Cv J 132 [o.a,o.b,o.c,o.d,o.e],DM I 0 0 0 0]) m w->Calls AP 21 #[AI X.p.w] w λe w'=>e=AH (AI X.p.a)/\w'=w):=λw hw=>Nk hw;have aD:Hid (∀w,Wd X (os++[DM O first nb k count,Cv J 132 [o.a,o.b,o.c,o.d,o.e],DM I 0 0 0 0]) m w->Calls AP 19 #[AI X.p.w] w λe w'=>e=AH (AI X.p.d)/\w'=w):=λw hw=>RZ hw;obtain⟨LF,uF⟩:=ao (X.rm-DF DD.gw os);have xo:Hid (∀w,Wd X (os++[DM O first nb k count,Cv J 132 [o.a,o.b,o.c,o.d,o.e],DM I 0 0 0 0]) m w->Calls AP 33 #[AI X.p.a] w λe w'=>e=AH LF/\w'=w):=λw hw=>by
  have U:=U7 hw;rw[Ia,uF]at U;exact U
 obtain⟨sz,an⟩:=ao X.sz;have aE:Hid (∀w,Wd X (os++[DM O first nb k count,Cv J 132 [o.a,o.b,o.c,o.d,o.e],DM I 0 0 0 0]) m w->Calls AP 34 #[AI X.p.d] w λe w'=>e=AH sz/\w'=w):=λw hw=>by
  have U:=RY hw;rw[an]at U;exact U
 have Sa:first<=2000000:=hf.fst;have PW:Hid (∀w,Wd X (os++[DM O first nb k count,Cv J 132 [o.a,o.b,o.c,o.d,o.e],DM I 0 0 0 0]) m w->Calls AP 127 #[AI X.p.w,AL #[first,nb,k,count]] w λe w'=>e=AH true/\Wd X (os++[DM O first nb k count,Cv J 132 [o.a,o.b,o.c,o.d,o.e],DM I 0 0 0 0]) m w'):=λw hw=>dz hw (Dj hi) Sa a5 count;have aB:Hid (∀w,Wd X (os++[DM O first nb k count,Cv J 132 [o.a,o.b,o.c,o.d,o.e],DM I 0 0 0 0]) m w->Calls AP 129 #[AI X.p.w,k] w λe w'=>e=AH (AL #[k,hh,rb,Dn])/\Wd X (os++[DM O first nb k count,Cv J 132 [o.a,o.b,o.c,o.d,o.e],DM I 0 0 0 0]) m w'):=λw hw=>
  (Wv (rm:=rm) hw hf.kk hf.Pp hf.hh.1 (by rw[Ia];exact ML) a5 aq Qw).mono λe w' ⟨he,hb⟩=>⟨he,hw.below hb⟩
 have GC:Hid (∀(z:List DD) m w,Wd X (os++([DM O first nb k count,Cv J 132 [o.a,o.b,o.c,o.d,o.e],DM I 0 0 0 0]++z)) m w->Row w O 28 [first,nb,k,count]/\Row w J 132 [o.a,o.b,o.c,o.d,o.e]/\Row w I 28 [(),(),(),()]):=λz m w hw=>⟨hw.row (DG os _ 0),hw.row (DG os _ 1),hw.row (DG os _ 2)⟩;have dK:Hid (∀w,Wd X (os++[DM O first nb k count,Cv J 132 [o.a,o.b,o.c,o.d,o.e],DM I 0 0 0 0]) m w->Row w O 28 [first,nb,k,count]/\Row w J 132 [o.a,o.b,o.c,o.d,o.e]/\Row w I 28 [(),(),(),()]):=λw hw=>GC.out [] m w (by rw[AY];exact hw);have aA:Hid (∀w sb,Wd X (os++([DM O first nb k count,Cv J 132 [o.a,o.b,o.c,o.d,o.e],DM I 0 0 0 0]++[Cv sb 193 (Ep X.p.w k hh rb Dn o once count)])) m w->Calls AP 130 #[AI sb,AL #[first,nb,k,count]] w λe w'=>∃(F N k' C:Nat) (er:Int),e=AH (AM #[AL #[F,N,k',C],er])/\V9 X os m nb k hh l o once ([DM O first nb k count,Cv J 132 [o.a,o.b,o.c,o.d,o.e],DM I 0 0 0 0]++[Cv sb 193 (Ep X.p.w k hh rb Dn o once count)]) F N k' C er w'):=λw sb hw=>by
  let P:SP:=⟨X,os++([DM O first nb k count,Cv J 132 [o.a,o.b,o.c,o.d,o.e],DM I 0 0 0 0]++[Cv sb 193 (Ep X.p.w k hh rb Dn o once count)]),sb,rb,Dn,o,once,k,hh,first,nb,count,l,m,w.heap.size,w.heap.size+1,w.heap.size+1+1,w.heap.size+1+1+1,0⟩
  have Yh:Dr ([DM O first nb k count,Cv J 132 [o.a,o.b,o.c,o.d,o.e],DM I 0 0 0 0]++[Cv sb 193 (Ep X.p.w k hh rb Dn o once count)]):=DI ⟨rfl,rfl⟩ (DI ⟨rfl,rfl⟩ (DI ⟨rfl,rfl⟩ (DI ⟨rfl,rfl⟩ Eb)));have ay:DF DD.gw (os++([DM O first nb k count,Cv J 132 [o.a,o.b,o.c,o.d,o.e],DM I 0 0 0 0]++[Cv sb 193 (Ep X.p.w k hh rb Dn o once count)]))=DF DD.gw os:=by rw[DP,D5 _ Yh];rfl
  have hP:P.Ok (os.length+3):={
   row:=DG os _ 3
   f:=hf
   c:=hc
   src:=⟨i,_,Dj hi,λD hD hd=>by rw[<-hf.bn];exact hd hD,λ_=>by
    show first<=first/\first+Cu hh l.length<=first+nb;rw[<-hf.bn];omega⟩
   rb:=n1
   Dn:=⟨n2.1,by show Dn<=1000000;omega⟩
   room1:=by show DF DD.gw (os++([DM O first nb k count,Cv J 132 [o.a,o.b,o.c,o.d,o.e],DM I 0 0 0 0]++[Cv sb 193 (Ep X.p.w k hh rb Dn o once count)]))+2*X.sz+rb*hh*k<=X.rm;rw[ay];exact n3
   room2:=by show DF DD.gw (os++([DM O first nb k count,Cv J 132 [o.a,o.b,o.c,o.d,o.e],DM I 0 0 0 0]++[Cv sb 193 (Ep X.p.w k hh rb Dn o once count)]))+X.sz+Dn*k+Dn*X.sz<=X.rm;rw[ay];exact n4
   rm:=NG
   n:=hn
   prod:=by
    show nb*Dn<=100000000;exact Ag (Nat.mul_le_mul hnb n2.2) a5}
  refine(qp hP hw rfl rfl rfl rfl).mono ?_;rintro e w' (⟨F,N,C,l',m',j,he,U,h2,h3,h4,h5,h6⟩|⟨er,he,U,m',h6⟩)
  ·exact⟨F,N,k,C,0,he,.inl ⟨rfl,rfl,l',m',j,⟨U,h2,h3,h4,h5⟩,h6⟩⟩
  ·refine⟨0,0,0,0,er,he,.inr ⟨⟨rfl,rfl,rfl,rfl⟩,?_,m',h6⟩⟩;rcases U with⟨U,h7⟩|U
   ·exact .inl ⟨U,λz hz=>h7 z (GL hz Yh)⟩
   ·exact .inr U
 have I5:Hid (∀cz sb F N k' C er Q Lf,((er=0/\k'=k/\∃(l':List Cy) (m' j:Nat),((∃s,ND o s/\Cl o l s/\l'=Dt once o s)/\Gh F N k hh l' X.sz/\C=l'.length/\(j=0\/2^(j-1)<nb)/\m'<=m+2*nb*(1+j))/\Wd X (os.set i Dw++([DM O first nb k count,Cv J 132 [AA AB o.a,AA AB o.b,AA AB o.c,AA AB o.d,AA AB o.e],DM I 0 0 0 0]++[Cv sb 193 (Ep X.p.w k hh rb Dn o once count)])++[De F N k hh l' X.sz,DM cz F N k C]) m' Q)\/
   ((F=0/\N=0/\k'=0/\C=0)/\((er=5/\∀z,¬Rm X os z (3*nb))\/(er=6/\¬X.cm))/\∃m',Wd X (os++([DM O first nb k count,Cv J 132 [AA AB o.a,AA AB o.b,AA AB o.c,AA AB o.d,AA AB o.e],DM I 0 0 0 0]++[Cv sb 193 (Ep X.p.w k hh rb Dn o once count)])++[DM cz 0 0 0 0]) m' Q))->Lf=((((Q.setCell ⟨I,0,AD⟩ (AA AB (F:Nat))).setCell ⟨I,1,AD⟩ (AA AB (N:Nat))).setCell ⟨I,2,AD⟩ (AA AB (k':Nat))).setCell ⟨I,3,AD⟩ (AA AB (C:Nat)))->
  (Lf.cell? I=AE (AA AB (F:Nat))/\Lf.cell? (I,1)=AE (AA AB (N:Nat))/\Lf.cell? (I,2)=AE (AA AB (k':Nat))/\Lf.cell? (I,3)=AE (AA AB (C:Nat)))/\
   Hid (V8 X os i m nb k hh l o once (AH (AM #[AL #[AA AB (F:Nat),AA AB (N:Nat),AA AB (k':Nat),AA AB (C:Nat)],AA AB er])) Lf)):=λcz sb F N k' C er Q Lf h hw=>V9.fin (first:=first) hi h hw
 have H3:=AO h3;have HI:=AO hi;have Xd:sz<=256:=by rw[<-an];exact av.1.2
 obtain⟨S5,a3⟩:=ao (5*sz);have a8:(5:Int)*(sz:Int)=(S5:Int):=a5;have a9:S5<=1280:=a5;have a7:S5<=LF:=a5;have bb:decide (LF<S5)=false:=by simp;omega
 have ba:decide ((LF:Int)<(S5:Int))=false:=by simp;omega
 have FT:=dK.out W3 h3;obtain⟨c0,c1,c2,c3,c4⟩:=FT.2.1.q5;have gS:nb<=2000000:=a5;clear FT h U h2 h3 ax hi hf hc Yf ab NG hnb hn Lo av ML aq Qw n1 n2 n3 n4 EJ I8 Ky z1 z2 Qx Ia uF an a3 Fl;go_enter func108,ntmps108
 go_upto_region 1 with(fail)
 rw[<-Jz.out];clear Jz e5 e6 e8;go_wp2_with fail
 refine aC.out.mono ?_;rintro e w4 ⟨rfl,IE⟩;have h4:=H3.out.below IE;have r4:=(dK.out w4 h4).1;obtain⟨d0,d1,d2,d3⟩:=r4.q4;have aS:=AO (aR.out w4 h4);clear c0 c1 c2 c3 c4 r4 IE aC H3 h4 aR;go_wp2_with fail
 refine aS.out.mono ?_;rintro e w5 ⟨rfl,h5⟩;have H1:=AO (jn.out w5 h5);have H2:=AO (xo.out w5 h5);have H3:=AO (aD.out w5 h5);have H4:=AO (aE.out w5 h5);have HT:=AO (PW.out w5 h5);have r5:=(dK.out w5 h5).1;obtain⟨g0,g1,g2,g3⟩:=r5.q4;clear h5 r5 aS d0 d1 d2 d3 jn xo aD aE PW;go_wp2_with fail
 refine H1.out.mono ?_;rintro e w ⟨rfl,rfl⟩;go_wp2_with fail
 refine H2.out.mono ?_;rintro e w' ⟨rfl,rfl⟩;go_wp2_with fail
 refine H3.out.mono ?_;rintro e w6 ⟨rfl,rfl⟩;go_wp2_with fail
 refine H4.out.mono ?_;rintro e w7 ⟨rfl,rfl⟩;clear H1 H2 H3 H4;go_wp2_with fail
 refine HT.out.mono ?_;rintro e w8 ⟨rfl,h8⟩;clear HT g0 g1 g2 g3;have aw:=h8.below (DC (AS _ _));have a2:=AO (aB.out _ aw);have vH:Hid (∀w,Wd X (os++[DM O first nb k count,Cv J 132 [o.a,o.b,o.c,o.d,o.e],DM I 0 0 0 0]) m w->(w.cell? J=AE (AA AB o.a)/\w.cell? (J,1)=AE (AA AB o.b)/\w.cell? (J,2)=AE (AA AB o.c)/\w.cell? (J,3)=AE (AA AB o.d)/\w.cell? (J,4)=AE (AA AB o.e)/\w.cell? (O,3)=AE (AA AB count)/\w.cell? (O,2)=AE (AA AB k))):=λw hw=>by
  obtain⟨j5,j6,_⟩:=dK.out w hw;exact⟨j6.cell 0,j6.cell 1,j6.cell 2,j6.cell 3,j6.cell 4,j5.cell 3,j5.cell 2⟩
 have s1:=vH.out _ aw;clear h8 aw aB;go_upto_region 7 with(fail)
 go_region_held3 (λw=>w.cell? J=AE (AA AB o.a)/\w.cell? (J,1)=AE (AA AB o.b)/\w.cell? (J,2)=AE (AA AB o.c)/\w.cell? (J,3)=AE (AA AB o.d)/\w.cell? (J,4)=AE (AA AB o.e)/\w.cell? (O,3)=AE (AA AB count)/\w.cell? (O,2)=AE (AA AB k)) (first|with_reducible exact s1|with_reducible exact s2|with_reducible exact s3)
  ((go_at_call 129;(with_reducible refine a2.out.mono ?_);rintro e Q ⟨rfl,h9⟩;have s2:=vH.out Q h9;have s3:=vH.out _ (h9.below ((AS _ _).alloc ar (AK #[k,hh,rb,Dn,AI X.p.w,o.a,o.b,o.c,o.d,o.e,once,count] 193)))))
 have OH:Wd X (os++([DM O first nb k count,Cv J 132 [o.a,o.b,o.c,o.d,o.e],DM I 0 0 0 0]++[Cv Q 193 (Ep X.p.w k hh rb Dn o once count)])) m (Q.alloc (AK #[k,hh,rb,Dn,AI X.p.w,o.a,o.b,o.c,o.d,o.e,once,count] 193)):=by
  have Xv:=h9.new ((AS _ _).alloc ar _) (g:=Q) (t:=193) (cs:=Ep X.p.w k hh rb Dn o once count) (heap_alloc_new Q (AK #[k,hh,rb,Dn,AI X.p.w,o.a,o.b,o.c,o.d,o.e,once,count] 193)) ar;rw[AR]at Xv;exact Xv
 clear s1 s2 s3 h9 a2 vH;generalize Q.alloc (AK #[k,hh,rb,Dn,AI X.p.w,o.a,o.b,o.c,o.d,o.e,once,count] 193)=Lf at*
 generalize Q.heap.size=sb at*
 obtain⟨j5,j6,j8⟩:=GC.out _ _ _ OH;obtain⟨d0,d1,d2,d3⟩:=j5.q4;have a1:=AO (aA.out Lf sb OH);clear j5 j6 j8 OH aA;go_wp2_with fail
 refine a1.out.mono ?_;rintro e Iu ⟨F,N,k',C,er,rfl,IY⟩;clear d0 d1 d2 d3 a1;have I0:Below Iu Iu (Iu.alloc (AK #[F,N,k',C] 28)):=(AS _ _).alloc ar _;have al:Row (Iu.alloc (AK #[F,N,k',C] 28)) Iu 28 [F,N,k',C]:=heap_alloc_new _ _;rcases IY with⟨rfl,au,l',m',j,gW,JZ⟩|⟨⟨rfl,rfl,rfl,rfl⟩,KW,m',JZ⟩
 ·have au:=au.symm;subst au;have Pw:Wd X (os++([DM O first nb k count,Cv J 132 [o.a,o.b,o.c,o.d,o.e],DM I 0 0 0 0]++[Cv sb 193 (Ep X.p.w k hh rb Dn o once count)])++[De F N k hh l' X.sz,DM Iu F N k C]) m' (Iu.alloc (AK #[F,N,k,C] 28)):=by
   have Tk:=JZ.new I0 al ar;rw[AR]at Tk;exact Tk
  have YT:=AO gW;clear JZ I0 al gW;have PV:Wd X (os++([DM O first nb k count,Cv J 132 [o.a,o.b,o.c,o.d,o.e],DM I 0 0 0 0]++([Cv sb 193 (Ep X.p.w k hh rb Dn o once count)]++[De F N k hh l' X.sz,DM Iu F N k C]))) m' (Iu.alloc (AK #[F,N,k,C] 28)):=by
   rw[AR,AR]at Pw;exact Pw
  obtain⟨j5,_,_⟩:=GC.out _ _ _ PV;obtain⟨d0,d1,d2,d3⟩:=j5.q4;have QF:Hid (Calls AP 67 #[AI X.p.w,AL #[first,nb,k,count]] (Iu.alloc (AK #[F,N,k,C] 28)) λe w'=>e=AH ()/\Wd X (os.set i Dw++([DM O first nb k count,Cv J 132 [o.a,o.b,o.c,o.d,o.e],DM I 0 0 0 0]++[Cv sb 193 (Ep X.p.w k hh rb Dn o once count)])++[De F N k hh l' X.sz,DM Iu F N k C]) m' w'):=by
   refine(OM Pw (Dj (Dj HI.out)) Sa gS count).mono ?_;rintro e w' ⟨he,az⟩;rw[AR,IW HI.out,<-AR]at az;exact⟨he,az⟩
  clear Pw PV j5;go_upto_region 10 with(fail)
  generalize Iu.alloc (AK #[F,N,k,C] 28)=jN at*
  generalize Iu.heap.size=cz at*
  go_wp2_with fail
  refine QF.out.mono ?_;rintro e Q ⟨rfl,h9⟩;clear d0 d1 d2 d3 QF;have PV:Wd X (os.set i Dw++([DM O first nb k count,Cv J 132 [o.a,o.b,o.c,o.d,o.e],DM I 0 0 0 0]++([Cv sb 193 (Ep X.p.w k hh rb Dn o once count)]++[De F N k hh l' X.sz,DM cz F N k C]))) m' Q:=by
   rw[AR,AR]at h9;exact h9
  have r8:Row Q I 28 [(),(),(),()]:=PV.row (DG _ _ 2);have ad:Row Q cz 28 [F,N,k,C]:=PV.row (DG _ _ 5);obtain⟨x0,x1,x2,x3⟩:=ad.q4;obtain⟨y0,y1,y2,y3⟩:=r8.q4;obtain⟨f0,f1,f2,f3⟩:=r8.r4;have IS:=I5.out cz sb F N k C 0 Q _ (.inl ⟨rfl,rfl,l',m',j,YT.out,h9⟩) rfl;clear h9 PV r8 ad I5 YT;go_wp2
  generalize((((Q.setCell I F).setCell (I,1) N).setCell (I,2) k).setCell (I,3) C)=Lf at*
  obtain⟨⟨q0,q1,q2,q3⟩,HD⟩:=IS;exact BA (v:=AM #[AL #[F,N,k,C],()]) (by simp[results,Tryz.results108,go_sem,q0,q1,q2,q3]) rfl HD.out
 ·have Pw:Wd X (os++([DM O first nb k count,Cv J 132 [o.a,o.b,o.c,o.d,o.e],DM I 0 0 0 0]++[Cv sb 193 (Ep X.p.w k hh rb Dn o once count)])++[DM Iu 0 0 0 0]) m' (Iu.alloc (AK #[(),(),(),()] 28)):=JZ.new I0 al ar;have a0:=AO KW;have gX:er=5\/er=6:=KW.elim (λh=>.inl h.1) λh=>.inr h.1;have a6:(er==0)=false:=by rcases gX with rfl|rfl<;>rfl
  clear JZ I0 al KW gX;go_upto_region 11 with(fail)
  have PV:Wd X (os++([DM O first nb k count,Cv J 132 [o.a,o.b,o.c,o.d,o.e],DM I 0 0 0 0]++([Cv sb 193 (Ep X.p.w k hh rb Dn o once count)]++[DM Iu 0 0 0 0]))) m' (Iu.alloc (AK #[(),(),(),()] 28)):=by
   rw[AR,AR]at Pw;exact Pw
  generalize Iu.alloc (AK #[(),(),(),()] 28)=Q at*
  generalize Iu.heap.size=cz at*
  have r8:Row Q I 28 [(),(),(),()]:=PV.row (DG _ _ 2);have ad:Row Q cz 28 [(),(),(),()]:=PV.row (DG _ _ 4);obtain⟨x0,x1,x2,x3⟩:=ad.q4;obtain⟨y0,y1,y2,y3⟩:=r8.q4;obtain⟨f0,f1,f2,f3⟩:=r8.r4;have IS:=I5.out cz sb 0 0 0 0 er Q _ (.inr ⟨⟨rfl,rfl,rfl,rfl⟩,a0.out,m',Pw⟩) rfl;clear Pw PV r8 ad I5 a0;go_wp2
  generalize((((Q.setCell I ((0:Nat):Int)).setCell (I,1) ((0:Nat):Int)).setCell (I,2) ((0:Nat):Int)).setCell (I,3) ((0:Nat):Int))=Lf at*
  obtain⟨⟨q0,q1,q2,q3⟩,HD⟩:=IS;exact BA (v:=AM #[AL #[(),(),(),()],er]) (by simp[results,Tryz.results108,go_sem,q0,q1,q2,q3]) rfl HD.out
end
end Go.Proofs.YthfnbpjegjbbiaaGreat
