/- What the laws stand on. -/
import Derived.Test.YthfnbpjegjbbiaaGreatQA
namespace Go.Proofs.YthfnbpjegjbbiaaGreat
set_option linter.unusedVariables false
set_option maxRecDepth 100000
set_option maxHeartbeats 8000000
open Go.ChangeShapes Go.WideShapes Go.ChangeAt Go.RowKit
open Go.Joins Go.Deep
open Go.ChangeShapes Go.WideShapes Go.ChangeAt Go.RowKit Go.Maps
open Go.ChangeMaps (setBlock heap_setBlock_same heap_setBlock_other)
open Go.Value renaming pointer → AI
open Go.Value renaming int → AA
open Go.IntKind renaming i64 → AB
open Option renaming some → AE
open Option renaming none → AD
open Lib renaming hid → AG
open Go.Ending renaming returned → AH
open Go.Value renaming slice → AJ
open Go.Obj renaming cells → AK
open Go.Value renaming agg → AL
open Go.Value renaming tuple → AM
open Go.Lib renaming hid → AO
open Go.Proofs.Tryz renaming prog → AP, underlying101 → Ad, underlying116 → Be, results139 → Cc
open Nat renaming le_refl → AQ, mul_le_mul_right → Af, le_trans → Ag, lt_or_ge → Ak, zero_le → Ao, sub_self → As, add_mul → A7, eq_zero_or_pos → BB, one_mul → BH, zero_add → BM, lt_of_lt_of_le → BN, add_sub_cancel → BV, div_le_self → BX, min_eq_left → Bi, add_assoc → B8, mod_lt → CM, mul_comm → CS, lt_trichotomy → CW, zero_mul → CY, min → CZ, reduceAdd → Cd, div_mul_le_self → Cf, lt_of_le_of_lt → Cg, mul_one → Cm, add_sub_cancel_left → Cq
open List renaming append_assoc → AR, getD_eq_getElem?_getD → AT, getElem?_eq_getElem → AU, getElem?_cons_succ → AV, getElem?_append_right → AW, getElem?_cons_zero → AX, append_nil → AY, length_take → AZ, length_append → Aa, mem_of_getElem? → Ae, mem_append → Ah, length_map → Ai, getElem?_append_left → Aj, set_append_right → Ap, length_drop → Aq, getElem?_take → At, mem_map → Av, getElem?_set → Aw, mem_iff_getElem? → Ax, take_of_length_le → Ay, mem_cons_self → Az, mem_cons → A8, replicate → BC, mem_cons_of_mem → BD, getElem?_eq_none → BG, getElem?_eq_some_iff → BI, nil_append → BL, getElem_of_mem → BP, take_append_drop → BS, length_cons → BW, getElem?_drop → Bc, filter_append → Bd, length_set → Bg, pairwise_iff_getElem → Bh, take_add_one → Bj, getElem?_map → Bk, range → Bo, mem_singleton → Bp, take_zero → Bs, drop_eq_getElem_cons → Bv, mem_of_mem_take → Bw, take_length → B6, set_cons_succ → B7, nodup_cons → CK, mem_filter → CL, take_take → CN, getElem_mem → CO, cons_append → CQ, take_append_of_le_length → Ca, findIdx_le_length → Ck, map_append → Cn, drop_zero → Cr, drop_drop → Cs
open Go.RowKit.Below renaming refl → AS, trans → CR, size → CU, mono → CV
open Go.IntKind renaming i64 → Ab, wrap_i64 → BQ
open Go renaming cell_regrown → Ac, leaves_cons → A6, bodyPost_ret → BA, FrameMode → Bf, wp_region_quiet_below → By, run_underlying → Bz, below_regrown → B0
open Go.IntWalk renaming i64_in → Al
open Go.Sort renaming grow → An
open Go.RowKit renaming intOf → BF
open Iff renaming rfl → BO
open Go.Result renaming andThen → BU
open Int renaming toNat_natCast → BY, natCast_mul → Br, lt_trichotomy → Co
open Go.Value renaming int → BZ, ownBlock → Bq
open Go.Calls renaming regrown_of → Ba
open Go.Builtin renaming zeroCells → Bb
open Go.World.ownsRow renaming frozenAt → Bl, stored → Ct
open Go.Addr renaming add_lit → Bm, add → Cj
open Go.Ending renaming returned → Bn
open And renaming intro → Bt
open Go.Sem renaming run → Bu
open Go.Instr renaming index → CX
open Classical renaming byContradiction → Cb
open List.Perm renaming append_left → Ce, refl → Ci
open Go.Lit renaming int → Cp
open Go.Proofs.Tryz
open Nat.le renaming refl → ar
section
variable(p:Nat)(s:St)(bl bf:Nat)(v:Value)(w:World)
theorem oQ(I:Row w p 94 (cellsOf s bl bf v)):Calls AP 118 #[AI p] w λe w'=>e=AH (.bool s.down)/\w'=w:=by
 have J:w.cell? (p,9)=AE (.bool s.down):=I.cell 9;go_enter func118,ntmps118
 go_wp2
 go_ret
 exact⟨rfl,rfl⟩
theorem ke(I:Row w p 94 (cellsOf s bl bf v)):Calls AP 34 #[AI p] w λe w'=>e=AH s.size/\w'=w:=by
 have J:w.cell? p=AE (AA AB (s.size:Int)):=I.cell 0;go_enter func34,ntmps34
 go_wp2
 go_ret
 exact⟨rfl,rfl⟩
theorem aW(I:Row w p 94 (cellsOf s bl bf v)):Calls AP 121 #[AI p] w λe w'=>e=AH s.blocks/\w'=w:=by
 have J:w.cell? (p,1)=AE (AA AB s.blocks):=I.cell 1;go_enter func121,ntmps121
 go_wp2
 go_ret
 exact⟨rfl,rfl⟩
theorem cR(i:Int)(U:Row w p 94 (cellsOf s bl bf v)):Calls AP 103 #[AI p,i] w λe w'=>e=AH (.bool (right s i))/\w'=w:=by
 have hb:=aW p s bl bf v w U;have Q:Hid (right s i=(decide (0<=i)&&decide (i<s.blocks))):=rfl;by_cases J:0<=i
 ·have O:decide (i≥0)=true:=by simpa using J
  have I:decide (0<=i)=true:=by simpa using J
  go_enter func103,ntmps103
  go_wp2_with fail
  refine hb.mono ?_;rintro e w1 ⟨rfl,rfl⟩;go_wp2
  go_ret
  exact⟨IK (by rw[Q.out,I];simp),rfl⟩
 ·have O:decide (i≥0)=false:=by simpa using J
  have I:decide (0<=i)=false:=by simpa using J
  go_enter func103,ntmps103
  go_wp2
  go_ret
  exact⟨IK (by rw[Q.out,I];simp),rfl⟩
theorem Pm(b o:Nat)(isSet:Bool)(left:Int)(J:w.cell? (b,o)=AE (.bool isSet))(I:w.cell? (b,o+1)=AE (AA AB left)):
  Calls AP 119 #[AI (b,o)] w λe w'=>e=AH (.bool (isSet&&left==0))/\w'=w:=by
 cases isSet
 ·go_enter func119,ntmps119
  go_wp2
  go_ret
  exact⟨rfl,rfl⟩
 ·go_enter func119,ntmps119
  go_wp2
  go_ret
  exact⟨rfl,rfl⟩
theorem SI(b o:Nat)(isSet:Bool)(left:Int)(O:w.cell? (b,o)=AE (.bool isSet))(J:w.cell? (b,o+1)=AE (AA AB left))(f1:w.frozen? (b,o+1)=false)(I:0<=left/\left<=1000000):
  Calls AP 120 #[AI (b,o)] w λe w'=>e=AH (AM #[])/\w'=if isSet then w.setCell (b,o+1) (AA AB (left-1))else w:=by
 cases isSet
 ·go_enter func120,ntmps120
  go_wp2
  go_end0
  exact⟨rfl,rfl⟩
 ·go_enter func120,ntmps120
  go_wp2
  go_end0
  exact⟨rfl,rfl⟩
end
theorem Row.K9{w p s s' bl bf v}(e:Row w p 94 (cellsOf s bl bf v))(i:Nat)(u:Value)(he:(cellsOf s bl bf v).set i u=cellsOf s' bl bf v):Row (w.setCell (p,i) u) p 94 (cellsOf s' bl bf v):=by
 have:=e.set i u;rw[he]at this;exact this
theorem Ul{w w1 p}(h:DJ (λk=>k=p) w w1)(i:Nat)(u:Value):DJ (λk=>k=p) w (w1.setCell (p,i) u):=h.set (.inl rfl) u
theorem St.uQ(s:St)(h:s.fb=false):({s with fn:=if s.fb then s.fn-1 else s.fn}:St)=s:=by cases s;simp_all
theorem St.rO(s:St)(h:s.tb=false):({s with tn:=if s.tb then s.tn-1 else s.tn}:St)=s:=by cases s;simp_all
theorem St.uR(s:St)(h:s.fb=true):({s with fn:=if s.fb then s.fn-1 else s.fn}:St)={s with fn:=s.fn-1}:=by cases s;simp_all
theorem St.rP(s:St)(h:s.tb=true):({s with tn:=if s.tb then s.tn-1 else s.tn}:St)={s with tn:=s.tn-1}:=by cases s;simp_all
theorem iZ(p:Nat)(s:St)(n:Nat)(bl bf:Nat)(v:Value)(b:Bool)(w:World)(hf:Fits s n)(O:Row w p 94 (cellsOf s bl bf v)):
  Calls AP 102 #[AI p,b] w λe w'=>e=AH (AA AB (begin s b).1)/\Row w' p 94 (cellsOf (begin s b).2 bl bf v)/\DJ (λk=>k=p) w w':=by
 have hd:=oQ p s bl bf v w O;by_cases Xr:s.down=true
 ·have HX:=AO (aZ s b Xr);rw[Xr]at hd;go_enter func102,ntmps102
  go_wp2_with fail
  refine hd.mono ?_;rintro e w1 ⟨rfl,rfl⟩;go_wp2
  go_ret
  rw[HX.out];exact⟨rfl,O,DJ.refl _ _⟩
 have Z8:s.down=false:=by simpa using Xr
 rw[Z8]at hd
 cases b
 ·have HX:Hid (begin s false=(1,s)):=by unfold Hid begin;simp[Z8]
  go_enter func102,ntmps102
  go_wp2_with fail
  refine hd.mono ?_;rintro e w1 ⟨rfl,rfl⟩;go_wp2
  go_ret
  rw[HX.out];exact⟨rfl,O,DJ.refl _ _⟩
 have hi:=Pm w p 5 s.fb s.fn (O.cell 5) (O.cell 6);by_cases hA:s.fb=true/\s.fn=0
 ·have HX:Hid (begin s true=(8,{s with down:=true})):=by unfold Hid begin;simp[Z8,hA]
  rw[show (s.fb&&s.fn==0)=true by simp[hA]]at hi;have f9:=O.free 9;have c9:w.cell? (p,9)=AE (.bool s.down):=O.cell 9;go_enter func102,ntmps102
  go_wp2_with fail
  refine hd.mono ?_;rintro e w1 ⟨rfl,rfl⟩;go_wp2_with fail
  refine hi.mono ?_;rintro e w1 ⟨rfl,rfl⟩;go_wp2
  go_ret
  rw[HX.out];exact⟨rfl,O.K9 9 _ rfl,Ul (DJ.refl _ _) _ _⟩
 rw[show (s.fb&&s.fn==0)=false by rw[Bool.eq_false_iff];simpa using hA]at hi;have hl:=SI w p 5 s.fb s.fn (O.cell 5) (O.cell 6) (O.free 6) hf.fn;obtain⟨I,Gp⟩:∃I:St,I={s with fn:=if s.fb then s.fn-1 else s.fn}:=⟨_,rfl⟩;have Et:∀w',w'=(if s.fb=true then w.setCell (p,5+1) (AA AB (s.fn-1))else w)->Row w' p 94 (cellsOf I bl bf v)/\DJ (λk=>k=p) w w':=by
  intro w' Kp;subst Gp;by_cases U:s.fb=false
  ·rw[St.uQ s U];rw[U]at Kp;simp at Kp;subst Kp;exact⟨O,DJ.refl _ _⟩
  ·have U:s.fb=true:=by simpa using U
   rw[St.uR s U];rw[U]at Kp;simp at Kp;subst Kp;exact⟨O.K9 6 _ rfl,Ul (DJ.refl _ _) _ _⟩
 have ad:=AO Et;have wD:I.tb=s.tb:=by rw[Gp]
 have zB:I.tn=s.tn:=by rw[Gp]
 by_cases hC:s.tb=true/\s.tn=0
 ·have HX:Hid (begin s true=(6,{I with tb:=false,tn:=0})):=by
   subst Gp;unfold Hid begin;rw[if_neg Xr,if_neg a6,if_neg hA];dsimp only;rw[if_pos hC]
  clear Et Gp;go_enter func102,ntmps102
  go_wp2_with fail
  refine hd.mono ?_;rintro e w1 ⟨rfl,rfl⟩;go_wp2_with fail
  refine hi.mono ?_;rintro e w1 ⟨rfl,rfl⟩;go_wp2_with fail
  refine hl.mono ?_;rintro e w2 ⟨rfl,GS⟩;obtain⟨J,Gv⟩:=ad.out w2 GS;have O8:=AO J;have T7:=AO Gv;clear GS Gv hl hi hd;have Q:=Pm w2 p 7 I.tb I.tn (J.cell 7) (J.cell 8);rw[show (I.tb&&I.tn==0)=true by simp[wD,zB,hC]]at Q;obtain⟨-,-,-,-,-,-,-,f7,f8⟩:=J.r9;obtain⟨-,-,-,-,-,-,-,c7,c8⟩:=J.q9;clear J hC wD zB;go_wp2_with fail
  refine Q.mono ?_;rintro e w3 ⟨rfl,rfl⟩;go_wp2
  go_ret
  rw[HX.out];exact⟨rfl,(O8.out.K9 (s':={I with tb:=false}) 7 _ rfl).K9 8 _ rfl,Ul (Ul T7.out _ _) _ _⟩
 ·have HX:Hid (begin s true=(0,{I with tn:=if I.tb then I.tn-1 else I.tn,Dp:=I.Dp+1})):=by
   subst Gp;unfold Hid begin;rw[if_neg Xr,if_neg a6,if_neg hA];dsimp only;rw[if_neg hC]
  have ab:0<=I.tn/\I.tn<=1000000:=by rw[zB];exact hf.tn
  have has:0<=I.Dp/\I.Dp<=n:=by rw[Gp];exact hf.Dp
  have h6:=hf.small;clear Et Gp;go_enter func102,ntmps102
  go_wp2_with fail
  refine hd.mono ?_;rintro e w1 ⟨rfl,rfl⟩;go_wp2_with fail
  refine hi.mono ?_;rintro e w1 ⟨rfl,rfl⟩;go_wp2_with fail
  refine hl.mono ?_;rintro e w2 ⟨rfl,GS⟩;obtain⟨J,Gv⟩:=ad.out w2 GS;have O8:=AO J;have T7:=AO Gv;clear GS Gv hl hi hd;have Q:=Pm w2 p 7 I.tb I.tn (J.cell 7) (J.cell 8);rw[show (I.tb&&I.tn==0)=false by rw[Bool.eq_false_iff,wD,zB];simpa using hC]at Q;have zV:=SI w2 p 7 I.tb I.tn (J.cell 7) (J.cell 8) (J.free 8) ab;have FT:∀w',w'=(if I.tb=true then w2.setCell (p,7+1) (AA AB (I.tn-1))else w2)->Row w' p 94 (cellsOf {I with tn:=if I.tb then I.tn-1 else I.tn} bl bf v)/\DJ (λk=>k=p) w1 w':=by
   intro w' Kp;by_cases U:I.tb=false
   ·rw[St.rO I U];rw[U]at Kp;simp at Kp;subst Kp;exact⟨J,T7.out⟩
   ·have U:I.tb=true:=by simpa using U
    rw[St.rP I U];rw[U]at Kp;simp at Kp;subst Kp;exact⟨J.K9 8 _ rfl,Ul T7.out _ _⟩
  have IG:=AO FT;clear J FT hC wD zB ab;go_wp2_with fail
  refine Q.mono ?_;rintro e w3 ⟨rfl,rfl⟩;go_wp2_with fail
  refine zV.mono ?_;rintro e w4 ⟨rfl,Zs⟩;obtain⟨Jv,PU⟩:=IG.out w4 Zs;have dM:=AO Jv;have ae:=AO PU;have al:=Jv.free 10;have an:w4.cell? (p,10)=AE (AA AB I.Dp):=Jv.cell 10;clear Zs Jv PU Q zV;go_wp2
  go_ret
  rw[HX.out];exact⟨rfl,dM.out.K9 10 _ rfl,Ul ae.out _ _⟩
theorem dF(p:Nat)(s:St)(n:Nat)(G:Nat->Prop)(b:Bool)(w:World)(h:NC w G p s n)(J:n<1000000):
  Calls AP 102 #[AI p,b] w λe w'=>e=AH (AA AB (begin s b).1)/\p8 w' G p (begin s b).2 (n+1) n/\DJ (λk=>k=p) w w':=by
 obtain⟨bl,bf,v,nl,I,_⟩:=id h.2;refine(iZ p s n bl bf v b w h.1 I).mono ?_;rintro e w' ⟨he,O,h3⟩;exact⟨he,h.begin I O h3 (aY h.1 J b),h3⟩
theorem vv:(AP.info? 120).map (λi=>(i.zero,i.size,i.bytes))=AE (AE (.int .u64 0),1,8):=a7
theorem ownsRow_made(w:World)(e:TypeId):(w.alloc (AK #[] e)).ownsRow w e 1 (AJ w 0 0) 0 []:=
 ⟨rfl,.inr ⟨w.heap.size,0,#[],rfl,AQ _,heap_alloc_new _ _,AQ _,Ao _,rfl,rfl⟩⟩
theorem fK{w base v n l}(h:w.ownsRow base 120 1 v n (l.map λx:Nat=>BZ .u64 x))(J:l.length=n)(hp:0<n)(hw:∀x∈l,(Cp .u64 (x:Nat)).wf=true):Words w (λk=>base<=k) v l:=by
 subst J;obtain⟨g,cap,cs,rfl,O,I,Q,hm,_,e⟩:=sU h hp;exact⟨g,cap,cs,rfl,I,O,Q,hm,hp,hw,e⟩
theorem Nl(A:Option Addr)(n c:Nat)(l:List Nat)(w:World){B}(J:Reads .u64 w B A n l)(U:0<n)(PR:n<=1000000)(hB:B<=w):
  Calls AP 104 #[AJ A n c] w λe w'=>∃v,e=AH v/\Words w' (λk=>w<=k) v l/\Below w w w':=by
 obtain⟨i0,hi,Fa,FJ,KU⟩:=info_parts vv;obtain⟨Ol,Vm,Q⟩:=id J;obtain⟨b,off,rfl,nj,_⟩:=Q U;have HL:=AO J;have I:=AO Ol;have Tm:=AO Vm;clear J Ol Vm Q;have hq:=λw=>Go.Lib.run_eql_slice_nil (P:=AP) w 116 120 (b,off) n c 0 0 Be;go_enter func104,ntmps104
 go_wp2_with (with_reducible refine EW 7 ?_)
 unfold Hid;refine Jc _ rfl _ _ 116 rfl w 120 i0 (.int .u64 0) 8 Be hi Fa FJ KU rfl _ 0 [] rfl (ownsRow_made w 120) (b,off) n c (l.map λx:Nat=>BZ .u64 x) rfl (by rw[Ai];exact I.out) (HL.out.GQ ((AS _ w).alloc a5 _:Below B w _)).source Ut a5 a5 a8 ?_;intro v' w' O hb;rw[BM,BL]at O;have HO:=AO O;have HB:=AO (((AS w w).alloc ar _).trans hb);clear O hb;go_wp2
 go_ret
 exact⟨v',rfl,fK HO.out I.out U Tm.out,HB.out⟩
theorem yF(w:World):(zeroValue 116).run AP w=.ok (AJ AD 0 0) w:=a7
theorem GV(w:World){ops}{rest}{o}{a}{Q}
  (U:o.guard=AD)(m x:Operand)(Yd:o.op=Op.lookup 91 m x true)(b n:Nat)(f:Int->Option Value)(hm:a.eval m=.map (AE b))(h:Lt w b n f)(i:Int)(hi:Gj i)(O:a.eval x=.int AB i)
  (u:Value)(k:Bool)(hu:(u=.slice AD 0 0/\k=false/\f i=AD)\/(f i=AE u/\k=true))(J:wpList AP ops Q rest (a.put o.dst (AM #[u,k])) w):
  wpList AP ops Q (o::rest) a w:=by
 obtain⟨D,ER,h0,h1,h2⟩:=h;refine wpList_lookup_own_ok w U m x 91 Yd 3 116 law underlying91 Xb (yF w) (.held (.slice AD 0 0)) [] rfl b n D hm ER _ (.int AB i) O (yw hi) ?_;intro v ps I;have e:DataW.held v=D.atKey (.int AB i) (.held (.slice AD 0 0)):=by unfold Xb at I;injection I with I;injection I
 rcases hu with⟨rfl,rfl,hn⟩|⟨hs,rfl⟩
 ·have hh:=h1 i hi hn;rw[Maps.atKey_of_not_has hh]at e;injection e with e
  rw[hh,e];exact J
 ·obtain⟨hh,ha⟩:=h2 i u hi hs;rw[ha]at e;injection e with e
  rw[hh,e];exact J
theorem Xi(size:Nat)(blocks:Int)(b:Nat)(w:World):
  Calls AP 50 #[size,blocks,.map (AE b)] w λe w'=>e=AH (AI (w.heap.size+1,0))/\Lt w' w.heap.size 0 nothing/\
   Row w' (w.heap.size+1) 94 (cellsOf (fresh size blocks) b w.heap.size (AJ AD 0 0))/\Below w.heap.size w w'/\w'.heap.size=w.heap.size+2:=by
 have I:=@run_makeMap AP;have O:=AO ((Lt.made w).same (w':=(w.alloc (.map #[] 0)).alloc (.cells (cellsOf (fresh size blocks) b w (AJ AD 0 0)).toArray 94)) (Below.heap_alloc _ _ _ a8));have J:Hid (Row ((w.alloc (.map #[] 0)).alloc (.cells (cellsOf (fresh size blocks) b w (AJ AD 0 0)).toArray 94)) (w+1) 94 (cellsOf (fresh size blocks) b w (AJ AD 0 0))):=by
  unfold Hid;have:=heap_alloc_new (w.alloc (.map #[] 0)) (.cells (cellsOf (fresh size blocks) b w (AJ AD 0 0)).toArray 94);simp only[World.alloc,Array.size_push]at this⊢;exact this
 go_enter func50,ntmps50
 go_wp2
 go_ret
 exact⟨rfl,O.out,J.out,((AS _ w).alloc ar _).alloc a8 _,a8⟩
theorem aH{size blocks}(J:8<=size/\size<=256)(I:0<=blocks/\blocks<=1000000):Fits (fresh size blocks) 0:=
 ⟨J,I,⟨Int.le_refl 0,(by decide:(0:Int)<=1000000)⟩,⟨Int.le_refl 0,(by decide:(0:Int)<=1000000)⟩,⟨Int.le_refl 0,Int.le_refl 0⟩,a6,λe he=>(by cases he),λx l h=>(by cases h)⟩
theorem sX(size:Nat)(blocks:Int)(w:World)(h1:8<=size/\size<=256)(h2:0<=blocks/\blocks<=1000000):
  Calls AP 23 #[size,blocks] w λe w'=>∃p G,e=AH (AM #[AI (AE ⟨p,0,AD⟩),()])/\NC w' G p (fresh size blocks) 0/\(∀k,G k->w.heap.size<=k)/\Below w.heap.size w w':=by
 have ab:=@run_makeMap AP;have g1:decide ((size:Int)<8)=false:=by simp;omega
 have g2:decide ((size:Int)>256)=false:=by simp;omega
 have g3:decide (blocks<0)=false:=by simp;omega
 have g4:decide (blocks>1000000)=false:=by simp;omega
 have hh:=Xi size blocks w (w.alloc (.map #[] 0));have HM:=AO (Lt.made w);have HF:=AO (aH h1 h2);clear h1 h2;go_enter func23,ntmps23
 go_wp2_with fail
 refine hh.mono ?_;rintro e w1 ⟨rfl,O,Q,Dg,FJ⟩;have U:(w.alloc (.map #[] 0)).heap.size=w+1:=a8;rw[U]at O Q Dg FJ;have I:=HM.out.same (Dg.block w a5);have HD:Hid (NC w1 (λk=>w<=k/\k<w1) (w+1+1) (fresh size blocks) 0):=
  ⟨HF.out,w.heap.size,w.heap.size+1,AJ AD 0 0,0,Q,⟨nothing,I,λx=>trivial⟩,⟨nothing,O,λx=>trivial⟩,KL.nil _ _,a5,⟨a5,a5⟩,⟨a5,a5⟩,⟨a5,a5⟩,λk J=>J.2,AQ _⟩
 have HB:=AO (((AS w w).alloc ar (.map #[] 0)).trans (Dg.mono a5));clear O Q Dg I U hh;go_wp2
 go_ret2
 exact⟨w+1+1,_,rfl,HD.out,λk J=>J.1,HB.out⟩
theorem Qn{w g n}(h:Row w g 120 (BC n (.int .u64 0)))(I:0<n)(hm:n<=maxLen){G}(J:G g):Words w G (AJ g n n) (BC n 0):=by
 refine⟨g,n,_,by rw[List.length_replicate],h,J,a8,hm,by simpa using I,λx e=>by rw[List.eq_of_mem_replicate e];decide,?_⟩;simp
theorem lO(p:Nat)(s:St)(n:Nat)(G:Nat->Prop)(i:Int)(w:World)(h:NC w G p s n)(hn:n<1000000)(hi:Gj i):
  Calls AP 96 #[AI p,i] w λe w'=>∃v,e=AH (AM #[v,AA AB (read s i).1])/\((read s i).1≠0->v=AJ AD 0 0)/\((read s i).1=0->Words w' (λk=>w<=k) v (s.now i))/\
   NC w' G p (read s i).2 (n+1)/\DJ (λk=>k=p) w w':=by
 obtain⟨_,ao,aq,v0,au,hr,_⟩:=id h;have hh:=cR p s ao aq v0 w i hr;have ha:=dF p s n G (right s i) w h hn;have HR:Hid (read s i=begin s (right s i)):=rfl;rw[HR.out];obtain⟨e1,e2,e3,e4⟩:=Gf s (right s i);have HE:=AO e1;have pe:=AO e3;have ab:=AO e4;clear e1 e2 e3 e4 hr h HR;generalize begin s (right s i)=r at*
 obtain⟨er,s'⟩:=r;simp only at ha HE pe ab⊢;by_cases he:er=0
 ·subst he;go_enter func96,ntmps96
  go_wp2_with fail
  refine hh.mono ?_;rintro e w1 ⟨rfl,rfl⟩;go_wp2_with fail
  refine ha.mono ?_;rintro e YY ⟨rfl,Lr,Kv⟩;obtain⟨J,bl,bf,v,nl,k1,k2,k3,k4,k5,k6,k7,k8,k9,bw⟩:=id Lr;obtain⟨c0,-,c2,c3⟩:=k1.q4;obtain⟨ff,al,O⟩:=k3;obtain⟨fl,Ye,I⟩:=k2;have U:=AO al;have an:=AO Ye;have O:=O i;have I:=I i;have ad:=AO (Lr.up (Nat.le_succ n));have Qg:=AO Kv;have av:=J.size;have tZ:s.now i=blk s'.size (over (lay nothing s'.Ds) s'.fl i):=by unfold St.now;rw[HE.out,pe.out,ab.out,yt]
  have ae:=AO tZ;have cL:∀l,lay nothing s'.Ds i=AE l->l.length=s'.size:=λl hl=>Vf (λl=>l.length=s'.size) s'.Ds nothing (λ_ _ h=>by cases h) (λe he=>(J.Ds e he).2) i l hl;have Oj:∀l,s'.fl i=AE l->l.length=s'.size:=λl hl=>J.fl i l hl;clear k1 k4 k5 k6 k7 k8 k9 bw al Ye Lr Kv hh ha tZ J HE pe ab;have MU:∀(v':Value) (w2:World) (l:List Nat),Below YY YY w2->Words w2 (λk=>YY<=k) v' l->s.now i=l->
    ((0:Int)=0->Words w2 (λk=>w1.heap.size<=k) v' (s.now i))/\NC w2 G p s' (n+1)/\DJ (λk=>k=p) w1 w2:=by
   intro v' w2 l hb hw hl;refine⟨λ_=>?_,ad.out.below hb,Qg.out.trans (DJ.DE hb λ_=>False) λ_ hf=>hf.elim⟩;rw[hl];exact hw.GQ (λ_ _ _ _=>rfl) λk _ _ hk=>Ag Qg.out.size hk
  have Du:=AO MU;clear MU;rcases tv:ff i with _|vf
  ·
   rcases cK:lay nothing s'.Ds i with _|l
   ·rcases IZ:fl i with _|vl
    ·
     rcases PS:s'.fl i with _|l
     ·have HL:Hid (s.now i=BC s'.size 0):=by unfold Hid;rw[ae.out];simp[over,cK,PS,blk]
      have OI:=AO tv;have qf:=AO IZ;obtain⟨i0,FW,Fa,FJ,KU⟩:=info_parts vv;clear tv IZ O I cK PS cL Oj;go_wp2_with (with_reducible refine EW 25 ?_)
      unfold Hid;refine GV _ rfl _ _ rfl bf _ ff rfl U.out i hi rfl (AJ AD 0 0) false (.inl ⟨rfl,rfl,OI.out⟩) ?_;go_wp2_with (with_reducible refine EW 37 ?_)
      unfold Hid;refine GV _ rfl _ _ rfl bl _ fl rfl an.out i hi rfl (AJ AD 0 0) false (.inl ⟨rfl,rfl,qf.out⟩) ?_;go_wp2_with (with_reducible refine EW 47 ?_)
      unfold Hid;refine JA _ rfl _ _ 116 rfl 120 i0 (.int .u64 0) Be FW Fa FJ rfl AB AB _ _ s'.size rfl rfl rfl rfl (by rw[KU];omega) a5 ?_;intro w2 EC DT G9;obtain⟨x1,x2,x3⟩:=Du.out _ w2 _ DT (Qn EC a5 (by unfold maxLen;omega) ar) HL.out;have X1:=AO x1;have X2:=AO x2;have X3:=AO x3;clear x1 x2 x3 EC DT G9;go_wp2
      go_ret2
      exact⟨_,rfl,λh=>absurd rfl h,X1.out,X2.out,X3.out⟩
     ·rw[IZ,PS]at I;exact I.elim
    ·
     rcases PS:s'.fl i with _|l
     ·rw[IZ,PS]at I;exact I.elim
     ·rw[IZ,PS]at I;have HL:Hid (s.now i=l):=by unfold Hid;rw[ae.out];simp[over,cK,PS,blk]
      have zU:=Oj l PS;obtain⟨A,c,rfl,hA,SS⟩:=Words.reads I;have OI:=AO tv;have qf:=AO IZ;have Q:=Nl A l.length c l YY SS a5 a5 ar;clear tv IZ O I cK PS cL Oj SS zU;go_wp2_with (with_reducible refine EW 25 ?_)
      unfold Hid;refine GV _ rfl _ _ rfl bf _ ff rfl U.out i hi rfl (AJ AD 0 0) false (.inl ⟨rfl,rfl,OI.out⟩) ?_;go_wp2_with (with_reducible refine EW 37 ?_)
      unfold Hid;refine GV _ rfl _ _ rfl bl _ fl rfl an.out i hi rfl _ true (.inr ⟨qf.out,rfl⟩) ?_;go_wp2_with fail
      refine Q.mono ?_;rintro e w2 ⟨v',rfl,GS,DT⟩;obtain⟨x1,x2,x3⟩:=Du.out _ w2 _ DT GS HL.out;have X1:=AO x1;have X2:=AO x2;have X3:=AO x3;clear x1 x2 x3 GS DT;go_wp2
      go_ret2
      exact⟨_,rfl,λh=>absurd rfl h,X1.out,X2.out,X3.out⟩
   ·rw[tv,cK]at O;exact O.elim
  ·
   rcases cK:lay nothing s'.Ds i with _|l
   ·rw[tv,cK]at O;exact O.elim
   ·rw[tv,cK]at O;have HL:Hid (s.now i=l):=by unfold Hid;rw[ae.out];simp[over,cK,blk]
    have zU:=cL l cK;obtain⟨A,c,rfl,hA,SS⟩:=Words.reads O;have OI:=AO tv;have Q:=Nl A l.length c l YY SS a5 a5 ar;clear tv O I cK cL Oj SS zU;go_wp2_with (with_reducible refine EW 25 ?_)
    unfold Hid;refine GV _ rfl _ _ rfl bf _ ff rfl U.out i hi rfl _ true (.inr ⟨OI.out,rfl⟩) ?_;go_wp2_with fail
    refine Q.mono ?_;rintro e w2 ⟨v',rfl,GS,DT⟩;obtain⟨x1,x2,x3⟩:=Du.out _ w2 _ DT GS HL.out;have X1:=AO x1;have X2:=AO x2;have X3:=AO x3;clear x1 x2 x3 GS DT;go_wp2
    go_ret2
    exact⟨_,rfl,λh=>absurd rfl h,X1.out,X2.out,X3.out⟩
 ·have g:(er !=0)=true:=by simpa using he
  have HE:=AO he;clear he;go_enter func96,ntmps96
  go_wp2_with fail
  refine hh.mono ?_;rintro e w1 ⟨rfl,rfl⟩;go_wp2_with fail
  refine ha.mono ?_;rintro e YY ⟨rfl,Lr,Kv⟩;have ad:=AO (Lr.up (Nat.le_succ n));have Qg:=AO Kv;clear Lr Kv hh ha;go_wp2
  go_ret2
  exact⟨_,rfl,λ_=>rfl,λh=>absurd h HE.out,ad.out,Qg.out⟩
theorem y5:(AP.info? 166).map (λi=>(i.zero,i.size,i.bytes))=AE (AE (AL #[(),AJ AD 0 0]),2,32):=a7
theorem dX{G p n bl bf nl s v v' u i l w1 w2 w3 O o ff rs}
  (J:Fits s n)(hi:Gj i)(hl:l.length=s.size)
  (Q:Row w1 p 94 (cellsOf s bl bf v))(k2:LD w1 G bl nl s.fl)(k4:KL w1 G v s.Ds)(Lk:Lt w1 bf s.Ds.length ff)(k5:bl≠bf)(k6:G p)(k7:G bl)(k8:G bf)(k9:∀k,G k->k<w1)(bw:nl+s.Ds.length+1<=n)
  (hrel:∀x,Rel w1 G (ff x) (lay nothing s.Ds x))(DT:Below w1 w1 w2)(hu:Words w2 (λk=>w1<=k) u l)
  (an:Lt w3 bf (s.Ds.length+1) (WN ff i u))(Ia:w2.grownBy w3 (AE bf))
  (ao:rs.length=s.Ds.length)(aw:∀(j:Nat) (r:Int×Value) (e:Int×List Nat),rs[j]?=AE r->s.Ds[j]?=AE e->r.1=e.1/\Words w1 G r.2 e.2)(ER:∀k,v.ownBlock=AE k->G k)
  (QT:O.ownsRow 0 166 2 v' (s.Ds.length+1) (NY (rs++[(i,u)])))(Z3:(w3.alloc o).grownBy O v.ownBlock)(Eu:v'.ownBlock=v.ownBlock\/v'.ownBlock=AE (w3.alloc o).heap.size):
  ∃G',NC (O.setCell (p,4) v') G' p {s with Ds:=s.Ds++[(i,l)]} n/\DJ G w1 (O.setCell (p,4) v')/\∀k,G' k->G k\/w1<=k:=by
 have ae:v.ownBlock≠AE p:=k4.ET Q a6;have ar:v.ownBlock≠AE bl:=k4.Vb k2;have ab:LD w1 G bf s.Ds.length (lay nothing s.Ds):=⟨ff,Lk,hrel⟩;have aq:v.ownBlock≠AE bf:=k4.Vb ab;have zP:p≠bl:=k2.ET Q;have al:p≠bf:=ab.ET Q;have az:∀k cs,Row w1 k 120 cs->k≠p/\k≠bf/\v.ownBlock≠AE k:=λk cs I=>by
  refine⟨λe=>?_,ab.ET I,k4.ET I a6⟩;subst e;unfold Row at Q I;rw[Q]at I;injection I with I;injection I with _ I;exact absurd I a6
 have F2:DJ (λk=>k=p\/k=bf\/v.ownBlock=AE k) w1 w2:=DJ.DE DT _;have F3:DJ (λk=>k=p\/k=bf\/v.ownBlock=AE k) w1 w3:=F2.grown Ia λk I=>by injection I with I;exact .inl (.inr (.inl I.symm))
 have F5:DJ (λk=>k=p\/k=bf\/v.ownBlock=AE k) w1 O:=(F3.alloc o).grown Z3 λk I=>.inl (.inr (.inr I));have F6:DJ (λk=>k=p\/k=bf\/v.ownBlock=AE k) w1 (O.setCell (p,4) v'):=F5.set (.inl (.inl rfl)) _;have E3:DJ (λk=>v.ownBlock=AE k) w3 O:=((DJ.refl _ w3).alloc o).grown Z3 λk I=>.inl I;have E2:DJ (λk=>k=bf\/v.ownBlock=AE k) w2 O:=(((DJ.refl _ w2).grown Ia λk I=>by injection I with I;exact .inl (.inl I.symm)).alloc o).grown Z3 λk I=>.inl (.inr I);have ay:=DT.size;have aA:=F3.size;have aB:=F5.size;have av:Row O p 94 (cellsOf s bl bf v):=F2.row Q|>λ_=>by
  have h1:Row w3 p 94 (cellsOf s bl bf v):=(Ia.block p (BN Q.lt ay) (by intro e;injection e with e;exact al e)).trans (Q.below DT Q.lt);exact E3.row h1 (λe=>ae e)
 have au:Row (O.setCell (p,4) v') p 94 (cellsOf {s with Ds:=s.Ds++[(i,l)]} bl bf v'):=by
  have:=av.set 4 v';exact this
 have z6:(O.setCell (p,4) v').heap.size=O:=a8;have SZ:∀k cs,Row w1 k 120 cs->G k->(O.setCell (p,4) v').heap[k]?=w1.heap[k]?:=λk cs I _=>F6.block k I.lt λhf=>by
  obtain⟨a1,a2,a3⟩:=az k cs I;rcases hf with hf|hf|hf
  ·exact a1 hf
  ·exact a2 hf
  ·exact a3 hf
 have ad:Words (O.setCell (p,4) v') (λk=>G k\/(w1<=k/\k<O)) u l:=by
  refine hu.GQ (λk cs I hg=>?_) (λk cs I hg=>.inr ⟨hg,BN I.lt (by have:=E2.size;omega)⟩);have qL:k≠p:=by have:=k9 p k6;omega
  have h1:O.heap[k]?=w2.heap[k]?:=E2.block k I.lt λhf=>by
   rcases hf with hf|hf
   ·have:=k9 bf k8;omega
   ·have:=k9 k (ER k hf);omega
  rw[heap_setCell_other O ⟨p,4,AD⟩ k v' (by simpa using qL)];exact h1
 have Vq:DJ G w1 (O.setCell (p,4) v'):=F6.mono λb hb=>by
  rcases hb with hb|hb|hb
  ·subst hb;exact k6
  ·subst hb;exact k8
  ·exact ER b hb
 refine⟨λk=>G k\/(w1<=k/\k<O),⟨?_,bl,bf,v',nl,au,?_,?_,?_,k5,.inl k6,.inl k7,.inl k8,λk I=>?_,by simp only[Aa,List.length_singleton];omega⟩,Vq,λk I=>I.imp_right (·.1)⟩
 ·refine⟨J.size,J.blocks,J.fn,J.tn,J.Dp,J.small,λe he=>?_,J.fl⟩;rcases Ah.1 he with he|he
  ·exact J.Ds e he
  ·rw[Bp.1 he];exact⟨hi,hl⟩
 ·refine k2.GQ (F6.block bl (k9 bl k7) λhf=>?_) SZ (λk _ _ I=>.inl I);rcases hf with hf|hf|hf
  ·exact zP hf.symm
  ·exact k5 hf
  ·exact ar hf
 ·refine⟨WN ff i u,?_,λx=>?_⟩
  ·rw[Aa,List.length_singleton];refine an.same ?_;rw[heap_setCell_other O ⟨p,4,AD⟩ bf v' (by simpa using al.symm)];exact E3.block bf an.lt λe=>aq e
  ·show Rel _ _ _ (lay nothing (s.Ds++[(i,l)]) x);rw[SJ];by_cases e:x=i
   ·subst e;rw[Kb,Kb];exact ad
   ·rw[JV _ _ e,JV _ _ e];exact(hrel x).GQ SZ (λk _ _ I=>.inl I)
 ·have ax:v'.ownBlock≠AE p:=by
   rcases Eu with h|h
   ·rw[h];exact ae
   ·rw[h];intro e;injection e with e
    have:=k9 p k6;simp only[World.alloc,Array.size_push]at e;omega
  refine⟨rs++[(i,u)],?_,by simp[ao],λj r e U he=>?_,λk I=>?_⟩
  ·rw[Aa,List.length_singleton];exact Fw QT λk I=>heap_setCell_other O ⟨p,4,AD⟩ k v' (by intro e;simp only at e;subst e;exact ax I)
  ·by_cases hj:j<rs.length
   ·rw[Aj hj]at U;rw[Aj a5]at he;obtain⟨a1,a2⟩:=aw j r e U he;exact⟨a1,a2.GQ SZ (λk _ _ I=>.inl I)⟩
   ·rw[AW a5]at U;rw[AW a5]at he;have UW:j=rs.length:=by
     rcases Ak (j-rs.length) 1 with h1|h1
     ·omega
     ·rw[BG (by simpa using h1)]at U;cases U
    subst UW;rw[As]at U;rw[ao,As]at he;simp at U he;subst U;subst he;exact⟨rfl,ad⟩
  ·rcases Eu with h|h
   ·exact .inl (ER k (by rw[<-h];exact I))
   ·refine .inr ⟨?_,?_⟩
    ·rw[h]at I;injection I with I;subst I
     simp only[World.alloc,Array.size_push];omega
    ·exact(QT.lt k I).2
 ·rcases I with I|I
  ·have:=k9 k I;rw[z6];omega
  ·rw[z6];exact I.2
theorem Row.lu{w p s bl bf A n c}(e:Row w p 94 (cellsOf s bl bf (AJ A n c)))(i:Nat)(x:Int):w.cell? (p,i)≠AE (.int .u64 x):=by
 intro h;rw[e.cell i]at h;have:=Ae h;simp[cellsOf]at this
theorem Reads.E4{k w w1 B A n l F}(h:Reads k w B A n l)(U:B<=w.heap.size)(hf:DJ F w w1)(hF:0<n->∀b off,A=AE ⟨b,off,AD⟩->¬F b):Reads k w1 B A n l:=by
 obtain⟨Q,O,h3⟩:=h;refine⟨Q,O,λe=>?_⟩;obtain⟨b,off,I,hb,J⟩:=h3 e;refine⟨b,off,I,hb,λi hi=>?_⟩;rw[World.cell?_of_block (w:=w) (w':=w1) (hf.block b a5 (hF e b off I))];exact J i hi
theorem YH(s:St):(begin s false).1≠0:=by
 unfold begin;by_cases h:s.down=true
 ·rw[if_pos h];exact λh=>absurd h (by decide:¬((8:Int)=0))
 ·rw[if_neg h,if_pos rfl];exact λh=>absurd h (by decide:¬((1:Int)=0))
theorem dY(p:Nat)(s:St)(n:Nat)(G:Nat->Prop)(i:Int)(A:Option Addr)(m c:Nat)(l:List Nat)(w:World){B}(h:NC w G p s n)(hn:n<1000000)(hi:Gj i)(hl:Reads .u64 w B A m l)(hB:B<=w):
  Calls AP 78 #[.pointer p,i,.slice A m c] w λe w'=>e=AH (AA AB (write s i l).1)/\∃G',NC w' G' p (write s i l).2 (n+1)/\DJ G w w'/\∀k,G' k->G k\/w<=k:=by
 obtain⟨_,aA,aB,v0,a2,hr,_,_,an,_⟩:=id h;obtain⟨A0,q0,rfl⟩:=an.form;have hh:=cR p s aA aB _ w i hr;have c0:w.cell? p=AE (AA AB (s.size:Int)):=hr.cell 0;have hlen:=hl.1;have ha:=dF p s n G (right s i&&decide (l.length=s.size)) w h hn;have pU:=AO h.Qp;have O7:=AO h.fits.size;have HR:Hid (write s i l=if (begin s (right s i&&decide (l.length=s.size))).1=0 then (0,{(begin s (right s i&&decide (l.length=s.size))).2 with Ds:=s.Ds++[(i,l)]})else begin s (right s i&&decide (l.length=s.size))):=rfl;rw[HR.out];obtain⟨e1,e2,e3,e4⟩:=Gf s (right s i&&decide (l.length=s.size));have HE:=AO e1;have pe:=AO e3;have av:=AO e4;have H0:Hid ((begin s (right s i&&decide (l.length=s.size))).1=0->right s i=true/\l.length=s.size):=by
  intro h0;rcases hb:(right s i&&decide (l.length=s.size))with _| _
  ·rw[hb]at h0;exact absurd h0 (YH s)
  ·simpa using hb
 have Lx:Hid (∀w1,DJ (λk=>k=p) w w1->Reads .u64 w1 B A m l):=λw1 hf=>hl.E4 hB hf λhm b off hA hb=>by
  obtain⟨_,_,h3⟩:=hl;obtain⟨b',SD,O,_,hc⟩:=h3 hm;rw[hA]at O;injection O with O;injection O with Tz Ny;subst Tz;subst Ny
  subst hb;exact hr.lu _ _ (hc 0 hm)
 clear e1 e2 e3 e4 hr h HR an;generalize QW:(right s i&&decide (l.length=s.size))=b at*
 generalize begin s b=r at*
 obtain⟨er,s'⟩:=r;simp only at ha HE pe av H0⊢;have Gg:=AO hlen;have qg:=AO QW;clear hl hlen QW;by_cases gF:right s i=true
 ·rw[gF]at hh;have gb:((m:Int)==(s.size:Int))=b:=by
   rw[<-qg.out,gF,Gg.out];by_cases e:m=s.size
   ·subst e;simp
   ·have:¬((m:Int)=(s.size:Int)):=a5;simp[e,this]
  clear gF qg;by_cases he:er=0
  ·subst he;rw[if_pos rfl];go_enter func78,ntmps78
   go_wp2_with fail
   refine hh.mono ?_;rintro e w1 ⟨rfl,rfl⟩;go_wp2_with fail
   refine ha.mono ?_;rintro e Q ⟨rfl,Lr,J⟩;obtain⟨ab,bl,bf,v,nl,k1,k2,k3,k4,k5,k6,k7,k8,k9,bw⟩:=id Lr;have a3:=O7.out;have Oj:=(H0.out (by trivial)).2;have hm:=Gg.out;have al:=Nl A m c l Q (Lx.out _ J) a5 a5 (Ag hB J.size);obtain⟨ff,Lk,hrel⟩:=k3;obtain⟨A1,U,rfl⟩:=k4.form;obtain⟨rs,o1,o2,o3,o4⟩:=id k4;have c3:Q.cell? (p,3)=AE (.map (AE bf)):=k1.cell 3;have Du:=AO (λ(w2 w3 w5:World) (o:Obj) (v' u:Value) (DT:Below Q Q w2) (hu:Words w2 (λk=>Q<=k) u l) (ax:Lt w3 bf (s'.Ds.length+1) (WN ff i u)) (Ia:w2.grownBy w3 (AE bf)) (QT:w5.ownsRow 0 166 2 v' (s'.Ds.length+1) (NY (rs++[(i,u)]))) (Z3:(w3.alloc o).grownBy w5 (Value.slice A1 s'.Ds.length U).ownBlock) Eu=>dX ab hi (by rw[HE.out];exact Oj) k1 k2 k4 Lk k5 k6 k7 k8 k9 a5 hrel DT hu ax Ia o2 o3 o4 QT Z3 Eu);have xq:=AO k1;have aD:=AO o1;have ae:Hid ((Value.slice A1 s'.Ds.length U).ownBlock≠AE bf/\bf≠p/\bf<Q):=⟨k4.Vb (⟨ff,Lk,hrel⟩:LD Q G bf _ _),λe=>Lk.ET k1 e.symm,k9 bf k8⟩;have aE:=AO Lk;have Qg:=AO J;have a7:s'.Ds.length<=1000000:=a5;have aC:Hid ((Value.slice A1 s'.Ds.length U).ownBlock≠AE p):=k4.ET k1 a6;have aw:=AO o1.lt;clear k1 k2 Lk k4 k5 k6 k7 k8 k9 bw hrel o1 o2 o3 o4 Lr J ab;go_wp2_with fail
   refine al.mono ?_;rintro e w2 ⟨u,rfl,GS,DT⟩;have YR:=AO (xq.out.below DT xq.out.lt);have c3:w2.cell? (p,3)=AE (.map (AE bf)):=YR.out.cell 3;have ay:=aE.out.same (DT.block bf ae.out.2.2);have dO:=AO (Fw aD.out λk I=>DT.block k (aw.out k I).2);have Fg:=AO DT;have Lv:=AO GS;obtain⟨D,hD,ar⟩:=ay;have HD:=AO hD;have a1:=AO ar;obtain⟨Au,mu,cu,hu⟩:∃Au mu cu,u=.slice Au mu cu:=by obtain⟨g,cc,cs,hv,_⟩:=GS;exact⟨_,_,_,hv⟩
   subst hu;clear al DT GS hD ar;go_wp2_with (with_reducible refine VF ?_)
   unfold Hid;refine wpList_mapUpdate_own _ rfl _ _ _ 91 rfl 3 116 law underlying91 Xb bf _ D rfl HD.out (by unfold maxLen;omega) _ _ _ rfl rfl (yw hi) (.held _) [] rfl ?_;intro w3 au Ia;have aR:Hid (Lt w3 bf (s'.Ds.length+1) (WN ff i (.slice Au mu cu))):=⟨_,au,a1.out.put hi _⟩;have a0:=AO Ia;have FT:Row w3 p 94 (cellsOf s' bl bf (.slice A1 s'.Ds.length U)):=(Ia.block p YR.out.lt (by intro e;injection e with e;exact ae.out.2.1 e.symm)).trans YR.out;have c4:w3.cell? (p,4)=AE (.slice A1 s'.Ds.length U):=FT.cell 4;have f4:=FT.free 4;have IG:=AO FT;have qa:=AO (Fw dO.out λk I=>Ia.block k (BN (aw.out k I).2 Fg.out.size) (by intro e;injection e with e;subst e;exact ae.out.1 I));clear au Ia FT c3;obtain⟨i0,FW,Fa,FJ,KU⟩:=info_parts y5;go_wp2_with (with_reducible refine EW 43 ?_)
   unfold Hid;refine wpList_append_own_at _ rfl _ _ 92 rfl 0 166 i0 (AL #[(),.slice AD 0 0]) 2 32 underlying92 FW Fa FJ KU rfl a5 (.slice A1 s'.Ds.length U) s'.Ds.length (NY rs) rfl (qa.out.alloc _) w3 1 1 [i,.slice Au mu cu] rfl rfl ?_ (by simp[Value.oneCell']) (by unfold maxLen;omega) a5 a5 ?_
   ·intro j v hj
    match j,hj with
    |0,hj=>simp at hj;subst hj;simp[Cj]
    |1,hj=>simp at hj;subst hj;simp[Cj]
   intro v' w5 QT Z3 _ Eu;have nE:w5.ownsRow 0 166 2 v' (s'.Ds.length+1) (NY (rs++[(i,.slice Au mu cu)])):=by rw[Ou];exact QT
   obtain⟨G',aq,WR,ao⟩:=Du.out w2 w3 w5 _ v' _ Fg.out Lv.out aR.out a0.out nE Z3 Eu;have Ju:Row w5 p 94 (cellsOf s' bl bf (.slice A1 s'.Ds.length U)):=(Z3.block p (by have:=IG.out.lt;simp only[World.alloc,Array.size_push];omega) (λe=>aC.out e.symm)).trans (IG.out.alloc _);have c4:w5.cell? (p,4)=AE (.slice A1 s'.Ds.length U):=Ju.cell 4;have f4:=Ju.free 4;obtain⟨A5,c5,rfl⟩:∃A5 c5,v'=.slice A5 (s'.Ds.length+1) c5:=by
    rcases QT.2 with⟨rfl,h0⟩|⟨g,cap,cur,rfl,_⟩
    ·omega
    ·exact⟨_,_,rfl⟩
   have yA:=AO aq;have vS:=AO WR;have aS:=AO ao;clear aq WR ao Ju QT nE Z3 Eu;go_wp2
   go_ret
   refine⟨rfl,G',?_,?_,λk I=>?_⟩
   ·rw[<-av.out];exact yA.out
   ·exact(Qg.out.mono λb hb=>by subst hb;exact pU.out).trans vS.out λb hb=>.inl hb
   ·rcases aS.out k I with h|h
    ·exact .inl h
    ·exact .inr (Ag Qg.out.size h)
  ·have g:(er !=0)=true:=by simpa using he
   rw[if_neg he];clear he;go_enter func78,ntmps78
   go_wp2_with fail
   refine hh.mono ?_;rintro e w1 ⟨rfl,rfl⟩;go_wp2_with fail
   refine ha.mono ?_;rintro e Q ⟨rfl,Lr,J⟩;have ad:=AO (Lr.up (Nat.le_succ n));have Qg:=AO J;clear Lr J hh ha;go_wp2
   go_ret
   exact⟨rfl,G,ad.out,Qg.out.mono λb hb=>by subst hb;exact pU.out,λk I=>.inl I⟩
 ·have tQ:right s i=false:=by simpa using gF
  have az:b=false:=by rw[<-qg.out,tQ];rfl
  have he:er≠0:=λe=>by have:=(H0.out e).1;rw[tQ]at this;cases this
  have g:(er !=0)=true:=by simpa using he
  rw[if_neg he];subst az;rw[tQ]at hh;clear he gF tQ qg;go_enter func78,ntmps78
  go_wp2_with fail
  refine hh.mono ?_;rintro e w1 ⟨rfl,rfl⟩;go_wp2_with fail
  refine ha.mono ?_;rintro e Q ⟨rfl,Lr,J⟩;have ad:=AO (Lr.up (Nat.le_succ n));have Qg:=AO J;clear Lr J hh ha;go_wp2
  go_ret
  exact⟨rfl,G,ad.out,Qg.out.mono λb hb=>by subst hb;exact pU.out,λk I=>.inl I⟩
def findAt:List (Nat×Nat)->Nat->Nat->Option (Nat×Nat)
 |[],_,_=>AD
 |q::l,x,i=>if q.1=x then AE (i,q.2)else findAt l x (i+1)
def wordsAt:List (Nat×Nat)->Nat->Option Nat
 |[],_=>AD
 |q::l,x=>if q.1=x then AE q.2 else wordsAt l x
def Fu:List (Nat×Nat)->Nat->List (Nat×Nat)
 |[],_=>[]
 |q::l,x=>if q.1=x then l else q::Fu l x
def total:List (Nat×Nat)->Nat
 |[]=>0
 |q::l=>q.2+total l
theorem Ma:∀(l:List (Nat×Nat)) (x i:Nat),wordsAt l x=AD->findAt l x i=AD
 |[],_,_,_=>rfl
 |q::l,x,i,h=>by
  unfold wordsAt at h;unfold findAt;by_cases e:q.1=x
  ·rw[if_pos e]at h;cases h
  ·rw[if_neg e]at h⊢;exact Ma l x _ h
theorem MZ:∀(l:List (Nat×Nat)) (x i n:Nat),wordsAt l x=AE n->∃j,findAt l x i=AE (i+j,n)/\j<l.length/\l.eraseIdx j=Fu l x
 |[],_,_,_,h=>by cases h
 |q::l,x,i,n,h=>by
  unfold wordsAt at h;unfold findAt Fu;by_cases e:q.1=x
  ·rw[if_pos e]at h⊢;injection h with h;subst h
   exact⟨0,rfl,a8,by simp[e]⟩
  ·rw[if_neg e]at h⊢;obtain⟨j,I,J,h3⟩:=MZ l x (i+1) n h;refine⟨j+1,by rw[I];congr 2;omega,by simp;omega,?_⟩;rw[if_neg e,List.eraseIdx_cons_succ,h3]
theorem Nj:∀(l:List (Nat×Nat)) (x n:Nat),wordsAt l x=AE n->total (Fu l x)+n=total l
 |[],_,_,h=>by cases h
 |q::l,x,n,h=>by
  unfold wordsAt at h;unfold Fu;by_cases e:q.1=x
  ·rw[if_pos e]at h⊢;injection h with h;subst h
   show total l+q.2=q.2+total l;omega
  ·rw[if_neg e]at h⊢;have:=Nj l x n h;show q.2+total (Fu l x)+n=q.2+total l;omega
theorem Ri:∀(l:List (Nat×Nat)) (x n:Nat),total (l++[(x,n)])=total l+n
 |[],_,n=>by show n+0=0+n;omega
 |q::l,x,n=>by show q.2+total (l++[(x,n)])=q.2+total l+n;rw[Ri l x n];omega
theorem Iq:∀(l:List (Nat×Nat)) (x n:Nat),wordsAt l x=AE n->(x,n)∈l
 |[],_,_,h=>by cases h
 |q::l,x,n,h=>by
  unfold wordsAt at h;by_cases e:q.1=x
  ·rw[if_pos e]at h;injection h with h;subst h;subst e;exact Az
  ·rw[if_neg e]at h;exact BD _ (Iq l x n h)
theorem NR:∀(l:List (Nat×Nat)) (x:Nat),(∀q∈l,q.1≠x)->wordsAt l x=AD
 |[],_,_=>rfl
 |q::l,x,h=>by
  unfold wordsAt;rw[if_neg (h q Az)];exact NR l x λr e=>h r (BD _ e)
theorem Ir:∀(l:List (Nat×Nat)) (x:Nat) (q:Nat×Nat),q∈Fu l x->q∈l
 |[],_,_,h=>h
 |r::l,x,q,h=>by
  unfold Fu at h;by_cases e:r.1=x
  ·rw[if_pos e]at h;exact BD _ h
  ·rw[if_neg e]at h;rcases A8.1 h with h|h
   ·rw[h];exact Az
   ·exact BD _ (Ir l x q h)
structure Ar where
 room:Nat
 used:Nat
 F8:Nat
 st:List (Nat×Nat)
def empty(room:Nat):Ar:=⟨room,0,0,[]⟩
def FK(s:Ar)(b n:Nat):Ar:={s with used:=s.used+n,F8:=if s.F8<s.used+n then s.used+n else s.F8,st:=s.st++[(b,n)]}
def release(s:Ar)(b n:Nat):Ar:={s with used:=s.used-n,st:=Fu s.st b}
structure Sound (s:Ar):Prop where
 used:s.used=total s.st
 F8:s.used<=s.F8/\s.F8<=s.room
 room:s.room<=9223372036854775807
theorem YA{room}(h:room<=9223372036854775807):Sound (empty room):=⟨rfl,⟨AQ _,Ao _⟩,h⟩
theorem Xw{s}(h:Sound s)(b:Nat){n}(e:n<=s.room-s.used):Sound (FK s b n):=by
 have I:=h.F8;refine⟨?_,⟨?_,?_⟩,h.room⟩
 ·show s.used+n=total (s.st++[(b,n)]);rw[Ri,h.used]
 ·show s.used+n<=if s.F8<s.used+n then s.used+n else s.F8
  split<;>omega
 ·show (if s.F8<s.used+n then s.used+n else s.F8)<=s.room
  split<;>omega
theorem NW{s}(h:Sound s){b n}(hb:wordsAt s.st b=AE n):Sound (release s b n):=by
 have e:=h.F8;have I:=Nj s.st b n hb;have h3:=h.used;refine⟨?_,⟨?_,e.2⟩,h.room⟩
 ·show s.used-n=total (Fu s.st b);omega
 ·show s.used-n<=s.F8;omega
theorem R3{s}(h:Sound s){b n}(hb:wordsAt s.st b=AE n):n<=s.used:=by
 have e:=Nj s.st b n hb;have h3:=h.used;omega
def ptr(b:Nat):Value:=AI b
def LI(w:World)(b:Nat):Prop:=∃v,Row w b 119 [v]
def Jy(w:World)(b:Nat)(l:List (Nat×Nat)):Prop:=
 ∃(es:Array MapEntry) (clock:Nat),w.heap[b]?=AE (.map es clock)/\es.toList.map (λe=>(e.key,e.val))=l.map λq=>(ptr q.1,BZ AB (q.2:Int))
theorem tI:(AP.info? 119).map (λi=>i.size)=AE 1:=a7
theorem uU(w:World){x b}(J:LI w x)(hb:LI w b):(Op.equal 110 (ptr x) (ptr b)).run AP w=.ok (decide (b=x)) w:=by
 obtain⟨j,U,hs⟩:∃j,AP.info? 119=AE j/\j.size=1:=by
  have h:=tI;rcases hi:AP.info? 119 with _|i
  ·rw[hi]at h;cases h
  ·rw[hi]at h;simp at h;exact⟨i,rfl,h⟩
 obtain⟨v,J⟩:=J;obtain⟨u,hb⟩:=hb;by_cases e:b=x
 ·subst e;have h:∀d:Nat,(Op.equalIn (d+1) 110 (ptr b) (ptr b)).run AP w=.ok true w:=λd=>by
   simp[ptr,Op.equalIn,Bz underlying110,sizeOf,typeInfo,U,run_sameAddr_same]
  simp[Op.equal,Op.maxDepth,h 9999]
 ·have O:(x:Addr)≠b:=λh=>e (by injection h with h;exact h.symm);have I:w.heap[(x:Addr).block]?=AE (AK #[v] 119 (0,0)):=J;have Q:w.heap[(b:Addr).block]?=AE (AK #[u] 119 (0,0)):=hb;have h:∀d:Nat,(Op.equalIn (d+1) 110 (ptr x) (ptr b)).run AP w=.ok false w:=λd=>by
   simp[ptr,Op.equalIn,Bz underlying110,sizeOf,typeInfo,U,hs,run_sameAddr_other w O I Q]
  simp[Op.equal,Op.maxDepth,h 9999,e]
theorem L9(w:World){x}(J:LI w x):∀(es:List MapEntry) (l:List (Nat×Nat)) (i:Nat),es.map (λe=>(e.key,e.val))=l.map (λq=>(ptr q.1,BZ AB (q.2:Int)))->(∀q∈l,LI w q.1)->
  (Instr.findAsking 110 (ptr x) es i).run AP w=.ok ((findAt l x i).map λr=>(r.1,BZ AB (r.2:Int))) w
 |[],[],i,_,_=>by simp[Instr.findAsking,findAt]
 |[],q::l,i,h,_=>by cases h
 |e::es,[],i,h,_=>by cases h
 |e::es,q::l,i,h,hl=>by
  have O:(e.key,e.val)=(ptr q.1,BZ AB (q.2:Int)):=by injection h
  have h1:es.map (λe=>(e.key,e.val))=l.map (λq=>(ptr q.1,BZ AB (q.2:Int))):=by injection h
  have hk:e.key=ptr q.1:=by injection O
  have U:e.val=BZ AB (q.2:Int):=by injection O
  have I:=uU w J (hl q Az);have Q:=L9 w J es l (i+1) h1 λr hr=>hl r (BD _ hr);unfold Instr.findAsking findAt;rw[hk];by_cases he:q.1=x
  ·rw[he]at I⊢;simp[I,U,BU]
  ·simp[I,he,Q,BU]
theorem run_findKey(w:World){x}(I:LI w x)(es:List MapEntry)(l:List (Nat×Nat))(h:es.map (λe=>(e.key,e.val))=l.map (λq=>(ptr q.1,BZ AB (q.2:Int))))(O:∀q∈l,LI w q.1):
  (Instr.findKey 110 (ptr x) es).run AP w=.ok ((findAt l x 0).map λr=>(r.1,BZ AB (r.2:Int))) w:=by
 have hf:=L9 w I es l 0 h O;unfold Instr.findKey;rcases es with _|⟨e,es⟩
 ·match l,h with
  |[],_=>simp[Bz underlying110,Instr.findNow,findAt,BU]
 ·have J:∀k i,Instr.findNow (.pointer k) (ptr x) (e::es) i=AD:=λk i=>by simp[Instr.findNow,Instr.sameNow]
  simp[Bz underlying110,J,hf,BU]
theorem JL(w:World)(em:Bool)(b:Nat):(Instr.checkKey em 10000 110 (ptr b)).run AP w=.ok () w:=by
 unfold Instr.checkKey;simp[Bz underlying110,BU]
theorem W0(w:World){b x}{l}(h:Jy w b l)(e:LI w x)(I:∀q∈l,LI w q.1):
  (Instr.lookup 95 (.map (AE b)) (ptr x) true).run AP w=.ok (AM #[((wordsAt l x).getD 0:Nat),.bool (wordsAt l x).isSome]) w:=by
 obtain⟨es,clock,hb,he⟩:=h;have hf:=run_findKey w e es.toList l he I;unfold Instr.lookup;rcases hw:wordsAt l x with _|n
 ·rw[Ma l x 0 hw]at hf;simp[Bz underlying95,MapKept.run_getObj_map hb,JL,hf,BU]
 ·obtain⟨j,J,_⟩:=MZ l x 0 n hw;rw[J]at hf;simp[Bz underlying95,MapKept.run_getObj_map hb,JL,hf,BU]
theorem rz(w:World){b x n:Nat}{l}(h:Jy w b l)(I:LI w x)(O:∀q∈l,LI w q.1)(J:wordsAt l x=AD):
  ∃w',(Instr.mapUpdate 95 (.map (AE b)) (ptr x) n).run AP w=.ok () w'/\Jy w' b (l++[(x,n)])/\w.grownBy w' (AE b):=by
 obtain⟨es,clock,hb,he⟩:=h;have hf:=run_findKey w I es.toList l he O;rw[Ma l x 0 J]at hf;refine⟨setBlock w b (.map (es.push ⟨ptr x,n,clock⟩) (clock+1)),?_,⟨_,_,heap_setBlock_same hb _,?_⟩,⟨rfl,rfl,rfl,by simp[setBlock],λi _ hi=>heap_setBlock_other hb _ (λe=>hi (by rw[e]))⟩⟩
 ·unfold Instr.mapUpdate;simp[Bz underlying95,MapKept.run_getObj_map hb,JL,hf,MapKept.run_setObj_map _ hb,BU,setBlock]
 ·simp[he]
theorem sC(w:World){b x n}{l}(h:Jy w b l)(I:LI w x)(O:∀q∈l,LI w q.1)(J:wordsAt l x=AE n)(ty:TypeId):
  ∃w',(Builtin.delete_ #[95,110] ty #[.map (AE b),ptr x]).run AP w=.ok (AM #[]) w'/\Jy w' b (Fu l x)/\w.grownBy w' (AE b):=by
 obtain⟨es,clock,hb,he⟩:=h;have hf:=run_findKey w I es.toList l he O;obtain⟨j,h1,U,h3⟩:=MZ l x 0 n J;rw[h1]at hf;refine⟨setBlock w b (.map (es.eraseIdxIfInBounds j) clock),?_,⟨_,_,heap_setBlock_same hb _,?_⟩,⟨rfl,rfl,rfl,by simp[setBlock],λi _ hi=>heap_setBlock_other hb _ (λe=>hi (by rw[e]))⟩⟩
 ·unfold Builtin.delete_;simp[Bz underlying95,MapKept.run_getObj_map hb,JL,hf,MapKept.run_setObj_map _ hb,BU,setBlock]
 ·have hlen:es.toList.length=l.length:=by have:=congrArg List.length he;simpa using this
  have Q:j<es.size:=by simpa [<-hlen]using U
  have e1:(es.eraseIdxIfInBounds j).toList=es.toList.eraseIdx j:=by simp[Array.eraseIdxIfInBounds,Q]
  rw[e1,<-h3,Go.ChangeMaps.map_eraseIdx,Go.ChangeMaps.map_eraseIdx,he]
theorem Jy.same{w w' b l}(h:Jy w b l)(hb:w'.heap[b]?=w.heap[b]?):Jy w' b l:=by
 obtain⟨es,clock,I,e⟩:=h;exact⟨es,clock,hb.trans I,e⟩
theorem Jy.lt{w b l}(h:Jy w b l):b<w:=by
 obtain⟨es,clock,e,I⟩:=h;exact(Array.getElem?_eq_some_iff.1 e).1
theorem Jy.ET{w b g l t cs}(h:Jy w b l)(I:Row w g t cs):g≠b:=by
 obtain⟨es,clock,J,O⟩:=h;intro e;subst e;unfold Row at I;rw[J]at I;cases I
theorem Jy.made(w:World):Jy (w.alloc (.map #[] 0)) w []:=⟨#[],0,(MapKept.heap_alloc w _).1,rfl⟩
def Eh(s:Ar)(m:Option Nat):List Value:=[s.room,s.used,s.F8,.map m]
def dG(w:World)(G:Nat->Prop)(m:Option Nat)(l:List (Nat×Nat)):Prop:=(m=AD/\l=[])\/∃b,m=AE b/\Jy w b l/\G b
def J5(w:World)(G:Nat->Prop)(p:Nat)(s:Ar):Prop:=
 Sound s/\(∃m,Row w p 97 (Eh s m)/\dG w G m s.st/\∀k,G k->k=p\/m=AE k)/\G p/\(∀k,G k->k<w)/\∀q∈s.st,LI w q.1
section
variable{w w':World}{G G':Nat->Prop}{p:Nat}{s:Ar}
theorem LI.lt{b}(h:LI w b):b<w:=by obtain⟨v,h⟩:=h;exact h.lt
theorem LI.E4{F b}(h:LI w b)(hf:DJ F w w')(hF:¬F b):LI w' b:=by obtain⟨v,h⟩:=h;exact⟨v,hf.row h hF⟩
theorem dG.GQ{m l}(h:dG w G m l)(I:∀k,G k->w'.heap[k]?=w.heap[k]?):dG w' G m l:=by
 rcases h with h|⟨b,rfl,hb,e⟩
 ·exact .inl h
 ·exact .inr ⟨b,rfl,hb.same (I b e),e⟩
theorem J5.lt(h:J5 w G p s){k}(e:G k):k<w:=h.2.2.2.1 k e
theorem J5.sound(h:J5 w G p s):Sound s:=h.1
theorem J5.buf(h:J5 w G p s){q}(e:q∈s.st):LI w q.1:=h.2.2.2.2 q e
theorem Row.typed{g t u cs ds}(h:Row w g t cs)(k:Row w g u ds):t=u:=by
 unfold Row at h k;rw[h]at k;injection k with k;injection k
theorem J5.types(h:J5 w G p s){k}{t}{cs}(I:Row w k t cs)(J:t≠97):¬G k:=by
 obtain⟨h0,⟨m,U,Q,h3⟩,_⟩:=h;intro O;rcases h3 k O with rfl|rfl
 ·exact J (I.typed U)
 ·rcases Q with⟨e,_⟩|⟨b,e,hb,_⟩
  ·cases e
  ·injection e with e;subst e;exact hb.ET I rfl
theorem J5.Pk(h:J5 w G p s){b}(hb:LI w b):¬G b:=by obtain⟨v,hb⟩:=hb;exact h.types hb a6
theorem J5.GQ(h:J5 w G p s)(I:∀k,G k->w'.heap[k]?=w.heap[k]?)(Q:∀q∈s.st,LI w q.1->LI w' q.1)(J:w.heap.size<=w'.heap.size):J5 w' G p s:=by
 obtain⟨h0,⟨m,h1,h2,h3⟩,h4,h5,U⟩:=h;exact⟨h0,⟨m,(I p h4).trans h1,h2.GQ I,h3⟩,h4,λk O=>BN (h5 k O) J,λq e=>Q q e (U q e)⟩
theorem J5.E4{F}(h:J5 w G p s)(hf:DJ F w w')(J:∀k,G k->¬F k)(O:∀q∈s.st,¬F q.1):J5 w' G p s:=
 h.GQ (λk e=>hf.block k (h.lt e) (J k e)) (λq I hb=>hb.E4 hf (O q I)) hf.size
theorem J5.below(h:J5 w G p s)(hb:Below w w w'):J5 w' G p s:=h.E4 (DJ.DE hb λ_=>False) (λ_ _ hf=>hf) λ_ _ hf=>hf
theorem J5.words{b n}(h:J5 w G p s)(hb:wordsAt s.st b=AE n):n<=s.used/\s.used<=s.F8/\s.F8<=s.room/\s.room<=9223372036854775807:=⟨R3 h.1 hb,h.1.F8.1,h.1.F8.2,h.1.room⟩
end
theorem RS(w:World){ops}{rest}{o}{a}{Q}
  (hg:o.guard=AD)(m x v:Operand)(Yd:o.op=Op.mapUpdate 95 m x v)(b k n:Nat)(l:List (Nat×Nat))(hm:a.eval m=.map (AE b))(U:a.eval x=ptr k)(hv:a.eval v=AA AB (n:Nat))
  (h:Jy w b l)(hk:LI w k)(hl:∀q∈l,LI w q.1)(hn:wordsAt l k=AD)
  (hK:∀w',Jy w' b (l++[(k,n)])->w.grownBy w' (AE b)->wpList AP ops Q rest (a.put o.dst undef) w'):
  wpList AP ops Q (o::rest) a w:=by
 refine wpList_plain hg λK' I=>?_;obtain⟨w',e,O,J⟩:=rz w (n:=n) h hk hl hn;unfold Oper.wp;simp[execOp,Yd,hm,U,hv,e,BU];exact I _ _ (hK w' O J)
theorem RU(w:World){ops}{rest}{o}{a}{Q}
  (hg:o.guard=AD)(m x:Operand)(Yd:o.op=Op.call {callee:=Callee.builtin Builtin.delete,args:=#[m,x],argTypes:=#[95,110]})(b k n:Nat)(l:List (Nat×Nat))(hm:a.eval m=.map (AE b))(U:a.eval x=ptr k)
  (h:Jy w b l)(hk:LI w k)(hl:∀q∈l,LI w q.1)(hn:wordsAt l k=AE n)
  (hK:∀w',Jy w' b (Fu l k)->w.grownBy w' (AE b)->wpList AP ops Q rest (a.put o.dst (AM #[])) w'):
  wpList AP ops Q (o::rest) a w:=by
 refine wpList_plain hg λK' I=>?_;obtain⟨w',e,O,J⟩:=sC w h hk hl hn o.type;unfold Oper.wp;simp[execOp,Yd,resolve,invoke,builtin,hm,U,e,BU];exact I _ _ (hK w' O J)
theorem bP{P ops Q rest a w m x ts ty pos after guard}
  (h:Hid (wpList P ops Q (⟨AD,.call {callee:=.builtin .delete,args:=#[m,x],argTypes:=ts},ty,pos,after,guard⟩::rest) a w)):wpList P ops Q (⟨AD,.call {callee:=.builtin .delete,args:=#[m,x],argTypes:=ts},ty,pos,after,guard⟩::rest) a w:=h
section
variable(p:Nat)(s:Ar)(m:Option Nat)(w:World)
theorem TQ(I:Row w p 97 (Eh s m)):Calls AP 45 #[AI p] w λe w'=>e=AH s.room/\w'=w:=by
 have J:w.cell? p=AE (AA AB (s.room:Int)):=I.cell 0;go_enter func45,ntmps45
 go_wp2
 go_ret
 exact⟨rfl,rfl⟩
theorem TP(I:Row w p 97 (Eh s m)):Calls AP 22 #[AI p] w λe w'=>e=AH s.used/\w'=w:=by
 have J:w.cell? (p,1)=AE (AA AB (s.used:Int)):=I.cell 1;go_enter func22,ntmps22
 go_wp2
 go_ret
 exact⟨rfl,rfl⟩
theorem ah(I:Row w p 97 (Eh s m)):Calls AP 44 #[AI p] w λe w'=>e=AH s.F8/\w'=w:=by
 have J:w.cell? (p,2)=AE (AA AB (s.F8:Int)):=I.cell 2;go_enter func44,ntmps44
 go_wp2
 go_ret
 exact⟨rfl,rfl⟩
theorem N8(Q:Row w p 97 (Eh s m))(J:Sound s):Calls AP 33 #[AI p] w λe w'=>e=AH ((s.room-s.used:Nat):Int)/\w'=w:=by
 have O:=TQ p s m w Q;have I:=TP p s m w Q;have h1:=J.F8;have h2:=J.room;have U:(s.room:Int)-(s.used:Int)=((s.room-s.used:Nat):Int):=a5;have g1:(-9223372036854775808:Int)<=(s.room:Int)-(s.used:Int):=a5;have g2:(s.room:Int)-(s.used:Int)<=9223372036854775807:=a5;clear h1 h2 J Q;go_enter func33,ntmps33
 go_wp2_with fail
 refine O.mono ?_;rintro e w1 ⟨rfl,rfl⟩;go_wp2_with fail
 refine I.mono ?_;rintro e w1 ⟨rfl,rfl⟩;go_wp2
 go_ret
 exact⟨rfl,rfl⟩
end
theorem sW(w:World)(room:Nat)(h:room<=9223372036854775807):J5 (w.alloc (AK #[room,(),(),.map AD] 97)) (λk=>k=w) w (empty room):=by
 have I:Row (w.alloc (AK #[room,(),(),.map AD] 97)) w 97 (Eh (empty room) AD):=heap_alloc_new _ _;exact⟨YA h,⟨AD,I,.inl ⟨rfl,rfl⟩,λk e=>.inl e⟩,rfl,λk e=>by subst e;simp,λq J=>by cases J⟩
theorem QB(room:Int)(w:World)(O:-9223372036854775808<=room)(J:room<=9223372036854775807):
  Calls AP 25 #[room] w λe w'=>e=AH (ptr w)/\J5 w' (λk=>k=w) w (empty room.toNat)/\Below w w w':=by
 have H:=AO (sW w);have I:=λo=>AO ((AS _ w).alloc ar o);go_enter func25,ntmps25
 go_wp2
 ·go_ret
  have e:room.toNat=0:=a5;rw[e];exact⟨rfl,H.out 0 a5,(I _).out⟩
 ·go_ret
  have e:room=(room.toNat:Int):=a5;have hh:=H.out room.toNat a5;rw[<-e]at hh;exact⟨rfl,hh,(I _).out⟩
theorem dD{w2 w3}{G:Nat->Prop}{p b n bm s}(h0:Sound s)(hn:n<=s.room-s.used)(hb:LI w2 b)(Vs:¬G b)(Q:∀q∈s.st,LI w2 q.1/\¬G q.1)(hp:G p)(hG:∀k,G k->k<w2)(U:∀k,G k->k=p\/AE bm=AE k)
  (hm:Jy w2 bm (s.st++[(b,n)]))(Ti:G bm)(J:bm≠p)(hr:Row w3 p 97 (Eh (FK s b n) (AE bm)))(hf:DJ (λk=>k=p) w2 w3):J5 w3 G p (FK s b n):=by
 have O:∀x,LI w2 x->¬G x->LI w3 x:=λx hx hg=>hx.E4 hf λe=>hg (e▸hp);refine⟨Xw h0 b hn,⟨AE bm,hr,.inr ⟨bm,rfl,hm.same (hf.block bm hm.lt J),Ti⟩,U⟩,hp,λk hk=>BN (hG k hk) hf.size,λq I=>?_⟩;rcases Ah.1 I with I|I
 ·exact O _ (Q q I).1 (Q q I).2
 ·have:q=(b,n):=by simpa using I
  subst this;exact O _ hb Vs
theorem count_tail{w2 p s bm}(b n:Nat){u}(hu:s.used+n=u)(I:Row w2 p 97 (Eh s (AE bm))):
  Row ((w2.setCell (p,1) u).setCell (p,2) (AA AB (if s.F8<u then (u:Int)else (s.F8:Int)))).drew p 97 (Eh (FK s b n) (AE bm))/\
  DJ (λk=>k=p) w2 ((w2.setCell (p,1) u).setCell (p,2) (AA AB (if s.F8<u then (u:Int)else (s.F8:Int)))).drew:=by
 refine⟨?_,?_⟩
 ·have h:=(I.set 1 u).set 2 (AA AB (if s.F8<u then (u:Int)else (s.F8:Int)));have e:Eh (FK s b n) (AE bm)=((Eh s (AE bm)).set 1 u).set 2 (AA AB (if s.F8<u then (u:Int)else (s.F8:Int))):=by
   subst hu;by_cases h:s.F8<s.used+n<;>simp[Eh,FK,h]
  rw[e];exact h
 ·exact(((DJ.refl (λk=>k=p) w2).set (p:=(p,1)) (.inl rfl) u).set (p:=(p,2)) (.inl rfl) (AA AB (if s.F8<u then (u:Int)else (s.F8:Int)))).drew
theorem YI(p:Nat)(s:Ar)(G:Nat->Prop)(b n:Nat)(w:World)(h:J5 w G p s)(hb:LI w b)(wZ:∀q∈s.st,q.1≠b)(hn:n<=s.room-s.used):
  Calls AP 74 #[.pointer p,.pointer b,n] w λe w'=>∃G',e=AH (AM #[])/\J5 w' G' p (FK s b n)/\DJ G w w'/\∀k,G' k->G k\/w<=k:=by
 have ad:=NR s.st b wZ;have Vs:=h.Pk hb;have NJ:=λq O=>Bt (h.buf (q:=q) O) (h.Pk (h.buf O));obtain⟨h0,⟨m,hr,ab,qS⟩,hp,hG,_⟩:=id h;have an:=@run_makeMap AP;have gP:=λw r=>run_eql_map_nil (P:=AP) w 95 110 3 r underlying95;have Gp:=h0.F8;have G9:=h0.room;obtain⟨u,hu⟩:=ao (s.used+n);have MX:(s.used:Int)+(n:Int)=(u:Int):=a5;have HU:=AO hu;have g1:(-9223372036854775808:Int)<=(u:Int):=a5;have g2:(u:Int)<=9223372036854775807:=a5;clear hu;have H0:=AO h0;have HR:=AO hr;have HN:=AO hn;have c3:w.cell? (p,3)=AE (.map m):=hr.cell 3;have f3:=hr.free 3;clear hr h0 h hn Gp G9;rcases ab with⟨rfl,ab⟩|⟨bm,rfl,hm,Ti⟩
 ·have jT:p<w:=hG p hp;have Et:Row ((w.setCell (p,3) (.map (AE w))).alloc (.map #[] 0)) p 97 (Eh s (AE w)):=(HR.out.set 3 (.map (AE w))).alloc (.map #[] 0);have OF:Jy ((w.setCell (p,3) (.map (AE w))).alloc (.map #[] 0)) w s.st:=by
   rw[ab];have:=Jy.made (w.setCell (p,3) (.map (AE w.heap.size)));rwa [show (w.setCell (p,3) (.map (AE w.heap.size))).heap.size=w.heap.size by simp]at this
  have Kv:DJ G w ((w.setCell (p,3) (.map (AE w))).alloc (.map #[] 0)):=((DJ.refl G w).set (p:=(p,3)) (.inl hp) _).alloc _;have FJ:((w.setCell (p,3) (.map (AE w))).alloc (.map #[] 0)).heap.size=w+1:=a8;have al:((w.setCell (p,3) (.map (AE w))).alloc (.map #[] 0)).cell? (p,3)=AE (.map (AE w)):=Et.cell 3;have dQ:=AO OF;have Ka:=AO Et;have Qg:=AO Kv;have aq:=AO FJ;clear OF Et Kv FJ;go_enter func74,ntmps74
  go_wp2_with (with_reducible refine VF ?_)
  unfold Hid;generalize(w.setCell (p,3) (.map (AE w.heap.size))).alloc (.map #[] 0)=w1 at*
  have Dg:∀x,LI w x->¬G x->LI w1 x:=λx hx hg=>hx.E4 Qg.out hg;refine RS w1 rfl _ _ _ rfl w b n s.st rfl rfl rfl dQ.out (Dg b hb Vs) (λq O=>Dg _ (NJ q O).1 (NJ q O).2) ad ?_;intro w2 U Ff;have Gv:DJ (λk=>k=w) w1 w2:=(DJ.refl _ w1).grown Ff λk I=>.inl (by injection I with I;exact I.symm);have EC:=Gv.row Ka.out (dQ.out.ET Ka.out);have T7:=AO (Qg.out.trans Gv λk I=>.inr a5);have DT:∀x,LI w x->¬G x->LI w2 x:=λx hx hg=>hx.E4 T7.out hg;have HT:=AO (count_tail b n HU.out EC);obtain⟨-,k1,k2⟩:=EC.q3;obtain⟨-,f1,f2⟩:=EC.r3;have MU:∀w3,Row w3 p 97 (Eh (FK s b n) (AE w))->DJ (λk=>k=p) w2 w3->∃G',Bn (AM #[])=Bn (AM #[])/\J5 w3 G' p (FK s b n)/\DJ G w w3/\∀k,G' k->G k\/w<=k:=by
   intro w3 FT Om;refine⟨λk=>G k\/k=w,rfl,?_,T7.out.trans Om λk I=>.inl (I▸hp),λk I=>I.imp id λe=>by omega⟩;have J:∀x,LI w x->¬G x->¬(G x\/x=w):=λx hx hg hh=>hh.elim hg λe=>by have:=hx.lt;omega
   refine dD (G:=λk=>G k\/k=w) H0.out HN.out (DT b hb Vs) (J b hb Vs) (λq O=>⟨DT _ (NJ q O).1 (NJ q O).2,J _ (NJ q O).1 (NJ q O).2⟩) (.inl hp) (λk I=>?_) (λk I=>?_) U (.inr rfl) a5 FT Om
   ·have:=T7.out.size;have:=U.lt;rcases I with I|I
    ·have:=hG k I;omega
    ·omega
   ·rcases I with I|I
    ·exact(qS k I).elim .inl λe=>by cases e
    ·exact .inr (by rw[I])
  have Du:=AO MU;clear MU U Ff Gv EC DT c3 al f3 Dg ab ad wZ NJ;go_wp2_with fail
  go_region
  go_end0
  have Q:=HT.out;by_cases J:s.F8<u
  ·simp only[if_pos J]at Q⊢;exact Du.out _ Q.1 Q.2
  ·simp only[if_neg J]at Q⊢;exact Du.out _ Q.1 Q.2
 ·have HM:=AO hm;go_enter func74,ntmps74
  go_wp2_with (with_reducible refine VF ?_)
  unfold Hid;refine RS _ rfl _ _ _ rfl bm b n s.st rfl rfl rfl HM.out hb (λq O=>(NJ q O).1) ad ?_;intro w2 U Ff;have Gv:DJ (λk=>k=bm) w w2:=(DJ.refl _ w).grown Ff λk I=>.inl (by injection I with I;exact I.symm);have EC:=Gv.row HR.out (HM.out.ET HR.out);have T7:Hid (DJ G w w2):=Gv.mono λk I=>I▸Ti;have DT:∀x,LI w x->¬G x->LI w2 x:=λx hx hg=>hx.E4 T7.out hg;have ae:bm≠p:=λe=>HM.out.ET HR.out e.symm;have HT:=AO (count_tail b n HU.out EC);obtain⟨-,k1,k2⟩:=EC.q3;obtain⟨-,f1,f2⟩:=EC.r3;have MU:∀w3,Row w3 p 97 (Eh (FK s b n) (AE bm))->DJ (λk=>k=p) w2 w3->∃G',Bn (AM #[])=Bn (AM #[])/\J5 w3 G' p (FK s b n)/\DJ G w w3/\∀k,G' k->G k\/w<=k:=by
   intro w3 FT Om;exact⟨G,rfl,dD H0.out HN.out (DT b hb Vs) Vs (λq O=>⟨DT _ (NJ q O).1 (NJ q O).2,(NJ q O).2⟩) hp (λk I=>BN (hG k I) T7.out.size) qS U Ti ae FT Om,T7.out.trans Om λk I=>.inl (I▸hp),λk I=>.inl I⟩
  have Du:=AO MU;clear MU U Ff Gv EC DT c3 f3 ad wZ NJ;go_wp2_with fail
  go_region
  go_end0
  have Q:=HT.out;by_cases J:s.F8<u
  ·simp only[if_pos J]at Q⊢;exact Du.out _ Q.1 Q.2
  ·simp only[if_neg J]at Q⊢;exact Du.out _ Q.1 Q.2
theorem uu:(AP.info? 120).map (λi=>(i.zero,i.size,i.bytes))=AE (AE (.int .u64 0),1,8):=a7
theorem n9(p:Nat)(s:Ar)(G:Nat->Prop)(n:Int)(w:World)(h:J5 w G p s)(U:n<0\/(s.room-s.used:Nat)<n):
  Calls AP 54 #[AI p,n] w λe w'=>e=AH (AM #[AI AD,AA AB (if n<0 then 1 else 7)])/\w'=w:=by
 obtain⟨h0,⟨m,Q,ab,qS⟩,hp,hG,NJ⟩:=h;have J:=N8 p s m w Q h0;by_cases I:n<0
 ·rw[if_pos I];have g1:decide (n<0)=true:=by simpa using I
  clear J U;go_enter func54,ntmps54
  go_wp2
  go_ret2
  exact⟨rfl,rfl⟩
 ·rw[if_neg I];have O:(s.room-s.used:Nat)<n:=a5;have g1:decide (n<0)=false:=by simpa using I
  obtain⟨left,QV⟩:∃l:Nat,s.room-s.used=l:=⟨_,rfl⟩;rw[QV]at J O;have g2:decide (n>(left:Int))=true:=by simpa using O
  clear U QV I O Q;go_enter func54,ntmps54
  go_wp2_with fail
  refine J.mono ?_;rintro e w1 ⟨rfl,rfl⟩;go_wp2
  go_ret2
  exact⟨rfl,rfl⟩
theorem Uc(p:Nat)(s:Ar)(G:Nat->Prop)(n:Nat)(w:World)(h:J5 w G p s)(hn:n<=s.room-s.used)(hm:n<=268435455):
  Calls AP 54 #[AI p,n] w λe w'=>∃b g G',e=AH (AM #[ptr b,()])/\J5 w' G' p (FK s b n)/\
   Row w' b 119 [AJ (AE ⟨g,0,AD⟩) n n]/\Row w' g 120 (BC n (.int .u64 0))/\w.heap.size<=b/\w.heap.size<=g/\b≠g/\¬G' b/\¬G' g/\DJ G w w'/\∀k,G' k->G k\/w.heap.size<=k:=by
 obtain⟨h0,⟨m,hr,ae,qS⟩,hp,hG,NJ⟩:=id h;have hl:=N8 p s m w hr h0;have HA:=AO h;have HN:=AO hn;have g1:decide ((n:Int)<0)=false:=a8;have g2:decide (s.room-s.used<n)=false:=by simp;omega
 have g3:decide ((n:Int)>268435455)=false:=by simp;omega
 obtain⟨i0,FW,Fa,FJ,KU⟩:=info_parts uu;have Q:i0.bytes*n<=281474976710656:=by rw[KU];omega
 obtain⟨left,QV⟩:∃l:Nat,s.room-s.used=l:=⟨_,rfl⟩;rw[QV]at hl g2;clear h hn hr ae h0 QV;go_enter func54,ntmps54
 go_wp2_with fail
 refine hl.mono ?_;rintro e w1 ⟨rfl,rfl⟩;go_wp2_with (with_reducible refine EW 23 ?_)
 unfold Hid;refine JA _ rfl _ _ 116 rfl 120 i0 (.int .u64 0) Be FW Fa FJ rfl AB AB _ _ n rfl rfl rfl rfl Q a5 ?_;intro w2 EC DT G9;have FT:Row (w2.alloc (AK #[AJ w1 n n] 119)) w2 119 [AJ w1 n n]:=heap_alloc_new _ _;have ED:=DT.trans (((AS _ w2).alloc ar (AK #[AJ w1 n n] 119)).mono a5);have cA:(w2.alloc (AK #[AJ w1 n n] 119)).heap.size=w1+2:=by simp[G9]
 have PT:Row (w2.alloc (AK #[AJ w1 n n] 119)) w1 120 (BC n (.int .u64 0)):=EC.alloc _;have ab:=HA.out.below ED;have al:∀k,G k->k<w1:=hG;have Nu:=YI p s G w2 n _ ab ⟨_,FT⟩ (λq hq e=>by have:=(NJ q hq).lt;omega) HN.out;have IG:=AO FT;have Ei:=AO ED;have YS:=AO PT;have ad:=AO cA;have Lw:=AO G9;clear FT ED PT cA ab EC DT G9 NJ hl FW Fa FJ KU Q;go_wp2_with fail
 refine Nu.mono ?_;rintro e w4 ⟨G',rfl,U,PU,J⟩;have G9:=Lw.out;have cA:=ad.out;have IE:=PU.row IG.out (λI=>by have:=hG _ I;omega);have O:=PU.row YS.out (λI=>by have:=hG _ I;omega);have Du:Hid (J5 w4 G' p (FK s w2.heap.size n)/\Row w4 w2.heap.size 119 [AJ (AE ⟨w1.heap.size,0,AD⟩) n n]/\Row w4 w1.heap.size 120 (BC n (.int .u64 0))/\w1.heap.size<=w2.heap.size/\w1.heap.size<=w1.heap.size/\w2.heap.size≠w1.heap.size/\¬G' w2.heap.size/\¬G' w1.heap.size/\DJ G w1 w4/\∀k,G' k->G k\/w1.heap.size<=k):=by
  have cI:∀x,G' x->¬G x->w1.heap.size+2<=x:=λx hx I=>(J x hx).elim (λh=>absurd h I) λh=>by omega
  refine⟨U,IE,O,a5,AQ _,a5,λh=>?_,λh=>?_,(DJ.DE Ei.out G).trans PU λk hk=>.inl hk,λk hk=>(J k hk).imp id λh=>by omega⟩
  ·by_cases I:G w2.heap.size
   ·have:=hG _ I;omega
   ·have:=cI _ h I;omega
  ·by_cases I:G w1.heap.size
   ·have:=hG _ I;omega
   ·have:=cI _ h I;omega
 clear U PU J IE O Nu G9 cA IG Ei YS ad Lw;go_wp2
 go_ret2
 exact⟨_,_,_,rfl,Du.out⟩
theorem XD(p:Nat)(s:Ar)(G:Nat->Prop)(b n:Nat)(w:World)(h:J5 w G p s)(hb:LI w b)(Q:wordsAt s.st b=AE n):
  Calls AP 70 #[AI p,AI b] w λe w'=>e=AH true/\J5 w' G p (release s b n)/\Row w' b 119 [AJ AD 0 0]/\DJ (λk=>G k\/k=b) w w':=by
 have hw:=h.words Q;have Vs:=h.Pk hb;have NJ:=λq I=>Bt (h.buf (q:=q) I) (h.Pk (h.buf I));obtain⟨h0,⟨m,hr,J,qS⟩,hp,hG,_⟩:=id h;rcases J with⟨rfl,J⟩|⟨bm,rfl,hm,Ti⟩
 ·rw[J]at Q;cases Q
 have c3:w.cell? (p,3)=AE (.map (AE bm)):=hr.cell 3;have nH:(Instr.lookup 95 (.map (AE bm)) (AI b) true).run AP w=.ok (AM #[n,true]) w:=by
  have:=W0 w hm hb λq I=>(NJ q I).1;rw[Q]at this;exact this
 have ad:bm≠p:=λe=>hm.ET hr e.symm;have HM:=AO hm;have HR:=AO hr;have H0:=AO h0;have xj:=AO Q;obtain⟨u,hu⟩:=ao (s.used-n);have ab:(s.used:Int)-(n:Int)=(u:Int):=a5;have g1:(-9223372036854775808:Int)<=(u:Int):=a5;have g2:(u:Int)<=9223372036854775807:=a5;have HU:=AO hu;clear hu hr hm h h0 Q hw;go_enter func70,ntmps70
 go_wp2_with (with_reducible refine bP ?_)
 unfold Hid;refine RU _ rfl _ _ rfl bm b n s.st rfl rfl HM.out hb (λq I=>(NJ q I).1) xj.out ?_;intro w2 U Ff;have Gv:DJ (λk=>k=bm) w w2:=(DJ.refl _ w).grown Ff λk O=>.inl (by injection O with O;exact O.symm);have EC:=Gv.row HR.out (HM.out.ET HR.out);obtain⟨v,hv⟩:=hb;have DT:=Gv.row hv (HM.out.ET hv);have k1:w2.cell? (p,1)=AE (AA AB (s.used:Int)):=EC.cell 1;have f1:=EC.free 1;have fb:=DT.free 0;have kb:w2.cell? b=AE v:=DT.cell 0;have qN:b≠p:=λe=>Vs (e▸hp);have zP:p≠b:=λe=>qN e.symm;have MU:J5 ((w2.setCell (p,1) u).setCell b (AJ AD 0 0)) G p (release s b n)/\Row ((w2.setCell (p,1) u).setCell b (AJ AD 0 0)) b 119 [AJ AD 0 0]/\
   DJ (λk=>G k\/k=b) w ((w2.setCell (p,1) u).setCell b (AJ AD 0 0)):=by
  have FT:Row ((w2.setCell (p,1) u).setCell b (AJ AD 0 0)) p 97 (Eh (release s b n) (AE bm)):=by
   have e:Eh (release s b n) (AE bm)=(Eh s (AE bm)).set 1 u:=by rw[<-HU.out];rfl
   rw[e];exact(EC.set 1 _).E4 (λe=>qN e.symm) _
  have Jv:Row ((w2.setCell ⟨p,1,AD⟩ (AA AB (u:Int))).setCell ⟨b,0,AD⟩ (AJ AD 0 0)) b 119 [AJ AD 0 0]:=(DT.E4 (p:=⟨p,1,AD⟩) qN _).set 0 _;have PU:DJ (λk=>G k\/k=b) w ((w2.setCell (p,1) u).setCell b (AJ AD 0 0)):=((Gv.mono λk O=>.inl (O▸Ti)).set (p:=(p,1)) (.inl (.inl hp)) _).set (p:=b) (.inl (.inr rfl)) _;refine⟨⟨NW H0.out xj.out,⟨AE bm,FT,.inr ⟨bm,rfl,U.same ?_,Ti⟩,qS⟩,hp,λk O=>BN (hG k O) PU.size,λq I=>?_⟩,Jv,PU⟩
  ·rw[heap_setCell_other _ ⟨b,0,AD⟩ _ _ (show bm≠b from λe=>Vs (e▸Ti)),heap_setCell_other _ ⟨p,1,AD⟩ _ _ (show bm≠p from ad)]
  ·have jR:=NJ q (Ir _ _ _ I);by_cases e:q.1=b
   ·rw[e];exact⟨_,Jv⟩
   ·exact jR.1.E4 PU λh=>h.elim jR.2 e
 have Du:=AO MU;clear MU U Ff Gv EC DT hv c3 nH NJ;go_wp2
 go_ret
 exact⟨rfl,Du.out⟩
theorem DC{B a w}(h:Below B a w):Below B a w.drew:=⟨h.os,h.tape,h.output,h.size,h.block⟩
structure Wp where
 w:Nat
 d:Nat
 a:Nat
 s:Nat
structure Fs where
 D:St
 A:Ar
 S:Sp
def Sys(w:World)(G:Nat->Prop)(p:Wp)(F:Fs)(n:Nat):Prop:=
 ∃Gd Ga Gs,Row w p.w 87 [ptr p.d,ptr p.a,ptr p.s]/\NC w Gd p.d F.D n/\J5 w Ga p.a F.A/\Ja w Gs p.s F.S/\(∀k,G k↔k=p.w\/Gd k\/Ga k\/Gs k)/\
  (∀k,Gd k->¬Ga k/\¬Gs k/\k≠p.w)/\(∀k,Ga k->¬Gs k/\k≠p.w)/\(∀k,Gs k->k≠p.w)/\∀q∈F.A.st,¬G q.1
def DU(w:World)(G:Nat->Prop)(p:Wp)(F:Fs)(n:Nat)(w':World):Prop:=∃G',Sys w' G' p F n/\DJ G w w'/\∀k,G' k->G k\/w<=k
section
variable{w w':World}{G:Nat->Prop}{p:Wp}{F:Fs}{n:Nat}
theorem Sys.lt(h:Sys w G p F n){k}(J:G k):k<w:=by
 obtain⟨Gd,Ga,U,I,hd,O,e,Q,_⟩:=h;rcases(Q k).1 J with rfl|h|h|h
 ·exact I.lt
 ·exact hd.lt h
 ·exact O.lt h
 ·exact e.lt h
theorem Sys.row(h:Sys w G p F n):Row w p.w 87 [ptr p.d,ptr p.a,ptr p.s]:=by obtain⟨J,O,I,e,_⟩:=h;exact e
theorem Sys.size(h:Sys w G p F n):8<=F.D.size/\F.D.size<=256:=by obtain⟨J,O,I,e,hd,_⟩:=h;exact hd.fits.size
theorem Sys.sound(h:Sys w G p F n):Sound F.A:=by obtain⟨O,Q,J,I,hd,e,_⟩:=h;exact e.sound
theorem Sys.eZ(h:Sys w G p F n):F.S.ok:=by obtain⟨Q,U,O,I,hd,J,e,_⟩:=h;exact e.1
theorem Sys.fits(h:Sys w G p F n):Fits F.D n:=by obtain⟨J,O,I,e,hd,_⟩:=h;exact hd.fits
theorem Sys.buf(h:Sys w G p F n){q}(e:q∈F.A.st):LI w q.1/\¬G q.1:=by obtain⟨Gd,Ga,U,O,hd,I,J,Q,_,_,_,hb⟩:=h;exact⟨I.buf e,hb q e⟩
theorem Sys.E4{R}(h:Sys w G p F n)(hf:DJ R w w')(J:∀k,G k->¬R k)(hB:∀q∈F.A.st,¬R q.1):Sys w' G p F n:=by
 obtain⟨Gd,Ga,Gs,Q,hd,U,O,I,h1,h2,h3,h4⟩:=h;exact⟨Gd,Ga,Gs,hf.row Q (J _ ((I _).2 (.inl rfl))),hd.E4 hf λk e=>J k ((I k).2 (.inr (.inl e))),U.E4 hf (λk e=>J k ((I k).2 (.inr (.inr (.inl e))))) hB,O.E4 hf λk e=>J k ((I k).2 (.inr (.inr (.inr e)))),I,h1,h2,h3,h4⟩
theorem Sys.below(h:Sys w G p F n)(hb:Below w w w'):Sys w' G p F n:=h.E4 (DJ.DE hb λ_=>False) (λ_ _ hf=>hf) λ_ _ hf=>hf
theorem Sys.mono{n'}(h:Sys w G p F n)(I:n<=n')(J:n'<=1000000):Sys w G p F n':=by
 obtain⟨Q,U,O,e,hd,r⟩:=h;exact⟨Q,U,O,e,hd.mono I J,r⟩
theorem DU.DE(h:Sys w G p F n)(hb:Below w w w'):DU w G p F n w':=⟨G,h.below hb,DJ.DE hb G,λ_ e=>.inl e⟩
theorem DU.behind{w1}(hb:Below w w w1)(h:DU w1 G p F n w'):DU w G p F n w':=by
 obtain⟨G',O,J,h3⟩:=h;exact⟨G',O,(DJ.DE hb G).trans J λb e=>.inl e,λk I=>(h3 k I).imp id λh=>Ag hb.size h⟩
theorem DU.ahead{w1}(h:DU w G p F n w1)(hb:Below w1 w1 w'):DU w G p F n w':=by
 obtain⟨G',I,e,h3⟩:=h;exact⟨G',I.below hb,e.trans (DJ.DE hb λ_=>False) λ_ hf=>hf.elim,h3⟩
theorem DU.mono{n'}(h:DU w G p F n w')(e:n<=n')(I:n'<=1000000):DU w G p F n' w':=by
 obtain⟨G',O,J⟩:=h;exact⟨G',O.mono e I,J⟩
theorem DU.apart(h:DU w G p F n w'):∃G',Sys w' G' p F n/\DJ G w w'/\(∀k,G' k->G k\/w.heap.size<=k)/\∀k,k<w.heap.size->¬G k->¬G' k:=by
 obtain⟨G',O,J,h3⟩:=h;exact⟨G',O,J,h3,λk Q e I=>(h3 k I).elim e λh=>by omega⟩
theorem Sys.dev(h:Sys w G p F n):∃Gd,NC w Gd p.d F.D n/\∀w' D' n',(∃J,NC w' J p.d D' n'/\DJ Gd w w'/\∀k,J k->Gd k\/w<=k)->DU w G p {F with D:=D'} n' w':=by
 have U:=λk e=>h.lt (k:=k) e;obtain⟨Gd,Ga,Gs,hr,hd,ha,hs,I,h1,h2,h3,h4⟩:=h;refine⟨Gd,hd,λw' D' n' ⟨J,k1,k2,k3⟩=>⟨λk=>k=p.w\/J k\/Ga k\/Gs k,⟨J,Ga,Gs,?_,k1,?_,?_,λk=>BO,?_,h2,h3,?_⟩,k2.mono λk e=>(I k).2 (.inr (.inl e)),?_⟩⟩
 ·exact k2.row hr λe=>(h1 _ e).2.2 rfl
 ·exact ha.E4 k2 (λk e KG=>(h1 k KG).1 e) λq Q e=>h4 q Q ((I _).2 (.inr (.inl e)))
 ·exact hs.E4 k2 λk e KG=>(h1 k KG).2.1 e
 ·intro k e;rcases k3 k e with h5|h5
  ·exact h1 k h5
  ·refine⟨λO=>?_,λO=>?_,λO=>?_⟩
   ·have:=U k ((I k).2 (.inr (.inr (.inl O))));omega
   ·have:=U k ((I k).2 (.inr (.inr (.inr O))));omega
   ·have:=hr.lt;omega
 ·intro q Q e;rcases e with h5|h5|h5|h5
  ·exact h4 q Q ((I _).2 (.inl h5))
  ·rcases k3 _ h5 with O|O
   ·exact h4 q Q ((I _).2 (.inr (.inl O)))
   ·have:=(ha.buf Q).lt;omega
  ·exact h4 q Q ((I _).2 (.inr (.inr (.inl h5))))
  ·exact h4 q Q ((I _).2 (.inr (.inr (.inr h5))))
 ·rintro k (h5|h5|h5|h5)
  ·exact .inl ((I k).2 (.inl h5))
  ·exact(k3 k h5).imp_left λO=>(I k).2 (.inr (.inl O))
  ·exact .inl ((I k).2 (.inr (.inr (.inl h5))))
  ·exact .inl ((I k).2 (.inr (.inr (.inr h5))))
theorem Sys.spc(h:Sys w G p F n):∃Gs,Ja w Gs p.s F.S/\∀w' S',Next w Gs p.s S' w'->DU w G p {F with S:=S'} n w':=by
 have ad:=λk I=>h.lt (k:=k) I;obtain⟨Gd,Ga,Gs,hr,hd,ha,hs,J,h1,h2,h3,h4⟩:=h;refine⟨Gs,hs,λw' S' ⟨ab,k1,k2,k3⟩=>⟨λk=>k=p.w\/Gd k\/Ga k\/ab k,⟨Gd,Ga,ab,?_,?_,?_,k1,λk=>BO,?_,?_,?_,?_⟩,k2.mono λk I=>(J k).2 (.inr (.inr (.inr I))),?_⟩⟩
 ·exact k2.row hr λI=>h3 _ I rfl
 ·exact hd.E4 k2 λk I KG=>(h1 k I).2.1 KG
 ·exact ha.E4 k2 (λk I KG=>(h2 k I).1 KG) λq U I=>h4 q U ((J _).2 (.inr (.inr (.inr I))))
 ·intro k I;refine⟨(h1 k I).1,λQ=>?_,(h1 k I).2.2⟩;rcases k3 k Q with O|O
  ·exact(h1 k I).2.1 O
  ·have:=hd.lt I;omega
 ·intro k I;refine⟨λQ=>?_,(h2 k I).2⟩;rcases k3 k Q with O|O
  ·exact(h2 k I).1 O
  ·have:=ha.lt I;omega
 ·intro k I e;rcases k3 k I with O|O
  ·exact h3 k O e
  ·have:=hr.lt;omega
 ·intro q U I;rcases I with h5|h5|h5|h5
  ·exact h4 q U ((J _).2 (.inl h5))
  ·exact h4 q U ((J _).2 (.inr (.inl h5)))
  ·exact h4 q U ((J _).2 (.inr (.inr (.inl h5))))
  ·rcases k3 _ h5 with Q|Q
   ·exact h4 q U ((J _).2 (.inr (.inr (.inr Q))))
   ·have:=(ha.buf U).lt;omega
 ·rintro k (h5|h5|h5|h5)
  ·exact .inl ((J k).2 (.inl h5))
  ·exact .inl ((J k).2 (.inr (.inl h5)))
  ·exact .inl ((J k).2 (.inr (.inr (.inl h5))))
  ·exact(k3 k h5).imp_left λQ=>(J k).2 (.inr (.inr (.inr Q)))
theorem Sys.arn(h:Sys w G p F n):∃Ga,J5 w Ga p.a F.A/\
  (∀w' b g m,(∃U,J5 w' U p.a (FK F.A b m)/\Row w' b 119 [AJ (AE ⟨g,0,AD⟩) m m]/\Row w' g 120 (BC m (.int .u64 0))/\w.heap.size<=b/\w.heap.size<=g/\b≠g/\¬U b/\¬U g/\DJ Ga w w'/\∀k,U k->Ga k\/w.heap.size<=k)->
   ∃G',Sys w' G' p {F with A:=FK F.A b m} n/\DJ G w w'/\(∀k,G' k->G k\/w<=k)/\¬G' b/\¬G' g)/\
  (∀w' b m,J5 w' Ga p.a (release F.A b m)->DJ (λk=>Ga k\/k=b) w w'->¬G b->Sys w' G p {F with A:=release F.A b m} n/\DJ (λk=>G k\/k=b) w w'):=by
 have ab:=λk e=>h.lt (k:=k) e;obtain⟨Gd,Ga,Gs,hr,hd,ha,hs,I,h1,h2,h3,h4⟩:=h;refine⟨Ga,ha,λw' b g m ⟨U,k1,kb,kg,lb,lg,WS,nb,ng,Q,k3⟩=>?_,λw' b m k1 Q nb=>?_⟩
 ·have Ih:∀x,w.heap.size<=x->¬U x->¬(x=p.w\/Gd x\/U x\/Gs x):=by
   rintro x hx hn (h5|h5|h5|h5)
   ·have:=hr.lt;omega
   ·have:=hd.lt h5;omega
   ·exact hn h5
   ·have:=hs.lt h5;omega
  refine⟨λk=>k=p.w\/Gd k\/U k\/Gs k,⟨Gd,U,Gs,?_,?_,k1,?_,λk=>BO,?_,?_,h3,?_⟩,Q.mono λk e=>(I k).2 (.inr (.inr (.inl e))),?_,Ih b lb nb,Ih g lg ng⟩
  ·exact Q.row hr λe=>(h2 _ e).2 rfl
  ·exact hd.E4 Q λk e O=>(h1 k e).1 O
  ·exact hs.E4 Q λk e O=>(h2 k O).1 e
  ·intro k e;refine⟨λJ=>?_,(h1 k e).2⟩;rcases k3 k J with h7|h7
   ·exact(h1 k e).1 h7
   ·have:=hd.lt e;omega
  ·intro k e;rcases k3 k e with h7|h7
   ·exact h2 k h7
   ·refine⟨λJ=>?_,λJ=>?_⟩
    ·have:=hs.lt J;omega
    ·have:=hr.lt;omega
  ·intro q hq e;have Xg:q∈F.A.st++[(b,m)]:=hq;rcases Ah.1 Xg with h5|h5
   ·rcases e with J|J|J|J
    ·exact h4 q h5 ((I _).2 (.inl J))
    ·exact h4 q h5 ((I _).2 (.inr (.inl J)))
    ·rcases k3 _ J with h7|h7
     ·exact h4 q h5 ((I _).2 (.inr (.inr (.inl h7))))
     ·have:=(ha.buf h5).lt;omega
    ·exact h4 q h5 ((I _).2 (.inr (.inr (.inr J))))
   ·simp only[Bp]at h5;subst h5;exact Ih b lb nb e
  ·rintro k (h5|h5|h5|h5)
   ·exact .inl ((I k).2 (.inl h5))
   ·exact .inl ((I k).2 (.inr (.inl h5)))
   ·exact(k3 k h5).imp_left λJ=>(I k).2 (.inr (.inr (.inl J)))
   ·exact .inl ((I k).2 (.inr (.inr (.inr h5))))
 ·refine⟨⟨Gd,Ga,Gs,?_,?_,k1,?_,I,h1,h2,h3,λq hq=>h4 q (Ir _ _ _ hq)⟩,Q.mono λk e=>e.imp_left λh5=>(I k).2 (.inr (.inr (.inl h5)))⟩
  ·refine Q.row hr ?_;rintro(e|e)
   ·exact(h2 _ e).2 rfl
   ·exact nb ((I _).2 (.inl e.symm))
  ·refine hd.E4 Q ?_;rintro k e (O|O)
   ·exact(h1 k e).1 O
   ·subst O;exact nb ((I _).2 (.inr (.inl e)))
  ·refine hs.E4 Q ?_;rintro k e (O|O)
   ·exact(h2 k O).1 e
   ·subst O;exact nb ((I _).2 (.inr (.inr (.inr e))))
theorem Sys.Hy(h:Sys w G p F n):Calls AP 34 #[ptr p.d] w λe w'=>e=AH F.D.size/\w'=w:=by
 obtain⟨O,Q,J,I,hd,_⟩:=h;obtain⟨bl,bf,v,nl,I,_⟩:=hd.2;exact ke p.d F.D bl bf v w I
theorem Sys.XV(h:Sys w G p F n):Calls AP 33 #[ptr p.a] w λe w'=>e=AH ((F.A.room-F.A.used:Nat):Int)/\w'=w:=by
 obtain⟨U,Ga,Q,I,hd,J,_⟩:=h;obtain⟨O,⟨m,I,_⟩,_⟩:=id J;exact N8 p.a F.A m w I O
theorem Sys.kH(h:Sys w G p F n):Calls AP 22 #[ptr p.a] w λe w'=>e=AH F.A.used/\w'=w:=by
 obtain⟨U,Ga,Q,I,hd,J,_⟩:=h;obtain⟨O,⟨m,I,_⟩,_⟩:=id J;exact TP p.a F.A m w I
theorem Sys.lV(h:Sys w G p F n):Calls AP 44 #[ptr p.a] w λe w'=>e=AH F.A.F8/\w'=w:=by
 obtain⟨U,Ga,Q,I,hd,J,_⟩:=h;obtain⟨O,⟨m,I,_⟩,_⟩:=id J;exact ah p.a F.A m w I
end
section
variable{w:World}{p:Wp}
theorem ju(h:Row w p.w 87 [ptr p.d,ptr p.a,ptr p.s]):Calls AP 19 #[AI p.w] w λe w'=>e=AH (AI p.d)/\w'=w:=by
 have I:w.cell? p.w=AE (AI p.d):=h.cell 0;go_enter func19,ntmps19
 go_wp2
 go_ret
 exact⟨rfl,rfl⟩
theorem kG(h:Row w p.w 87 [ptr p.d,ptr p.a,ptr p.s]):Calls AP 21 #[AI p.w] w λe w'=>e=AH (AI p.a)/\w'=w:=by
 have I:w.cell? (p.w,1)=AE (AI p.a):=h.cell 1;go_enter func21,ntmps21
 go_wp2
 go_ret
 exact⟨rfl,rfl⟩
theorem jq(h:Row w p.w 87 [ptr p.d,ptr p.a,ptr p.s]):Calls AP 42 #[AI p.w] w λe w'=>e=AH (AI p.s)/\w'=w:=by
 have I:w.cell? (p.w,2)=AE (AI p.s):=h.cell 2;go_enter func42,ntmps42
 go_wp2
 go_ret
 exact⟨rfl,rfl⟩
end
theorem Sq(d a s:Nat)(w:World):Calls AP 24 #[AI d,AI a,AI s] w λe w'=>e=AH (AI w)/\w'=w.alloc (AK #[ptr d,ptr a,ptr s] 87):=by
 go_enter func24,ntmps24
 go_wp2
 go_ret
 exact⟨rfl,rfl⟩
theorem Ix(size:Nat)(width:Int):Cw size width<=size-2:=by
 unfold Cw;split
 ·exact Ao _
 ·exact BX _ _
theorem cG{w G p F n}(h:Sys w G p F n)(width:Int):Calls AP 72 #[AI p.w,width] w λe w'=>e=AH (Cw F.D.size width:Nat)/\w'=w:=by
 by_cases J:width<1
 ·have g1:decide (width<1)=true:=by simpa using J
  have I:Cw F.D.size width=0:=by unfold Cw;rw[if_pos (.inl J)]
  rw[I];go_enter func72,ntmps72
  go_wp2
  go_ret
  exact⟨rfl,rfl⟩
 have g1:decide (width<1)=false:=by simpa using J
 by_cases O:width>5
 ·have g2:decide (width>5)=true:=by simpa using O
  have I:Cw F.D.size width=0:=by unfold Cw;rw[if_pos (.inr O)]
  rw[I];clear J;go_enter func72,ntmps72
  go_wp2
  go_ret
  exact⟨rfl,rfl⟩
 have g2:decide (width>5)=false:=by simpa using O
 have I:Cw F.D.size width=(F.D.size-2)/width.toNat:=by unfold Cw;rw[if_neg a5]
 obtain⟨k,rfl⟩:∃k:Nat,width=(k:Int):=⟨width.toNat,a5⟩;rw[BY]at I;have ab:=h.size;have c0:w.cell? p.w=AE (AI p.d):=h.row.cell 0;have U:=h.Hy;rw[I];obtain⟨m,hm⟩:=ae (F.D.size-2);have Q:(F.D.size:Int)-2=(m:Int):=a5;have SX:6<=m/\m<=254:=a5;have hq:Int.tdiv (m:Int) (k:Int)=((m/k:Nat):Int):=rfl;have Vn:¬((k:Int)=0):=a5;have RE:m/k<=m:=BX _ _;rw[<-hm];have HS:=AO U;have ad:(if m<0 then (0:Int)else (m:Int))=(m:Int):=a8;clear U hm I h J O;generalize m/k=q at*
 go_enter func72,ntmps72
 go_wp2_with fail
 refine HS.out.mono ?_;rintro e w1 ⟨rfl,rfl⟩;go_wp2
 go_ret
 exact⟨rfl,rfl⟩
theorem JW{w G p F n}(h:Sys w G p F n)(width:Int):Calls AP 51 #[AI p.w,width] w λe w'=>e=AH (AL #[width,(Cw F.D.size width:Nat)])/\Below w w w':=by
 have Q:Hid (Calls AP 72 #[AI p.w,width] (w.alloc (AK #[(),()] 105)) λe w'=>e=AH (Cw F.D.size width:Nat)/\w'=w.alloc (AK #[(),()] 105)):=cG (h.below ((AS _ w).alloc ar _)) width;have HB:Hid (Below w w (w.alloc (AK #[(),()] 105))):=(AS _ w).alloc ar _;generalize Cw F.D.size width=q at*
 clear h;go_enter func51,ntmps51
 go_wp2_with fail
 refine Q.out.mono ?_;rintro e w1 ⟨rfl,rfl⟩;go_wp2
 have U:Below w w (w.alloc (AK #[width,q] 105)):=(AS _ w).alloc ar _;refine BA (v:=AL #[width,q]) ?_ rfl ⟨rfl,U⟩;have O:Row (w.alloc (AK #[width,q] 105)) w 105 [width,q]:=heap_alloc_new _ _;obtain⟨J,I⟩:=O.q2;simp[results,Tryz.results51,go_sem,J,I]
theorem Jp(k h c:Nat)(w:World)(hh:0<h)(Hq:h<=254)(hc:c<=100000000):Calls AP 53 #[AL #[k,h],c] w λe w'=>e=AH (Cu h c:Nat)/\Below w w w':=by
 have J:=AO ((AS w w).alloc ar (AK #[k,h] 105));have U:Int.tdiv (c:Int) (h:Int)=((c/h:Nat):Int):=rfl;have Q:Int.tmod (c:Int) (h:Int)=((c%h:Nat):Int):=rfl;have Gt:¬((h:Int)=0):=a5;have RE:c/h<=c:=BX _ _;have Ye:c%h<h:=CM _ hh;by_cases hm:0<c%h
 ·have I:Hid (Cu h c=c/h+1):=by unfold Hid Cu;rw[if_pos hm]
  rw[I.out];have O:decide (((c%h:Nat):Int)>0)=true:=by simp;omega
  clear I hh;generalize c/h=q at*
  generalize c%h=m at*
  go_enter func53,ntmps53
  go_wp2
  go_ret
  exact⟨by rfl,J.out⟩
 ·have I:Hid (Cu h c=c/h):=by unfold Hid Cu;rw[if_neg hm]
  rw[I.out];have O:decide (((c%h:Nat):Int)>0)=false:=by simp;omega
  clear I hh;generalize c/h=q at*
  generalize c%h=m at*
  go_enter func53,ntmps53
  go_wp2
  go_ret
  exact⟨rfl,J.out⟩
theorem RR(k h j c:Nat)(w:World)(hk:k<=5)(Hq:h<=254)(hc:c<=100000000)(U:j*h<=c):Calls AP 77 #[AL #[k,h],j,c] w λe w'=>e=AH (min h (c-j*h)*k:Nat)/\Below w w w':=by
 have HB:=AO ((AS w w).alloc ar (AK #[k,h] 105));obtain⟨J,O⟩:=ae (j*h);have hmul:(j:Int)*(h:Int)=(J:Int):=by rw[O];exact(Br j h).symm
 rw[<-O]at U⊢;obtain⟨d,hd⟩:=ae (c-J);have Q:(c:Int)-(J:Int)=(d:Int):=a5;rw[<-hd];obtain⟨lo,I⟩:=ae (min h d);have Lp:(if d<h then (d:Int)else (h:Int))=(lo:Int):=by rw[I];split<;>omega
 have an:(if h<d then (h:Int)else (d:Int))=(lo:Int):=by rw[I];split<;>omega
 have zT:lo<=254:=a5;rw[<-I];obtain⟨m,hm⟩:=ae (lo*k);have ao:(lo:Int)*(k:Int)=(m:Int):=by rw[hm];exact(Br lo k).symm
 have ab:m<=1270:=by rw[hm];exact Nat.mul_le_mul zT hk
 rw[<-hm];have ad:J<=100000000:=a5;have al:d<=100000000:=a5;clear hm I hd O U;go_enter func77,ntmps77
 go_wp2
 go_ret
 exact⟨rfl,HB.out⟩
theorem VV(k h i g n:Nat)(w:World)(Vn:0<k)(hk:k<=5)(hh:0<h)(Hq:h<=254)(ab:i<=100000000)(J:i%h*k+k<=n)(PR:n<=256):Calls AP 59 #[AL #[k,h],AJ g n n,i] w λe w'=>e=AH (AJ (AE ⟨g,i%h*k,AD⟩) k (n-i%h*k))/\Below w w w':=by
 have Dg:=(AS w w).alloc ar (AK #[k,h] 105);have HB:=AO Dg;have Q:Row (w.alloc (AK #[k,h] 105)) w 105 [k,h]:=heap_alloc_new _ _;obtain⟨c0,c1⟩:=Q.q2;have U:Int.tmod (i:Int) (h:Int)=((i%h:Nat):Int):=rfl;have Gt:¬((h:Int)=0):=a5;have Ye:i%h<h:=CM _ hh;obtain⟨m,hm⟩:=ae (i%h);rw[<-hm]at U Ye J⊢;obtain⟨a,O⟩:=ae (m*k);have hmul:(m:Int)*(k:Int)=(a:Int):=by rw[O];exact(Br m k).symm
 rw[<-O]at J⊢;obtain⟨u,hu⟩:=ae (a+k);have MX:(a:Int)+(k:Int)=(u:Int):=a5;have I:u-a=k:=a5;have hcut:=λW=>KD (P:=AP) W 116 120 _ Be (info_parts QO).choose_spec.1 (info_parts QO).choose_spec.2.2.1 g n n a u a5 a5 AB AB (a:Int) (u:Int) rfl rfl;rw[I,EX a5,BM,Cm]at hcut;have Sl:a<=256:=a5;have RD:u<=256:=a5;clear Q hm O hu I Dg hh J;go_enter func59,ntmps59
 go_wp2
 generalize w.alloc (AK #[k,h] 105)=w1 at*
 go_region
 go_wp2
 go_ret
 exact⟨rfl,DC HB.out⟩
theorem Wn{b A n c w}(h:Row w b 119 [AJ A n c]):Calls AP 75 #[AI b] w λe w'=>e=AH (.bool (decide (0<n)))/\w'=w:=by
 have I:w.cell? b=AE (AJ A n c):=h.cell 0;go_enter func75,ntmps75
 go_wp2
 go_ret
 exact⟨IK a8,rfl⟩
theorem Ql{P w}(t e ty:TypeId)(z:Value)(ht:P.underlying t=AE (.slice e))(U:∀w,(zeroValue e).run P w=.ok z w)(hz:z.cells=#[z])(h1:z.oneCell'=true)
  (n c g:Nat)(cur:List Value)(Q:TypeId)(hg:Row w g Q cur)(O:n<=cur.length)(hn:0<n):
  ∃w',(Builtin.clear_ #[t] ty #[.slice g n c]).run P w=.ok (AM #[]) w'/\Row w' g Q (BC n z++cur.drop n)/\DJ (λk=>k=g) w w':=by
 obtain⟨m,rfl⟩:∃m,n=m+1:=⟨n-1,a5⟩;have I:(Bb z.cells (m+1)).toList=BC (m+1) z:=by
  rw[hz];apply List.ext_getElem?;intro i;simp[Bb,List.getElem?_replicate];by_cases hi:i<m+1<;>simp[hi,Nat.mod_one]
 have J:=run_storeCells_at P g 0 Q (Bb z.cells (m+1)).toList 0 cur.toArray w hg (by rw[I];simpa using O) (by rw[I];intro v U;rw[List.mem_replicate]at U;rw[U.2];exact h1);simp only[Nat.add_zero]at J;rw[I]at J;refine⟨_,?_,setRow_heap w g cur.toArray _ Q (0,0) hg,DJ.setRow w g _⟩;simp[Builtin.clear_,Bz ht,U,I,J]
theorem qi(w:World):(zeroValue 2).run AP w=.ok () w:=a7
theorem oN(w:World)(a b c d e a' b' c' J I:Int):(binOp .eql 47 (AL #[a,b,c,d,e]) (AL #[a',b',c',J,I])).run AP w=.ok (.bool (a==a'&&(b==b'&&(c==c'&&(d==J&&e==I))))) w:=by
 obtain⟨i0,hi⟩:∃i,AP.info? 2=AE i:=by
  rcases h:AP.info? 2 with _|i
  ·have:(AP.info? 2).isSome=true:=a7;rw[h]at this;cases this
  ·exact⟨i,rfl⟩
 have Li:AP.cellsOf 2=1:=a7;have p0:∀(a b c d e:Int) w,(part 2 #[a,b,c,d,e] 0).run AP w=.ok a w:=λa b c d e w=>run_part_plain (P:=AP) w a7 rfl;have p1:∀(a b c d e:Int) w,(part 2 #[a,b,c,d,e] 1).run AP w=.ok b w:=λa b c d e w=>run_part_plain (P:=AP) w a7 rfl;have p2:∀(a b c d e:Int) w,(part 2 #[a,b,c,d,e] 2).run AP w=.ok c w:=λa b c d e w=>run_part_plain (P:=AP) w a7 rfl;have U:∀(a b c d e:Int) w,(part 2 #[a,b,c,d,e] 3).run AP w=.ok d w:=λa b c d e w=>run_part_plain (P:=AP) w a7 rfl;have Q:∀(a b c d e:Int) w,(part 2 #[a,b,c,d,e] 4).run AP w=.ok e w:=λa b c d e w=>run_part_plain (P:=AP) w a7 rfl;rw[run_eql_struct,show (10000:Nat)=9998+1+1 from rfl,run_equalIn_array w (9998+1) _ _ underlying47 hi,Li];have q:=λ(a b:Int) (w:World)=>run_equalIn_int (P:=AP) w 9998 2 AB AB a b underlying2;have O:∀(a b:Int) (w:World),(Op.equalIn 9999 2 a b).run AP w=.ok (a==b) w:=q;simp only[Op.eqItems,Bo,List.range.loop,Sem.run_bind,Cm,p0,Result.andThen_ok,q];by_cases h1:a=a'<;>by_cases h2:b=b'<;>by_cases h3:c=c'<;>by_cases h4:d=J<;>by_cases h5:e=I<;>simp[h1,h2,h3,h4,h5,p1,p2,U,Q,O]
theorem Ub(w:World)(op:BinOp)(x y:Operand)(xs e:Array Value):(eqGuard op 47 x y (.agg xs) (.agg e)).run AP w=.ok () w:=
 run_eqGuard_agg w op 47 x y _ _ a7
def DW(t:Cy):Value:=AL #[t.a,t.b,t.c,t.d,t.e]
theorem Yz(t:Cy)(k:Nat)(w:World)(Vn:0<k)(hk:k<=5):Calls AP 58 #[AL #[t.a,t.b,t.c,t.d,t.e],k] w λe w'=>e=AH (.bool (Db k t))/\Below w w w':=by
 obtain⟨a,b,c,d,e⟩:=t;have hr:Row (w.alloc (AK #[a,b,c,d,e] 47)) w 47 [a,b,c,d,e]:=heap_alloc_new _ _;obtain⟨w2,Fl,EC,Gv⟩:=Ql (P:=AP) 43 2 0 () underlying43 qi rfl rfl k 5 w.heap.size _ 47 hr (by simpa using hk) Vn;have O8:=AO EC;have Fg:=AO (((AS w w).alloc ar (AK #[a,b,c,d,e] 47)).trans (Gv.below (B:=w) a8 (λb hb=>by rw[hb];exact AQ _)));have Og:∀W,(Instr.sliceAt 47 (.pointer w) AD (AE (AA AB (k:Int))) AD).run AP W=.ok (.slice w k 5) W:=λW=>by
  have aC:AP.arrayLen 47=5:=a7;have U:AP.elem 47=2:=a7;obtain⟨i0,hi⟩:∃i,AP.info? 2=AE i:=by
   rcases h:AP.info? 2 with _|i
   ·have:(AP.info? 2).isSome=true:=a7;rw[h]at this;cases this
   ·exact⟨i,rfl⟩
  rw[run_sliceAt_array_h W 47 w.heap.size (by rw[aC,U];exact underlying47) AB (k:Int) a5 (by rw[aC];omega),aC,U];simp[sizeOf,typeInfo,hi,slicedAt,Cj]
 have hq:=λW a b c d e=>oN W a b c d e 0 0 0 0 0;have hg:=Ub;have O:∀(i:Nat) (x:Int),i<5->[a,b,c,d,e][i]?=AE x->w2.cell? (w,i)=AE (AA AB (if i<k then 0 else x)):=λi x hi I=>by
  rw[O8.out.cell i];by_cases Q:i<k
  ·rw[Aj (by simpa using Q),if_pos Q];simp[Q]
  ·rw[AW (by simpa using Q),if_neg Q,List.length_replicate,Bc,show k+(i-k)=i by omega]
   match i,hi,I with
   |0,_,I=>simp at I;simp[I]
   |1,_,I=>simp at I;simp[I]
   |2,_,I=>simp at I;simp[I]
   |3,_,I=>simp at I;simp[I]
   |4,_,I=>simp at I;simp[I]
 obtain⟨z0,Fa⟩:∃z,z=if 0<k then 0 else a:=⟨_,rfl⟩
 obtain⟨z1,FJ⟩:∃z,z=if 1<k then 0 else b:=⟨_,rfl⟩
 obtain⟨z2,KU⟩:∃z,z=if 2<k then 0 else c:=⟨_,rfl⟩
 obtain⟨z3,cA⟩:∃z,z=if 3<k then 0 else d:=⟨_,rfl⟩
 obtain⟨z4,J⟩:∃z,z=if 4<k then 0 else e:=⟨_,rfl⟩
 have c0:=O 0 a a5 rfl;have c1:=O 1 b a5 rfl;have c2:=O 2 c a5 rfl;have c3:=O 3 d a5 rfl;have c4:=O 4 e a5 rfl;rw[<-Fa]at c0;rw[<-FJ]at c1;rw[<-KU]at c2;rw[<-cA]at c3;rw[<-J]at c4;have HE:Hid ((z0==0&&(z1==0&&(z2==0&&(z3==0&&z4==0))))=Db k ⟨a,b,c,d,e⟩):=by
  unfold Hid;rw[Fa,FJ,KU,cA,J]
  match k,Vn,hk with
  |1,_,_=>simp[Db,Cy.EE]
  |2,_,_=>simp[Db,Cy.EE]
  |3,_,_=>simp[Db,Cy.EE]
  |4,_,_=>simp[Db,Cy.EE]
  |5,_,_=>simp[Db,Cy.EE]
 rw[<-HE.out];clear EC Gv hr O O8 Fa FJ KU cA J HE;go_enter func58,ntmps58
 go_wp2
 go_ret
 exact⟨IK a8,Fg.out⟩
def takeN(S:Sp)(m:Nat):Sp×Nat×Nat×Nat:=
 if m=0 then (S,0,0,0)else if (GW S m).2.2=0 then ((GW S m).1,(GW S m).2.1,m,0)else ((GW S m).1,0,0,(GW S m).2.2)
def Dq(S:Sp)(f m:Nat):Sp:=if m=0 then S else (E5 S f m).1
theorem DU.own{w w1 w2 w3:World}{G p F}{n g:Nat}(h:DU w1 G p F n w2)(hb:Below w w w1)(IQ:w<=g)(Ff:g<w1)(Q:∀k,G k->k<w)(I:∀q∈F.A.st,q.1≠g)(hf:DJ (λk=>k=g) w2 w3):DU w G p F n w3:=by
 obtain⟨G',h1,U,h3⟩:=h;refine⟨G',h1.E4 hf (λk J e=>?_) I,((DJ.DE hb G).trans U λb O=>.inl O).trans hf λb e=>.inr (by rw[e];exact IQ),λk J=>(h3 k J).imp id λh=>Ag hb.size h⟩;subst e;rcases h3 k J with h4|h4
 ·have:=Q k h4;omega
 ·omega
theorem DJ.one{w}(g i:Nat)(v:Value):DJ (λk=>k=g) w (w.setCell (g,i) v):=(DJ.refl (λk=>k=g) w).set (p:=(g,i)) (.inl rfl) v
theorem DJ.two(w:World)(g i j:Nat)(u v:Value):DJ (λk=>k=g) w ((w.setCell (g,i) u).setCell (g,j) v):=(DJ.one g i u).set (p:=(g,j)) (.inl rfl) v
theorem Py{w G p F n}(h:Sys w G p F n)(m:Nat)(hm:m<=100000000):
  Calls AP 52 #[AI p.w,m] w λe w'=>e=AH (AM #[AL #[AA AB (takeN F.S m).2.1,AA AB (takeN F.S m).2.2.1],AA AB (takeN F.S m).2.2.2])/\DU w G p {F with S:=(takeN F.S m).1} n w':=by
 have Dg:=(AS w w).alloc ar (AK #[(),()] 100);have I:Row (w.alloc (AK #[(),()] 100)) w 100 [(),()]:=heap_alloc_new _ _;have h1:=h.below Dg;by_cases O:m=0
 ·subst O;have e0:takeN F.S 0=(F.S,0,0,0):=rfl;rw[e0];have HX:Hid (DU w G p F n (w.alloc (AK #[(),()] 100))):=DU.DE h Dg;obtain⟨r0,U⟩:=I.q2;clear h h1 Dg I e0;go_enter func52,ntmps52
  go_wp2
  refine BA (v:=AM #[AL #[(),()],()]) (by simp[results,Tryz.results52,go_sem,r0,U]) rfl ⟨rfl,HX.out⟩
 ·have g0:((m:Int)==0)=false:=by simpa using O
  have c2:(w.alloc (AK #[(),()] 100)).cell? (p.w,2)=AE (AI p.s):=h1.row.cell 2;have ab:=λk hk=>h.lt (k:=k) hk;have Sg:∀q∈F.A.st,q.1≠w:=λq hq e=>by have:=(h.buf hq).1.lt;omega
  obtain⟨Gs,hs,Ib⟩:=h1.spc;have ht:=kL p.s F.S Gs m _ hs (Gj.of a5 a5);have hz:(w.alloc (AK #[(),()] 100)).heap.size=w+1:=a8;have HE:Hid (takeN F.S m=if (GW F.S m).2.2=0 then ((GW F.S m).1,(GW F.S m).2.1,m,0)else ((GW F.S m).1,0,0,(GW F.S m).2.2)):=by unfold Hid takeN;rw[if_neg O]
  have HT:=AO ht;have Tn:=AO Ib;have GC:=AO I;have HB:=AO Dg;have KM:=AO ab;have ad:=AO Sg;have HZ:=AO hz;rw[HE.out];clear ht Ib I Dg ab Sg h h1 hs HE hz;generalize GW F.S m=q at*
  obtain⟨S',a,er⟩:=q;simp only at HT⊢;by_cases he:er=0
  ·subst he;rw[if_pos rfl];go_enter func52,ntmps52
   go_wp2_with fail
   refine HT.out.mono ?_;rintro e w2 ⟨rfl,hn⟩;have Q:=Tn.out _ _ hn;have J:Row w2 w 100 [(),()]:=by
    obtain⟨G',k1,k2,k3⟩:=Q;exact k2.row GC.out λhg=>by have:=KM.out _ hg;omega
   have Lw:Hid (∀w3,DJ (λk=>k=w) w2 w3->DU w G p {F with S:=S'} n w3):=λw3 hf=>Q.own HB.out ar (by rw[HZ.out];omega) KM.out ad.out hf;obtain⟨b0,b1⟩:=J.q2;obtain⟨f0,f1⟩:=J.r2;have jj:=AO J;clear Q hn J Tn HT;go_wp2
   have Ia:Row ((w2.setCell w a).setCell (w,1) m) w 100 [a,m]:=(jj.out.set 0 _).set 1 _;obtain⟨r0,U⟩:=Ia.q2;refine BA (v:=AM #[AL #[a,m],()]) (by simp[results,Tryz.results52,go_sem,r0,U]) rfl ⟨rfl,Lw.out _ (DJ.two _ _ _ _ _ _)⟩
  ·rw[if_neg he];have g1:((er:Int) !=0)=true:=by simpa using he
   go_enter func52,ntmps52
   go_wp2_with fail
   refine HT.out.mono ?_;rintro e w2 ⟨rfl,hn⟩;have Q:=Tn.out _ _ hn;have J:Row w2 w 100 [(),()]:=by
    obtain⟨G',k1,k2,k3⟩:=Q;exact k2.row GC.out λhg=>by have:=KM.out _ hg;omega
   have Lw:Hid (∀w3,DJ (λk=>k=w) w2 w3->DU w G p {F with S:=S'} n w3):=λw3 hf=>Q.own HB.out ar (by rw[HZ.out];omega) KM.out ad.out hf;obtain⟨b0,b1⟩:=J.q2;obtain⟨f0,f1⟩:=J.r2;have jj:=AO J;clear Q hn J Tn HT;go_wp2
   have Ia:Row ((w2.setCell w ()).setCell (w,1) ()) w 100 [(),()]:=(jj.out.set 0 _).set 1 _;obtain⟨r0,U⟩:=Ia.q2;refine BA (v:=AM #[AL #[(),()],er]) (by simp[results,Tryz.results52,go_sem,r0,U]) rfl ⟨rfl,Lw.out _ (DJ.two _ _ _ _ _ _)⟩
theorem DU.cell{w w1 G p F n}(h:DU w G p F n w1):w1.cell? p.w=AE (AI p.d)/\w1.cell? (p.w,1)=AE (AI p.a)/\w1.cell? (p.w,2)=AE (AI p.s):=by
 obtain⟨G',e,_⟩:=h;exact⟨e.row.cell 0,e.row.cell 1,e.row.cell 2⟩
theorem DU.row{w w1 G p F n g t cs}(h:DU w G p F n w1)(e:Row w g t cs)(I:¬G g):Row w1 g t cs:=by
 obtain⟨G',O,J,_⟩:=h;exact J.row e I
theorem Uj{w G p F n}(h:Sys w G p F n)(f m:Nat)(hf:f<=100000000)(hm:m<=100000000):
  Calls AP 55 #[AI p.w,AL #[f,m]] w λe w'=>e=AH (AM #[])/\DU w G p {F with S:=Dq F.S f m} n w':=by
 have Dg:=(AS w w).alloc ar (AK #[f,m] 100);have I:Row (w.alloc (AK #[f,m] 100)) w 100 [f,m]:=heap_alloc_new _ _;have cI:¬G w:=λhg=>by have:=h.lt hg;omega
 by_cases O:m=0
 ·subst O;have J:Dq F.S f 0=F.S:=rfl;rw[J];have HX:Hid (DU w G p F n (w.alloc (AK #[f,()] 100))):=DU.DE h Dg;clear h Dg I J;go_enter func55,ntmps55
  go_wp2
  go_end0
  exact⟨rfl,HX.out⟩
 ·have g0:decide ((m:Int)>0)=true:=by simp;omega
  have J:Dq F.S f m=(E5 F.S f m).1:=by unfold Dq;rw[if_neg O]
  have Q:=h.below Dg;have xz:Hid (∀q,Calls AP 63 #[AI p.s,f,m] ((w.alloc (AK #[f,m] 100)).drewN q) λe w'=>e=AH ((E5 F.S f m).2:Nat)/\DU ((w.alloc (AK #[f,m] 100)).drewN q) G p {F with S:=(E5 F.S f m).1} n w'):=λq=>by
   obtain⟨Gs,hs,Ib⟩:=(Q.below (DA (AS _ _) q)).spc;exact(Xx p.s F.S Gs f m _ hs (Gj.of a5 a5) (Gj.of a5 a5)).mono λe w' ⟨he,hn⟩=>⟨he,Ib _ _ hn⟩
  have c2:(w.alloc (AK #[f,m] 100)).cell? (p.w,2)=AE (AI p.s):=Q.row.cell 2;obtain⟨b0,b1⟩:=I.q2;have HB:=AO Dg;have GC:=AO I;rw[J];clear Q h Dg I J;generalize E5 F.S f m=q at*
  go_enter func55,ntmps55
  go_wp2
  generalize w.alloc (AK #[f,m] 100)=w1 at*
  have J:w1.drew.cell? (p.w,2)=AE (AI p.s):=c2;have e1:w1.drew.cell? w=AE (AA AB (f:Int)):=b0;have e2:w1.drew.cell? (w,1)=AE (AA AB (m:Int)):=b1;go_region_held3 (λw'=>w'.cell? (p.w,2)=AE (AI p.s)/\w'.cell? w.heap.size=AE (AA AB (f:Int))/\w'.cell? (w.heap.size,1)=AE (AA AB (m:Int))) (first|with_reducible exact⟨J,e1,e2⟩|with_reducible exact⟨d0,d1,d2⟩)
   (first
    |(go_at_call 63;refine(xz.out 1).mono ?_;rintro e U ⟨rfl,h5⟩;have d0:=h5.cell.2.2;have d1:U.cell? w.heap.size=AE (AA AB (f:Int)):=(h5.row (GC.out.drewN 1) cI).cell 0;have d2:U.cell? (w.heap.size,1)=AE (AA AB (m:Int)):=(h5.row (GC.out.drewN 1) cI).cell 1))
  go_wp2
  go_end0
  exact⟨rfl,h5.behind (DA HB.out 1)⟩
structure Wt where
 k:Nat
 h:Nat
 bound:Nat
 first:Nat
 blocks:Nat
 b:Nat
 g:Nat
 l:List Cy
def Yw(p:Wp)(t:Wt):List Value:=[t.k,t.h,AI p.w,t.bound,t.l.length,t.first,t.blocks,AI t.b]
structure Ew (t:Wt) (sz:Nat):Prop where
 k:0<t.k/\t.k<=5
 h:0<t.h/\t.h*t.k<=sz-2/\t.h<=254
 sz:8<=sz/\sz<=256
 bound:t.bound<=100000000/\t.l.length<=t.bound
 blocks:t.blocks=Cu t.h t.bound/\t.blocks<=2000000
 first:t.first<=2000000
def FX(w:World)(G:Nat->Prop)(b:Nat)(p:Wp)(F:Fs)(n:Nat)(w':World):Prop:=
 ∃G',Sys w' G' p F n/\DJ (λk=>G k\/k=b) w w'/\(∀k,G' k->G k\/w<=k)/\Row w' b 119 [AJ AD 0 0]
theorem FX.behind{w w1 w':World}{G b n p F}(hb:Below w w w1)(h:FX w1 G b p F n w'):FX w G b p F n w':=by
 obtain⟨G',O,J,h3,h4⟩:=h;exact⟨G',O,(DJ.DE hb (λk=>G k\/k=b)).trans J λb e=>.inl e,λk I=>(h3 k I).imp id λh=>Ag hb.size h,h4⟩
theorem FX.cell{w w1 G b n p F}(h:FX w G b p F n w1):w1.cell? p.w=AE (AI p.d)/\w1.cell? (p.w,1)=AE (AI p.a)/\w1.cell? (p.w,2)=AE (AI p.s):=by
 obtain⟨G',e,_⟩:=h;exact⟨e.row.cell 0,e.row.cell 1,e.row.cell 2⟩
theorem FX.row{w w1 G b n g p F t cs}(h:FX w G b p F n w1)(e:Row w g t cs)(I:¬G g)(hb:g≠b):Row w1 g t cs:=by
 obtain⟨G',O,J,_⟩:=h;exact J.row e λh=>h.elim I hb
theorem FX.from{w w1 w' G G' b n p F}(J:DJ G w w1)(I:∀k,G' k->G k\/w<=k)(h:FX w1 G' b p F n w'):FX w G b p F n w':=by
 obtain⟨Ld,U,Q,k3,O⟩:=h;exact⟨Ld,U,(J.mono λk e=>.inl e).trans Q λk e=>e.elim (λh=>(I k h).imp_left .inl) λh=>.inl (.inr h),λk e=>(k3 k e).elim (λh=>I k h) λh=>.inr (Ag J.size h),O⟩
theorem L6{w G p F n}(h:Sys w G p F n){b m}(hb:wordsAt F.A.st b=AE m):
  Calls AP 70 #[AI p.a,AI b] w λe w'=>e=AH true/\FX w G b p {F with A:=release F.A b m} n w':=by
 obtain⟨Sg,Vs⟩:=h.buf (Iq _ _ _ hb);obtain⟨Ga,Q,_,hrel⟩:=h.arn;refine(XD p.a F.A Ga b m w Q Sg hb).mono ?_;rintro e w' ⟨he,h1,U,h3⟩;obtain⟨J,I⟩:=hrel w' b m h1 h3 Vs;exact⟨he,G,J,I,λk O=>.inl O,U⟩
section
variable{w:World}{x:Nat}{p:Wp}{t:Wt}
theorem It{A m c}(I:Row w x 115 (Yw p t))(hb:Row w t.b 119 [AJ A m c]):Calls AP 56 #[AI x] w λe w'=>e=AH (.bool (!decide (0<m)))/\w'=w:=by
 have O:w.cell? (x,7)=AE (AI t.b):=I.cell 7;have J:=AO (Wn hb);clear hb I;go_enter func56,ntmps56
 go_wp2_with fail
 refine J.out.mono ?_;rintro e w1 ⟨rfl,rfl⟩;go_wp2
 go_ret
 exact⟨IK a8,rfl⟩
end
def JT(F:Fs)(t:Wt)(kept:Nat):Fs:={F with S:=Dq F.S (t.first+kept) (t.blocks-kept),A:=release F.A t.b F.D.size}
theorem RV{w G p F n x t}(h:Sys w G p F n)(J:Row w x 115 (Yw p t))(hx:¬G x)(O:wordsAt F.A.st t.b=AE F.D.size)(Od:x≠t.b)(hf:t.first<=2000000)(I0:t.blocks<=2000000)(kept:Nat)(U:kept<=t.blocks):
  Calls AP 57 #[AI x,kept] w λe w'=>e=AH (AM #[])/\FX w G t.b p (JT F t kept) n w':=by
 obtain⟨_,Vs⟩:=h.buf (Iq _ _ _ O);have aq:t.b<w:=(h.buf (Iq _ _ _ O)).1.lt;have Pq:=Row.lt J;have xz:Hid (Calls AP 55 #[AI p.w,AL #[(t.first+kept:Nat),(t.blocks-kept:Nat)]] w.drew λe w'=>e=AH (AM #[])/\DU w G p {F with S:=Dq F.S (t.first+kept) (t.blocks-kept)} n w'):=
  (Uj (h.below (DC (AS _ w))) _ _ a5 a5).mono λe w' ⟨he,I⟩=>⟨he,I.behind (DC (AS _ w))⟩
 have ae:Hid (∀w1,DU w G p {F with S:=Dq F.S (t.first+kept) (t.blocks-kept)} n w1->Calls AP 70 #[AI p.a,AI t.b] w1.drew λe w'=>e=AH true/\FX w G t.b p (JT F t kept) n w'/\Row w' x 115 (Yw p t)):=λw1 I=>by
  have Q:=I.row J hx;obtain⟨G',k1,k2,k3,k4⟩:=I.apart;refine(L6 (k1.below (DC (AS _ w1))) (show wordsAt F.A.st t.b=AE F.D.size from O)).mono λe w' ⟨he,h2⟩=>⟨he,?_⟩;obtain⟨Ld,m1,m2,m3,m4⟩:=h2;have ab:DJ (λk=>G' k\/k=t.b) w1 w':=⟨m2.os,m2.tape,m2.output,m2.size,m2.block⟩;refine⟨⟨Ld,m1,(k2.mono λk U=>.inl U).trans ab λk U=>U.elim (λh=>(k3 k h).imp_left .inl) λh=>.inl (.inr h),λk U=>(m3 k U).elim (λh=>k3 k h) λh=>.inr (Ag k2.size h),m4⟩,ab.row Q ?_⟩;rintro(h5|h5)
  ·exact k4 x Pq hx h5
  ·exact Od h5
 have GC:Hid (∀w1,DU w G p {F with S:=Dq F.S (t.first+kept) (t.blocks-kept)} n w1->Row w1 x 115 (Yw p t)):=λw1 I=>I.row J hx;generalize JT F t kept=F2 at*
 obtain⟨tk,th,bound,first,blocks,b,g,l⟩:=t;simp only[Yw]at*
 generalize l.length=cnt at*
 generalize({F with S:=Dq F.S (first+kept) (blocks-kept)}:Fs)=F1 at*
 obtain⟨u,hu⟩:=ao (first+kept);obtain⟨v,hv⟩:=ao (blocks-kept);rw[hu,hv]at xz;have MX:(first:Int)+(kept:Int)=(u:Int):=a5;have al:(blocks:Int)-(kept:Int)=(v:Int):=a5;have RD:u<=4000000:=a5;have mc:v<=2000000:=a5;have c2:w.drew.cell? ⟨x,2,AD⟩=AE (AI (AE ⟨p.w,0,AD⟩)):=J.cell 2;have c5:w.drew.cell? ⟨x,5,AD⟩=AE (AA AB first):=J.cell 5;have c6:w.drew.cell? ⟨x,6,AD⟩=AE (AA AB blocks):=J.cell 6;have b2:w.cell? ⟨x,2,AD⟩=AE (AI (AE ⟨p.w,0,AD⟩)):=J.cell 2;have b5:w.cell? ⟨x,5,AD⟩=AE (AA AB first):=J.cell 5;have b6:w.cell? ⟨x,6,AD⟩=AE (AA AB blocks):=J.cell 6;clear hu hv J h O U I0 hf hx Od aq Vs Pq;have ad:Ab.wrap (u:Int)=(u:Int):=Al _ a5;have ar:Ab.wrap (v:Int)=(v:Int):=Al _ ⟨by clear ad;omega,by clear ad;omega⟩;go_enter func57,ntmps57
 go_wp2
 go_region_held3 (λw'=>w'.cell? (x,2)=AE (AI p.w)/\w'.cell? (x,5)=AE (AA AB (first:Int))/\w'.cell? (x,6)=AE (AA AB (blocks:Int))) (first|with_reducible exact⟨c2,c5,c6⟩|with_reducible exact⟨d2,d5,d6⟩)
  (first
   |(go_at_call 55;refine xz.out.mono ?_;rintro e w1 ⟨rfl,I⟩;have Q:=GC.out _ I;have d2:w1.cell? (x,2)=AE (AI p.w):=Q.cell 2;have d5:w1.cell? (x,5)=AE (AA AB (first:Int)):=Q.cell 5;have d6:w1.cell? (x,6)=AE (AA AB (blocks:Int)):=Q.cell 6))
 have e2:w1.drew.cell? (x,2)=AE (AI p.w):=d2;have d7:w1.cell? (x,7)=AE (AI b):=Q.cell 7;have e7:w1.drew.cell? (x,7)=AE (AI b):=Q.cell 7;have d1:=I.cell.2.1;have e1:w1.drew.cell? (p.w,1)=AE (AI p.a):=d1;have an:=AO (ae.out w1 I);clear I Q xz GC ae c2 c5 c6 b2 b5 b6 d5 d6;go_wp2
 go_region_held3 (λw'=>w'.cell? (x,2)=AE (AI p.w)/\w'.cell? (x,7)=AE (AI b)/\w'.cell? (p.w,1)=AE (AI p.a)) (first|with_reducible exact⟨e2,e7,e1⟩|with_reducible exact⟨f2,f7,f1⟩)
  (first
   |(go_at_call 70;refine an.out.mono ?_;rintro e w2 ⟨rfl,h2,EC⟩;have f2:w2.cell? (x,2)=AE (AI p.w):=EC.cell 2;have f7:w2.cell? (x,7)=AE (AI b):=EC.cell 7;have f1:=h2.cell.2.1))
 go_wp2
 go_end0
 exact⟨rfl,h2⟩
theorem de{w G p F n x t A m c}(h:Sys w G p F n)(J:Row w x 115 (Yw p t))(hb:Row w t.b 119 [AJ A m c])(hm:0<m)(Q:¬G x)(I:wordsAt F.A.st t.b=AE F.D.size)(Od:x≠t.b)(hf:t.first<=2000000)(I0:t.blocks<=2000000):
  Calls AP 29 #[AI x] w λe w'=>(e=AH (AM #[])/\FX w G t.b p (JT F t 0) n w'):=by
 have O:=It J hb;rw[decide_eq_true hm]at O;have HC:=AO O;have HW:Hid (Calls AP 57 #[AI x,()] w λe w'=>e=AH (AM #[])/\FX w G t.b p (JT F t 0) n w'):=RV h J Q I Od hf I0 0 (Ao _);clear O h J hb hm Q I Od hf I0;go_enter func29,ntmps29
 go_wp2_with fail
 refine HC.out.mono ?_;rintro e w1 ⟨rfl,rfl⟩;go_wp2_with fail
 refine HW.out.mono ?_;rintro e w2 ⟨rfl,U⟩;have H2:=AO U;clear U;go_wp2
 go_end0
 exact⟨rfl,H2.out⟩
theorem dc(u:Bf){w}{G}{p}{F}{n x}{t}{A}{m c}(h:Sys w G p F n)(J:Row w x 115 (Yw p t))(hb:Row w t.b 119 [AJ A m c])(hm:0<m)(Q:¬G x)(I:wordsAt F.A.st t.b=AE F.D.size)(Od:x≠t.b)(hf:t.first<=2000000)(I0:t.blocks<=2000000):
  CallsD AP 29 #[AI x] u w λe u' w'=>u'=u/\(e=AH (AM #[])/\FX w G t.b p (JT F t 0) n w'):=by
 have O:=It J hb;rw[decide_eq_true hm]at O;have HC:=AO O;have HW:Hid (Calls AP 57 #[AI x,()] w λe w'=>e=AH (AM #[])/\FX w G t.b p (JT F t 0) n w'):=RV h J Q I Od hf I0 0 (Ao _);clear O h J hb hm Q I Od hf I0;go_enter_d func29,ntmps29
 go_wp2_with fail
 refine HC.out.mono ?_;rintro e w1 ⟨rfl,rfl⟩;go_wp2_with fail
 refine HW.out.mono ?_;rintro e w2 ⟨rfl,U⟩;have H2:=AO U;clear U;go_wp2
 go_end0
 exact⟨rfl,H2.out⟩
theorem RW(u:Bf){w}{p}{x}{t}{A}{c}(J:Row w x 115 (Yw p t))(hb:Row w t.b 119 [AJ A 0 c]):
  CallsD AP 29 #[AI x] u w λe O w'=>O=u/\(e=AH (AM #[])/\w'=w):=by
 have I:=It J hb;rw[decide_eq_false (Nat.lt_irrefl 0)]at I;have Q:=AO I;clear I J hb;go_enter_d func29,ntmps29
 go_wp2_with fail
 refine Q.out.mono ?_;rintro e w1 ⟨rfl,rfl⟩;go_wp2
 go_end0
 exact⟨rfl,rfl⟩
structure Ls (w:World) (x:Nat) (p:Wp) (t:Wt) (sz:Nat) (ws:List Nat):Prop where
 row:Row w x 115 (Yw p t)
 buf:Row w t.b 119 [AJ t.g sz sz]
 words:Row w t.g 120 (ws.map vw)
 len:ws.length=sz
 u64:NO ws
structure YJ (G:Nat->Prop) (x:Nat) (t:Wt):Prop where
 x:¬G x
 b:¬G t.b
 g:¬G t.g
theorem Ls.E4{w w' x p t sz ws R}(h:Ls w x p t sz ws)(hf:DJ R w w')(I:¬R x)(e:¬R t.b)(h3:¬R t.g):Ls w' x p t sz ws:=⟨hf.row h.row I,hf.row h.buf e,hf.row h.words h3,h.len,h.u64⟩
theorem Ls.below{w w' x p t sz ws}(h:Ls w x p t sz ws)(hb:Below w w w'):Ls w' x p t sz ws:=h.E4 (DJ.DE hb λ_=>False) (λh=>h) (λh=>h) (λh=>h)
theorem Ls.lt{w x p t sz ws}(h:Ls w x p t sz ws):x<w/\t.b<w/\t.g<w:=⟨h.row.lt,h.buf.lt,h.words.lt⟩
theorem Ls.apart{w x p t sz ws}(h:Ls w x p t sz ws):x≠t.b/\x≠t.g/\t.b≠t.g:=
 ⟨λe=>absurd (h.row.typed (e▸h.buf)) a6,λe=>absurd (h.row.typed (e▸h.words)) a6,λe=>absurd (h.buf.typed (e▸h.words)) a6⟩
theorem L0(s:St)(i:Int)(l:List Nat):(write s i l).2.size=s.size/\(write s i l).2.blocks=s.blocks:=by
 obtain⟨I,e,O,J⟩:=Gf s (right s i&&decide (l.length=s.size));unfold write;dsimp only
 split
 ·exact⟨I,e⟩
 ·exact⟨I,e⟩
theorem eC{w G p F n}(h:Sys w G p F n)(I:n<1000000)(i:Int)(hi:Gj i)(A:Option Addr)(m c:Nat)(l:List Nat){B}(J:Reads .u64 w B A m l)(O:B<=w):
  Calls AP 78 #[AI p.d,i,AJ A m c] w λe w'=>e=AH (AA AB (write F.D i l).1)/\DU w G p {F with D:=(write F.D i l).2} (n+1) w':=by
 obtain⟨U,hd,Q⟩:=h.dev;exact(dY p.d F.D n U i A m c l w hd I hi J O).mono λe w' ⟨he,h1⟩=>⟨he,Q _ _ _ h1⟩
def Da(t:Wt):Nat:=t.first+(Cu t.h t.l.length-1)
def DY(sz:Nat)(t:Wt):List Nat:=Gq sz (Da t) t.k (EN t.k (Gb t.h t.l))
def WA(w:World)(G:Nat->Prop)(p:Wp)(F:Fs)(n:Nat)(t:Wt)(e:Ending)(w':World):Prop:=
  e=AH (AA AB (write F.D (Da t:Nat) (DY F.D.size t)).1)/\
  (((write F.D (Da t:Nat) (DY F.D.size t)).1=0/\DU w G p {F with D:=(write F.D (Da t:Nat) (DY F.D.size t)).2} (n+1) w')\/
   ((write F.D (Da t:Nat) (DY F.D.size t)).1≠0/\FX w G t.b p (JT {F with D:=(write F.D (Da t:Nat) (DY F.D.size t)).2} t 0) (n+1) w'))
theorem T9{w G p F n x t ws}(h:Sys w G p F n)(hn:n<1000000)(DN:Ew t F.D.size)(hm:Ls w x p t F.D.size ws)(ho:YJ G x t)(au:wordsAt F.A.st t.b=AE F.D.size)(hl:0<t.l.length)
  (an:ws.take ((Gb t.h t.l).length*t.k)=EN t.k (Gb t.h t.l)):Calls AP 60 #[AI x] w (WA w G p F n t):=by
 obtain⟨i0,hi,Fa,FJ,KU⟩:=info_parts QO;obtain⟨hx,Js,Gu⟩:=hm.lt;obtain⟨Od,Yb,WS⟩:=hm.apart;have aq:=DN.sz;have hk:=DN.k;have hh:=DN.h;have I:=DN.bound;have I0:=DN.blocks;have Pt:=DN.first;obtain⟨l1,l2,l3⟩:=Mx hh.1 hl;have qN:=Es hh.1 hl;have aC:=Dl t.h t.l.length;obtain⟨j,hj⟩:=ae (Cu t.h t.l.length-1);have nI:((Cu t.h t.l.length:Nat):Int)-1=(j:Int):=a5;obtain⟨ad,ab⟩:=ae (t.first+j);have MX:(t.first:Int)+(j:Int)=(ad:Int):=a5;have aE:j<=2000000:=by
  have Q:=Df (h:=t.h) hh.1 I.2;have:=I0.1;have:=I0.2;omega
 have aR:ad<=4000000:=a5;obtain⟨m,O⟩:=ae ((Gb t.h t.l).length*t.k);have av:min t.h (t.l.length-j*t.h)*t.k=m:=by rw[O,l3,<-hj];congr 1;rw[l3,<-hj]at l1;omega
 have SX:m<=F.D.size-2:=by
  rw[O];exact Ag (Af _ l1) hh.2.1
 have qM:j*t.h<=t.l.length:=by have:=(I3 hh.1 hl).1;rw[<-hj]at this;omega
 have Q8:Hid (∀W,Calls AP 53 #[AL #[t.k,t.h],t.l.length] W λe w'=>e=AH (Cu t.h t.l.length:Nat)/\Below W W w'):=λW=>Jp t.k t.h t.l.length W hh.1 hh.2.2 a5;have aw:Hid (∀W,Calls AP 77 #[AL #[t.k,t.h],j,t.l.length] W λe w'=>e=AH m/\Below W W w'):=λW=>by
  have:=RR t.k t.h j t.l.length W hk.2 hh.2.2 a5 qM;rwa [av]at this
 have O7:Hid (∀W,Below w w W->Calls AP 34 #[AI p.d] W λe w'=>e=AH F.D.size/\w'=W):=λW hb=>(h.below hb).Hy;have aB:∀y∈EN t.k (Gb t.h t.l),(Cp .u64 (y:Nat)).wf=true:=λy hy=>PY (P4 _ _ y hy);have vI:Hid (∀W,Below w w W->Calls AP 76 #[F.D.size,ad,.int .u64 t.k,AJ t.g m F.D.size] W λe w'=>e=AH (AM #[AJ W F.D.size F.D.size,()])/\Row w' W 120 ((DY F.D.size t).map vw)/\Below W W w'):=λW hb=>by
  have J:=((hm.words.below hb Gu).words (n:=m) (by rw[hm.len];omega) (λy hy=>PY (hm.u64 y hy)));rw[O,an]at J;rw[<-O]at J;have:=yd F.D.size ad t.k t.g m F.D.size _ W J ar aq.1 aq.2 a5 a5 SX;unfold DY Da;rw[<-hj,<-ab];exact this
 have Gg:Hid ((DY F.D.size t).length=F.D.size/\∀y∈DY F.D.size t,(Cp .u64 (y:Nat)).wf=true):=by
  have IZ:(EN t.k (Gb t.h t.l)).length<=F.D.size-2:=by rw[K5 hk.2,<-O];exact SX
  exact⟨L7 IZ a5,λy hy=>PY (ki (P4 _ _) a5 a5 y hy)⟩
 have T3:Hid (∀W g8,Below w w W->Row W g8 120 ((DY F.D.size t).map vw)->Calls AP 78 #[AI p.d,ad,AJ g8 F.D.size F.D.size] W λe w'=>e=AH (AA AB (write F.D (ad:Nat) (DY F.D.size t)).1)/\DU w G p {F with D:=(write F.D (ad:Nat) (DY F.D.size t)).2} (n+1) w'):=λW g8 hb Qs=>by
  have J:=Qs.words (n:=F.D.size) (by rw[Gg.out.1];exact AQ _) Gg.out.2;rw[Ay (by rw[Gg.out.1];exact AQ _)]at J;exact(eC (h.below hb) hn (ad:Int) (Gj.of a5 a5) _ _ _ _ J ar).mono λe w' ⟨he,Q⟩=>⟨he,Q.behind hb⟩
 have ay:Hid (∀W D',D'.size=F.D.size->DU w G p {F with D:=D'} (n+1) W->Calls AP 29 #[AI x] W λe w'=>e=AH (AM #[])/\FX w G t.b p (JT {F with D:=D'} t 0) (n+1) w'):=λW D' hD Q=>by
  have Et:=Q.row hm.row ho.x;have Dg:=Q.row hm.buf ho.b;obtain⟨G',k1,k2,k3,k4⟩:=Q.apart;refine(de k1 Et Dg a5 (k4 x hx ho.x) (show wordsAt F.A.st t.b=AE D'.size by rw[hD];exact au) Od Pt a5).mono ?_;rintro e w' ⟨he,h2⟩;exact⟨he,FX.from k2 k3 h2⟩
 have ax:Hid ((write F.D (ad:Nat) (DY F.D.size t)).2.size=F.D.size):=(L0 _ _ _).1;have az:Hid (Da t=ad):=by unfold Hid Da;rw[<-hj,<-ab]
 have GC:=AO hm.row;have aS:=AO hm.buf;have U:Hid (∀W,Below w w W->W.cell? x=AE (AA AB t.k)/\W.cell? (x,1)=AE (AA AB t.h)/\W.cell? (x,4)=AE (AA AB (t.l.length:Nat))/\W.cell? (x,7)=AE (AI t.b)/\W.cell? t.b=AE (AJ t.g F.D.size F.D.size)):=λW hb=>
  have r:=hm.row.below hb hx;have rb:=hm.buf.below hb Js
  ⟨r.cell 0,r.cell 1,r.cell 4,r.cell 7,rb.cell 0⟩
 have c2:∀W,Below w w W->W.cell? (x,2)=AE (AI p.w)/\W.cell? (x,5)=AE (AA AB t.first)/\W.cell? p.w=AE (AI p.d):=λW hb=>
  have r:=hm.row.below hb hx;have aA:=(h.below hb).row
  ⟨r.cell 2,r.cell 5,aA.cell 0⟩
 have Lz:=AO c2;obtain⟨er,gX⟩:=ae ((write F.D (ad:Nat) (DY F.D.size t)).1);obtain⟨F1,Yi⟩:∃F1:Fs,F1={F with D:=(write F.D (ad:Nat) (DY F.D.size t)).2}:=⟨_,rfl⟩;have al:Hid (∀W,DU w G p F1 (n+1) W->Calls AP 29 #[AI x] W λe w'=>e=AH (AM #[])/\FX w G t.b p (JT F1 t 0) (n+1) w'):=λW Q=>by
  subst Yi;exact ay.out W _ ax.out Q
 have KM:Hid (∀w',((er=0/\DU w G p F1 (n+1) w')\/(er≠0/\FX w G t.b p (JT F1 t 0) (n+1) w'))->WA w G p F n t (AH er) w'):=λw' Q=>by
  subst gX;subst Yi;unfold WA;rw[az.out];exact⟨rfl,Q⟩
 rw[<-gX,<-Yi]at T3;have hcut:=λW=>Fh (P:=AP) W 116 120 i0 Be hi t.g F.D.size F.D.size m a5 AB (m:Int) rfl;generalize WA w G p F n t=Dh at*
 generalize DY F.D.size t=bk at*
 generalize JT F1 t 0=FE at*
 clear gX Yi ay ax az an au DN hm ho h l1 l2 l3 qN aC hj av O hi Fa FJ KU hl ab qM aB Gg c2;obtain⟨k,Hq,bound,first,blocks,b,g,l⟩:=t;simp only at*
 generalize Cu Hq l.length=nb at*
 generalize l.length=cnt at*
 generalize F.D.size=size at*
 have ao:Ab.wrap (j:Int)=(j:Int):=Al _ a5;have aD:IntKind.u64.wrap (k:Int)=(k:Int):=IntWalk.u64_in _ ⟨by clear ao;omega,by clear ao;omega⟩;clear I0 I hx Js Gu Od Yb WS Pt;have d1:=U.out w (AS _ _);have e1:=U.out w.drew (DC (AS _ _));go_enter func60,ntmps60
 go_wp2
 go_region_held3 (λw'=>Below w.heap.size w w'/\w'.cell? x=AE (AA AB k)/\w'.cell? (x,1)=AE (AA AB Hq)/\w'.cell? (x,4)=AE (AA AB cnt)) (first|with_reducible exact⟨DC (AS _ _),e1.1,e1.2.1,e1.2.2.1⟩|with_reducible exact⟨Dg,f1.1,f1.2.1,f1.2.2.1⟩)
  (first
   |(go_at_call 53;refine(Q8.out _).mono ?_;rintro e w1 ⟨rfl,Dg⟩;replace Dg:=(DC (AS w.heap.size w)).trans Dg;have f1:=U.out w1 Dg))
 obtain⟨g2,g5,gd⟩:=Lz.out w1 Dg;have I:=DC Dg;have q0:=U.out w1 Dg;have q1:=U.out w1.drew I;clear e1 f1 d1 Q8 Lz;go_wp2
 clear g2 g5 gd;go_region_held3 (λw'=>Below w.heap.size w w'/\w'.cell? x=AE (AA AB k)/\w'.cell? (x,1)=AE (AA AB Hq)/\w'.cell? (x,4)=AE (AA AB cnt)/\w'.cell? (x,7)=AE (AI b)/\w'.cell? b=AE (AJ g size size))
  (first|with_reducible exact⟨I,q1⟩|with_reducible exact⟨DT,q2⟩|with_reducible exact⟨ED,q3⟩)
  (first
   |(go_at_call 34;(with_reducible refine(O7.out _ (by first|exact I|exact DT)).mono ?_);rintro e w8 ⟨rfl,rfl⟩)
   |(go_at_call 77;(with_reducible refine(aw.out _).mono ?_);rintro e w2 ⟨rfl,DT⟩;replace DT:=I.trans (DT.mono I.size);have q2:=U.out w2 DT)
   |(go_at_call 76;(with_reducible refine(vI.out _ DT).mono ?_);rintro e w3 ⟨rfl,FT,ED⟩;replace ED:=DT.trans (ED.mono DT.size);have q3:=U.out w3 ED;have IG:=AO FT;clear FT))
 clear q0 q1 q2 q3 DT vI aw O7 U hcut;by_cases he:er=0
 ·subst he;go_wp2_with fail
  refine(T3.out w3 _ ED IG.out).mono ?_;rintro e w4 ⟨rfl,h4⟩;have H4:=AO (KM.out w4 (.inl ⟨by trivial,h4⟩));clear h4 KM al T3;go_wp2
  exact H4.out
 ·have g9:(er !=0)=true:=by simpa using he
  go_wp2_with fail
  refine(T3.out w3 _ ED IG.out).mono ?_;rintro e w4 ⟨rfl,h4⟩;have H4:=AO h4;clear h4 T3;go_wp2_with fail
  refine(al.out w4 H4.out).mono ?_;rintro e w5 ⟨rfl,h5⟩;have H5:=AO (KM.out w5 (.inr ⟨he,h5⟩));clear h5 KM al;go_wp2
  exact H5.out
def O4(w:World)(x:Nat)(p:Wp)(t:Wt)(sz:Nat):Prop:=∃ws,Ls w x p t sz ws/\TR t.k t.h t.l ws
def Nc(w:World)(x:Nat)(p:Wp)(t:Wt):Prop:=Row w x 115 (Yw p t)/\Row w t.b 119 [AJ AD 0 0]
def Wt.snoc(t:Wt)(tu:Cy):Wt:={t with l:=t.l++[tu]}
def xY(w:World)(G:Nat->Prop)(x:Nat)(p:Wp)(F:Fs)(n:Nat)(t:Wt)(w':World):Prop:=
 ∃G',Sys w' G' p F n/\O4 w' x p t F.D.size/\DJ (λk=>G k\/k=x\/k=t.g) w w'/\∀k,G' k->G k\/w<=k
def Lb(w:World)(G:Nat->Prop)(x:Nat)(p:Wp)(F:Fs)(n:Nat)(t:Wt)(w':World):Prop:=
 ∃G',Sys w' G' p F n/\Nc w' x p t/\DJ (λk=>G k\/k=x\/k=t.g\/k=t.b) w w'/\∀k,G' k->G k\/w<=k
def Uz(w:World)(G:Nat->Prop)(x:Nat)(p:Wp)(F:Fs)(n:Nat)(t:Wt)(tu:Cy)(e:Ending)(w':World):Prop:=
  (Db t.k tu=false/\e=AH (AA AB 1)/\Below w w w')\/
  (Db t.k tu=true/\t.l.length=t.bound/\e=AH (AA AB 5)/\Below w w w')\/
  (Db t.k tu=true/\t.l.length<t.bound/\
    (((t.l.length+1)%t.h≠0/\e=AH ()/\xY w G x p F n (t.snoc tu) w')\/
     ((t.l.length+1)%t.h=0/\(write F.D (Da (t.snoc tu):Nat) (DY F.D.size (t.snoc tu))).1=0/\e=AH ()/\xY w G x p {F with D:=(write F.D (Da (t.snoc tu):Nat) (DY F.D.size (t.snoc tu))).2} (n+1) (t.snoc tu) w')\/
     ((t.l.length+1)%t.h=0/\(write F.D (Da (t.snoc tu):Nat) (DY F.D.size (t.snoc tu))).1≠0/\e=AH (AA AB (write F.D (Da (t.snoc tu):Nat) (DY F.D.size (t.snoc tu))).1)/\Lb w G x p (JT {F with D:=(write F.D (Da (t.snoc tu):Nat) (DY F.D.size (t.snoc tu))).2} (t.snoc tu) 0) (n+1) (t.snoc tu) w')))
theorem Sys.Wi{w w' G p F n}(h:Sys w G p F n){R}(hf:DJ R w w')(hR:∀k,R k->¬G k/\∀v,¬Row w k 119 [v]):Sys w' G p F n:=
 h.E4 hf (λk J e=>(hR k e).1 J) λq I e=>by
  obtain⟨⟨v,hb⟩,_⟩:=h.buf I;exact(hR _ e).2 v hb
theorem Rs{α}(L wl:List α)(off i:Nat)(u:α)(hi:wl[i]?=AE u)(J:off+wl.length<=L.length):(splice L off (wl.take i)).set (off+i) u=splice L off (wl.take (i+1)):=by
 have I:i<wl.length:=(BI.1 hi).1;apply List.ext_getElem?;intro k;have l1:(splice L off (wl.take i)).length=L.length:=DO L off _ (by rw[AZ];omega);rw[Aw];by_cases e:off+i=k
 ·subst e;rw[if_pos rfl,if_pos (by rw[l1];omega)];unfold splice;rw[AW (by rw[AZ];omega),Aj (by simp;omega),AZ,show off+i-min off L.length=i by omega,At,if_pos a5,hi]
 ·rw[if_neg e];by_cases O:k<off\/off+(i+1)<=k
  ·rw[EU L off _ (by rw[AZ];omega) (by rw[AZ];omega),EU L off _ (by rw[AZ];omega) (by rw[AZ];omega)]
  ·unfold splice;rw[AW (by rw[AZ];omega),Aj (by simp;omega),AW (by rw[AZ];omega),Aj (by simp;omega),At,At,if_pos (by simp;omega),if_pos (by simp;omega)]
theorem sN{w W G p F n x t ws}(h:Sys w G p F n)(I:Ew t F.D.size)(hm:Ls w x p t F.D.size ws)(U:YJ G x t)(MR:TR t.k t.h t.l ws)(tu:Cy)(Ku:t.l.length<t.bound)
  (hf:DJ (λk=>k=x\/k=t.g) w W)(hr:Row W x 115 (Yw p (t.snoc tu)))(hg:Row W t.g 120 ((splice ws (t.l.length%t.h*t.k) (DZ t.k tu)).map vw)):
  Sys W G p F n/\Ew (t.snoc tu) F.D.size/\Ls W x p (t.snoc tu) F.D.size (splice ws (t.l.length%t.h*t.k) (DZ t.k tu))/\
   (splice ws (t.l.length%t.h*t.k) (DZ t.k tu)).take ((Gb t.h (t.snoc tu).l).length*t.k)=EN t.k (Gb t.h (t.snoc tu).l):=by
 obtain⟨Od,Yb,WS⟩:=hm.apart;have Te:=Ft I.k.2 tu;have ab:=CM t.l.length I.h.1;have ad:t.l.length%t.h*t.k+t.k<=t.h*t.k:=by
  have:=Af t.k (show t.l.length%t.h+1<=t.h by omega);rw[A7,BH]at this;exact this
 have O:t.l.length%t.h*t.k+(DZ t.k tu).length<=ws.length:=by rw[Te,hm.len];have:=I.h.2.1;omega
 refine⟨h.Wi hf ?_,⟨I.k,I.h,I.sz,⟨I.bound.1,by show (t.l++[tu]).length<=t.bound;simp;omega⟩,I.blocks,I.first⟩,⟨hr,hf.row hm.buf (by rintro(e|e);exact Od e.symm;exact WS e),hg,by rw[DO _ _ _ O];exact hm.len,?_⟩,?_⟩
 ·rintro k (rfl|rfl)
  ·exact⟨U.x,λv Q=>absurd (hm.row.typed Q) a6⟩
  ·exact⟨U.g,λv Q=>absurd (hm.words.typed Q) a6⟩
 ·intro y J;unfold splice at J;rcases Ah.1 J with J|J
  ·exact hm.u64 y (Bw J)
  ·rcases Ah.1 J with J|J
   ·exact P4 t.k [tu] y (by rw[Ui];exact J)
   ·exact hm.u64 y (List.mem_of_mem_drop J)
 ·exact nT I.k.2 I.h.1 MR (by rw[hm.len];have:=I.h.2.1;omega) tu
theorem sO{w W G p F n x t ws}(h:Sys w G p F n)(hn:n<1000000)(DN:Ew t F.D.size)(hm:Ls w x p t F.D.size ws)(J:YJ G x t)(ab:wordsAt F.A.st t.b=AE F.D.size)(MR:TR t.k t.h t.l ws)(tu:Cy)(O:Db t.k tu=true)(Ku:t.l.length<t.bound)
  (hf:DJ (λk=>k=x\/k=t.g) w W)(hr:Row W x 115 (Yw p (t.snoc tu)))(hg:Row W t.g 120 ((splice ws (t.l.length%t.h*t.k) (DZ t.k tu)).map vw)):
  (0<(t.l.length+1)%t.h->Uz w G x p F n t tu (AH (AA AB 0)) W)/\(¬0<(t.l.length+1)%t.h->Calls AP 60 #[AI x] W λe w'=>∃er,e=AH (AA AB er)/\Uz w G x p F n t tu (AH (AA AB er)) w'):=by
 obtain⟨h1,h2,h3,h4⟩:=sN h DN hm J MR tu Ku hf hr hg;obtain⟨Od,Yb,WS⟩:=hm.apart;obtain⟨hx,Js,Gu⟩:=hm.lt;have PS:(t.snoc tu).l.length=t.l.length+1:=by show (t.l++[tu]).length= _;simp
 have Gv:DJ (λk=>G k\/k=x\/k=t.g) w W:=hf.mono λk I=>.inr I;refine⟨λh0=>.inr (.inr ⟨O,Ku,.inl ⟨a5,rfl,G,h1,⟨_,h3,?_⟩,Gv,λk I=>.inl I⟩⟩),λh0=>?_⟩
 ·exact(UX (k:=t.k) (l:=(t.snoc tu).l) DN.h.1 (by rw[PS];show (t.l.length+1)%t.h≠0;omega)).2 h4
 ·refine(T9 h1 hn h2 h3 ⟨J.x,J.b,J.g⟩ ab (by rw[PS];omega) h4).mono ?_;rintro e w' ⟨he,h5⟩;refine⟨_,he,.inr (.inr ⟨O,Ku,?_⟩)⟩;rcases h5 with⟨h6,h7⟩|⟨h6,h7⟩
  ·refine .inr (.inl ⟨a5,h6,by rw[h6],?_⟩);obtain⟨G',U,Q,k3⟩:=h7;have NF:=(L0 F.D (Da (t.snoc tu):Nat) (DY F.D.size (t.snoc tu))).1;refine⟨G',U,⟨_,by show Ls w' x p (t.snoc tu) (write F.D (Da (t.snoc tu):Nat) (DY F.D.size (t.snoc tu))).2.size _;rw[NF];exact h3.E4 Q J.x J.b J.g,?_⟩,Gv.trans Q λk I=>.inl (.inl I),λk I=>(k3 k I).imp id λh=>Ag hf.size h⟩;exact gY _ (by rw[PS];show (t.l.length+1)%t.h=0;omega)
  ·refine .inr (.inr ⟨a5,h6,rfl,?_⟩);obtain⟨G',U,Q,k3,k4⟩:=h7;refine⟨G',U,⟨Q.row hr ?_,k4⟩,(Gv.mono (F':=λk=>G k\/k=x\/k=t.g\/k=t.b) λk I=>I.imp_right λh=>h.imp_right .inl).trans Q λk I=>.inl (I.elim .inl λh=>.inr (.inr (.inr h))),λk I=>(k3 k I).imp id λh=>Ag hf.size h⟩;rintro(h8|h8)
   ·exact J.x h8
   ·exact Od h8
theorem qn{w G p F n x t ws}(h:Sys w G p F n)(DN:Ew t F.D.size)(hm:Ls w x p t F.D.size ws)(hn:n<1000000)(ho:YJ G x t)(an:wordsAt F.A.st t.b=AE F.D.size)(MR:TR t.k t.h t.l ws)(tu:Cy)(ab:Db t.k tu=true)(Ku:t.l.length<t.bound):Calls AP 30 #[AI x,AL #[tu.a,tu.b,tu.c,tu.d,tu.e]] w (Uz w G x p F n t tu):=by
 obtain⟨hx,Js,Gu⟩:=hm.lt;have hk:=DN.k;have hh:=DN.h;have av:=DN.bound;obtain⟨U,Q,O,J,I⟩:=tu;have nY:=(AS w w).alloc ar (AK #[U,Q,O,J,I] 47);have GU:Row (w.alloc (AK #[U,Q,O,J,I] 47)) w 47 [U,Q,O,J,I]:=heap_alloc_new _ _;have Vl:=DN.sz;have PT:=λd os=>B0 (w.alloc (AK #[U,Q,O,J,I] 47)) d os;have qF:=nY.size;have Q1:Hid (∀d' os,Calls AP 56 #[AI x] (An (redrawn (w.alloc (AK #[U,Q,O,J,I] 47)) d') os) λe Eo=>e=AH false/\∃p:Regrown,Eo=An (redrawn (w.alloc (AK #[U,Q,O,J,I] 47)) p.d) p.os):=λd' os=>Ba ((It (((hm.row.below nY hx).below (PT d' os) (BN hx qF))) (((hm.buf.below nY Js).below (PT d' os) (BN Js qF)))).mono λe' w' ⟨he,hw⟩=>⟨by rw[he,decide_eq_true a5];rfl,by subst hw;exact AS _ _⟩);have Q2:Hid (∀d' os,Calls AP 58 #[AL #[U,Q,O,J,I],t.k] (An (redrawn (w.alloc (AK #[U,Q,O,J,I] 47)) d') os) λe Eo=>e=AH true/\∃p:Regrown,Eo=An (redrawn (w.alloc (AK #[U,Q,O,J,I] 47)) p.d) p.os):=λd' os=>Ba ((Yz ⟨U,Q,O,J,I⟩ t.k _ hk.1 hk.2).mono λe' w' ⟨he,hw⟩=>⟨by rw[he,ab],hw⟩);have k0:∀d' os,(An (redrawn (w.alloc (AK #[U,Q,O,J,I] 47)) d') os).cell? x=AE (AA AB t.k):=Ac ((hm.row.below nY hx).cell 0);have k1:∀d' os,(An (redrawn (w.alloc (AK #[U,Q,O,J,I] 47)) d') os).cell? w=AE (AA AB U):=Ac (GU.cell 0);have k2:∀d' os,(An (redrawn (w.alloc (AK #[U,Q,O,J,I] 47)) d') os).cell? (w,1)=AE (AA AB Q):=Ac (GU.cell 1);have k3:∀d' os,(An (redrawn (w.alloc (AK #[U,Q,O,J,I] 47)) d') os).cell? (w,2)=AE (AA AB O):=Ac (GU.cell 2);have k4:∀d' os,(An (redrawn (w.alloc (AK #[U,Q,O,J,I] 47)) d') os).cell? (w,3)=AE (AA AB J):=Ac (GU.cell 3);have k5:∀d' os,(An (redrawn (w.alloc (AK #[U,Q,O,J,I] 47)) d') os).cell? (w,4)=AE (AA AB I):=Ac (GU.cell 4);have ay:=AO nY;have IF:=AO GU;have HM:=AO hm;have YO:=AO h;have IX:=AO DN;have pY:=AO ab;have WD:Hid (x<w/\t.b<w/\t.g<w):=⟨hx,Js,Gu⟩;clear nY GU hm h DN hx Js Gu PT qF Vl ab;have g0:(((t.l.length:Nat):Int)==(t.bound:Int))=false:=by simp;omega
 obtain⟨Od,Yb,WS⟩:=HM.out.apart;have PS:(t.snoc ⟨U,Q,O,J,I⟩).l.length=t.l.length+1:=by show (t.l++[_]).length= _;simp
 have Te:=Ft hk.2 ⟨U,Q,O,J,I⟩;obtain⟨off,hoff⟩:=ae (t.l.length%t.h*t.k);have aR:off+t.k<=F.D.size-2:=by
  have h1:=Af t.k (show t.l.length%t.h+1<=t.h by have:=CM t.l.length hh.1;omega);rw[A7,BH]at h1;have:=hh.2.1;omega
 have aD:=IX.out.sz;have Fl:t.l.length<t.bound:=Ku;obtain⟨cnt,Nu⟩:=ae t.l.length;have Du:Hid (∀W,DJ (λk=>k=x\/k=t.g) w W->Row W x 115 [t.k,t.h,AI p.w,t.bound,(cnt+1:Nat),t.first,t.blocks,AI t.b]->Row W t.g 120 ((splice ws off (DZ t.k ⟨U,Q,O,J,I⟩)).map vw)->
   (0<(cnt+1)%t.h->Uz w G x p F n t ⟨U,Q,O,J,I⟩ (AH (AA AB 0)) W)/\(¬0<(cnt+1)%t.h->Calls AP 60 #[AI (AE ⟨x,0,AD⟩)] W λe w'=>∃er,e=AH (AA AB er)/\Uz w G x p F n t ⟨U,Q,O,J,I⟩ (AH (AA AB er)) w')):=λW h1 h2 h3=>by
  rw[Nu];rw[Nu,<-PS]at h2;rw[hoff]at h3;exact sO YO.out hn IX.out HM.out ho an MR _ pY.out Ku h1 h2 h3
 have Q3:Hid (∀W,Below w w W->∀d' os,Calls AP 59 #[AL #[t.k,t.h],AJ t.g F.D.size F.D.size,cnt] (An (redrawn W d') os) λe Eo=>e=AH (AJ (t.g,off) t.k (F.D.size-off))/\∃p:Regrown,Eo=An (redrawn W p.d) p.os):=λW hb d' os=>Ba (by
  rw[hoff,Nu];exact VV t.k t.h t.l.length t.g F.D.size _ hk.1 hk.2 hh.1 hh.2.2 a5 (by rw[<-hoff];omega) a5)
 have vW:Hid (∀i,i<t.k->∃z,[U,Q,O,J,I][i]?=AE z/\(DZ t.k ⟨U,Q,O,J,I⟩)[i]?=AE (uw z)):=λi hi=>by
  have aq:i<[U,Q,O,J,I].length:=by simp;omega
  refine⟨_,AU aq,?_⟩;unfold DZ;rw[Bk,At,if_pos hi];show (([U,Q,O,J,I]:List Int)[i]?).map uw= _;rw[AU aq];rfl
 have tM:=HM.out.len;have vB:Hid (∀i z,i<t.k->(DZ t.k ⟨U,Q,O,J,I⟩)[i]?=AE (uw z)->((splice ws off ((DZ t.k ⟨U,Q,O,J,I⟩).take i)).map vw).set (off+i) (.int .u64 (uw z:Nat))=(splice ws off ((DZ t.k ⟨U,Q,O,J,I⟩).take (i+1))).map vw/\off+i<((splice ws off ((DZ t.k ⟨U,Q,O,J,I⟩).take i)).map vw).length):=λi z hi hz=>by
  refine⟨?_,?_⟩
  ·rw[<-Rs ws _ off i (uw z) hz (by rw[Te,tM];omega),List.map_set];rfl
  ·rw[Ai,DO _ _ _ (by rw[AZ,Te,tM];omega),tM];omega
 have Tl:Hid (ws.map vw=(splice ws off ((DZ t.k ⟨U,Q,O,J,I⟩).take 0)).map vw):=by unfold Hid splice;simp
 have aw:Hid ((DZ t.k ⟨U,Q,O,J,I⟩).take t.k=DZ t.k ⟨U,Q,O,J,I⟩):=Ay a5;have HX:=AO HM.out.row;have aC:=AO HM.out.buf;have HG:=AO HM.out.words;unfold Yw at HX;rw[<-Nu]at HX g0 Fl;clear PS Te hoff tM IX YO pY ho an MR hn Nu;generalize DZ t.k ⟨U,Q,O,J,I⟩=WL at*
 generalize Uz w G x p F n t ⟨U,Q,O,J,I⟩=Dh at*
 obtain⟨k,Hq,bound,first,blocks,b,g,l⟩:=t;simp only at*
 generalize F.D.size=size at*
 obtain⟨r,hr⟩:=ae ((cnt+1)%Hq);obtain⟨c1,Li⟩:=ae (cnt+1);have UZ:(cnt:Int)+1=(c1:Int):=a5;have M5:c1<=100000000:=by have:=av.1;rw[Li];omega
 have zJ:Int.tmod (c1:Int) (Hq:Int)=(r:Int):=by rw[Li,hr];rfl
 have Gt:¬((Hq:Int)=0):=by have:=hh.1;omega
 have aE:r<=254:=by rw[hr];have:=CM (cnt+1) hh.1;omega
 rw[<-hr,<-Li]at Du;clear hr Li HM av Ku Fl;go_enter func30,ntmps30
 go_wp2
 refine By a7 a7 ?_
 repeat(any_goals(first|go_big_quiet_step (with_reducible first|exact Q1.out _ _|exact Q2.out _ _)|quiet_step (with_reducible first|exact Q1.out _ _|exact Q2.out _ _)))
 refine wpQuiet_nil ?_;intro w5 Jr;obtain⟨⟨dq,osq⟩,Jr⟩:=Jr;have Fj:=B0 (w.alloc (AK #[U,Q,O,J,I] 47)) dq osq;rw[<-Jr]at Fj;clear Jr;have EV:=AO (ay.out.trans (Fj.mono a8));have J0:=AO (IF.out.below Fj a8);clear Fj Q1 Q2 k0 k1 k2 k3 k4 k5 ay IF;have c3:w5.cell? (x,3)=AE (AA AB bound):=(HX.out.below EV.out WD.out.1).cell 3;have c4:w5.cell? (x,4)=AE (AA AB cnt):=(HX.out.below EV.out WD.out.1).cell 4;go_wp2
 go_region
 clear c3 c4;have PJ:=AO (DC EV.out);have jD:=AO (J0.out.drewN 1);clear EV J0;have au:w5.drewN 1=w5.drew:=rfl;rw[au]at jD;clear au;generalize w5.drew=w6 at*
 have Q4:=AO (Q3.out w6 PJ.out);have k0:∀d' os,(An (redrawn w6 d') os).cell? x=AE (AA AB k):=Ac ((HX.out.below PJ.out WD.out.1).cell 0);have k1:∀d' os,(An (redrawn w6 d') os).cell? (x,1)=AE (AA AB Hq):=Ac ((HX.out.below PJ.out WD.out.1).cell 1);have k4:∀d' os,(An (redrawn w6 d') os).cell? (x,4)=AE (AA AB cnt):=Ac ((HX.out.below PJ.out WD.out.1).cell 4);have k7:∀d' os,(An (redrawn w6 d') os).cell? (x,7)=AE (AI b):=Ac ((HX.out.below PJ.out WD.out.1).cell 7);have kb:∀d' os,(An (redrawn w6 d') os).cell? b=AE (AJ g size size):=Ac ((aC.out.below PJ.out WD.out.2.1).cell 0);go_wp2
 refine By a7 a7 ?_
 repeat(any_goals(first|go_big_quiet_step (with_reducible first|exact Q4.out _ _)|quiet_step (with_reducible first|exact Q4.out _ _)))
 refine wpQuiet_nil ?_;intro w7 cD;obtain⟨⟨dq,osq⟩,cD⟩:=cD;have On:=B0 w6 dq osq;rw[<-cD]at On;clear cD;have dR:=AO (PJ.out.trans (On.mono PJ.out.size));have vG:=AO (jD.out.below On jD.out.lt);clear On Q4 Q3 k0 k1 k4 k7 kb jD PJ;have Gu:=WD.out.2.2;have ax:Hid (Row w7 g 120 ((splice ws off (WL.take 0)).map vw)):=by unfold Hid;rw[<-Tl.out];exact HG.out.below dR.out Gu
 have aB:w≠g:=a5;clear HG Tl;go_wp2
 go_loopw [48] (λiv wr=>∃i:Nat,i<=k/\iv=AA AB (i:Int)/\Hid (DJ (λj=>j=g) w7 wr)/\Hid (Row wr g 120 ((splice ws off (WL.take i)).map vw))) (λiv _=>k-(BF iv).toNat)
 case atStart=>exact⟨0,Ao _,rfl,DJ.refl _ _,ax.out⟩
 case round=>
  obtain⟨i,hi,rfl,HF,pM⟩:=hrel;by_cases ad:i<k
  ·obtain⟨z,hz,al⟩:=vW.out i ad;obtain⟨Kq,ao⟩:=vB.out i z ad al;have ct:wr.cell? (w,i)=AE (AA AB z):=by
    rw[(HF.out.row vG.out aB).cell i]
    match i,ad,hz with
    |0,_,hz=>simpa using hz
    |1,_,hz=>simpa using hz
    |2,_,hz=>simpa using hz
    |3,_,hz=>simpa using hz
    |4,_,hz=>simpa using hz
    |i+5,ad,_=>omega
   have cg:∃v,wr.cell? (g,off+i)=AE v:=⟨_,(pM.out.cell (off+i)).trans (AU ao)⟩;obtain⟨v0,cg⟩:=cg;have fg:=pM.out.free (off+i);have G7:Hid (Row (wr.setCell (g,off+i) (.int .u64 (uw z:Nat))) g 120 ((splice ws off (WL.take (i+1))).map vw)):=by
    have h1:=pM.out.set (off+i) (.int .u64 (uw z:Nat));rw[Kq]at h1;exact h1
   have OI:Hid (DJ (λj=>j=g) w7 (wr.setCell (g,off+i) (.int .u64 (uw z:Nat)))):=HF.out.set (p:=(g,off+i)) (.inl rfl) _;have UW:(0:Int)<=(i:Int):=a5;have nI:(i:Int)<(k:Int):=a5;have cM:(i:Int)<5:=a5;have aS:IntKind.u64.wrap z=((uw z:Nat):Int):=bK z;clear Kq ao hz al hi;generalize uw z=u at*
   go_wp2
   go_roundw
   case rel=>exact⟨i+1,a5,by go_num,OI.out,G7.out⟩
   case measure=>simp[BF];omega
  ·obtain rfl:i=k:=a5;have Lm:Row wr x 115 [i,Hq,AI p.w,bound,cnt,first,blocks,AI b]:=HF.out.row (HX.out.below dR.out WD.out.1) Yb;have c4:wr.cell? (x,4)=AE (AA AB cnt):=Lm.cell 4;have f4:=Lm.free 4;have Tx:Row (wr.setCell (x,4) c1) x 115 [i,Hq,AI p.w,bound,c1,first,blocks,AI b]:=Lm.set 4 _;have aA:Row (wr.setCell (x,4) c1) g 120 ((splice ws off WL).map vw):=by
    have h1:=pM.out;rw[aw.out]at h1;exact h1.E4 (p:=(x,4)) (λe=>Yb e.symm) _
   have wh:DJ (λk=>k=x\/k=g) w (wr.setCell (x,4) c1):=(((DJ.DE dR.out (λk=>k=x\/k=g)).trans HF.out λb hb=>.inl (.inr hb))).set (p:=(x,4)) (.inl (.inl rfl)) _;have d4:(wr.setCell (x,4) c1).cell? (x,4)=AE (AA AB c1):=Tx.cell 4;have d1:(wr.setCell (x,4) c1).cell? (x,1)=AE (AA AB Hq):=Tx.cell 1;have Ym:=AO Tx;have az:=AO aA;have jl:=AO wh;clear Lm Tx aA wh pM HF HX vB vW aw ax vG;go_wp2
   generalize wr.setCell (x,4) c1=w8 at*
   have HE:=AO (Du.out w8.drew (jl.out.drew) (Ym.out.drewN 1) (az.out.drewN 1));clear Du Ym az jl;by_cases Ec:0<r
   ·have gr:decide ((r:Int)>0)=true:=by simp;omega
    have YV:=AO (HE.out.1 Ec);clear HE;go_region
    go_wp2
    exact YV.out
   ·have gr:decide ((r:Int)>0)=false:=by simp;omega
    have YV:=AO (HE.out.2 Ec);clear HE;go_region
    go_wp2_with fail
    refine YV.out.mono ?_;rintro e w9 ⟨er,rfl,h9⟩;have H9:=AO h9;clear h9 YV;go_wp2
    exact H9.out
def KH(first blocks k c:Nat):Value:=AL #[first,blocks,k,c]
def Dc(t:Wt):Nat:=if t.l.length=0 then 0 else t.first
def PM(w:World)(G:Nat->Prop)(x:Nat)(p:Wp)(F:Fs)(n:Nat)(t:Wt)(e:Ending)(w':World):Prop:=
 (t.l.length%t.h=0/\e=AH (AM #[KH (Dc t) (Cu t.h t.l.length) t.k t.l.length,()])/\Lb w G x p (JT F t (Cu t.h t.l.length)) n t w')\/
 (t.l.length%t.h≠0/\(write F.D (Da t:Nat) (DY F.D.size t)).1=0/\e=AH (AM #[KH (Dc t) (Cu t.h t.l.length) t.k t.l.length,()])/\
  Lb w G x p (JT {F with D:=(write F.D (Da t:Nat) (DY F.D.size t)).2} t (Cu t.h t.l.length)) (n+1) t w')\/
 (t.l.length%t.h≠0/\(write F.D (Da t:Nat) (DY F.D.size t)).1≠0/\e=AH (AM #[KH 0 0 0 0,AA AB (write F.D (Da t:Nat) (DY F.D.size t)).1])/\
  Lb w G x p (JT {F with D:=(write F.D (Da t:Nat) (DY F.D.size t)).2} t 0) (n+1) t w')
theorem DJ.four(w:World)(g:Nat)(a b c d:Value):DJ (λk=>k=g) w ((((w.setCell g a).setCell (g,1) b).setCell (g,2) c).setCell (g,3) d):=
 ((DJ.two w g 0 1 a b).set (p:=⟨g,2,AD⟩) (.inl rfl) c).set (p:=⟨g,3,AD⟩) (.inl rfl) d
theorem iT{w w0 W6 W7 G p F FE n n1 x t}{rb:Nat}(h:Sys w G p F n)(U:∀q∈FE.A.st,q∈F.A.st)(I:Below w w w0)(hr:Row w x 115 (Yw p t))(hx:¬G x)(Od:x≠t.b)(Js:t.b<w)
  (h6:FX w0 G t.b p FE n1 W6)(ab:w<=rb)(ad:rb<w0)(O:DJ (λk=>k=rb) W6 W7):Lb w G x p FE n1 t W7:=by
 have Q:=hr.lt;obtain⟨G',k1,k2,k3,k4⟩:=h6;have Ec:=hr.below I Q;refine⟨G',k1.E4 O (λk J e=>?_) (λq hq e=>?_),⟨O.row (k2.row Ec (by rintro(h5|h5);exact hx h5;exact Od h5)) a5,O.row k4 a5⟩,?_,?_⟩
 ·subst e;rcases k3 k J with h5|h5
  ·have:=h.lt h5;omega
  ·omega
 ·have:=(h.buf (U q hq)).1.lt;omega
 ·refine(((DJ.DE I (λk=>G k\/k=x\/k=t.g\/k=t.b)).trans k2 λk J=>.inl (J.elim .inl λh=>.inr (.inr (.inr h))))).trans O λk J=>.inr a5
 ·intro k J;exact(k3 k J).imp_right λh=>Ag I.size h
def Mm(w w0:World)(G:Nat->Prop)(x:Nat)(p:Wp)(t:Wt)(F1:Fs)(n1:Nat)(W2:World):Prop:=DU w0 G p F1 n1 W2/\Row W2 x 115 (Yw p t)/\Row W2 w 28 [(),(),(),()]
theorem Y5{w G p F n x t}(h:Sys w G p F n)(hn:n<1000000)(DN:Ew t F.D.size)(hm:O4 w x p t F.D.size)(ho:YJ G x t)(av:wordsAt F.A.st t.b=AE F.D.size):Calls AP 31 #[AI x] w (PM w G x p F n t):=by
  obtain⟨ws,hm,MR⟩:=hm;obtain⟨hx,Js,Gu⟩:=hm.lt;obtain⟨Od,Yb,WS⟩:=hm.apart;have hk:=DN.k;have hh:=DN.h;have a0:=DN.sz;have aR:=DN.bound;have I0:=DN.blocks;have Pt:=DN.first;have aq:=(AS w w).alloc ar (AK #[(),(),(),()] 28);have J:Row (w.alloc (AK #[(),(),(),()] 28)) w 28 [(),(),(),()]:=heap_alloc_new _ _;have Fa:(w.alloc (AK #[(),(),(),()] 28)).heap.size=w+1:=a8;obtain⟨w0,JS⟩:=ae (w.alloc (AK #[(),(),(),()] 28));rw[<-JS]at aq J Fa;have cI:¬G w:=λhg=>by have:=h.lt hg;omega
  have h0:=h.below aq;have ab:=hm.below aq;have SO:x<w0:=a5;have HC:=AO (It ab.row ab.buf);have hd:decide (0<F.D.size)=true:=by simp;omega
  rw[hd]at HC;have Qy:=DC (AS w0 w0);have pV:Hid (Mm w w0 G x p t F n w0.drew):=⟨DU.DE h0 Qy,ab.row.below Qy SO,J.below Qy J.lt⟩;have Qf:Hid (t.l.length%t.h≠0->Calls AP 60 #[AI x] w0.drew λe w'=>e=AH (AA AB (write F.D (Da t:Nat) (DY F.D.size t)).1)/\
      (((write F.D (Da t:Nat) (DY F.D.size t)).1=0/\Mm w w0 G x p t {F with D:=(write F.D (Da t:Nat) (DY F.D.size t)).2} (n+1) w')\/
       ((write F.D (Da t:Nat) (DY F.D.size t)).1≠0/\FX w0 G t.b p (JT {F with D:=(write F.D (Da t:Nat) (DY F.D.size t)).2} t 0) (n+1) w'/\Row w' w.heap.size 28 [(),(),(),()]))):=λaw=>by
    have hl:0<t.l.length:=by
      rcases BB t.l.length with h1|h1
      · rw[h1]at aw;simp at aw
      · exact h1
    refine(T9 (h0.below Qy) hn DN (ab.below Qy) ho av hl ((UX hh.1 aw).1 MR)).mono ?_;rintro e w' ⟨he,h1⟩;refine⟨he,?_⟩;rcases h1 with⟨h2,h3⟩|⟨h2,h3⟩
    · exact .inl ⟨h2,h3.behind Qy,h3.row (ab.row.below Qy SO) ho.x,h3.row (J.below Qy J.lt) cI⟩
    · refine .inr ⟨h2,h3.behind Qy,h3.row (J.below Qy J.lt) cI a5⟩
  obtain⟨nb,hnb⟩:=ae (Cu t.h t.l.length);obtain⟨fst,Sa⟩:=ae (Dc t);have zS:nb<=t.blocks:=by rw[hnb,I0.1];exact Df hh.1 aR.2
  have Q8:Hid (∀W,Calls AP 53 #[AL #[t.k,t.h],t.l.length] W λe w'=>e=AH nb/\Below W W w'):=λW=>by
    rw[hnb];exact Jp t.k t.h t.l.length W hh.1 hh.2.2 a5
  have dI:Hid (∀(F1:Fs) (n1:Nat) (I:World),Mm w w0 G x p t F1 n1 I->F1.A=F.A->F1.D.size=F.D.size->∀O,Below I I O->Calls AP 57 #[AI x,nb] O λe w6=>e=AH (AM #[])/\FX w0 G t.b p (JT F1 t nb) n1 w6/\Row w6 w 28 [(),(),(),()]/\∀fb cs,Row O fb 28 cs->I<=fb->Row w6 fb 28 cs):=by
    intro F1 n1 I ⟨G9,EC,Gv⟩ hA hD O Fx;obtain⟨G',k1,k2,k3⟩:=G9;have mZ:=EC.lt;have a9:t.b<I:=by have:=k2.size;omega
    have Pq:¬G' x:=λhg=>(k3 x hg).elim ho.x λh8=>by omega
    refine(RV (k1.below Fx) (EC.below Fx mZ) Pq (by rw[hA,hD];exact av) Od Pt I0.2 nb zS).mono ?_;rintro e w6 ⟨he,h6⟩;have a2:¬G' w:=λhg=>(k3 _ hg).elim cI λh8=>by omega
    have a3:Row O w 28 [(),(),(),()]:=Gv.below Fx Gv.lt;refine⟨he,(h6.behind Fx).from k2 k3,h6.row a3 a2 a5,λfb cs LL hl=>h6.row LL (λhg=>by have:=k1.lt hg;omega) a5⟩
  have I5:Hid (∀(F1:Fs) (n1 kp:Nat) (W6 W7:World),F1.A=F.A->FX w0 G t.b p (JT F1 t kp) n1 W6->DJ (λk=>k=w) W6 W7->Lb w G x p (JT F1 t kp) n1 t W7):=by
    intro F1 n1 kp W6 W7 hA h6 Yg;refine iT h (λq hq=>?_) aq hm.row ho.x Od Js h6 ar a5 Yg;have Xg:q∈Fu F1.A.st t.b:=hq;have:=Ir _ _ _ Xg;rwa [hA]at this
  have TY:Hid (∀(F1:Fs) (n1:Nat) (I:World),Mm w w0 G x p t F1 n1 I->∀W,Below I I W->W.cell? x=AE (AA AB t.k)/\W.cell? (x,1)=AE (AA AB t.h)/\W.cell? (x,4)=AE (AA AB (t.l.length:Nat))/\W.cell? (x,5)=AE (AA AB t.first)):=by
    intro F1 n1 I ⟨_,EC,_⟩ W hb;have r:=EC.below hb EC.lt;exact⟨r.cell 0,r.cell 1,r.cell 4,r.cell 5⟩
  have NF:=(L0 F.D (Da t:Nat) (DY F.D.size t)).1;have qZ:Hid (t.l.length%t.h=0->∀W7,Lb w G x p (JT F t nb) n t W7->PM w G x p F n t (AH (AM #[KH fst nb t.k t.l.length,()])) W7):=λh1 W7 h2=>by
    rw[hnb]at h2⊢;rw[Sa];exact .inl ⟨h1,rfl,h2⟩
  have an:Hid (t.l.length%t.h≠0->(write F.D (Da t:Nat) (DY F.D.size t)).1=0->∀W7,Lb w G x p (JT {F with D:=(write F.D (Da t:Nat) (DY F.D.size t)).2} t nb) (n+1) t W7->PM w G x p F n t (AH (AM #[KH fst nb t.k t.l.length,()])) W7):=λh1 h0 W7 h2=>by
    rw[hnb]at h2⊢;rw[Sa];exact .inr (.inl ⟨h1,h0,rfl,h2⟩)
  have al:Hid (t.l.length%t.h≠0->(write F.D (Da t:Nat) (DY F.D.size t)).1≠0->∀W7,Lb w G x p (JT {F with D:=(write F.D (Da t:Nat) (DY F.D.size t)).2} t 0) (n+1) t W7->PM w G x p F n t (AH (AM #[KH 0 0 0 0,AA AB (write F.D (Da t:Nat) (DY F.D.size t)).1])) W7):=λh1 h0 W7 h2=>.inr (.inr ⟨h1,h0,rfl,h2⟩);have cJ:Int.tmod ((t.l.length:Nat):Int) (t.h:Int)=((t.l.length%t.h:Nat):Int):=rfl;have Gt:¬((t.h:Int)=0):=a5;have SX:t.l.length%t.h<=254:=by have:=CM t.l.length hh.1;omega
  have HZ:Hid (t.l.length=0->nb=0/\fst=0):=λh1=>⟨by rw[hnb,h1,Dx],by rw[Sa];unfold Dc;rw[if_pos h1]⟩;have aA:Hid (t.l.length≠0->fst=t.first):=λh1=>by rw[Sa];unfold Dc;rw[if_neg h1]
  obtain⟨a7,a1,-,-,a4⟩:=ab.row.q5;have M5:t.l.length<=100000000:=a5;have dL:=AO J;obtain⟨FB,ay⟩:∃FB:Fs,FB={F with D:=(write F.D (Da t:Nat) (DY F.D.size t)).2}:=⟨_,rfl⟩;have vQ:Hid (FB.A=F.A/\FB.D.size=F.D.size):=by unfold Hid;rw[ay];exact⟨rfl,NF⟩
  have YT:Hid (F.A=F.A/\F.D.size=F.D.size):=⟨rfl,rfl⟩;rw[<-ay]at Qf an al;clear ay NF h h0 hm ab DN MR av hd hnb Sa zS I0 Pt aR J aq a7 Fa Qy a0 hk cI hx Js Gu Od Yb WS SO ho;generalize PM w G x p F n t=Dh at*
  generalize(write F.D (Da t:Nat) (DY F.D.size t)).1=er at*
  obtain⟨k,Hq,bound,first,blocks,b,g,l⟩:=t;simp only at*
  obtain⟨cnt,Nu⟩:=ae l.length;rw[<-Nu]at cJ SX HZ aA a4 M5 Qf Q8 TY qZ an al;obtain⟨r,hr⟩:=ae (cnt%Hq);rw[<-hr]at cJ SX Qf qZ an al;have az:=AO JS;clear hr Nu hh JS;by_cases Ec:r=0
  · have gr:¬0<r:=a5
    have HP:=AO (qZ.out Ec);have TX:=pV;have OI:=YT;clear qZ an al Qf pV Ec vQ YT;go_enter func31,ntmps31
    go_wp2_with fail
    rw[<-az.out];refine HC.out.mono ?_;rintro e w1 ⟨rfl,rfl⟩;go_wp2
    go_region
    generalize w1.drew=I at*
    clear gr cJ Gt SX a1 a4;have U:=AO (TY.out _ _ _ TX.out);obtain⟨e0,e1,e4,e5⟩:=U.out I (AS _ _);have aS:x<I:=TX.out.2.1.lt;have Zw:=TX.out.2.2;have a6:w.heap.size<I.heap.size:=Zw.lt;have aE:=AO Zw;clear Zw;go_wp2
    go_region
    have nA:Row (I.alloc (AK #[(),(),k,cnt] 28)).drew I 28 [(),(),k,cnt]:=heap_alloc_new _ _;have ED:=DC ((AS I I).alloc ar (AK #[(),(),k,cnt] 28));generalize(I.alloc (AK #[(),(),k,cnt] 28)).drew=W3 at*
    obtain⟨_,_,i4,_⟩:=U.out W3 ED;have Ei:=AO ED;have TW:=AO nA;clear e0 e1 e4 e5;have Du:Hid (∀O,Below I I O->Row O I 28 [fst,nb,k,cnt]->Calls AP 57 #[AI x,nb] O λe w6=>e=AH (AM #[])/\(Row w6 w 28 [(),(),(),()]/\Row w6 I 28 [fst,nb,k,cnt])/\∀W7,DJ (λk=>k=w) w6 W7->Dh (AH (AM #[KH fst nb k cnt,()])) W7):=λO Fx Ju=>
      (dI.out _ _ I TX.out (by first|exact OI.out.1|rfl) (by first|exact OI.out.2|rfl) O Fx).mono λe w6 ⟨he,h6,hz,hk⟩=>⟨he,⟨hz,hk _ _ Ju ar⟩,λW7 Yg=>HP.out W7 (I5.out _ _ nb w6 W7 (by first|exact OI.out.1|rfl) h6 Yg)⟩
    clear dI I5 HP nA ED aE dL HC TX OI;by_cases Jx:cnt=0
    · obtain⟨gT,ax⟩:=HZ.out Jx
      subst gT;subst ax;have gc:¬0<cnt:=a5;have i5:W3.cell? (I,1)=AE (AA AB 0):=TW.out.cell 1;have HE:=AO (Du.out W3 Ei.out TW.out);clear Du Jx U;go_wp2_with fail
      refine HE.out.mono ?_;rintro e W6 ⟨rfl,⟨Q,WR⟩,h7⟩;have H7:=AO h7;obtain⟨q0,q1,q2,q3⟩:=Q.q4;obtain⟨z0,z1,z2,z3⟩:=Q.r4;obtain⟨s0,s1,s2,s3⟩:=WR.q4;have ad:=AO Q;clear Q WR h7 HE;go_wp2
      have HQ:=H7.out _ (DJ.four W6 w () () k cnt);have Qs:=(((ad.out.set 0 ()).set 1 ()).set 2 k).set 3 cnt;obtain⟨r0,r1,r2,r3⟩:=Qs.q4;refine BA (v:=AM #[AL #[(),(),k,cnt],()]) (by simp[results,Tryz.results31,go_sem,r0,r1,r2,r3]) rfl HQ
    · have gc:0<cnt:=a5
      have ao:=aA.out Jx;have Vt:=DC Ei.out;have q1:=U.out W3.drew Vt;have i5:=U.out W3 Ei.out;rw[ao]at Du;clear ao i4;have i4:=i5.2.2.1;clear Jx;go_wp2
      go_region_held3 (λw'=>w'.cell? x=AE (AA AB k)/\w'.cell? (x,1)=AE (AA AB Hq)/\w'.cell? (x,4)=AE (AA AB cnt)/\w'.cell? (x,5)=AE (AA AB first))
        (first|with_reducible exact q1|with_reducible exact q2|with_reducible exact q3|with_reducible exact q4)
        (first
          | (go_at_call 53;(with_reducible refine(Q8.out _).mono ?_);rintro e w4 ⟨rfl,aB⟩;have Pn:=(TW.out.drewN 1).below aB (TW.out.drewN 1).lt;have IE:=Vt.trans (aB.mono Vt.size);have q2:=U.out w4 IE;have f0:w4.cell? I.heap.size=AE (AA AB 0):=Pn.cell 0;have f1:w4.cell? (I.heap.size,1)=AE (AA AB 0):=Pn.cell 1;have z0:=Pn.free 0;have z1:=Pn.free 1;have Fx:=IE.setCell (p:=I.heap.size) ar first;have q3:=U.out _ Fx;have RG:=Fx.setCell (p:=(I.heap.size,1)) ar nb;have q4:=U.out _ RG;have pN:=AO Pn;clear Pn aB))
      have Ju:=(pN.out.set 0 first).set 1 nb;have HE:=AO (Du.out _ RG Ju);have i6:((w4.setCell I first).setCell (I,1) nb).cell? (I,1)=AE (AA AB nb):=Ju.cell 1;clear Du U q1 q2 q3 q4 f0 f1 z0 z1 IE Fx RG Ju pN TW Ei i4 i5 Vt Q8;generalize(w4.setCell I.heap.size first).setCell (I.heap.size,1) nb=O at*
      go_wp2_with fail
      refine HE.out.mono ?_;rintro e W6 ⟨rfl,⟨Q,WR⟩,h7⟩;have H7:=AO h7;obtain⟨q0,q1,q2,q3⟩:=Q.q4;obtain⟨z0,z1,z2,z3⟩:=Q.r4;obtain⟨s0,s1,s2,s3⟩:=WR.q4;have ad:=AO Q;clear Q WR h7 HE;go_wp2
      have HQ:=H7.out _ (DJ.four W6 w first nb k cnt);have Qs:=(((ad.out.set 0 first).set 1 nb).set 2 k).set 3 cnt;obtain⟨r0,r1,r2,r3⟩:=Qs.q4;refine BA (v:=AM #[AL #[first,nb,k,cnt],()]) (by simp[results,Tryz.results31,go_sem,r0,r1,r2,r3]) rfl HQ
  · have gr:0<r:=a5
    have xp:=AO (Qf.out Ec);have aC:=AO (an.out Ec);have aD:=AO (al.out Ec);clear qZ an al Qf pV Ec YT;by_cases au:er=0
    · subst au
      have HP:=AO (aC.out rfl);clear aC aD;go_enter func31,ntmps31
      go_wp2_with fail
      rw[<-az.out];refine HC.out.mono ?_;rintro e w1 ⟨rfl,rfl⟩;go_wp2
      go_region
      go_wp2_with fail
      refine xp.out.mono ?_;rintro e I ⟨rfl,h2⟩;have TX:Hid (Mm w w1 G x p ⟨k,Hq,bound,first,blocks,b,g,l⟩ FB (n+1) I):=by
        rcases h2 with⟨_,h3⟩|⟨h3,_⟩
        · exact h3
        · exact absurd rfl h3
      have OI:=vQ;clear h2 xp vQ;clear gr cJ Gt SX a1 a4;have U:=AO (TY.out _ _ _ TX.out);obtain⟨e0,e1,e4,e5⟩:=U.out I (AS _ _);have aS:x<I:=TX.out.2.1.lt;have Zw:=TX.out.2.2;have a6:w.heap.size<I.heap.size:=Zw.lt;have aE:=AO Zw;clear Zw;go_wp2
      go_region
      have nA:Row (I.alloc (AK #[(),(),k,cnt] 28)).drew I 28 [(),(),k,cnt]:=heap_alloc_new _ _;have ED:=DC ((AS I I).alloc ar (AK #[(),(),k,cnt] 28));generalize(I.alloc (AK #[(),(),k,cnt] 28)).drew=W3 at*
      obtain⟨_,_,i4,_⟩:=U.out W3 ED;have Ei:=AO ED;have TW:=AO nA;clear e0 e1 e4 e5;have Du:Hid (∀O,Below I I O->Row O I 28 [fst,nb,k,cnt]->Calls AP 57 #[AI x,nb] O λe w6=>e=AH (AM #[])/\(Row w6 w 28 [(),(),(),()]/\Row w6 I 28 [fst,nb,k,cnt])/\∀W7,DJ (λk=>k=w) w6 W7->Dh (AH (AM #[KH fst nb k cnt,()])) W7):=λO Fx Ju=>
        (dI.out _ _ I TX.out (by first|exact OI.out.1|rfl) (by first|exact OI.out.2|rfl) O Fx).mono λe w6 ⟨he,h6,hz,hk⟩=>⟨he,⟨hz,hk _ _ Ju ar⟩,λW7 Yg=>HP.out W7 (I5.out _ _ nb w6 W7 (by first|exact OI.out.1|rfl) h6 Yg)⟩
      clear dI I5 HP nA ED aE dL HC TX OI;by_cases Jx:cnt=0
      · obtain⟨gT,ax⟩:=HZ.out Jx
        subst gT;subst ax;have gc:¬0<cnt:=a5;have i5:W3.cell? (I,1)=AE (AA AB 0):=TW.out.cell 1;have HE:=AO (Du.out W3 Ei.out TW.out);clear Du Jx U;go_wp2_with fail
        refine HE.out.mono ?_;rintro e W6 ⟨rfl,⟨Q,WR⟩,h7⟩;have H7:=AO h7;obtain⟨q0,q1,q2,q3⟩:=Q.q4;obtain⟨z0,z1,z2,z3⟩:=Q.r4;obtain⟨s0,s1,s2,s3⟩:=WR.q4;have ad:=AO Q;clear Q WR h7 HE;go_wp2
        have HQ:=H7.out _ (DJ.four W6 w () () k cnt);have Qs:=(((ad.out.set 0 ()).set 1 ()).set 2 k).set 3 cnt;obtain⟨r0,r1,r2,r3⟩:=Qs.q4;refine BA (v:=AM #[AL #[(),(),k,cnt],()]) (by simp[results,Tryz.results31,go_sem,r0,r1,r2,r3]) rfl HQ
      · have gc:0<cnt:=a5
        have ao:=aA.out Jx;have Vt:=DC Ei.out;have q1:=U.out W3.drew Vt;have i5:=U.out W3 Ei.out;rw[ao]at Du;clear ao i4;have i4:=i5.2.2.1;clear Jx;go_wp2
        go_region_held3 (λw'=>w'.cell? x=AE (AA AB k)/\w'.cell? (x,1)=AE (AA AB Hq)/\w'.cell? (x,4)=AE (AA AB cnt)/\w'.cell? (x,5)=AE (AA AB first))
          (first|with_reducible exact q1|with_reducible exact q2|with_reducible exact q3|with_reducible exact q4)
          (first
            | (go_at_call 53;(with_reducible refine(Q8.out _).mono ?_);rintro e w4 ⟨rfl,aB⟩;have Pn:=(TW.out.drewN 1).below aB (TW.out.drewN 1).lt;have IE:=Vt.trans (aB.mono Vt.size);have q2:=U.out w4 IE;have f0:w4.cell? I.heap.size=AE (AA AB 0):=Pn.cell 0;have f1:w4.cell? (I.heap.size,1)=AE (AA AB 0):=Pn.cell 1;have z0:=Pn.free 0;have z1:=Pn.free 1;have Fx:=IE.setCell (p:=I.heap.size) ar first;have q3:=U.out _ Fx;have RG:=Fx.setCell (p:=(I.heap.size,1)) ar nb;have q4:=U.out _ RG;have pN:=AO Pn;clear Pn aB))
        have Ju:=(pN.out.set 0 first).set 1 nb;have HE:=AO (Du.out _ RG Ju);have i6:((w4.setCell I first).setCell (I,1) nb).cell? (I,1)=AE (AA AB nb):=Ju.cell 1;clear Du U q1 q2 q3 q4 f0 f1 z0 z1 IE Fx RG Ju pN TW Ei i4 i5 Vt Q8;generalize(w4.setCell I.heap.size first).setCell (I.heap.size,1) nb=O at*
        go_wp2_with fail
        refine HE.out.mono ?_;rintro e W6 ⟨rfl,⟨Q,WR⟩,h7⟩;have H7:=AO h7;obtain⟨q0,q1,q2,q3⟩:=Q.q4;obtain⟨z0,z1,z2,z3⟩:=Q.r4;obtain⟨s0,s1,s2,s3⟩:=WR.q4;have ad:=AO Q;clear Q WR h7 HE;go_wp2
        have HQ:=H7.out _ (DJ.four W6 w first nb k cnt);have Qs:=(((ad.out.set 0 first).set 1 nb).set 2 k).set 3 cnt;obtain⟨r0,r1,r2,r3⟩:=Qs.q4;refine BA (v:=AM #[AL #[first,nb,k,cnt],()]) (by simp[results,Tryz.results31,go_sem,r0,r1,r2,r3]) rfl HQ
    · have g9:(er !=0)=true:=by simpa using au
      have HP:=AO (aD.out au);clear aC aD;go_enter func31,ntmps31
      go_wp2_with fail
      rw[<-az.out];refine HC.out.mono ?_;rintro e w1 ⟨rfl,rfl⟩;go_wp2
      go_region
      go_wp2_with fail
      refine xp.out.mono ?_;rintro e I ⟨rfl,h2⟩;have h3:FX w1 G b p (JT FB ⟨k,Hq,bound,first,blocks,b,g,l⟩ 0) (n+1) I/\Row I w 28 [(),(),(),()]:=by
        rcases h2 with⟨h3,_⟩|⟨_,h3⟩
        · exact absurd h3 au
        · exact h3
      obtain⟨q0,q1,q2,q3⟩:=h3.2.q4;obtain⟨z0,z1,z2,z3⟩:=h3.2.r4;have H3:=AO h3;clear h2 h3 xp;go_wp2
      have HQ:=HP.out _ (I5.out FB (n+1) 0 I _ vQ.out.1 H3.out.1 (DJ.four I w () () () ()));have Qs:=(((H3.out.2.set 0 ()).set 1 ()).set 2 ()).set 3 ();obtain⟨r0,r1,r2,r3⟩:=Qs.q4;refine BA (v:=AM #[AL #[(),(),(),()],er]) (by simp[results,Tryz.results31,go_sem,r0,r1,r2,r3]) rfl HQ
def Mg(F:Fs)(width bound:Int):Prop:=Cw F.D.size width≠0/\0<=bound/\bound<=100000000
def AL2(F:Fs)(width bound er:Int):Prop:=
 (er=1/\¬Mg F width bound)\/(er=7/\Mg F width bound/\F.A.room-F.A.used<F.D.size)\/
 (er=5/\Mg F width bound/\F.D.size<=F.A.room-F.A.used/\0<Cu (Cw F.D.size width) bound.toNat/\∀k,¬QN F.S k (Cu (Cw F.D.size width) bound.toNat))
def YK(S S':Sp)(a m:Nat):Prop:=(m=0/\a=0/\S'=S)\/(0<m/\jA S S' a m/\∀k,QN S k m->a<=k)
theorem iC{S S' a m}(hm:0<m)(h:S.ok)(e:jA S S' a m):(E5 S' a m).1=S:=by
 have I:=h.2.2;have Q:=I.has (e.room a ar a5);have h2:=I.has (e.room (a+m-1) a5 a5);rcases Jj e.ok (a:Int) (m:Int)with⟨s',a',m',e1,e2,h3,e3,hg⟩|⟨e3,hno⟩
 ·have U:a'=a:=a5;have em:m'=m:=a5;subst U;subst em;rw[e3];have hf:s'.first=S.first:=hg.first.trans e.first;have hb:s'.blocks=S.blocks:=hg.blocks.trans e.blocks;have J:s'.fr=S.fr:=by
   have O:=hg.ok.2.2;rw[hf,hb]at O;refine Canon.only O I λb=>?_;rw[hg.has,e.has];constructor
   ·rintro(h4|h4)
    ·exact h4.1
    ·exact e.room b h4.1 h4.2
   ·intro h4;by_cases h5:a'<=b/\b<a'+m'
    ·exact .inr h5
    ·exact .inl ⟨h4,h5⟩
  obtain⟨f1,b1,l1⟩:=s';obtain⟨f2,b2,l2⟩:=S;simp only at hf hb J;subst hf;subst hb;subst J;rfl
 ·refine absurd ?_ (hno a m rfl rfl a5);rw[e.first,e.blocks];exact⟨Q.1,a5,λb Dg DT hh=>((e.has b).1 hh).2 ⟨Dg,DT⟩⟩
theorem rN{S S' a m}(hm:0<m)(h:S.ok)(e:jA S S' a m):a+m<=S.first+S.blocks/\S.first<=a:=by
 have I:=h.2.2;have O:=I.has (e.room a ar a5);have J:=I.has (e.room (a+m-1) a5 a5);omega
theorem ZA{S}(h:S.ok)(m:Nat):(∃S' a,takeN S m=(S',a,m,0)/\YK S S' a m/\Dq S' a m=S/\a+m<=2000000)\/(takeN S m=(S,0,0,5)/\0<m/\∀k,¬QN S k m):=by
 by_cases hm:m=0
 ·subst hm;exact .inl ⟨S,0,rfl,.inl ⟨rfl,rfl,rfl⟩,rfl,a5⟩
 ·have I:0<m:=a5;unfold takeN;rw[if_neg hm];rcases Y9 h (n:=m) I with⟨S',a,e,ht,hl⟩|⟨e,hno⟩
  ·rw[e,if_pos rfl];refine .inl ⟨S',a,rfl,.inr ⟨I,ht,hl⟩,?_,?_⟩
   ·unfold Dq;rw[if_neg hm];exact iC I h ht
   ·have:=rN I h ht;have:=h.1;have:=h.2.1;omega
  ·rw[e,if_neg (show ¬((5:Nat)=0)by decide)];exact .inr ⟨rfl,I,hno⟩
theorem Ks{size width}(h:Cw size width≠0):∃k:Nat,width=(k:Int)/\0<k/\k<=5/\Cw size width*k<=size-2:=by
 unfold Cw at h⊢;by_cases e:width<1\/5<width
 ·rw[if_pos e]at h;exact absurd rfl h
 ·rw[if_neg e];refine⟨width.toNat,a5,a5,a5,?_⟩;exact Cf _ _
theorem aF{w G p F n}(h:Sys w G p F n)(width bound:Int)(I:¬Mg F width bound):Calls AP 28 #[AI p.w,width,bound] w λe w'=>e=AH (AM #[AI AD,AA AB 1])/\Below w w w':=by
 have U:=AO (JW h width);by_cases J:Cw F.D.size width=0
 ·rw[J]at U;clear J I h;go_enter func28,ntmps28
  go_wp2_with fail
  refine U.out.mono ?_;rintro e w1 ⟨rfl,hb⟩;have O:=AO (hb.alloc hb.size (AK #[width,()] 105));clear hb;go_wp2
  go_ret2
  exact⟨rfl,O.out⟩
 ·have g0:(((Cw F.D.size width:Nat):Int)==0)=false:=by simpa using J
  by_cases Q:bound<0
  ·have g1:decide (bound<0)=true:=by simpa using Q
   generalize Cw F.D.size width=hh at*
   clear J I h Q;go_enter func28,ntmps28
   go_wp2_with fail
   refine U.out.mono ?_;rintro e w1 ⟨rfl,hb⟩;have O:=AO (hb.alloc hb.size (AK #[width,hh] 105));clear hb;go_wp2
   go_ret2
   exact⟨rfl,O.out⟩
  ·have g1:decide (bound<0)=false:=by simpa using Q
   have g2:decide (bound>100000000)=true:=by
    have:¬bound<=100000000:=λh2=>I ⟨J,a5,h2⟩;simp;omega
   generalize Cw F.D.size width=hh at*
   clear J I h Q;go_enter func28,ntmps28
   go_wp2_with fail
   refine U.out.mono ?_;rintro e w1 ⟨rfl,hb⟩;have O:=AO (hb.alloc hb.size (AK #[width,hh] 105));clear hb;go_wp2
   go_ret2
   exact⟨rfl,O.out⟩
theorem Xz{w G p F n}(h:Sys w G p F n)(width bound:Int)(ha:Mg F width bound)(Of:takeN F.S (Cu (Cw F.D.size width) bound.toNat)=(F.S,0,0,5))(e7:Bool)(Q:e7=decide (F.A.room-F.A.used<F.D.size)):Calls AP 28 #[AI p.w,width,bound] w λe w'=>e=AH (AM #[AI AD,AA AB (if e7 then 7 else 5)])/\DU w G p F n w':=by
 have ad:=h.size;have JI:Cw F.D.size width<=254:=Ag (Ix _ _) a5;obtain⟨RH,gu,zy⟩:=ha;obtain⟨U,rfl⟩:∃U:Nat,bound=(U:Int):=⟨bound.toNat,a5⟩;rw[BY]at Of;obtain⟨k,rfl,Vn,jW,wX⟩:=Ks RH;have Ti:Cu (Cw F.D.size k) U<=100000000:=Ag (Dl _ _) a5;have HS:=AO (JW h k);have Q8:Hid (∀W,Calls AP 53 #[AL #[k,(Cw F.D.size k:Nat)],U] W λe w'=>e=AH (Cu (Cw F.D.size k) U:Nat)/\Below W W w'):=λW=>Jp k (Cw F.D.size k) U W a5 JI a5;have PW:Hid (∀W,Below w w W->Calls AP 52 #[AI p.w,(Cu (Cw F.D.size k) U:Nat)] W λe w'=>e=AH (AM #[AL #[(),()],AA AB 5])/\DU W G p F n w'/\∀g t cs,Row W g t cs->¬G g->Row w' g t cs):=λW hb=>by
  have h1:=Py (h.below hb) (Cu (Cw F.D.size k) U) Ti;rw[Of]at h1;exact h1.mono λe w' ⟨he,h2⟩=>⟨he,h2,λg t cs hr hg=>h2.row hr hg⟩
 have dP:Hid (∀k,w.heap.size<=k->¬G k):=λk hk hg=>by have:=h.lt hg;omega
 have ab:Hid (∀W G',Sys W G' p F n->∀q,Calls AP 33 #[AI p.a] (W.drewN q) λe Eo=>e=AH ((F.A.room-F.A.used:Nat):Int)/\∃k,Eo=W.drewN k):=λW G' hs q=>Calls.quiet_of_same ((hs.below (DA (AS _ _) q)).XV.mono λ_ _ h=>h);have Yl:Hid (∀W G',Sys W G' p F n->∀q,Calls AP 34 #[AI p.d] (W.drewN q) λe Eo=>e=AH F.D.size/\∃k,Eo=W.drewN k):=λW G' hs q=>Calls.quiet_of_same ((hs.below (DA (AS _ _) q)).Hy.mono λ_ _ h=>h);obtain⟨left,QV⟩:=ae (F.A.room-F.A.used);rw[<-QV]at ab Q;have g0:(((Cw F.D.size (k:Int):Nat):Int)==0)=false:=by simpa using RH
 have g1:decide ((U:Int)<0)=false:=a8;have g2:decide ((U:Int)>100000000)=false:=by simp;omega
 clear QV Of h RH gu wX JI;generalize Cu (Cw F.D.size k) U=nb at*
 generalize Cw F.D.size k=hh at*
 cases e7
 ·have gl:¬left<F.D.size:=by simpa using Q
  clear Q;go_enter func28,ntmps28
  go_wp2_with fail
  refine HS.out.mono ?_;rintro e w1 ⟨rfl,Dg⟩;have DT:=Dg.alloc Dg.size (AK #[k,hh] 105);have EC:Row (w1.alloc (AK #[k,hh] 105)) w1 105 [k,hh]:=heap_alloc_new _ _;have Vm:=Dg.size;clear Dg;go_wp2_with fail
  refine(Q8.out _).mono ?_;rintro e w3 ⟨rfl,ED⟩;have FT:=EC.below ED EC.lt;have Sj:=DT.trans (ED.mono DT.size);have IG:=AO FT;have Ei:=AO Sj;have Tm:=AO Vm;clear DT EC ED FT Sj Vm;go_wp2_with fail
  refine(PW.out _ Ei.out).mono ?_;rintro e I ⟨rfl,h4,gU⟩;have Jv:=gU _ _ _ IG.out (dP.out _ Tm.out);obtain⟨G',k1,Ya,Lk⟩:=h4;have Qr:¬G' w1:=λhg=>(Lk _ hg).elim (dP.out _ Tm.out) λh=>by have:=IG.out.lt;omega
  have k2:DJ G w I:=(DJ.DE Ei.out G).trans Ya λb hb=>.inl hb;have k3:∀k,G' k->G k\/w<=k:=λk hk=>(Lk k hk).imp id λh=>Ag Ei.out.size h;clear Ya Lk;have Fx:=(AS I I).alloc ar (AK #[(),()] 100);have Ju:=Jv.below Fx Jv.lt;have Ty:Row (I.alloc (AK #[(),()] 100)) I 100 [(),()]:=heap_alloc_new _ _;have O:=k1.below Fx;have Zs:=k2.size;go_wp2
  generalize I.alloc (AK #[(),()] 100)=J at*
  have Q1:=AO (ab.out J G' O);have Q2:=AO (Yl.out J G' O);have c0:J.cell? ⟨p.w,0,AD⟩=AE (AI (AE ⟨p.d,0,AD⟩)):=O.row.cell 0;have c1:J.cell? ⟨p.w,1,AD⟩=AE (AI (AE ⟨p.a,0,AD⟩)):=O.row.cell 1;have Du:Hid (∀q,DU w G p F n (J.drewN q)):=λq=>DU.ahead (DU.ahead ⟨G',k1,k2,k3⟩ Fx) (DA (AS _ _) q);clear k1 k2 k3 O Fx Ju Ty Jv gU Q8 PW HS ab Yl IG Ei;go_quiet ((with_reducible first|exact Q1.out _|exact Q2.out _))
  go_wp2
  go_ret2
  exact⟨rfl,Du.out _⟩
 ·have gl:left<F.D.size:=by simpa using Q
  clear Q;go_enter func28,ntmps28
  go_wp2_with fail
  refine HS.out.mono ?_;rintro e w1 ⟨rfl,Dg⟩;have DT:=Dg.alloc Dg.size (AK #[k,hh] 105);have EC:Row (w1.alloc (AK #[k,hh] 105)) w1 105 [k,hh]:=heap_alloc_new _ _;have Vm:=Dg.size;clear Dg;go_wp2_with fail
  refine(Q8.out _).mono ?_;rintro e w3 ⟨rfl,ED⟩;have FT:=EC.below ED EC.lt;have Sj:=DT.trans (ED.mono DT.size);have IG:=AO FT;have Ei:=AO Sj;have Tm:=AO Vm;clear DT EC ED FT Sj Vm;go_wp2_with fail
  refine(PW.out _ Ei.out).mono ?_;rintro e I ⟨rfl,h4,gU⟩;have Jv:=gU _ _ _ IG.out (dP.out _ Tm.out);obtain⟨G',k1,Ya,Lk⟩:=h4;have Qr:¬G' w1:=λhg=>(Lk _ hg).elim (dP.out _ Tm.out) λh=>by have:=IG.out.lt;omega
  have k2:DJ G w I:=(DJ.DE Ei.out G).trans Ya λb hb=>.inl hb;have k3:∀k,G' k->G k\/w<=k:=λk hk=>(Lk k hk).imp id λh=>Ag Ei.out.size h;clear Ya Lk;have Fx:=(AS I I).alloc ar (AK #[(),()] 100);have Ju:=Jv.below Fx Jv.lt;have Ty:Row (I.alloc (AK #[(),()] 100)) I 100 [(),()]:=heap_alloc_new _ _;have O:=k1.below Fx;have Zs:=k2.size;go_wp2
  generalize I.alloc (AK #[(),()] 100)=J at*
  have Q1:=AO (ab.out J G' O);have Q2:=AO (Yl.out J G' O);have c0:J.cell? ⟨p.w,0,AD⟩=AE (AI (AE ⟨p.d,0,AD⟩)):=O.row.cell 0;have c1:J.cell? ⟨p.w,1,AD⟩=AE (AI (AE ⟨p.a,0,AD⟩)):=O.row.cell 1;have Du:Hid (∀q,DU w G p F n (J.drewN q)):=λq=>DU.ahead (DU.ahead ⟨G',k1,k2,k3⟩ Fx) (DA (AS _ _) q);clear k1 k2 k3 O Fx Ju Ty Jv gU Q8 PW HS ab Yl IG Ei;go_quiet ((with_reducible first|exact Q1.out _|exact Q2.out _))
  go_wp2
  go_ret2
  exact⟨rfl,Du.out _⟩
theorem OR{w G p F n}(h:Sys w G p F n)(m:Nat)(hm:F.A.room-F.A.used<m):Calls AP 54 #[AI p.a,m] w λe w'=>e=AH (AM #[AI AD,AA AB 7])/\w'=w:=by
 obtain⟨O,J,_⟩:=h.arn;have I:=n9 p.a F.A O (m:Int) w J (.inr a5);rw[if_neg a5]at I;exact I
theorem UD{w G p F n}(h:Sys w G p F n)(m:Nat)(hm:m<=F.A.room-F.A.used)(h8:m<=256):Calls AP 54 #[AI (AE ⟨p.a,0,AD⟩),m] w λe w'=>∃b g,e=AH (AM #[AI (AE ⟨b,0,AD⟩),()])/\
  (∃G',Sys w' G' p {F with A:=FK F.A b m} n/\DJ G w w'/\(∀k,G' k->G k\/w<=k)/\¬G' b/\¬G' g)/\Row w' b 119 [AJ g m m]/\Row w' g 120 ((BC m 0).map vw)/\w<=b/\w<=g:=by
 obtain⟨Ga,Q,O,_⟩:=h.arn;refine(Uc p.a F.A Ga m w Q hm a5).mono ?_;rintro e w' ⟨b,g,J,he,h1,I,h3,h4,h5,U⟩;refine⟨b,g,he,O w' b g m ⟨J,h1,I,h3,h4,h5,U⟩,I,?_,h4,h5⟩;rw[List.map_replicate];exact h3
theorem Xy{w G p F n}(h:Sys w G p F n)(width bound:Int)(ha:Mg F width bound)(S1:Sp)(a:Nat)(Of:takeN F.S (Cu (Cw F.D.size width) bound.toNat)=(S1,a,Cu (Cw F.D.size width) bound.toNat,0))(ab:Dq S1 a (Cu (Cw F.D.size width) bound.toNat)=F.S)(aC:a<=2000000)(J:F.A.room-F.A.used<F.D.size):Calls AP 28 #[AI p.w,width,bound] w λe w'=>e=AH (AM #[AI AD,AA AB 7])/\DU w G p F n w':=by
 have al:=h.size;have JI:Cw F.D.size width<=254:=Ag (Ix _ _) a5;obtain⟨RH,gu,zy⟩:=ha;obtain⟨I,rfl⟩:∃I:Nat,bound=(I:Int):=⟨bound.toNat,a5⟩;rw[BY]at Of;obtain⟨k,rfl,Vn,jW,wX⟩:=Ks RH;have Ti:Cu (Cw F.D.size k) I<=100000000:=Ag (Dl _ _) a5;have HS:=AO (JW h k);have Q8:Hid (∀W,Calls AP 53 #[AL #[k,(Cw F.D.size k:Nat)],I] W λe w'=>e=AH (Cu (Cw F.D.size k) I:Nat)/\Below W W w'):=λW=>Jp k (Cw F.D.size k) I W a5 JI a5;have PW:Hid (∀W,Below w w W->Calls AP 52 #[AI p.w,(Cu (Cw F.D.size k) I:Nat)] W λe w'=>e=AH (AM #[AL #[a,(Cu (Cw F.D.size k) I:Nat)],()])/\DU W G p {F with S:=S1} n w'/\∀g t cs,Row W g t cs->¬G g->Row w' g t cs):=λW hb=>by
  have O:=Py (h.below hb) (Cu (Cw F.D.size k) I) Ti;rw[Of]at O;exact O.mono λe w' ⟨he,h2⟩=>⟨he,h2,λg t cs hr hg=>h2.row hr hg⟩
 have dP:Hid (∀k,w.heap.size<=k->¬G k):=λk hk hg=>by have:=h.lt hg;omega
 rw[BY]at ab;obtain⟨F1,Yi⟩:∃F1:Fs,F1={F with S:=S1}:=⟨_,rfl⟩;rw[<-Yi]at PW;have ad:Hid (∀W G',Sys W G' p F1 n->∀q,Calls AP 54 #[AI p.a,F.D.size] (W.drewN q) λe Eo=>e=AH (AM #[AI AD,AA AB 7])/\∃k,Eo=W.drewN k):=λW G' hs q=>Calls.quiet_of_same ((OR (hs.below (DA (AS _ _) q)) F.D.size (by rw[Yi];exact J)).mono λ_ _ h=>h);have Yl:Hid (∀W G',Sys W G' p F1 n->∀q,Calls AP 34 #[AI p.d] (W.drewN q) λe Eo=>e=AH F.D.size/\∃k,Eo=W.drewN k):=λW G' hs q=>by
  have O:=(hs.below (DA (AS _ _) q)).Hy;rw[Yi]at O;exact Calls.quiet_of_same (O.mono λ_ _ h=>h)
 have xz:Hid (∀W G',Sys W G' p F1 n->Calls AP 55 #[AI p.w,AL #[a,(Cu (Cw F.D.size k) I:Nat)]] W λe w'=>e=AH (AM #[])/\DU W G' p F n w'):=λW G' hs=>by
  have O:=Uj hs a (Cu (Cw F.D.size k) I) a5 Ti;rw[Yi]at O;simp only[ab]at O;exact O
 have g0:(((Cw F.D.size (k:Int):Nat):Int)==0)=false:=by simpa using RH
 have g1:decide ((I:Int)<0)=false:=a8;have g2:decide ((I:Int)>100000000)=false:=by simp;omega
 clear Yi Of h RH gu wX JI ab J;generalize Cu (Cw F.D.size k) I=nb at*
 generalize Cw F.D.size k=hh at*
 go_enter func28,ntmps28
 go_wp2_with fail
 refine HS.out.mono ?_;rintro e w1 ⟨rfl,Dg⟩;have DT:=Dg.alloc Dg.size (AK #[k,hh] 105);have EC:Row (w1.alloc (AK #[k,hh] 105)) w1 105 [k,hh]:=heap_alloc_new _ _;have Vm:=Dg.size;clear Dg;go_wp2_with fail
 refine(Q8.out _).mono ?_;rintro e w3 ⟨rfl,ED⟩;have FT:=EC.below ED EC.lt;have Sj:=DT.trans (ED.mono DT.size);have IG:=AO FT;have Ei:=AO Sj;have Tm:=AO Vm;clear DT EC ED FT Sj Vm;go_wp2_with fail
 refine(PW.out _ Ei.out).mono ?_;rintro e U ⟨rfl,h4,gU⟩;have Jv:=gU _ _ _ IG.out (dP.out _ Tm.out);obtain⟨G',k1,Ya,Lk⟩:=h4;have Qr:¬G' w1:=λhg=>(Lk _ hg).elim (dP.out _ Tm.out) λh=>by have:=IG.out.lt;omega
 have k2:DJ G w U:=(DJ.DE Ei.out G).trans Ya λb hb=>.inl hb;have k3:∀k,G' k->G k\/w<=k:=λk hk=>(Lk k hk).imp id λh=>Ag Ei.out.size h;clear Ya Lk;have Fx:=(AS U U).alloc ar (AK #[a,nb] 100);have Ju:=Jv.below Fx Jv.lt;have Ty:Row (U.alloc (AK #[a,nb] 100)) U 100 [a,nb]:=heap_alloc_new _ _;have k5:=k1.below Fx;have Zs:=k2.size;go_wp2
 generalize U.alloc (AK #[a,nb] 100)=Q at*
 have Q1:=AO (ad.out Q G' k5);have Q2:=AO (Yl.out Q G' k5);have c0:Q.cell? ⟨p.w,0,AD⟩=AE (AI (AE ⟨p.d,0,AD⟩)):=k5.row.cell 0;have c1:Q.cell? ⟨p.w,1,AD⟩=AE (AI (AE ⟨p.a,0,AD⟩)):=k5.row.cell 1;have e0:Q.cell? ⟨U.heap.size,0,AD⟩=AE (AA AB a):=Ty.cell 0;have e1:Q.cell? ⟨U.heap.size,1,AD⟩=AE (AA AB nb):=Ty.cell 1;have ae:Hid (∀q,Calls AP 55 #[AI p.w,AL #[a,nb]] (Q.drewN q) λe w'=>e=AH (AM #[])/\DU w G p F n w'):=λq=>by
  refine(xz.out _ G' (k5.below (DA (AS _ _) q))).mono ?_;rintro e w' ⟨he,h6⟩;refine⟨he,?_⟩;obtain⟨Ld,m1,m2,m3⟩:=h6;have Ya:DJ G w (Q.drewN q):=(k2.trans (DJ.DE Fx λ_=>False) λ_ hf=>hf.elim).drewN q;exact⟨Ld,m1,Ya.trans m2 k3,λk hk=>(m3 k hk).elim (λh=>k3 k h) λh=>.inr (Ag Ya.size h)⟩
 clear k1 k2 k3 k5 Fx Ju Ty Jv gU Q8 PW HS ad Yl IG Ei xz;go_quiet ((with_reducible first|exact Q1.out _|exact Q2.out _))
 clear Q1 Q2 c0 c1;go_wp2_with fail
 refine(ae.out _).mono ?_;rintro e w6 ⟨rfl,h6⟩;have H6:=AO h6;clear h6 ae;go_wp2
 go_ret2
 exact⟨rfl,H6.out⟩
def uy(w:World)(G:Nat->Prop)(p:Wp)(F:Fs)(n:Nat)(S1:Sp)(t:Wt)(x:Nat)(w':World):Prop:=
 w<=x/\w<=t.b/\w<=t.g/\∃G',Sys w' G' p {F with S:=S1,A:=FK F.A t.b F.D.size} n/\O4 w' x p t F.D.size/\YJ G' x t/\DJ G w w'/\∀k,G' k->G k\/w<=k
def V7(w:World)(G:Nat->Prop)(p:Wp)(F:Fs)(n:Nat)(S1:Sp)(a k h bn nb:Nat)(e:Ending)(w':World):Prop:=
 ∃x b g,e=AH (AM #[AI (AE ⟨x,0,AD⟩),()])/\uy w G p F n S1 ⟨k,h,bn,a,nb,b,g,[]⟩ x w'
theorem iD{w G p F n}(h:Sys w G p F n)(width bound:Int)(ha:Mg F width bound)(S1:Sp)(a:Nat)(Of:takeN F.S (Cu (Cw F.D.size width) bound.toNat)=(S1,a,Cu (Cw F.D.size width) bound.toNat,0))(U:F.D.size<=F.A.room-F.A.used):
  Calls AP 28 #[AI p.w,width,bound] w (V7 w G p F n S1 a width.toNat (Cw F.D.size width) bound.toNat (Cu (Cw F.D.size width) bound.toNat)):=by
 have aq:=h.size;have JI:Cw F.D.size width<=254:=Ag (Ix _ _) a5;obtain⟨RH,gu,zy⟩:=ha;obtain⟨I,rfl⟩:∃I:Nat,bound=(I:Int):=⟨bound.toNat,a5⟩;rw[BY]at Of;obtain⟨k,rfl,Vn,jW,wX⟩:=Ks RH;have Ti:Cu (Cw F.D.size k) I<=100000000:=Ag (Dl _ _) a5;have HS:=AO (JW h k);have Q8:Hid (∀W,Calls AP 53 #[AL #[k,(Cw F.D.size k:Nat)],I] W λe w'=>e=AH (Cu (Cw F.D.size k) I:Nat)/\Below W W w'):=λW=>Jp k (Cw F.D.size k) I W a5 JI a5;have PW:Hid (∀W,Below w w W->Calls AP 52 #[AI p.w,(Cu (Cw F.D.size k) I:Nat)] W λe w'=>e=AH (AM #[AL #[a,(Cu (Cw F.D.size k) I:Nat)],()])/\DU W G p {F with S:=S1} n w'/\∀g t cs,Row W g t cs->¬G g->Row w' g t cs):=λW hb=>by
  have h1:=Py (h.below hb) (Cu (Cw F.D.size k) I) Ti;rw[Of]at h1;exact h1.mono λe w' ⟨he,h2⟩=>⟨he,h2,λg t cs hr hg=>h2.row hr hg⟩
 have dP:Hid (∀k,w.heap.size<=k->¬G k):=λk hk hg=>by have:=h.lt hg;omega
 simp only[BY];obtain⟨F1,Yi⟩:∃F1:Fs,F1={F with S:=S1}:=⟨_,rfl⟩;rw[<-Yi]at PW;obtain⟨size,GO⟩:=ae F.D.size;have YS:Hid (∀W G',Sys W G' p F1 n->Calls AP 54 #[AI (AE ⟨p.a,0,AD⟩),AA AB size] W.drew λe w'=>∃b g,e=AH (AM #[AI (AE ⟨b,0,AD⟩),AA AB 0])/\
   (∃J,Sys w' J p {F with S:=S1,A:=FK F.A b F.D.size} n/\DJ G' W w'/\(∀k,J k->G' k\/W.heap.size<=k)/\¬J b/\¬J g)/\Row w' b 119 [AJ (AE ⟨g,0,AD⟩) size size]/\Row w' g 120 ((BC size 0).map vw)/\W.heap.size<=b/\W.heap.size<=g):=λW G' hs=>by
  refine(UD (hs.below (DC (AS _ _))) size (by rw[Yi,GO];exact U) a5).mono ?_;rintro e w' ⟨b,g,he,⟨J,h1,h2,h3,h4⟩,h5⟩;rw[Yi,GO]at h1;exact⟨b,g,he,⟨J,h1,⟨h2.os,h2.tape,h2.output,h2.size,h2.block⟩,h3,h4⟩,h5⟩
 have Yl:Hid (∀W G',Sys W G' p F1 n->Calls AP 34 #[AI p.d] W.drew λe Eo=>e=AH size/\Eo=W.drew):=λW G' hs=>by
  have h1:=(hs.below (DC (AS _ _))).Hy;rw[Yi]at h1;rw[GO];exact h1
 have pS:Hid (∀O w7 b g J,Sys O J p {F with S:=S1,A:=FK F.A b F.D.size} n->DJ G w O->(∀k,J k->G k\/w<=k)->¬J b->¬J g->Row O b 119 [AJ g size size]->Row O g 120 ((BC size 0).map vw)->w<=b->w<=g->
   w7=O.alloc (AK #[k,(Cw F.D.size k:Nat),AI p.w,I,(),a,(Cu (Cw F.D.size k) I:Nat),AI b] 115)->
   uy w G p F n S1 ⟨k,Cw F.D.size k,I,a,Cu (Cw F.D.size k) I,b,g,[]⟩ O.heap.size w7):=by
  intro O w7 b g J k1 Q k3 k4 k5 k6 k7 k8 k9 e7;subst e7;have hb:=(AS O O).alloc ar (AK #[k,(Cw F.D.size k:Nat),AI p.w,I,(),a,(Cu (Cw F.D.size k) I:Nat),AI b] 115);refine⟨Q.size,k8,k9,J,k1.below hb,⟨BC size 0,⟨heap_alloc_new _ _,by have al:=k6.below hb k6.lt;rw[GO]at al;exact al,k7.below hb k7.lt,by rw[<-GO];simp,?_⟩,nU _ _ _⟩,⟨λhg=>by have:=k1.lt hg;omega,k4,k5⟩,Q.trans (DJ.DE hb λ_=>False) λ_ hf=>hf.elim,k3⟩;intro y hy;rw[List.mem_replicate]at hy;omega
 have g0:(((Cw F.D.size (k:Int):Nat):Int)==0)=false:=by simpa using RH
 have g1:decide ((I:Int)<0)=false:=a8;have g2:decide ((I:Int)>100000000)=false:=by simp;omega
 have pP:Hid (∀w7 x b g,uy w G p F n S1 ⟨k,Cw F.D.size k,I,a,Cu (Cw F.D.size k) I,b,g,[]⟩ x w7->V7 w G p F n S1 a k (Cw F.D.size k) I (Cu (Cw F.D.size k) I) (AH (AM #[AI x,()])) w7):=λw7 x b g h1=>⟨x,b,g,rfl,h1⟩;clear Yi GO Of h RH gu wX JI U;generalize V7 w G p F n S1 a k (Cw F.D.size k) I (Cu (Cw F.D.size k) I)=Dh at*
 generalize Cu (Cw F.D.size k) I=nb at*
 generalize Cw F.D.size k=hh at*
 go_enter func28,ntmps28
 go_wp2_with fail
 refine HS.out.mono ?_;rintro e w1 ⟨rfl,Dg⟩;have DT:=Dg.alloc Dg.size (AK #[k,hh] 105);have EC:Row (w1.alloc (AK #[k,hh] 105)) w1 105 [k,hh]:=heap_alloc_new _ _;have Vm:=Dg.size;clear Dg;go_wp2_with fail
 refine(Q8.out _).mono ?_;rintro e w3 ⟨rfl,ED⟩;have FT:=EC.below ED EC.lt;have Sj:=DT.trans (ED.mono DT.size);have IG:=AO FT;have Ei:=AO Sj;have Tm:=AO Vm;clear DT EC ED FT Sj Vm;go_wp2_with fail
 refine(PW.out _ Ei.out).mono ?_;rintro e w4 ⟨rfl,h4,gU⟩;have Jv:=gU _ _ _ IG.out (dP.out _ Tm.out);obtain⟨G',k1,Ya,Lk⟩:=h4;have Qr:¬G' w1:=λhg=>(Lk _ hg).elim (dP.out _ Tm.out) λh=>by have:=IG.out.lt;omega
 have Q:DJ G w w4:=(DJ.DE Ei.out G).trans Ya λb hb=>.inl hb;have k3:∀k,G' k->G k\/w<=k:=λk hk=>(Lk k hk).imp id λh=>Ag Ei.out.size h;clear Ya Lk;have Fx:=(AS w4 w4).alloc ar (AK #[a,nb] 100);have Ju:=Jv.below Fx Jv.lt;have Ty:Row (w4.alloc (AK #[a,nb] 100)) w4 100 [a,nb]:=heap_alloc_new _ _;have k5:=k1.below Fx;have Zs:=Q.size;go_wp2
 have ao:=AO Ty;have J0:=AO Ju;have EV:=AO Fx;generalize w4.alloc (AK #[a,nb] 100)=w5 at*
 have Q1:=AO (YS.out w5 G' k5);have Q2:=AO (Yl.out w5 G' k5);have ab:Hid (DJ G w w5):=Q.trans (DJ.DE Fx λ_=>False) λ_ hf=>hf.elim;have ad:=AO k3;have c0:w5.drew.cell? ⟨p.w,0,AD⟩=AE (AI (AE ⟨p.d,0,AD⟩)):=k5.row.cell 0;have c1:w5.drew.cell? ⟨p.w,1,AD⟩=AE (AI (AE ⟨p.a,0,AD⟩)):=k5.row.cell 1;have GR:Hid (∀W J F2,Sys W J p F2 n->W.cell? p.w=AE (AI p.d)/\W.cell? (p.w,1)=AE (AI p.a)):=λW J F2 hs=>⟨hs.row.cell 0,hs.row.cell 1⟩;have qb:Hid (¬G' w4.heap.size):=λhg=>by have:=k1.lt hg;omega
 have an:=AO Qr;clear k1 Q k3 k5 Fx Ju Ty Jv gU Q8 PW HS YS Yl IG Ei Qr;go_region_held3 (λw'=>w'.cell? ⟨p.w,0,AD⟩=AE (AI (AE ⟨p.d,0,AD⟩))/\w'.cell? ⟨p.w,1,AD⟩=AE (AI (AE ⟨p.a,0,AD⟩))) (first|with_reducible exact⟨c0,c1⟩|with_reducible exact d1)
  (first
   |(go_at_call 34;(with_reducible refine Q2.out.mono ?_);rintro e w8 ⟨rfl,rfl⟩)
   |(go_at_call 54;(with_reducible refine Q1.out.mono ?_);rintro e O ⟨b,g,rfl,⟨G6,k1,Q,k3,k4,k5⟩,k6,k7,k8,k9⟩;have d1:=GR.out _ _ _ k1))
 have cE:=Q.row ao.out qb.out;have Zv:=Q.row J0.out an.out;obtain⟨e0,e1⟩:=cE.q2;obtain⟨e2,e3⟩:=Zv.q2;have HN:=AO (pS.out O _ b g G6 k1 (ab.out.trans Q ad.out) (λk hk=>(k3 k hk).elim (λh=>ad.out k h) λh=>.inr (Ag ab.out.size h)) k4 k5 k6 k7 (Ag ab.out.size k8) (Ag ab.out.size k9) rfl);clear k1 Q k3 k4 k5 k6 k7 k8 k9 cE Zv Q1 Q2 pS ao J0 EV ab ad GR qb an d1 c0 c1;go_wp2
 exact pP.out _ _ b g HN.out
def uv(w:World)(G:Nat->Prop)(p:Wp)(F:Fs)(n:Nat)(width bound:Int)(e:Ending)(w':World):Prop:=
 (∃er,e=AH (AM #[AI AD,AA AB er])/\AL2 F width bound er/\DU w G p F n w')\/
 (∃x t S',e=AH (AM #[AI (AE ⟨x,0,AD⟩),AA AB 0])/\Mg F width bound/\F.D.size<=F.A.room-F.A.used/\(t.k:Int)=width/\(t.bound:Int)=bound/\t.h=Cw F.D.size width/\t.l=[]/\t.blocks=Cu t.h t.bound/\YK F.S S' t.first t.blocks/\Ew t F.D.size/\uy w G p F n S' t x w')
theorem aG{w G p F n}(h:Sys w G p F n)(width bound:Int):Calls AP 28 #[AI p.w,width,bound] w (uv w G p F n width bound):=by
 by_cases I:Mg F width bound
 ·obtain⟨RH,gu,zy⟩:=id I;obtain⟨k,hk,Vn,jW,U⟩:=Ks RH;have Q:=h.size;have ab:=h.eZ;have JI:Cw F.D.size width<=254:=Ag (Ix _ _) a5;rcases ZA h.eZ (Cu (Cw F.D.size width) bound.toNat)with⟨S1,a,e,ht,hg,aC⟩|⟨e,hm,hno⟩
  ·by_cases J:F.D.size<=F.A.room-F.A.used
   ·refine(iD h width bound I S1 a e J).mono ?_;rintro e w' ⟨x,b,g,he,hN⟩;refine .inr ⟨x,⟨width.toNat,Cw F.D.size width,bound.toNat,a,Cu (Cw F.D.size width) bound.toNat,b,g,[]⟩,S1,he,I,J,?_,?_,rfl,rfl,rfl,ht,⟨⟨?_,?_⟩,⟨by show 0<Cw F.D.size width;omega,?_,JI⟩,Q,⟨?_,Ao _⟩,⟨rfl,by show Cu (Cw F.D.size width) bound.toNat<=2000000;omega⟩,by show a<=2000000;omega⟩,hN⟩
    ·show ((width.toNat:Nat):Int)=width;omega
    ·show ((bound.toNat:Nat):Int)=bound;omega
    ·show 0<width.toNat;omega
    ·show width.toNat<=5;omega
    ·show Cw F.D.size width*width.toNat<=F.D.size-2;rw[hk]at U⊢;rw[BY];exact U
    ·show bound.toNat<=100000000;omega
   ·exact(Xy h width bound I S1 a e hg a5 a5).mono λe w' ⟨he,O⟩=>.inl ⟨7,he,.inr (.inl ⟨rfl,I,a5⟩),O⟩
  ·refine(Xz h width bound I e (decide (F.A.room-F.A.used<F.D.size)) rfl).mono ?_;rintro e w' ⟨he,O⟩;by_cases J:F.A.room-F.A.used<F.D.size
   ·rw[decide_eq_true J,if_pos rfl]at he;exact .inl ⟨7,he,.inr (.inl ⟨rfl,I,J⟩),O⟩
   ·rw[decide_eq_false J,if_neg a6]at he;exact .inl ⟨5,he,.inr (.inr ⟨rfl,I,a5,hm,hno⟩),O⟩
 ·exact(aF h width bound I).mono λe w' ⟨he,hb⟩=>.inl ⟨1,he,.inl ⟨rfl,I⟩,DU.DE h hb⟩
structure Rt where
 k:Nat
 h:Nat
 first:Nat
 blocks:Nat
 count:Nat
 pos:Nat
 b:Nat
 g:Nat
def YZ(p:Wp)(r:Rt):List Value:=[r.k,r.h,AI p.w,r.first,r.blocks,r.k,r.count,r.pos,AI r.b]
structure JG (r:Rt) (sz:Nat):Prop where
 k:0<r.k/\r.k<=5
 h:0<r.h/\r.h*r.k<=sz-2/\r.h<=254
 sz:8<=sz/\sz<=256
 count:r.count<=100000000/\r.pos<=r.count
 first:r.first<=2000000
structure G3 (w:World) (x:Nat) (p:Wp) (r:Rt) (sz:Nat) (ws:List Nat):Prop where
 row:Row w x 134 (YZ p r)
 buf:Row w r.b 119 [AJ r.g sz sz]
 words:Row w r.g 120 (ws.map vw)
 len:ws.length=sz
 u64:NO ws
structure OA (G:Nat->Prop) (x:Nat) (r:Rt):Prop where
 x:¬G x
 b:¬G r.b
 g:¬G r.g
def Uy(w:World)(x:Nat)(p:Wp)(r:Rt):Prop:=Row w x 134 (YZ p r)/\Row w r.b 119 [AJ AD 0 0]
section
variable{w w':World}{x:Nat}{p:Wp}{r:Rt}{sz:Nat}{ws:List Nat}
theorem G3.E4{R}(h:G3 w x p r sz ws)(hf:DJ R w w')(I:¬R x)(e:¬R r.b)(h3:¬R r.g):G3 w' x p r sz ws:=⟨hf.row h.row I,hf.row h.buf e,hf.row h.words h3,h.len,h.u64⟩
theorem G3.below(h:G3 w x p r sz ws)(hb:Below w w w'):G3 w' x p r sz ws:=h.E4 (DJ.DE hb λ_=>False) (λh=>h) (λh=>h) (λh=>h)
theorem G3.lt(h:G3 w x p r sz ws):x<w/\r.b<w/\r.g<w:=⟨h.row.lt,h.buf.lt,h.words.lt⟩
theorem G3.apart(h:G3 w x p r sz ws):x≠r.b/\x≠r.g/\r.b≠r.g:=
 ⟨λe=>absurd (h.row.typed (e▸h.buf)) a6,λe=>absurd (h.row.typed (e▸h.words)) a6,λe=>absurd (h.buf.typed (e▸h.words)) a6⟩
end
section
variable{w:World}{x:Nat}{p:Wp}{r:Rt}
theorem Fp{A m c}(I:Row w x 134 (YZ p r))(hb:Row w r.b 119 [AJ A m c]):Calls AP 69 #[AI x] w λe w'=>e=AH (.bool (!decide (0<m)))/\w'=w:=by
 have O:w.cell? (x,8)=AE (AI r.b):=I.cell 8;have J:=AO (Wn hb);clear hb I;go_enter func69,ntmps69
 go_wp2_with fail
 refine J.out.mono ?_;rintro e w1 ⟨rfl,rfl⟩;go_wp2
 go_ret
 exact⟨IK a8,rfl⟩
end
def YM(w:World)(G:Nat->Prop)(x:Nat)(p:Wp)(F:Fs)(n:Nat)(r:Rt)(w':World):Prop:=
 ∃G',Sys w' G' p {F with A:=release F.A r.b F.D.size} n/\Uy w' x p r/\DJ (λk=>G k\/k=r.b) w w'/\∀k,G' k->G k\/w<=k
theorem R5{w G p F n x r ws}(h:Sys w G p F n)(hm:G3 w x p r F.D.size ws)(ho:OA G x r)(J:wordsAt F.A.st r.b=AE F.D.size):
  Calls AP 47 #[AI x] w λe w'=>(e=AH (AM #[])/\YM w G x p F n r w'):=by
 have U:=h.size;have hc:=Fp hm.row hm.buf;rw[decide_eq_true (show 0<F.D.size by omega)]at hc;have HC:=AO hc;have Qy:=DC (AS w w);obtain⟨Od,Yb,WS⟩:=hm.apart;have ab:Hid (Calls AP 70 #[AI p.a,AI r.b] w.drew λe w'=>e=AH true/\YM w G x p F n r w'):=by
  refine(L6 (h.below Qy) J).mono ?_;rintro e w' ⟨he,O⟩;obtain⟨G',Q,I,k3,k4⟩:=O.behind Qy;refine⟨he,G',Q,⟨I.row hm.row ?_,k4⟩,I,k3⟩;rintro(h5|h5)
  ·exact ho.x h5
  ·exact Od h5
 have c2:w.drew.cell? ⟨x,2,AD⟩=AE (AI (AE ⟨p.w,0,AD⟩)):=hm.row.cell 2;have c8:w.drew.cell? ⟨x,8,AD⟩=AE (AI (AE ⟨r.b,0,AD⟩)):=hm.row.cell 8;have cp:w.drew.cell? (p.w,1)=AE (AI p.a):=h.row.cell 1;have TY:Hid (∀w',YM w G x p F n r w'->w'.cell? (x,2)=AE (AI p.w)/\w'.cell? (x,8)=AE (AI r.b)/\w'.cell? (p.w,1)=AE (AI p.a)):=λw' ⟨G',Q,I,_⟩=>⟨I.1.cell 2,I.1.cell 8,Q.row.cell 1⟩;generalize YM w G x p F n r=Dh at*
 generalize r.b=b at*
 clear hc h hm ho J U Qy Od Yb WS;go_enter func47,ntmps47
 go_wp2_with fail
 refine HC.out.mono ?_;rintro e w1 ⟨rfl,rfl⟩;go_wp2
 go_region_held3 (λw'=>w'.cell? (x,2)=AE (AI p.w)/\w'.cell? (x,8)=AE (AI b)/\w'.cell? (p.w,1)=AE (AI p.a)) (first|with_reducible exact⟨c2,c8,cp⟩|with_reducible exact q2)
  (first
   |(go_at_call 70;(with_reducible refine ab.out.mono ?_);rintro e w2 ⟨rfl,O⟩;have q2:=TY.out w2 O))
 have H2:=AO O;clear O q2;go_wp2
 go_end0
 exact⟨rfl,H2.out⟩
theorem Qo{w p x r}(I:Uy w x p r):
  Calls AP 47 #[AI x] w λe w'=>(e=AH (AM #[])/\w'=w):=by
 have J:=Fp I.1 I.2;rw[decide_eq_false (Nat.lt_irrefl 0)]at J;have O:=AO J;clear J I;go_enter func47,ntmps47
 go_wp2_with fail
 refine O.out.mono ?_;rintro e w1 ⟨rfl,rfl⟩;go_wp2
 go_end0
 exact⟨rfl,rfl⟩
theorem ZW(u:Bf){w}{G}{p}{F}{n x}{r}{ws}(h:Sys w G p F n)(hm:G3 w x p r F.D.size ws)(ho:OA G x r)(J:wordsAt F.A.st r.b=AE F.D.size):
  CallsD AP 47 #[AI x] u w λe u' w'=>u'=u/\(e=AH (AM #[])/\YM w G x p F n r w'):=by
 have U:=h.size;have hc:=Fp hm.row hm.buf;rw[decide_eq_true (show 0<F.D.size by omega)]at hc;have HC:=AO hc;have Qy:=DC (AS w w);obtain⟨Od,Yb,WS⟩:=hm.apart;have ab:Hid (Calls AP 70 #[AI p.a,AI r.b] w.drew λe w'=>e=AH true/\YM w G x p F n r w'):=by
  refine(L6 (h.below Qy) J).mono ?_;rintro e w' ⟨he,O⟩;obtain⟨G',Q,I,k3,k4⟩:=O.behind Qy;refine⟨he,G',Q,⟨I.row hm.row ?_,k4⟩,I,k3⟩;rintro(h5|h5)
  ·exact ho.x h5
  ·exact Od h5
 have c2:w.drew.cell? ⟨x,2,AD⟩=AE (AI (AE ⟨p.w,0,AD⟩)):=hm.row.cell 2;have c8:w.drew.cell? ⟨x,8,AD⟩=AE (AI (AE ⟨r.b,0,AD⟩)):=hm.row.cell 8;have cp:w.drew.cell? (p.w,1)=AE (AI p.a):=h.row.cell 1;have TY:Hid (∀w',YM w G x p F n r w'->w'.cell? (x,2)=AE (AI p.w)/\w'.cell? (x,8)=AE (AI r.b)/\w'.cell? (p.w,1)=AE (AI p.a)):=λw' ⟨G',Q,I,_⟩=>⟨I.1.cell 2,I.1.cell 8,Q.row.cell 1⟩;generalize YM w G x p F n r=Dh at*
 generalize r.b=b at*
 clear hc h hm ho J U Qy Od Yb WS;go_enter_d func47,ntmps47
 go_wp2_with fail
 refine HC.out.mono ?_;rintro e w1 ⟨rfl,rfl⟩;go_wp2
 go_region_held3 (λw'=>w'.cell? (x,2)=AE (AI p.w)/\w'.cell? (x,8)=AE (AI b)/\w'.cell? (p.w,1)=AE (AI p.a)) (first|with_reducible exact⟨c2,c8,cp⟩|with_reducible exact q2)
  (first
   |(go_at_call 70;(with_reducible refine ab.out.mono ?_);rintro e w2 ⟨rfl,O⟩;have q2:=TY.out w2 O))
 have H2:=AO O;clear O q2;go_wp2
 go_end0
 exact⟨rfl,H2.out⟩
theorem Lg(u:Bf){w}{p}{x}{r}(I:Uy w x p r):
  CallsD AP 47 #[AI x] u w λe O w'=>O=u/\(e=AH (AM #[])/\w'=w):=by
 have J:=Fp I.1 I.2;rw[decide_eq_false (Nat.lt_irrefl 0)]at J;have Q:=AO J;clear J I;go_enter_d func47,ntmps47
 go_wp2_with fail
 refine Q.out.mono ?_;rintro e w1 ⟨rfl,rfl⟩;go_wp2
 go_end0
 exact⟨rfl,rfl⟩
theorem So{w G p F n}(h:Sys w G p F n)(k hh first nb count:Nat)(Lu:hh=Cw F.D.size k)(Gt:0<hh)(hnb:nb=Cu hh count)(JC:count<=100000000)(I:F.A.room-F.A.used<F.D.size):Calls AP 46 #[AI p.w,AL #[first,nb,k,count]] w λe w'=>e=AH (AM #[AI AD,AA AB 7])/\Below w w w':=by
 have ad:=h.size;have JI:hh<=254:=by rw[Lu];exact Ag (Ix _ _) a5
 have J:=(AS w w).alloc ar (AK #[first,nb,k,count] 28);have Ec:Row (w.alloc (AK #[first,nb,k,count] 28)) w 28 [first,nb,k,count]:=heap_alloc_new _ _;have Zu:=JW (h.below J) k;rw[<-Lu]at Zu;have HS:=AO Zu;have Q8:Hid (∀W,Calls AP 53 #[AL #[k,hh],count] W λe w'=>e=AH nb/\Below W W w'):=λW=>by
  rw[hnb];exact Jp k hh count W Gt JI JC
 have YO:Hid (∀W,Below w w W->Sys W G p F n):=λW hb=>h.below hb;have OC:=AO J;have NP:=AO Ec;obtain⟨size,GO⟩:=ae F.D.size;have g0:((hh:Int)==0)=false:=by simp;omega
 have g1:decide ((count:Int)<0)=false:=a8;have ab:Hid (∀W,Sys W G p F n->∀q,Calls AP 54 #[AI p.a,size] (W.drewN q) λe Eo=>e=AH (AM #[AI AD,AA AB 7])/\∃k,Eo=W.drewN k):=λW hs q=>by
  rw[GO];exact Calls.quiet_of_same ((OR (hs.below (DA (AS _ _) q)) F.D.size I).mono λ_ _ h=>h)
 have Yl:Hid (∀W,Sys W G p F n->∀q,Calls AP 34 #[AI p.d] (W.drewN q) λe Eo=>e=AH size/\∃k,Eo=W.drewN k):=λW hs q=>by
  rw[GO];exact Calls.quiet_of_same ((hs.below (DA (AS _ _) q)).Hy.mono λ_ _ h=>h)
 clear GO I h Zu J Ec Lu hnb ad;go_enter func46,ntmps46
 go_wp2_with fail
 refine HS.out.mono ?_;rintro e w1 ⟨rfl,Dg⟩;have DT:=Dg.alloc Dg.size (AK #[k,hh] 105);have wH:Row (w1.alloc (AK #[k,hh] 105)) w1 105 [k,hh]:=heap_alloc_new _ _;have Po:=NP.out.below DT NP.out.lt;have Fg:=AO (OC.out.trans (DT.mono OC.out.size));have Tm:Hid (w.heap.size<=w1.heap.size):=Ag OC.out.size Dg.size;clear Dg DT OC NP HS;have U:=AO wH;have JJ:=AO Po;clear wH Po;have k0:∀d os,(An (redrawn (w1.alloc (AK #[k,hh] 105)) d) os).cell? w1=AE (AA AB k):=Ac (U.out.cell 0);have k1:∀d os,(An (redrawn (w1.alloc (AK #[k,hh] 105)) d) os).cell? (w1,1)=AE (AA AB hh):=Ac (U.out.cell 1);have k2:∀d os,(An (redrawn (w1.alloc (AK #[k,hh] 105)) d) os).cell? (w,1)=AE (AA AB nb):=Ac (JJ.out.cell 1);have k3:∀d os,(An (redrawn (w1.alloc (AK #[k,hh] 105)) d) os).cell? (w,3)=AE (AA AB count):=Ac (JJ.out.cell 3);have Q1:Hid (∀d os,Calls AP 53 #[AL #[k,hh],count] (An (redrawn (w1.alloc (AK #[k,hh] 105)) d) os) λe Eo=>e=AH nb/\∃p:Regrown,Eo=An (redrawn (w1.alloc (AK #[k,hh] 105)) p.d) p.os):=λd os=>Ba (Q8.out _);go_wp2
 refine By a7 a7 ?_
 repeat(any_goals(first|go_big_quiet_step (with_reducible exact Q1.out _ _)|quiet_step (with_reducible exact Q1.out _ _)))
 refine wpQuiet_nil ?_;intro O Jr;obtain⟨⟨dq,osq⟩,Jr⟩:=Jr;have Fj:=B0 (w1.alloc (AK #[k,hh] 105)) dq osq;rw[<-Jr]at Fj;clear Jr;have EV:=AO (Fg.out.trans (Fj.mono Fg.out.size));have an:=AO (U.out.below Fj U.out.lt);have al:=AO (JJ.out.below Fj JJ.out.lt);have Q:=YO.out O EV.out;clear Fj Q1 k0 k1 k2 k3 U JJ Fg Q8;have Q1:=AO (ab.out O Q);have Q2:=AO (Yl.out O Q);have c0:O.cell? ⟨p.w,0,AD⟩=AE (AI (AE ⟨p.d,0,AD⟩)):=Q.row.cell 0;have c1:O.cell? ⟨p.w,1,AD⟩=AE (AI (AE ⟨p.a,0,AD⟩)):=Q.row.cell 1;clear Q ab Yl YO;go_wp2
 go_quiet ((with_reducible first|exact Q1.out _|exact Q2.out _))
 go_wp2
 go_ret2
 exact⟨rfl,DA EV.out _⟩
def AB3(w:World)(G:Nat->Prop)(p:Wp)(F:Fs)(n:Nat)(r:Rt)(x:Nat)(w':World):Prop:=
 w<=x/\w<=r.b/\w<=r.g/\∃G',Sys w' G' p {F with A:=FK F.A r.b F.D.size} n/\(∃ws,G3 w' x p r F.D.size ws)/\OA G' x r/\DJ G w w'/\∀k,G' k->G k\/w<=k
def ai(w:World)(G:Nat->Prop)(p:Wp)(F:Fs)(n:Nat)(k h first nb count:Nat)(e:Ending)(w':World):Prop:=
 ∃x b g,e=AH (AM #[AI (AE ⟨x,0,AD⟩),()])/\AB3 w G p F n ⟨k,h,first,nb,count,0,b,g⟩ x w'
theorem oD{w G p F n}(h:Sys w G p F n)(k hh first nb count:Nat)(Lu:hh=Cw F.D.size k)(Gt:0<hh)(hnb:nb=Cu hh count)(JC:count<=100000000)(O:F.D.size<=F.A.room-F.A.used):Calls AP 46 #[AI p.w,AL #[first,nb,k,count]] w (ai w G p F n k hh first nb count):=by
 have ao:=h.size;have JI:hh<=254:=by rw[Lu];exact Ag (Ix _ _) a5
 have ab:=(AS w w).alloc ar (AK #[first,nb,k,count] 28);have Ec:Row (w.alloc (AK #[first,nb,k,count] 28)) w 28 [first,nb,k,count]:=heap_alloc_new _ _;have Zu:=JW (h.below ab) k;rw[<-Lu]at Zu;have HS:=AO Zu;have Q8:Hid (∀W,Calls AP 53 #[AL #[k,hh],count] W λe w'=>e=AH nb/\Below W W w'):=λW=>by
  rw[hnb];exact Jp k hh count W Gt JI JC
 have YO:Hid (∀W,Below w w W->Sys W G p F n):=λW hb=>h.below hb;have OC:=AO ab;have NP:=AO Ec;obtain⟨size,GO⟩:=ae F.D.size;have g0:((hh:Int)==0)=false:=by simp;omega
 have g1:decide ((count:Int)<0)=false:=a8;have YS:Hid (∀W,Sys W G p F n->Calls AP 54 #[AI (AE ⟨p.a,0,AD⟩),AA AB size] W.drew λe w'=>∃b g,e=AH (AM #[AI (AE ⟨b,0,AD⟩),AA AB 0])/\
   (∃I,Sys w' I p {F with A:=FK F.A b F.D.size} n/\DJ G W w'/\(∀k,I k->G k\/W.heap.size<=k)/\¬I b/\¬I g)/\Row w' b 119 [AJ (AE ⟨g,0,AD⟩) size size]/\Row w' g 120 ((BC size 0).map vw)/\W.heap.size<=b/\W.heap.size<=g):=λW hs=>by
  refine(UD (hs.below (DC (AS _ _))) size (by rw[GO];exact O) a5).mono ?_;rintro e w' ⟨b,g,he,⟨I,h1,h2,h3,h4⟩,h5⟩;rw[GO]at h1;exact⟨b,g,he,⟨I,h1,⟨h2.os,h2.tape,h2.output,h2.size,h2.block⟩,h3,h4⟩,h5⟩
 have Yl:Hid (∀W,Sys W G p F n->Calls AP 34 #[AI p.d] W.drew λe Eo=>e=AH size/\Eo=W.drew):=λW hs=>by
  rw[GO];exact(hs.below (DC (AS _ _))).Hy
 have dP:Hid (∀k,w.heap.size<=k->¬G k):=λk hk hg=>by have:=h.lt hg;omega
 have pS:Hid (∀J w7 b g I,Sys J I p {F with A:=FK F.A b F.D.size} n->DJ G w J->(∀k,I k->G k\/w<=k)->¬I b->¬I g->Row J b 119 [AJ g size size]->Row J g 120 ((BC size 0).map vw)->w<=b->w<=g->
   w7=J.alloc (AK #[k,hh,AI p.w,first,nb,k,count,(),AI b] 134)->
   AB3 w G p F n ⟨k,hh,first,nb,count,0,b,g⟩ J.heap.size w7):=by
  intro J w7 b g I k1 U k3 k4 Q k6 k7 k8 k9 e7;subst e7;have hb:=(AS J J).alloc ar (AK #[k,hh,AI p.w,first,nb,k,count,(),AI b] 134);have ad:=k6.below hb k6.lt;rw[GO]at ad;refine⟨U.size,k8,k9,I,k1.below hb,⟨BC size 0,⟨heap_alloc_new _ _,ad,k7.below hb k7.lt,by rw[<-GO];simp,?_⟩⟩,⟨λhg=>by have:=k1.lt hg;omega,k4,Q⟩,U.trans (DJ.DE hb λ_=>False) λ_ hf=>hf.elim,k3⟩;intro y hy;rw[List.mem_replicate]at hy;omega
 have pP:Hid (∀w7 x b g,AB3 w G p F n ⟨k,hh,first,nb,count,0,b,g⟩ x w7->ai w G p F n k hh first nb count (AH (AM #[AI x,()])) w7):=λw7 x b g h1=>⟨x,b,g,rfl,h1⟩;have GR:Hid (∀W I F2,Sys W I p F2 n->W.cell? p.w=AE (AI p.d)/\W.cell? (p.w,1)=AE (AI p.a)):=λW I F2 hs=>⟨hs.row.cell 0,hs.row.cell 1⟩;clear GO O h Zu ab Ec Lu hnb ao;generalize ai w G p F n k hh first nb count=Dh at*
 go_enter func46,ntmps46
 go_wp2_with fail
 refine HS.out.mono ?_;rintro e w1 ⟨rfl,Dg⟩;have DT:=Dg.alloc Dg.size (AK #[k,hh] 105);have wH:Row (w1.alloc (AK #[k,hh] 105)) w1 105 [k,hh]:=heap_alloc_new _ _;have Po:=NP.out.below DT NP.out.lt;have Fg:=AO (OC.out.trans (DT.mono OC.out.size));have Tm:Hid (w.heap.size<=w1.heap.size):=Ag OC.out.size Dg.size;clear Dg DT OC NP HS;have az:=AO wH;have JJ:=AO Po;clear wH Po;have k0:∀d os,(An (redrawn (w1.alloc (AK #[k,hh] 105)) d) os).cell? w1=AE (AA AB k):=Ac (az.out.cell 0);have k1:∀d os,(An (redrawn (w1.alloc (AK #[k,hh] 105)) d) os).cell? (w1,1)=AE (AA AB hh):=Ac (az.out.cell 1);have U:∀d os,(An (redrawn (w1.alloc (AK #[k,hh] 105)) d) os).cell? (w,1)=AE (AA AB nb):=Ac (JJ.out.cell 1);have k3:∀d os,(An (redrawn (w1.alloc (AK #[k,hh] 105)) d) os).cell? (w,3)=AE (AA AB count):=Ac (JJ.out.cell 3);have Q1:Hid (∀d os,Calls AP 53 #[AL #[k,hh],count] (An (redrawn (w1.alloc (AK #[k,hh] 105)) d) os) λe Eo=>e=AH nb/\∃p:Regrown,Eo=An (redrawn (w1.alloc (AK #[k,hh] 105)) p.d) p.os):=λd os=>Ba (Q8.out _);go_wp2
 refine By a7 a7 ?_
 repeat(any_goals(first|go_big_quiet_step (with_reducible exact Q1.out _ _)|quiet_step (with_reducible exact Q1.out _ _)))
 refine wpQuiet_nil ?_;intro w5 Jr;obtain⟨⟨dq,osq⟩,Jr⟩:=Jr;have Fj:=B0 (w1.alloc (AK #[k,hh] 105)) dq osq;rw[<-Jr]at Fj;clear Jr;have EV:=AO (Fg.out.trans (Fj.mono Fg.out.size));have an:=AO (az.out.below Fj az.out.lt);have al:=AO (JJ.out.below Fj JJ.out.lt);have Q:=YO.out w5 EV.out;clear Fj Q1 k0 k1 U k3 az JJ Fg Q8;have Q1:=AO (YS.out w5 Q);have Q2:=AO (Yl.out w5 Q);have c0:w5.drew.cell? ⟨p.w,0,AD⟩=AE (AI (AE ⟨p.d,0,AD⟩)):=Q.row.cell 0;have c1:w5.drew.cell? ⟨p.w,1,AD⟩=AE (AI (AE ⟨p.a,0,AD⟩)):=Q.row.cell 1;clear Q YS Yl YO;go_wp2
 go_region_held3 (λw'=>w'.cell? ⟨p.w,0,AD⟩=AE (AI (AE ⟨p.d,0,AD⟩))/\w'.cell? ⟨p.w,1,AD⟩=AE (AI (AE ⟨p.a,0,AD⟩))) (first|with_reducible exact⟨c0,c1⟩|with_reducible exact d1)
  (first
   |(go_at_call 34;(with_reducible refine Q2.out.mono ?_);rintro e w8 ⟨rfl,rfl⟩)
   |(go_at_call 54;(with_reducible refine Q1.out.mono ?_);rintro e J ⟨b,g,rfl,⟨G6,k1,U,k3,k4,Q⟩,k6,k7,k8,k9⟩;have d1:=GR.out _ _ _ k1))
 have cE:=U.row al.out (dP.out _ ar);have Zv:=U.row an.out (dP.out _ Tm.out);obtain⟨e0,e1,e2,e3⟩:=cE.q4;obtain⟨e4,e5⟩:=Zv.q2;have HN:=AO (pS.out J _ b g G6 k1 ((DJ.DE EV.out G).trans U λb hb=>.inl hb) (λk hk=>(k3 k hk).imp_right λh=>Ag EV.out.size h) k4 Q k6 k7 (Ag EV.out.size k8) (Ag EV.out.size k9) rfl);clear k1 U k3 k4 Q k6 k7 k8 k9 cE Zv Q1 Q2 pS EV al an GR d1 c0 c1 dP;go_wp2
 exact pP.out _ _ b g HN.out
theorem SF{s n}(h:Fits s n)(x:Int):(s.now x).length=s.size:=by
 unfold St.now blk
 split
 ·next l hl=>exact Vf (λl=>l.length=s.size) s.Ds s.fl h.fl (λe he=>(h.Ds e he).2) x l hl
 ·simp
theorem rS{b}(h:∀x∈b,x<18446744073709551616):Pa b<18446744073709551616:=by
 unfold Pa;rw[AT];rcases hx:b[b.length-2]?with _|x
 ·simp
 ·exact h x (Ae hx)
theorem Ws{α}(ws l:List α)(h:l.length<=ws.length):(splice ws 0 l).length=ws.length:=by unfold splice;simp;omega
theorem yU{w g t a b c d e}(h:Row w g t [a,b,c,d,e])(U Q O J I:Value):Row (((((w.setCell g U).setCell (g,1) Q).setCell (g,2) O).setCell (g,3) J).setCell (g,4) I) g t [U,Q,O,J,I]:=
 ((((h.set 0 U).set 1 Q).set 2 O).set 3 J).set 4 I
theorem oL(w:World)(g:Nat)(Q O J I e:Value):DJ (λk=>k=g) w (((((w.setCell g Q).setCell (g,1) O).setCell (g,2) J).setCell (g,3) I).setCell (g,4) e):=
 (((((DJ.refl (λk=>k=g) w).set (p:=⟨g,0,AD⟩) (.inl rfl) Q).set (p:=⟨g,1,AD⟩) (.inl rfl) O).set (p:=⟨g,2,AD⟩) (.inl rfl) J).set (p:=⟨g,3,AD⟩) (.inl rfl) I).set (p:=⟨g,4,AD⟩) (.inl rfl) e
theorem Wr{α β}(f:α->β)(ws l:List α)(off:Nat):splice (ws.map f) off (l.map f)=(splice ws off l).map f:=by unfold splice;simp[List.map_take,List.map_drop]
theorem Wq{ws l}(h:NO ws)(I:∀y∈l,y<18446744073709551616):NO (splice ws 0 l):=by
 intro y e;unfold splice at e;rcases Ah.1 e with e|e
 ·exact h y (Bw e)
 ·rcases Ah.1 e with e|e
  ·exact I y e
  ·exact h y (List.mem_of_mem_drop e)
theorem Wk{w G p F n}(h:Sys w G p F n)(hn:n<1000000)(i:Int)(hi:Gj i):
  Calls AP 96 #[AI p.d,i] w λe w'=>∃v,e=AH (AM #[v,AA AB (read F.D i).1])/\((read F.D i).1≠0->v=AJ AD 0 0)/\
   ((read F.D i).1=0->∃A c,v=AJ A F.D.size c/\F.D.size<=c/\Reads .u64 w' w' A F.D.size (F.D.now i))/\DU w G p {F with D:=(read F.D i).2} (n+1) w':=by
 obtain⟨Gd,hd,Ib⟩:=h.dev;have J:=SF hd.fits i;refine(lO p.d F.D n Gd i w hd hn hi).mono ?_;rintro e w' ⟨v,he,h1,h2,h3,h4⟩;refine⟨v,he,h1,λh0=>?_,Ib _ _ _ ⟨Gd,h3,h4.mono λk O=>by rw[O];exact hd.Qp,λk O=>.inl O⟩⟩;have Zs:=h2 h0;obtain⟨A,c,Q,_,U⟩:=Zs.reads;obtain⟨g',c',cs,I,_,_,e4,_⟩:=id Zs;rw[J]at Q U e4 I;rw[Q]at I;injection I with I _ e5
 exact⟨A,c,Q,a5,U⟩
def WK(w:World)(G:Nat->Prop)(p:Wp)(F:Fs)(n x:Nat)(r:Rt)(ws:List Nat)(w':World):Prop:=
 ∃G',Sys w' G' p F n/\G3 w' x p r F.D.size ws/\DJ (λk=>G k\/k=r.g) w w'/\∀k,G' k->G k\/w<=k
theorem DU.blk{w w' G p}{F F':Fs}{n' x r ws}(h:DU w G p F' n' w')(J:F'.D.size=F.D.size)(hm:G3 w x p r F.D.size ws)(e:OA G x r):WK w G p F' n' x r ws w':=by
 obtain⟨G',Q,I,h3⟩:=h;refine⟨G',Q,?_,I.mono λk O=>.inl O,h3⟩;rw[J];exact hm.E4 I e.x e.b e.g
theorem DU.cx{w w1 w' G p}{F F':Fs}{n' x r ws E9}(h:DU w G p F' n' w1)(hs:F'.D.size=F.D.size)(hm:G3 w x p r F.D.size ws)(I:OA G x r)
  (hf:DJ (λk=>k=r.g) w1 w')(hr:Row w' r.g 120 (E9.map vw))(hl:E9.length=F.D.size)(hu:NO E9):WK w G p F' n' x r E9 w':=by
 obtain⟨hx,hb,hg⟩:=hm.lt;obtain⟨a1,a2,a3⟩:=hm.apart;obtain⟨G',h1,U,h3,h4⟩:=h.apart;have Q:=hm.E4 U I.x I.b I.g;have J:¬G' r.g:=h4 _ hg I.g;refine⟨G',h1.E4 hf (λk O e=>J (e▸O)) λq hq e=>?_,?_,(U.mono λk O=>.inl O).trans hf (λb hb=>.inl (.inr hb)),h3⟩
 ·have:=(h1.buf hq).1;obtain⟨v,hv⟩:=this;exact absurd ((e▸hv:Row w1 r.g 119 _).typed Q.words) a6
 ·rw[hs];exact⟨hf.row Q.row a2,hf.row Q.buf a3,hr,hl,hu⟩
theorem lS{w G p F n x r ws}(h:Sys w G p F n)(hn:n<1000000)(O:JG r F.D.size)(hm:G3 w x p r F.D.size ws)(J:OA G x r)(Di:r.pos<r.count)
  (he:(read F.D ((r.first+r.pos/r.h:Nat):Int)).1≠0):
  Calls AP 71 #[AI x] w λe w'=>e=AH (AA AB (read F.D ((r.first+r.pos/r.h:Nat):Int)).1)/\WK w G p {F with D:=(read F.D ((r.first+r.pos/r.h:Nat):Int)).2} (n+1) x r ws w':=by
 obtain⟨hx,Js,Gu⟩:=hm.lt;have ab:=O.sz;have hk:=O.k;have hh:=O.h;have U:=O.count;have Pt:=O.first;have ae:=SF h.fits ((r.first+r.pos/r.h:Nat):Int);have ao:=Ag (Af r.k (Nat.min_le_left r.h (r.count-r.pos/r.h*r.h))) hh.2.1;have gE:(read F.D ((r.first+r.pos/r.h:Nat):Int)).2.size=F.D.size:=(Jh F.D ((r.first+r.pos/r.h:Nat):Int) 0).2.1;have xh:Hid (∀W,DU w G p {F with D:=(read F.D ((r.first+r.pos/r.h:Nat):Int)).2} (n+1) W->WK w G p {F with D:=(read F.D ((r.first+r.pos/r.h:Nat):Int)).2} (n+1) x r ws W):=λW I=>I.blk gE hm J;have dN:Hid (∀W1 W E9,DU w G p {F with D:=(read F.D ((r.first+r.pos/r.h:Nat):Int)).2} (n+1) W1->DJ (λk=>k=r.g) W1 W->Row W r.g 120 (E9.map vw)->E9.length=F.D.size->NO E9->WK w G p {F with D:=(read F.D ((r.first+r.pos/r.h:Nat):Int)).2} (n+1) x r E9 W):=λW1 W E9 I h2 h3 h4 h5=>I.cx gE hm J h2 h3 h4 h5;have al:r.pos/r.h<=r.pos:=BX _ _;have qM:r.pos/r.h*r.h<=r.count:=Ag (Cf _ _) a5;have HW:Hid (∀W,Calls AP 77 #[AL #[r.k,r.h],(r.pos/r.h:Nat),r.count] W λe w'=>e=AH (min r.h (r.count-r.pos/r.h*r.h)*r.k:Nat)/\Below W W w'):=λW=>RR r.k r.h (r.pos/r.h) r.count W hk.2 hh.2.2 U.1 qM;have zZ:Gj ((r.first+r.pos/r.h:Nat):Int):=by
  have hb:r.first+r.pos/r.h<=200000000:=a5;generalize r.first+r.pos/r.h=z at hb;exact Gj.of a5 a5
 have hq:Int.tdiv (r.pos:Int) (r.h:Int)=((r.pos/r.h:Nat):Int):=rfl;have zx:r.first+r.pos/r.h<=200000000:=by clear hq;omega
 have an:(r.first:Int)+((r.pos/r.h:Nat):Int)=((r.first+r.pos/r.h:Nat):Int):=by clear hq;omega
 have Lx:Hid (∀W,Below w w W->Calls AP 96 #[AI p.d,(r.first+r.pos/r.h:Nat)] W λe w'=>∃v,e=AH (AM #[v,AA AB (read F.D ((r.first+r.pos/r.h:Nat):Int)).1])/\((read F.D ((r.first+r.pos/r.h:Nat):Int)).1≠0->v=AJ AD 0 0)/\
   ((read F.D ((r.first+r.pos/r.h:Nat):Int)).1=0->∃A c,v=AJ A F.D.size c/\F.D.size<=c/\Reads .u64 w' w'.heap.size A F.D.size (F.D.now ((r.first+r.pos/r.h:Nat):Int)))/\DU w G p {F with D:=(read F.D ((r.first+r.pos/r.h:Nat):Int)).2} (n+1) w'):=λW hb=>
  (Wk (h.below hb) hn _ zZ).mono λe w' ⟨v,I,h2,h3,h4⟩=>⟨v,I,h2,h3,h4.behind hb⟩
 have vJ:Hid (∀W,DU w G p {F with D:=(read F.D ((r.first+r.pos/r.h:Nat):Int)).2} (n+1) W->Row W x 134 (YZ p r)/\Row W r.b 119 [AJ r.g F.D.size F.D.size]/\Row W r.g 120 (ws.map vw)):=λW I=>⟨I.row hm.row J.x,I.row hm.buf J.b,I.row hm.words J.g⟩;have vA:Hid (ws.length=F.D.size/\NO ws):=⟨hm.len,hm.u64⟩;have Q:=hm.row.below (DC (AS _ _)) hx;have r1:=(h.below (DC (AS _ _))).row;have c3:w.cell? (x,7)=AE (AA AB r.pos):=hm.row.cell 7;have c1:w.cell? (x,1)=AE (AA AB r.h):=hm.row.cell 1;have d2:w.drew.cell? (x,3)=AE (AA AB r.first):=Q.cell 3;have d5:w.drew.cell? (x,2)=AE (AI p.w):=Q.cell 2;have d6:w.drew.cell? p.w=AE (AI p.d):=r1.cell 0;have Gt:¬((r.h:Int)=0):=a5;have NQ:Hid (Below w w w.drew):=DC (AS _ _);clear Q r1 hm J O h gE hx Js Gu;generalize({F with D:=(read F.D ((r.first+r.pos/r.h:Nat):Int)).2}:Fs)=F1 at*
 generalize(read F.D ((r.first+r.pos/r.h:Nat):Int)).1=er at*
 generalize min r.h (r.count-r.pos/r.h*r.h)*r.k=m at*
 obtain⟨k,Hq,first,blocks,count,pos,b,g⟩:=r;unfold YZ at*
 simp only at*
 generalize pos/Hq=j at*
 generalize first+j=ad at*
 generalize F.D.now (ad:Int)=bl at*
 generalize F.D.size=size at*
 generalize WK w G p F1 (n+1) x ⟨k,Hq,first,blocks,count,pos,b,g⟩=Dh at*
 have g9:(er !=0)=true:=by simpa using he
 clear dN vJ vA HW;go_enter func71,ntmps71
 go_wp2
 go_region
 go_wp2_with fail
 refine(Lx.out _ NQ.out).mono ?_;rintro e w4 ⟨v,rfl,hv,_,h4⟩;have H4:=AO (xh.out w4 h4);clear h4 xh Lx hv;go_wp2
 go_ret
 exact⟨rfl,H4.out⟩
theorem fG{w G p F n x r ws}(h:Sys w G p F n)(hn:n<1000000)(DN:JG r F.D.size)(hm:G3 w x p r F.D.size ws)(U:OA G x r)(Di:r.pos<r.count)
  (he:(read F.D ((r.first+r.pos/r.h:Nat):Int)).1=0)(Vn:okW (F.D.now ((r.first+r.pos/r.h:Nat):Int)) (r.first+r.pos/r.h)=true)(ao:Pa (F.D.now ((r.first+r.pos/r.h:Nat):Int))=r.k)(au:GH (F.D.now ((r.first+r.pos/r.h:Nat):Int))-1=min r.h (r.count-r.pos/r.h*r.h)*r.k):
  Calls AP 71 #[AI x] w λe w'=>e=AH ()/\WK w G p {F with D:=(read F.D ((r.first+r.pos/r.h:Nat):Int)).2} (n+1) x r (splice ws 0 ((F.D.now ((r.first+r.pos/r.h:Nat):Int)).take (min r.h (r.count-r.pos/r.h*r.h)*r.k))) w':=by
 obtain⟨hx,Js,Gu⟩:=hm.lt;have ab:=DN.sz;have hk:=DN.k;have hh:=DN.h;have aw:=DN.count;have Pt:=DN.first;have az:=SF h.fits ((r.first+r.pos/r.h:Nat):Int);have aE:=Ag (Af r.k (Nat.min_le_left r.h (r.count-r.pos/r.h*r.h))) hh.2.1;have gE:(read F.D ((r.first+r.pos/r.h:Nat):Int)).2.size=F.D.size:=(Jh F.D ((r.first+r.pos/r.h:Nat):Int) 0).2.1;have xh:Hid (∀W,DU w G p {F with D:=(read F.D ((r.first+r.pos/r.h:Nat):Int)).2} (n+1) W->WK w G p {F with D:=(read F.D ((r.first+r.pos/r.h:Nat):Int)).2} (n+1) x r ws W):=λW I=>I.blk gE hm U;have dN:Hid (∀W1 W E9,DU w G p {F with D:=(read F.D ((r.first+r.pos/r.h:Nat):Int)).2} (n+1) W1->DJ (λk=>k=r.g) W1 W->Row W r.g 120 (E9.map vw)->E9.length=F.D.size->NO E9->WK w G p {F with D:=(read F.D ((r.first+r.pos/r.h:Nat):Int)).2} (n+1) x r E9 W):=λW1 W E9 I h2 h3 h4 h5=>I.cx gE hm U h2 h3 h4 h5;have aB:r.pos/r.h<=r.pos:=BX _ _;have qM:r.pos/r.h*r.h<=r.count:=Ag (Cf _ _) a5;have HW:Hid (∀W,Calls AP 77 #[AL #[r.k,r.h],(r.pos/r.h:Nat),r.count] W λe w'=>e=AH (min r.h (r.count-r.pos/r.h*r.h)*r.k:Nat)/\Below W W w'):=λW=>RR r.k r.h (r.pos/r.h) r.count W hk.2 hh.2.2 aw.1 qM;have zZ:Gj ((r.first+r.pos/r.h:Nat):Int):=by
  have hb:r.first+r.pos/r.h<=200000000:=a5;generalize r.first+r.pos/r.h=z at hb;exact Gj.of a5 a5
 have hq:Int.tdiv (r.pos:Int) (r.h:Int)=((r.pos/r.h:Nat):Int):=rfl;have zx:r.first+r.pos/r.h<=200000000:=by clear hq;omega
 have aC:(r.first:Int)+((r.pos/r.h:Nat):Int)=((r.first+r.pos/r.h:Nat):Int):=by clear hq;omega
 have Lx:Hid (∀W,Below w w W->Calls AP 96 #[AI p.d,(r.first+r.pos/r.h:Nat)] W λe w'=>∃v,e=AH (AM #[v,AA AB (read F.D ((r.first+r.pos/r.h:Nat):Int)).1])/\((read F.D ((r.first+r.pos/r.h:Nat):Int)).1≠0->v=AJ AD 0 0)/\
   ((read F.D ((r.first+r.pos/r.h:Nat):Int)).1=0->∃A c,v=AJ A F.D.size c/\F.D.size<=c/\Reads .u64 w' w'.heap.size A F.D.size (F.D.now ((r.first+r.pos/r.h:Nat):Int)))/\DU w G p {F with D:=(read F.D ((r.first+r.pos/r.h:Nat):Int)).2} (n+1) w'):=λW hb=>
  (Wk (h.below hb) hn _ zZ).mono λe w' ⟨v,I,h2,h3,h4⟩=>⟨v,I,h2,h3,h4.behind hb⟩
 have vJ:Hid (∀W,DU w G p {F with D:=(read F.D ((r.first+r.pos/r.h:Nat):Int)).2} (n+1) W->Row W x 134 (YZ p r)/\Row W r.b 119 [AJ r.g F.D.size F.D.size]/\Row W r.g 120 (ws.map vw)):=λW I=>⟨I.row hm.row U.x,I.row hm.buf U.b,I.row hm.words U.g⟩;have vA:Hid (ws.length=F.D.size/\NO ws):=⟨hm.len,hm.u64⟩;have r0:=hm.row.below (DC (AS _ _)) hx;have r1:=(h.below (DC (AS _ _))).row;have c3:w.cell? (x,7)=AE (AA AB r.pos):=hm.row.cell 7;have c1:w.cell? (x,1)=AE (AA AB r.h):=hm.row.cell 1;have d2:w.drew.cell? (x,3)=AE (AA AB r.first):=r0.cell 3;have d5:w.drew.cell? (x,2)=AE (AI p.w):=r0.cell 2;have d6:w.drew.cell? p.w=AE (AI p.d):=r1.cell 0;have Gt:¬((r.h:Int)=0):=a5;have NQ:Hid (Below w w w.drew):=DC (AS _ _);clear r0 r1 hm U DN h gE hx Js Gu;generalize({F with D:=(read F.D ((r.first+r.pos/r.h:Nat):Int)).2}:Fs)=F1 at*
 generalize(read F.D ((r.first+r.pos/r.h:Nat):Int)).1=er at*
 generalize min r.h (r.count-r.pos/r.h*r.h)*r.k=m at*
 obtain⟨k,Hq,first,blocks,count,pos,b,g⟩:=r;unfold YZ at*
 simp only at*
 generalize pos/Hq=j at*
 generalize first+j=ad at*
 generalize F.D.now (ad:Int)=bl at*
 generalize F.D.size=size at*
 generalize WK w G p F1 (n+1) x ⟨k,Hq,first,blocks,count,pos,b,g⟩=Dh at*
 subst he;have ay:IntKind.u64.wrap (k:Int)=(k:Int):=IntWalk.u64_in _ ⟨a5,a5⟩;go_enter func71,ntmps71
 go_wp2
 go_region
 go_wp2_with fail
 refine(Lx.out _ NQ.out).mono ?_;rintro e w4 ⟨v,rfl,_,hv,h4⟩;obtain⟨A,c,rfl,aq,nB⟩:=hv (by trivial);have J:∀y∈bl,y<18446744073709551616:=λy hy=>Ra (nB.2.1 y hy);have ae:=AO J;have WC:Hid (Pa bl<18446744073709551616):=rS J;have HG:=AO (uJ A size c ad bl w4 nB ar aq ab.1 ab.2 a5);have H4:=AO h4;obtain⟨n0,n1,n2⟩:=vJ.out w4 h4;have N0:=AO n0;have N1:=AO n1;have N2:=AO n2;have ax:Hid (∀W,Below w4 w4 W->Dh ws W):=λW hb=>xh.out W (h4.ahead hb);clear h4 xh Lx hv nB n0 n1 n2 vJ J;generalize Pa bl=tg at*
 go_wp2_with fail
 refine HG.out.mono ?_;rintro e Q (⟨Zy,_⟩|⟨_,v5,rfl,ER,hb⟩)
 ·exact absurd (Zy.symm.trans Vn) a6
 have aD:=WC.out;have EV:=AO hb;have M0:=AO (N0.out.below hb N0.out.lt);have M1:=AO (N1.out.below hb N1.out.lt);have M2:=AO (N2.out.below hb N2.out.lt);clear hb N0 N1 N2 HG;have k0:∀d os,(An (redrawn Q d) os).cell? x=AE (AA AB k):=Ac (M0.out.cell 0);have k1:∀d os,(An (redrawn Q d) os).cell? (x,1)=AE (AA AB Hq):=Ac (M0.out.cell 1);have k6:∀d os,(An (redrawn Q d) os).cell? (x,6)=AE (AA AB count):=Ac (M0.out.cell 6);have Q1:Hid (∀d os,Calls AP 77 #[AL #[k,Hq],j,count] (An (redrawn Q d) os) λe Eo=>e=AH m/\∃p:Regrown,Eo=An (redrawn Q p.d) p.os):=λd os=>Ba (HW.out _);obtain rfl:tg=k:=ao;have aA:((tg:Int) !=(tg:Int))=false:=a8;rw[au]at ER;have PW:Hid ((bl.take m).length=m):=by
  unfold Hid;rw[AZ];omega
 obtain⟨A5,c5,rfl,an,av⟩:=fL (k:=.u64) (l:=bl.take m) ER (λx hx=>PY (ae.out x (Bw hx)));have g9:((m:Int) !=(m:Int))=false:=a8;have al:=AO an;clear ER av an;go_wp2
 refine By a7 a7 ?_
 repeat(any_goals(first|go_big_quiet_step (with_reducible exact Q1.out _ _)|quiet_step (with_reducible exact Q1.out _ _)))
 refine wpQuiet_nil ?_;intro w6 qE;obtain⟨⟨dq,osq⟩,qE⟩:=qE;have O:=B0 Q dq osq;rw[<-qE]at O;clear qE Q1 k0 k1 k6;have J0:=AO ((al.out.GQ O));have O0:=AO (M0.out.below O M0.out.lt);have O1:=AO (M1.out.below O M1.out.lt);have O2:=AO (M2.out.below O M2.out.lt);have H6:=AO (H4.out.ahead (EV.out.trans (O.mono EV.out.size)));clear ax O EV M0 M1 M2 HW H4 al;have e8:w6.cell? (x,8)=AE (AI b):=O0.out.cell 8;have e0:w6.cell? b=AE (AJ g size size):=O1.out.cell 0;go_wp2_with (with_reducible refine EW 83 ?_)
 unfold Hid;refine Ed rfl _ _ 116 116 rfl 120 Be vg a6 g A5 size size m c5 rfl rfl g 0 _ 120 O2.out ((bl.take m).map vw) (by rw[Ai,PW.out,Cm];exact(Bi a5).symm) (λh0=>⟨rfl,J0.out.source (by have:=PW.out;rw[Ai]at h0;omega)⟩) (by rw[Ai,Ai,PW.out,vA.out.1];omega) (λv hv=>by obtain⟨x,_,rfl⟩:=Av.1 hv;rfl) ?_;intro w7 tV Yg;have vG:Hid (Row w7 g 120 ((splice ws 0 (bl.take m)).map vw)):=by
  have h:=tV.out;rw[Wr]at h;exact h
 have H7:=AO (dN.out w6 w7 _ H6.out Yg.out vG.out (by rw[Ws _ _ (by rw[PW.out,vA.out.1];omega)];exact vA.out.1) (Wq vA.out.2 λy hy=>ae.out y (Bw hy)));clear dN H6 tV Yg vG J0 O0 O1 O2;go_wp2
 go_ret
 exact⟨rfl,H7.out⟩
def KY(w:World)(G:Nat->Prop)(p:Wp)(F:Fs)(n x:Nat)(r:Rt)(ws:List Nat)(w':World):Prop:=
 ∃G',Sys w' G' p F n/\G3 w' x p r F.D.size ws/\DJ (λk=>G k\/k=r.g\/k=x) w w'/\∀k,G' k->G k\/w<=k
def GK(r:Rt)(ws:List Nat):Cy:=KA r.k ((ws.drop (r.pos%r.h*r.k)).take r.k)
def Qz(k:Nat)(l:List Nat)(i c:Nat):Value:=AA AB (if c<i/\c<k then Ab.wrap ((l.getD c 0:Nat):Int)else 0)
def Ev(k:Nat)(l:List Nat)(i:Nat):List Value:=[Qz k l i 0,Qz k l i 1,Qz k l i 2,Qz k l i 3,Qz k l i 4]
theorem N7(k:Nat)(l:List Nat):Ev k l 0=[AA AB 0,AA AB 0,AA AB 0,AA AB 0,AA AB 0]:=by simp[Ev,Qz]
theorem P8{k}(e:k<=5)(l:List Nat){i}(hi:i<k):(Ev k l i).set i (AA AB (Ab.wrap ((l.getD i 0:Nat):Int)))=Ev k l (i+1):=by
 match i,hi with
 |0,hi=>simp[Ev,Qz,hi]
 |1,hi=>simp[Ev,Qz,hi]
 |2,hi=>simp[Ev,Qz,hi]
 |3,hi=>simp[Ev,Qz,hi]
 |4,hi=>simp[Ev,Qz,hi]
 |i+5,hi=>omega
theorem P9{k}(e:k<=5)(l:List Nat):Ev k l k=[AA AB (KA k l).a,AA AB (KA k l).b,AA AB (KA k l).c,AA AB (KA k l).d,AA AB (KA k l).e]:=by
 simp[Ev,Qz,KA]
theorem Uf{w G p F n x r ws}(h:Sys w G p F n)(DN:JG r F.D.size)(hm:G3 w x p r F.D.size ws)(ho:OA G x r)(Di:r.pos<r.count)
  (IY:r.pos%r.h≠0):
  Calls AP 48 #[AI x] w λe w'=>e=AH (AM #[AL #[AA AB (GK r ws).a,AA AB (GK r ws).b,AA AB (GK r ws).c,AA AB (GK r ws).d,AA AB (GK r ws).e],true,()])/\KY w G p F n x {r with pos:=r.pos+1} ws w':=by
 obtain⟨hx,Js,Gu⟩:=hm.lt;obtain⟨a1,a2,a3⟩:=hm.apart;have aA:=DN.sz;have hk:=DN.k;have hh:=DN.h;have a9:=DN.count;have ab:=CM r.pos hh.1;have a0:r.pos%r.h*r.k+r.k<=F.D.size-2:=by
  have h1:(r.pos%r.h+1)*r.k<=r.h*r.k:=Af _ ab;rw[A7,BH]at h1;exact Ag h1 hh.2.1
 obtain⟨w0,JS⟩:=ae (w.alloc (AK #[(),(),(),(),()] 47));have J:Below w w w0:=by rw[JS];exact(AS w w).alloc ar _
 have Ec:Row w0 w 47 [(),(),(),(),()]:=by rw[JS];exact heap_alloc_new _ _
 have Q:=hm.below J;have Fl:=Fp Q.row Q.buf;rw[decide_eq_true (show 0<F.D.size by omega)]at Fl;have GR:Hid (Calls AP 69 #[AI x] (w.alloc (AK #[(),(),(),(),()] 47)) λe w'=>e=AH (.bool (!true))/\w'=w.alloc (AK #[(),(),(),(),()] 47)):=by rw[JS]at Fl;exact Fl
 have aS:=AO Ec;have QE:Hid (¬G w):=λU=>by have:=h.lt U;omega
 have Du:Hid (∀I W9,WK w0 G p F n x r ws I->DJ (λk=>k=x\/k=w) I W9->Row W9 x 134 (YZ p {r with pos:=r.pos+1})->KY w G p F n x {r with pos:=r.pos+1} ws W9):=by
  intro I W9 ⟨G4,k1,O,k3,k4⟩ hf hr;have aw:¬G4 x:=λU=>(k4 x U).elim ho.x λh=>by have:=J.size;omega
  have aE:¬G4 w:=λU=>(k4 _ U).elim QE.out λh=>by have:=Ec.lt;omega
  have nw:Row I w 47 [(),(),(),(),()]:=k3.row Ec (by
   rintro(U|U)
   ·exact QE.out U
   ·omega)
  refine⟨G4,k1.Wi hf ?_,⟨hr,hf.row O.buf ?_,hf.row O.words ?_,O.len,O.u64⟩,?_,λk hk=>(k4 k hk).imp_right λh=>Ag J.size h⟩
  ·rintro k (rfl|rfl)
   ·exact⟨aw,λv hv=>absurd (hv.typed O.row) a6⟩
   ·exact⟨aE,λv hv=>absurd (hv.typed nw) a6⟩
  ·rintro(e|e)
   ·exact a1 e.symm
   ·exact absurd e (Nat.ne_of_lt Js)
  ·rintro(e|e)
   ·exact a2 e.symm
   ·exact absurd e (Nat.ne_of_lt Gu)
  ·refine(((DJ.DE J _).trans k3 λb hb=>hb.elim (λh=>.inl (.inl h)) λh=>.inl (.inr (.inl h)))).trans hf ?_;rintro b (rfl|rfl)
   ·exact .inl (.inr (.inr rfl))
   ·exact .inr ar
 have H0:Hid (Row (w.alloc (AK #[(),(),(),(),()] 47)) x 134 (YZ p r)):=by rw[<-JS];exact Q.row
 have aB:Int.tmod (r.pos:Int) (r.h:Int)=((r.pos%r.h:Nat):Int):=rfl;have Gt:¬((r.h:Int)=0):=a5;have g3:((r.pos:Int)==(r.count:Int))=false:=by simp;omega
 have a8:(r.pos:Int)+1=((r.pos+1:Nat):Int):=a5;have c7:(w.alloc (AK #[(),(),(),(),()] 47)).cell? (x,7)=AE (AA AB r.pos):=H0.out.cell 7;obtain⟨-,-,-,-,-,-,c6,d7⟩:=H0.out.q8;have d1:(w.alloc (AK #[(),(),(),(),()] 47)).drew.cell? (x,1)=AE (AA AB r.h):=H0.out.cell 1;have OC:Hid (Below w w (w.alloc (AK #[(),(),(),(),()] 47)).drew.drew):=by rw[<-JS];exact DC (DC J)
 have g5:(((r.pos%r.h:Nat):Int)==0)=false:=by simp;omega
 have Tn:Hid (WK w0 G p F n x r ws (w.alloc (AK #[(),(),(),(),()] 47)).drew.drew):=(DU.DE (h.below J) (by rw[<-JS];exact DC (DC (AS _ _)))).blk rfl Q ⟨ho.x,ho.b,ho.g⟩;clear Fl h hm Q DN ho Ec J;go_enter func48,ntmps48
 go_wp2_with fail
 refine GR.out.mono ?_;rintro e w1 ⟨rfl,rfl⟩;go_wp2
 go_region
 go_wp2
 go_region
 generalize(w.alloc (AK #[(),(),(),(),()] 47)).drew.drew=I at*
 have YU:Hid (∀W9,DJ (λk=>k=x\/k=w) I W9->Row W9 x 134 (YZ p {r with pos:=r.pos+1})->KY w G p F n x {r with pos:=r.pos+1} ws W9):=λW9 h1 h2=>Du.out I W9 Tn.out h1 h2;obtain⟨G4,k1,O,k3,k4⟩:=Tn.out;have X4:=AO O.row;have Y4:=AO O.buf;have Z4:=AO O.words;have aR:Hid (ws.length=F.D.size/\NO ws):=⟨O.len.trans rfl,O.u64⟩;have R4:Hid (Row I w 47 [(),(),(),(),()]):=k3.row aS.out (by
  rintro(U|U)
  ·exact QE.out U
  ·omega)
 clear Tn k1 O k3 k4 Du QE G4;have av:Hid (∀W,Calls AP 59 #[AL #[r.k,r.h],AJ r.g F.D.size F.D.size,r.pos] W λe w'=>e=AH (AJ (AE ⟨r.g,r.pos%r.h*r.k,AD⟩) r.k (F.D.size-r.pos%r.h*r.k))/\Below W W w'):=λW=>VV r.k r.h r.pos r.g F.D.size W hk.1 hk.2 hh.1 hh.2.2 a5 a5 aA.2;have pq:Hid (Ev r.k ((ws.drop (r.pos%r.h*r.k)).take r.k) r.k=[AA AB (GK r ws).a,AA AB (GK r ws).b,AA AB (GK r ws).c,AA AB (GK r ws).d,AA AB (GK r ws).e]):=P9 hk.2 _;have Qe:Hid (Ev r.k ((ws.drop (r.pos%r.h*r.k)).take r.k) 0=[AA AB 0,AA AB 0,AA AB 0,AA AB 0,AA AB 0]):=N7 _ _;have pg:Hid (∀i j,j<5->∃v,(Ev r.k ((ws.drop (r.pos%r.h*r.k)).take r.k) i)[j]?=AE v):=λi j hj=>⟨_,AU (show j<(Ev r.k ((ws.drop (r.pos%r.h*r.k)).take r.k) i).length from hj)⟩;have aq:Hid (x≠w):=by unfold Hid;omega
 have TT:Hid (∀i,i<r.k->(Ev r.k ((ws.drop (r.pos%r.h*r.k)).take r.k) i).set i (AA AB (Ab.wrap (((ws.getD (r.pos%r.h*r.k+i) 0:Nat):Nat):Int)))=Ev r.k ((ws.drop (r.pos%r.h*r.k)).take r.k) (i+1)):=by
  intro i hi;rw[<-P8 hk.2 _ hi]
  congr 4
  rw[AT,AT,At,if_pos hi,Bc]
 generalize GP:KY w G p F n x {r with pos:=r.pos+1} ws=Dh at*
 replace GP:=AO GP;generalize hTU:GK r ws=TU at*
 replace hTU:=AO hTU;generalize Ev r.k ((ws.drop (r.pos%r.h*r.k)).take r.k)=CC at*
 clear ab JS GR H0 c7 c6 d7 d1 OC aB Gt g3;obtain⟨TA,TB,TC,TD,TE⟩:=TU;obtain⟨k,Hq,first,blocks,count,pos,b,g⟩:=r;unfold YZ at*
 simp only at*
 generalize pos%Hq*k=off at*
 generalize F.D.size=size at*
 generalize hP1:pos+1=Np at*
 replace hP1:=AO hP1;have Fx:=(AS I I).alloc ar (AK #[(),(),(),(),()] 47);have Ju:Row (I.alloc (AK #[(),(),(),(),()] 47)) I 47 [(),(),(),(),()]:=heap_alloc_new _ _;have pG:=AO (X4.out.below Fx X4.out.lt);have an:=AO (Y4.out.below Fx Y4.out.lt);have k0:∀d os,(An (redrawn (I.alloc (AK #[(),(),(),(),()] 47)) d) os).cell? x=AE (AA AB k):=Ac (pG.out.cell 0);have k1:∀d os,(An (redrawn (I.alloc (AK #[(),(),(),(),()] 47)) d) os).cell? (x,1)=AE (AA AB Hq):=Ac (pG.out.cell 1);have k7:∀d os,(An (redrawn (I.alloc (AK #[(),(),(),(),()] 47)) d) os).cell? (x,7)=AE (AA AB pos):=Ac (pG.out.cell 7);have k8:∀d os,(An (redrawn (I.alloc (AK #[(),(),(),(),()] 47)) d) os).cell? (x,8)=AE (AI b):=Ac (pG.out.cell 8);have kb:∀d os,(An (redrawn (I.alloc (AK #[(),(),(),(),()] 47)) d) os).cell? b=AE (AJ g size size):=Ac (an.out.cell 0);have Q4:Hid (∀d os,Calls AP 59 #[AL #[k,Hq],AJ g size size,pos] (An (redrawn (I.alloc (AK #[(),(),(),(),()] 47)) d) os) λe Eo=>e=AH (AJ (g,off) k (size-off))/\∃p:Regrown,Eo=An (redrawn (I.alloc (AK #[(),(),(),(),()] 47)) p.d) p.os):=λd os=>Ba (av.out _);have EV:=AO Fx;have J0:=AO Ju;clear Fx Ju av pG an;go_wp2
 refine By a7 a7 ?_
 repeat(any_goals(first|go_big_quiet_step (with_reducible first|exact Q4.out _ _)|quiet_step (with_reducible first|exact Q4.out _ _)))
 refine wpQuiet_nil ?_;intro w7 cD;obtain⟨⟨dq,osq⟩,cD⟩:=cD;have On:=B0 (I.alloc (AK #[(),(),(),(),()] 47)) dq osq;rw[<-cD]at On;clear cD;have dR:=AO (EV.out.trans (On.mono EV.out.size));have vG:Hid (Row w7 I 47 (CC 0)):=by unfold Hid;rw[Qe.out];exact J0.out.below On J0.out.lt
 clear On Q4 k0 k1 k7 k8 kb J0 EV Qe;have ad:=X4.out.lt;have al:=Z4.out.lt;have GU:=R4.out.lt;have WE:Hid (x<I.heap.size/\g<I.heap.size/\w.heap.size<I.heap.size):=⟨ad,al,GU⟩;clear ad al GU;generalize hT:I.heap.size=T at*
 go_wp2
 go_loopw [61] (λiv wr=>∃i:Nat,i<=k/\iv=AA AB (i:Int)/\Hid (Below T I wr)/\Hid (Row wr T 47 (CC i))) (λiv _=>k-(BF iv).toNat)
 case atStart=>exact⟨0,Ao _,rfl,dR.out,vG.out⟩
 case round=>
  obtain⟨i,hi,rfl,HF,IF⟩:=hrel;by_cases aC:i<k
  ·have Kq:=TT.out i aC;have Pp:off+i<ws.length:=by have:=aR.out.1;omega
   have cw:wr.cell? (g,off+i)=AE (.int .u64 (ws.getD (off+i) 0:Nat)):=by
    rw[(Z4.out.below HF.out WE.out.2.1).cell (off+i)];exact MF Pp
   have aD:i<5:=a5;have ct:∃v,wr.cell? (T,i)=AE v:=by
    rw[IF.out.cell i];exact pg.out i i aD
   obtain⟨v0,ct⟩:=ct;have fg:=IF.out.free i;have G7:Hid (Row (wr.setCell (T,i) (AA AB (Ab.wrap ((ws.getD (off+i) 0:Nat):Int)))) T 47 (CC (i+1))):=by
    have h1:=IF.out.set i (AA AB (Ab.wrap ((ws.getD (off+i) 0:Nat):Int)));rw[Kq]at h1;exact h1
   have OI:Hid (Below T I (wr.setCell (T,i) (AA AB (Ab.wrap ((ws.getD (off+i) 0:Nat):Int))))):=HF.out.setCell ar _;have UW:(0:Int)<=(i:Int):=a5;have nI:(i:Int)<(k:Int):=a5;have cM:(i:Int)<5:=a5;clear Kq Pp hi;generalize ws.getD (off+i) 0=u at*
   obtain⟨z,hz⟩:=ao (Ab.wrap (u:Int));rw[hz]at G7 OI;go_wp2
   go_roundw
   case rel=>exact⟨i+1,a5,by go_num,OI.out,G7.out⟩
   case measure=>simp[BF];omega
  ·obtain rfl:i=k:=a5;have Lm:=X4.out.below HF.out WE.out.1;have c7:wr.cell? (x,7)=AE (AA AB pos):=Lm.cell 7;have f7:=Lm.free 7;have Tx:=Lm.set 7 Np;have Zx:Row (wr.setCell (x,7) Np) T 47 (CC i):=IF.out.E4 (p:=(x,7)) (λe=>by have:=WE.out.1;simp only at e;omega) _;rw[pq.out]at Zx;have mz:Row (wr.setCell (x,7) Np) w 47 [(),(),(),(),()]:=(R4.out.below HF.out WE.out.2.2).E4 (p:=(x,7)) (λe=>aq.out e.symm) Np;have wh:DJ (λk=>k=x\/k=w) I (wr.setCell (x,7) Np):=(DJ.DE (by rw[hT];exact HF.out) (λk=>k=x\/k=w)).set (p:=(x,7)) (.inl (.inl rfl)) _;have ay:=AO Zx;have TV:=AO mz;have ax:=AO Tx;have jl:=AO wh;clear Lm Tx Zx mz wh IF HF;generalize az:wr.setCell (x,7) Np=w8 at ay TV ax jl;obtain⟨t0,t1,t2,t3,t4⟩:=ay.out.q5;obtain⟨z0,z1,z2,z3,z4⟩:=TV.out.q5;obtain⟨f0,f1,f2,f3,f4⟩:=TV.out.r5;have Eg:=AO (yU TV.out TA TB TC TD TE);have jk:=AO (jl.out.trans (oL w8 w TA TB TC TD TE) λb hb=>.inl (.inr hb));have au:=AO ((oL w8 w TA TB TC TD TE).row ax.out aq.out);clear ay TV ax jl;subst az;go_wp2
   have H9:=AO (YU.out _ jk.out au.out);clear YU jk au;have q0:=Eg.out.cell 0;have q1:=Eg.out.cell 1;have q2:=Eg.out.cell 2;have q3:=Eg.out.cell 3;have q4:=Eg.out.cell 4;refine BA (v:=AM #[AL #[TA,TB,TC,TD,TE],true,()]) ?_ rfl ⟨by rw[hTU.out],by obtain rfl:=hP1.out;rw[GP.out];exact H9.out⟩;generalize(((((((wr.setCell (x,7) Np).setCell w.heap.size TA).setCell (w.heap.size,1) TB).setCell (w.heap.size,2) TC).setCell (w.heap.size,3) TD).setCell (w.heap.size,4) TE))=w9 at*
   simp only[AX,AV]at q0 q1 q2 q3 q4;simp[results,Tryz.results48,go_sem,q0,q1,q2,q3,q4]
theorem aK{w G p F n x r ws}(h:Sys w G p F n)(DN:JG r F.D.size)(hm:G3 w x p r F.D.size ws)(ho:OA G x r)(Di:r.pos<r.count)
  {F1}{n1}{LJ}(Gp:F1.D.size=F.D.size)(IY:r.pos%r.h=0)(hB:∀W,Below w w W->Calls AP 71 #[AI x] W λe w'=>e=AH ()/\WK W G p F1 n1 x r LJ w'):
  Calls AP 48 #[AI x] w λe w'=>e=AH (AM #[AL #[AA AB (GK r LJ).a,AA AB (GK r LJ).b,AA AB (GK r LJ).c,AA AB (GK r LJ).d,AA AB (GK r LJ).e],true,()])/\KY w G p F1 n1 x {r with pos:=r.pos+1} LJ w':=by
 obtain⟨hx,Js,Gu⟩:=hm.lt;obtain⟨a1,a2,a3⟩:=hm.apart;have aC:=DN.sz;have hk:=DN.k;have hh:=DN.h;have bb:=DN.count;have ab:=CM r.pos hh.1;have a9:r.pos%r.h*r.k+r.k<=F.D.size-2:=by
  have h1:(r.pos%r.h+1)*r.k<=r.h*r.k:=Af _ ab;rw[A7,BH]at h1;exact Ag h1 hh.2.1
 obtain⟨w0,JS⟩:=ae (w.alloc (AK #[(),(),(),(),()] 47));have O:Below w w w0:=by rw[JS];exact(AS w w).alloc ar _
 have Ec:Row w0 w 47 [(),(),(),(),()]:=by rw[JS];exact heap_alloc_new _ _
 have ad:=hm.below O;have Fl:=Fp ad.row ad.buf;rw[decide_eq_true (show 0<F.D.size by omega)]at Fl;have GR:Hid (Calls AP 69 #[AI x] (w.alloc (AK #[(),(),(),(),()] 47)) λe w'=>e=AH (.bool (!true))/\w'=w.alloc (AK #[(),(),(),(),()] 47)):=by rw[JS]at Fl;exact Fl
 have a8:=AO Ec;have QE:Hid (¬G w):=λQ=>by have:=h.lt Q;omega
 have Du:Hid (∀I U,WK w0 G p F1 n1 x r LJ I->DJ (λk=>k=x\/k=w) I U->Row U x 134 (YZ p {r with pos:=r.pos+1})->KY w G p F1 n1 x {r with pos:=r.pos+1} LJ U):=by
  intro I U ⟨G4,k1,J,k3,k4⟩ hf hr;have aA:¬G4 x:=λQ=>(k4 x Q).elim ho.x λh=>by have:=O.size;omega
  have aS:¬G4 w:=λQ=>(k4 _ Q).elim QE.out λh=>by have:=Ec.lt;omega
  have nw:Row I w 47 [(),(),(),(),()]:=k3.row Ec (by
   rintro(Q|Q)
   ·exact QE.out Q
   ·omega)
  refine⟨G4,k1.Wi hf ?_,⟨hr,hf.row J.buf ?_,hf.row J.words ?_,J.len,J.u64⟩,?_,λk hk=>(k4 k hk).imp_right λh=>Ag O.size h⟩
  ·rintro k (rfl|rfl)
   ·exact⟨aA,λv hv=>absurd (hv.typed J.row) a6⟩
   ·exact⟨aS,λv hv=>absurd (hv.typed nw) a6⟩
  ·rintro(e|e)
   ·exact a1 e.symm
   ·exact absurd e (Nat.ne_of_lt Js)
  ·rintro(e|e)
   ·exact a2 e.symm
   ·exact absurd e (Nat.ne_of_lt Gu)
  ·refine(((DJ.DE O _).trans k3 λb hb=>hb.elim (λh=>.inl (.inl h)) λh=>.inl (.inr (.inl h)))).trans hf ?_;rintro b (rfl|rfl)
   ·exact .inl (.inr (.inr rfl))
   ·exact .inr ar
 have H0:Hid (Row (w.alloc (AK #[(),(),(),(),()] 47)) x 134 (YZ p r)):=by rw[<-JS];exact ad.row
 have aD:Int.tmod (r.pos:Int) (r.h:Int)=((r.pos%r.h:Nat):Int):=rfl;have Gt:¬((r.h:Int)=0):=a5;have g3:((r.pos:Int)==(r.count:Int))=false:=by simp;omega
 have ba:(r.pos:Int)+1=((r.pos+1:Nat):Int):=a5;have c7:(w.alloc (AK #[(),(),(),(),()] 47)).cell? (x,7)=AE (AA AB r.pos):=H0.out.cell 7;obtain⟨-,-,-,-,-,-,c6,d7⟩:=H0.out.q8;have d1:(w.alloc (AK #[(),(),(),(),()] 47)).drew.cell? (x,1)=AE (AA AB r.h):=H0.out.cell 1;have OC:Hid (Below w w (w.alloc (AK #[(),(),(),(),()] 47)).drew.drew):=by rw[<-JS];exact DC (DC O)
 have g5:(((r.pos%r.h:Nat):Int)==0)=true:=by simp;omega
 have az:Hid (Calls AP 71 #[AI x] (w.alloc (AK #[(),(),(),(),()] 47)).drew.drew λe w'=>e=AH ()/\WK w0 G p F1 n1 x r LJ w'):=(hB _ OC.out).mono λe w' ⟨h1,G',k1,J,k3,k4⟩=>
  have Qx:Below w0 w0 (w.alloc (AK #[(),(),(),(),()] 47)).drew.drew:=by rw[<-JS];exact DC (DC (AS _ _))
  ⟨h1,G',k1,J,(DJ.DE Qx _).trans k3 λb hb=>.inl hb,λk hk=>(k4 k hk).imp_right λh=>Ag Qx.size h⟩
 clear Fl h hm ad DN ho Ec O hB;go_enter func48,ntmps48
 go_wp2_with fail
 refine GR.out.mono ?_;rintro e w1 ⟨rfl,rfl⟩;go_wp2
 go_region
 go_wp2
 go_region
 go_wp2_with fail
 refine az.out.mono ?_;rintro e I ⟨rfl,nZ⟩;have Tn:=AO nZ;clear nZ az;have YU:Hid (∀U,DJ (λk=>k=x\/k=w) I U->Row U x 134 (YZ p {r with pos:=r.pos+1})->KY w G p F1 n1 x {r with pos:=r.pos+1} LJ U):=λU h1 h2=>Du.out I U Tn.out h1 h2;obtain⟨G4,k1,J,k3,k4⟩:=Tn.out;have X4:=AO J.row;have Y4:=AO J.buf;have Z4:=AO J.words;have a0:Hid (LJ.length=F.D.size/\NO LJ):=⟨J.len.trans Gp,J.u64⟩;have R4:Hid (Row I w 47 [(),(),(),(),()]):=k3.row a8.out (by
  rintro(Q|Q)
  ·exact QE.out Q
  ·omega)
 clear Tn k1 J k3 k4 Du QE G4;have aw:Hid (∀W,Calls AP 59 #[AL #[r.k,r.h],AJ r.g F.D.size F.D.size,r.pos] W λe w'=>e=AH (AJ (AE ⟨r.g,r.pos%r.h*r.k,AD⟩) r.k (F.D.size-r.pos%r.h*r.k))/\Below W W w'):=λW=>VV r.k r.h r.pos r.g F.D.size W hk.1 hk.2 hh.1 hh.2.2 a5 a5 aC.2;have pq:Hid (Ev r.k ((LJ.drop (r.pos%r.h*r.k)).take r.k) r.k=[AA AB (GK r LJ).a,AA AB (GK r LJ).b,AA AB (GK r LJ).c,AA AB (GK r LJ).d,AA AB (GK r LJ).e]):=P9 hk.2 _;have Qe:Hid (Ev r.k ((LJ.drop (r.pos%r.h*r.k)).take r.k) 0=[AA AB 0,AA AB 0,AA AB 0,AA AB 0,AA AB 0]):=N7 _ _;have pg:Hid (∀i j,j<5->∃v,(Ev r.k ((LJ.drop (r.pos%r.h*r.k)).take r.k) i)[j]?=AE v):=λi j hj=>⟨_,AU (show j<(Ev r.k ((LJ.drop (r.pos%r.h*r.k)).take r.k) i).length from hj)⟩;have au:Hid (x≠w):=by unfold Hid;omega
 have TT:Hid (∀i,i<r.k->(Ev r.k ((LJ.drop (r.pos%r.h*r.k)).take r.k) i).set i (AA AB (Ab.wrap (((LJ.getD (r.pos%r.h*r.k+i) 0:Nat):Nat):Int)))=Ev r.k ((LJ.drop (r.pos%r.h*r.k)).take r.k) (i+1)):=by
  intro i hi;rw[<-P8 hk.2 _ hi]
  congr 4
  rw[AT,AT,At,if_pos hi,Bc]
 generalize GP:KY w G p F1 n1 x {r with pos:=r.pos+1} LJ=Dh at*
 replace GP:=AO GP;generalize hTU:GK r LJ=TU at*
 replace hTU:=AO hTU;generalize Ev r.k ((LJ.drop (r.pos%r.h*r.k)).take r.k)=CC at*
 clear ab JS GR H0 c7 c6 d7 d1 OC aD Gt g3;obtain⟨TA,TB,TC,TD,TE⟩:=TU;obtain⟨k,Hq,first,blocks,count,pos,b,g⟩:=r;unfold YZ at*
 simp only at*
 generalize pos%Hq*k=off at*
 rw[Gp]at*
 generalize F.D.size=size at*
 generalize hP1:pos+1=Np at*
 replace hP1:=AO hP1;have Fx:=(AS I I).alloc ar (AK #[(),(),(),(),()] 47);have Ju:Row (I.alloc (AK #[(),(),(),(),()] 47)) I 47 [(),(),(),(),()]:=heap_alloc_new _ _;have pG:=AO (X4.out.below Fx X4.out.lt);have aq:=AO (Y4.out.below Fx Y4.out.lt);have k0:∀d os,(An (redrawn (I.alloc (AK #[(),(),(),(),()] 47)) d) os).cell? x=AE (AA AB k):=Ac (pG.out.cell 0);have k1:∀d os,(An (redrawn (I.alloc (AK #[(),(),(),(),()] 47)) d) os).cell? (x,1)=AE (AA AB Hq):=Ac (pG.out.cell 1);have k7:∀d os,(An (redrawn (I.alloc (AK #[(),(),(),(),()] 47)) d) os).cell? (x,7)=AE (AA AB pos):=Ac (pG.out.cell 7);have k8:∀d os,(An (redrawn (I.alloc (AK #[(),(),(),(),()] 47)) d) os).cell? (x,8)=AE (AI b):=Ac (pG.out.cell 8);have kb:∀d os,(An (redrawn (I.alloc (AK #[(),(),(),(),()] 47)) d) os).cell? b=AE (AJ g size size):=Ac (aq.out.cell 0);have Q4:Hid (∀d os,Calls AP 59 #[AL #[k,Hq],AJ g size size,pos] (An (redrawn (I.alloc (AK #[(),(),(),(),()] 47)) d) os) λe Eo=>e=AH (AJ (g,off) k (size-off))/\∃p:Regrown,Eo=An (redrawn (I.alloc (AK #[(),(),(),(),()] 47)) p.d) p.os):=λd os=>Ba (aw.out _);have EV:=AO Fx;have J0:=AO Ju;clear Fx Ju aw pG aq;go_wp2
 refine By a7 a7 ?_
 repeat(any_goals(first|go_big_quiet_step (with_reducible first|exact Q4.out _ _)|quiet_step (with_reducible first|exact Q4.out _ _)))
 refine wpQuiet_nil ?_;intro w7 cD;obtain⟨⟨dq,osq⟩,cD⟩:=cD;have On:=B0 (I.alloc (AK #[(),(),(),(),()] 47)) dq osq;rw[<-cD]at On;clear cD;have dR:=AO (EV.out.trans (On.mono EV.out.size));have vG:Hid (Row w7 I 47 (CC 0)):=by unfold Hid;rw[Qe.out];exact J0.out.below On J0.out.lt
 clear On Q4 k0 k1 k7 k8 kb J0 EV Qe;have al:=X4.out.lt;have an:=Z4.out.lt;have GU:=R4.out.lt;have WE:Hid (x<I.heap.size/\g<I.heap.size/\w.heap.size<I.heap.size):=⟨al,an,GU⟩;clear al an GU;generalize hT:I.heap.size=T at*
 go_wp2
 go_loopw [61] (λiv wr=>∃i:Nat,i<=k/\iv=AA AB (i:Int)/\Hid (Below T I wr)/\Hid (Row wr T 47 (CC i))) (λiv _=>k-(BF iv).toNat)
 case atStart=>exact⟨0,Ao _,rfl,dR.out,vG.out⟩
 case round=>
  obtain⟨i,hi,rfl,HF,IF⟩:=hrel;by_cases aE:i<k
  ·have Kq:=TT.out i aE;have Pp:off+i<LJ.length:=by have:=a0.out.1;omega
   have cw:wr.cell? (g,off+i)=AE (.int .u64 (LJ.getD (off+i) 0:Nat)):=by
    rw[(Z4.out.below HF.out WE.out.2.1).cell (off+i)];exact MF Pp
   have aR:i<5:=a5;have ct:∃v,wr.cell? (T,i)=AE v:=by
    rw[IF.out.cell i];exact pg.out i i aR
   obtain⟨v0,ct⟩:=ct;have fg:=IF.out.free i;have G7:Hid (Row (wr.setCell (T,i) (AA AB (Ab.wrap ((LJ.getD (off+i) 0:Nat):Int)))) T 47 (CC (i+1))):=by
    have h1:=IF.out.set i (AA AB (Ab.wrap ((LJ.getD (off+i) 0:Nat):Int)));rw[Kq]at h1;exact h1
   have OI:Hid (Below T I (wr.setCell (T,i) (AA AB (Ab.wrap ((LJ.getD (off+i) 0:Nat):Int))))):=HF.out.setCell ar _;have UW:(0:Int)<=(i:Int):=a5;have nI:(i:Int)<(k:Int):=a5;have cM:(i:Int)<5:=a5;clear Kq Pp hi;generalize LJ.getD (off+i) 0=u at*
   obtain⟨z,hz⟩:=ao (Ab.wrap (u:Int));rw[hz]at G7 OI;go_wp2
   go_roundw
   case rel=>exact⟨i+1,a5,by go_num,OI.out,G7.out⟩
   case measure=>simp[BF];omega
  ·obtain rfl:i=k:=a5;have Lm:=X4.out.below HF.out WE.out.1;have c7:wr.cell? (x,7)=AE (AA AB pos):=Lm.cell 7;have f7:=Lm.free 7;have Tx:=Lm.set 7 Np;have Zx:Row (wr.setCell (x,7) Np) T 47 (CC i):=IF.out.E4 (p:=(x,7)) (λe=>by have:=WE.out.1;simp only at e;omega) _;rw[pq.out]at Zx;have mz:Row (wr.setCell (x,7) Np) w 47 [(),(),(),(),()]:=(R4.out.below HF.out WE.out.2.2).E4 (p:=(x,7)) (λe=>au.out e.symm) Np;have wh:DJ (λk=>k=x\/k=w) I (wr.setCell (x,7) Np):=(DJ.DE (by rw[hT];exact HF.out) (λk=>k=x\/k=w)).set (p:=(x,7)) (.inl (.inl rfl)) _;have ay:=AO Zx;have TV:=AO mz;have ax:=AO Tx;have jl:=AO wh;clear Lm Tx Zx mz wh IF HF;generalize aB:wr.setCell (x,7) Np=w8 at ay TV ax jl;obtain⟨t0,t1,t2,t3,t4⟩:=ay.out.q5;obtain⟨z0,z1,z2,z3,z4⟩:=TV.out.q5;obtain⟨f0,f1,f2,f3,f4⟩:=TV.out.r5;have Eg:=AO (yU TV.out TA TB TC TD TE);have jk:=AO (jl.out.trans (oL w8 w TA TB TC TD TE) λb hb=>.inl (.inr hb));have av:=AO ((oL w8 w TA TB TC TD TE).row ax.out au.out);clear ay TV ax jl;subst aB;go_wp2
   have H9:=AO (YU.out _ jk.out av.out);clear YU jk av;have q0:=Eg.out.cell 0;have q1:=Eg.out.cell 1;have q2:=Eg.out.cell 2;have q3:=Eg.out.cell 3;have q4:=Eg.out.cell 4;refine BA (v:=AM #[AL #[TA,TB,TC,TD,TE],true,()]) ?_ rfl ⟨by rw[hTU.out],by obtain rfl:=hP1.out;rw[GP.out];exact H9.out⟩;generalize(((((((wr.setCell (x,7) Np).setCell w.heap.size TA).setCell (w.heap.size,1) TB).setCell (w.heap.size,2) TC).setCell (w.heap.size,3) TD).setCell (w.heap.size,4) TE))=w9 at*
   simp only[AX,AV]at q0 q1 q2 q3 q4;simp[results,Tryz.results48,go_sem,q0,q1,q2,q3,q4]
def uz(w:World)(G:Nat->Prop)(x:Nat)(p:Wp)(F:Fs)(n:Nat)(r:Rt)(w':World):Prop:=
 ∃G',Sys w' G' p {F with A:=release F.A r.b F.D.size} n/\Uy w' x p r/\DJ (λk=>G k\/k=r.b\/k=r.g) w w'/\∀k,G' k->G k\/w<=k
theorem iH{w G p F n x r ws}(h:Sys w G p F n)(DN:JG r F.D.size)(hm:G3 w x p r F.D.size ws)(ho:OA G x r)(an:wordsAt F.A.st r.b=AE F.D.size)(Di:r.pos<r.count)
  {F1}{n1}{LJ}{er:Int}(he:er≠0)(Gp:F1.D.size=F.D.size)(jX:F1.A=F.A)(IY:r.pos%r.h=0)(hB:∀W,Below w w W->Calls AP 71 #[AI x] W λe w'=>e=AH er/\WK W G p F1 n1 x r LJ w'):
  Calls AP 48 #[AI x] w λe w'=>e=AH (AM #[AL #[(),(),(),(),()],false,er])/\uz w G x p F1 n1 r w':=by
 obtain⟨hx,Js,Gu⟩:=hm.lt;obtain⟨a1,a2,a3⟩:=hm.apart;have aq:=DN.sz;have hk:=DN.k;have hh:=DN.h;have av:=DN.count;obtain⟨w0,JS⟩:=ae (w.alloc (AK #[(),(),(),(),()] 47));have I:Below w w w0:=by rw[JS];exact(AS w w).alloc ar _
 have Ec:Row w0 w 47 [(),(),(),(),()]:=by rw[JS];exact heap_alloc_new _ _
 have Q:=hm.below I;have Fl:=Fp Q.row Q.buf;rw[decide_eq_true (show 0<F.D.size by omega)]at Fl;have GR:Hid (Calls AP 69 #[AI x] (w.alloc (AK #[(),(),(),(),()] 47)) λe w'=>e=AH (.bool (!true))/\w'=w.alloc (AK #[(),(),(),(),()] 47)):=by rw[JS]at Fl;exact Fl
 have QE:Hid (¬G w):=λJ=>by have:=h.lt J;omega
 have jF:Hid (∀U,WK w0 G p F1 n1 x r LJ U->Calls AP 47 #[AI x] U λe w5=>e=AH (AM #[])/\(Row w5 w 47 [(),(),(),(),()]/\∀w6,DJ (λk=>k=w) w5 w6->uz w G x p F1 n1 r w6)):=by
  intro U ⟨G4,k1,k2,k3,k4⟩;have cI:∀k,k<w.heap.size->¬G k->¬G4 k:=λk hk hn J=>(k4 k J).elim hn λh=>by have:=I.size;omega
  have ab:¬G4 w:=λJ=>(k4 _ J).elim QE.out λh=>by have:=Ec.lt;omega
  have nw:Row U w.heap.size 47 [AA AB 0,AA AB 0,AA AB 0,AA AB 0,AA AB 0]:=k3.row Ec (by
   rintro(J|J)
   ·exact QE.out J
   ·omega)
  refine(R5 k1 k2 ⟨cI x hx ho.x,cI _ Js ho.b,cI _ Gu ho.g⟩ (by rw[jX,Gp];exact an)).mono ?_;rintro e w5 ⟨rfl,G5,q1,q2,q3,q4⟩;have ad:Row w5 w 47 [(),(),(),(),()]:=q3.row nw (by
   rintro(J|J)
   ·exact ab J
   ·omega)
  have ao:¬G5 w:=λJ=>(q4 _ J).elim ab λh=>by have:=nw.lt;omega
  refine⟨rfl,ad,λw6 hf=>⟨G5,q1.Wi hf ?_,⟨hf.row q2.1 a5,hf.row q2.2 a5⟩,?_,?_⟩⟩
  ·rintro k rfl;exact⟨ao,λv hv=>absurd (hv.typed ad) a6⟩
  ·have f1:DJ (λk=>G k\/k=r.b\/k=r.g) w U:=(DJ.DE I _).trans k3 λb hb=>hb.elim (λh=>.inl (.inl h)) λh=>.inl (.inr (.inr h));have f2:=f1.trans q3 (λb hb=>by
    rcases hb with hb|hb
    ·exact(k4 b hb).imp (λh=>.inl h) λh=>Ag I.size h
    ·exact .inl (.inr (.inl hb)))
   exact f2.trans hf λb hb=>.inr a5
  ·intro k hk;rcases q4 k hk with J|J
   ·exact(k4 k J).imp_right λh=>Ag I.size h
   ·exact .inr (by have:=I.size;have:=k3.size;omega)
 have H0:Hid (Row (w.alloc (AK #[(),(),(),(),()] 47)) x 134 (YZ p r)):=by rw[<-JS];exact Q.row
 have au:Int.tmod (r.pos:Int) (r.h:Int)=((r.pos%r.h:Nat):Int):=rfl;have Gt:¬((r.h:Int)=0):=a5;have g3:((r.pos:Int)==(r.count:Int))=false:=by simp;omega
 have c7:(w.alloc (AK #[(),(),(),(),()] 47)).cell? (x,7)=AE (AA AB r.pos):=H0.out.cell 7;obtain⟨-,-,-,-,-,-,c6,d7⟩:=H0.out.q8;have d1:(w.alloc (AK #[(),(),(),(),()] 47)).drew.cell? (x,1)=AE (AA AB r.h):=H0.out.cell 1;have OC:Hid (Below w w (w.alloc (AK #[(),(),(),(),()] 47)).drew.drew):=by rw[<-JS];exact DC (DC I)
 have g5:(((r.pos%r.h:Nat):Int)==0)=true:=by simp;omega
 have ge:(er !=0)=true:=by simpa using he
 have al:Hid (Calls AP 71 #[AI x] (w.alloc (AK #[(),(),(),(),()] 47)).drew.drew λe w'=>e=AH er/\WK w0 G p F1 n1 x r LJ w'):=(hB _ OC.out).mono λe w' ⟨h1,G',k1,k2,k3,k4⟩=>
  have Qx:Below w0 w0 (w.alloc (AK #[(),(),(),(),()] 47)).drew.drew:=by rw[<-JS];exact DC (DC (AS _ _))
  ⟨h1,G',k1,k2,(DJ.DE Qx _).trans k3 λb hb=>.inl hb,λk hk=>(k4 k hk).imp_right λh=>Ag Qx.size h⟩
 generalize uz w G x p F1 n1 r=Dh at*
 generalize WK w0 G p F1 n1 x r LJ=BK at*
 clear Fl h hm Q DN ho Ec I hB JS;go_enter func48,ntmps48
 go_wp2_with fail
 refine GR.out.mono ?_;rintro e w1 ⟨rfl,rfl⟩;go_wp2
 go_region
 go_wp2
 go_region
 go_wp2_with fail
 refine al.out.mono ?_;rintro e U ⟨rfl,nZ⟩;have Tn:=AO nZ;clear nZ al H0 OC c7 c6 d7 d1 QE;go_wp2_with fail
 refine(jF.out U Tn.out).mono ?_;rintro e w5 ⟨rfl,Ju,h6⟩;have O:=AO Ju;have H6:=AO h6;clear Ju h6 jF Tn;have z0:=O.out.cell 0;have z1:=O.out.cell 1;have z2:=O.out.cell 2;have z3:=O.out.cell 3;have z4:=O.out.cell 4;have f0:=O.out.free 0;have f1:=O.out.free 1;have f2:=O.out.free 2;have f3:=O.out.free 3;have f4:=O.out.free 4;simp only[AX,AV]at z0 z1 z2 z3 z4;have Eg:=AO (yU O.out () () () () ());have jk:=AO (oL w5 w () () () () ());go_wp2
 have H9:=AO (H6.out _ jk.out);have q0:=Eg.out.cell 0;have q1:=Eg.out.cell 1;have q2:=Eg.out.cell 2;have q3:=Eg.out.cell 3;have q4:=Eg.out.cell 4;refine BA (v:=AM #[AL #[(),(),(),(),()],false,er]) ?_ rfl ⟨rfl,H9.out⟩;simp only[AX,AV]at q0 q1 q2 q3 q4;simp[results,Tryz.results48,go_sem,q0,q1,q2,q3,q4]
theorem iG{w p sz x r ws}(DN:JG r sz)(hm:G3 w x p r sz ws)(Di:r.pos=r.count):Calls AP 48 #[AI x] w λe w'=>e=AH (AM #[AL #[(),(),(),(),()],false,()])/\Below w w w':=by
 have ab:=DN.sz;have HB:Hid (Below w w (w.alloc (AK #[(),(),(),(),()] 47))):=(AS w w).alloc ar _;have I:=hm.below HB.out;have O:=Fp I.row I.buf;rw[decide_eq_true (show 0<sz by omega)]at O;have HC:=AO O;have Ec:Row (w.alloc (AK #[(),(),(),(),()] 47)) w 47 [(),(),(),(),()]:=heap_alloc_new _ _;have J:=AO Ec;have c7:(w.alloc (AK #[(),(),(),(),()] 47)).cell? (x,7)=AE (AA AB r.pos):=I.row.cell 7;have c6:(w.alloc (AK #[(),(),(),(),()] 47)).cell? (x,6)=AE (AA AB r.count):=I.row.cell 6;have g3:((r.pos:Int)==(r.count:Int))=true:=by simp;omega
 clear Ec O hm I DN Di;go_enter func48,ntmps48
 go_wp2_with fail
 refine HC.out.mono ?_;rintro e w1 ⟨rfl,rfl⟩;go_wp2
 go_region
 go_wp2
 have q0:=J.out.cell 0;have q1:=J.out.cell 1;have q2:=J.out.cell 2;have U:=J.out.cell 3;have Q:=J.out.cell 4;refine BA (v:=AM #[AL #[(),(),(),(),()],false,()]) ?_ rfl ⟨rfl,DC HB.out⟩;simp only[AX,AV]at q0 q1 q2 U Q;simp[results,Tryz.results48,go_sem,q0,q1,q2,U,Q]
section
variable{w:World}{G:Nat->Prop}{p:Wp}{F:Fs}{n x:Nat}{r:Rt}{ws:List Nat}
theorem iF(h:Sys w G p F n)(U:n<1000000)(Q:JG r F.D.size)(hm:G3 w x p r F.D.size ws)(J:OA G x r)(I:wordsAt F.A.st r.b=AE F.D.size)(O:r.pos<r.count)(IY:r.pos%r.h=0)(he:(read F.D ((r.first+r.pos/r.h:Nat):Int)).1≠0):
  Calls AP 48 #[AI x] w λe w'=>e=AH (AM #[AL #[(),(),(),(),()],false,AA AB (read F.D ((r.first+r.pos/r.h:Nat):Int)).1])/\uz w G x p {F with D:=(read F.D ((r.first+r.pos/r.h:Nat):Int)).2} (n+1) r w':=
 iH h Q hm J I O (LJ:=ws) he (Jh F.D _ 0).2.1 rfl IY λ_ hb=>lS (h.below hb) U Q (hm.below hb) J O he
end
structure AL4 (D:St) (r:Rt) (l:List Cy) (ws:List Nat):Prop where
 stands:EO D r.first r.k r.h l (Cu r.h r.count)
 cnt:l.length=r.count
 ok:∀t∈l,D7 t/\Db r.k t=true
 buf:r.pos%r.h≠0->ws.take (min r.h (r.count-r.pos/r.h*r.h)*r.k)=JN r.h r.k l (r.pos/r.h)
section
variable{r:Rt}{l:List Cy}{ws:List Nat}{sz:Nat}
theorem V0(I:r.k<=5)(hh:0<r.h)(Di:r.pos<r.count)(hc:l.length=r.count)(hb:ws.take (min r.h (r.count-r.pos/r.h*r.h)*r.k)=JN r.h r.k l (r.pos/r.h)){t}(J:l[r.pos]?=AE t)(DN:D7 t)(hf:Db r.k t=true):GK r ws=t:=by
 have hm:=CM r.pos hh;have e:=Nat.div_add_mod r.pos r.h;rw[CS]at e;obtain⟨j,Q⟩:=ae (r.pos/r.h);rw[<-Q]at hb e;have hq:r.pos%r.h<min r.h (r.count-j*r.h):=a5;have O:r.pos%r.h*r.k+r.k<=min r.h (r.count-j*r.h)*r.k:=by
  have:=Af r.k (show r.pos%r.h+1<=min r.h (r.count-j*r.h)by omega);rw[A7,BH]at this;exact this
 have e1:(ws.drop (r.pos%r.h*r.k)).take r.k=((ws.take (min r.h (r.count-j*r.h)*r.k)).drop (r.pos%r.h*r.k)).take r.k:=by
  rw[List.drop_take,CN,Bi a5]
 unfold GK;rw[e1,hb];unfold JN;have U:((l.drop (j*r.h)).take r.h)[r.pos%r.h]?=AE t:=by
  rw[At,if_pos hm,Bc,show j*r.h+r.pos%r.h=r.pos by omega];exact J
 rw[X0 I U];exact Rb I DN hf
end
def bZ(D:St)(r:Rt):St:=if r.pos%r.h=0 then (read D ((r.first+r.pos/r.h:Nat):Int)).2 else D
theorem AF4:(AP.info? 47).map (λi=>(i.zero,i.size,i.bytes))=AE (AE (AL #[(),(),(),(),()]),5,40):=a7
def DH(t:Cy):List Value:=[t.a,t.b,t.c,t.d,t.e]
def EB(l:List Cy):List Value:=l.flatMap DH
theorem Kz(l:List Cy):(EB l).length=l.length*5:=by
 unfold EB
 induction l with
 |nil=>rfl
 |cons e l ih=>rw[List.flatMap_cons,Aa,ih,BW];show 5+ _= _;omega
theorem aM(l:List Cy)(e:Cy):EB (l++[e])=EB l++DH e:=by unfold EB;simp
theorem Su:∀(l:List Cy) (i:Nat),i<l.length->∀(j:Nat) (u:Value),(DH (l.getD i Cz))[j]?=AE u->(EB l)[i*5+j]?=AE u
 |[],i,h=>by simp at h
 |e::l,0,_=>by
  intro j u h;have I:j<(DH e).length:=(BI.1 h).1;show (DH e++EB l)[0*5+j]?= _;rw[CY,BM,Aj I];exact h
 |e::l,i+1,hi=>by
  intro j u h;show (DH e++EB l)[(i+1)*5+j]?= _;rw[AW (by show 5<= _;omega),show (i+1)*5+j-(DH e).length=i*5+j by show _-5= _;omega];exact Su l i (by simpa using hi) j u (by simpa using h)
theorem M7{l:List Cy}{i}(h:i<l.length):l.getD i Cz∈l:=by
 rw[AT,AU h];exact CO h
def El(w:World)(B:Nat)(a:Option Addr)(n:Nat)(l:List Cy):Prop:=
 l.length=n/\(∀e∈l,D7 e)/\(0<n->∃b off,a=AE ⟨b,off,AD⟩/\b<B/\∀(i:Nat),i<n->∀(j:Nat) (u:Value),(DH (l.getD i Cz))[j]?=AE u->w.cell? ⟨b,off+i*5+j,AD⟩=AE u)
section
variable{w w':World}{B:Nat}{a:Option Addr}{n:Nat}{l:List Cy}
theorem El.GQ(h:El w B a n l)(hb:Below B w w'):El w' B a n l:=by
 obtain⟨O,hw,e⟩:=h;refine⟨O,hw,λJ=>?_⟩;obtain⟨b,off,rfl,I,e⟩:=e J;exact⟨b,off,rfl,I,λi hi j u Q=>(hb.cell (p:=(b,off+i*5+j)) I).trans (e i hi j u Q)⟩
theorem El.mono{B'}(h:El w B a n l)(hb:B<=B'):El w B' a n l:=by
 obtain⟨J,hw,e⟩:=h;refine⟨J,hw,λI=>?_⟩;obtain⟨b,off,rfl,O,e⟩:=e I;exact⟨b,off,rfl,a5,e⟩
theorem El.drewN(h:El w B a n l)(m:Nat):El (w.drewN m) B a n l:=h
theorem El.nil(w:World)(B:Nat)(a:Option Addr):El w B a 0 []:=⟨rfl,a8,λh=>absurd h a5⟩
theorem El.at_(h:El w B a n l){i}(hi:i<n):∃b off t,a=AE ⟨b,off,AD⟩/\b<B/\w.cell? ⟨b,off+i*5,AD⟩=AE (AA AB t.a)/\w.cell? ⟨b,off+i*5+1,AD⟩=AE (AA AB t.b)/\w.cell? ⟨b,off+i*5+2,AD⟩=AE (AA AB t.c)/\
  w.cell? (b,off+i*5+3)=AE (AA AB t.d)/\w.cell? (b,off+i*5+4)=AE (AA AB t.e)/\D7 t/\Hid (l[i]?=AE t):=by
 obtain⟨I,hw,e⟩:=h;obtain⟨b,off,rfl,hb,e⟩:=e a5;refine⟨b,off,l.getD i Cz,rfl,hb,e i hi 0 _ rfl,e i hi 1 _ rfl,e i hi 2 _ rfl,e i hi 3 _ rfl,e i hi 4 _ rfl,hw _ (M7 a5),?_⟩;show l[i]?=AE (l.getD i Cz);rw[AT,AU a5];rfl
end
theorem R7{w base t v n l}(h:w.ownsRow base t 5 v n (EB l))(hw:∀e∈l,D7 e):∃A c,v=AJ A n c/\El w w.heap.size A n l/\l.length=n/\c<=maxLen/\n<=c/\(0<n->∀b off,A=AE ⟨b,off,AD⟩->base<=b):=by
 obtain⟨O,U⟩:=h;have I:l.length=n:=by rw[Kz]at O;omega
 rcases U with⟨rfl,rfl⟩|⟨g,cap,cur,rfl,Q,hh,hcap,hm,hs,ht⟩
 ·exact⟨AD,0,rfl,⟨I,hw,λh=>absurd h a5⟩,I,by unfold maxLen;omega,AQ _,λh=>absurd h a5⟩
 ·refine⟨AE g,cap,rfl,⟨I,hw,λ_=>⟨g,0,rfl,?_,λi hi j u J=>?_⟩⟩,I,hm,hcap,λ_ b off e=>?_⟩
  ·exact Zi hh
  ·have h3:w.cell? (g,0+i*5+j)=cur[0+i*5+j]?:=by simp[World.cell?,hh]
   rw[h3,BM];have cM:j<5:=(BI.1 J).1;have h4:(cur.toList.take (n*5))[i*5+j]?=cur.toList[i*5+j]?:=by rw[At,if_pos a5]
   rw[ht,Su l i a5 j u J]at h4;rw[<-Array.getElem?_toList];exact h4.symm
  ·injection e with e;injection e with e _;subst e;exact Q
theorem Gm{w w':World}{base e s n v xs}(h:w.ownsRow base e s v n xs)(hb:Below w w w'):w'.ownsRow base e s v n xs:=
 Fw h λk I=>hb.block k (h.lt k I).2
theorem R8(w:World)(base:Nat)(e:TypeId):w.ownsRow base e 5 (AJ AD 0 0) 0 (EB []):=⟨rfl,.inl ⟨rfl,rfl⟩⟩
theorem Le{w:World}{ops rest o a Q}(Th:o.guard=AD)(e x:Operand)
  (ho:o.op=.call {callee:=.builtin .append,args:=#[e,x],argTypes:=#[22,22]}){v}{base n}{l}(h:w.ownsRow base 47 5 v n (EB l))(hs:a.eval e=v)(ad:Addr)(U:a.eval x=.slice (AE ad) 1 1)(t:Cy)
  (EZ:∀j u,(DH t)[j]?=AE u->w.cell? (ad.add j)=AE u)(hn:n<=1000000)(I1:base<=w)
  (hK:∀v' w',w'.ownsRow base 47 5 v' (n+1) (EB (l++[t]))->DJ (λk=>v.ownBlock=AE k) w w'->(v'.ownBlock=v.ownBlock\/v'.ownBlock=AE w.heap.size)->wpList AP ops Q rest (a.put o.dst v') w'):wpList AP ops Q (o::rest) a w:=by
 obtain⟨J,FW,Fa,O,Vi⟩:=info_parts AF4;refine wpList_append_own_at w Th e x 22 ho base 47 J _ 5 40 underlying22 FW Fa O Vi rfl a6 v n (EB l) hs h ad 1 1 (DH t) U rfl EZ (λu hu=>by simp[DH]at hu;rcases hu with rfl|rfl|rfl|rfl|rfl<;>rfl) (by unfold maxLen;omega) a5 I1 ?_;intro v' w' I PT _ Eu;rw[<-aM]at I;exact hK v' w' I ((DJ.refl _ w).grown PT λk hk=>.inl hk) Eu
structure Nb (D D':St) (m:Nat):Prop where
 size:D'.size=D.size
 blocks:D'.blocks=D.blocks
 Dp:D'.Dp=D.Dp+m
 calm:Calm D->Calm D'
 alive:D.down=false/\D.fb=false->D'.down=false/\D'.fb=false
theorem Nb.refl(D:St):Nb D D 0:=⟨rfl,rfl,a8,id,id⟩
theorem QI{s r}(h:(begin s r).1=0):Nb s (begin s r).2 1:=by
 unfold begin at h⊢
 split at h
 ·exact absurd h a5
 ·rename_i h1
  split at h
  ·exact absurd h a5
  ·rename_i h2
   split at h
   ·exact absurd h a5
   ·rename_i h3
    dsimp only at h
    split at h
    ·exact absurd h a5
    ·rename_i h4
     rw[if_neg h1,if_neg h2,if_neg h3];dsimp only;rw[if_neg h4];exact⟨rfl,rfl,rfl,λe=>⟨e.1,e.2.1,e.2.2⟩,λI=>I⟩
theorem QH{s i l}(h:(write s i l).1=0):Nb s (write s i l).2 1:=by
 unfold write at h⊢;dsimp only at h⊢;by_cases hb:(begin s (right s i&&decide (l.length=s.size))).1=0
 ·rw[if_pos hb];have k:=QI hb;exact⟨k.size,k.blocks,k.Dp,λe=>k.calm e,λI=>k.alive I⟩
 ·rw[if_neg hb]at h;exact absurd h hb
theorem Yu{s i}(h:(read s i).1=0):Nb s (read s i).2 1:=QI h
def Ik(D:St)(t:Wt):Prop:=EO D t.first t.k t.h t.l (t.l.length/t.h)
section
variable{D:St}{t:Wt}{tu:Cy}
theorem Yq(h:t.l=[]):Ik D t:=by
 intro j e;rw[h]at e;simp at e
theorem Kj(t:Wt)(tu:Cy):(t.snoc tu).l.length=t.l.length+1:=by show (t.l++[tu]).length= _;simp
theorem Mc{c h}(hh:0<h)(O:(c+1)%h≠0):(c+1)/h=c/h:=by
 have J:=Nat.div_add_mod (c+1) h;have I:=Nat.div_add_mod c h;have h3:=CM (c+1) hh;have h4:=CM c hh;have U:¬(c+1)/h<c/h:=λe=>by
  have:=Nat.mul_le_mul_left h (show (c+1)/h+1<=c/h from e);rw[Nat.mul_add,Cm]at this;omega
 have Q:¬c/h<(c+1)/h:=λe=>by
  have:=Nat.mul_le_mul_left h (show c/h+1<=(c+1)/h from e);rw[Nat.mul_add,Cm]at this;omega
 omega
theorem QY{c h}(I:0<h)(e:(c+1)%h=0):(c+1)/h=c/h+1:=by
 have:=Nat.succ_div_of_mod_eq_zero (a:=c) (b:=h) e;exact this
theorem QK{D first k h m l l'}(I:EO D first k h l m)(hm:m*h<=l.length):EO D first k h (l++l') m:=by
 intro j e;rw[I j e,lW (Ag (Af h (show j+1<=m from e)) hm)]
theorem Yr(I:0<t.h)(h:Ik D t)(e:(t.l.length+1)%t.h≠0):Ik D (t.snoc tu):=by
 unfold Ik;rw[Kj];show EO D t.first t.k t.h (t.l++[tu]) ((t.l.length+1)/t.h);rw[Mc I e];exact QK h (Cf _ _)
theorem QL(I:0<t.h)(e:0<t.l.length)(U:(write D (Da t:Nat) (DY D.size t)).1=0)(J:EO D t.first t.k t.h t.l (Cu t.h t.l.length-1)):EO (write D (Da t:Nat) (DY D.size t)).2 t.first t.k t.h t.l (Cu t.h t.l.length):=by
 obtain⟨Q,O,h3,_⟩:=Pj U;have qN:=Es I e;intro j hj;by_cases Xo:j=Cu t.h t.l.length-1
 ·subst Xo;show (write D (Da t:Nat) (DY D.size t)).2.now ((Da t:Nat):Int)= _;rw[Q,h3];unfold DY;rw[lX I e];rfl
 ·rw[O _ (by unfold Da;omega),h3];exact J j a5
theorem Yp(e:0<t.h)(h:Ik D t)(I:(t.l.length+1)%t.h=0)(hw:(write D (Da (t.snoc tu):Nat) (DY D.size (t.snoc tu))).1=0):Ik (write D (Da (t.snoc tu):Nat) (DY D.size (t.snoc tu))).2 (t.snoc tu):=by
 have hb:Cu t.h (t.snoc tu).l.length=(t.snoc tu).l.length/t.h:=by
  rw[Kj];exact KK I
 unfold Ik;have:=QL (t:=t.snoc tu) (D:=D) e (by rw[Kj];omega) hw (by
  show EO D t.first t.k t.h (t.l++[tu]) (Cu t.h (t.snoc tu).l.length-1);rw[hb,Kj,QY e I,BV];exact QK h (Cf _ _))
 show EO _ t.first t.k t.h (t.snoc tu).l ((t.snoc tu).l.length/t.h);rw[<-hb];exact this
theorem WY(h:Ik D t)(e:t.l.length%t.h=0):EO D t.first t.k t.h t.l (Cu t.h t.l.length):=by rw[KK e];exact h
theorem U4(O:0<t.h)(h:Ik D t)(I:t.l.length%t.h≠0)(hw:(write D (Da t:Nat) (DY D.size t)).1=0):EO (write D (Da t:Nat) (DY D.size t)).2 t.first t.k t.h t.l (Cu t.h t.l.length):=by
 have J:0<t.l.length:=by
  rcases BB t.l.length with e|e
  ·rw[e]at I;simp at I
  ·exact e
 refine QL O J hw ?_;have:Cu t.h t.l.length-1=t.l.length/t.h:=by unfold Cu;rw[if_pos a5,BV]
 rw[this];exact h
theorem Vg(e:Ew t D.size)(I:0<t.l.length):t.first<=Da t/\Da t<t.first+t.blocks:=by
 have O:=Es e.h.1 I;have J:=Df (h:=t.h) e.h.1 e.bound.2;have h3:=e.blocks.1;unfold Da;omega
theorem SL(I:Ew t D.size)(e:0<t.l.length)(J:((t.first+t.blocks:Nat):Int)<=D.blocks):right D (Da t:Nat)=true:=by
 have:=Vg I e;unfold right;simp;omega
theorem Xa(e:Ew t D.size)(J:0<t.l.length):(DY D.size t).length=D.size:=by
 have I:=e.sz;have O:=(Mx (l:=t.l) e.h.1 J).1;unfold DY;refine L7 ?_ a5;rw[K5 e.k.2];exact Ag (Af _ O) e.h.2.1
end
theorem J8:∀(l:List (Nat×Nat)) (x n:Nat),(∀q∈l,q.1≠x)->wordsAt (l++[(x,n)]) x=AE n
 |[],x,n,_=>by simp[wordsAt]
 |q::l,x,n,h=>by
  have J:=h q Az;have I:=J8 l x n λq e=>h q (BD _ e);simp[wordsAt,J,I]
def AT1(F:Fs)(S1:Sp)(b:Nat)(D':St):Fs:=⟨D',FK F.A b F.D.size,S1⟩
def tk(t:Wt)(l:List Cy)(i:Nat):Wt:={t with l:=l.take i}
theorem rQ{t l i tu}(h:l[i]?=AE tu):(tk t l i).snoc tu=tk t l (i+1):=by
 unfold tk Wt.snoc;simp only;rw[Bj,h];rfl
theorem Rj{t l i}(h:i<=l.length):(tk t l i).l.length=i:=by unfold tk;simp;omega
structure AX2 (w:World) (F:Fs) (n x:Nat) (t:Wt) (S1:Sp) (l:List Cy):Prop where
 n:n+l.length+1<=1000000
 eZ:F.S.ok
 taken:YK F.S S1 t.first t.blocks
 blocks:t.blocks=Cu t.h l.length
 ok:Ew t F.D.size
 bound:t.bound=l.length
 x:w<=x
 b:w<=t.b
 g:w<=t.g
 st:∀q∈F.A.st,q.1<w
def tr(r:Rt)(i:Nat):Rt:={r with pos:=i}
def AX1(w:World)(G:Nat->Prop)(p:Wp)(F:Fs)(n x:Nat)(r:Rt)(l:List Cy)(base pos cnt:Nat)(v:Value)(wr:World):Prop:=
 ∃G' D' ws,Sys wr G' p (AT1 F F.S r.b D') (n+pos)/\G3 wr x p (tr r pos) F.D.size ws/\OA G' x (tr r pos)/\DJ G w wr/\(∀k,G' k->G k\/w<=k)/\Nb F.D D' (Cu r.h pos)/\(∀i,D'.now i=F.D.now i)/\AL4 D' (tr r pos) l ws/\
  wr.ownsRow base 47 5 v cnt (EB (l.take cnt))/\(∀k,v.ownBlock=AE k->¬G' k)/\base<=wr
structure AX0 (w:World) (F:Fs) (n x:Nat) (r:Rt) (l:List Cy) (base:Nat):Prop where
 n:n+r.count+1<=1000000
 ok:JG {r with pos:=0} F.D.size
 blocks:r.blocks=Cu r.h r.count
 hx:w<=x
 hb:w<=r.b
 hg:w<=r.g
 st:∀q∈F.A.st,q.1<w
 I1:x<base/\r.b<base/\r.g<base
section
variable{w wr:World}{G:Nat->Prop}{p:Wp}{F:Fs}{n x:Nat}{r:Rt}{l:List Cy}{base pos cnt:Nat}{v:Value}
theorem Qd{h i}(hh:0<h):Cu h (i+1)=if i%h=0 then Cu h i+1 else Cu h i:=by
 have J:=(Qc (c:=i) hh).2.2;have I:=Es (c:=i+1) hh a5;by_cases e:i%h=0
 ·rw[if_pos e,KK e];omega
 ·rw[if_neg e];unfold Cu at J I⊢;rw[if_pos (show 0<i%h by omega)];omega
end
def sliceLen:Value->Nat
 |.slice _ n _=>n
 | _=>0
theorem lZ{w:World}{base n v l}(h:w.ownsRow base 47 5 v n (EB l)):sliceLen v=n:=by
 obtain⟨_,e⟩:=h;rcases e with⟨rfl,rfl⟩|⟨g,cap,cur,rfl,_⟩<;>rfl
theorem iy(b j:Nat):(b:Addr).add j=(b,j):=by unfold Cj;split<;>simp_all
theorem yM{wd wa ws d a s n D A S Gd Ga Gs}(hd:NC wd Gd d D n)(Dg:Below wd wd wa)(O:J5 wa Ga a A)(J:∀k,Ga k->wd<=k)(I:A.st=[])(DT:Below wa wa ws)(U:Ja ws Gs s S)(Q:∀k,Gs k->wa<=k):
  Sys (ws.alloc (AK #[ptr d,ptr a,ptr s] 87)) (λk=>k=ws\/Gd k\/Ga k\/Gs k) ⟨ws,d,a,s⟩ ⟨D,A,S⟩ n:=by
 have ED:Below ws ws (ws.alloc (AK #[ptr d,ptr a,ptr s] 87)):=(AS _ _).alloc ar _;have z1:=Dg.size;have z2:=DT.size;refine⟨Gd,Ga,Gs,heap_alloc_new _ _,((hd.below Dg).below (DT.mono ar)).below ED,?_,?_,λk=>BO,λk e=>⟨λh=>?_,λh=>?_,λh=>?_⟩,λk e=>⟨λh=>?_,λh=>?_⟩,λk e h=>?_,λq hq=>?_⟩
 ·exact(O.E4 (DJ.DE DT λ_=>False) (λ_ _ h=>h) (λ_ _ h=>h)).E4 (DJ.DE ED λ_=>False) (λ_ _ h=>h) (λ_ _ h=>h)
 ·exact U.below ED
 ·have:=hd.lt e;have:=J k h;omega
 ·have:=hd.lt e;have:=Q k h;omega
 ·have:=hd.lt e;simp only at h;omega
 ·have:=O.lt e;have:=Q k h;omega
 ·have:=O.lt e;simp only at h;omega
 ·have:=U.lt e;simp only at h;omega
 ·rw[show (⟨D,A,S⟩:Fs).A.st=[]from I]at hq;cases hq
theorem Wl{w G p F n}(h:Sys w G p F n)(f m:Nat)(hf:f<=100000000)(hm:m<=100000000):
  Calls AP 63 #[AI p.s,f,m] w λe w'=>e=AH ((E5 F.S f m).2:Nat)/\DU w G p {F with S:=(E5 F.S f m).1} n w':=by
 obtain⟨O,I,J⟩:=h.spc;exact(Xx p.s F.S O f m w I (Gj.of a5 a5) (Gj.of a5 a5)).mono λe w' ⟨he,h1⟩=>⟨he,J _ _ h1⟩
theorem Uk{w G p F n}(h:Sys w G p F n)(f m k c:Nat)(hf:f<=100000000)(hm:m<=100000000):
  Calls AP 67 #[AI p.w,AL #[f,m,k,c]] w λe w'=>e=AH (if m=0 then 0 else (E5 F.S f m).2:Nat)/\DU w G p {F with S:=Dq F.S f m} n w':=by
 have hb:=(AS w w).alloc ar (AK #[f,m,k,c] 28);have J:Row (w.alloc (AK #[f,m,k,c] 28)) w 28 [f,m,k,c]:=heap_alloc_new _ _;by_cases I:m=0
 ·subst I;have c1:(w.alloc (AK #[AA AB f,AA AB (0:Nat),AA AB k,AA AB c] 28)).cell? ⟨w.heap.size,1,AD⟩=AE (AA AB (0:Nat)):=J.cell 1;have HP:Hid (DU w G p {F with S:=Dq F.S f 0} n (w.alloc (AK #[AA AB f,AA AB (0:Nat),AA AB k,AA AB c] 28))):=DU.DE h hb;clear J hb h;generalize DU w G p {F with S:=Dq F.S f 0} n=Dh at*
  go_enter func67,ntmps67
  go_wp2
  go_ret
  exact⟨rfl,HP.out⟩
 ·have HB:=AO hb;have vO:Hid (Calls AP 63 #[AI p.s,f,m] (w.alloc (AK #[f,m,k,c] 28)).drew λe w'=>e=AH ((E5 F.S f m).2:Nat)/\DU w G p {F with S:=Dq F.S f m} n w'/\(w'.cell? w=AE (AA AB f)/\w'.cell? (w,1)=AE (AA AB m)/\w'.cell? (p.w,2)=AE (AI p.s))):=by
   have e:Dq F.S f m=(E5 F.S f m).1:=by unfold Dq;rw[if_neg I]
   rw[e];exact(Wl (h.below (DC hb)) f m hf hm).mono λe w' ⟨h1,O⟩=>by
    have U:=O.row (J.drewN 1) (λhg=>by have:=h.lt hg;omega);exact⟨h1,O.behind (DC hb),U.cell 0,U.cell 1,O.cell.2.2⟩
  have c0:(w.alloc (AK #[AA AB f,AA AB m,AA AB k,AA AB c] 28)).drew.cell? ⟨w.heap.size,0,AD⟩=AE (AA AB f):=J.cell 0;have c1:(w.alloc (AK #[AA AB f,AA AB m,AA AB k,AA AB c] 28)).cell? ⟨w.heap.size,1,AD⟩=AE (AA AB m):=J.cell 1;have d1:(w.alloc (AK #[f,m,k,c] 28)).drew.cell? (w,1)=AE (AA AB m):=J.cell 1;have c2:(w.alloc (AK #[f,m,k,c] 28)).drew.cell? (p.w,2)=AE (AI p.s):=(h.below hb).row.cell 2;have g1:((m:Int)==0)=false:=by simp;omega
  rw[if_neg I];clear J hb h;generalize DU w G p {F with S:=Dq F.S f m} n=Dh at*
  generalize(E5 F.S f m).2=er at*
  go_enter func67,ntmps67
  go_wp2
  go_region_held3 (λw'=>w'.cell? w.heap.size=AE (AA AB f)/\w'.cell? (w.heap.size,1)=AE (AA AB m)/\w'.cell? (p.w,2)=AE (AI p.s)) (first|with_reducible exact⟨c0,d1,c2⟩|with_reducible exact Q)
   (first
    |(go_at_call 63;(with_reducible refine vO.out.mono ?_);rintro e w2 ⟨rfl,O,Q⟩))
  have H2:=AO O;clear O Q;go_wp2
  go_ret
  exact⟨rfl,H2.out⟩
theorem Zf{m n}(h:m<=n):QN (Hs 0 n) 0 m:=by
 intro b _ hb;unfold Hs;simp only;rw[if_neg a5];exact⟨(0,n),a8,a8,by simp;omega⟩
instance tupDec : DecidableEq Cy := λa b => decidable_of_iff (a.EE = b.EE) ⟨λh => Cy.oM h, λh => h ▸ rfl⟩
theorem sY(w:World)(a b c d e a' b' c' J I:Int):(binOp .neq 47 (AL #[a,b,c,d,e]) (AL #[a',b',c',J,I])).run AP w=.ok (.bool (!(a==a'&&(b==b'&&(c==c'&&(d==J&&e==I)))))) w:=by
 have h:=oN w a b c d e a' b' c' J I;rw[run_eql_struct]at h;rw[run_neq_struct];generalize(Op.equalIn 10000 47 (AL #[a,b,c,d,e]) (AL #[a',b',c',J,I])).run AP w=R at h⊢;generalize(a==a'&&(b==b'&&(c==c'&&(d==J&&e==I))))=X at h⊢
 cases R with
 |ok b w'=>simp[BU]at h⊢;obtain⟨rfl,rfl⟩:=h;exact⟨rfl,rfl⟩
 | _=>simp[BU]at h
theorem yK(t u:Cy):(t.a==u.a&&(t.b==u.b&&(t.c==u.c&&(t.d==u.d&&t.e==u.e))))=decide (t=u):=by
 obtain⟨a,b,c,d,e⟩:=t;obtain⟨a',b',c',Q,O⟩:=u;simp only[Cy.mk.injEq];by_cases J:a=a'<;>by_cases I:b=b'<;>by_cases h3:c=c'<;>by_cases h4:d=Q<;>by_cases h5:e=O<;>simp[J,I,h3,h4,h5]
def Ov(t:Cy)(i:Nat):Int:=if i=0 then t.a else if i=1 then t.b else if i=2 then t.c else if i=3 then t.d else t.e
theorem oG(k:Nat)(t:Cy):Db k t=true↔∀i,k<=i->i<5->Ov t i=0:=by
 obtain⟨a,b,c,d,e⟩:=t;unfold Db Cy.EE;constructor
 ·intro h i hk hi;have U:=List.all_eq_true.1 h;have hm:([a,b,c,d,e]:List Int)[i]?=AE (Ov ⟨a,b,c,d,e⟩ i):=by
   match i,hi with
   |0,_=>rfl
   |1,_=>rfl
   |2,_=>rfl
   |3,_=>rfl
   |4,_=>rfl
   |i+5,hi=>omega
  have Q:([a,b,c,d,e].drop k)[i-k]?=AE (Ov ⟨a,b,c,d,e⟩ i):=by rw[Bc,show k+(i-k)=i by omega];exact hm
  simpa using U _ (Ae Q)
 ·intro h;rw[List.all_eq_true];intro x O;obtain⟨j,I⟩:=List.getElem?_of_mem O;rw[Bc]at I;have J:k+j<5:=(BI.1 I).1;have h3:=h (k+j) a5 J;generalize k+j=i at I J h3
  match i,J with
  |0,_=>simp at I;subst I;simpa [Ov]using h3
  |1,_=>simp at I;subst I;simpa [Ov]using h3
  |2,_=>simp at I;subst I;simpa [Ov]using h3
  |3,_=>simp at I;subst I;simpa [Ov]using h3
  |4,_=>simp at I;subst I;simpa [Ov]using h3
  |i+5,hi=>omega
theorem lN(t:Cy)(k:Nat)(w:World)(ad:k<=5):Calls AP 27 #[AL #[t.a,t.b,t.c,t.d,t.e],k] w λe w'=>e=AH (.bool (Db k t))/\Below w w w':=by
 have hr:Row (w.alloc (AK #[t.a,t.b,t.c,t.d,t.e] 47)) w 47 [t.a,t.b,t.c,t.d,t.e]:=heap_alloc_new _ _;have HR:Hid (∀i,i<5->(w.alloc (AK #[t.a,t.b,t.c,t.d,t.e] 47)).cell? (w,i)=AE (AA AB (Ov t i))):=λi hi=>by
  rw[hr.cell i]
  match i,hi with
  |0,_=>rfl
  |1,_=>rfl
  |2,_=>rfl
  |3,_=>rfl
  |4,_=>rfl
  |i+5,hi=>omega
 have HB:Hid (Below w w (w.alloc (AK #[t.a,t.b,t.c,t.d,t.e] 47))):=(AS w w).alloc ar _;have HF:Hid ((∀i,k<=i->i<5->Ov t i=0)↔Db k t=true):=(oG k t).symm;generalize Db k t=ft at*
 clear hr;obtain⟨W,hW⟩:=ae (w.alloc (AK #[t.a,t.b,t.c,t.d,t.e] 47));have HW:=AO hW;rw[<-hW]at HR HB;clear hW;go_enter func27,ntmps27
 go_wp2
 rw[<-HW.out];go_loopw [5] (λU wr=>∃i:Nat,i<=5/\U=AA AB (i:Int)/\wr=W/\Hid (∀j,k<=j->j<i->Ov t j=0)) (λU _=>5-(BF U).toNat)
 case atStart=>exact⟨0,Ao _,rfl,by trivial,λj _ hj=>absurd hj (Nat.not_lt_zero _)⟩
 case round=>
  obtain⟨i,hi,rfl,rfl,HZ⟩:=hrel;by_cases O:i<5
  ·have hc:=HR.out i O;generalize hz:Ov t i=z at hc;have Q:=AO hz;clear hz;have g0:decide ((i:Int)<5)=true:=by simp;omega
   have i0:(0:Int)<=(i:Int):=a5;have i5:(i:Int)<5:=a5;by_cases ab:k<=i
   ·have g1:decide ((i:Int)≥(k:Int))=true:=by simp;omega
    by_cases J:z=0
    ·have g2:(z !=0)=false:=by simpa using J
     have I:Hid (∀j,k<=j->j<i+1->Ov t j=0):=λj h1 h2=>by
      by_cases h3:j=i
      ·subst h3;rw[Q.out];exact J
      ·exact HZ.out j h1 a5
     clear J;go_wp2
     go_roundw
     case rel=>exact⟨i+1,a5,by go_num,by trivial,I.out⟩
     case measure=>simp[BF];omega
    ·have g2:(z !=0)=true:=by simpa using J
     have OI:Hid (ft=false):=by
      unfold Hid
      cases ft
      ·rfl
      ·exact absurd ((HF.out.2 rfl) i ab O) (by rw[Q.out];exact J)
     clear J;go_wp2
     go_ret
     rw[OI.out];exact⟨rfl,HB.out⟩
   ·have g1:decide ((i:Int)≥(k:Int))=false:=by simp;omega
    have I:Hid (∀j,k<=j->j<i+1->Ov t j=0):=λj h1 h2=>HZ.out j h1 a5;go_wp2
    go_roundw
    case rel=>exact⟨i+1,a5,by go_num,by trivial,I.out⟩
    case measure=>simp[BF];omega
  ·obtain rfl:i=5:=a5;have OI:Hid (ft=true):=HF.out.1 HZ.out;go_wp2
   go_ret
   rw[OI.out];exact⟨rfl,HB.out⟩
theorem AE9(A:Option Addr)(m c:Nat)(l:List Cy)(k:Nat)(w:World)(h:El w w A m l)(hk:k<=5)(hm:m<=maxLen):Calls AP 11 #[AJ A m c,k] w λe w'=>e=AH (.bool (l.all (Db k)))/\Below w w w':=by
 have hlen:=h.1;have HR:=AO h;have HA:Hid ((∀u∈l,Db k u=true)↔l.all (Db k)=true):=List.all_eq_true.symm;have ad:m<=9223372036854775807:=by unfold maxLen at hm;omega
 have HL:=AO hlen;generalize l.all (Db k)=Q at*
 clear h hlen hm;go_enter func11,ntmps11
 go_wp2
 go_loopw [5] (λJ wr=>∃i:Nat,i<=m/\J=AA AB (i:Int)/\Hid (Below w.heap.size w wr)/\Hid (∀u∈l.take i,Db k u=true)) (λJ _=>m-(BF J).toNat)
 case atStart=>exact⟨0,Ao _,rfl,AS _ _,λu hu=>by simp at hu⟩
 case round=>
  obtain⟨i,hi,rfl,I,HT⟩:=hrel;by_cases O:i<m
  ·obtain⟨b,off,t,rfl,I0,q0,q1,q2,q3,q4,_,ht⟩:=(HR.out.GQ I.out).at_ O;have U:=AO (lN t k wr hk);have i0:(0:Int)<=(i:Int):=a5;have i1:(i:Int)<(m:Int):=a5;have g0:decide ((i:Int)<(m:Int))=true:=by simp;omega
   have PW:Hid (Db k t=true->∀u∈l.take (i+1),Db k u=true):=λhf u hu=>by
    rw[Bj,ht.out]at hu;rcases Ah.1 hu with hu|hu
    ·exact HT.out u hu
    ·simp at hu;subst hu;exact hf
   have Ly:Hid (Db k t=false->Q=false):=λhf=>by
    cases Q
    ·rfl
    ·have:=HA.out.2 rfl t (Ae ht.out);rw[hf]at this;cases this
   generalize Db k t=ft at*
   obtain⟨ta,tb,tc,td,te⟩:=t;simp only at q0 q1 q2 q3 q4 U
   cases ft
   ·go_wp2_with fail
    refine U.out.mono ?_;rintro e w5 ⟨rfl,hb⟩;have EV:=AO (I.out.trans (hb.mono I.out.size));clear hb;go_wp2
    go_ret
    rw[Ly.out (by trivial)];exact⟨rfl,EV.out⟩
   ·go_wp2_with fail
    refine U.out.mono ?_;rintro e w5 ⟨rfl,hb⟩;have EV:=AO (I.out.trans (hb.mono I.out.size));clear hb;go_wp2
    go_roundw
    case rel=>exact⟨i+1,a5,by go_num,EV.out,PW.out (by trivial)⟩
    case measure=>simp[BF];omega
  ·obtain rfl:i=m:=a5;have g0:decide ((i:Int)<(i:Int))=false:=a8;have ab:Hid (Q=true):=HA.out.1 λu hu=>HT.out u (by rw[Ay (by rw[HL.out];exact AQ _)];exact hu);go_wp2
   go_ret
   rw[ab.out];exact⟨rfl,I.out⟩
theorem rK{l l':List Cy}{i:Nat}{t t'}(h:l[i]?=AE t)(h':l'[i]?=AE t')(I:t≠t'):l≠l':=λe=>by
 rw[e,h']at h;injection h with h;exact I h.symm
theorem AD4(A A':Option Addr)(m m' c c':Nat)(l l':List Cy)(w:World)(h:El w w A m l)(h':El w w A' m' l')(hm:m<=maxLen)(Q:m'<=maxLen):Calls AP 17 #[AJ A m c,AJ A' m' c'] w λe w'=>e=AH (.bool (decide (l=l')))/\∃q,w'=w.drewN q:=by
 have hlen:=h.1;have I:=h'.1;have ao:m<=9223372036854775807:=by unfold maxLen at hm;omega
 have aD:m'<=9223372036854775807:=by unfold maxLen at Q;omega
 by_cases J:m=m'
 ·subst J;have HR:=AO h;have al:=AO h';have HL:=AO hlen;have an:=AO I;have g9:((m:Int) !=(m:Int))=false:=a8;clear h h' hlen I hm Q;go_enter func17,ntmps17
  go_wp2
  go_loopw [5] (λiv wr=>∃i:Nat,i<=m/\iv=AA AB (i:Int)/\(∃q,wr=w.drewN q)/\Hid (l.take i=l'.take i)) (λiv _=>m-(BF iv).toNat)
  case atStart=>exact⟨0,Ao _,rfl,⟨0,rfl⟩,by simp[Hid]⟩
  case round=>
   obtain⟨i,hi,rfl,⟨q0,rfl⟩,HT⟩:=hrel;by_cases ab:i<m
   ·obtain⟨b,off,t,rfl,I0,d0,d1,d2,d3,d4,_,ht⟩:=HR.out.at_ ab;obtain⟨b',SD,U,rfl,aC,s0,s1,s2,s3,s4,_,Yc⟩:=al.out.at_ ab;have i0:(0:Int)<=(i:Int):=a5;have i1:(i:Int)<(m:Int):=a5;have g0:decide ((i:Int)<(m:Int))=true:=by simp;omega
    have heq:=yK t U;have PW:Hid (t=U->l.take (i+1)=l'.take (i+1)):=λhf=>by
     rw[Bj,Bj,HT.out,ht.out,Yc.out,hf]
    have Ly:Hid (t≠U->l≠l'):=rK ht.out Yc.out;generalize ad:decide (t=U)=bq at heq;have O:=AO ad;obtain⟨ta,tb,tc,td,te⟩:=t;obtain⟨ua,ub,uc,ud,ue⟩:=U;simp only at d0 d1 d2 d3 d4 s0 s1 s2 s3 s4 heq;have aB:∀q,(w.drewN q).cell? (b,off+i*5)=AE (AA AB ta):=λ_=>d0;have aA:∀q,(w.drewN q).cell? (b,off+i*5+1)=AE (AA AB tb):=λ_=>d1;have az:∀q,(w.drewN q).cell? (b,off+i*5+2)=AE (AA AB tc):=λ_=>d2;have ay:∀q,(w.drewN q).cell? (b,off+i*5+3)=AE (AA AB td):=λ_=>d3;have ax:∀q,(w.drewN q).cell? (b,off+i*5+4)=AE (AA AB te):=λ_=>d4;have aw:∀q,(w.drewN q).cell? (b',SD+i*5)=AE (AA AB ua):=λ_=>s0;have av:∀q,(w.drewN q).cell? (b',SD+i*5+1)=AE (AA AB ub):=λ_=>s1;have au:∀q,(w.drewN q).cell? (b',SD+i*5+2)=AE (AA AB uc):=λ_=>s2;have ar:∀q,(w.drewN q).cell? (b',SD+i*5+3)=AE (AA AB ud):=λ_=>s3;have aq:∀q,(w.drewN q).cell? (b',SD+i*5+4)=AE (AA AB ue):=λ_=>s4;have hq:=λW=>sY W ta tb tc td te ua ub uc ud ue;simp only[heq]at hq;have hg:=λW x y=>Ub W .neq x y #[ta,tb,tc,td,te] #[ua,ub,uc,ud,ue];clear heq ad ht Yc
    cases bq
    ·have qb:Hid (decide (l=l')=false):=by
      unfold Hid;rw[decide_eq_false_iff_not];exact Ly.out (of_decide_eq_false O.out)
     clear O Ly PW;go_wp2
     go_quiet (fail)
     go_wp2
     go_ret
     exact⟨IK qb.out.symm,_,World.drewN_drewN _ _ _⟩
    ·have ae:=AO (PW.out (of_decide_eq_true O.out));clear O Ly PW;go_wp2
     go_quiet (fail)
     go_wp2
     go_roundw
     case rel=>exact⟨i+1,a5,by go_num,⟨_,rfl⟩,ae.out⟩
     case measure=>simp[BF];omega
   ·obtain rfl:i=m:=a5;have HE:Hid (decide (l=l')=true):=by
     have h:=HT.out;rw[Ay (by have:=HL.out;omega),Ay (by have:=an.out;omega)]at h;exact decide_eq_true h
    have g0:decide ((i:Int)<(i:Int))=false:=a8;go_wp2
    go_ret
    exact⟨IK HE.out.symm,q0,rfl⟩
 ·have qb:Hid (decide (l=l')=false):=by
   unfold Hid;rw[decide_eq_false_iff_not];intro e;exact J (by rw[<-hlen,<-I,e])
  have g9:((m:Int) !=(m':Int))=true:=by simpa using λh:(m:Int)=(m':Int)=>J a5
  clear h h' hlen I hm Q J;go_enter func17,ntmps17
  go_wp2
  go_ret
  exact⟨IK qb.out.symm,0,rfl⟩
section
variable{H:Type}{enc:TypeId×Value->H}{P:Program}{w:World}{base b0:Nat}{spare:Nat->Bool}{held:Bool}{r:Reach}
theorem dm{t e fuel cs x}(ht:P.underlying t=AE (.array 5 e))(he:P.underlying e=AE (.int AB))(ad:P.cellsOf e=1)(ab:P.cellsOf t=5)(h:DataW.trod enc P w base spare held fuel t cs=AE x):∃u:Cy,cs=DH u/\D7 u:=by
 obtain⟨xs,m,_,_,hl,ae,hx⟩:=DataW.trod_array ht h;rw[ab]at hl;have GA:∀i,i<5->∃z,cs[i]?=AE (AA AB z)/\Gj z:=by
  intro i hi;have h1:=hx i hi;rw[ad,Cm]at h1;rw[Bv a5,List.take_succ_cons,Bs]at h1;rw[AU (show i<xs.length by omega)]at h1;obtain⟨z,hz,_,hw⟩:=DataW.trod_int he h1;injection hz with hz
  exact⟨z,by rw[AU a5,hz],hw⟩
 clear hx h
 match cs,hl,GA with
 |[c0,c1,c2,c3,c4],_,GA=>
  obtain⟨z0,e0,w0⟩:=GA 0 a5;obtain⟨z1,e1,w1⟩:=GA 1 a5;obtain⟨z2,e2,w2⟩:=GA 2 a5;obtain⟨z3,e3,w3⟩:=GA 3 a5;obtain⟨z4,e4,w4⟩:=GA 4 a5;have U:AE c0=AE (BZ AB z0):=e0;injection U with U
  subst U;have Q:AE c1=AE (BZ AB z1):=e1;injection Q with Q
  subst Q;have O:AE c2=AE (BZ AB z2):=e2;injection O with O
  subst O;have J:AE c3=AE (BZ AB z3):=e3;injection J with J
  subst J;have I:AE c4=AE (BZ AB z4):=e4;injection I with I
  subst I;refine⟨⟨z0,z1,z2,z3,z4⟩,rfl,λz hz=>?_⟩;simp[Cy.EE]at hz;rcases hz with rfl|rfl|rfl|rfl|rfl<;>assumption
theorem AD5{t e i fuel v x}(ht:P.underlying t=AE (.slice e))(he:P.underlying e=AE (.array 5 i))(hi:P.underlying i=AE (.int AB))(ae:P.cellsOf i=1)(hC:P.cellsOf e=5)
  (h:DataW.trod enc P w base spare held fuel t [v]=AE x):∃a len cap l,v=.slice a len cap/\El w w a len l/\len<=maxLen:=by
 rcases open_slice ht h with h0|⟨a,len,cap,m,n,D,Pl,I,hb,hl,hm,ab,hx,ad⟩
 ·have h2:=h0.1;injection h2 with h2;subst h2
  exact⟨AD,0,0,[],rfl,El.nil _ _ _,Ao _⟩
 ·injection I with I;subst I
  have an:len<=m:=by split at ab<;>omega
  have hex:∀k,k<len->∃o:Cy,D7 o/\∀(j:Nat) (u:Value),(DH o)[j]?=AE u->w.cell? (a.add (k*5+j))=AE u:=by
   intro k O;obtain⟨JU,hc,Yc⟩:=ad k a5;rw[hC]at hc;obtain⟨o,rfl,J⟩:=dm he hi ae hC Yc;obtain⟨_,Fl,Eu⟩:=World.cells?_some hc;refine⟨o,J,λj u Q=>?_⟩;have cM:j<5:=(BI.1 Q).1;rw[<-Go.Deep.add_add,Eu j cM,Q]
  obtain⟨f,hf⟩:∃f:Nat->Cy,∀k,k<len->D7 (f k)/\∀(j:Nat) (u:Value),(DH (f k))[j]?=AE u->w.cell? (a.add (k*5+j))=AE u:=by
   have:∀k,∃o:Cy,k<len->D7 o/\∀(j:Nat) (u:Value),(DH o)[j]?=AE u->w.cell? (a.add (k*5+j))=AE u:=λk=>by
    by_cases O:k<len
    ·obtain⟨o,J⟩:=hex k O;exact⟨o,λ_=>J⟩
    ·exact⟨Cz,λh=>absurd h O⟩
   exact⟨λk=>(this k).choose,λk=>(this k).choose_spec⟩
  have al:0<len->a.spot=AD:=λhp=>by
   have:=(hf 0 hp).2 0 _ rfl;simpa [Cj]using World.cell?_spot this
  obtain⟨b,off,spot⟩:=a;have e:∀k j,spot=AD->(⟨b,off,spot⟩:Addr).add (k*5+j)=(b,off+k*5+j):=by
   intro k j U;subst U;unfold Cj;split<;>simp_all [B8]
  refine⟨_,len,cap,(Bo len).map f,rfl,⟨a8,?_,λDi=>?_⟩,a5⟩
  ·intro o J;obtain⟨k,O,rfl⟩:=Av.1 J;exact(hf k (List.mem_range.1 O)).1
  ·have U:spot=AD:=al Di;subst U;refine⟨b,off,rfl,?_,λk jV j u Q=>?_⟩
   ·have:=(hf 0 Di).2 0 _ rfl;rw[e _ _ rfl]at this;exact block_lt_of_cell this
   ·have hD:((Bo len).map f).getD k Cz=f k:=by
     rw[AT,Bk,List.getElem?_range jV];rfl
    rw[hD]at Q;have:=(hf k jV).2 j u Q;rw[e _ _ rfl]at this;exact this
end
def Ac6(w0:World)(p:Wp)(F:Fs)(n:Nat)(rs:List (Nat×TypeId×List Value))(W:World):Prop:=
 ∃G,Sys W G p F n/\(∀k,G k->w0<=k)/\Below w0 w0 W/\∀r∈rs,Row W r.1 r.2.1 r.2.2/\¬G r.1/\r.2.1≠119
theorem dy{S S1 a m}(e:YK S S1 a m):EI S1.fr+m=EI S.fr:=by
 rcases e with⟨rfl,_,rfl⟩|⟨hm,e,_⟩
 ·rfl
 ·exact e.sum
theorem UO(n:Nat):EI (Hs 0 n).fr=n:=by
 unfold Hs EI;simp only
 split<;>simp_all
theorem aJ{w G p F n x r ws l}(h:Sys w G p F n)(hn:n<1000000)(I:JG r F.D.size)(hm:G3 w x p r F.D.size ws)(ho:OA G x r)(hc:l.length=r.count)(Di:r.pos<r.count)
  (ab:r.pos%r.h=0->(read F.D ((r.first+r.pos/r.h:Nat):Int)).1=0/\F.D.now ((r.first+r.pos/r.h:Nat):Int)=Gq F.D.size (r.first+r.pos/r.h) r.k (JN r.h r.k l (r.pos/r.h)))
  (Sg:r.pos%r.h≠0->ws.take (min r.h (r.count-r.pos/r.h*r.h)*r.k)=JN r.h r.k l (r.pos/r.h)){t}(ht:l[r.pos]?=AE t)(O:D7 t)(Q:Db r.k t=true):
  Calls AP 48 #[AI x] w λe w'=>e=AH (AM #[AL #[t.a,t.b,t.c,t.d,t.e],true,()])/\
   ∃E9,KY w G p {F with D:=bZ F.D r} (n+1) x {r with pos:=r.pos+1} E9 w'/\E9.take (min r.h (r.count-r.pos/r.h*r.h)*r.k)=JN r.h r.k l (r.pos/r.h):=by
 unfold bZ;have ad:=I.sz;by_cases J:r.pos%r.h=0
 ·rw[if_pos J];obtain⟨he,hs⟩:=ab J;have Gi:(JN r.h r.k l (r.pos/r.h)).length=min r.h (r.count-r.pos/r.h*r.h)*r.k:=by rw[fI I.k.2,hc]
  have hle:(JN r.h r.k l (r.pos/r.h)).length<=F.D.size-2:=Ag (sS I.k.2 l _) I.h.2.1;have g1:okW (F.D.now ((r.first+r.pos/r.h:Nat):Int)) (r.first+r.pos/r.h)=true:=by rw[hs];exact ry hle a5
  have g2:Pa (F.D.now ((r.first+r.pos/r.h:Nat):Int))=r.k:=by rw[hs];exact Ww hle a5
  have g3:GH (F.D.now ((r.first+r.pos/r.h:Nat):Int))-1=min r.h (r.count-r.pos/r.h*r.h)*r.k:=by rw[hs,Wx hle a5,Gi,BV]
  have g4:(F.D.now ((r.first+r.pos/r.h:Nat):Int)).take (min r.h (r.count-r.pos/r.h*r.h)*r.k)=JN r.h r.k l (r.pos/r.h):=by rw[hs,<-Gi];exact UJ
  have U:(splice ws 0 ((F.D.now ((r.first+r.pos/r.h:Nat):Int)).take (min r.h (r.count-r.pos/r.h*r.h)*r.k))).take (min r.h (r.count-r.pos/r.h*r.h)*r.k)=JN r.h r.k l (r.pos/r.h):=by
   rw[g4];unfold splice;rw[Bs,BL,List.take_left' Gi]
  have Fl:=aK h I hm ho Di (Jh F.D ((r.first+r.pos/r.h:Nat):Int) 0).2.1 J λW hb=>fG (h.below hb) hn I (hm.below hb) ho Di he g1 g2 g3;rw[V0 I.k.2 I.h.1 Di hc U ht O Q]at Fl;exact Fl.mono λe w' ⟨h1,h2⟩=>⟨h1,_,h2,U⟩
 ·rw[if_neg J];have hb:=Sg J;have Fl:=Uf h I hm ho Di J;rw[V0 I.k.2 I.h.1 Di hc hb ht O Q]at Fl;exact Fl.mono λe w' ⟨h1,G',k1,k2⟩=>⟨h1,_,⟨G',k1.mono a5 a5,k2⟩,hb⟩
def AW9(w0:World)(p:Wp)(F:Fs)(n:Nat)(rs:List (Nat×TypeId×List Value))(x:Nat)(r:Rt)(ws:List Nat)(W:World):Prop:=
 ∃G,Sys W G p F n/\(∀k,G k->w0<=k)/\Below w0 w0 W/\(∀q∈rs,Row W q.1 q.2.1 q.2.2/\¬G q.1/\q.2.1≠119/\q.2.1≠120/\q.2.1≠134)/\G3 W x p r F.D.size ws/\OA G x r/\w0<=x/\w0<=r.b/\w0<=r.g
theorem Jd(l:List (Nat×Nat))(x y n m:Nat)(h:wordsAt l x=AE n):wordsAt (l++[(y,m)]) x=AE n:=by
 induction l with
 |nil=>simp[wordsAt]at h
 |cons q l ih=>
  simp only[CQ,wordsAt]at h⊢
  split
  ·rename_i h1;rw[if_pos h1]at h;exact h
  ·rename_i h1;rw[if_neg h1]at h;exact ih h
theorem E6:∀(l:List (Nat×Nat)) (x y n:Nat),wordsAt l x=AE n->x≠y->wordsAt (Fu l y) x=AE n
 |[],x,y,n,h,_=>by simp[wordsAt]at h
 |q::l,x,y,n,h,hne=>by
  simp only[wordsAt]at h;simp only[Fu];by_cases I:q.1=y
  ·rw[if_pos I];rw[if_neg (by rw[I];exact λe=>hne e.symm)]at h;exact h
  ·rw[if_neg I];simp only[wordsAt];by_cases J:q.1=x
   ·rw[if_pos J]at h⊢;exact h
   ·rw[if_neg J]at h⊢;exact E6 l x y n h hne
structure Wok (w0 W:World) (G:Nat->Prop) (p:Wp) (F:Fs) (x:Nat) (t:Wt):Prop where
 ok:Ew t F.D.size
 mem:O4 W x p t F.D.size
 out:YJ G x t
 st:wordsAt F.A.st t.b=AE F.D.size
 stand:Ik F.D t
 new:w0<=x/\w0<=t.b/\w0<=t.g
 fit:∀u∈t.l,D7 u/\Db t.k u=true
structure Wap (x:Nat) (t:Wt) (x':Nat) (t':Wt):Prop where
 x:x≠x'
 b:t.b≠t'.b
 g:t.g≠t'.g
 ext:∀i,t.first<=i->i<t.first+t.blocks->¬(t'.first<=i/\i<t'.first+t'.blocks)
section
variable{w0 W W':World}{G G':Nat->Prop}{p:Wp}{F F':Fs}{n x:Nat}{t:Wt}
theorem dZ(h:Sys W G p F n)(width bound:Int)(Q:Below w0 w0 W):Calls AP 28 #[AI p.w,width,bound] W λe w'=>
  (∃er,e=AH (AM #[AI AD,AA AB er])/\AL2 F width bound er/\DU W G p F n w')\/
  (∃x t S' G',e=AH (AM #[AI (AE ⟨x,0,AD⟩),()])/\Mg F width bound/\F.D.size<=F.A.room-F.A.used/\(t.k:Int)=width/\(t.bound:Int)=bound/\t.h=Cw F.D.size width/\t.l=[]/\YK F.S S' t.first t.blocks/\(∀q∈F.A.st,q.1≠t.b)/\
   Sys w' G' p {F with S:=S',A:=FK F.A t.b F.D.size} n/\Wok w0 w' G' p {F with S:=S',A:=FK F.A t.b F.D.size} x t/\DJ G W w'/\(∀k,G' k->G k\/W<=k)/\W<=x/\W<=t.b/\W<=t.g):=by
 refine(aG h width bound).mono ?_;rintro e w' (⟨er,he,hw,hs⟩|⟨x,t,S1,he,vz,ML,Of,U,O,J,ab,wB,DN,k1,k2,k3,G1,k4,k5,k6,k7,k8⟩)
 ·exact .inl ⟨er,he,hw,hs⟩
 ·have z:=Q.size;have I:∀q∈F.A.st,q.1≠t.b:=λq I e=>by have:=(h.buf I).1.lt;omega
  exact .inr ⟨x,t,S1,G1,he,vz,ML,Of,U,O,J,wB,I,k4,⟨DN,k5,k6,J8 _ _ _ I,Yq J,⟨a5,a5,a5⟩,λu hu=>by rw[J]at hu;cases hu⟩,k7,k8,k1,k2,k3⟩
end
end Go.Proofs.YthfnbpjegjbbiaaGreat
