/- What the laws stand on. -/
import Derived.Test.YthfnbpjegjbbiaaGreatPD
namespace Go.Proofs.YthfnbpjegjbbiaaGreat
set_option linter.unusedVariables false
set_option linter.unusedSimpArgs false
set_option maxRecDepth 100000
set_option maxHeartbeats 8000000
open Go.ChangeShapes Go.WideShapes Go.ChangeAt Go.RowKit
open Go.Joins Go.Deep
open Go.ChangeShapes Go.WideShapes Go.ChangeAt Go.RowKit Go.Maps
open Go.ChangeMaps (setBlock heap_setBlock_same heap_setBlock_other)
open Go.Value renaming pointer → AI
open Go.Value renaming int → AA
open Go.IntKind renaming i64 → AB
open Option renaming some → AE
open Option renaming none → AD
open Lib renaming hid → AG
open Go.Ending renaming returned → AH
open Go.Value renaming slice → AJ
open Go.Obj renaming cells → AK
open Go.Value renaming agg → AL
open Go.Value renaming tuple → AM
open Go.Lib renaming hid → AO
open Go.Proofs.Tryz renaming prog → AP, underlying101 → Ad, underlying116 → Bc, results139 → Ca
open Nat renaming le_refl → AQ, mul_le_mul_right → Ae, le_trans → Af, lt_or_ge → Am, sub_self → Ap, zero_le → Aq, add_mul → A6, eq_zero_or_pos → A7, one_mul → BD, lt_of_lt_of_le → BH, zero_add → BL, add_sub_cancel → BQ, div_le_self → BW, min_eq_left → Bh, mod_lt → Bw, mul_comm → B6, add_assoc → CK, zero_mul → CS, div_mul_le_self → CU, min → CW, reduceAdd → Cb, lt_of_le_of_lt → Ce, add_sub_cancel_left → Cm
open List renaming append_assoc → AR, getD_eq_getElem?_getD → AT, getElem?_eq_getElem → AU, getElem?_cons_succ → AV, getElem?_cons_zero → AW, getElem?_append_right → AX, length_append → AY, append_nil → AZ, length_take → Ac, mem_append → Ag, length_map → Aj, mem_of_getElem? → Ak, getElem?_append_left → Al, length_drop → An, take_of_length_le → Ao, set_append_right → As, getElem?_take → At, getElem?_set → Av, mem_cons_self → Ax, mem_map → Az, mem_cons → A8, replicate → BA, mem_cons_of_mem → BB, mem_iff_getElem? → BC, getElem?_eq_none → BG, nil_append → BI, getElem?_eq_some_iff → BM, getElem_of_mem → BO, take_append_drop → BS, length_cons → BY, filter_append → Ba, getElem?_map → Bd, take_add_one → Bi, length_set → Bk, mem_singleton → Bn, mem_of_mem_take → Bo, getElem_mem → Bs, take_zero → Bt, range → Bu, take_length → By, set_cons_succ → Bz, pairwise_iff_getElem → B0, nodup_cons → B3, mem_filter → B4, take_take → B7, cons_append → B8, getElem?_drop → CL, drop_eq_getElem_cons → CQ, take_append_of_le_length → CX, findIdx_le_length → Cg, map_append → Cj, drop_zero → Cn, drop_drop → Co
open Go.RowKit.Below renaming refl → AS, trans → CM, size → CN, mono → CO
open Go.IntKind renaming i64 → Aa, wrap_i64 → BV
open Go renaming cell_regrown → Ab, bodyPost_ret → Aw, leaves_cons → Ay, wp_region_quiet_below → Bb, FrameMode → Bf, below_regrown → Bj, run_underlying → Bv, wpQuiet_nil → CV, block_lt_of_cell → Ci, Regrown → Cq
open Go.IntWalk renaming i64_in → Ah
open Go.Sort renaming grow → Ai
open Go.RowKit renaming intOf → BF
open Iff renaming rfl → BN
open Go.Result renaming andThen → BP
open Go.Calls renaming regrown_of → BU
open Int renaming toNat_natCast → BX, natCast_mul → Be, lt_trichotomy → Ck, tmod → Cp
open Go.Builtin renaming zeroCells → BZ
open Go.Value renaming int → Bg, ownBlock → Bp
open Go.Addr renaming add_lit → Bl, add → CY
open Go.Ending renaming returned → Bm
open And renaming intro → Bq
open Go.Sem renaming run → Br
open Go.Instr renaming index → CR
open Classical renaming byContradiction → CZ
open List.Perm renaming append_left → Cc, refl → Cf
open Go.Lit renaming int → Cd
open Go.Proofs.Tryz
open Nat.le renaming refl → ao
section
variable{X:Cx}{DH:List DA}{o:Cv}{once RE:Bool}{k hh bd xw tT fP n:Nat}{vT:Value}{Z:List Cv->List DA}{js sb rb Dl first nb count m:Nat}{l:List Cv}{W:World}
theorem qv(hS:ow X o once k hh bd xw tT fP vT Z n)(Qs:DH[js]?=AE (Cs sb 193 (Em X.p.w k hh rb Dl o RE bd)))
  (h:Wd X (DH++Z []) m W)(DK:GY first nb k hh l X.sz)(hc:l.length=count)(EY:Src DH X.sz first k hh l)
  (aF:0<rb/\rb<=100000)(aa:X.sz+(min count (rb*hh)*k)+DC DA.gw (DH++Z [])<=X.rm)(EA:X.rm<=1000000)(bb:count<=bd/\bd<=100000)(hn:X.N+m+3*count+3<=1000000):
  Calls AP 141 #[AI sb,AL #[first,nb,k,count],.iface tT vT] W λe w'=>
   (e=AH ()/\∃s,s.length=count/\Yo o (rb*hh) s/\Cl o l s/\ID k s/\Wd X (DH++Z s) (m+nb+I3 once o hh s) w')\/
   (e=AH (AA AB 6)/\¬X.cm/\∃z m',Q8 X xw bd n Z z/\Wd X (DH++z) m' w'):=by
 have Ft:=hS.len [];have aJ:∀W z UD m,Wd X (DH++z++UD) m W->Row W sb 193 (Em X.p.w k hh rb Dl o RE bd):=λW z UD m h=>h.row (ZZ Qs);obtain⟨W1,EB⟩:=ae (W.alloc (AK #[first,nb,k,count] 28));have DV:Below W W W1:=by rw[EB];exact(AS _ _).alloc ao _
 have ER:Row W1 W 28 [first,nb,k,count]:=by rw[EB];exact heap_alloc_new _ _
 have J:Wd X (DH++Z []++[Cs W 28 [first,nb,k,count]]) m W1:=h.new DV ER ao;have E0:=AO EB;generalize LI:W.heap.size=fb at*
 generalize hM:min count (rb*hh)=q at*
 have aG:q<=count/\q<=rb*hh:=by rw[<-hM];exact⟨Nat.min_le_left _ _,Nat.min_le_right _ _⟩
 let P0:Nat->Nat->Nat->Nat->Nat->FP:=λx b g tb H=>⟨X,DH,Z,o,once,k,hh,bd,xw,tT,fP,vT,n,first,nb,count,q,m,fb,x,b,g,tb,H,l⟩
 have GZ:DC DA.gw (DH++Z []++[Cs fb 28 [first,nb,k,count]])=DC DA.gw (DH++Z []):=by rw[Dz];rfl
 have LJ:Hid (∀d,Calls AP 46 #[AI (AE ⟨X.p.w,0,AD⟩),AL #[AA AB first,AA AB nb,AA AB k,AA AB count]] (W1.drewN d) λe w'=>∃x b g,e=AH (AM #[AI (AE ⟨x,0,AD⟩),AA AB 0])/\
   JA (⟨k,hh,first,nb,count,0,b,g⟩:Rt) X.sz/\Wd X (DH++Z []++[Cs fb 28 [AA AB first,AA AB nb,AA AB k,AA AB count],Eu X.p x ⟨k,hh,first,nb,count,0,b,g⟩ X.sz l]) m w'):=λd=>by
  have I:=Mp (J.drewN d) first nb k hh count l DK.Pm DK.hh.1 (by rw[<-hc];exact DK.bn) a5 DK.fst (by rw[GZ];omega);refine I.mono ?_;rintro e w' ⟨x,b,g,h3,h4,h5⟩;refine⟨x,b,g,h3,h4,?_⟩;rw[AR]at h5;exact h5
 have YQ:Hid (∀x b g W,JA (⟨k,hh,first,nb,count,0,b,g⟩:Rt) X.sz->Wd X (DH++Z []++[Cs fb 28 [first,nb,k,count],Eu X.p x ⟨k,hh,first,nb,count,0,b,g⟩ X.sz l]) m W->
   Calls AP 54 #[AI (AE ⟨X.p.a,0,AD⟩),AA AB ((q*k:Nat):Int)] W λe w'=>∃tb H,e=AH (AM #[AI (AE ⟨tb,0,AD⟩),AA AB 0])/\(P0 x b g tb H).Ok/\(P0 x b g tb H).A 0 w'):=λx b g W GL I=>by
  have Xf:q*k<=1000000:=a5;have FT:DC DA.gw (DH++Z []++[Cs fb 28 [first,nb,k,count],Eu X.p x ⟨k,hh,first,nb,count,0,b,g⟩ X.sz l])=DC DA.gw (DH++Z [])+X.sz:=by
   rw[DM,EI,EI];show _+(0+(X.sz+0))= _;omega
  refine(WZ I (q*k) (by rw[FT];omega) Xf).mono ?_;rintro e w' ⟨tb,H,he,h3⟩;refine⟨tb,H,he,⟨hS,DK,hc,EY,⟨aG.1,Xf⟩,bb,hn,GL⟩,[],⟨rfl,λj=>by rw[List.drop_nil,List.take_nil];exact O5 o,by rw[Bt];exact Cl.refl _ _,λu hu=>by cases hu⟩,?_⟩;rw[AR]at h3;have h4:Wd X (DH++Z []++[Cs fb 28 [first,nb,k,count],Eu X.p x ⟨k,hh,first,nb,count,0,b,g⟩ X.sz l,xU tb H (q*k)]) m w':=h3;have a9:(DH++Z []++[Cs fb 28 [first,nb,k,count],Eu X.p x ⟨k,hh,first,nb,count,0,b,g⟩ X.sz l,xU tb H (q*k)])[DH.length+n+2]?=AE (xU tb H (q*k)):=FO (j:=2) Ft;have h5:=h4.jq a9 (a':=Fw tb H (q*k) k []) Uy (λ⟨q1,ws,q2,q3⟩=>⟨q1,ws,q2,q3,by simp[EL]⟩) (λ_ hk=>hk) rfl rfl (λ_ _=>trivial);rw[GG Ft]at h5;show Wd X (DH++Z []++[Cs fb 28 [first,nb,k,count],Eu X.p x (Ge ⟨k,hh,first,nb,count,0,b,g⟩ 0) X.sz l,Fw tb H (q*k) k []]) (m+Cr hh 0+(Dp once o []).length/hh) w';have e1:(Dp once o []).length/hh=0:=by
   have:(Dp once o []).length=0:=by unfold Dp;split<;>rfl
   rw[this,Nat.zero_div]
  rw[e1,Du];exact h5
 have bL:Hid (∀z UD m W,Wd X (DH++z++UD) m W->Calls AP 21 #[AI X.p.w] W λe w'=>e=AH (AI X.p.a)/\w'=W):=λz UD m W h=>L6 h;have JZ:Hid (∀(UD:List DA) (m:Nat) (W:World),Wd X (DH++Z []++Cs fb 28 [first,nb,k,count]::UD) m W->
   Row W sb 193 (Em X.p.w k hh rb Dl o RE bd)/\Row W fb 28 [first,nb,k,count]):=λUD m W h=>⟨aJ _ _ _ _ h,h.row (FO (j:=0) Ft)⟩
 have Dr:Hid (∀x b g tb H er w',(P0 x b g tb H).G2 er w'->(er=0/\∃s,s.length=count/\Yo o (rb*hh) s/\Cl o l s/\ID k s/\Wd X (DH++Z s) (m+nb+I3 once o hh s) w')\/
   (er=6/\¬X.cm/\∃z m',Q8 X xw bd n Z z/\Wd X (DH++z) m' w')):=λx b g tb H er w' h=>by
  obtain⟨z,m',J,I⟩:=h;rcases J with⟨he,s,rfl,hp,rfl⟩|⟨he,Fu,hz⟩
  ·refine .inl ⟨he,s,hp.len,?_,?_,hp.fit,?_⟩
   ·have hlen:s.length=count:=hp.len;have nY:Yo o q s:=hp.asc;intro j;rcases Am count (rb*hh)with bF|bJ
    ·have hq:q=count:=a5
     cases j with
     |zero=>
      have h3:=nY 0;rw[CS,Cn,Ao a5]at h3⊢;exact h3
     |succ j=>
      have h4:rb*hh<=(j+1)*(rb*hh):=Nat.le_mul_of_pos_left _ a5;rw[List.drop_eq_nil_of_le a5,List.take_nil];exact O5 o
    ·have hq:q=rb*hh:=a5;rw[<-hq];exact nY j
   ·have h3:Cl o (l.take count) s:=hp.cl;rwa [Ao a5]at h3
   ·have h3:Wd X (DH++Z s) (m+Cr hh count+I3 once o hh s) w':=I;rwa [<-hc,<-DK.bn]at h3
  ·exact .inr ⟨he,Fu,z,m',hz,I⟩
 have bq:=AO J;have FU:count<=100000:=a5;have Jv:0<hh/\hh<=254:=⟨DK.hh.1,DK.hh.2.2⟩;have bI:=DK.kk;have bC:=AO (JZ.out [] m W1 J);have bk:Hid (0<count->0<q):=λh=>by rw[<-hM];exact Nat.lt_min.2 ⟨h,Nat.mul_pos aF.1 Jv.1⟩
 have a0:q*k<=1000000:=a5;clear h J DV ER EB GZ DK hc EY aa hn aJ;obtain⟨Q,hQ⟩:=al (rb*hh);have hmul:(rb:Int)*(hh:Int)=(Q:Int):=by rw[<-hQ];exact(Be rb hh).symm
 have bK:Q<=25400000:=by
  rw[<-hQ];exact Nat.mul_le_mul aF.2 Jv.2
 rw[hQ]at hM;have HM:=AO hM;obtain⟨N,hN⟩:=al (q*k);have a7:(q:Int)*(k:Int)=(N:Int):=by rw[<-hN];exact(Be q k).symm
 rw[hN]at YQ;have aC:=AO hN;have bW:N<=1000000:=by rw[<-hN];exact a0
 have bE:q<=100000:=a5;clear hQ hM hN aG a0;go_enter_defers func141,ntmps141
 go_upto_region 1 with(fail)
 rw[<-E0.out];clear E0;have ER:=LJ.out 1;rw[show W1.drewN 1=W1.drew from rfl]at ER;have Ja:=AO ER;clear ER;have Xc:=bC.out.1.cell 4;have aK:W1.drew.cell? (sb,4)=AE (AI X.p.w):=bC.out.1.cell 4;have aI:W1.drew.cell? ⟨fb,0,AD⟩=AE (AA AB first):=bC.out.2.cell 0;have DV:W1.drew.cell? ⟨fb,1,AD⟩=AE (AA AB nb):=bC.out.2.cell 1;have DN:W1.drew.cell? ⟨fb,2,AD⟩=AE (AA AB k):=bC.out.2.cell 2;have D9:W1.drew.cell? ⟨fb,3,AD⟩=AE (AA AB count):=bC.out.2.cell 3;clear Xc;go_region_held3 (λw'=>w'.cell? ⟨sb,4,AD⟩=AE (AI (AE ⟨X.p.w,0,AD⟩))/\w'.cell? ⟨fb,0,AD⟩=AE (AA AB first)/\w'.cell? ⟨fb,1,AD⟩=AE (AA AB nb)/\w'.cell? ⟨fb,2,AD⟩=AE (AA AB k)/\w'.cell? ⟨fb,3,AD⟩=AE (AA AB count)) (first|with_reducible exact⟨aK,aI,DV,DN,D9⟩|with_reducible exact q2)
  ((go_at_call 46;(with_reducible refine Ja.out.mono ?_);rintro e w2 ⟨x,b,g,rfl,GL,I⟩;obtain⟨IE,H2,q2⟩:Hid (JA (⟨k,hh,first,nb,count,0,b,g⟩:Rt) X.sz)/\Hid (Wd X (DH++Z []++[Cs fb 28 [AA AB first,AA AB nb,AA AB k,AA AB count],Eu X.p x ⟨k,hh,first,nb,count,0,b,g⟩ X.sz l]) m w2)/\(w2.cell? ⟨sb,4,AD⟩=AE (AI (AE ⟨X.p.w,0,AD⟩))/\w2.cell? ⟨fb,0,AD⟩=AE (AA AB first)/\w2.cell? ⟨fb,1,AD⟩=AE (AA AB nb)/\w2.cell? ⟨fb,2,AD⟩=AE (AA AB k)/\w2.cell? ⟨fb,3,AD⟩=AE (AA AB count)):=⟨GL,I,(JZ.out _ _ _ I).1.cell 4,(JZ.out _ _ _ I).2.cell 0,(JZ.out _ _ _ I).2.cell 1,(JZ.out _ _ _ I).2.cell 2,(JZ.out _ _ _ I).2.cell 3⟩))
 have Ly:=AO (JZ.out _ _ _ H2.out);clear aK aI DV DN D9 q2 GL I;have D9:w2.drew.cell? ⟨fb,3,AD⟩=AE (AA AB count):=Ly.out.2.cell 3;have aK:w2.drew.cell? ⟨sb,1,AD⟩=AE (AA AB hh):=Ly.out.1.cell 1;have QV:w2.drew.cell? ⟨sb,2,AD⟩=AE (AA AB rb):=Ly.out.1.cell 2;have av:Aa.wrap (Q:Int)=(Q:Int):=Ah _ a5;have aE:Aa.wrap (N:Int)=(N:Int):=Ah _ a5;have aX:=AO aE;clear aE;have Lr:(if Aa.wrap (Q:Int)<(count:Int)then Aa.wrap (Q:Int)else (count:Int))=(q:Int):=by
  rw[av,<-HM.out];split<;>omega
 have bn:=AO Lr;have bc:=AO av;clear Lr av;go_wp2_with fail
 have H3:=AO (H2.out.drewN 1);rw[show w2.drewN 1=w2.drew from rfl]at H3;go_region_held3 (λw'=>w'.cell? ⟨fb,3,AD⟩=AE (AA AB count)/\w'.cell? ⟨sb,1,AD⟩=AE (AA AB hh)/\w'.cell? ⟨sb,2,AD⟩=AE (AA AB rb)) (with_reducible exact⟨D9,aK,QV⟩) (fail)
 rw[bn.out,bc.out];clear D9 aK QV Ly H2;generalize w2.drew=w3 at*
 have br:Hid (∀tb H,P0 x b g tb H=P0 x b g tb H):=λ_ _=>rfl;have PS:=λd=>YQ.out x b g (w3.drewN d) IE.out (H3.out.drewN d);have Xo:=PS 1;rw[show w3.drewN 1=w3.drew from rfl]at Xo;rw[<-aX.out]at Xo;have vV:=AO Xo;have zw:=bL.out _ _ _ _ (H3.out.drewN 1);rw[show w3.drewN 1=w3.drew from rfl]at zw;have V9:=AO zw;clear PS Xo zw br;have dO:=AO (JZ.out _ _ _ H3.out);have aK:w3.drew.cell? (sb,4)=AE (AI X.p.w):=dO.out.1.cell 4;have QV:w3.drew.cell? sb=AE (AA AB k):=dO.out.1.cell 0;go_wp2_with fail
 go_region_held3 (λw'=>w'.cell? ⟨sb,4,AD⟩=AE (AI (AE ⟨X.p.w,0,AD⟩))/\w'.cell? ⟨sb,0,AD⟩=AE (AA AB k)) (first|with_reducible exact⟨aK,QV⟩|with_reducible exact q4)
  (first
   |(go_at_call 21;(with_reducible refine V9.out.mono ?_);rintro e w4 ⟨rfl,rfl⟩)
   |(go_at_call 54;(with_reducible refine vV.out.mono ?_);rintro e w4 ⟨tb,H,rfl,uF,hA⟩;obtain⟨HP,HA,q4⟩:Hid (P0 x b g tb H).Ok/\Hid ((P0 x b g tb H).A 0 w4)/\(w4.cell? ⟨sb,4,AD⟩=AE (AI (AE ⟨X.p.w,0,AD⟩))/\w4.cell? ⟨sb,0,AD⟩=AE (AA AB k)):=⟨uF,hA,(hA.rows uF Qs).1.cell 4,(hA.rows uF Qs).1.cell 0⟩))
 rw[aX.out];have bo:Hid (∀c r W,c<=count->(P0 x b g tb H).B c r W->Calls AP 148 #[AI (AE ⟨r,0,AD⟩),.iface 81 (AI (AE ⟨x,0,AD⟩))] W λe w'=>(e=AH (AA AB 0)/\(P0 x b g tb H).C c r w')\/(e=AH (AA AB 6)/\(P0 x b g tb H).No w')):=λc r W J I=>FP.B.load HP.out J I;have bA:Hid (∀c r W,(P0 x b g tb H).C c r W->Calls AP 149 #[.iface 221 (AI (AE ⟨r,0,AD⟩))] W λe w'=>e=AH (AM #[])/\(P0 x b g tb H).D c r w'):=λc r W I=>FP.C.yW HP.out I;have T0:Hid (∀c r W (i:Nat),c<count->c=i*q->(P0 x b g tb H).D c r W->Calls AP 138 #[.iface 221 (AI (AE ⟨r,0,AD⟩)),.iface tT vT] W λe w'=>(e=AH (AA AB 0)/\(P0 x b g tb H).A (c+min q (count-c)) w')\/(e=AH (AA AB 6)/\(P0 x b g tb H).No w')):=λc r W i J I h3=>FP.D.yh HP.out J I h3;have HB:Hid (∀c W W' r N',N'=min q (count-c)*k->(P0 x b g tb H).A c W->Below W.heap.size W W'->Row W' r 225 (Jf k H N' N o 0)->W.heap.size<=r->(P0 x b g tb H).B c r W'):=λc W W' r N' ab J I h3 h4=>FP.toB J I (by rw[ab,<-aC.out]at h3;exact h3) h4;have YO:Hid (∀c W,(P0 x b g tb H).A c W->Row W sb 193 (Em X.p.w k hh rb Dl o RE bd)/\Row W fb 28 [AA AB first,AA AB nb,AA AB k,AA AB count]/\Row W tb 119 [AJ (AE ⟨H,0,AD⟩) N N]):=λc W J=>by
  have I:=J.rows HP.out Qs;rw[<-aC.out];exact I
 have dU:Hid (∀c W W',(P0 x b g tb H).A c W->Below W.heap.size W W'->(P0 x b g tb H).A c W'):=λc W W' J I=>J.below I;have jk:Hid (∀c W,(P0 x b g tb H).A c W->Calls AP 21 #[AI (AE ⟨X.p.w,0,AD⟩)] W λe w'=>e=AH (AI (AE ⟨X.p.a,0,AD⟩))/\w'=W):=λc W J=>by
  obtain⟨s,_,I⟩:=J;exact bL.out _ _ _ _ I
 have bs:Hid (∀W,(P0 x b g tb H).A count W->(P0 x b g tb H).G0 0 W):=λW J=>FP.A.fin J;have vZ:Hid (∀W,(P0 x b g tb H).No W->(P0 x b g tb H).G0 6 W):=λW J=>FP.No.fin J;have aB:Hid (∀er u W,(P0 x b g tb H).G0 er W->CallsD AP 70 #[AI (AE ⟨X.p.a,0,AD⟩),AI (AE ⟨tb,0,AD⟩)] u W λe u' w'=>u'=u/\(e=AH (.bool true)/\(P0 x b g tb H).G1 er w')):=λer u W J=>FP.G0.release HP.out u J;have GJ:Hid (∀er u W,(P0 x b g tb H).G1 er W->CallsD AP 47 #[AI (AE ⟨x,0,AD⟩)] u W λe u' w'=>u'=u/\(e=AH (AM #[])/\(P0 x b g tb H).G2 er w')):=λer u W J=>FP.G1.close HP.out u J;have pU:=AO (Dr.out x b g tb H);clear uF hA q4 Dr bL JZ YQ LJ vV V9 dO H3 IE bq bC aK QV aC HP;generalize(P0 x b g tb H).A=FA at*
 generalize(P0 x b g tb H).B=FB at*
 generalize(P0 x b g tb H).C=FC at*
 generalize(P0 x b g tb H).D=FD at*
 generalize(P0 x b g tb H).No=FN at*
 generalize(P0 x b g tb H).G0=F0 at*
 generalize(P0 x b g tb H).G1=F1 at*
 generalize(P0 x b g tb H).G2=F2 at*
 clear P0;have hs:=AO (YO.out 0 w4 HA.out);have ca:=hs.out.1.cell 4;have cb:=hs.out.2.1.cell 3;have yK:=AO (jk.out 0 w4 HA.out);go_wp2_with fail
 refine yK.out.mono ?_;rintro e w5 ⟨rfl,rfl⟩;go_wp2_with fail
 go_loopw [11] (λiv wr=>∃(i c:Nat) (z:Int),iv=AA AB z/\c<=count/\(0<z->c=i*q/\z=(count:Int)-(c:Int))/\(z<=0->c=count)/\-1000000<=z/\z<=1000000/\Hid (FA c wr)) (λiv _=>(BF iv).toNat)
 case atStart=>exact⟨0,0,(count:Int),rfl,a5,λ_=>⟨a8,a5⟩,λh=>by omega,a5,a5,HA⟩
 case round=>
  obtain⟨i,c,z,rfl,ba,Ew,Js,cF,a3,ad⟩:=hrel;clear HA yK hs ca cb;by_cases hz:0<z
  ·obtain⟨aH,a2⟩:=Ew hz;obtain⟨lf,cQ⟩:∃lf:Nat,count-c=lf:=⟨_,rfl⟩;have bG:0<lf:=a5;have bH:lf<=100000:=a5;obtain rfl:z=(lf:Int):=a5;obtain⟨U,jT⟩:=al (min q lf);obtain⟨N',ab⟩:=al (U*k);have aY:Hid (0<U/\U<=q/\U<=lf/\q=min q U+(q-U)):=by
    have:=bk.out a5;unfold Hid;omega
   have b4:(U:Int)*(k:Int)=(N':Int):=by rw[<-ab];exact(Be U k).symm
   have b0:N'<=N:=by
    have h9:U*k<=q*k:=Ae k (by have:=aY.out;omega);have h8:((q*k:Nat):Int)=(N:Int):=by rw[Be];exact a7
    omega
   have TX:Aa.wrap (N':Int)=(N':Int):=Ah _ a5;have Lr:(if (lf:Int)<(q:Int)then (lf:Int)else (q:Int))=(U:Int):=by rw[<-jT];split<;>omega
   have wZ:(if lf<q then (lf:Int)else (q:Int))=(U:Int):=by rw[<-jT];split<;>omega
   have qb:=AO aH;have yD:=AO cQ;have qV:=AO jT;have bm:=AO ab;have b3:=AO Lr;have vE:=AO TX;have b2:(0:Int)<=(N':Int):=a5;have b1:(N':Int)<=(N:Int):=a5;clear Ew Js a2 aH cQ jT ab cF a3;have hR:=YO.out c wr ad.out;have t0:wr.drew.cell? tb=AE (AJ H N N):=hR.2.2.cell 0;have s0:wr.drew.cell? sb=AE (AA AB k):=hR.1.cell 0;have ar:=AO (dU.out c wr (wr.drewN 1) ad.out (Cy (AS _ _) 1));rw[show wr.drewN 1=wr.drew from rfl]at ar;clear hR;go_wp2_with fail
   go_region_held3 (λw'=>w'.cell? tb=AE (AJ H N N)/\w'.cell? sb=AE (AA AB k)) (with_reducible exact⟨t0,s0⟩) (fail)
   clear t0 s0 Lr wZ TX;generalize wr.drew=O at*
   have aA:∀W,FA c W->W.cell? sb=AE (AA AB k)/\W.cell? (sb,5)=AE (AA AB o.a)/\W.cell? (sb,6)=AE (AA AB o.b)/\W.cell? (sb,7)=AE (AA AB o.c)/\W.cell? (sb,8)=AE (AA AB o.d)/\W.cell? (sb,9)=AE (AA AB o.e):=λW h=>⟨(YO.out c W h).1.cell 0,(YO.out c W h).1.cell 5,(YO.out c W h).1.cell 6,(YO.out c W h).1.cell 7,(YO.out c W h).1.cell 8,(YO.out c W h).1.cell 9⟩;have aD:=AO (dU.out c O (O.drewN 1) ar.out (Cy (AS _ _) 1));rw[show O.drewN 1=O.drew from rfl]at aD;have s1:=aA _ aD.out;have Jt:Below O O ((O.alloc (AK #[k,AJ H N' N,o.a,o.b,o.c,o.d,o.e,()] 225)).drew):=((AS O O).alloc ao _).drew;have s2:=aA _ (dU.out c _ _ ar.out Jt);have a1:Row (O.alloc (AK #[k,AJ H N' N,o.a,o.b,o.c,o.d,o.e,()] 225)) O 225 (Jf k H N' N o 0):=heap_alloc_new _ _;have aw:=Row.drewN a1 1;rw[show∀w:World,w.drewN 1=w.drew from λ_=>rfl]at aw;clear a1;have bt:=AO (HB.out c O _ O N' (by rw[yD.out,qV.out,bm.out]) ar.out Jt aw ao);clear aw;clear aA Jt;go_wp2_with fail
   go_region_held3 (λW=>W.cell? sb=AE (AA AB k)/\W.cell? (sb,5)=AE (AA AB o.a)/\W.cell? (sb,6)=AE (AA AB o.b)/\W.cell? (sb,7)=AE (AA AB o.c)/\W.cell? (sb,8)=AE (AA AB o.d)/\W.cell? (sb,9)=AE (AA AB o.e)) (first|with_reducible exact s1|with_reducible exact s2) (fail)
   clear s1 s2 ar aD ad;generalize(O.alloc (AK #[k,AJ H N' N,o.a,o.b,o.c,o.d,o.e,()] 225)).drew=w8 at*
   generalize O.heap.size=r at*
   have bp:=AO (bo.out c r w8 ba bt.out);go_wp2_with fail
   refine bp.out.mono ?_;rintro e w9 (⟨rfl,h9⟩|⟨rfl,h9⟩)
   ·have bj:=AO (bA.out c r w9 h9);clear h9;go_wp2_with fail
    refine bj.out.mono ?_;rintro e Lf ⟨rfl,OJ⟩;have bu:=AO (T0.out c r Lf i (by have:=yD.out;omega) qb.out OJ);clear OJ;go_wp2_with fail
    refine bu.out.mono ?_;rintro e bB (⟨rfl,Xt⟩|⟨rfl,Xt⟩)
    ·have jK:=AO Xt;clear Xt;obtain⟨z9,bD⟩:∃z9:Int,(lf:Int)-(q:Int)=z9:=⟨_,rfl⟩;have b5:-100000<=z9/\z9<=100000:=a5;have b6:z9<(lf:Int):=by have:=aY.out;omega
     go_wp2
     go_roundw
     case rel=>
      have J:=yD.out;have I:=qb.out;refine⟨i+1,c+min q (count-c),z9,rfl,a5,λh=>⟨?_,a5⟩,λh=>by omega,a5,a5,jK.out⟩;rw[A6,BD];omega
     case measure=>simp[BF];omega
    ·have jK:=AO (vZ.out _ Xt);clear Xt;go_wp2
     refine Ay (f:=70) (args:=#[AI X.p.a,AI tb]) a8 (by simp[go_sem]) ?_;refine(aB.out 6 _ _ jK.out).mono ?_;rintro e u1 It ⟨rfl,rfl,JW⟩;refine Ay (f:=47) (args:=#[AI x]) (by simp[settle]) (by simp[go_sem]) ?_;refine(GJ.out 6 _ _ JW).mono ?_;rintro e u2 jN ⟨rfl,rfl,Pt⟩;refine⟨AA AB 6,by simp[results,Tryz.results141,go_sem],?_⟩;rcases pU.out 6 jN Pt with⟨Td,PT⟩|⟨Td,PT⟩
     ·exact absurd Td a6
     ·exact .inr ⟨rfl,PT⟩
   ·have jK:=AO (vZ.out _ h9);clear h9;go_wp2
    refine Ay (f:=70) (args:=#[AI X.p.a,AI tb]) a8 (by simp[go_sem]) ?_;refine(aB.out 6 _ _ jK.out).mono ?_;rintro e u1 It ⟨rfl,rfl,JW⟩;refine Ay (f:=47) (args:=#[AI x]) (by simp[settle]) (by simp[go_sem]) ?_;refine(GJ.out 6 _ _ JW).mono ?_;rintro e u2 jN ⟨rfl,rfl,Pt⟩;refine⟨AA AB 6,by simp[results,Tryz.results141,go_sem],?_⟩;rcases pU.out 6 jN Pt with⟨Td,PT⟩|⟨Td,PT⟩
    ·exact absurd Td a6
    ·exact .inr ⟨rfl,PT⟩
  ·obtain rfl:c=count:=Js a5;have jK:=AO (bs.out _ ad.out);clear ad Ew Js;have g1:decide ((0:Int)<z)=false:=by simp;omega
   go_wp2
   refine Ay (f:=70) (args:=#[AI X.p.a,AI tb]) a8 (by simp[go_sem]) ?_;refine(aB.out 0 _ _ jK.out).mono ?_;rintro e u1 It ⟨rfl,rfl,JW⟩;refine Ay (f:=47) (args:=#[AI x]) (by simp[settle]) (by simp[go_sem]) ?_;refine(GJ.out 0 _ _ JW).mono ?_;rintro e u2 jN ⟨rfl,rfl,Pt⟩;refine⟨AA AB 0,by simp[results,Tryz.results141,go_sem],?_⟩;rcases pU.out 0 jN Pt with⟨Td,PT⟩|⟨Td,PT⟩
   ·exact .inl ⟨rfl,PT⟩
   ·exact absurd Td a6
end
section
variable{W:World}{sb w k hh rb Dl cnt first nb count pa pb:Nat}{o:Cv}{once:Bool}
theorem XD(hr:Row W sb 193 (Em w k hh rb Dl o once cnt))(hb:first<=2000000/\nb<=2000000/\count<=100000000/\pa<=nb/\pb<=100000000/\hh<=254)(hA:pa*hh<=count):
  Calls AP 151 #[AI sb,AL #[first,nb,k,count],pa,pb] W λe w'=>
   e=AH (KD (first+pa) (min pb (nb-pa)) k (min (pb*hh) (count-pa*hh)))/\Below W W w':=by
 obtain⟨W1,EB,DV,tP,ER,EA⟩:=S9 W [first,nb,k,count] [(),(),(),()] 28 28;have Xd:=hr.below DV hr.lt;have E0:=AO EB;have OM:=AO DV;have Ja:=AO ER;have Qf:=AO EA;have QB:=AO Xd;obtain⟨d,hd⟩:=al (nb-pa);obtain⟨Q,O⟩:=al (pb*hh);obtain⟨A,U⟩:=al (pa*hh);rw[U]at hA;obtain⟨R,hR⟩:=al (count-A);obtain⟨F,hF⟩:=al (first+pa);have Gg:(nb:Int)-(pa:Int)=(d:Int):=a5;have Gk:(pb:Int)*(hh:Int)=(Q:Int):=by rw[<-O];exact(Be pb hh).symm
 have TY:(pa:Int)*(hh:Int)=(A:Int):=by rw[<-U];exact(Be pa hh).symm
 have Xc:(count:Int)-(A:Int)=(R:Int):=a5;have mj:(first:Int)+(pa:Int)=(F:Int):=a5;have ao:Q<=25400000000:=by rw[<-O];exact Nat.mul_le_mul hb.2.2.2.2.1 hb.2.2.2.2.2
 have QT:(if d<pb then (d:Int)else (pb:Int))=((min pb d:Nat):Int):=by split<;>omega
 have ae:(if R<Q then (R:Int)else (Q:Int))=((min Q R:Nat):Int):=by split<;>omega
 have wd:Aa.wrap (d:Int)=(d:Int):=Ah _ a5;have wQ:Aa.wrap (Q:Int)=(Q:Int):=Ah _ a5;have wA:Aa.wrap (A:Int)=(A:Int):=Ah _ a5;have wR:Aa.wrap (R:Int)=(R:Int):=Ah _ a5;have wF:Aa.wrap (F:Int)=(F:Int):=Ah _ a5;rw[hF,hd,O,U,hR];unfold KD;generalize ab:min pb d=I at*
 generalize aa:min Q R=H at*
 clear ab aa hd O U hR hF DV ER EA Xd hr EB tP;go_enter func151,ntmps151
 go_upto_region 1 with(fail)
 rw[<-E0.out];clear E0;generalize J:W.heap.size=s at*
 have PF:=AO J;clear J;obtain⟨b0,b1,b2,b3⟩:=Ja.out.q4;have a1:W1.drew.cell? (sb,1)=AE (AA AB hh):=QB.out.cell 1;obtain⟨e0,e1,e2,e3⟩:=Qf.out.q4;obtain⟨f0,f1,f2,f3⟩:=Qf.out.r4;refine wp_region_still_tail 31 a7 a7 ?_;simp only[List.take_succ_cons,Bt,List.drop_succ_cons,Cn];change wpStill AP _ W1.drew (λa'=>wpList AP _ _ _ a' W1.drew) _ _
 repeat still_step
 refine wpStill_nil ?_;go_wp2
 have Dx:Row (((((W1.setCell (s+1,0) F).setCell (s+1,1) I).setCell (s+1,2) k).setCell (s+1,3) H).drew) (s+1) 28 [F,I,k,H]:=((((Qf.out.set 0 F).set 1 I).set 2 k).set 3 H).drewN 1;have ad:Below W W (((((W1.setCell (s+1,0) F).setCell (s+1,1) I).setCell (s+1,2) k).setCell (s+1,3) H).drew):=by
  have h0:Below s W W1:=OM.out;have h1:=h0.setCell (p:=(s+1,0)) (by show s<=s+1;omega) F;have h2:=h1.setCell (p:=(s+1,1)) (by show s<=s+1;omega) I;have h3:=h2.setCell (p:=(s+1,2)) (by show s<=s+1;omega) k;have h4:=(h3.setCell (p:=(s+1,3)) (by show s<=s+1;omega) H).drew;rw[PF.out];exact h4
 generalize((((W1.setCell (s+1,0) F).setCell (s+1,1) I).setCell (s+1,2) k).setCell (s+1,3) H).drew=w9 at*
 obtain⟨q0,q1,q2,q3⟩:=Dx.q4;exact Aw (v:=AL #[F,I,k,H]) (by simp[results,Tryz.results151,go_sem,q0,q1,q2,q3]) rfl ⟨rfl,ad⟩
end
section
variable{α:Type}{sx:Nat}{d:α}{lt:α->α->Bool}{R:List α->World->Prop}{h:List α}{n:Nat}{W:World}
structure Uq (sx:Nat) (d:α) (lt:α->α->Bool) (R:List α->World->Prop):Prop where
 len:∀h W,R h W->Calls AP 161 #[AI sx] W λe w'=>e=AH h.length/\R h w'
 less:∀h W i j,R h W->i<h.length->j<h.length->Calls AP 193 #[AI sx,i,j] W λe w'=>e=AH (.bool (lt (h.getD i d) (h.getD j d)))/\R h w'
 swap:∀h W i j,R h W->i<h.length->j<h.length->Calls AP 196 #[AI sx,i,j] W λe w'=>e=AH (AM #[])/\R (swp d h i j) w'
theorem T9(x:Nat)(w:World):Br AP (method 371 234 (AI x) "Less") w=.ok (193,AI x) w:=a7
theorem PY(x:Nat)(w:World):Br AP (method 371 234 (AI x) "Swap") w=.ok (196,AI x) w:=a7
theorem Rj(x:Nat)(w:World):Br AP (method 371 234 (AI x) "Len") w=.ok (161,AI x) w:=a7
theorem qx(W:World):Calls AP 164 #[.iface 234 (AI sx),()] W λe w'=>e=AH (AM #[])/\w'=W:=by
 go_enter func164,ntmps164
 go_wp2_with fail
 go_loopw [1] (λH wr=>H=AA AB 0/\wr=W) (λ_ _=>0)
 case atStart=>exact⟨rfl,rfl⟩
 case round=>
  obtain⟨rfl,rfl⟩:=hrel;go_wp2
  go_end0
  exact⟨rfl,rfl⟩
theorem RM{i j}(hi:i<h.length)(I:j<h.length):Chg (λp=>h.getD p d) (λp=>(swp d h i j).getD p d) i j:=λp=>by
 show (swp d h i j).getD p d=if p=i then h.getD j d else if p=j then h.getD i d else h.getD p d
 rw[E9 hi I];by_cases H:p=i
 ·by_cases e:p=j
  ·rw[if_pos e,if_pos H,<-H,<-e]
  ·rw[if_neg e,if_pos H,if_pos H]
 ·by_cases e:p=j
  ·rw[if_pos e,if_neg H,if_pos e]
  ·rw[if_neg e,if_neg H,if_neg H,if_neg e]
variable [DecidableEq α]
def pg(d:α)(lt:α->α->Bool)(R:List α->World->Prop)(h:List α)(n:Nat)(e:Ending)(w':World):Prop:=∃b h',e=AH (.bool b)/\Hp lt (λp=>h'.getD p d) n/\h'.Perm h/\(∀p,n<=p->h'.getD p d=h.getD p d)/\(b=false->h'=h)/\R h' w'
theorem UO(hC:Uq sx d lt R)(ho:qT lt)(hr:R h W)(hn:n<=h.length/\n<=1000000)(hx:jB lt (λp=>h.getD p d) n 0):
  Calls AP 199 #[.iface 234 (AI sx),(),n] W (pg d lt R h n):=by
 have HC:=AO hC;have Q:=AO ho;have mL:=T9 sx;have mS:=PY sx;have ar:=AO hx;have LK:=AO hr;obtain⟨Pp,PO⟩:=hn;clear hC ho hx hr;go_enter func199,ntmps199
 go_wp2_with fail
 go_loopw [7] (λiv wr=>∃(i:Nat) (h':List α),iv=AA AB (i:Nat)/\i<=n/\h'.length=h.length/\(i=0->h'=h)/\Hid (jB lt (λp=>h'.getD p d) n i)/\Hid (h'.Perm h)/\Hid (∀p,n<=p->h'.getD p d=h.getD p d)/\Hid (R h' wr)) (λiv _=>n-(BF iv).toNat)
 case atStart=>exact⟨0,h,rfl,a5,rfl,λ_=>rfl,ar,Cf _,λ_ _=>rfl,LK⟩
 case round=>
  obtain⟨i,h',rfl,NG,hlen,h0,HX,HP,HT,h3⟩:=hrel;generalize wr=w2 at*
  clear ar LK;obtain⟨e2,uB⟩:=al (2*i);obtain⟨H,Li⟩:=al (e2+1);obtain⟨c2,NI⟩:=al (H+1);have m1:(2:Int)*(i:Int)=(e2:Int):=a5;have m2:(e2:Int)+1=(H:Int):=a5;have m3:(H:Int)+1=(c2:Int):=a5;have Lt:2*i+1<=H/\H<=2*i+1/\c2<=2*i+2/\2*i+2<=c2:=a5;have ab:Hid (∀j,0<j->par j=i->j=H\/j=c2):=λj _ hj=>by unfold par at hj;omega
  have aw:e2<=2*i/\2*i<=e2:=a5;clear uB Li NI;have ae:∀a,lt a a=false:=λa=>by
   cases hq:lt a a with
   |false=>rfl
   |true=>have:=Q.out.asym a a hq;rw[hq]at this;exact this
  have ad:=AO ae;clear ae;by_cases aA:H<n
  ·by_cases av:c2<n
   ·have Tg:=AO (HC.out.less h' w2 c2 H h3.out a5 a5);clear h3;go_wp2_with fail
    refine Tg.out.mono ?_;rintro e w3 ⟨rfl,h3⟩;replace h3:=AO h3;by_cases DV:lt (h'.getD c2 d) (h'.getD H d)=true
    ·rw[DV];have U:Hid (∀j,0<j->j<n->par j=i->lt (h'.getD j d) (h'.getD c2 d)=false):=λj j0 j1 j2=>by
      rcases ab.out j j0 j2 with rfl|rfl
      ·exact Q.out.asym _ _ DV
      ·exact ad.out _
     clear DV;have I:c2<h'.length:=a5;have vR:=AO (HC.out.less h' w3 c2 i h3.out I a5);go_wp2_with fail
     refine vR.out.mono ?_;rintro e w4 ⟨rfl,h4⟩;replace h4:=AO h4;by_cases DN:lt (h'.getD c2 d) (h'.getD i d)=true
     ·rw[DN];have Ly:=AO (HC.out.swap h' w4 i c2 h4.out a5 I);have Gv:=AO (HX.out.step Q.out (c:=c2) a5 a5 DN U.out (RM a5 I));have On:(swp d h' i c2).length=h'.length:=FY;have J:=AO ((Ka (d:=d) (i:=i) (j:=c2) a5 I).trans HP.out);have V4:Hid (∀p,n<=p->(swp d h' i c2).getD p d=h.getD p d):=λp hp=>by rw[E9 a5 I,if_neg a5,if_neg a5];exact HT.out p hp
      have ao:i<c2:=a5;have Lt:c2<n:=a5;generalize swp d h' i c2=h2 at*
      clear DN;go_wp2_with fail
      refine Ly.out.mono ?_;rintro e w5 ⟨rfl,h5⟩;replace h5:=AO h5;go_wp2
      go_roundw
      case rel=>exact⟨c2,h2,rfl,a5,a5,λh0=>by omega,Gv,J,V4,h5⟩
      case measure=>simp[BF];omega
     ·have D9:lt (h'.getD c2 d) (h'.getD i d)=false:=by simpa using DN
      rw[D9];have O:=AO (HX.out.stop Q.out D9 U.out);clear DN D9;by_cases FM:i=0
      ·subst FM;obtain rfl:=h0 rfl;go_wp2
       go_ret
       exact⟨_,_,rfl,O.out,Cf _,λ_ _=>rfl,λ_=>rfl,h4.out⟩
      ·have aa:0<i:=a5;go_wp2
       go_ret
       exact⟨_,_,rfl,O.out,HP.out,HT.out,λhf=>by simp at hf,h4.out⟩
    ·have zv:lt (h'.getD c2 d) (h'.getD H d)=false:=by simpa using DV
     rw[zv];have U:Hid (∀j,0<j->j<n->par j=i->lt (h'.getD j d) (h'.getD H d)=false):=λj j0 j1 j2=>by
      rcases ab.out j j0 j2 with rfl|rfl
      ·exact ad.out _
      ·exact zv
     clear DV zv;have I:H<h'.length:=a5;have vR:=AO (HC.out.less h' w3 H i h3.out I a5);go_wp2_with fail
     refine vR.out.mono ?_;rintro e w4 ⟨rfl,h4⟩;replace h4:=AO h4;by_cases DN:lt (h'.getD H d) (h'.getD i d)=true
     ·rw[DN];have Ly:=AO (HC.out.swap h' w4 i H h4.out a5 I);have Gv:=AO (HX.out.step Q.out (c:=H) a5 a5 DN U.out (RM a5 I));have On:(swp d h' i H).length=h'.length:=FY;have J:=AO ((Ka (d:=d) (i:=i) (j:=H) a5 I).trans HP.out);have V4:Hid (∀p,n<=p->(swp d h' i H).getD p d=h.getD p d):=λp hp=>by rw[E9 a5 I,if_neg a5,if_neg a5];exact HT.out p hp
      have ao:i<H:=a5;have Lt:H<n:=a5;generalize swp d h' i H=h2 at*
      clear DN;go_wp2_with fail
      refine Ly.out.mono ?_;rintro e w5 ⟨rfl,h5⟩;replace h5:=AO h5;go_wp2
      go_roundw
      case rel=>exact⟨H,h2,rfl,a5,a5,λh0=>by omega,Gv,J,V4,h5⟩
      case measure=>simp[BF];omega
     ·have D9:lt (h'.getD H d) (h'.getD i d)=false:=by simpa using DN
      rw[D9];have O:=AO (HX.out.stop Q.out D9 U.out);clear DN D9;by_cases FM:i=0
      ·subst FM;obtain rfl:=h0 rfl;go_wp2
       go_ret
       exact⟨_,_,rfl,O.out,Cf _,λ_ _=>rfl,λ_=>rfl,h4.out⟩
      ·have aa:0<i:=a5;go_wp2
       go_ret
       exact⟨_,_,rfl,O.out,HP.out,HT.out,λhf=>by simp at hf,h4.out⟩
   ·generalize w2=w3 at*
    have U:Hid (∀j,0<j->j<n->par j=i->lt (h'.getD j d) (h'.getD H d)=false):=λj j0 j1 j2=>by
     rcases ab.out j j0 j2 with rfl|rfl
     ·exact ad.out _
     ·exact absurd j1 av
    have I:H<h'.length:=a5;have vR:=AO (HC.out.less h' w3 H i h3.out I a5);go_wp2_with fail
    refine vR.out.mono ?_;rintro e w4 ⟨rfl,h4⟩;replace h4:=AO h4;by_cases DN:lt (h'.getD H d) (h'.getD i d)=true
    ·rw[DN];have Ly:=AO (HC.out.swap h' w4 i H h4.out a5 I);have Gv:=AO (HX.out.step Q.out (c:=H) a5 a5 DN U.out (RM a5 I));have On:(swp d h' i H).length=h'.length:=FY;have J:=AO ((Ka (d:=d) (i:=i) (j:=H) a5 I).trans HP.out);have V4:Hid (∀p,n<=p->(swp d h' i H).getD p d=h.getD p d):=λp hp=>by rw[E9 a5 I,if_neg a5,if_neg a5];exact HT.out p hp
     have ao:i<H:=a5;have Lt:H<n:=a5;generalize swp d h' i H=h2 at*
     clear DN;go_wp2_with fail
     refine Ly.out.mono ?_;rintro e w5 ⟨rfl,h5⟩;replace h5:=AO h5;go_wp2
     go_roundw
     case rel=>exact⟨H,h2,rfl,a5,a5,λh0=>by omega,Gv,J,V4,h5⟩
     case measure=>simp[BF];omega
    ·have D9:lt (h'.getD H d) (h'.getD i d)=false:=by simpa using DN
     rw[D9];have O:=AO (HX.out.stop Q.out D9 U.out);clear DN D9;by_cases FM:i=0
     ·subst FM;obtain rfl:=h0 rfl;go_wp2
      go_ret
      exact⟨_,_,rfl,O.out,Cf _,λ_ _=>rfl,λ_=>rfl,h4.out⟩
     ·have aa:0<i:=a5;go_wp2
      go_ret
      exact⟨_,_,rfl,O.out,HP.out,HT.out,λhf=>by simp at hf,h4.out⟩
  ·have O:=AO (HX.out.leaf a5);by_cases FM:i=0
   ·subst FM;obtain rfl:=h0 rfl;go_wp2
    go_ret
    exact⟨_,_,rfl,O.out,Cf _,λ_ _=>rfl,λ_=>rfl,h3.out⟩
   ·have aa:0<i:=a5;go_wp2
    go_ret
    exact⟨_,_,rfl,O.out,HP.out,HT.out,λhf=>by simp at hf,h3.out⟩
end
section
variable {α : Type} [DecidableEq α] {sx : Nat} {d : α} {lt : α -> α -> Bool} {R : List α -> World -> Prop} {h : List α} {n x : Nat} {W : World}
theorem tO(hC:Uq sx d lt R)(ho:qT lt)(hr:R h W)(hn:n=h.length/\n<=1000000/\x<n)(hx:vC lt (λp=>h.getD p d) n x):
  Calls AP 164 #[.iface 234 (AI sx),x] W λe w'=>e=AH (AM #[])/\∃h',Hp lt (λp=>h'.getD p d) n/\h'.Perm h/\R h' w':=by
 have HC:=AO hC;have hO:=AO ho;have mL:=T9 sx;have mS:=PY sx;have aa:=AO hx;have LK:=AO hr;obtain⟨Pp,PO,ao⟩:=hn;have HN:=AO Pp;clear hC ho hx hr Pp;go_enter func164,ntmps164
 go_wp2_with fail
 go_loopw [1] (λiv wr=>∃(j:Nat) (h':List α),iv=AA AB (j:Nat)/\j<n/\Hid (h'.length=h.length)/\Hid (vC lt (λp=>h'.getD p d) n j)/\Hid (h'.Perm h)/\Hid (R h' wr)) (λiv _=>(BF iv).toNat)
 case atStart=>exact⟨x,h,rfl,a5,rfl,aa,Cf _,LK⟩
 case round=>
  obtain⟨j,h',rfl,ad,hlen,HX,HP,h3⟩:=hrel;generalize wr=w2 at*
  clear aa LK;by_cases UM:j=0
  ·subst UM;have HE:=AO HX.out.root;go_wp2
   go_end0
   exact⟨rfl,h',HE.out,HP.out,h3.out⟩
  ·obtain⟨jm,U⟩:=al (j-1);obtain⟨I,J⟩:=al (jm/2);have m1:(j:Int)-1=(jm:Int):=a5;have m2:(jm:Int).tdiv 2=(I:Int):=by rw[<-J];rfl
   have ab:par j=I:=by unfold par;rw[U];exact J
   have DV:I<j/\jm<j:=a5;have g1:((I:Int)==(j:Int))=false:=by simp;omega
   have O:j<h'.length:=by have:=hlen.out;have:=HN.out;omega
   have Tg:=AO (HC.out.less h' w2 j I h3.out O a5);have qW:=AO ab;have nD:0<j:=a5;have H:=AO O;clear J U ab h3 O;go_wp2_with fail
   refine Tg.out.mono ?_;rintro e w3 ⟨rfl,h3⟩;replace h3:=AO h3;by_cases hb:lt (h'.getD j d) (h'.getD I d)=true
   ·rw[hb];have Gv:=AO (HX.out.step hO.out nD ad (by show lt (h'.getD j d) (h'.getD (par j) d)=true;rw[qW.out];exact hb) (RM (by rw[qW.out];have:=H.out;omega) H.out));rw[qW.out]at Gv;have xu:=AO (HC.out.swap h' w3 I j h3.out (by have:=H.out;omega) H.out);have jY:Hid ((swp d h' I j).length=h.length):=FY.trans hlen.out;have ae:=AO ((Ka (d:=d) (i:=I) (j:=j) (by have:=H.out;omega) H.out).trans HP.out);generalize swp d h' I j=h2 at*
    clear hb;go_wp2_with fail
    refine xu.out.mono ?_;rintro e w4 ⟨rfl,h4⟩;replace h4:=AO h4;go_wp2
    go_roundw
    case rel=>exact⟨I,h2,rfl,a5,jY,Gv,ae,h4⟩
    case measure=>simp[BF];omega
   ·have Q:lt (h'.getD j d) (h'.getD I d)=false:=by simpa using hb
    rw[Q];have HE:=AO (HX.out.stop (by show lt (h'.getD j d) (h'.getD (par j) d)=false;rw[qW.out];exact Q));clear hb Q;go_wp2
    go_end0
    exact⟨rfl,h',HE.out,HP.out,h3.out⟩
theorem eR(x:Nat)(w:World):Br AP (method 371 234 (AI x) "Push") w=.ok (195,AI x) w:=a7
theorem kV(x:Nat)(w:World):Br AP (method 371 234 (AI x) "Pop") w=.ok (201,AI x) w:=a7
theorem nL(hC:Uq sx d lt R)(O:qT lt)(J:R h W)(hn:h.length<=1000000)(I:jB lt (λp=>h.getD p d) h.length 0):
  Calls AP 197 #[.iface 234 (AI sx),()] W λe w'=>e=AH (AM #[])/\∃h',Hp lt (λp=>h'.getD p d) h.length/\h'.Perm h/\R h' w':=by
 have mN:=Rj sx;have HL:=AO (hC.len h W J);have HD:Hid (∀W,R h W->Calls AP 199 #[.iface 234 (AI sx),(),h.length] W (pg d lt R h h.length)):=λW h1=>UO hC O h1 ⟨AQ _,hn⟩ I;clear hC O J I;generalize hN:h.length=N at*
 clear hN;go_enter func197,ntmps197
 go_wp2_with fail
 refine HL.out.mono ?_;rintro e w2 ⟨rfl,U⟩;have H:=AO (HD.out w2 U);clear U HD;go_wp2_with fail
 refine H.out.mono ?_;rintro e w3 ⟨b,h',rfl,h3,h4,h5,h6,Q⟩;have H3:=AO h3;have H4:=AO h4;have H7:=AO Q;clear h3 h4 h5 h6 Q
 cases b
 ·have HU:=AO (qx (sx:=sx) w3);go_wp2_with fail
  refine HU.out.mono ?_;rintro e w4 ⟨rfl,rfl⟩;go_wp2
  go_end0
  exact⟨rfl,h',H3.out,H4.out,H7.out⟩
 ·go_wp2
  go_end0
  exact⟨rfl,h',H3.out,H4.out,H7.out⟩
theorem m8{enc:α->Value}(hC:Uq sx d lt R)(ho:qT lt)(hr:R h W)(hn:h.length<=1000000)(H:0<h.length)(hx:Hp lt (λp=>h.getD p d) h.length)
  (aa:∀h W,R h W->0<h.length->Calls AP 201 #[AI sx] W λe w'=>e=AH (enc (h.getD (h.length-1) d))/\R (h.take (h.length-1)) w'):
  Calls AP 198 #[.iface 234 (AI sx)] W λe w'=>e=AH (enc (h.getD 0 d))/\∃h',Hp lt (λp=>h'.getD p d) (h.length-1)/\h'.length=h.length-1/\(h.getD 0 d::h').Perm h/\R h' w':=by
 have mN:=Rj sx;have mS:=PY sx;have mP:=kV sx;have HL:=AO (hC.len h W hr);obtain⟨n,hN⟩:=al (h.length-1);have xu:Hid (∀W,R h W->Calls AP 196 #[AI sx,(),n] W λe w'=>e=AH (AM #[])/\R (swp d h 0 n) w'):=λW I=>hC.swap h W 0 n I H a5;have O:jB lt (λp=>(swp d h 0 n).getD p d) n 0:=Hp.xY λj U I hp=>by
  have Hl:=MG U;have ab:par j≠n:=a5;show lt ((swp d h 0 n).getD j d) ((swp d h 0 n).getD (par j) d)=false;rw[E9 H a5,E9 H a5,if_neg a5,if_neg a5,if_neg ab,if_neg hp];exact hx j U a5
 have HD:Hid (∀W,R (swp d h 0 n) W->Calls AP 199 #[.iface 234 (AI sx),(),n] W (pg d lt R (swp d h 0 n) n)):=λW I=>UO hC ho I ⟨by rw[FY];omega,a5⟩ O;have T0:=AO aa;have Dr:Hid (∀h':List α,h'.Perm (swp d h 0 n)->(∀p,n<=p->h'.getD p d=(swp d h 0 n).getD p d)->h'.length-1=n/\0<h'.length/\h'.getD n d=h.getD 0 d/\(h.getD 0 d::h'.take n).Perm h):=λh' hp ht=>by
  have hl:h'.length=h.length:=by rw[hp.length_eq,FY]
  have I:h'.getD n d=h.getD 0 d:=by rw[ht n ao,E9 H a5,if_pos rfl]
  refine⟨a5,a5,I,?_⟩;have J:h'=h'.take n++[h'.getD n d]:=by
   have h3:h'.take (n+1)=h':=Ao a5;rw[Bi,AU a5]at h3;have h4:h'.getD n d=h'[n]:=by rw[AT,AU a5];rfl
   rw[h4];exact h3.symm
  rw[I]at J;have h5:(h.getD 0 d::h'.take n).Perm h':=by
   have Q:(h.getD 0 d::h'.take n).Perm (h'.take n++[h.getD 0 d]):=(List.perm_append_singleton _ _).symm;rw[<-J]at Q;exact Q
  exact h5.trans (hp.trans (Ka H a5))
 have m1:(h.length:Int)-1=(n:Int):=a5;have hnb:h.length<=1000000:=hn;generalize ae:h.getD 0 d=s0 at*
 clear hC ho hr hx aa O ae;have yA:=AO hN;clear hN;generalize ad:h.length=L at*
 clear ad;generalize swp d h 0 n=I at*
 go_enter func198,ntmps198
 go_wp2_with fail
 refine HL.out.mono ?_;rintro e w2 ⟨rfl,J⟩;have H2:=AO (xu.out w2 J);clear J xu;go_wp2_with fail
 refine H2.out.mono ?_;rintro e w3 ⟨rfl,h3⟩;have H3:=AO (HD.out w3 h3);clear h3 HD;go_wp2_with fail
 refine H3.out.mono ?_;rintro e w4 ⟨b,h',rfl,h4,h5,Q,h7,h8⟩;obtain⟨k1,k2,k3,k4⟩:=Dr.out h' h5 Q;have H8:=T0.out h' w4 h8 k2;rw[k1,k3]at H8;have H9:=AO H8;have H4:=AO h4;have K4:=AO k4;have K1:=AO k1;clear h4 h5 Q h7 h8 k1 k2 k3 k4 H8;go_wp2_with fail
 refine H9.out.mono ?_;rintro e w5 ⟨rfl,h9⟩;have ar:=AO h9;clear h9;go_wp2
 go_ret
 refine⟨rfl,h'.take n,?_,?_,K4.out,ar.out⟩
 ·rw[yA.out];intro j U I;have J:=H4.out j U I;have h3:=MG U;show lt ((h'.take n).getD j d) ((h'.take n).getD (par j) d)=false;rw[AT,AT,At,At,if_pos I,if_pos a5,<-AT,<-AT];exact J
 ·rw[yA.out,Ac];have:=K1.out;omega
theorem gI{v a}(hC:Uq sx d lt R)(ho:qT lt)(hn:h.length+1<=1000000)(hx:Hp lt (λp=>h.getD p d) h.length)
  (wP:Calls AP 195 #[AI sx,v] W λe w'=>e=AH (AM #[])/\R (h++[a]) w'):
  Calls AP 162 #[.iface 234 (AI sx),v] W λe w'=>e=AH (AM #[])/\∃h',Hp lt (λp=>h'.getD p d) (h.length+1)/\h'.Perm (h++[a])/\R h' w':=by
 have mN:=Rj sx;have mP:=eR sx;have jX:=AO wP;have J:(h++[a]).length=h.length+1:=by rw[AY];rfl
 have Q:∀p,p<h.length->(h++[a]).getD p d=h.getD p d:=λp hp=>by rw[AT,AT,Al hp]
 have HL:Hid (∀W,R (h++[a]) W->Calls AP 161 #[AI sx] W λe w'=>e=AH ((h.length+1:Nat):Int)/\R (h++[a]) w'):=λW I=>by
  have H:=hC.len _ W I;rw[J]at H;exact H
 have U:Hid (∀W,R (h++[a]) W->Calls AP 164 #[.iface 234 (AI sx),h.length] W λe w'=>e=AH (AM #[])/\∃h',Hp lt (λp=>h'.getD p d) (h.length+1)/\h'.Perm (h++[a])/\R h' w'):=λW I=>by
  refine tO hC ho I ⟨J.symm,hn,a5⟩ ⟨λj O H hj=>?_,λhp j O H hj=>by unfold par at hj;omega⟩;have h3:=MG O;show lt ((h++[a]).getD j d) ((h++[a]).getD (par j) d)=false;rw[Q j a5,Q (par j) a5];exact hx j O a5
 obtain⟨L,hL⟩:=al (h.length+1);have m1:(L:Int)-1=(h.length:Int):=a5;have aa:1<=L/\L<=1000000:=a5;rw[hL]at HL U⊢;clear hC ho hx wP J Q hL hn;generalize h.length=n at*
 generalize h++[a]=I at*
 go_enter func162,ntmps162
 go_wp2_with fail
 refine jX.out.mono ?_;rintro e w2 ⟨rfl,H⟩;have H2:=AO (HL.out w2 H);clear H HL;go_wp2_with fail
 refine H2.out.mono ?_;rintro e w3 ⟨rfl,h3⟩;have H3:=AO (U.out w3 h3);clear h3 U;go_wp2_with fail
 refine H3.out.mono ?_;rintro e w4 ⟨rfl,h',h4,h5,h6⟩;have H4:=AO h4;have H5:=AO h5;have H6:=AO h6;clear h4 h5 h6;go_wp2
 go_end0
 exact⟨rfl,h',H4.out,H5.out,H6.out⟩
end
def Kc(k g N cap:Nat)(o:Cv)(lv:Value):List Value:=[k,AJ g N cap,o.a,o.b,o.c,o.d,o.e,lv]
def Qr(o:Cv)(cur:Nat->Cv)(a b:Nat×Nat):Bool:=decide (DR o (cur a.1) (cur b.1)<0)||(decide (DR o (cur a.1) (cur b.1)=0)&&decide (a.1<b.1))
theorem Og(o:Cv)(cur:Nat->Cv):qT (Qr o cur) where
 asym:=λa b h=>by
  have I:=Dv o (cur a.1) (cur b.1);unfold Qr at*
  simp only[Bool.or_eq_true,Bool.and_eq_true,decide_eq_true_eq,Bool.or_eq_false_iff,Bool.and_eq_false_iff,decide_eq_false_iff_not]at*
  omega
 trans:=λa b c h k=>by
  have I:=Dv o (cur a.1) (cur b.1);have Q:=Dv o (cur b.1) (cur c.1);have h3:=Dv o (cur a.1) (cur c.1);unfold Qr at*
  simp only[Bool.or_eq_false_iff,Bool.and_eq_false_iff,decide_eq_false_iff_not]at*
  have h4:DR o (cur a.1) (cur b.1)<=0:=a5;have h5:DR o (cur b.1) (cur c.1)<=0:=a5;have O:=FQ h4 h5;refine⟨a5,?_⟩;by_cases H:DR o (cur c.1) (cur a.1)=0
  ·right;have J:DR o (cur a.1) (cur b.1)=0:=by
    by_cases e:DR o (cur a.1) (cur b.1)<0
    ·have:=K5 e h5;omega
    ·omega
   have U:DR o (cur b.1) (cur c.1)=0:=by
    by_cases e:DR o (cur b.1) (cur c.1)<0
    ·have:=M8 h4 e;omega
    ·omega
   omega
  ·left;exact H
section
variable{W:World}{sx k g N cap n c:Nat}{o:Cv}{A:Option Addr}
theorem OW(H:Row W sx 237 (Kc k g N cap o (AJ A n c))):Calls AP 161 #[AI sx] W λe w'=>e=AH n/\w'=W:=by
 have I:W.cell? (sx,7)=AE (AJ A n c):=H.cell 7;clear H;go_enter func161,ntmps161
 go_wp2
 go_ret
 exact⟨rfl,rfl⟩
end
section
variable{o:Cv}{P:Nat}{live live':Nat->List Cv}{jR out:List Cv}{p0:Nat}{t:Cv}{r:List Cv}
def XT(o:Cv)(P:Nat)(live:Nat->List Cv)(c:Cv):List Cv:=(Bu P).flatMap λp=>(live p).filter (Ky o c)
structure Yi (o:Cv) (P:Nat) (live:Nat->List Cv) (jR out:List Cv):Prop where
 cl:∀c,out.filter (Ky o c)++XT o P live c=jR.filter (Ky o c)
 asc:NC o out
 le:∀x∈out,∀p,p<P->∀y∈live p,DR o x y<=0
 live:∀p,p<P->NC o (live p)
theorem Sg{f g:Nat->List Cv}:∀(l:List Nat) (_:∀p∈l,f p=g p),l.flatMap f=l.flatMap g
 |[],_=>rfl
 |a::l,h=>by rw[List.flatMap_cons,List.flatMap_cons,h a Ax,Sg l λp hp=>h p (BB _ hp)]
theorem range_split{P p0}(h:p0<P):Bu P=Bu p0++p0::(Bu (P-p0-1)).map (λi=>p0+1+i):=by
 refine List.ext_getElem (by simp;omega) λi O J=>?_;rw[List.getElem_range];rcases Nat.lt_trichotomy i p0 with H|he|I
 ·rw[List.getElem_append_left (by simp;omega),List.getElem_range]
 ·subst he;rw[List.getElem_append_right a8];simp
 ·rw[List.getElem_append_right (by simp;omega)];obtain⟨k,e⟩:∃k,i-(Bu p0).length=k+1:=⟨i-p0-1,by simp;omega⟩;simp only[e,List.getElem_cons_succ,List.getElem_map,List.getElem_range];simp at e;omega
theorem Yi.step(h:Yi o P live jR out)(hp:p0<P)(hl:live p0=t::r)(Lr:∀p u us,p<P->live p=u::us->DR o t u<0\/(DR o t u=0/\p0<=p))
  (h0:live' p0=r)(h1:∀p,p≠p0->live' p=live p):Yi o P live' jR (out++[t]):=by
 have zy:∀p,p<P->∀y∈live p,DR o t y<=0:=λp H y e=>by
  cases I:live p with
  |nil=>rw[I]at e;cases e
  |cons u us=>
   have U:DR o t u<=0:=by rcases Lr p u us H I with h|h<;>omega
   rw[I]at e;rcases A8.1 e with rfl|e
   ·exact U
   ·have h3:=h.live p H;rw[I]at h3;exact FQ U ((List.pairwise_cons.1 h3).1 y e)
 have aa:∀p,p<p0->∀y∈live p,DR o t y<0:=λp H y e=>by
  cases I:live p with
  |nil=>rw[I]at e;cases e
  |cons u us=>
   have U:DR o t u<0:=by rcases Lr p u us a5 I with h|h<;>omega
   rw[I]at e;rcases A8.1 e with rfl|e
   ·exact U
   ·have h3:=h.live p a5;rw[I]at h3;exact K5 U ((List.pairwise_cons.1 h3).1 y e)
 have J:∀p,∀y∈live' p,y∈live p:=λp y e=>by
  by_cases H:p=p0
  ·rw[H]at e⊢;rw[hl];rw[h0]at e;exact BB _ e
  ·rwa [h1 p H]at e
 refine⟨λc=>?_,?_,λx O p H y e=>?_,λp H=>?_⟩
 ·rw[<-h.cl c,Ba,AR]
  congr 1
  unfold XT;rw[range_split hp,List.flatMap_append,List.flatMap_append,List.flatMap_cons,List.flatMap_cons,h0,hl];have e1:(Bu p0).flatMap (λp=>(live' p).filter (Ky o c))=(Bu p0).flatMap (λp=>(live p).filter (Ky o c)):=by
   refine Sg _ λp H=>?_;rw[h1 p (by have:=List.mem_range.1 H;omega)]
  have e2:((Bu (P-p0-1)).map (λi=>p0+1+i)).flatMap (λp=>(live' p).filter (Ky o c))=((Bu (P-p0-1)).map (λi=>p0+1+i)).flatMap (λp=>(live p).filter (Ky o c)):=by
   refine Sg _ λp H=>?_;obtain⟨i,_,rfl⟩:=Az.1 H;rw[h1 _ a5]
  rw[e1,e2];by_cases Q:Ky o c t=true
  ·have e3:(Bu p0).flatMap (λp=>(live p).filter (Ky o c))=[]:=by
    refine List.flatMap_eq_nil_iff.2 λp H=>List.filter_eq_nil_iff.2 λy e he=>?_;have U:=aa p (List.mem_range.1 H) y e;unfold Ky at he Q;simp only[decide_eq_true_eq]at he Q;have:=Me Q he;omega
   rw[e3,List.filter_cons_of_pos Q,List.filter_cons_of_pos Q];rfl
  ·rw[List.filter_cons_of_neg Q,List.filter_cons_of_neg Q];rfl
 ·exact List.pairwise_append.2 ⟨h.asc,List.pairwise_singleton _ _,λx O y e=>by
   rw[Bn.1 e];exact h.le x O p0 hp t (by rw[hl];exact Ax)⟩
 ·rcases Ag.1 O with O|O
  ·exact h.le x O p H y (J p y e)
  ·rw[Bn.1 O];exact zy p H y (J p y e)
 ·by_cases I:p=p0
  ·rw[I,h0];have h3:=h.live p0 hp;rw[hl]at h3;exact(List.pairwise_cons.1 h3).2
  ·rw[h1 p I];exact h.live p H
theorem Yi.done(h:Yi o P live jR out)(H:∀p,p<P->live p=[]):Cl o jR out/\NC o out:=by
 refine⟨λc=>?_,h.asc⟩;rw[<-h.cl c];have e:XT o P live c=[]:=List.flatMap_eq_nil_iff.2 λp hp=>by rw[H p (List.mem_range.1 hp)];rfl
 rw[e,AZ]
theorem Yi.start(I:∀p,p<P->NC o (live p))(hi:jR=(Bu P).flatMap live):Yi o P live jR []:=by
 refine⟨λc=>?_,O5 o,λx H=>absurd H List.not_mem_nil,I⟩;rw[hi];unfold XT;rw[List.filter_nil,BI];generalize Bu P=e
 induction e with
 |nil=>rfl
 |cons q e ih=>rw[List.flatMap_cons,List.flatMap_cons,Ba,ih]
end
section
variable{W:World}{sx k g N cap n c gl i j a b:Nat}{o ta tb:Cv}
theorem ef(hr:Row W sx 237 (Kc k g N cap o (AJ gl n c)))(hi:i<n)(hj:j<n)
  (J:W.cell? (gl,i*2)=AE (AA AB (a:Nat)))(I:W.cell? (gl,j*2)=AE (AA AB (b:Nat)))
  (hA:∀W',Below W W W'->Calls AP 192 #[AL #[k,AJ g N cap],a] W' λe w'=>e=AH (AL #[ta.a,ta.b,ta.c,ta.d,ta.e])/\Below W' W' w')
  (hB:∀W',Below W W W'->Calls AP 192 #[AL #[k,AJ g N cap],b] W' λe w'=>e=AH (AL #[tb.a,tb.b,tb.c,tb.d,tb.e])/\Below W' W' w'):
  Calls AP 193 #[AI sx,i,j] W λe w'=>e=AH (.bool (decide (DR o ta tb<0)||(decide (DR o ta tb=0)&&decide (a<b))))/\Below W W w':=by
 have c7:W.drew.cell? (sx,7)=AE (AJ gl n c):=hr.cell 7;have ci:W.drew.cell? (gl,i*2)=AE (AA AB (a:Nat)):=J;have cj:W.drew.cell? (gl,j*2)=AE (AA AB (b:Nat)):=I;have i1:(0:Int)<=(i:Int):=a5;have i2:(i:Int)<(n:Int):=a5;have j1:(0:Int)<=(j:Int):=a5;have j2:(j:Int)<(n:Int):=a5;have Q1:Hid (∀d os,Calls AP 192 #[AL #[k,AJ g N cap],a] (Ai (redrawn W.drew d) os) λe O=>e=AH (AL #[ta.a,ta.b,ta.c,ta.d,ta.e])/\∃p:Cq,O=Ai (redrawn W.drew p.d) p.os):=λd os=>BU (hA _ ((Cz (AS _ _)).trans (Bj W.drew d os)));have Q2:Hid (∀d os,Calls AP 192 #[AL #[k,AJ g N cap],b] (Ai (redrawn W.drew d) os) λe O=>e=AH (AL #[tb.a,tb.b,tb.c,tb.d,tb.e])/\∃p:Cq,O=Ai (redrawn W.drew p.d) p.os):=λd os=>BU (hB _ ((Cz (AS _ _)).trans (Bj W.drew d os)));have Q3:Hid (∀d os,Calls AP 185 #[AL #[ta.a,ta.b,ta.c,ta.d,ta.e],AL #[tb.a,tb.b,tb.c,tb.d,tb.e],AL #[o.a,o.b,o.c,o.d,o.e]] (Ai (redrawn W.drew d) os) λe O=>e=AH (AA AB (DR o ta tb))/\∃p:Cq,O=Ai (redrawn W.drew p.d) p.os):=λd os=>BU (RI o _ _ _);have H:Row W.drew sx 237 (Kc k g N cap o (AJ gl n c)):=hr.drewN 1;have k0:∀d os,(Ai (redrawn W.drew d) os).cell? sx=AE (AA AB k):=Ab (H.cell 0);have k1:∀d os,(Ai (redrawn W.drew d) os).cell? (sx,1)=AE (AJ g N cap):=Ab (H.cell 1);have k2:∀d os,(Ai (redrawn W.drew d) os).cell? (sx,2)=AE (AA AB o.a):=Ab (H.cell 2);have k3:∀d os,(Ai (redrawn W.drew d) os).cell? (sx,3)=AE (AA AB o.b):=Ab (H.cell 3);have k4:∀d os,(Ai (redrawn W.drew d) os).cell? (sx,4)=AE (AA AB o.c):=Ab (H.cell 4);have k5:∀d os,(Ai (redrawn W.drew d) os).cell? (sx,5)=AE (AA AB o.d):=Ab (H.cell 5);have k6:∀d os,(Ai (redrawn W.drew d) os).cell? (sx,6)=AE (AA AB o.e):=Ab (H.cell 6);have K9:Hid (Below W W W.drew):=Cz (AS _ _);generalize DR o ta tb=res at*
 obtain⟨ia,ib,ic,id,ie⟩:=ta;obtain⟨ja,jb,jc,jd,je⟩:=tb;obtain⟨oa,ob,oc,od,oe⟩:=o;simp only at*
 clear hr H hA hB J I hi hj;go_enter func193,ntmps193
 go_wp2_with fail
 go_region_held3 (λW=>W.cell? (sx,7)=AE (AJ gl n c)/\W.cell? (gl,i*2)=AE (AA AB (a:Nat))/\W.cell? (gl,j*2)=AE (AA AB (b:Nat))) (with_reducible exact⟨c7,ci,cj⟩) (fail)
 clear c7 ci cj;go_wp2_with fail
 generalize W.drew=W1 at*
 refine Bb a7 a7 ?_
 repeat(any_goals(first|go_big_quiet_step (with_reducible first|exact Q1.out _ _|exact Q2.out _ _|exact Q3.out _ _)|quiet_step (with_reducible first|exact Q1.out _ _|exact Q2.out _ _|exact Q3.out _ _)))
 refine CV ?_;intro w5 Q;obtain⟨⟨dq,osq⟩,Q⟩:=Q;have Eh:=Bj W1 dq osq;rw[<-Q]at Eh;have HB:=AO Eh;clear Q Eh;have U:Hid (Below W W w5):=K9.out.trans (HB.out.mono K9.out.size);by_cases h1:res<0
 ·have HR:Hid ((decide (res<0)||decide (res=0)&&decide (a<b))=true):=by unfold Hid;rw[decide_eq_true h1];rfl
  go_wp2
  go_ret
  exact⟨by rw[HR.out];rfl,U.out⟩
 ·by_cases h2:res=0
  ·subst h2;clear h1;by_cases h3:a<b
   ·go_wp2
    go_ret
    exact⟨a8,U.out⟩
   ·go_wp2
    go_ret
    exact⟨a8,U.out⟩
  ·have aa:Hid (decide (res<0)=false):=decide_eq_false h1;have g2:(res==0)=false:=by simpa using h2
   go_wp2
   go_ret
   exact⟨by rw[aa.out];rfl,U.out⟩
end
section
variable{W:World}{sx k g N cap n m c gl a:Nat}{o:Cv}{v:Value}
theorem kX(H:Row W sx 237 (Kc k g N cap o (AJ gl n c)))(hm:n=m+1)(J:n<=c/\n<=1000000){x:Nat}
  (aG:W.cell? (gl,m*2)=AE (AA AB (a:Nat)))(Q:W.cell? (gl,m*2+1)=AE (AI x)):
  Calls AP 201 #[AI sx] W λe w'=>e=AH (.iface 242 (AL #[a,AI x]))/\Row w' sx 237 (Kc k g N cap o (AJ gl m c))/\DG (λb=>b=sx) W w':=by
 have c7:W.cell? (sx,7)=AE (AJ gl n c):=H.cell 7;have f7:=H.free 7;have m1:(n:Int)-1=(m:Int):=a5;have i1:(0:Int)<=(m:Int):=a5;have i2:(m:Int)<(n:Int):=a5;have i3:(m:Int)<=(c:Int):=a5;have I:=J.2;have HR:=AO H;have O:=H.lt;clear hm H;go_enter func201,ntmps201
 go_wp2
 go_ret
 refine⟨rfl,?_,?_⟩
 ·have h1:=(HR.out.set 7 (AJ gl m c)).alloc (AK #[a,AI x] 242);exact h1
 ·have h0:DG (λb=>b=sx) W W:=DG.refl _ _;have U:=h0.set (p:=(sx,7)) (.inl rfl) (AJ gl m c);exact U.trans (DG.DB ((AS _ _).alloc ao _) (λb=>b=sx)) λb hb=>.inl hb
end
section
variable{W:World}{sx k g N cap n c gl i j a b xa xb B p x:Nat}{o:Cv}{lv:Value}{cs xs:List Value}
theorem eV(hr:Row W sx 237 (Kc k g N cap o (AJ gl n c)))(H:Row W gl 242 cs)(hi:i<n)(hj:j<n)
  (aG:cs[i*2]?=AE (AA AB (a:Nat)))(J:cs[i*2+1]?=AE (AI xa))(Lt:cs[j*2]?=AE (AA AB (b:Nat)))(Q:cs[j*2+1]?=AE (AI xb)):
  Calls AP 196 #[AI sx,i,j] W λe w'=>e=AH (AM #[])/\
   Row w' gl 242 ((((cs.set (i*2) b).set (i*2+1) (AI xb)).set (j*2) a).set (j*2+1) (AI xa))/\DG (λb=>b=gl) W w':=by
 have c7:W.cell? (sx,7)=AE (AJ gl n c):=hr.cell 7;have ca:W.cell? (gl,i*2)=AE (AA AB (a:Nat)):=(H.cell _).trans aG;have ae:W.cell? (gl,i*2+1)=AE (AI xa):=(H.cell _).trans J;have cb:W.cell? (gl,j*2)=AE (AA AB (b:Nat)):=(H.cell _).trans Lt;have ad:W.cell? (gl,j*2+1)=AE (AI xb):=(H.cell _).trans Q;have fa:=H.free (i*2);have ab:=H.free (i*2+1);have fb:=H.free (j*2);have aa:=H.free (j*2+1);have i1:(0:Int)<=(i:Int):=a5;have i2:(i:Int)<(n:Int):=a5;have j1:(0:Int)<=(j:Int):=a5;have j2:(j:Int)<(n:Int):=a5;have HL:=AO H;have I:∀v1 U,Row ((W.setCell (gl,i*2) v1).setCell (gl,i*2+1) U) gl 242 ((cs.set (i*2) v1).set (i*2+1) U):=λv1 U=>(H.set _ _).set _ _;have hlen:j*2+1<cs.length:=by
  rcases Am (j*2+1) cs.length with hx|hx
  ·exact hx
  ·rw[BG hx]at Q;cases Q
 obtain⟨O,z3⟩:∃O,((W.setCell (gl,i*2) b).setCell (gl,i*2+1) (AI xb)).cell? (gl,j*2)=AE O:=⟨_,by rw[(I _ _).cell];exact AU (by simp;omega)⟩;obtain⟨v5,z5⟩:∃O,(W.setCell (gl,i*2) b).cell? (gl,j*2)=AE O:=⟨_,by rw[(H.set _ _).cell];exact AU (by simp;omega)⟩;obtain⟨v4,z4⟩:∃v4,(((W.setCell (gl,i*2) b).setCell (gl,i*2+1) (AI xb)).setCell (gl,j*2) a).cell? (gl,j*2+1)=AE v4:=⟨_,by rw[((I _ _).set _ _).cell];exact AU (by simp;omega)⟩;have f3:=(I b (AI xb)).free (j*2);have f4:=((I b (AI xb)).set (j*2) a).free (j*2+1);clear hr H aG J Lt Q hi hj I hlen;go_enter func196,ntmps196
 go_wp2_with fail
 go_region
 go_wp2
 go_end0
 refine⟨rfl,?_,?_⟩
 ·exact((((HL.out.set (i*2) b).set (i*2+1) (AI xb)).set (j*2) a).set (j*2+1) (AI xa)).drewN 1
 ·exact(((((DG.refl (λb=>b=gl) W).set (p:=(gl,i*2)) (.inl rfl) b).set (p:=(gl,i*2+1)) (.inl rfl) (AI xb)).set (p:=(gl,j*2)) (.inl rfl) a).set (p:=(gl,j*2+1)) (.inl rfl) (AI xa)).drew
theorem Rs(a:Nat×Nat)(w:World):Br AP (Instr.typeAssert (.iface 242 (AL #[a.1,AI a.2])) 20 242 false) w=.ok (AL #[a.1,AI a.2]) w:=a7
theorem y8:(AP.info? 242).map (λi=>(i.zero,i.size,i.bytes))=AE (AE (AL #[(),AI AD]),2,16):=a7
theorem eW(U:Row W sx 237 (Kc k g N cap o lv))(Q:W.ownsRow B 242 2 lv n xs)(hB:B<=W)(hn:n<=1000000):
  Calls AP 195 #[.pointer sx,.iface 242 (AL #[p,.pointer x])] W λe w'=>e=AH (AM #[])/\
   ∃Jh,Row w' sx 237 (Kc k g N cap o Jh)/\w'.ownsRow B 242 2 Jh (n+1) (xs++[AA AB (p:Nat),.pointer x])/\DG (λb=>b=sx\/lv.ownBlock=AE b) W w'/\(∀b,Jh.ownBlock=AE b->lv.ownBlock=AE b\/W.heap.size<=b):=by
 obtain⟨it,FM,Ft,Ew,Js⟩:=info_parts y8;have aa:AE sx≠lv.ownBlock:=λe=>by
  obtain⟨h1,⟨h4,_⟩|⟨gl,c,c2,h4,h5,h6,_⟩⟩:=Q
  ·rw[h4]at e;cases e
  ·rw[h4]at e;have e:sx=gl:=by injection e
   subst e;have hx:Row W sx 242 c2.toList:=by unfold Row;rw[Array.toArray_toList];exact h6
   exact absurd (U.typed hx) a6
 have DV:Below W W (W.drew.alloc (AK #[p,.pointer x] 242)):=(Cz (AS _ _)).alloc ao _;have DN:Below W W (W.alloc (AK #[p,.pointer x] 242)).drew:=Cz ((AS _ _).alloc ao _);have o1:=JT Q DV;have o2:=JT Q DN;have c7:W.drew.cell? (sx,7)=AE lv:=U.cell 7;have c8:(W.alloc (AK #[p,.pointer x] 242)).cell? (sx,7)=AE lv:=(U.alloc _).cell 7;have HK:Hid (∀w6 H J I,Below W.heap.size W w6->I.ownsRow B 242 2 (.slice (AE ⟨H,0,AD⟩) (n+1) J) (n+1) (xs++[AA AB (p:Nat),.pointer (AE ⟨x,0,AD⟩)])->w6.grownBy I lv.ownBlock->(lv.ownBlock=AE H\/H=W.heap.size+1)->
   Row I sx 237 (Kc k g N cap o lv)/\Row (I.setCell ⟨sx,7,AD⟩ (.slice (AE ⟨H,0,AD⟩) (n+1) J)) sx 237 (Kc k g N cap o (.slice (AE ⟨H,0,AD⟩) (n+1) J))/\(I.setCell ⟨sx,7,AD⟩ (.slice (AE ⟨H,0,AD⟩) (n+1) J)).ownsRow B 242 2 (.slice (AE ⟨H,0,AD⟩) (n+1) J) (n+1) (xs++[AA AB (p:Nat),.pointer (AE ⟨x,0,AD⟩)])/\
   DG (λb=>b=sx\/lv.ownBlock=AE b) W (I.setCell (sx,7) (.slice H (n+1) J))/\(∀b,(Value.slice H (n+1) J).ownBlock=AE b->lv.ownBlock=AE b\/W.heap.size<=b)):=λw6 H J I hb ho hg FX=>by
  have WK:DG (λb=>lv.ownBlock=AE b) W w6:=DG.DB hb _;have Yd:=WK.grown hg λk hk=>.inl hk;have tW:=Yd.row U λe=>aa e.symm;refine⟨tW,tW.set 7 _,XE ho tW a6 _,(Yd.mono λb hb=>.inr hb).set (p:=(sx,7)) (.inl (.inl rfl)) _,λb hb=>?_⟩;have hb:H=b:=by injection hb
  subst hb;exact FX.elim .inl λe=>.inr a5
 have ad:=Rs (p,x);have ab:=AO hB;clear Q hB aa U;go_enter func195,ntmps195
 go_wp2_with fail
 go_region_law ((refine step_append_lies _ rfl _ _ 235 rfl B 242 it _ 2 16 underlying235 FM Ft Ew Js rfl a6 lv n xs (by rfl) (by first|exact o1|exact o2) W.heap.size 1 1 [p,.pointer x] (by rfl) (by rfl) (World.news_of_block (cs:=#[p,.pointer x]) (t:=242) (fr:=(0,0)) (by first|exact heap_alloc_new W _|exact heap_alloc_new W.drew _)) (by simp[Value.oneCell']) a5 (by unfold maxLen;omega) a5 (by have:=ab.out;simp;omega) (W.heap.size+1) a8 ?_;intro H J I Q wv FX ae;have q7:=HK.out _ H J I (by first|exact DV|exact DN) Q wv FX;have q8:I.cell? (sx,7)=AE lv:=q7.1.cell 7;have q9:=q7.1.free 7;have O:=AO q7.2;clear q7 Q wv FX))
 all_goals
  go_wp2
  go_end0
  exact⟨rfl,_,O.out.1,O.out.2.1,O.out.2.2.1,O.out.2.2.2⟩
end
def LO(a:Nat×Nat):List Value:=[a.1,AI a.2]
def Hr(h:List (Nat×Nat)):List Value:=h.flatMap LO
theorem N7(a:Nat×Nat)(h:List (Nat×Nat)):Hr (a::h)=AA AB (a.1:Nat)::AI a.2::Hr h:=rfl
theorem aT(h:List (Nat×Nat))(a:Nat×Nat):Hr (h++[a])=Hr h++LO a:=by unfold Hr;rw[List.flatMap_append];simp
theorem GV:∀{h} {i} {a},h[i]?=AE a->(Hr h)[i*2]?=AE (AA AB (a.1:Nat))/\(Hr h)[i*2+1]?=AE (AI a.2)
 |[],_,_,hi=>by simp at hi
 |b::h,0,a,hi=>by
  simp at hi;subst hi;exact⟨rfl,rfl⟩
 |b::h,i+1,a,hi=>by
  have e:=GV (h:=h) (i:=i) (a:=a) (by simpa using hi);rw[N7,show (i+1)*2=i*2+1+1 by omega];exact e
theorem Py:∀{h} {i} (a:Nat×Nat),i<h.length->((Hr h).set (i*2) a.1).set (i*2+1) (AI a.2)=Hr (h.set i a)
 |[],_,_,hi=>by simp at hi
 |b::h,0,a,_=>rfl
 |b::h,i+1,a,hi=>by
  have e:=Py (h:=h) (i:=i) a (by simpa using hi);rw[N7,show (i+1)*2=i*2+1+1 by omega,Bz,Bz,Bz,Bz,e];rfl
theorem Sk:∀(h:List (Nat×Nat)) (n:Nat),(Hr h).take (n*2)=Hr (h.take n)
 |[],n=>by rw[List.take_nil];exact List.take_nil
 |a::h,0=>by rw[CS,Bt,Bt];rfl
 |a::h,n+1=>by
  rw[N7,show (n+1)*2=n*2+1+1 by omega,List.take_succ_cons,List.take_succ_cons,Sk h n];rfl
theorem JS{w base e v n xs}(h:w.ownsRow base e 2 v n xs)(Q:0<n):
  ∃gl c cs,v=AJ (AE ⟨gl,0,AD⟩) n c/\base<=gl/\Row w gl e cs/\n<=c/\c<=maxLen/\cs.length=c*2/\cs.take (n*2)=xs:=by
 obtain⟨U,⟨_,H⟩|⟨gl,c,cur,H,h3,h4,h5,O,J,I⟩⟩:=h
 ·omega
 ·exact⟨gl,c,cur.toList,H,h3,by unfold Row;rw[Array.toArray_toList];exact h4,h5,O,by simpa using J,I⟩
theorem Mu{w:World}{base e v n xs}(h:w.ownsRow base e 2 v n xs):∃A c,v=AJ A n c:=by
 obtain⟨I,⟨H,h3⟩|⟨gl,c,cur,H,_⟩⟩:=h
 ·exact⟨AD,0,by rw[H,h3]⟩
 ·exact⟨_,_,H⟩
theorem lV{w base e n gl c cs xs}(I:Row w gl e cs)(hb:base<=gl)(J:n<=c)(Q:c<=maxLen)(O:cs.length=c*2)(H:cs.take (n*2)=xs):w.ownsRow base e 2 (AJ gl n c) n xs:=by
 refine⟨by rw[<-H,Ac];omega,.inr ⟨gl,c,cs.toArray,rfl,hb,I,J,Q,by simpa using O,by simpa using H⟩⟩
def NS(X:Cx)(sx k g M:Nat)(o:Cv)(lv:Value)(h:List (Nat×Nat)):DA:=⟨λb=>b=sx\/lv.ownBlock=AE b,λW=>Row W sx 237 (Kc k g M M o lv)/\W.ownsRow X.w0.heap.size 242 2 lv h.length (Hr h),AD,(0,0),λ_=>True⟩
section
variable{X:Cx}{os:List DA}{m iz ig:Nat}{W W':World}{sx k b g M:Nat}{o:Cv}{lv:Value}{h cl:List (Nat×Nat)}{cur:List Cv}
theorem kW:(NS X sx k g M o lv h).Ok:=⟨λW W' ⟨e,h2⟩ hk=>⟨Ef e (hk _ (.inl rfl)),Fq h2 λk he=>hk k (.inr he)⟩,λ_ _ _ _ _=>trivial,λ_ _ h=>by cases h⟩
theorem Wd.streams(hw:Wd X os m W)(hi:os[iz]?=AE (NS X sx k g M o lv h)){Jh}{h'}(hf:DG (λb=>b=sx\/lv.ownBlock=AE b) W W')(H:Row W' sx 237 (Kc k g M M o Jh))(I:W'.ownsRow X.w0.heap.size 242 2 Jh h'.length (Hr h'))
  (hb:∀b,Jh.ownBlock=AE b->lv.ownBlock=AE b\/W<=b):Wd X (os.set iz (NS X sx k g M o Jh h')) m W':=by
 obtain⟨U,Q⟩:=hw.at_ hi;refine hw.Of hi hf (λb hb=>⟨hb,λv e=>?_⟩) kW ⟨H,I⟩ (λb DN=>⟨?_,?_⟩) rfl rfl (λ_ _=>trivial)
 ·rcases hb with rfl|hb
  ·exact absurd (U.typed e) a6
  ·obtain⟨h3,⟨h4,_⟩|⟨gl,c,c2,h4,h5,O,_⟩⟩:=Q
   ·rw[h4]at hb;cases hb
   ·rw[h4]at hb;have hb:gl=b:=by injection hb
    subst hb;have J:Row W gl 242 c2.toList:=by unfold Row;rw[Array.toArray_toList];exact O
    exact absurd (J.typed e) a6
 ·rcases DN with rfl|DN
  ·exact .inl (.inl rfl)
  ·exact(hb b DN).elim (λh=>.inl (.inr h)) .inr
 ·rcases DN with rfl|DN
  ·exact H.lt
  ·exact(I.lt b DN).2
def StR(X:Cx)(os:List DA)(m iz:Nat)(sx k g M:Nat)(o:Cv)(P:Nat)(h:List (Nat×Nat))(W:World):Prop:=(∀a∈h,a.1<P)/\h.length<=100000/\∃lv,Wd X (os.set iz (NS X sx k g M o lv h)) m W
theorem E5{h:List (Nat×Nat)}{i}(hi:i<h.length):h[i]?=AE (h.getD i (0,0))/\h.getD i (0,0)∈h:=by
 have e:h.getD i (0,0)=h[i]:=by rw[AT,AU hi];rfl
 rw[e];exact⟨AU hi,Bs hi⟩
theorem kM{h i j}(hi:i<h.length)(e:j<h.length):∀a∈swp (0,0) h i j,a∈h:=λ_ H=>(Ka hi e).mem_iff.1 H
theorem Vl(hw:Wd X os m W)(I:os[ig]?=AE (Fw b g M k cur))(H:0<k/\k<=5)(J:cur.length*k<=M/\M<=1000000)(hf:ID k cur){p}(hp:p<cur.length):
  Calls AP 192 #[AL #[k,AJ g M M],p] W λe w'=>e=AH (AL #[AA AB (cur.getD p Cu).a,AA AB (cur.getD p Cu).b,AA AB (cur.getD p Cu).c,AA AB (cur.getD p Cu).d,AA AB (cur.getD p Cu).e])/\Below W W w':=by
 obtain⟨_,ws,h2,h3,h4⟩:=hw.at_ I;obtain⟨h5,U⟩:=Ox H.2 rfl rfl h4 (getD_some hp);obtain⟨Q,O⟩:=hf _ (M7 hp);exact cX h3 H a5 ao J.2 a5 U Q O
theorem PW(hg:os[ig]?=AE (Fw b g M k cur))(hi:iz≠ig)(ab:iz<os.length)(hk:0<k/\k<=5)(hM:cur.length*k<=M/\M<=1000000)(hf:ID k cur):
  Uq sx (0,0) (Qr o λp=>cur.getD p Cu) (StR X os m iz sx k g M o cur.length):=by
 have hs:∀lv h,(os.set iz (NS X sx k g M o lv h))[iz]?=AE (NS X sx k g M o lv h):=λlv h=>by rw[Av,if_pos rfl,if_pos ab]
 have FT:∀lv h,(os.set iz (NS X sx k g M o lv h))[ig]?=AE (Fw b g M k cur):=λlv h=>Fa hg hi;refine⟨λh W ⟨I,hle,lv,hw⟩=>?_,λh W i j ⟨I,hle,lv,hw⟩ hi hj=>?_,λh W i j ⟨I,hle,lv,hw⟩ hi hj=>?_⟩
 ·obtain⟨H,O⟩:=hw.at_ (hs lv h);obtain⟨A,c,rfl⟩:=Mu O;exact(OW H).mono λe w' ⟨he,hW⟩=>⟨he,I,hle,AJ A h.length c,by rw[hW];exact hw⟩
 ·obtain⟨H,O⟩:=hw.at_ (hs lv h);obtain⟨gl,c,cs,rfl,h3,h4,h5,h6,h7,h8⟩:=JS O a5;obtain⟨U,m2⟩:=E5 hi;obtain⟨Q,m4⟩:=E5 hj;have J:∀(p q:Nat) (v:Value),p<h.length->q<2->(Hr h)[p*2+q]?=AE v->W.cell? (gl,p*2+q)=AE v:=λp q v hp hq hv=>by
   rw[h4.cell,<-hv,<-h8,At,if_pos a5]
  refine(ef H hi hj (J i 0 _ hi a5 (GV U).1) (J j 0 _ hj a5 (GV Q).1) (λW' hb=>Vl (hw.below hb) (FT _ h) hk hM hf (I _ m2)) (λW' hb=>Vl (hw.below hb) (FT _ h) hk hM hf (I _ m4))).mono ?_;exact λe w' ⟨he,hb⟩=>⟨he,I,hle,_,hw.below hb⟩
 ·obtain⟨H,O⟩:=hw.at_ (hs lv h);obtain⟨gl,c,cs,rfl,h3,h4,h5,h6,h7,h8⟩:=JS O a5;obtain⟨U,m2⟩:=E5 hi;obtain⟨Q,m4⟩:=E5 hj;have J:∀(p q:Nat) (v:Value),p<h.length->q<2->(Hr h)[p*2+q]?=AE v->cs[p*2+q]?=AE v:=λp q v hp hq hv=>by
   rw[<-hv,<-h8,At,if_pos a5]
  refine(eV H h4 hi hj (J i 0 _ hi a5 (GV U).1) (J i 1 _ hi a5 (GV U).2) (J j 0 _ hj a5 (GV Q).1) (J j 1 _ hj a5 (GV Q).2)).mono ?_;rintro e w' ⟨he,hr,hF⟩;have IW:((((cs.set (i*2) (AA AB ((h.getD j (0,0)).1:Nat))).set (i*2+1) (AI (AE ⟨(h.getD j (0,0)).2,0,AD⟩))).set (j*2) (AA AB ((h.getD i (0,0)).1:Nat))).set (j*2+1) (AI (AE ⟨(h.getD i (0,0)).2,0,AD⟩))).take (h.length*2)=Hr (swp (0,0) h i j):=by
   rw[List.take_set,List.take_set,List.take_set,List.take_set,h8,Py _ hi,Py _ (by rw[Bk];exact hj)];rfl
  have aa:sx≠gl:=λe=>absurd (H.typed (e▸h4)) a6;have ho:w'.ownsRow X.w0.heap.size 242 2 (AJ gl h.length c) (swp (0,0) h i j).length (Hr (swp (0,0) h i j)):=by rw[FY];exact lV hr h3 h5 h6 (by simp[h7]) IW
  have h9:=hw.streams (h':=swp (0,0) h i j) (hs _ h) (hF.mono λb hb=>by
   have hb:b=gl:=hb;subst hb;exact .inr rfl) (hF.row H aa) ho (λb hb=>.inl hb)
  rw[List.set_set]at h9;exact⟨he,λa ha=>I a (kM hi hj a ha),by rw[FY];exact hle,_,h9⟩
def yT(a:Nat×Nat):Value:=.iface 242 (AL #[a.1,AI a.2])
theorem rZ{P}(J:iz<os.length)(h:List (Nat×Nat))(W:World)(H:StR X os m iz sx k g M o P h W)(I:0<h.length):
  Calls AP 201 #[AI sx] W λe w'=>e=AH (yT (h.getD (h.length-1) (0,0)))/\StR X os m iz sx k g M o P (h.take (h.length-1)) w':=by
 obtain⟨h0,hle,lv,hw⟩:=H;have Q:∀lv h,(os.set iz (NS X sx k g M o lv h))[iz]?=AE (NS X sx k g M o lv h):=λlv h=>by rw[Av,if_pos rfl,if_pos J]
 obtain⟨h1,h2⟩:=hw.at_ (Q lv h);obtain⟨gl,c,cs,rfl,h3,h4,h5,h6,h7,h8⟩:=JS h2 I;obtain⟨O,m2⟩:=E5 (show h.length-1<h.length by omega);have GU:∀(p q:Nat) (v:Value),p<h.length->q<2->(Hr h)[p*2+q]?=AE v->W.cell? (gl,p*2+q)=AE v:=λp q v hp hq hv=>by
  rw[h4.cell,<-hv,<-h8,At,if_pos a5]
 refine(kX h1 (show h.length=(h.length-1)+1 by omega) ⟨h5,a5⟩ (GU _ 0 _ a5 a5 (GV O).1) (GU _ 1 _ a5 a5 (GV O).2)).mono ?_;rintro e w' ⟨he,H,hF⟩;have Qu:gl≠sx:=λe=>absurd (h1.typed (e▸h4)) a6;have zY:(h.take (h.length-1)).length=h.length-1:=by rw[Ac];omega
 have ho:w'.ownsRow X.w0.heap.size 242 2 (AJ gl (h.length-1) c) (h.take (h.length-1)).length (Hr (h.take (h.length-1))):=by
  rw[zY];refine lV (hF.row h4 Qu) h3 a5 h6 h7 ?_;rw[<-Sk,<-h8,B7,Bh a5]
 have U:=hw.streams (h':=h.take (h.length-1)) (Q _ h) (hF.mono λb hb=>.inl hb) H ho (λb hb=>.inl hb);rw[List.set_set]at U;exact⟨he,λa ha=>h0 a (Bo ha),a5,_,U⟩
theorem kR{P}(H:iz<os.length){h}{W}(hr:StR X os m iz sx k g M o P h W)(a:Nat×Nat)(ha:a.1<P)(hl:h.length+1<=100000):
  Calls AP 195 #[AI sx,yT a] W λe w'=>e=AH (AM #[])/\StR X os m iz sx k g M o P (h++[a]) w':=by
 obtain⟨h0,hle,lv,hw⟩:=hr;have I:∀lv h,(os.set iz (NS X sx k g M o lv h))[iz]?=AE (NS X sx k g M o lv h):=λlv h=>by rw[Av,if_pos rfl,if_pos H]
 obtain⟨h1,h2⟩:=hw.at_ (I lv h);refine(eW (p:=a.1) (x:=a.2) h1 h2 hw.size a5).mono ?_;rintro e w' ⟨he,Jh,U,Q,k3,O⟩;have ho:w'.ownsRow X.w0.heap.size 242 2 Jh (h++[a]).length (Hr (h++[a])):=by rw[AY,aT];exact Q
 have J:=hw.streams (h':=h++[a]) (I _ h) k3 U ho O;rw[List.set_set]at J;refine⟨he,λb hb=>?_,by rw[AY];exact hl,_,J⟩;rcases Ag.1 hb with hb|hb
 ·exact h0 b hb
 ·rw[Bn.1 hb];exact ha
end
theorem Df{a b:List DA}{i:Nat}{v}(h:a[i]?=AE v):(a++b)[i]?=AE v:=by rw[Al (MI h)];exact h
theorem IU{a b:List DA}{i u v}(h:a[i]?=AE u):(a++b).set i v=a.set i v++b:=List.set_append_left _ _ (MI h)
theorem DD(a b:List DA)(j:Nat):(a++b)[a.length+j]?=b[j]?:=by rw[AX a5,Cm]
theorem Wd.forget{X a b m W}(h:Wd X (a++b) m W)(hb:Dn b):Wd X a m W:=by
 have H:Wd X (a++b++[]) m W:=by rw[AZ];exact h
 have e:=H.Fy b hb;rwa [AZ]at e
theorem G3(g:Nat)(t:TypeId)(cs:List Value):(Cs g t cs).gr=AD/\(Cs g t cs).ex.2=0:=⟨rfl,rfl⟩
theorem DF{a l}(J:a.gr=AD/\a.ex.2=0)(I:Dn l):Dn (a::l):=λq H=>(A8.1 H).elim (λe=>by rw[e];exact J) (I q)
theorem Ea:Dn []:=λq e=>by cases e
section
variable{X:Cx}{os:List DA}{m iz ig ip:Nat}{W W':World}{sx k b g M p0 x0:Nat}{o t nx:Cv}{lv:Value}{hp:List (Nat×Nat)}{cur l:List Cv}{rt:Rt}
theorem T5{W b u t}(e:Row W b 47 (DE u)):Row (((((W.setCell b t.a).setCell (b,1) t.b).setCell (b,2) t.c).setCell (b,3) t.d).setCell (b,4) t.e) b 47 (DE t)/\
  DG (λk=>k=b) W (((((W.setCell b t.a).setCell (b,1) t.b).setCell (b,2) t.c).setCell (b,3) t.d).setCell (b,4) t.e):=by
 refine⟨((((e.set 0 _).set 1 _).set 2 _).set 3 _).set 4 _,?_⟩;exact((((((DG.refl (λk=>k=b) W).set (p:=⟨b,0,AD⟩) (.inl rfl) _).set (p:=⟨b,1,AD⟩) (.inl rfl) _).set (p:=⟨b,2,AD⟩) (.inl rfl) _).set (p:=⟨b,3,AD⟩) (.inl rfl) _).set (p:=⟨b,4,AD⟩) (.inl rfl) _)
theorem Mt{z W w' s0}{u t:Cv}(h:Wd X (os++Cs s0 47 (DE u)::z) m W)(I:Dn z)(hw:w'=(((((W.setCell s0 t.a).setCell (s0,1) t.b).setCell (s0,2) t.c).setCell (s0,3) t.d).setCell (s0,4) t.e)):
  (w'.cell? s0=AE (AA AB t.a)/\w'.cell? (s0,1)=AE (AA AB t.b)/\w'.cell? (s0,2)=AE (AA AB t.c)/\w'.cell? (s0,3)=AE (AA AB t.d)/\w'.cell? (s0,4)=AE (AA AB t.e))/\Hid (Wd X os m w'):=by
 subst hw;have J:Wd X ((os++[Cs s0 47 (DE u)])++z) m W:=by rw[AR];exact h
 have e:=J.forget I;have H:(os++[Cs s0 47 (DE u)])[os.length]?=AE (Cs s0 47 (DE u)):=by rw[AX ao,Ap];rfl
 obtain⟨h3,h4⟩:=T5 (t:=t) (e.row H);have h5:=e.Nn H a6 h4 h3;rw[GP]at h5;exact⟨⟨h3.cell 0,h3.cell 1,h3.cell 2,h3.cell 3,h3.cell 4⟩,h5.forget (DF (G3 _ _ _) Ea)⟩
theorem ZG(h:Wd X os m W)(J:os[iz]?=AE (NS X sx k g M o lv [])):Calls AP 194 #[AI sx] W λe w'=>e=AH (AM #[DS Cu,false,()])/\Wd X os m w':=by
 obtain⟨W1,I⟩:=ae (W.alloc (AK #[(),(),(),(),()] 47));have DV:Below W W W1:=by rw[I];exact(AS _ _).alloc ao _
 have H:Row W1 W 47 [(),(),(),(),()]:=by rw[I];exact heap_alloc_new _ _
 have Q:Hid (Wd X (os++[Cs W 47 (DE Cu)]) m W1):=h.new DV (g:=W) (t:=47) (cs:=DE Cu) H ao;obtain⟨A,c,rfl⟩:=Mu (h.at_ J).2;have U:Hid (Calls AP 161 #[AI sx] W1 λe w'=>e=AH ()/\w'=W1):=OW (Q.out.at_ (Df J)).1;have E0:=AO I;obtain⟨c0,c1,c2,c3,c4⟩:=H.q5;obtain⟨d0,d1,d2,d3,d4⟩:=H.r5;generalize Vk:W.heap.size=s0 at*
 clear h J DV I H;go_enter func194,ntmps194
 go_upto_region 1 with(fail)
 rw[<-E0.out];clear E0;go_wp2_with fail
 refine U.out.mono ?_;rintro e w2 ⟨rfl,rfl⟩;clear U Vk;go_wp2
 have O:=Mt (t:=⟨0,0,0,0,0⟩) Q.out Ea rfl;dsimp only at O;generalize(((((w2.setCell s0 ()).setCell (s0,1) ()).setCell (s0,2) ()).setCell (s0,3) ()).setCell (s0,4) ())=w9 at*
 obtain⟨⟨q0,q1,q2,q3,q4⟩,H9⟩:=O;exact Aw (v:=AM #[AL #[(),(),(),(),()],false,()]) (by simp[results,Tryz.results194,go_sem,q0,q1,q2,q3,q4]) rfl ⟨rfl,H9.out⟩
theorem XC{hp:List (Nat×Nat)}(J:(hp.map (·.1)).Nodup){i j}(hi:i<hp.length)(O:j<hp.length)(Q:i≠j):(hp.getD i (0,0)).1≠(hp.getD j (0,0)).1:=λe=>by
 have I:∀{i:Nat} (h:i<hp.length),(hp.getD i (0,0)).1=(hp.map (·.1))[i]'(by rw[Aj];exact h):=λ{i} h=>by
  rw[List.getElem_map,AT,AU h];rfl
 rw[I hi,I O]at e;have H:=B0.1 J;rcases Nat.lt_or_gt_of_ne Q with h|h
 ·exact H i j _ _ h e
 ·exact H j i _ _ h e.symm
theorem gf(I:(hp.map (·.1)).Nodup)(e:0<hp.length)(U:hp.getD 0 (0,0)=(p0,x0))(Z3:p0<=cur.length)(hh:Hp (Qr o λp=>cur.getD p Cu) (λi=>hp.getD i (0,0)) hp.length):jB (Qr o λp=>(Hf cur p0 nx).getD p Cu) (λi=>hp.getD i (0,0)) hp.length 0:=by
 refine Hp.xY λj Q J H=>?_;have O:=hh j Q J;have h2:=MG Q;have h3:=XC I J e a5;have h4:=XC I (show par j<hp.length by omega) e H;rw[U]at h3 h4;unfold Qr at O⊢;simp only[Ob Z3];rw[if_neg h3,if_neg h4];exact O
theorem kr(a:Nat×Nat)(w:World):Br AP (Instr.field 242 (AL #[a.1,AI a.2]) 1) w=.ok (AI a.2) w:=a7
theorem ee(h:Wd X os m W)(hg:os[ig]?=AE (Fw b g M k cur))(hs:os[iz]?=AE (NS X sx k g M o lv hp))(hr:os[ip]?=AE (Eu X.p x0 rt X.sz l))(hd:ig≠iz/\ip≠ig/\ip≠iz)
    (aa:0<hp.length/\hp.length<=100000)(h0:hp.getD 0 (0,0)=(p0,x0))(hk:0<k/\k<=5)(hM:cur.length*k<=M/\M<=1000000)(hf:ID k cur)(Hl:∀a∈hp,a.1<cur.length)(wW:(hp.map (·.1)).Nodup)
    (hh:Hp (Qr o λp=>cur.getD p Cu) (λi=>hp.getD i (0,0)) hp.length)(DK:qS rt X.sz l)(hn:X.N+m<1000000)(EY:Src os X.sz rt.first rt.k rt.h l)(a7:rt.k=k)(ht:cur.getD p0 Cu=t):
    Calls AP 194 #[AI sx] W λe w'=>
      (e=AH (AM #[DS t,true,()])/\
        ((∃ nx jU Jh,rt.pos<rt.count/\l[rt.pos]?=AE nx/\Hp (Qr o λp=>(Hf cur p0 nx).getD p Cu) (λi=>jU.getD i (0,0)) jU.length/\jU.Perm hp/\
            Wd X (((os.set ip (Eu X.p x0 {rt with pos:=rt.pos+1} X.sz l)).set ig (Fw b g M k (Hf cur p0 nx))).set iz (NS X sx k g M o Jh jU)) (m+(Cr rt.h (rt.pos+1)-Cr rt.h rt.pos)) w')\/
         (∃ jU Jh,rt.pos=rt.count/\Hp (Qr o λp=>cur.getD p Cu) (λi=>jU.getD i (0,0)) jU.length/\((p0,x0)::jU).Perm hp/\
            Wd X ((os.set ip (Nr X.p x0 rt)).set iz (NS X sx k g M o Jh jU)) m w')))\/
      (e=AH (AM #[DS Cu,false,AA AB 6])/\¬X.cm/\Wd X (os.set ip (Nr X.p x0 rt)) (m+1) w'):=by
  obtain⟨gl,c,cs,rfl,h3,h4,h5,h6,h7,h8⟩:=JS (h.at_ hs).2 aa.1;have aJ:=(E5 aa.1).1;rw[h0]at aJ;have Z3:p0<cur.length:=by
    have:=Hl _ (E5 aa.1).2;rw[h0]at this;exact this
  have Fz:Hid (∀(os' z:List DA) m' W',os'[iz]?=AE (NS X sx k g M o (AJ gl hp.length c) hp)->Wd X (os'++z) m' W'->Row W' sx 237 (Kc k g M M o (AJ gl hp.length c))/\W'.cell? gl=AE (AA AB (p0:Nat))/\W'.cell? (gl,1)=AE (AI x0)):=λos' z m' W' hi hw=>by
    obtain⟨k1,k2⟩:=hw.at_ (Df hi);obtain⟨bn,c2,bo,e2,_,k4,k5,_,k7,k8⟩:=JS k2 aa.1;injection e2 with e2 _ e3
    injection e2 with e2
    injection e2 with e2
    subst e2;obtain⟨m1,m2⟩:=GV aJ;refine⟨k1,?_,?_⟩
    · rw[k4.cell,<-m1,<-k8,At,if_pos a5,CS]
    · rw[k4.cell,<-m2,<-k8,At,if_pos a5,CS]
  have Tf:Hid (∀W4 z,Wd X (os++z) m W4->Calls AP 48 #[AI x0] W4 λe w'=>
      (∃ O nb J nd ne,e=AH (AM #[AL #[AA AB O,AA AB nb,AA AB J,AA AB nd,AA AB ne],.bool true,AA AB 0])/\rt.pos<rt.count/\l[rt.pos]?=AE ⟨O,nb,J,nd,ne⟩/\Wd X (os.set ip (Eu X.p x0 {rt with pos:=rt.pos+1} X.sz l)++z) (m+(Cr rt.h (rt.pos+1)-Cr rt.h rt.pos)) w')\/
      (e=AH (AM #[AL #[(),(),(),(),()],false,()])/\rt.pos=rt.count/\Wd X (os++z) m w')\/
      (e=AH (AM #[AL #[(),(),(),(),()],false,AA AB 6])/\¬X.cm/\Wd X (os.set ip (Nr X.p x0 rt)++z) (m+1) w')):=λW4 z h4=>by
    have aG:(os++z)[ip]?=AE (Eu X.p x0 rt X.sz l):=Df hr;rcases Nat.eq_or_lt_of_le DK.ok.count.2 with he|ad
    · refine(L5 h4 aG DK.ok he).mono ?_
      exact λe w' ⟨h1,h2⟩=>.inr (.inl ⟨h1,he,h2⟩)
    · obtain⟨nx,Pn⟩:∃nx,l[rt.pos]?=AE nx:=⟨_,AU (by rw[DK.cnt];exact ad)⟩
      have a3:Src (os++z) X.sz rt.first rt.k rt.h l:=by
        obtain⟨j,f,k1,k2,k3⟩:=EY;exact⟨j,f,Df k1,k2,k3⟩
      refine(OO h4 aG DK hn ad a3 Pn).mono ?_;rintro e w' (⟨h1,h2⟩|⟨h1,h2,h3⟩)
      · rw[IU hr]at h2
        exact .inl ⟨nx.a,nx.b,nx.c,nx.d,nx.e,h1,ad,Pn,h2⟩
      · rw[IU hr]at h3
        exact .inr (.inr ⟨h1,h2,h3⟩)
  clear h3 h4 h5 h6 h7 h8;generalize aX:hp.length=n at*
  obtain⟨W1,EB⟩:=ae (W.alloc (AK #[(),(),(),(),()] 47));have DV:Below W W W1:=by rw[EB];exact(AS _ _).alloc ao _
  have H1:Hid (Wd X (os++[Cs W 47 (DE Cu)]) m W1):=h.new DV (by rw[EB];exact heap_alloc_new _ _) ao;have E0:=AO EB;clear EB DV;generalize Vk:W.heap.size=s0 at*
  obtain⟨H,G9⟩:=ae (W1.alloc (AK #[p0,AI x0] 242));have DN:Below W1 W1 H:=by rw[G9];exact(AS _ _).alloc ao _
  have H2:Hid (Wd X (os++[Cs s0 47 (DE Cu),Cs W1 242 (LO (p0,x0))]) m H):=by
    have I:=H1.out.new DN (g:=W1) (t:=242) (cs:=LO (p0,x0)) (by rw[G9];exact heap_alloc_new _ _) ao;rw[AR]at I;exact I
  have KU:=AO G9;clear G9 DN;generalize a9:W1.heap.size=Q at*
  have ER:=Fz.out os _ _ _ hs H1.out;have HL:=AO (OW ER.1);have c7:W1.cell? (sx,7)=AE (AJ gl n c):=ER.1.cell 7;have l0:=ER.2.1;have l1:=ER.2.2;have n1:(0:Int)<(n:Int):=a5;have n2:((n:Int)==0)=false:=by simp;omega
  clear ER;go_enter func194,ntmps194
  go_upto_region 1 with(fail)
  rw[<-E0.out];clear E0;go_wp2_with fail
  refine HL.out.mono ?_;rintro e w2 ⟨rfl,rfl⟩;clear HL;go_upto_region 4 with(fail)
  rw[<-KU.out];clear KU c7 l0 l1 Vk a9;have al:=H2.out.drewN 1;rw[show H.drewN 1=H.drew from rfl]at al;have EA:=Fz.out os _ _ _ hs al;obtain⟨c0,c1⟩:=EA.1.q2;have e0:H.drew.cell? Q=AE (AA AB (p0:Nat)):=(al.row (DD os _ 1)).cell 0;have HG:=AO (Vl al (Df hg) hk hM hf Z3);rw[ht]at HG;have HK:Hid (∀w3,Below H H w3->(w3.cell? sx=AE (AA AB k)/\w3.cell? (sx,1)=AE (AJ g M M)/\w3.cell? Q=AE (AA AB (p0:Nat)))):=λw3 hb=>by
    have I:=H2.out.below hb;have h8:=Fz.out os _ _ _ hs I;exact⟨h8.1.cell 0,h8.1.cell 1,(I.row (DD os _ 1)).cell 0⟩
  clear EA al;obtain⟨W3,Kv⟩:=ae (H.alloc (AK #[(),(),(),(),()] 47));have D9:Below H H W3.drew:=by rw[Kv];exact((AS _ _).alloc ao _).drew
  have H3:Hid (Wd X (os++[Cs s0 47 (DE Cu),Cs Q 242 (LO (p0,x0)),Cs H 47 (DE Cu)]) m W3.drew):=by
    have I:=H2.out.new D9 (g:=H) (t:=47) (cs:=DE Cu) (by rw[Kv];exact heap_alloc_new _ _) ao;rw[AR]at I;exact I
  have jg:=AO (Vl H3.out (Df hg) hk hM hf Z3);rw[ht]at jg;have b3:=HK.out _ D9;have Ei:Hid (∀w3,Below W3.drew.heap.size W3.drew w3->Below H H w3/\Hid (Wd X (os++[Cs s0 47 (DE Cu),Cs Q 242 (LO (p0,x0)),Cs H 47 (DE Cu)]) m w3)):=λw3 hb=>⟨D9.trans (hb.mono D9.size),H3.out.below hb⟩;have Jr:Hid (∀w3,Wd X (os++[Cs s0 47 (DE Cu),Cs Q 242 (LO (p0,x0)),Cs H 47 (DE Cu)]) m w3->(w3.cell? H=AE (AA AB 0)/\w3.cell? (H,1)=AE (AA AB 0)/\w3.cell? (H,2)=AE (AA AB 0)/\w3.cell? (H,3)=AE (AA AB 0)/\w3.cell? (H,4)=AE (AA AB 0))/\
      (w3.frozen? H.heap.size=false/\w3.frozen? (H.heap.size,1)=false/\w3.frozen? (H.heap.size,2)=false/\w3.frozen? (H.heap.size,3)=false/\w3.frozen? (H.heap.size,4)=false)):=λw3 I=>by
    have hr:=I.row (DD os _ 2);exact⟨⟨hr.cell 0,hr.cell 1,hr.cell 2,hr.cell 3,hr.cell 4⟩,hr.free 0,hr.free 1,hr.free 2,hr.free 3,hr.free 4⟩
  have E1:Hid (∀w3,Below H.drew.heap.size H.drew w3->Below H H w3/\Hid (Wd X (os++[Cs s0 47 (DE Cu),Cs Q 242 (LO (p0,x0))]) m w3)):=λw3 hb=>⟨(Cz (AS _ _)).trans hb,H2.out.below ((Cz (AS _ _)).trans hb)⟩;rw[Kv]at jg b3 Ei;clear Kv D9 H3;go_region_held3 (λw'=>w'.cell? sx=AE (AA AB k)/\w'.cell? (sx,1)=AE (AJ g M M)/\w'.cell? Q=AE (AA AB (p0:Nat))) (first|with_reducible exact⟨c0,c1,e0⟩|with_reducible exact b3|with_reducible exact q3|with_reducible exact q4|with_reducible exact q5)
    (first
      | (go_at_call 192;(with_reducible refine HG.out.mono ?_);rintro e w3 ⟨rfl,D9⟩;obtain⟨IX,H9⟩:=E1.out w3 D9;have q3:=HK.out w3 IX;have q4:=HK.out _ (IX.alloc IX.size (AK #[(),(),(),(),()] 47));have q5:=HK.out _ (IX.alloc IX.size (AK #[t.a,t.b,t.c,t.d,t.e] 47)))
      | (go_at_call 192;(with_reducible refine jg.out.mono ?_);rintro e w3 ⟨rfl,D9⟩;obtain⟨IX,H9⟩:=Ei.out w3 D9;have q3:=HK.out w3 IX;obtain⟨⟨z0,z1,z2,z3,z4⟩,⟨y0,y1,y2,y3,y4⟩⟩:=Jr.out w3 H9.out;have q4:=HK.out _ (((((IX.setCell (p:=H.heap.size) ao t.a).setCell (p:=(H.heap.size,1)) ao t.b).setCell (p:=(H.heap.size,2)) ao t.c).setCell (p:=(H.heap.size,3)) ao t.d).setCell (p:=(H.heap.size,4)) ao t.e);have q5:=q4))
  all_goals
    first
      | (have hx:Wd X (os++[Cs s0 47 (DE Cu),Cs Q 242 (LO (p0,x0)),Cs w3.heap.size 47 (DE t)]) m (w3.alloc (AK #[t.a,t.b,t.c,t.d,t.e] 47)):=by
           have I:=H9.out.new ((AS _ _).alloc ao _) (g:=w3) (t:=47) (cs:=DE t) (heap_alloc_new w3 (AK #[t.a,t.b,t.c,t.d,t.e] 47)) ao;rw[AR]at I;exact I
         clear q3 q4 q5 D9 IX;generalize w3.alloc (AK #[t.a,t.b,t.c,t.d,t.e] 47)=W4 at*
         generalize w3.heap.size=s3 at*)
      | (have hx:Wd X (os++[Cs s0 47 (DE Cu),Cs Q 242 (LO (p0,x0)),Cs H.heap.size 47 (DE t)]) m (((((w3.setCell H.heap.size t.a).setCell (H.heap.size,1) t.b).setCell (H.heap.size,2) t.c).setCell (H.heap.size,3) t.d).setCell (H.heap.size,4) t.e):=by
           have FX:(os++[Cs s0 47 (DE Cu),Cs Q 242 (LO (p0,x0)),Cs H 47 (DE Cu)])[os.length+2]?=AE (Cs H 47 (DE Cu)):=DD os _ 2;obtain⟨h3,h4⟩:=T5 (t:=t) (H9.out.row FX);have I:=H9.out.Nn FX a6 h4 h3;rw[As _ _ a5,show os.length+2-os.length=2 by omega]at I;exact I
         clear q3 q4 q5 D9 IX z0 z1 z2 z3 z4 y0 y1 y2 y3 y4;generalize((((w3.setCell H.heap.size t.a).setCell (H.heap.size,1) t.b).setCell (H.heap.size,2) t.c).setCell (H.heap.size,3) t.d).setCell (H.heap.size,4) t.e=W4 at*
         generalize H.heap.size=s3 at*)
    have H4:=AO hx;have e1:W4.cell? (Q,1)=AE (AI x0):=(hx.row (DD os _ 1)).cell 1;have ar:=AO (Tf.out W4 _ hx);clear hx H9 c0 c1 e0 b3 HG jg Ei E1 Jr HK H2 H1;go_wp2_with fail
    refine ar.out.mono ?_;rintro e w5 (⟨O,nb,J,nd,ne,rfl,ad,Pn,h5⟩|⟨rfl,aI,h5⟩|⟨rfl,Fu,h5⟩)
    · obtain⟨jP,nA⟩:∃jP,jP=os.set ip (Eu X.p x0 {rt with pos:=rt.pos+1} X.sz l):=⟨_,rfl⟩
      obtain⟨m1,QT⟩:=ae (m+(Cr rt.h (rt.pos+1)-Cr rt.h rt.pos));rw[<-nA,<-QT]at h5;have mj:jP[iz]?=AE (NS X sx k g M o (AJ gl n c) hp):=by rw[nA];exact Fa hs hd.2.2
      have aC:jP[ig]?=AE (Fw b g M k cur):=by rw[nA];exact Fa hg hd.2.1
      have av:=DK.fit _ (Ak Pn);rw[a7]at av;have h6:Wd X (jP++[Cs s0 47 (DE Cu),Cs Q 242 (LO (p0,x0)),Cs s3 47 (DE t),Cs w5 47 (DE ⟨O,nb,J,nd,ne⟩)]) m1 (w5.alloc (AK #[O,nb,J,nd,ne] 47)):=by
        have I:=h5.new ((AS _ _).alloc ao _) (g:=w5) (t:=47) (cs:=DE ⟨O,nb,J,nd,ne⟩) (heap_alloc_new w5 (AK #[O,nb,J,nd,ne] 47)) ao;rw[AR]at I;exact I
      have bb:=AO nA;have bj:=AO QT;have bc:=AO av;have KV:=AO ad;have bm:=AO Pn;clear h5 ar H4 nA QT av Pn e1;go_upto_region 10 with(fail)
      generalize w5.alloc (AK #[O,nb,J,nd,ne] 47)=w6 at*
      generalize w5.heap.size=U at*
      have UQ:=h6.drewN 1;rw[show w6.drewN 1=w6.drew from rfl]at UQ;have JE:=Fz.out jP _ _ _ mj UQ;obtain⟨c0,c1⟩:=JE.1.q2;have e0:w6.drew.cell? Q=AE (AA AB (p0:Nat)):=(UQ.row (DD _ _ 1)).cell 0;have d0:w6.drew.cell? U=AE (AA AB O):=(UQ.row (DD _ _ 3)).cell 0;have d1:w6.drew.cell? (U,1)=AE (AA AB nb):=(UQ.row (DD _ _ 3)).cell 1;have d2:w6.drew.cell? (U,2)=AE (AA AB J):=(UQ.row (DD _ _ 3)).cell 2;have d3:w6.drew.cell? (U,3)=AE (AA AB nd):=(UQ.row (DD _ _ 3)).cell 3;have d4:w6.drew.cell? (U,4)=AE (AA AB ne):=(UQ.row (DD _ _ 3)).cell 4;have aH:p0*k+k<=M:=by
        have h1:=Ae k (show p0+1<=cur.length from Z3);rw[A6,BD]at h1;omega
      have bB:Hid (Calls AP 154 #[AL #[k,AJ g M M],p0,AL #[O,nb,J,nd,ne]] w6.drew λe w'=>e=AH (AM #[])/\Wd X (jP.set ig (Fw b g M k (Hf cur p0 ⟨O,nb,J,nd,ne⟩))++[Cs s0 47 (DE Cu),Cs Q 242 (LO (p0,x0)),Cs s3 47 (DE t),Cs U 47 (DE ⟨O,nb,J,nd,ne⟩)]) m1 w'):=by
        refine(Y1 UQ (Df aC) hk p0 ⟨O,nb,J,nd,ne⟩ a5 aH ⟨AQ _,hM.2⟩ hM.1).mono ?_;rintro e w' ⟨h1,h2,_⟩;rw[IU aC]at h2;exact⟨h1,h2⟩
      have a2:Hid (∀w',Wd X (jP.set ig (Fw b g M k (Hf cur p0 ⟨O,nb,J,nd,ne⟩))++[Cs s0 47 (DE Cu),Cs Q 242 (LO (p0,x0)),Cs s3 47 (DE t),Cs U 47 (DE ⟨O,nb,J,nd,ne⟩)]) m1 w'->(w'.cell? sx=AE (AA AB k)/\w'.cell? (sx,1)=AE (AJ g M M)/\w'.cell? Q=AE (AA AB (p0:Nat))/\w'.cell? U=AE (AA AB O)/\w'.cell? (U,1)=AE (AA AB nb)/\w'.cell? (U,2)=AE (AA AB J)/\w'.cell? (U,3)=AE (AA AB nd)/\w'.cell? (U,4)=AE (AA AB ne))):=λw' I=>by
        have Dx:=Fz.out _ _ _ _ (Fa mj hd.1) I;exact⟨Dx.1.cell 0,Dx.1.cell 1,(I.row (DD _ _ 1)).cell 0,(I.row (DD _ _ 3)).cell 0,(I.row (DD _ _ 3)).cell 1,(I.row (DD _ _ 3)).cell 2,(I.row (DD _ _ 3)).cell 3,(I.row (DD _ _ 3)).cell 4⟩
      have H6:=AO h6;clear h6 UQ JE aH;go_region_held3 (λw'=>w'.cell? sx=AE (AA AB k)/\w'.cell? (sx,1)=AE (AJ g M M)/\w'.cell? Q=AE (AA AB (p0:Nat))/\w'.cell? U=AE (AA AB O)/\w'.cell? (U,1)=AE (AA AB nb)/\w'.cell? (U,2)=AE (AA AB J)/\w'.cell? (U,3)=AE (AA AB nd)/\w'.cell? (U,4)=AE (AA AB ne)) (first|with_reducible exact⟨c0,c1,e0,d0,d1,d2,d3,d4⟩|with_reducible exact q7)
        ((go_at_call 154;(with_reducible refine bB.out.mono ?_);rintro e w7 ⟨rfl,h7⟩;have q7:=a2.out w7 h7))
      have Zz:(jP.set ig (Fw b g M k (Hf cur p0 ⟨O,nb,J,nd,ne⟩)))[iz]?=AE (NS X sx k g M o (AJ gl n c) hp):=Fa mj hd.1;have a8:(jP.set ig (Fw b g M k (Hf cur p0 ⟨O,nb,J,nd,ne⟩)))[ig]?=AE (Fw b g M k (Hf cur p0 ⟨O,nb,J,nd,ne⟩)):=IG jP aC _;have Fh:(Hf cur p0 ⟨O,nb,J,nd,ne⟩).length=cur.length:=by rw[Oa a5];omega
      have aY:Calls AP 197 #[.iface 234 (AI sx),()] w7 λe w'=>e=AH (AM #[])/\∃h' Jh,Hp (Qr o λp=>(Hf cur p0 ⟨O,nb,J,nd,ne⟩).getD p Cu) (λi=>h'.getD i (0,0)) h'.length/\h'.Perm hp/\
          Wd X ((jP.set ig (Fw b g M k (Hf cur p0 ⟨O,nb,J,nd,ne⟩))).set iz (NS X sx k g M o Jh h')++[Cs s0 47 (DE Cu),Cs Q 242 (LO (p0,x0)),Cs s3 47 (DE t),Cs U 47 (DE ⟨O,nb,J,nd,ne⟩)]) m1 w':=by
        have hC:=PW (X:=X) (m:=m1) (o:=o) (sx:=sx) (Df (b:=[Cs s0 47 (DE Cu),Cs Q 242 (LO (p0,x0)),Cs s3 47 (DE t),Cs U 47 (DE ⟨O,nb,J,nd,ne⟩)]) a8) (λe=>hd.1 e.symm) (MI (Df Zz)) hk ⟨by rw[Fh];exact hM.1,hM.2⟩ (XA hf bc.out);refine(nL (h:=hp) hC (Og _ _) ⟨λa ha=>by rw[Fh];exact Hl a ha,a5,AJ gl n c,by rw[Iu (Df Zz)];exact h7⟩ a5 ?_).mono ?_
        · exact gf wW a5 h0 a5 (by rw[aX];exact hh)
        · rintro e w' ⟨h1,h',h2,h3,_,_,Jh,h5⟩
          rw[IU Zz]at h5;exact⟨h1,h',Jh,by rw[h3.length_eq];exact h2,h3,h5⟩
      have a1:=AO aY;clear aY h7 q7 H6 bB a2 c0 c1 e0 d0 d1 d2 d3 d4;go_wp2_with fail
      refine a1.out.mono ?_;rintro e w8 ⟨rfl,h',Jh,k1,k2,h8⟩;have jD:=AO k1;have vS:=AO k2;clear k1 k2 a1;have Qt:=h8.row (DD _ _ 0);have ab:=h8.row (DD _ _ 2);obtain⟨y0,y1,y2,y3,y4⟩:=Qt.q5;obtain⟨aE,aD,aB,aA,aw⟩:=Qt.r5;obtain⟨v0,v1,v2,v3,v4⟩:=ab.q5;have H8:=AO h8;clear h8 Qt ab;go_wp2
      have I:=Mt (t:=t) H8.out (DF (G3 _ _ _) (DF (G3 _ _ _) (DF (G3 _ _ _) Ea))) rfl;generalize(((((w8.setCell s0 t.a).setCell (s0,1) t.b).setCell (s0,2) t.c).setCell (s0,3) t.d).setCell (s0,4) t.e)=w9 at*
      obtain⟨⟨q0,q1,q2,q3,q4⟩,H9⟩:=I;exact Aw (v:=AM #[DS t,true,()]) (by simp[results,Tryz.results194,go_sem,q0,q1,q2,q3,q4,DS]) rfl (.inl ⟨rfl,.inl ⟨⟨O,nb,J,nd,ne⟩,h',Jh,KV.out,bm.out,jD.out,vS.out,by rw[<-bb.out,<-bj.out];exact H9.out⟩⟩)
    · have h6:=h5.below ((AS _ _).alloc ao (AK #[(),(),(),(),()] 47))
      have Gr:Calls AP 198 #[.iface 234 (AI sx)] (w5.alloc (AK #[(),(),(),(),()] 47)) λe w'=>e=AH (.iface 242 (AL #[p0,AI x0]))/\∃h' Jh,Hp (Qr o λp=>cur.getD p Cu) (λi=>h'.getD i (0,0)) h'.length/\((p0,x0)::h').Perm hp/\
          Wd X (os.set iz (NS X sx k g M o Jh h')++[Cs s0 47 (DE Cu),Cs Q 242 (LO (p0,x0)),Cs s3 47 (DE t)]) m w':=by
        have hC:=PW (X:=X) (m:=m) (o:=o) (sx:=sx) (Df (b:=[Cs s0 47 (DE Cu),Cs Q 242 (LO (p0,x0)),Cs s3 47 (DE t)]) hg) (λe=>hd.1 e.symm) (MI (Df hs)) hk hM hf;refine(m8 (h:=hp) (enc:=yT) hC (Og _ _) ⟨Hl,a5,AJ gl n c,by rw[Iu (Df hs)];exact h6⟩ a5 a5 (by rw[aX];exact hh) λh W hr aa=>rZ (MI (Df hs)) h W hr aa).mono ?_;rintro e w' ⟨h1,h',h2,h3,h4,_,_,Jh,h5⟩;rw[h0]at h1 h4;rw[IU hs]at h5;exact⟨h1,h',Jh,by rw[h3];exact h2,h4,h5⟩
      have T0:=AO Gr;have aF:=Rs (p0,x0);have aK:=kr (p0,x0);dsimp only at aF aK;have ba:=AO aI;clear Gr h5 h6 ar H4 aI e1;go_wp2_with fail
      refine T0.out.mono ?_;rintro e w7 ⟨rfl,h',Jh,k1,k2,h7⟩;have a0:Calls AP 47 #[AI x0] w7 λe w'=>e=AH (AM #[])/\Wd X ((os.set ip (Nr X.p x0 rt)).set iz (NS X sx k g M o Jh h')++[Cs s0 47 (DE Cu),Cs Q 242 (LO (p0,x0)),Cs s3 47 (DE t)]) m w':=by
        have FX:(os.set iz (NS X sx k g M o Jh h'))[ip]?=AE (Eu X.p x0 rt X.sz l):=Fa hr λe=>hd.2.2 e.symm;refine(T3 h7 (Df FX)).mono ?_;rintro e w' ⟨h1,h2⟩;rw[IU FX,List.set_comm _ _ (λe=>hd.2.2 e.symm)]at h2;exact⟨h1,h2⟩
      have GJ:=AO a0;have jD:=AO k1;have vS:=AO k2;clear a0 k1 k2 h7 T0;go_wp2_with fail
      refine GJ.out.mono ?_;rintro e w8 ⟨rfl,h8⟩;clear GJ aF aK;have Qt:=h8.row (DD _ _ 0);have ab:=h8.row (DD _ _ 2);obtain⟨y0,y1,y2,y3,y4⟩:=Qt.q5;obtain⟨aE,aD,aB,aA,aw⟩:=Qt.r5;obtain⟨v0,v1,v2,v3,v4⟩:=ab.q5;have H8:=AO h8;clear h8 Qt ab;go_wp2
      have I:=Mt (t:=t) H8.out (DF (G3 _ _ _) (DF (G3 _ _ _) Ea)) rfl;generalize(((((w8.setCell s0 t.a).setCell (s0,1) t.b).setCell (s0,2) t.c).setCell (s0,3) t.d).setCell (s0,4) t.e)=w9 at*
      obtain⟨⟨q0,q1,q2,q3,q4⟩,H9⟩:=I;exact Aw (v:=AM #[DS t,true,()]) (by simp[results,Tryz.results194,go_sem,q0,q1,q2,q3,q4,DS]) rfl (.inl ⟨rfl,.inr ⟨h',Jh,ba.out,jD.out,vS.out,H9.out⟩⟩)
    · have h6:=h5.below ((AS _ _).alloc ao (AK #[(),(),(),(),()] 47))
      have JE:=h6.row (DD _ _ 0);have H6:=AO h6;obtain⟨y0,y1,y2,y3,y4⟩:=JE.q5;obtain⟨aE,aD,aB,aA,aw⟩:=JE.r5;have bk:=AO Fu;clear h5 ar H4 h6 JE Fu;go_upto_region 8 with(fail)
      generalize w5.alloc (AK #[(),(),(),(),()] 47)=w6 at*
      go_wp2
      have I:=Mt (t:=⟨0,0,0,0,0⟩) H6.out (DF (G3 _ _ _) (DF (G3 _ _ _) Ea)) rfl;dsimp only at I;generalize(((((w6.setCell s0 ()).setCell (s0,1) ()).setCell (s0,2) ()).setCell (s0,3) ()).setCell (s0,4) ())=w9 at*
      obtain⟨⟨q0,q1,q2,q3,q4⟩,H9⟩:=I;exact Aw (v:=AM #[AL #[(),(),(),(),()],false,AA AB 6]) (by simp[results,Tryz.results194,go_sem,q0,q1,q2,q3,q4]) rfl (.inr ⟨rfl,bk.out,H9.out⟩)
end
section
variable{W:World}{sx k g M n c:Nat}{o:Cv}{A:Option Addr}
theorem ZO{J:Nat->World->Prop}{hf:Nat->Nat×Nat}(U:Bf)(hn:n<=1000000)
  (H:∀i W,J i W->Row W sx 237 (Kc k g M M o (AJ A n c)))
  (GU:∀i W,J i W->i<n->∃gl,A=AE ⟨gl,0,AD⟩/\W.cell? ⟨gl,i*2,AD⟩=AE (AA AB ((hf i).1:Nat))/\W.cell? ⟨gl,i*2+1,AD⟩=AE (AI (AE ⟨(hf i).2,0,AD⟩)))
  (Fh:∀i W,i<n->J i W->Calls AP 47 #[AI (AE ⟨(hf i).2,0,AD⟩)] W λe w'=>e=AH (AM #[])/\J (i+1) w')
  (hb:∀i W W',J i W->Below W W W'->J i W')(h:J 0 W):
  CallsD AP 156 #[AI sx] U W λe u' w'=>u'=U/\(e=AH (AM #[])/\J n w'):=by
 have c7:W.cell? (sx,7)=AE (AJ A n c):=(H 0 W h).cell 7;have HJ:=AO h;have HC:=AO GU;have GJ:=AO Fh;have HB:=AO hb;clear h H GU Fh hb;go_enter_d func156,ntmps156
 go_wp2_with fail
 go_loopw [9] (λO wr=>∃i:Nat,i<=n/\O=AA AB (i:Int)/\Hid (J i wr)) (λO _=>n-(BF O).toNat)
 case atStart=>exact⟨0,Aq _,rfl,HJ.out⟩
 case round=>
  obtain⟨i,hi,rfl,Q⟩:=hrel;clear HJ;by_cases I:i<n
  ·obtain⟨gl,rfl,e1,e2⟩:=HC.out i wr Q.out I;have i1:(0:Int)<=(i:Int):=a5;have i2:(i:Int)<(n:Int):=a5;have HX:=AO (GJ.out i _ I (HB.out i wr (wr.alloc (AK #[((hf i).1:Nat),AI (AE ⟨(hf i).2,0,AD⟩)] 242)) Q.out ((AS _ _).alloc ao _)));generalize(hf i).1=p at*
   generalize(hf i).2=x at*
   go_wp2_with fail
   refine HX.out.mono ?_;rintro e w3 ⟨rfl,h3⟩;have H3:=AO h3;clear h3;go_wp2
   go_roundw
   case rel=>exact⟨i+1,a5,by go_num,H3.out⟩
   case measure=>simp[BF];omega
  ·obtain rfl:i=n:=a5;go_wp2
   go_end0
   exact⟨rfl,Q.out⟩
end
structure Sr where
 x:Nat
 rt:Rt
 l:List Cv
 op:Bool
def jO(X:Cx)(r:Sr):DA:=if r.op then Eu X.p r.x r.rt X.sz r.l else Nr X.p r.x r.rt
def IL(cur:List Cv)(q:List Sr)(p:Nat):List Cv:=match q[p]?with
 |some r=>if r.op then cur.getD p Cu::r.l.drop r.rt.pos else []
 |none=>[]
def ZU(q:List Sr):Nat:=DC (λr:Sr=>Cr r.rt.h r.rt.pos) q
def rdT(q:List Sr):Nat:=DC (λr:Sr=>Cr r.rt.h r.rt.count) q
structure MP where
 X:Cx
 DH:List DA
 Z:List Cv->List DA
 o:Cv
 once:Bool
 k:Nat
 hh:Nat
 bd:Nat
 xw:Nat
 tT:Nat
 fP:Nat
 vT:Value
 n:Nat
 m:Nat
 s0:List Cv
 bx:DA
 b:Nat
 g:Nat
 M:Nat
 sx:Nat
 rs:List (List Cv)
def MP.os(P:MP)(z:List DA)(cur:List Cv)(st:DA)(q:List Sr):List DA:=P.DH++z++(P.bx::Fw P.b P.g P.M P.k cur::st::q.map (jO P.X))
def MP.st(P:MP)(lv:Value)(h:List (Nat×Nat)):DA:=NS P.X P.sx P.k P.g P.M P.o lv h
def MP.mm(P:MP)(q:List Sr)(s:List Cv):Nat:=P.m+ZU q+I3 P.once P.o P.hh s
structure MP.Ok (P:MP):Prop where
 S:ow P.X P.o P.once P.k P.hh P.bd P.xw P.tT P.fP P.vT P.Z P.n
 kk:0<P.k/\P.k<=5
 M:P.rs.length*P.k<=P.M/\P.M<=1000000
 len:P.rs.length<=100000
 asc:∀l∈P.rs,NC P.o l
 fit:∀l∈P.rs,ID P.k l
 bx:P.bx.gr=AD/\P.bx.ex.2=0
 bd:P.s0.length+P.rs.flatten.length<=P.bd
 n:P.X.N+P.m+DC (λl:List Cv=>Cr P.hh l.length) P.rs+P.bd+3<=1000000
structure MP.Rd (P:MP) (r:Sr):Prop where
 ok:qS r.rt P.X.sz r.l
 src:Src P.DH P.X.sz r.rt.first r.rt.k r.rt.h r.l
 k:r.rt.k=P.k
 h:r.rt.h=P.hh
 pos:0<r.rt.pos/\r.rt.pos<=r.rt.count
 shut:r.op=false->r.rt.pos=r.rt.count
structure MP.St (P:MP) (cur:List Cv) (q:List Sr) (h:List (Nat×Nat)):Prop where
 cl:cur.length=q.length
 ql:q.map (·.l)=P.rs.take q.length
 fit:ID P.k cur
 rd:∀r∈q,P.Rd r
 hp:Hp (Qr P.o λp=>cur.getD p Cu) (λi=>h.getD i (0,0)) h.length
 nd:(h.map (·.1)).Nodup
 mem:∀a,a∈h↔∃r,q[a.1]?=AE r/\r.op=true/\r.x=a.2
structure HQ (q:List Sr) (h:List (Nat×Nat)):Prop where
 len:h.length<=100000
 m1:∀a∈h,∃r,q[a.1]?=AE r/\r.x=a.2
 m2:∀(p:Nat) (r:Sr),q[p]?=AE r->r.op=true->(p,r.x)∈h
def MP.No(P:MP)(W:World):Prop:=¬P.X.cm/\∃z cur lv h q m',Q8 P.X P.xw P.bd P.n P.Z z/\HQ q h/\Wd P.X (P.os z cur (P.st lv h) q) m' W
section
variable{P:MP}{cur:List Cv}{q:List Sr}{h:List (Nat×Nat)}{z:List DA}{st:DA}{W:World}{lv:Value}{m:Nat}
theorem OV{X r}(h:r.op=true):jO X r=Eu X.p r.x r.rt X.sz r.l:=by unfold jO;rw[if_pos h]
theorem Mr{X r}(h:r.op=false):jO X r=Nr X.p r.x r.rt:=by unfold jO;rw[h];rfl
theorem MP.om:(P.os z cur st q)[P.DH.length+z.length+1]?=AE (Fw P.b P.g P.M P.k cur):=FO (j:=1) rfl
theorem MP.Uk:(P.os z cur st q)[P.DH.length+z.length+2]?=AE st:=FO (j:=2) rfl
theorem MP.xg{p r}(e:q[p]?=AE r):(P.os z cur st q)[P.DH.length+z.length+(3+p)]?=AE (jO P.X r):=by
 unfold MP.os;rw[FO rfl,show 3+p=p+1+1+1 by omega,AV,AV,AV,Bd,e];rfl
theorem MP.kZ{c2}:(P.os z cur st q).set (P.DH.length+z.length+1) (Fw P.b P.g P.M P.k c2)=P.os z c2 st q:=by
 unfold MP.os;rw[GG rfl];rfl
theorem MP.ZJ{s2}:(P.os z cur st q).set (P.DH.length+z.length+2) s2=P.os z cur s2 q:=by
 unfold MP.os;rw[GG rfl];rfl
theorem MP.U7{p r}:(P.os z cur st q).set (P.DH.length+z.length+(3+p)) (jO P.X r)=P.os z cur st (q.set p r):=by
 unfold MP.os;rw[GG rfl,show 3+p=p+1+1+1 by omega,Bz,Bz,Bz,List.map_set]
theorem Gq{α:Type}{l:List α}{i a}(h:l[i]?=AE a):i<l.length:=by
 rcases Am i l.length with e|e
 ·exact e
 ·rw[BG e]at h;cases h
theorem UB{α:Type}{l:List α}{i a}(h:l[i]?=AE a):l.set i a=l:=by
 refine List.ext_getElem? λj=>?_;rw[Av];by_cases e:i=j
 ·subst e;rw[if_pos rfl,if_pos (Gq h),h]
 ·rw[if_neg e]
theorem Src.app{DH os1 sz first k hh l}(H:Src DH sz first k hh l):Src (DH++os1) sz first k hh l:=by
 obtain⟨j,f,e,I,h3⟩:=H;refine⟨j,f,?_,I,h3⟩;rw[Al (MI e)];exact e
theorem MP.src{sz first k hh l}(e:Src P.DH sz first k hh l):Src (P.os z cur st q) sz first k hh l:=e.app.app
theorem bS{α f g}:∀(l:List α) (_:∀a∈l,f a<=g a),DC f l<=DC g l
 |[],_=>AQ _
 |a::l,h=>by
  rw[EI,EI];exact Nat.add_le_add (h a Ax) (bS l λb hb=>h b (BB _ hb))
theorem rW{α f g}(l:List α)(h:∀a∈l,f a=g a):DC f l=DC g l:=by
 unfold DC;rw[List.map_congr_left h]
theorem Ri{α β f g}{e:α->β}:∀(l:List α) (_:∀a∈l,f a=g (e a)),DC f l=DC g (l.map e)
 |[],_=>rfl
 |a::l,h=>by
  rw[EI,List.map_cons,EI,h a Ax,Ri l λb hb=>h b (BB _ hb)]
def Tn(q:List Sr):Nat:=DC (λr:Sr=>if r.op then 1+(r.rt.count-r.rt.pos)else 0) q
theorem VJ(H:∀r∈q,P.Rd r):ZU q<=rdT q:=bS q λr e=>Db (H r e).ok.ok.h.1 (H r e).pos.2
theorem ZT(H:∀r∈q,P.Rd r):rdT q=DC (λl:List Cv=>Cr P.hh l.length) (q.map (·.l)):=Ri q λr e=>by rw[(H r e).h,(H r e).ok.cnt]
theorem mem_set{α:Type}{l:List α}{i a b}(h:b∈l.set i a):b=a\/b∈l:=by
 rcases List.mem_or_eq_of_mem_set h with h|h
 ·exact .inr h
 ·exact .inl h
def Sr.step(r:Sr):Sr:={r with rt:={r.rt with pos:=r.rt.pos+1}}
def Sr.shut(r:Sr):Sr:={r with op:=false}
theorem MP.Rd.step{r}(h:P.Rd r)(hp:r.rt.pos<r.rt.count)(e:r.op=true):P.Rd r.step:=
 ⟨⟨⟨h.ok.ok.k,h.ok.ok.h,h.ok.ok.sz,⟨h.ok.ok.count.1,hp⟩,h.ok.ok.first⟩,h.ok.cnt,h.ok.fit⟩,h.src,h.k,h.h,⟨Nat.succ_pos _,hp⟩,λhf=>absurd (e.symm.trans hf) a6⟩
theorem MP.Rd.AE8{r}(h:P.Rd r)(hp:r.rt.pos=r.rt.count):P.Rd r.shut:=⟨h.ok,h.src,h.k,h.h,h.pos,λ_=>hp⟩
theorem lN{p r}(e:q[p]?=AE r):ZU (q.set p r.step)+Cr r.rt.h r.rt.pos=ZU q+Cr r.rt.h (r.rt.pos+1):=Je _ _ _ r r.step e
theorem lO{p r}(e:q[p]?=AE r):ZU (q.set p r.shut)=ZU q:=by
 have H:ZU (q.set p r.shut)+Cr r.rt.h r.rt.pos=ZU q+Cr r.rt.h r.rt.pos:=Je (λr:Sr=>Cr r.rt.h r.rt.pos) q p r r.shut e;omega
theorem fA{p r}(H:q[p]?=AE r)(e:r.op=true)(hp:r.rt.pos<r.rt.count):Tn (q.set p r.step)+1=Tn q:=by
 have I:=Je (λr:Sr=>if r.op then 1+(r.rt.count-r.rt.pos)else 0) q p r r.step H;simp only[show r.step.op=true from e,e,if_pos]at I;have J:r.step.rt.count=r.rt.count:=rfl;have h3:r.step.rt.pos=r.rt.pos+1:=rfl;unfold Tn;omega
theorem fB{p r}(H:q[p]?=AE r)(I:r.op=true)(hp:r.rt.pos=r.rt.count):Tn (q.set p r.shut)+1=Tn q:=by
 have e:=Je (λr:Sr=>if r.op then 1+(r.rt.count-r.rt.pos)else 0) q p r r.shut H;simp only[show r.shut.op=false from rfl,I,if_pos]at e;unfold Tn;simp only[Bool.false_eq_true,if_false]at e;omega
theorem MP.St.get(e:P.St cur q h){a}(I:a∈h):∃r,q[a.1]?=AE r/\r.op=true/\r.x=a.2/\P.Rd r:=by
 obtain⟨r,H,J,h3⟩:=(e.mem a).1 I;exact⟨r,H,J,h3,e.rd r (Ak H)⟩
theorem MP.St.lt(e:P.St cur q h):∀a∈h,a.1<cur.length:=λa H=>by
 obtain⟨r,I,_⟩:=e.get H;rw[e.cl];exact Gq I
theorem MP.St.more(I:P.St cur q h){p0:Nat}{J:Sr}{nx:Cv}{h':List (Nat×Nat)}(O:q[p0]?=AE J)(U:J.op=true)(hp:J.rt.pos<J.rt.count)(Pn:EE nx/\Dc P.k nx=true)
  (hh:Hp (Qr P.o λp=>(Hf cur p0 nx).getD p Cu) (λi=>h'.getD i (0,0)) h'.length)(Q:h'.Perm h):P.St (Hf cur p0 nx) (q.set p0 J.step) h' where
 cl:=by
  have H:p0<cur.length:=by rw[I.cl];exact Gq O
  rw[Oa a5,Bk,<-I.cl];omega
 ql:=by
  rw[Bk,<-I.ql,List.map_set];exact UB (by rw[Bd,O];rfl)
 fit:=XA I.fit Pn
 rd:=λr H=>(mem_set H).elim (λe=>by rw[e];exact(I.rd J (Ak O)).step hp U) (I.rd r)
 hp:=hh
 nd:=(Q.map (·.1)).nodup_iff.2 I.nd
 mem:=λa=>by
  rw[Q.mem_iff,I.mem a];by_cases he:p0=a.1
  ·subst he;rw[Av,if_pos rfl,if_pos (Gq O)];refine⟨λ⟨r,H,h2,h3⟩=>⟨_,rfl,U,?_⟩,λ⟨r,H,h2,h3⟩=>⟨J,O,U,?_⟩⟩
   ·rw[O]at H;injection H with H;rw[<-h3,<-H];rfl
   ·injection H with H;rw[<-h3,<-H];rfl
  ·rw[Av,if_neg he]
theorem MP.St.less(H:P.St cur q h){p0}{r0}{h'}(Q:q[p0]?=AE r0)(hp:r0.rt.pos=r0.rt.count)
  (hh:Hp (Qr P.o λp=>cur.getD p Cu) (λi=>h'.getD i (0,0)) h'.length)(I:((p0,r0.x)::h').Perm h):P.St cur (q.set p0 r0.shut) h' where
 cl:=by rw[Bk];exact H.cl
 ql:=by
  rw[Bk,<-H.ql,List.map_set];exact UB (by rw[Bd,Q];rfl)
 fit:=H.fit
 rd:=λr J=>(mem_set J).elim (λe=>by rw[e];exact(H.rd r0 (Ak Q)).AE8 hp) (H.rd r)
 hp:=hh
 nd:=by
  have J:=(I.map (·.1)).nodup_iff.2 H.nd;rw[List.map_cons,B3]at J;exact J.2
 mem:=λa=>by
  have J:=(I.map (·.1)).nodup_iff.2 H.nd;rw[List.map_cons,B3]at J;have U:=H.mem a;rw[<-I.mem_iff,A8]at U;by_cases he:p0=a.1
  ·subst he;rw[Av,if_pos rfl,if_pos (Gq Q)];refine⟨λO=>absurd (Az.2 ⟨a,O,rfl⟩) J.1,λ⟨r,h3,h4,_⟩=>?_⟩;injection h3 with h3
   rw[<-h3]at h4;cases h4
  ·rw[Av,if_neg he];refine⟨λO=>U.1 (.inr O),λO=>(U.2 O).elim (λe=>absurd (by rw[e]) he) id⟩
theorem sY(o:Cv)(cur:Nat->Cv)(a:Nat×Nat):Qr o cur a a=false:=by
 cases h:Qr o cur a a with
 |false=>rfl
 |true=>have:=(Og o cur).asym a a h;rw[h]at this;cases this
theorem MP.St.least(I:P.St cur q h){a}(J:a∈h):Qr P.o (λp=>cur.getD p Cu) a (h.getD 0 (0,0))=false:=by
 obtain⟨j,H,rfl⟩:=BO J;have O:=I.hp.least (Og _ _) (sY _ _) j H;have e:h.getD j (0,0)=h[j]:=by rw[AT,AU H];rfl
 rw[<-e];exact O
theorem MP.St.told(I:P.St cur q h){out}{N}(Q:N=q.length){p0 x0}{r0}(U:h.getD 0 (0,0)=(p0,x0))(J:q[p0]?=AE r0)(O:r0.op=true)
  (hm:Yi P.o N (IL cur q) P.rs.flatten out){live'}(Oo:live' p0=r0.l.drop r0.rt.pos)(Ve:∀p,p≠p0->live' p=IL cur q p):Yi P.o N live' P.rs.flatten (out++[cur.getD p0 Cu]):=by
 refine hm.step (by rw[Q];exact Gq J) (r:=r0.l.drop r0.rt.pos) (by unfold IL;rw[J];show (if r0.op then _ else _)= _;rw[if_pos O]) (λp u us hp e=>?_) Oo Ve;unfold IL at e
 cases hq:q[p]?with
 |none=>rw[hq]at e;cases e
 |some r=>
  rw[hq]at e;have e:(if r.op then cur.getD p Cu::r.l.drop r.rt.pos else [])=u::us:=e
  cases hro:r.op with
  |false=>rw[hro]at e;cases e
  |true=>
   rw[hro,if_pos rfl]at e;injection e with e _
   have H:=I.least ((I.mem (p,r.x)).2 ⟨r,hq,hro,rfl⟩);rw[U]at H;unfold Qr at H;simp only[Bool.or_eq_false_iff,Bool.and_eq_false_iff,decide_eq_false_iff_not]at H;have h2:=Dv P.o (cur.getD p0 Cu) (cur.getD p Cu);rw[<-e];omega
def MP.J(P:MP)(n:Nat)(W:World):Prop:=∃cur q h lv out,P.St cur q h/\q.length=P.rs.length/\Yi P.o P.rs.length (IL cur q) P.rs.flatten out/\Tn q=n/\Wd P.X (P.os (P.Z (P.s0++out)) cur (P.st lv h) q) (P.mm q (P.s0++out)) W
def MP.Jm(P:MP)(t:Cv)(n:Nat)(W:World):Prop:=∃cur q h lv out,P.St cur q h/\q.length=P.rs.length/\Yi P.o P.rs.length (IL cur q) P.rs.flatten (out++[t])/\Tn q=n/\Dc P.k t=true/\(out++[t]).length<=P.rs.flatten.length/\Wd P.X (P.os (P.Z (P.s0++out)) cur (P.st lv h) q) (P.mm q (P.s0++out)) W
def MP.E(P:MP)(W:World):Prop:=∃cur q lv out,P.St cur q []/\q.length=P.rs.length/\Yi P.o P.rs.length (IL cur q) P.rs.flatten out/\Wd P.X (P.os (P.Z (P.s0++out)) cur (P.st lv []) q) (P.mm q (P.s0++out)) W
theorem Yi.len{o N live jR out}(h:Yi o N live jR out):out.length<=jR.length:=by
 have H:Cl o (out++(Bu N).flatMap live) jR:=λc=>by
  rw[Ba,<-h.cl c];unfold XT;rw[List.filter_flatMap]
 have e:=H.len;rw[AY]at e;omega
theorem MP.St.VJ(e:P.St cur q h)(I:q.length=P.rs.length):ZU q<=DC (λl:List Cv=>Cr P.hh l.length) P.rs:=by
 have H:=e.ql;rw[I,By]at H;rw[<-H,<-ZT e.rd];exact Go.Proofs.YthfnbpjegjbbiaaGreat.VJ e.rd
theorem MP.wE(e:P.Ok)(H:P.St cur q h)(J:q.length=P.rs.length){out}(O:out.length<=P.rs.flatten.length):P.X.N+P.mm q (P.s0++out)+3<=1000000:=by
 have Q:=H.VJ J;have I:=Nj P.once P.o P.hh (P.s0++out);have h3:=e.n;have h4:=e.bd;rw[AY]at I;unfold MP.mm;omega
theorem MP.St.hlen(H:P.St cur q h):h.length<=q.length:=by
 have e:(h.map (·.1)).length<=(Bu q.length).length:=H.nd.length_le_of_subset λp hp=>by
  obtain⟨a,I,rfl⟩:=Az.1 hp;obtain⟨r,e,_⟩:=H.get I;exact List.mem_range.2 (Gq e)
 rwa [Aj,List.length_range]at e
theorem MP.St.yf(e:P.St cur q h):q.length<=P.rs.length:=by
 have H:=congrArg List.length e.ql;rw[Aj,Ac]at H;omega
theorem MP.St.hq(O:P.Ok)(e:P.St cur q h):HQ q h:=⟨by have:=e.hlen;have:=e.yf;have:=O.len;omega,λa J=>by
 obtain⟨r,Q,_,h3,_⟩:=e.get J;exact⟨r,Q,h3⟩,λp r H I=>(e.mem (p,r.x)).2 ⟨r,H,I,rfl⟩⟩
theorem MP.St.qF(U:P.Ok)(I:P.St cur q h){p0}{r0}(O:q[p0]?=AE r0):HQ (q.set p0 r0.shut) h:=⟨by have:=I.hlen;have:=I.yf;have:=U.len;omega,λa Q=>by
 obtain⟨r,H,_,h3,_⟩:=I.get Q;by_cases he:p0=a.1
 ·subst he;refine⟨r0.shut,by rw[Av,if_pos rfl,if_pos (Gq O)],?_⟩;rw[O]at H;injection H with H;rw[<-h3,<-H];rfl
 ·exact⟨r,by rw[Av,if_neg he];exact H,h3⟩,λp r e J=>by
 rw[Av]at e
 split at e
 ·split at e
  ·injection e with e;rw[<-e]at J;cases J
  ·cases e
 ·exact(I.mem (p,r.x)).2 ⟨r,e,J,rfl⟩⟩
theorem MP.next(hP:P.Ok):xo 194 (AI P.sx) P.J P.Jm P.E P.No:=by
 rintro n W ⟨cur,q,h,lv,out,I,SM,hm,zL,hw⟩;have hz:=hP.S.len (P.s0++out);have ao:=hm.len;have Oj:(P.s0++out).length<=P.bd:=by rw[AY];have:=hP.bd;omega
 rcases A7 h.length with hl|hl
 ·have hl:=List.length_eq_zero_iff.1 hl;subst hl;refine(ZG hw MP.Uk).mono ?_;rintro e w' ⟨he,h1⟩;exact .inr (.inl ⟨he,cur,q,lv,out,I,SM,hm,h1⟩)
 ·obtain⟨p0,x0,h0⟩:∃p0 x0,h.getD 0 (0,0)=(p0,x0):=⟨_,_,rfl⟩;have aa:=(E5 hl).2;rw[h0]at aa;obtain⟨H,O,U,hx,J⟩:=I.get aa;have hx:H.x=x0:=hx;subst hx;have O:q[p0]?=AE H:=O;have Z3:=Gq O;have FX:=MP.xg (P:=P) (z:=P.Z (P.s0++out)) (cur:=cur) (st:=P.st lv h) O;rw[OV U]at FX;have hM:cur.length*P.k<=P.M/\P.M<=1000000:=⟨by rw[I.cl,SM];exact hP.M.1,hP.M.2⟩;have ar:=MP.wE hP I SM ao;have zj:h.length<=100000:=by have:=I.hlen;have:=I.yf;have:=hP.len;omega
  have EY:Src (P.os (P.Z (P.s0++out)) cur (P.st lv h) q) P.X.sz H.rt.first H.rt.k H.rt.h H.l:=MP.src J.src;have ae:=I.fit _ (M7 (i:=p0) (by rw[I.cl];exact Z3));refine(ee hw MP.om MP.Uk FX ⟨a5,a5,a5⟩ ⟨hl,zj⟩ h0 hP.kk hM I.fit I.lt I.nd I.hp J.ok a5 EY J.k rfl).mono ?_;rintro e w' (⟨he,(⟨nx,h',Jh,Hl,Pn,h1,h2,h3⟩|⟨h',Jh,ad,h1,h2,h3⟩)⟩|⟨he,Fu,h3⟩)
  ·have al:=J.ok.fit nx (Ak Pn);rw[J.k]at al;have ab:=I.more O U Hl al h1 h2;have h4:Wd P.X (P.os (P.Z (P.s0++out)) (Hf cur p0 nx) (P.st Jh h') (q.set p0 H.step)) (P.mm q (P.s0++out)+(Cr H.rt.h (H.rt.pos+1)-Cr H.rt.h H.rt.pos)) w':=by
    rw[<-MP.ZJ (P:=P) (st:=P.st lv h),<-MP.kZ (P:=P) (cur:=cur),<-MP.U7,OV (X:=P.X) (r:=H.step) U];exact h3
   have h5:P.mm (q.set p0 H.step) (P.s0++out)=P.mm q (P.s0++out)+(Cr H.rt.h (H.rt.pos+1)-Cr H.rt.h H.rt.pos):=by
    have h6:=lN O;have h7:=Db (h:=H.rt.h) (c:=H.rt.pos) (c':=H.rt.pos+1) J.ok.ok.h.1 a5;unfold MP.mm;omega
   have Q:=I.told (N:=P.rs.length) SM.symm h0 O U hm (live':=IL (Hf cur p0 nx) (q.set p0 H.step)) (by
    unfold IL;rw[Av,if_pos rfl,if_pos Z3];show (if H.step.op then (Hf cur p0 nx).getD p0 Cu::H.l.drop (H.rt.pos+1)else [])= _;have PR:H.rt.pos<H.l.length:=by rw[J.ok.cnt];exact Hl
    rw[show H.step.op=true from U,if_pos rfl,Ob (by rw[I.cl];omega),if_pos rfl,CQ PR];rw[AU PR]at Pn;injection Pn with Pn
    rw[Pn]) (λp hp=>by
    unfold IL;rw[Av,if_neg (λe=>hp e.symm),Ob (by rw[I.cl];omega),if_neg hp])
   refine .inl ⟨_,Tn (q.set p0 H.step),he,?_,_,_,h',Jh,out,ab,by rw[Bk];exact SM,Q,rfl,ae.2,Q.len,by rw[h5];exact h4⟩;have:=fA O U Hl;omega
  ·have ab:=I.less O ad h1 h2;have h4:Wd P.X (P.os (P.Z (P.s0++out)) cur (P.st Jh h') (q.set p0 H.shut)) (P.mm q (P.s0++out)) w':=by
    rw[<-MP.ZJ (P:=P) (st:=P.st lv h),<-MP.U7,Mr (X:=P.X) (r:=H.shut) rfl];exact h3
   have h5:P.mm (q.set p0 H.shut) (P.s0++out)=P.mm q (P.s0++out):=by unfold MP.mm;rw[lO O]
   have Q:=I.told (N:=P.rs.length) SM.symm h0 O U hm (live':=IL cur (q.set p0 H.shut)) (by
    unfold IL;rw[Av,if_pos rfl,if_pos Z3];have gP:H.l.drop H.rt.pos=[]:=List.drop_eq_nil_of_le (by rw[J.ok.cnt,ad];exact AQ _);rw[gP];rfl) (λp hp=>by
    unfold IL;rw[Av,if_neg (λe=>hp e.symm)])
   refine .inl ⟨_,Tn (q.set p0 H.shut),he,?_,cur,q.set p0 H.shut,h',Jh,out,ab,by rw[Bk];exact SM,Q,rfl,ae.2,Q.len,by rw[h5];exact h4⟩;have:=fB O U ad;omega
  ·refine .inr (.inr ⟨he,Fu,P.Z (P.s0++out),cur,lv,h,q.set p0 H.shut,P.mm q (P.s0++out)+1,.inl ⟨_,Oj,rfl⟩,I.qF hP O,?_⟩);rw[<-MP.U7,Mr (X:=P.X) (r:=H.shut) rfl];exact h3
theorem MP.put(I:P.Ok):AL8 P.fP P.vT P.J P.Jm P.No:=by
 rintro t n W ⟨cur,q,h,lv,out,O,U,hm,zL,Q,H,hw⟩;have zW:out.length<=P.rs.flatten.length:=by rw[AY]at H;omega
 have aa:=MP.wE I O U zW;refine(I.S.put P.DH _ _ (P.s0++out) t W hw Q (by rw[AY]at H⊢;have:=I.bd;simp only[BY,List.length_nil]at H;omega) a5).mono ?_;rintro e w' (⟨he,J⟩|⟨he,Fu,z,m',hz,J⟩)
 ·refine .inl ⟨he,cur,q,h,lv,out++[t],O,U,hm,zL,?_⟩;have h2:P.mm q (P.s0++out)+((Dp P.once P.o (P.s0++out++[t])).length/P.hh-(Dp P.once P.o (P.s0++out)).length/P.hh)=P.mm q (P.s0++(out++[t])):=by
   unfold MP.mm;rw[WS,AR]
  rw[h2,AR P.s0 out [t]]at J;exact J
 ·exact .inr ⟨he,Fu,z,cur,lv,h,q,m',.inr hz,O.hq I,J⟩
theorem eS(x:Nat)(w:World):Br AP (method 371 234 (AI x) "Next") w=.ok (194,AI x) w:=a7
theorem MP.Jm.below{t n W'}(h:P.Jm t n W)(hb:Below W W W'):P.Jm t n W':=by
 obtain⟨cur,q,h,lv,out,J,I,h3,h4,h5,H,e⟩:=h;exact⟨cur,q,h,lv,out,J,I,h3,h4,h5,H,e.below hb⟩
theorem MP.E.below{W'}(h:P.E W)(hb:Below W W W'):P.E W':=by
 obtain⟨cur,q,lv,out,H,e,h3,h4⟩:=h;exact⟨cur,q,lv,out,H,e,h3,h4.below hb⟩
theorem MP.No.below{W'}(h:P.No W)(hb:Below W W W'):P.No W':=by
 obtain⟨e,z,cur,lv,h,q,m',I,H,h3⟩:=h;exact⟨e,z,cur,lv,h,q,m',I,H,h3.below hb⟩
theorem MP.J.yh{n}(H:P.Ok)(h:P.J n W):Calls AP 138 #[.iface 234 (AI P.sx),.iface P.tT P.vT] W λe w'=>(e=AH ()/\P.E w')\/(e=AH (AA AB 6)/\P.No w'):=
 XB (eS P.sx) H.S.mm (λargs w=>by kernel_rfl) H.S.me (MP.next H) (MP.put H) (λ_ _ _ _ h hb=>h.below hb) (λ_ _ h hb=>h.below hb) (λ_ _ h hb=>h.below hb) h
def MP.Fin(P:MP)(er:Int)(z:List DA)(m':Nat):Prop:=(er=0/\∃out,z=P.Z (P.s0++out)/\NC P.o out/\Cl P.o P.rs.flatten out/\m'=P.m+DC (λl:List Cv=>Cr P.hh l.length) P.rs+I3 P.once P.o P.hh (P.s0++out))\/(er=6/\¬P.X.cm/\Q8 P.X P.xw P.bd P.n P.Z z)
def MP.G0(P:MP)(er:Int)(W:World):Prop:=∃z cur lv h q m',P.Fin er z m'/\HQ q h/\Wd P.X (P.os z cur (P.st lv h) q) m' W
def MP.G1(P:MP)(er:Int)(W:World):Prop:=∃z cur lv h q m',P.Fin er z m'/\(∀r∈q,r.op=false)/\Wd P.X (P.os z cur (P.st lv h) q) m' W
def MP.G2(P:MP)(er:Int)(W:World):Prop:=∃z m',P.Fin er z m'/\Wd P.X (P.DH++z) m' W
theorem MP.No.fin(h:P.No W):P.G0 6 W:=by
 obtain⟨e,z,cur,lv,h,q,m',I,H,h3⟩:=h;exact⟨z,cur,lv,h,q,m',.inr ⟨rfl,e,I⟩,H,h3⟩
theorem fh(e:P.St cur q [])(p:Nat):IL cur q p=[]:=by
 unfold IL
 cases hq:q[p]?with
 |none=>rfl
 |some r=>
  cases ho:r.op with
  |false=>simp[ho]
  |true=>exact absurd ((e.mem (p,r.x)).2 ⟨r,hq,ho,rfl⟩) a8
theorem MP.E.fin(I:P.Ok)(h:P.E W):P.G0 0 W:=by
 obtain⟨cur,q,lv,out,e,Q,hm,hw⟩:=h;obtain⟨O,J⟩:=hm.done λp _=>fh e p;have h3:ZU q=DC (λl:List Cv=>Cr P.hh l.length) P.rs:=by
  have h4:=e.ql;rw[Q,By]at h4;rw[<-h4,<-ZT e.rd];refine rW q λr H=>?_;obtain⟨p,hp,rfl⟩:=BO H
  cases ho:q[p].op with
  |false=>rw[(e.rd _ H).shut ho]
  |true=>exact absurd ((e.mem (p,q[p].x)).2 ⟨q[p],AU hp,ho,rfl⟩) a8
 exact⟨_,cur,lv,[],q,_,.inl ⟨rfl,out,rfl,J,O,by unfold MP.mm;rw[h3]⟩,e.hq I,hw⟩
theorem Ub{h:List (Nat×Nat)}{i a b}(e:h[i]?=AE a)(hb:b∈h.drop i):b=a\/b∈h.drop (i+1):=by
 rw[CQ (Gq e)]at hb;rw[AU (Gq e)]at e;injection e with e
 rcases A8.1 hb with hb|hb
 ·exact .inl (hb.trans e)
 ·exact .inr hb
theorem MP.G0.close{er}(u:Bf)(h:P.G0 er W):CallsD AP 156 #[AI P.sx] u W λe u' w'=>u'=u/\(e=AH (AM #[])/\P.G1 er w'):=by
 obtain⟨z,cur,lv,h,q,m',hf,hq,hw⟩:=h;obtain⟨A,c,rfl⟩:=Mu (hw.at_ MP.Uk).2;refine(ZO (n:=h.length) (c:=c) (A:=A) (o:=P.o) (k:=P.k) (g:=P.g) (M:=P.M) (hf:=λi=>h.getD i (0,0)) u (by have:=hq.len;omega)
  (J:=λi w=>∃H,(∀a∈h,∃r,H[a.1]?=AE r/\r.x=a.2)/\(∀(p:Nat) (r:Sr),H[p]?=AE r->r.op=true->(p,r.x)∈h.drop i)/\Wd P.X (P.os z cur (P.st (AJ A h.length c) h) H) m' w) ?_ ?_ ?_ ?_ ⟨q,hq.m1,λp r U Q=>by rw[Cn];exact hq.m2 p r U Q,hw⟩).mono ?_
 ·rintro i w ⟨H,_,_,h3⟩;exact(h3.at_ MP.Uk).1
 ·rintro i w ⟨H,_,_,h3⟩ hi;have h4:=(h3.at_ MP.Uk).2;obtain⟨gl,c2,cs,e1,_,O,_,_,_,k2⟩:=JS h4 a5;injection e1 with e1 _ _
  obtain⟨m1,_⟩:=E5 hi;obtain⟨m2,m3⟩:=GV m1;refine⟨gl,e1,?_,?_⟩
  ·rw[O.cell,<-m2,<-k2,At,if_pos a5]
  ·rw[O.cell,<-m3,<-k2,At,if_pos a5]
 ·rintro i w hi ⟨H,U,Q,h3⟩;obtain⟨m1,m2⟩:=E5 hi;obtain⟨r,I,hx⟩:=U _ m2;have FX:=MP.xg (P:=P) (z:=z) (cur:=cur) (st:=P.st (AJ A h.length c) h) I
  cases ho:r.op with
  |true=>
   rw[OV ho]at FX;have h4:=T3 h3 FX;rw[hx]at h4;refine h4.mono ?_;rintro e w' ⟨he,h5⟩;refine⟨he,H.set (h.getD i (0,0)).1 r.shut,λa ha=>?_,λp r2 hp cM=>?_,?_⟩
   ·obtain⟨r3,O,k2⟩:=U a ha;by_cases he:(h.getD i (0,0)).1=a.1
    ·refine⟨r.shut,by rw[<-he,Av,if_pos rfl,if_pos (Gq I)],?_⟩;rw[<-he,I]at O;injection O with O
     rw[<-k2,<-O];rfl
    ·exact⟨r3,by rw[Av,if_neg he];exact O,k2⟩
   ·rw[Av]at hp
    split at hp
    ·split at hp
     ·injection hp with hp;rw[<-hp]at cM;cases cM
     ·cases hp
    ·rename_i hne
     exact(Ub m1 (Q p r2 hp cM)).elim (λe=>absurd (by rw[<-e]) hne) id
   ·rw[<-MP.U7,Mr (X:=P.X) (r:=r.shut) rfl];rw[<-hx]at h5;exact h5
  |false=>
   rw[Mr ho]at FX;have h4:=Qq (h3.at_ FX);rw[hx]at h4;refine h4.mono ?_;rintro e w' ⟨he,h5⟩;refine⟨he,H,U,λp r2 hp cM=>(Ub m1 (Q p r2 hp cM)).elim (λe=>?_) id,by rw[h5];exact h3⟩;have e1:(h.getD i (0,0)).1=p:=by rw[<-e]
   rw[e1,hp]at I;injection I with I
   rw[I]at cM;rw[ho]at cM;cases cM
 ·rintro i w w' ⟨H,U,Q,h3⟩ hb;exact⟨H,U,Q,h3.below hb⟩
 ·rintro e u' w' ⟨hu,he,H,U,Q,h3⟩;refine⟨hu,he,z,cur,_,h,H,m',hf,λr I=>?_,h3⟩;obtain⟨p,hp,rfl⟩:=BO I
  cases ho:H[p].op with
  |false=>rfl
  |true=>
   have h4:=Q p _ (AU hp) ho;rw[List.drop_length]at h4;cases h4
theorem MP.G1.release(U:P.Ok){er}(u:Bf)(h:P.G1 er W):CallsD AP 70 #[AI P.X.p.a,AI P.b] u W λe H w'=>H=u/\(e=AH true/\P.G2 er w'):=by
 obtain⟨z,cur,lv,h,q,m',hf,O,hw⟩:=h;refine(L4 u hw MP.om (b:=P.b) (g:=P.g) (M:=P.M) (λk=>BN) rfl rfl).mono ?_;rintro e H w' ⟨hu,he,I⟩;refine⟨hu,he,z,m',hf,?_⟩;have h2:(P.os z cur (P.st lv h) q).set (P.DH.length+z.length+1) Dt=P.DH++z++(P.bx::Dt::P.st lv h::q.map (jO P.X)):=by
  unfold MP.os;rw[GG rfl];rfl
 rw[h2]at I;refine I.forget (DF U.bx (DF ⟨rfl,rfl⟩ (DF ⟨rfl,rfl⟩ λa Q=>?_)));obtain⟨r,J,rfl⟩:=Az.1 Q;rw[Mr (O r J)];exact⟨rfl,rfl⟩
end
section
variable{X:Cx}{os:List DA}{m iz ig:Nat}{W W':World}{sx k b g M first nb hh count:Nat}{o t:Cv}{lv:Value}{hp:List (Nat×Nat)}{cur l:List Cv}
theorem gZ(J:∀a∈hp,a.1<cur.length)(O:Hp (Qr o λp=>cur.getD p Cu) (λi=>hp.getD i (0,0)) hp.length):Hp (Qr o λp=>(cur++[t]).getD p Cu) (λi=>hp.getD i (0,0)) hp.length:=λj I H=>by
 have e:=O j I H;have Q:=MG I;have h3:=J _ (E5 H).2;have h4:=J _ (E5 (show par j<hp.length by omega)).2;unfold Qr at e⊢;simp only[AT]at e h3 h4⊢;rw[Al h3,Al h4];exact e
theorem ki(h:Wd X os m W)(hg:os[ig]?=AE (Fw b g M k cur))(hs:os[iz]?=AE (NS X sx k g M o lv hp))(hd:ig≠iz)(O:hp.length=cur.length)(Pp:hp.length+1<=100000)(hk:0<k/\k<=5)(hM:(cur.length+1)*k<=M/\M<=1000000)
  (hf:ID k cur)(hH:Hp (Qr o λp=>cur.getD p Cu) (λi=>hp.getD i (0,0)) hp.length)(Hl:∀a∈hp,a.1<cur.length)(LU:hh=Ct X.sz k)(Gh:0<hh)(hnb:nb=Cr hh count)(I6:0<count/\count<=100000)(SV:first<=2000000)
  (ab:X.sz+DC DA.gw os<=X.rm)(hlen:l.length=count)(J:ID k l)(EY:Src os X.sz first k hh l)(hn:X.N+m<1000000)(ht:l[0]?=AE t):
  Calls AP 157 #[AI sx,AI X.p.w,AL #[first,nb,k,count]] W λe w'=>
   (e=AH ()/\∃x rt h' Jh,qS rt X.sz l/\(rt.pos=1/\rt.count=count/\rt.first=first/\rt.k=k/\rt.h=hh)/\Hp (Qr o λp=>(cur++[t]).getD p Cu) (λi=>h'.getD i (0,0)) h'.length/\h'.Perm (hp++[(cur.length,x)])/\
    Wd X ((os.set ig (Fw b g M k (cur++[t]))).set iz (NS X sx k g M o Jh h')++[Eu X.p x rt X.sz l]) (m+1) w')\/
   (e=AH (AA AB 6)/\¬X.cm/\∃x rt,Wd X (os++[Nr X.p x rt]) (m+1) w'):=by
 obtain⟨W1,EB⟩:=ae (W.alloc (AK #[first,nb,k,count] 28));have DV:Below W W W1:=by rw[EB];exact(AS _ _).alloc ao _
 have ER:Row W1 W 28 [first,nb,k,count]:=by rw[EB];exact heap_alloc_new _ _
 have LJ:=AO (Mp (h.below DV) first nb k hh count l LU Gh hnb I6.2 SV ab);have Tf:Hid (∀x b' I W2,JA ⟨k,hh,first,nb,count,0,b',I⟩ X.sz->Wd X (os++[Eu X.p x ⟨k,hh,first,nb,count,0,b',I⟩ X.sz l]) m W2->Calls AP 48 #[AI x] W2 λe w'=>
   (e=AH (AM #[AL #[t.a,t.b,t.c,t.d,t.e],true,()])/\Wd X (os++[Eu X.p x ⟨k,hh,first,nb,count,1,b',I⟩ X.sz l]) (m+1) w')\/
   (e=AH (AM #[AL #[(),(),(),(),()],false,AA AB 6])/\¬X.cm/\Wd X (os++[Nr X.p x ⟨k,hh,first,nb,count,0,b',I⟩]) (m+1) w')):=λx b' I W2 GL U=>by
  have FX:(os++[Eu X.p x ⟨k,hh,first,nb,count,0,b',I⟩ X.sz l])[os.length]?=AE (Eu X.p x ⟨k,hh,first,nb,count,0,b',I⟩ X.sz l):=by rw[AX ao,Ap];rfl
  refine(OO U FX ⟨GL,hlen,J⟩ hn I6.1 (EY.snoc _) ht).mono ?_;rintro e w' (⟨h3,h4⟩|⟨h3,h4,h5⟩)
  ·rw[GP]at h4;have e1:Cr hh (0+1)-Cr hh 0=1:=by
    have h6:=Du hh;have h7:=En Gh (show 0<0+1 by omega);have h8:=Jo Gh 0 1;rw[h6]at h8⊢;omega
   have h6:Wd X (os++[Eu X.p x ⟨k,hh,first,nb,count,1,b',I⟩ X.sz l]) (m+(Cr hh (0+1)-Cr hh 0)) w':=h4;rw[e1]at h6;exact .inl ⟨h3,h6⟩
  ·rw[GP]at h5;exact .inr ⟨h3,h4,h5⟩
 have aa:∀(z:List DA) m' W',Wd X (os++z) m' W'->Row W' sx 237 (Kc k g M M o lv):=λz m' W' hw=>(hw.at_ (Df hs)).1;obtain⟨A,c,Om⟩:=Mu (h.at_ hs).2;have Fz:Hid (∀(z:List DA) m' W',Wd X (os++z) m' W'->Row W' sx 237 (Kc k g M M o (AJ A hp.length c))):=λz m' W' hw=>by rw[<-Om];exact aa z m' W' hw
 have E0:=AO EB;obtain⟨b0,b1,b2,b3⟩:=ER.q4;have aD:=AO Om;have al:=AO O;have NB:=AO hlen;clear EB DV ER h aa Om hnb LU O hlen;generalize Vk:W.heap.size=s0 at*
 go_enter func157,ntmps157
 go_upto_region 1 with(fail)
 rw[<-E0.out];clear E0 Vk;go_wp2_with fail
 refine LJ.out.mono ?_;rintro e w2 ⟨x,b',I,rfl,GL,U⟩;have pM:=AO (Tf.out x b' I w2 GL U);have IE:=AO GL;clear LJ U b0 b1 b2 b3 GL;go_wp2_with fail
 refine pM.out.mono ?_;rintro e w3 (⟨rfl,h3⟩|⟨rfl,Fu,h3⟩)
 ·have h4:Wd X (os++[Eu X.p x ⟨k,hh,first,nb,count,1,b',I⟩ X.sz l]++[Cs w3 47 (DE t)]) (m+1) (w3.alloc (AK #[t.a,t.b,t.c,t.d,t.e] 47)):=
   h3.new ((AS _ _).alloc ao _) (g:=w3.heap.size) (t:=47) (cs:=DE t) (heap_alloc_new w3 (AK #[t.a,t.b,t.c,t.d,t.e] 47)) ao
  rw[AR]at h4;have JC:=AO (OW (Fz.out _ _ _ h4));have H4:=AO h4;clear h3 h4 pM;go_wp2_with fail
  refine JC.out.mono ?_;rintro e w4 ⟨rfl,Zx⟩;generalize w3.alloc (AK #[t.a,t.b,t.c,t.d,t.e] 47)=w5 at*
  subst Zx;generalize w3.heap.size=H at*
  have UQ:=H4.out.drewN 1;rw[show w4.drewN 1=w4.drew from rfl]at UQ;have JE:=Fz.out _ _ _ UQ;obtain⟨c0,c1⟩:=JE.q2;have d0:w4.drew.cell? H=AE (AA AB t.a):=(UQ.row (DD _ _ 1)).cell 0;have d1:w4.drew.cell? (H,1)=AE (AA AB t.b):=(UQ.row (DD _ _ 1)).cell 1;have d2:w4.drew.cell? (H,2)=AE (AA AB t.c):=(UQ.row (DD _ _ 1)).cell 2;have d3:w4.drew.cell? (H,3)=AE (AA AB t.d):=(UQ.row (DD _ _ 1)).cell 3;have d4:w4.drew.cell? (H,4)=AE (AA AB t.e):=(UQ.row (DD _ _ 1)).cell 4;have aA:(os++[Eu X.p x ⟨k,hh,first,nb,count,1,b',I⟩ X.sz l,Cs H 47 (DE t)])[ig]?=AE (Fw b g M k cur):=Df hg;have O:=al.out;have bB:Hid (Calls AP 154 #[AL #[k,AJ g M M],hp.length,AL #[t.a,t.b,t.c,t.d,t.e]] w4.drew λe w'=>e=AH (AM #[])/\Wd X (os.set ig (Fw b g M k (cur++[t]))++[Eu X.p x ⟨k,hh,first,nb,count,1,b',I⟩ X.sz l,Cs H 47 (DE t)]) (m+1) w'):=by
   have aB:=hM.1;rw[A6,BD]at aB;refine(Y1 UQ aA hk hp.length t a5 (by rw[O];omega) ⟨AQ _,hM.2⟩ a5).mono ?_;rintro e w' ⟨h1,U,_⟩;rw[O,W8,IU hg]at U;exact⟨h1,U⟩
  have ar:Hid (∀w',Wd X (os.set ig (Fw b g M k (cur++[t]))++[Eu X.p x ⟨k,hh,first,nb,count,1,b',I⟩ X.sz l,Cs H 47 (DE t)]) (m+1) w'->(w'.cell? sx=AE (AA AB k)/\w'.cell? (sx,1)=AE (AJ g M M)/\w'.cell? H=AE (AA AB t.a)/\w'.cell? (H,1)=AE (AA AB t.b)/\w'.cell? (H,2)=AE (AA AB t.c)/\w'.cell? (H,3)=AE (AA AB t.d)/\w'.cell? (H,4)=AE (AA AB t.e))):=λw' Q=>by
   have Dx:=(Q.at_ (Df (Fa hs hd))).1;exact⟨Dx.cell 0,Dx.cell 1,(Q.row (DD _ _ 1)).cell 0,(Q.row (DD _ _ 1)).cell 1,(Q.row (DD _ _ 1)).cell 2,(Q.row (DD _ _ 1)).cell 3,(Q.row (DD _ _ 1)).cell 4⟩
  clear UQ JE H4 JC O;go_wp2_with fail
  go_region_held3 (λw'=>w'.cell? sx=AE (AA AB k)/\w'.cell? (sx,1)=AE (AJ g M M)/\w'.cell? H=AE (AA AB t.a)/\w'.cell? (H,1)=AE (AA AB t.b)/\w'.cell? (H,2)=AE (AA AB t.c)/\w'.cell? (H,3)=AE (AA AB t.d)/\w'.cell? (H,4)=AE (AA AB t.e)) (first|with_reducible exact⟨c0,c1,d0,d1,d2,d3,d4⟩|with_reducible exact q7)
   ((go_at_call 154;(with_reducible refine bB.out.mono ?_);rintro e w7 ⟨rfl,h7⟩;have q7:=ar.out w7 h7))
  have Zz:(os.set ig (Fw b g M k (cur++[t])))[iz]?=AE (NS X sx k g M o lv hp):=Fa hs hd;have aw:(os.set ig (Fw b g M k (cur++[t])))[ig]?=AE (Fw b g M k (cur++[t])):=IG os hg _;have O:=al.out;have hlen:=NB.out;have Fh:(cur++[t]).length=cur.length+1:=by rw[AY];rfl
  have ad:Calls AP 162 #[.iface 234 (AI sx),.iface 242 (AL #[hp.length,AI x])] w7 λe w'=>e=AH (AM #[])/\∃h' Jh,Hp (Qr o λp=>(cur++[t]).getD p Cu) (λi=>h'.getD i (0,0)) h'.length/\h'.Perm (hp++[(cur.length,x)])/\
    Wd X ((os.set ig (Fw b g M k (cur++[t]))).set iz (NS X sx k g M o Jh h')++[Eu X.p x ⟨k,hh,first,nb,count,1,b',I⟩ X.sz l,Cs H 47 (DE t)]) (m+1) w':=by
   have hC:=PW (X:=X) (m:=m+1) (o:=o) (sx:=sx) (Df (b:=[Eu X.p x ⟨k,hh,first,nb,count,1,b',I⟩ X.sz l,Cs H 47 (DE t)]) aw) (λe=>hd e.symm) (MI (Df Zz)) hk ⟨by rw[Fh];exact hM.1,hM.2⟩ (λu hu=>(Ag.1 hu).elim (hf u) λhu=>by rw[Bn.1 hu];exact J t (Ak ht));have hR:StR X (os.set ig (Fw b g M k (cur++[t]))++[Eu X.p x ⟨k,hh,first,nb,count,1,b',I⟩ X.sz l,Cs H 47 (DE t)]) (m+1) iz sx k g M o (cur++[t]).length hp w7:=⟨λa ha=>by rw[Fh];have:=Hl a ha;omega,a5,lv,by rw[Iu (Df Zz)];exact h7⟩;have av:=kR (MI (Df Zz)) hR (hp.length,x) (by rw[Fh];omega) Pp;refine(gI (h:=hp) (a:=(hp.length,x)) hC (Og _ _) a5 (gZ Hl hH) av).mono ?_;rintro e w' ⟨h1,h',U,h3,_,_,Jh,h5⟩;rw[IU Zz]at h5;have h6:=h3.length_eq;rw[AY]at h6;exact⟨h1,h',Jh,by rw[h6];exact U,by rw[<-O];exact h3,h5⟩
  have jX:=AO ad;clear O hlen Fh ad h7 q7 bB ar c0 c1 d0 d1 d2 d3 d4;go_wp2_with fail
  refine jX.out.mono ?_;rintro e w8 ⟨rfl,h',Jh,k1,k2,h8⟩;have Q:Wd X ((os.set ig (Fw b g M k (cur++[t]))).set iz (NS X sx k g M o Jh h')++[Eu X.p x ⟨k,hh,first,nb,count,1,b',I⟩ X.sz l]) (m+1) w8:=by
   have OJ:Wd X (((os.set ig (Fw b g M k (cur++[t]))).set iz (NS X sx k g M o Jh h')++[Eu X.p x ⟨k,hh,first,nb,count,1,b',I⟩ X.sz l])++[Cs H 47 (DE t)]) (m+1) w8:=by rw[AR];exact h8
   exact OJ.forget (DF (G3 _ _ _) Ea)
  have H9:=AO Q;have jD:=AO k1;have vS:=AO k2;clear h8 Q k1 k2 jX;go_wp2
  go_ret
  refine .inl ⟨rfl,x,⟨k,hh,first,nb,count,1,b',I⟩,h',Jh,⟨⟨IE.out.k,IE.out.h,IE.out.sz,⟨IE.out.count.1,I6.1⟩,IE.out.first⟩,NB.out,J⟩,⟨rfl,rfl,rfl,rfl,rfl⟩,jD.out,vS.out,H9.out⟩
 ·have H9:=AO (h3.below ((AS _ _).alloc ao (AK #[(),(),(),(),()] 47)));have aC:=AO Fu;clear h3 pM Fu;go_wp2
  go_ret
  exact .inr ⟨rfl,aC.out,x,_,H9.out⟩
end
section
variable{os:List DA}{sz first k hh:Nat}{l:List Cv}{q rb P pa pb i:Nat}
theorem Kj(i rb hh:Nat):i*(rb*hh)=i*rb*hh:=(Nat.mul_assoc _ _ _).symm
theorem KG(e:0<hh)(a:Nat):Cr hh (a*hh)=a:=by
 unfold Cr;rw[Nat.mul_mod_left,if_neg a5,Nat.mul_div_cancel _ e]
theorem Jn(H:0<hh)(c a:Nat):Cr hh (c-a*hh)=Cr hh c-a:=by
 rcases Nat.le_total (a*hh) c with hle|hle
 ·unfold Cr;have e:c=(c-a*hh)+hh*a:=by rw[B6 hh a];omega
  have I:c%hh=(c-a*hh)%hh:=by
   conv=>lhs;rw[e]
   exact Nat.add_mul_mod_self_left _ _ _
  have h3:c/hh=(c-a*hh)/hh+a:=by
   conv=>lhs;rw[e]
   exact Nat.add_mul_div_left _ _ H
  rw[I,h3];generalize(c-a*hh)%hh=x;generalize(c-a*hh)/hh=y
  split<;>omega
 ·rw[Nat.sub_eq_zero_of_le hle,Du];have e:Cr hh c<=Cr hh (a*hh):=Db H hle;rw[KG H]at e;omega
theorem ag(e:0<hh)(c b:Nat):Cr hh (min (b*hh) c)=min b (Cr hh c):=by
 rcases Nat.le_total (b*hh) c with hle|hle
 ·rw[Bh hle,KG e,Bh];have H:=Db e hle;rwa [KG e]at H
 ·rw[Nat.min_eq_right hle,Nat.min_eq_right];have H:=Db e hle;rwa [KG e]at H
def Ue(l:List Cv)(a n:Nat):List Cv:=(l.drop a).take n
theorem RJ:(Ue l pa pb).length=min pb (l.length-pa):=by unfold Ue;rw[Ac,An]
theorem Jl(e:0<hh):Cr hh (Ue l (pa*hh) (pb*hh)).length=min pb (Cr hh l.length-pa):=by
 rw[RJ,ag e,Jn e]
theorem cx{k}(h:ID k l):ID k (Ue l pa pb):=λu hu=>h u (List.mem_of_mem_drop (Bo hu))
theorem Src.part(H:Src os sz first k hh l)(e:0<hh)(pa pb:Nat):Src os sz (first+pa) k hh (Ue l (pa*hh) (pb*hh)):=by
 obtain⟨j,f,U,Q,h3⟩:=H;refine⟨j,f,U,λD J hd i hi=>?_,λI=>?_⟩
 ·rw[Jl e]at hi;have h4:=Q D J hd (pa+i) a5;rw[show first+pa+i=first+(pa+i)by omega,h4]
  congr 1
  unfold JI Ue
  congr 1
  rw[List.drop_take,B7,Co,show pa*hh+i*hh=(pa+i)*hh by rw[A6],Bh];have h5:=Ae hh (show i+1<=pb by omega);rw[A6,BD]at h5;omega
 ·rw[Jl e];rw[RJ]at I;have h5:0<l.length:=a5;have h6:=h3 h5;have h7:pa*hh<l.length:=a5;have O:0<Cr hh (l.length-pa*hh):=En e a5;rw[Jn e]at O;omega
def WN(q:Nat)(l:List Cv)(P:Nat):List (List Cv):=(Bu P).map λi=>Ue l (i*q) q
theorem RL:(WN q l P).length=P:=by unfold WN;rw[Aj,List.length_range]
theorem uk(h:i<P):(WN q l P)[i]?=AE (Ue l (i*q) q):=by unfold WN;rw[Bd,List.getElem?_range h];rfl
theorem YD:WN q l (P+1)=WN q l P++[Ue l (P*q) q]:=by unfold WN;rw[List.range_succ,Cj];rfl
theorem S4:∀P,(WN q l P).flatten=l.take (P*q)
 |0=>by rw[CS];rfl
 |P+1=>by
  rw[YD,List.flatten_append,S4 P,A6,BD,List.take_add];simp[Ue]
theorem Vq(e:0<hh):∀P,DC (λl:List Cv=>Cr hh l.length) (WN (rb*hh) l P)=min (P*rb) (Cr hh l.length)
 |0=>by rw[CS,Nat.zero_min];rfl
 |P+1=>by
  rw[YD,Dz,Vq e P,Kj];show _+Cr hh (Ue l (P*rb*hh) (rb*hh)).length= _;rw[Jl e,A6,BD];omega
end
def MP.A(P:MP)(i:Nat)(W:World):Prop:=∃cur q h lv,P.St cur q h/\q.length=i/\h.length=i/\(∀(p:Nat) (r:Sr),q[p]?=AE r->r.op=true/\r.rt.pos=1/\cur.getD p Cu::r.l.drop 1=r.l)/\Wd P.X (P.os (P.Z P.s0) cur (P.st lv h) q) (P.m+i+I3 P.once P.o P.hh P.s0) W
section
variable{P:MP}{cur:List Cv}{q:List Sr}{h:List (Nat×Nat)}{z:List DA}{st:DA}{W:World}{lv:Value}{m i:Nat}
theorem MP.br{r}:P.os z cur st (q++[r])=P.os z cur st q++[jO P.X r]:=by
 unfold MP.os;rw[Cj];simp
theorem MP.A.below{W'}(h:P.A i W)(hb:Below W W W'):P.A i W':=by
 obtain⟨cur,q,h,lv,H,e,h3,h4,h5⟩:=h;exact⟨cur,q,h,lv,H,e,h3,h4,h5.below hb⟩
theorem LL{α f c}:∀(l:List α) (_:∀a∈l,f a=c),DC f l=l.length*c
 |[],_=>by rw[List.length_nil,CS];rfl
 |a::l,h=>by rw[EI,h a Ax,LL l λb hb=>h b (BB _ hb),BY,A6,BD,Nat.add_comm]
theorem TF{hh}(H:0<hh):Cr hh 1=1:=by
 have I:=Du hh;have J:=En H (show 0<1 by omega);have e:=Jo H 0 1;rw[I]at e;rw[BL]at e;omega
theorem MP.A.start(hP:P.Ok)(h:P.A P.rs.length W):∃n,P.J n W:=by
 obtain⟨cur,q,h,lv,J,I,hh,hl,hw⟩:=h;have U:=J.ql;rw[I,By]at U;have wh:∀(p:Nat) (r:Sr),q[p]?=AE r->IL cur q p=r.l:=λp r H=>by
  unfold IL;rw[H];obtain⟨Q,h2,h3⟩:=hl p r H;show (if r.op then cur.getD p Cu::r.l.drop r.rt.pos else [])=r.l;rw[Q,h2,h3];rfl
 have IW:P.rs.flatten=(Bu P.rs.length).flatMap (IL cur q):=by
  rw[List.flatMap_def]
  congr 1
  rw[<-U];refine List.ext_getElem? λj=>?_;rw[Bd,Bd,Aj];rcases Am j q.length with e|e
  ·rw[AU e,List.getElem?_range e];show AE _=AE _;rw[wh j _ (AU e)]
  ·rw[BG e,BG (by rw[List.length_range];exact e)];rfl
 have hm:Yi P.o P.rs.length (IL cur q) P.rs.flatten []:=Yi.start (λp hp=>by
  rw[<-I]at hp;rw[wh p _ (AU hp)];exact hP.asc _ (by rw[<-U];exact Az.2 ⟨_,Bs hp,rfl⟩)) IW
 have O:ZU q=P.rs.length:=by
  have Q:ZU q=q.length*1:=LL q λr H=>by
   obtain⟨p,hp,rfl⟩:=BO H;rw[(hl p _ (AU hp)).2.1];exact TF (J.rd _ H).ok.ok.h.1
  rw[Q,I];omega
 refine⟨_,cur,q,h,lv,[],J,I,hm,rfl,?_⟩;rw[AZ];unfold MP.mm;rw[O];exact hw
theorem AK8(e:∀r∈q,r.op=true)(hb:P.bx.gr=AD):DC DA.gw (P.os z cur (P.st lv h) q)=DC DA.gw (P.DH++z)+P.M+q.length*P.X.sz:=by
 unfold MP.os;rw[DM,EI,EI,EI];have O:P.bx.gw=0:=by unfold DA.gw;rw[hb]
 have J:DC DA.gw (q.map (jO P.X))=q.length*P.X.sz:=by
  rw[LL (c:=P.X.sz) _ λa I=>?_,Aj];obtain⟨r,H,rfl⟩:=Az.1 I;rw[OV (e r H)];rfl
 rw[O,J];show _+(0+(P.M+(0+ _)))= _;omega
theorem MP.A.add(O:P.Ok){first nb count}{l}(hi:P.rs[i]?=AE l)(hlen:l.length=count)(I6:0<count/\count<=100000)(LU:P.hh=Ct P.X.sz P.k)(Gh:0<P.hh)(hnb:nb=Cr P.hh count)(SV:first<=2000000)(EY:Src P.DH P.X.sz first P.k P.hh l)
  (aa:DC DA.gw (P.DH++P.Z P.s0)+P.M+P.rs.length*P.X.sz<=P.X.rm)(h:P.A i W):
  Calls AP 157 #[AI P.sx,AI P.X.p.w,AL #[first,nb,P.k,count]] W λe w'=>(e=AH ()/\P.A (i+1) w')\/(e=AH (AA AB 6)/\P.No w'):=by
 obtain⟨cur,q,h,lv,I,hq,zj,hl,hw⟩:=h;have al:=Gq hi;have Q:=O.fit l (Ak hi);obtain⟨t,ht⟩:∃t,l[0]?=AE t:=⟨_,AU a5⟩;have Yb:∀r∈q,r.op=true:=λr H=>by
  obtain⟨p,hp,rfl⟩:=BO H;exact(hl p _ (AU hp)).1
 have GZ:=AK8 (P:=P) (z:=P.Z P.s0) (cur:=cur) (lv:=lv) (h:=h) Yb O.bx.1;have MN:P.X.sz+DC DA.gw (P.os (P.Z P.s0) cur (P.st lv h) q)<=P.X.rm:=by
  rw[GZ,hq];have U:=Ae P.X.sz (show i+1<=P.rs.length from al);rw[A6,BD]at U;omega
 have ar:(cur.length+1)*P.k<=P.M:=by
  have U:=Ae P.k (show cur.length+1<=P.rs.length by rw[I.cl,hq];exact al);exact Af U O.M.1
 have hn:=O.n;have DV:=Nj P.once P.o P.hh P.s0;have DN:=O.bd;have av:P.X.N+(P.m+i+I3 P.once P.o P.hh P.s0)<1000000:=by
  have U:ZU q=i:=by
   have U:ZU q=q.length*1:=LL q λr H=>by
    obtain⟨p,hp,rfl⟩:=BO H;rw[(hl p _ (AU hp)).2.1];exact TF (I.rd _ H).ok.ok.h.1
   rw[U,hq];omega
  have h2:ZU q<=DC (λl:List Cv=>Cr P.hh l.length) P.rs:=by
   have h3:=VJ I.rd;rw[ZT I.rd,I.ql]at h3;have h4:DC (λl:List Cv=>Cr P.hh l.length) (P.rs.take q.length)<=DC (λl:List Cv=>Cr P.hh l.length) P.rs:=by
    conv=>rhs;rw[<-BS q.length P.rs]
    rw[DM];omega
   omega
  omega
 refine(ki hw MP.om MP.Uk a5 (by rw[zj,I.cl,hq]) (by have:=O.len;omega) O.kk ⟨ar,O.M.2⟩ I.fit I.hp I.lt LU Gh hnb I6 SV MN hlen Q (MP.src EY) av ht).mono ?_;rintro e w' (⟨he,x,rt,h',Jh,U,⟨e1,e2,e3,e4,e5⟩,h2,h3,h4⟩|⟨he,Fu,x,rt,h4⟩)
 ·have Oj:(Sr.mk x rt l true).op=true:=rfl;have h5:Wd P.X (P.os (P.Z P.s0) (cur++[t]) (P.st Jh h') (q++[⟨x,rt,l,true⟩])) (P.m+i+I3 P.once P.o P.hh P.s0+1) w':=by
   rw[MP.br,OV Oj,<-MP.ZJ (P:=P) (st:=P.st lv h),<-MP.kZ (P:=P) (cur:=cur)];exact h4
  have hR:P.Rd ⟨x,rt,l,true⟩:=⟨U,by show Src P.DH P.X.sz rt.first rt.k rt.h l;rw[e3,e4,e5];exact EY,e4,e5,⟨by show 0<rt.pos;omega,by show rt.pos<=rt.count;omega⟩,λhf=>by cases hf⟩;have ad:∀p,p<q.length->(q++[⟨x,rt,l,true⟩])[p]?=q[p]?:=λp hp=>Al hp;have ab:(q++[⟨x,rt,l,true⟩])[q.length]?=AE ⟨x,rt,l,true⟩:=by rw[AX ao,Ap];rfl
  have ae:∀(p:Nat) (r:Sr),(q++[⟨x,rt,l,true⟩])[p]?=AE r->q[p]?=AE r\/(p=q.length/\r=⟨x,rt,l,true⟩):=λp r H=>by
   rcases Nat.lt_trichotomy p q.length with hp|hp|hp
   ·rw[ad p hp]at H;exact .inl H
   ·rw[hp,ab]at H;injection H with H;exact .inr ⟨hp,H.symm⟩
   ·rw[BG (by rw[AY];show q.length+1<=p;omega)]at H;cases H
  have nR:=I.cl;refine .inl ⟨he,cur++[t],q++[⟨x,rt,l,true⟩],h',Jh,⟨?_,?_,?_,?_,h2,?_,?_⟩,by rw[AY,hq];rfl,by rw[h3.length_eq,AY,zj];rfl,?_,by rw[show P.m+(i+1)+I3 P.once P.o P.hh P.s0=P.m+i+I3 P.once P.o P.hh P.s0+1 by omega];exact h5⟩
  ·rw[AY,AY,nR];rfl
  ·rw[AY,Cj,I.ql,hq];show P.rs.take i++[l]=P.rs.take (i+1);rw[Bi,hi];rfl
  ·exact λu hu=>(Ag.1 hu).elim (I.fit u) λhu=>by rw[Bn.1 hu];exact Q t (Ak ht)
  ·exact λr H=>(Ag.1 H).elim (I.rd r) λH=>by rw[Bn.1 H];exact hR
  ·have h6:=h3.map (·.1);rw[h6.nodup_iff,Cj,List.nodup_append];refine⟨I.nd,a8,λa ha b hb=>?_⟩;obtain⟨c,hc,rfl⟩:=Az.1 ha;have h7:=I.lt c hc;simp at hb;rw[hb];omega
  ·intro a;rw[h3.mem_iff,Ag,Bn,I.mem a];constructor
   ·rintro(⟨r,J,k2,k3⟩|J)
    ·exact⟨r,by rw[ad _ (Gq J)];exact J,k2,k3⟩
    ·subst J;exact⟨⟨x,rt,l,true⟩,by show (q++[_])[cur.length]?= _;rw[nR];exact ab,rfl,rfl⟩
   ·rintro⟨r,J,k2,k3⟩;rcases ae _ _ J with k4|⟨k4,k5⟩
    ·exact .inl ⟨r,k4,k2,k3⟩
    ·right;rw[k5]at k3;have k3:x=a.2:=k3;rw[nR,<-k4,k3]
  ·intro p r H;rcases ae p r H with J|⟨J,k2⟩
   ·obtain⟨k3,k4,k5⟩:=hl p r J;refine⟨k3,k4,?_⟩;have hp:p<cur.length:=by rw[nR];exact Gq J
    rw[AT,Al hp,<-AT];exact k5
   ·subst k2;refine⟨rfl,e1,?_⟩;rw[J,<-nR,AT,AX ao,Ap];show t::l.drop 1=l;rw[AU a5]at ht;injection ht with ht
    rw[<-ht];exact(CQ (show 0<l.length by omega)).symm
 ·refine .inr ⟨he,Fu,P.Z P.s0,cur,lv,h,q++[⟨x,rt,l,false⟩],P.m+i+I3 P.once P.o P.hh P.s0+1,.inl ⟨P.s0,a5,rfl⟩,⟨by have:=O.len;omega,λa ha=>?_,λp r H ho=>?_⟩,?_⟩
  ·obtain⟨r,J,_,k3,_⟩:=I.get ha;exact⟨r,by rw[Al (Gq J)];exact J,k3⟩
  ·rcases Nat.lt_trichotomy p q.length with hp|hp|hp
   ·rw[Al hp]at H;exact(I.mem (p,r.x)).2 ⟨r,H,ho,rfl⟩
   ·rw[hp,AX ao,Ap]at H;have H:AE (Sr.mk x rt l false)=AE r:=H;injection H with H
    rw[<-H]at ho;cases ho
   ·rw[BG (by rw[AY];show q.length+1<=p;omega)]at H;cases H
  ·rw[MP.br,Mr (r:=⟨x,rt,l,false⟩) rfl];exact h4
end
section
variable{X:Cx}{DH:List DA}{o:Cv}{once RE:Bool}{k hh bd xw tT fP n:Nat}{vT:Value}{Z:List Cv->List DA}{js sb WH rb Dl first nb count m PN:Nat}{s0 l:List Cv}{W:World}
theorem Mf{hh}(e:0<hh)(c:Nat):c<=Cr hh c*hh:=LZ e
theorem jy(hS:ow X o once k hh bd xw tT fP vT Z n)(Qs:DH[js]?=AE (Cs sb 193 (Em X.p.w k hh WH Dl o RE bd)))
  (h:Wd X (DH++Z s0) (m+I3 once o hh s0) W)(DK:GY first nb k hh l X.sz)(hc:l.length=count)(EY:Src DH X.sz first k hh l)(bI:0<rb/\rb<=1000000)(Qx:Dl<=1000000)
  (aa:∀i,i<PN↔i*rb<nb)(aE:PN<=min Dl nb)(nY:∀i,NC o (Ue l (i*(rb*hh)) (rb*hh)))
  (J:DC DA.gw (DH++Z s0)+min Dl nb*k+PN*X.sz<=X.rm)(EA:X.rm<=1000000)(SU:first+nb<=2000000)(bq:s0.length+count<=bd/\bd<=100000)(hn:X.N+m+nb+bd+3<=1000000):
  Calls AP 150 #[AI sb,AL #[first,nb,k,count],rb,.iface tT vT] W λe w'=>
   (e=AH ()/\∃out,NC o out/\Cl o l out/\Wd X (DH++Z (s0++out)) (m+nb+I3 once o hh (s0++out)) w')\/
   (e=AH (AA AB 6)/\¬X.cm/\∃z m',Q8 X xw bd n Z z/\Wd X (DH++z) m' w'):=by
 have Ft:=hS.len s0;have Jv:0<hh/\hh<=254:=⟨DK.hh.1,DK.hh.2.2⟩;have bo:=DK.kk;have Fh:count<=100000:=by rw[<-hc];exact DK.len
 have Lp:nb=Cr hh count:=by rw[<-hc];exact DK.bn
 have gS:nb<=count:=by rw[Lp];exact Di _ _
 have bm:count<=nb*hh:=by rw[Lp];exact Mf Jv.1 _
 obtain⟨mn,Q⟩:=al (min Dl nb);rw[Q]at aE J;obtain⟨M,hM⟩:=al (mn*k);rw[hM]at J;have a1:M<=1000000:=a5;have ab:∀W z m,Wd X (DH++z) m W->Row W sb 193 (Em X.p.w k hh WH Dl o RE bd):=λW z m h=>h.row (Df Qs);obtain⟨W1,EB⟩:=ae (W.alloc (AK #[first,nb,k,count] 28));have DV:Below W W W1:=by rw[EB];exact(AS _ _).alloc ao _
 have ER:Row W1 W 28 [first,nb,k,count]:=by rw[EB];exact heap_alloc_new _ _
 have H:Wd X (DH++Z s0++[Cs W 28 [first,nb,k,count]]) (m+I3 once o hh s0) W1:=h.new DV ER ao;have E0:=AO EB;generalize LI:W.heap.size=fb at*
 let P0:Nat->Nat->Nat->MP:=λb g sx=>⟨X,DH,Z,o,once,k,hh,bd,xw,tT,fP,vT,n,m,s0,Cs fb 28 [first,nb,k,count],b,g,M,sx,WN (rb*hh) l PN⟩
 have JB:∀b g sx,(P0 b g sx).Ok:=λb g sx=>{
  S:=hS
  kk:=bo
  M:=⟨by show (WN (rb*hh) l PN).length*k<=M;rw[RL,<-hM];exact Ae k aE,a1⟩
  len:=by show (WN (rb*hh) l PN).length<=100000;rw[RL];omega
  asc:=λl' aA=>by
   obtain⟨i,_,rfl⟩:=Az.1 aA;exact nY i
  fit:=λl' aA=>by
   obtain⟨i,_,rfl⟩:=Az.1 aA;exact cx DK.fit
  bx:=⟨rfl,rfl⟩
  bd:=by
   show s0.length+(WN (rb*hh) l PN).flatten.length<=bd;rw[S4,Ac];omega
  n:=by
   show X.N+m+DC (λl:List Cv=>Cr hh l.length) (WN (rb*hh) l PN)+bd+3<=1000000;rw[Vq Jv.1,hc,<-Lp];omega}
 have YQ:Hid (Calls AP 54 #[AI (AE ⟨X.p.a,0,AD⟩),AA AB (M:Nat)] W1.drew λe w'=>∃b g,e=AH (AM #[AI (AE ⟨b,0,AD⟩),AA AB 0])/\Wd X (DH++(Z s0++[Cs fb 28 [AA AB first,AA AB nb,AA AB k,AA AB count],Fw b g M k []])) (m+I3 once o hh s0) w'):=by
  have GZ:DC DA.gw (DH++Z s0++[Cs fb 28 [first,nb,k,count]])=DC DA.gw (DH++Z s0):=by rw[Dz];rfl
  refine(WZ (H.drewN 1) M (by rw[GZ];omega) a1).mono ?_;rintro e w' ⟨b,g,he,h3⟩;refine⟨b,g,he,?_⟩;have aC:(DH++Z s0++[Cs fb 28 [first,nb,k,count]]++[xU b g M])[(DH++Z s0++[Cs fb 28 [first,nb,k,count]]).length]?=AE (xU b g M):=by rw[AX ao,Ap];rfl
  have h5:=h3.jq aC (a':=Fw b g M k []) Uy (λ⟨q1,ws,q2,q3⟩=>⟨q1,ws,q2,q3,by simp[EL]⟩) (λ_ hk=>hk) rfl rfl (λ_ _=>trivial);rw[GP,AR,AR]at h5;exact h5
 have RP:Hid (∀b g sx W W',Wd X (DH++(Z s0++[Cs fb 28 [first,nb,k,count],Fw b g M k []])) (m+I3 once o hh s0) W->Below W W W'->Row W' sx 237 (Kc k g M M o (AJ AD 0 0))->W<=sx->(P0 b g sx).A 0 W'):=λb g sx W W' h2 hb hr hle=>by
  have h3:=h2.new hb hr hle;have aC:(DH++(Z s0++[Cs fb 28 [first,nb,k,count],Fw b g M k []])++[Cs sx 237 (Kc k g M M o (AJ AD 0 0))])[(DH++(Z s0++[Cs fb 28 [first,nb,k,count],Fw b g M k []])).length]?=AE (Cs sx 237 (Kc k g M M o (AJ AD 0 0))):=by rw[AX ao,Ap];rfl
  have h5:=h3.jq aC (a':=NS X sx k g M o (AJ AD 0 0) []) kW (λhr=>⟨hr,World.ownsRow_nil _ _ _ _⟩) (λb hk=>hk.elim id λe=>by cases e) rfl rfl (λ_ _=>trivial);rw[GP]at h5;refine⟨[],[],[],AJ AD 0 0,⟨rfl,rfl,(λu hu=>by cases hu),(λr hr=>by cases hr),(λj UM hj=>by cases hj),a8,λa=>⟨λha=>(by cases ha),λ⟨r,hr,_⟩=>(by simp at hr)⟩⟩,rfl,rfl,(λp r hr=>by simp at hr),?_⟩;have e1:(P0 b g sx).os ((P0 b g sx).Z (P0 b g sx).s0) [] ((P0 b g sx).st (AJ AD 0 0) []) []=DH++(Z s0++[Cs fb 28 [first,nb,k,count],Fw b g M k []])++[NS X sx k g M o (AJ AD 0 0) []]:=by
   show DH++Z s0++[Cs fb 28 [first,nb,k,count],Fw b g M k [],NS X sx k g M o (AJ AD 0 0) []]= _;simp
  rw[e1];exact h5
 have bL:Hid (∀os m W,Wd X os m W->Calls AP 21 #[AI X.p.w] W λe w'=>e=AH (AI X.p.a)/\w'=W):=λos m W h=>L6 h;have JZ:Hid (∀(z2:List DA) (m:Nat) (W:World),Wd X (DH++(Z s0++Cs fb 28 [first,nb,k,count]::z2)) m W->
   Row W sb 193 (Em X.p.w k hh WH Dl o RE bd)/\Row W fb 28 [first,nb,k,count]):=λz2 m W h=>⟨ab _ _ _ h,by
   rw[<-AR]at h;exact h.row (FO (j:=0) Ft)⟩
 have Dr:Hid (∀b g sx er w',(P0 b g sx).G2 er w'->(er=0/\∃out,NC o out/\Cl o l out/\Wd X (DH++Z (s0++out)) (m+nb+I3 once o hh (s0++out)) w')\/
   (er=6/\¬X.cm/\∃z m',Q8 X xw bd n Z z/\Wd X (DH++z) m' w')):=λb g sx er w' h=>by
  obtain⟨z,m',H,h2⟩:=h;have bk:nb<=PN*rb:=by
   have:=(aa PN).2;rcases Am (PN*rb) nb with h3|h3
   ·exact absurd (this h3) (Nat.lt_irrefl _)
   ·exact h3
  rcases H with⟨he,out,rfl,ha,Fh,rfl⟩|⟨he,Fu,hz⟩
  ·refine .inl ⟨he,out,ha,?_,?_⟩
   ·have h3:Cl o (WN (rb*hh) l PN).flatten out:=Fh;rw[S4,Ao]at h3
    ·exact h3
    ·rw[hc,Kj];exact Af bm (Ae hh bk)
   ·have h3:Wd X (DH++Z (s0++out)) (m+DC (λl:List Cv=>Cr hh l.length) (WN (rb*hh) l PN)+I3 once o hh (s0++out)) w':=h2;rw[Vq Jv.1,hc,<-Lp,Nat.min_eq_right bk]at h3;exact h3
  ·exact .inr ⟨he,Fu,z,m',hz,h2⟩
 have bc:Hid (∀b g sx i W F' O C',i*rb<nb->F'=first+i*rb->O=min rb (nb-i*rb)->C'=min (rb*hh) (count-i*rb*hh)->(P0 b g sx).A i W->Calls AP 157 #[AI (AE ⟨sx,0,AD⟩),AI (AE ⟨X.p.w,0,AD⟩),AL #[AA AB (F':Nat),AA AB (O:Nat),AA AB k,AA AB (C':Nat)]] W λe w'=>∃er,e=AH (AA AB er)/\((er=0/\(P0 b g sx).A (i+1) w')\/(er=6/\(P0 b g sx).No w'))):=λb g sx i W F' O C' hi hF aF hC hA=>by
  have aY:=(aa i).2 hi;have hlen:(Ue l (i*rb*hh) (rb*hh)).length=C':=by rw[RJ,hc,hC]
  have Ia:=Jl (l:=l) (pa:=i*rb) (pb:=rb) Jv.1;rw[hlen,hc,<-Lp,<-aF]at Ia;have bs:0<C':=by
   rcases A7 C' with h0|h0
   ·rw[h0,Du]at Ia;omega
   ·exact h0
  have GZ:=(JB b g sx);refine(MP.A.add (JB b g sx) (l:=Ue l (i*rb*hh) (rb*hh)) ?_ hlen ⟨bs,by rw[hC];omega⟩ DK.Pm Jv.1 Ia.symm (by rw[hF];omega) ?_ ?_ hA).mono ?_
  ·show (WN (rb*hh) l PN)[i]?= _;rw[uk aY,Kj]
  ·rw[hF];exact EY.part Jv.1 (i*rb) rb
  ·show DC DA.gw (DH++Z s0)+M+(WN (rb*hh) l PN).length*X.sz<=X.rm;rw[RL];exact J
  ·rintro e w' (⟨he,h3⟩|⟨he,h3⟩)
   ·exact⟨0,he,.inl ⟨rfl,h3⟩⟩
   ·exact⟨6,he,.inr ⟨rfl,h3⟩⟩
 have a9:Hid (∀b g sx i W a F' O C',a=i*rb->i*rb<nb->F'=first+i*rb->O=min rb (nb-i*rb)->C'=min (rb*hh) (count-i*rb*hh)->(P0 b g sx).A i W->Calls AP 151 #[AI sb,AL #[first,nb,k,count],a,rb] W λe w'=>e=AH (AL #[F',O,k,C'])/\(P0 b g sx).A i w'):=λb g sx i W a F' O C' ha hi hF aF hC hA=>by
  subst ha;obtain⟨cur,q,h,lv,hs,hq,zj,hl,hw⟩:=hA;have bp:=Jn Jv.1 count (i*rb);have hle:i*rb*hh<=count:=by
   rcases Am (i*rb*hh) count with H|H
   ·omega
   ·rw[Nat.sub_eq_zero_of_le H,Du,<-Lp]at bp;omega
  have aB:Row W sb 193 (Em X.p.w k hh WH Dl o RE bd):=by
   have GK:Wd X (DH++Z s0++((P0 b g sx).bx::Fw b g M k cur::(P0 b g sx).st lv h::q.map (jO X))) (m+i+I3 once o hh s0) W:=hw;rw[AR]at GK;exact ab _ _ _ GK
  have zR:first<=2000000/\nb<=2000000/\count<=100000000/\i*rb<=nb/\rb<=100000000/\hh<=254:=⟨a5,a5,a5,a5,a5,Jv.2⟩;have zP:=XD (pa:=i*rb) (pb:=rb) aB zR hle;rw[<-hF,<-aF,<-hC]at zP;unfold KD at zP;refine zP.mono ?_;rintro e w' ⟨he,hb⟩;exact⟨he,cur,q,h,lv,hs,hq,zj,hl,hw.below hb⟩
 have Yk:Hid (∀b g sx z cur lv h q m W,Wd X ((P0 b g sx).os z cur ((P0 b g sx).st lv h) q) m W->Row W sb 193 (Em X.p.w k hh WH Dl o RE bd)/\Row W fb 28 [first,nb,k,count]):=λb g sx z cur lv h q m W hw=>by
  have GK:Wd X (DH++z++(Cs fb 28 [first,nb,k,count]::Fw b g M k cur::(P0 b g sx).st lv h::q.map (jO X))) m W:=hw;refine⟨?_,GK.row (FO (j:=0) rfl)⟩;rw[AR]at GK;exact ab _ _ _ GK
 have pI:Hid (∀b g sx i W,(P0 b g sx).A i W->Row W sb 193 (Em X.p.w k hh WH Dl o RE bd)/\Row W fb 28 [first,nb,k,count]):=λb g sx i W hA=>by
  obtain⟨cur,q,h,lv,hs,hq,zj,hl,hw⟩:=hA;exact Yk.out _ _ _ _ _ _ _ _ _ _ hw
 have a2:Hid (∀b g sx W,(P0 b g sx).No W->Row W sb 193 (Em X.p.w k hh WH Dl o RE bd)/\Row W fb 28 [first,nb,k,count]):=λb g sx W hA=>by
  obtain⟨_,z,cur,lv,h,q,m',_,_,hw⟩:=hA;exact Yk.out _ _ _ _ _ _ _ _ _ _ hw
 have dU:Hid (∀b g sx i W W',(P0 b g sx).A i W->Below W W W'->(P0 b g sx).A i W'):=λb g sx i W W' h hb=>h.below hb;have T0:Hid (∀b g sx W,(P0 b g sx).A PN W->Calls AP 138 #[.iface 234 (AI sx),.iface tT vT] W λe w'=>(e=AH ()/\(P0 b g sx).G0 0 w')\/(e=AH (AA AB 6)/\(P0 b g sx).G0 6 w')):=λb g sx W hA=>by
  have br:(P0 b g sx).rs.length=PN:=RL;rw[<-br]at hA;obtain⟨n',hJ⟩:=hA.start (JB b g sx);refine(hJ.yh (JB b g sx)).mono ?_;rintro e w' (⟨he,h3⟩|⟨he,h3⟩)
  ·exact .inl ⟨he,h3.fin (JB b g sx)⟩
  ·exact .inr ⟨he,h3.fin⟩
 have vZ:Hid (∀b g sx W,(P0 b g sx).No W->(P0 b g sx).G0 6 W):=λb g sx W h=>h.fin;have GJ:Hid (∀b g sx er u W,(P0 b g sx).G0 er W->CallsD AP 156 #[AI sx] u W λe u' w'=>u'=u/\(e=AH (AM #[])/\(P0 b g sx).G1 er w')):=λb g sx er u W h=>MP.G0.close u h;have a7:Hid (∀b g sx er u W,(P0 b g sx).G1 er W->CallsD AP 70 #[AI (AE ⟨X.p.a,0,AD⟩),AI (AE ⟨b,0,AD⟩)] u W λe u' w'=>u'=u/\(e=AH (.bool true)/\(P0 b g sx).G2 er w')):=λb g sx er u W h=>MP.G1.release (JB b g sx) u h;have bA:=AO H;have vI:=AO (show Row W1 sb 193 (Em X.p.w k hh WH Dl o RE bd)from H.row (Df (Df Qs)));have OM:=AO ER;have bj:=AO aa;have bK:=AO hM;have bJ:=AO Q;have hmul:(mn:Int)*(k:Int)=(M:Int):=by rw[<-hM];exact(Be mn k).symm
 have Lr:(if nb<Dl then (nb:Int)else (Dl:Int))=(mn:Int):=by rw[<-Q];split<;>omega
 have b2:(if (nb:Int)<(Dl:Int)then (nb:Int)else (Dl:Int))=(mn:Int):=by rw[<-Q];split<;>omega
 have b0:nb<=100000:=a5;have bW:mn<=100000:=a5;have V9:=AO (bL.out _ _ _ (H.drewN 1));rw[show W1.drewN 1=W1.drew from rfl]at V9;clear h H DV ER EB DK EY J hn ab bm Lp aa aE nY hM Q JB hc SU bq Yk;go_enter_defers func150,ntmps150
 go_upto_region 1 with(fail)
 rw[<-E0.out];clear E0;have av:Aa.wrap (M:Int)=(M:Int):=Ah _ a5;have Xo:=YQ.out;rw[<-av]at Xo;have vV:=AO Xo;have bt:=AO av;have a4:W1.drew.cell? (sb,4)=AE (AI X.p.w):=vI.out.cell 4;have a3:W1.drew.cell? (sb,3)=AE (AA AB Dl):=vI.out.cell 3;have a0:W1.drew.cell? sb=AE (AA AB k):=vI.out.cell 0;have b1:W1.drew.cell? (fb,1)=AE (AA AB nb):=OM.out.cell 1;clear Xo YQ av;go_region_held3 (λw'=>w'.cell? (sb,4)=AE (AI X.p.w)/\w'.cell? (sb,3)=AE (AA AB Dl)/\w'.cell? sb=AE (AA AB k)/\w'.cell? (fb,1)=AE (AA AB nb)) (first|with_reducible exact⟨a4,a3,a0,b1⟩|with_reducible exact q4)
  (first
   |(go_at_call 21;(with_reducible refine V9.out.mono ?_);rintro e w4 ⟨rfl,rfl⟩)
   |(go_at_call 54;(with_reducible refine vV.out.mono ?_);rintro e w4 ⟨b,g,rfl,h4⟩;obtain⟨H4,q4⟩:Hid (Wd X (DH++(Z s0++[Cs fb 28 [first,nb,k,count],Fw b g M k []])) (m+I3 once o hh s0) w4)/\(w4.cell? (sb,4)=AE (AI X.p.w)/\w4.cell? (sb,3)=AE (AA AB Dl)/\w4.cell? sb=AE (AA AB k)/\w4.cell? (fb,1)=AE (AA AB nb)):=⟨h4,(JZ.out _ _ _ h4).1.cell 4,(JZ.out _ _ _ h4).1.cell 3,(JZ.out _ _ _ h4).1.cell 0,(JZ.out _ _ _ h4).2.cell 1⟩))
 all_goals
  rw[bt.out];have yK:=AO (bL.out _ _ _ h4);have s4:w4.cell? (sb,4)=AE (AI X.p.w):=q4.1;clear a4 a3 a0 b1 q4 vV V9 vI OM bA h4;go_wp2_with fail
  refine yK.out.mono ?_;rintro e I ⟨rfl,Hy⟩;subst Hy;clear yK s4;have ad:=H4.out.drewN 1;rw[show I.drewN 1=I.drew from rfl]at ad;have IB:=AO (JZ.out _ _ _ ad);have ar:Hid (Row I.drew b 119 [AJ g M M]):=by
   have h6:Wd X (DH++Z s0++[Cs fb 28 [first,nb,k,count],Fw b g M k []]) (m+I3 once o hh s0) I.drew:=by rw[AR];exact ad
   exact(h6.at_ (FO (j:=1) Ft)).1
  have Jt:Below I I ((I.alloc (AK #[k,AJ g M M,o.a,o.b,o.c,o.d,o.e,AJ AD 0 0] 237)).drew):=((AS I I).alloc ao _).drew;have aw:=Row.drewN (heap_alloc_new I (AK #[k,AJ g M M,o.a,o.b,o.c,o.d,o.e,AJ AD 0 0] 237):Row _ _ 237 (Kc k g M M o (AJ AD 0 0))) 1;rw[show∀w:World,w.drewN 1=w.drew from λ_=>rfl]at aw;have jJ:=AO (RP.out b g I I _ H4.out Jt aw ao);have aD:∀W,(Row W sb 193 (Em X.p.w k hh WH Dl o RE bd)/\Row W fb 28 [first,nb,k,count])->Row W b 119 [AJ g M M]->(W.cell? sb=AE (AA AB k)/\W.cell? b=AE (AJ g M M)/\W.cell? (sb,5)=AE (AA AB o.a)/\W.cell? (sb,6)=AE (AA AB o.b)/\W.cell? (sb,7)=AE (AA AB o.c)/\W.cell? (sb,8)=AE (AA AB o.d)/\W.cell? (sb,9)=AE (AA AB o.e)):=λW H h2=>⟨H.1.cell 0,h2.cell 0,H.1.cell 5,H.1.cell 6,H.1.cell 7,H.1.cell 8,H.1.cell 9⟩;have s1:=aD _ IB.out ar.out;have FU:Below I I.drew ((I.alloc (AK #[k,AJ g M M,o.a,o.b,o.c,o.d,o.e,AJ AD 0 0] 237)).drew):=by
   have h7:Below I.drew.heap.size I.drew (I.drew.alloc (AK #[k,AJ g M M,o.a,o.b,o.c,o.d,o.e,AJ AD 0 0] 237)):=(AS _ _).alloc ao _;exact h7
  have s2:=aD _ (JZ.out _ _ _ (H4.out.below Jt)) (ar.out.below FU ar.out.lt);clear aD Jt aw ad FU IB ar;go_wp2_with fail
  go_region_held3 (λW=>W.cell? sb=AE (AA AB k)/\W.cell? b=AE (AJ g M M)/\W.cell? (sb,5)=AE (AA AB o.a)/\W.cell? (sb,6)=AE (AA AB o.b)/\W.cell? (sb,7)=AE (AA AB o.c)/\W.cell? (sb,8)=AE (AA AB o.d)/\W.cell? (sb,9)=AE (AA AB o.e)) (first|with_reducible exact s1|with_reducible exact s2) (fail)
  clear s1 s2 H4;generalize(I.alloc (AK #[k,AJ g M M,o.a,o.b,o.c,o.d,o.e,AJ AD 0 0] 237)).drew=w6 at*
  generalize I.heap.size=sx at*
  have bE:=AO (a9.out b g sx);have bH:=AO (bc.out b g sx);have aI:=AO (pI.out b g sx);have bF:=AO (a2.out b g sx);have bD:=AO (T0.out b g sx);have bC:=AO (vZ.out b g sx);have aH:=AO (GJ.out b g sx);have aJ:=AO (a7.out b g sx);have pU:=AO (Dr.out b g sx);have bB:=AO (dU.out b g sx);clear a9 bc pI a2 T0 vZ GJ a7 Dr RP bL JZ dU;generalize(P0 b g sx).A=FA at*
  generalize(P0 b g sx).No=FN at*
  generalize(P0 b g sx).G0=F0 at*
  generalize(P0 b g sx).G1=F1 at*
  generalize(P0 b g sx).G2=F2 at*
  clear P0;go_wp2_with fail
  go_loopw [12] (λiv wr=>∃(i a:Nat),iv=AA AB (a:Int)/\Hid (a=i*rb)/\a<=1100000/\i<=PN/\Hid (FA i wr)) (λiv _=>nb-(BF iv).toNat)
  case atStart=>exact⟨0,0,rfl,by unfold Hid;simp,a5,a5,jJ⟩
  case round=>
   obtain⟨i,a,rfl,vn,Yf,aY,YR⟩:=hrel;clear jJ;have hR:=aI.out i wr YR.out;have t1:wr.cell? (fb,1)=AE (AA AB nb):=hR.2.cell 1;by_cases aX:a<nb
   ·have hi:i*rb<nb:=by rw[<-vn.out];exact aX
    obtain⟨F',hF⟩:=ae (first+i*rb);obtain⟨N',hN⟩:=ae (min rb (nb-i*rb));obtain⟨C',hC⟩:=ae (min (rb*hh) (count-i*rb*hh));have aK:FA i wr.drew:=bB.out i wr _ YR.out (Cz (AS _ _));have ba:=AO (bE.out i wr.drew a F' N' C' vn.out hi hF hN hC aK);have bb:=AO (λW=>bH.out i W F' N' C' hi hF hN hC);have bG:i+1<=PN:=(bj.out i).2 hi;have aG:Hid (∀W,FA i W->(W.cell? (sb,4)=AE (AI X.p.w)/\W.cell? fb=AE (AA AB first)/\W.cell? (fb,1)=AE (AA AB nb)/\W.cell? (fb,2)=AE (AA AB k)/\W.cell? (fb,3)=AE (AA AB count))):=λW h=>by
     have H:=aI.out i W h;exact⟨H.1.cell 4,H.2.cell 0,H.2.cell 1,H.2.cell 2,H.2.cell 3⟩
    have jG:Hid (∀(er:Int) W,((er=0/\FA (i+1) W)\/(er=6/\FN W))->(W.cell? (sb,4)=AE (AI X.p.w)/\W.cell? fb=AE (AA AB first)/\W.cell? (fb,1)=AE (AA AB nb)/\W.cell? (fb,2)=AE (AA AB k)/\W.cell? (fb,3)=AE (AA AB count))):=λer W h=>by
     rcases h with⟨_,h⟩|⟨_,h⟩
     ·have H:=aI.out (i+1) W h;exact⟨H.1.cell 4,H.2.cell 0,H.2.cell 1,H.2.cell 2,H.2.cell 3⟩
     ·have H:=bF.out W h;exact⟨H.1.cell 4,H.2.cell 0,H.2.cell 1,H.2.cell 2,H.2.cell 3⟩
    have s3:=aG.out _ aK;clear hF hN hC hR aK;go_wp2_with fail
    go_region_held3 (λW=>W.cell? (sb,4)=AE (AI X.p.w)/\W.cell? fb=AE (AA AB first)/\W.cell? (fb,1)=AE (AA AB nb)/\W.cell? (fb,2)=AE (AA AB k)/\W.cell? (fb,3)=AE (AA AB count)) (first|with_reducible exact s3|with_reducible exact q5|with_reducible exact q6)
     (first
      |(go_at_call 151;(with_reducible refine ba.out.mono ?_);rintro e w7 ⟨rfl,h7⟩;have q5:=aG.out w7 h7;have q6:=q5;have H7:=AO (bb.out w7 h7))
      |(go_at_call 157;(with_reducible refine H7.out.mono ?_);rintro e w8 ⟨er,rfl,h8⟩;have q6:=jG.out er w8 h8;have q5:=q6))
    all_goals
     have H8:=AO h8;clear s3 q5 q6 H7 ba bb aG jG h7 h8 YR t1;rcases H8.out with⟨rfl,U⟩|⟨rfl,U⟩
     ·have H9:=AO U;clear U H8;have Gv:Hid (a+rb=(i+1)*rb):=by unfold Hid;rw[A6,BD,<-vn.out]
      go_wp2
      go_roundw
      case rel=>exact⟨i+1,a+rb,by go_num,Gv,a5,bG,H9⟩
      case measure=>simp[BF];omega
     ·have jK:=AO (bC.out _ U);clear U H8;go_wp2
      refine Ay (f:=156) (args:=#[AI sx]) a8 (by simp[go_sem]) ?_;refine(aH.out 6 _ _ jK.out).mono ?_;rintro e u1 It ⟨rfl,rfl,JW⟩;refine Ay (f:=70) (args:=#[AI X.p.a,AI b]) (by simp[settle]) (by simp[go_sem]) ?_;refine(aJ.out 6 _ _ JW).mono ?_;rintro e u2 jN ⟨rfl,rfl,Pt⟩;refine⟨AA AB 6,by simp[results,Tryz.results150,go_sem],?_⟩;rcases pU.out 6 jN Pt with⟨Td,PT⟩|⟨Td,PT⟩
      ·exact absurd Td a6
      ·exact .inr ⟨rfl,PT⟩
   ·have bn:i=PN:=by
     rcases Am i PN with H|H
     ·exact absurd (by rw[vn.out];exact(bj.out i).1 H) aX
     ·omega
    subst bn;have bu:=AO (bD.out wr YR.out);clear YR hR;go_wp2_with fail
    refine bu.out.mono ?_;rintro e w9 (⟨rfl,U⟩|⟨rfl,U⟩)
    ·have jK:=AO U;clear U;go_wp2
     refine Ay (f:=156) (args:=#[AI sx]) a8 (by simp[go_sem]) ?_;refine(aH.out 0 _ _ jK.out).mono ?_;rintro e u1 It ⟨rfl,rfl,JW⟩;refine Ay (f:=70) (args:=#[AI X.p.a,AI b]) (by simp[settle]) (by simp[go_sem]) ?_;refine(aJ.out 0 _ _ JW).mono ?_;rintro e u2 jN ⟨rfl,rfl,Pt⟩;refine⟨AA AB 0,by simp[results,Tryz.results150,go_sem],?_⟩;rcases pU.out 0 jN Pt with⟨Td,PT⟩|⟨Td,PT⟩
     ·exact .inl ⟨rfl,PT⟩
     ·exact absurd Td a6
    ·have jK:=AO U;clear U;go_wp2
     refine Ay (f:=156) (args:=#[AI sx]) a8 (by simp[go_sem]) ?_;refine(aH.out 6 _ _ jK.out).mono ?_;rintro e u1 It ⟨rfl,rfl,JW⟩;refine Ay (f:=70) (args:=#[AI X.p.a,AI b]) (by simp[settle]) (by simp[go_sem]) ?_;refine(aJ.out 6 _ _ JW).mono ?_;rintro e u2 jN ⟨rfl,rfl,Pt⟩;refine⟨AA AB 6,by simp[results,Tryz.results150,go_sem],?_⟩;rcases pU.out 6 jN Pt with⟨Td,PT⟩|⟨Td,PT⟩
     ·exact absurd Td a6
     ·exact .inr ⟨rfl,PT⟩
end
structure JP where
 X:Cx
 DH:List DA
 Z:List Cv->List DA
 o:Cv
 once:Bool
 k:Nat
 hh:Nat
 bd:Nat
 xw:Nat
 tT:Nat
 fP:Nat
 vT:Value
 n:Nat
 m:Nat
 first:Nat
 nb:Nat
 count:Nat
 rb:Nat
 Dl:Nat
 L:Nat
 l:List Cv
structure JP.Ok (P:JP):Prop where
 S:ow P.X P.o P.once P.k P.hh P.bd P.xw P.tT P.fP P.vT P.Z P.n
 f:GY P.first P.nb P.k P.hh P.l P.X.sz
 c:P.l.length=P.count
 src:Src P.DH P.X.sz P.first P.k P.hh P.l
 rb:0<P.rb/\P.rb<=1000000
 Dl:0<P.Dl/\P.Dl<=1000000
 L:P.rb*P.Dl=P.L
 fst:P.first+P.nb<=2000000
 asc:Yo P.o (P.rb*P.hh) P.l
 room:∀s,s.length<=P.bd->DC DA.gw (P.DH++P.Z s)+P.Dl*P.k+P.Dl*P.X.sz<=P.X.rm
 rm:P.X.rm<=1000000
 bd:P.count<=P.bd/\P.bd<=100000
 n:P.X.N+P.m+P.nb+P.bd+3<=1000000
structure JP.Put (P:JP) (i:Nat) (s:List Cv):Prop where
 len:s.length=min (i*(P.L*P.hh)) P.count
 asc:Yo P.o (P.L*P.hh) s
 cl:Cl P.o (P.l.take (i*(P.L*P.hh))) s
def JP.A(P:JP)(i:Nat)(W:World):Prop:=∃s,P.Put i s/\Wd P.X (P.DH++P.Z s) (P.m+min (i*P.L) P.nb+I3 P.once P.o P.hh s) W
def JP.No(P:JP)(W:World):Prop:=¬P.X.cm/\∃z m',Q8 P.X P.xw P.bd P.n P.Z z/\Wd P.X (P.DH++z) m' W
section
variable{P:JP}{i:Nat}{W W':World}
theorem JP.A.below(h:P.A i W)(hb:Below W W W'):P.A i W':=by
 obtain⟨s,H,e⟩:=h;exact⟨s,H,e.below hb⟩
theorem ux{o q l}(h:Yo o q l)(a j n:Nat):NC o (Ue (Ue l (a*q) n) (j*q) q):=by
 have H:=h (a+j);have e:Ue (Ue l (a*q) n) (j*q) q=(((l.drop ((a+j)*q)).take q)).take (n-j*q):=by
  unfold Ue;rw[List.drop_take,Co,B7,B7,A6,Nat.min_comm]
 rw[e];exact H.sublist (List.take_sublist _ _)
theorem S7{rb nb}(h:0<rb)(i:Nat):i<(nb+rb-1)/rb↔i*rb<nb:=by
 rw[Nat.lt_div_iff_mul_lt h];omega
theorem JP.A.merge(H:P.Ok){RE}{js sb WH:Nat}(Qs:P.DH[js]?=AE (Cs sb 193 (Em P.X.p.w P.k P.hh WH P.Dl P.o RE P.bd)))(hi:i*P.L<P.nb){F' N' C'}(hF:F'=P.first+i*P.L)(hN:N'=min P.L (P.nb-i*P.L))(hC:C'=min (P.L*P.hh) (P.count-i*P.L*P.hh))(h:P.A i W):
  Calls AP 150 #[AI sb,AL #[AA AB (F':Nat),AA AB (N':Nat),AA AB P.k,AA AB (C':Nat)],AA AB P.rb,.iface P.tT P.vT] W λe w'=>∃er,e=AH (AA AB er)/\((er=0/\P.A (i+1) w')\/(er=6/\P.No w')):=by
 obtain⟨s,hp,hw⟩:=h;have Jv:=H.f.hh.1;have Lp:P.nb=Cr P.hh P.count:=by rw[<-H.c];exact H.f.bn
 have hlen:(Ue P.l (i*P.L*P.hh) (P.L*P.hh)).length=C':=by rw[RJ,H.c,hC]
 have Ia:=Jl (l:=P.l) (pa:=i*P.L) (pb:=P.L) Jv;rw[hlen,H.c,<-Lp,<-hN]at Ia;have hle:i*P.L*P.hh<P.count:=by
  have O:=Jn Jv P.count (i*P.L);rw[<-Lp]at O;rcases Am (i*P.L*P.hh) P.count with J|J
  ·exact J
  ·rw[Nat.sub_eq_zero_of_le J,Du]at O;omega
 have Q:i*(P.L*P.hh)=i*P.L*P.hh:=Kj _ _ _;have Oj:s.length=i*(P.L*P.hh):=by rw[hp.len,Q];omega
 have ab:=H.bd;have aa:=H.f.len;rw[H.c]at aa;have zV:P.nb<=P.count:=by rw[Lp];exact Di _ _
 have hn:=H.n;have SU:=H.fst;have hL:=H.L;have I:=H.rb;have ad:(N'+P.rb-1)/P.rb<=P.Dl:=by
  have O:¬P.Dl<(N'+P.rb-1)/P.rb:=λh=>by
   have J:=(S7 I.1 _).1 h;rw[B6,hL]at J;omega
  omega
 have ae:(N'+P.rb-1)/P.rb<=N':=by
  have O:¬N'<(N'+P.rb-1)/P.rb:=λh=>by
   have J:=(S7 I.1 _).1 h;have h3:=Nat.le_mul_of_pos_right N' I.1;omega
  omega
 have U:=H.room s a5;have ER:min P.Dl N'*P.k<=P.Dl*P.k:=Ae _ (Nat.min_le_left _ _);have EA:=Ae P.X.sz ad;have Kl:Wd P.X (P.DH++P.Z s) ((P.m+i*P.L)+I3 P.once P.o P.hh s) W:=by
  rw[Bh a5]at hw;exact hw
 refine(jy (PN:=(N'+P.rb-1)/P.rb) (s0:=s) H.S Qs Kl ⟨H.f.kk,H.f.hh,H.f.Pm,by rw[hlen];exact Ia.symm,by rw[hlen];omega,a5,cx H.f.fit⟩ hlen (by rw[hF];exact H.src.part Jv (i*P.L) P.L) I H.Dl.2 (λj=>S7 I.1 j) a5 (λj=>?_) a5 H.rm a5 ⟨?_,ab.2⟩ a5).mono ?_
 ·have h3:i*P.L*P.hh=(i*P.Dl)*(P.rb*P.hh):=by
   rw[<-hL];simp only[B6,Nat.mul_left_comm]
  rw[h3];exact ux H.asc _ _ _
 ·rw[Oj,Q,hC];omega
 ·rintro e w' (⟨he,out,O,J,h3⟩|⟨he,Fu,z,m',hz,h3⟩)
  ·have Pm:=J.len;rw[hlen]at Pm;have tw:(i+1)*(P.L*P.hh)=i*(P.L*P.hh)+P.L*P.hh:=by rw[A6,BD]
   refine⟨0,he,.inl ⟨rfl,s++out,⟨?_,?_,?_⟩,?_⟩⟩
   ·rw[AY,<-Pm,Oj,tw,Q,hC];omega
   ·exact YE hp.asc Oj O (by rw[<-Pm,hC];omega)
   ·rw[tw,List.take_add];refine oX hp.cl ?_;rw[Q];exact J
   ·have h4:P.m+i*P.L+N'=P.m+min ((i+1)*P.L) P.nb:=by
     rw[A6,BD];omega
    rw[h4]at h3;exact h3
  ·exact⟨6,he,.inr ⟨rfl,Fu,z,m',hz,h3⟩⟩
end
section
variable{P:JP}{W:World}{js sb WH:Nat}{RE:Bool}
theorem gB{X:Cx}{first nb k count rb Dl hh bd fb L:Nat}{o once}{FA:Nat->World->Prop}{FN:World->Prop}{tT vT}(hb:first<=2000000/\nb<=100000/\count<=100000/\rb<=1000000/\Dl<=1000000/\0<L/\L<=100000000/\hh<=254)(hL:rb*Dl=L)
  (YO:∀i W,FA i W->Row W sb 193 (Em X.p.w k hh WH Dl o once bd)/\Row W fb 28 [first,nb,k,count])(dU:∀i W W',FA i W->Below W W W'->FA i W')
  (jY:∀i,i*L<nb->i*L*hh<=count)
  (J:∀i W F' N' C',i*L<nb->F'=first+i*L->N'=min L (nb-i*L)->C'=min (L*hh) (count-i*L*hh)->FA i W->Calls AP 150 #[AI sb,AL #[AA AB (F':Nat),AA AB (N':Nat),AA AB k,AA AB (C':Nat)],AA AB rb,.iface tT vT] W λe w'=>∃er,e=AH (AA AB er)/\((er=0/\FA (i+1) w')\/(er=6/\FN w')))
  (LI:W=fb)(h:FA 0 (W.alloc (AK #[first,nb,k,count] 28))):
  Calls AP 143 #[AI sb,AL #[first,nb,k,count],rb,.iface tT vT] W λe w'=>
   (e=AH ()/\∃i,nb<=i*L/\FA i w')\/(e=AH (AA AB 6)/\FN w'):=by
 obtain⟨W1,EB⟩:=ae (W.alloc (AK #[first,nb,k,count] 28));rw[<-EB]at h;have E0:=AO EB;have HH:=AO h;have Ja:=AO (YO 0 W1 h);have hmul:(rb:Int)*(Dl:Int)=(L:Int):=by rw[<-hL];exact(Be rb Dl).symm
 have a3:W1.cell? (sb,3)=AE (AA AB Dl):=Ja.out.1.cell 3;have ar:=AO YO;have ad:=AO dU;have ao:=AO J;have al:=AO jY;have HL:=AO hL;clear EB h YO dU J hL jY;go_enter func143,ntmps143
 go_upto_region 1 with(fail)
 rw[<-E0.out];clear E0 LI;go_wp2_with fail
 clear a3;go_loopw [10] (λiv wr=>∃(i a:Nat),iv=AA AB (a:Int)/\Hid (a=i*L)/\a<=100200000/\Hid (FA i wr)) (λiv _=>nb-(BF iv).toNat)
 case atStart=>exact⟨0,0,rfl,by unfold Hid;simp,a5,HH⟩
 case round=>
  obtain⟨i,a,rfl,Q,Yf,U⟩:=hrel;clear HH Ja;have hR:=ar.out i wr U.out;obtain⟨t0,t1,t2,t3⟩:=hR.2.q4;by_cases aa:a<nb
  ·have hi:i*L<nb:=by rw[<-Q.out];exact aa
   obtain⟨F',hF⟩:=ae (first+i*L);obtain⟨N',hN⟩:=ae (min L (nb-i*L));obtain⟨C',hC⟩:=ae (min (L*hh) (count-i*L*hh));have I:Hid (Calls AP 151 #[AI sb,AL #[first,nb,k,count],a,L] wr λe w'=>e=AH (AL #[F',N',k,C'])/\FA i w'):=by
    have zR:first<=2000000/\nb<=2000000/\count<=100000000/\i*L<=nb/\L<=100000000/\hh<=254:=⟨a5,a5,a5,a5,a5,a5⟩;have zP:=XD (pa:=i*L) (pb:=L) hR.1 zR (al.out i hi);rw[<-hF,<-hN,<-hC,<-Q.out]at zP;unfold KD at zP;refine zP.mono ?_;rintro e w' ⟨he,hb⟩;exact⟨he,ad.out i wr w' U.out hb⟩
   have O:=AO (λW=>ao.out i W F' N' C' hi hF hN hC);clear hF hN hC hR U;go_wp2_with fail
   refine I.out.mono ?_;rintro e w7 ⟨rfl,h7⟩;have H7:=AO (O.out w7 h7);clear h7 I O;go_wp2_with fail
   refine H7.out.mono ?_;rintro e w8 ⟨er,rfl,h8⟩;rcases h8 with⟨rfl,h9⟩|⟨rfl,h9⟩
   ·have H9:=AO h9;clear h9 H7 t0 t1 t2 t3;have Gv:Hid (a+L=(i+1)*L):=by unfold Hid;rw[A6,BD,<-Q.out]
    go_wp2
    go_roundw
    case rel=>exact⟨i+1,a+L,by go_num,Gv,a5,H9⟩
    case measure=>simp[BF];omega
   ·have H9:=AO h9;clear h9 H7;go_wp2
    go_ret
    exact .inr ⟨rfl,H9.out⟩
  ·have H:nb<=i*L:=by rw[<-Q.out];omega
   have ab:=AO H;clear H hR;go_wp2
   go_ret
   exact .inl ⟨rfl,i,ab.out,U.out⟩
theorem qt(H:P.Ok)(Qs:P.DH[js]?=AE (Cs sb 193 (Em P.X.p.w P.k P.hh WH P.Dl P.o RE P.bd)))(aa:P.L<=100000000)(h:Wd P.X (P.DH++P.Z []) P.m W):
  Calls AP 143 #[AI sb,AL #[P.first,P.nb,P.k,P.count],P.rb,.iface P.tT P.vT] W λe w'=>
   (e=AH ()/\∃s,s.length=P.count/\Yo P.o (P.L*P.hh) s/\Cl P.o P.l s/\Wd P.X (P.DH++P.Z s) (P.m+P.nb+I3 P.once P.o P.hh s) w')\/
   (e=AH (AA AB 6)/\P.No w'):=by
 have EB:Below W W (W.alloc (AK #[P.first,P.nb,P.k,P.count] 28)):=(AS _ _).alloc ao _
 let bx:DA:=Cs W.heap.size 28 [P.first,P.nb,P.k,P.count]
 let Q:JP:={P with DH:=P.DH++[bx]}
 have WM:∀z,DC DA.gw (P.DH++[bx]++z)=DC DA.gw (P.DH++z):=λz=>by
  rw[DM,DM,DM,EI];show _+(0+0)+ _= _;omega
 have hQ:Q.Ok:={H with
  src:=H.src.app
  room:=λs hs=>by
   show DC DA.gw (P.DH++[bx]++P.Z s)+ _+ _<= _;rw[WM];exact H.room s hs}
 have ad:Q.DH[js]?=AE (Cs sb 193 (Em P.X.p.w P.k P.hh WH P.Dl P.o RE P.bd)):=Df Qs;have h1:Wd P.X (P.DH++[bx]++P.Z []) P.m (W.alloc (AK #[P.first,P.nb,P.k,P.count] 28)):=
  (h.new EB (heap_alloc_new W (AK #[P.first,P.nb,P.k,P.count] 28)) ao).front
 have JM:I3 P.once P.o P.hh []=0:=by
  have U:=Nj P.once P.o P.hh [];simp at U;exact U
 have uK:Q.A 0 (W.alloc (AK #[P.first,P.nb,P.k,P.count] 28)):=⟨[],⟨a8,λj=>by rw[List.drop_nil,List.take_nil];exact O5 _,by simp;exact Cl.refl _ _⟩,by
  show Wd P.X (P.DH++[bx]++P.Z []) (P.m+min (0*P.L) P.nb+I3 P.once P.o P.hh []) _;rw[JM,CS,Nat.zero_min];exact h1⟩
 have Jv:=H.f.hh.1;have Lp:P.nb=Cr P.hh P.count:=by rw[<-H.c];exact H.f.bn
 have Fh:=H.f.len;rw[H.c]at Fh;have gS:P.nb<=P.count:=by rw[Lp];exact Di _ _
 have ab:0<P.L:=by rw[<-H.L];exact Nat.mul_pos H.rb.1 H.Dl.1
 refine(gB (X:=P.X) (first:=P.first) (nb:=P.nb) (k:=P.k) (count:=P.count) (rb:=P.rb) (Dl:=P.Dl) (hh:=P.hh) (o:=P.o) (once:=RE) (bd:=P.bd) (WH:=WH) (FA:=Q.A) (FN:=Q.No) (L:=P.L) ⟨H.f.fst,a5,Fh,H.rb.2,H.Dl.2,ab,aa,H.f.hh.2.2⟩ H.L (λi W ⟨s,_,hw⟩=>?_) (λi W W' h hb=>h.below hb) (λi hi=>?_) (λi W F' N' C' hi hF hN hC hA=>JP.A.merge hQ ad hi hF hN hC hA) rfl uK).mono ?_
 ·have I:Wd P.X (P.DH++[bx]++P.Z s) _ W:=hw;refine⟨I.row (Df (Df Qs)),?_⟩;have Qz:(P.DH++[bx]++P.Z s)[P.DH.length]?=AE bx:=by rw[AR];exact DD P.DH _ 0
  exact I.row Qz
 ·have hi:i*P.L<P.nb:=hi;have U:=Jn Jv P.count (i*P.L);rw[<-Lp]at U;rcases Am (i*P.L*P.hh) P.count with h3|h3
  ·omega
  ·rw[Nat.sub_eq_zero_of_le h3,Du]at U;omega
 ·rintro e w' (⟨he,i,O,s,hp,hw⟩|⟨he,Fu,z,m',hz,hw⟩)
  ·have I:Wd P.X (P.DH++bx::P.Z s) (P.m+min (i*P.L) P.nb+I3 P.once P.o P.hh s) w':=by
    have UJ:Wd P.X (P.DH++[bx]++P.Z s) (P.m+min (i*P.L) P.nb+I3 P.once P.o P.hh s) w':=hw;rw[AR]at UJ;exact UJ
   have h3:=I.cut rfl rfl;rw[Nat.min_eq_right O]at h3;have Lt:P.count<=i*(P.L*P.hh):=by
    rw[Kj];refine Af (Mf Jv P.count) ?_;rw[<-Lp];exact Ae _ O
   have Hl:s.length=min (i*(P.L*P.hh)) P.count:=hp.len;have J:Cl P.o (P.l.take (i*(P.L*P.hh))) s:=hp.cl;rw[Ao (by rw[H.c];exact Lt)]at J;exact .inl ⟨he,s,by rw[Hl];omega,hp.asc,J,h3⟩
  ·have I:Wd P.X (P.DH++bx::z) m' w':=by
    have UJ:Wd P.X (P.DH++[bx]++z) m' w':=hw;rw[AR]at UJ;exact UJ
   exact .inr ⟨he,Fu,z,m',hz,I.cut rfl rfl⟩
end
structure VP where
 X:Cx
 DH:List DA
 o:Cv
 on:Bool
 k:Nat
 hh:Nat
 bd:Nat
 ob:Nat
 m:Nat
 a:Nat
 R:List Cv->Prop
def VP.bx(P:VP)(F N k C:Nat):DA:=Cs P.ob 28 [F,N,k,C]
def VP.P0(P:VP)(W:World):Prop:=Wd P.X (P.DH++[P.bx 0 0 0 0]) P.m W
def VP.P1(P:VP)(x:Nat)(W:World):Prop:=∃t,Ep t P.X.sz/\t.k=P.k/\t.h=P.hh/\t.bound=P.bd/\t.l=[]/\Wd P.X (P.DH++[P.bx 0 0 0 0]++[I1 P.X.p x t P.X.sz]) P.m W
def VP.P2(P:VP)(x:Nat)(W:World):Prop:=∃s t r,P.R s/\Ep t P.X.sz/\t.k=P.k/\t.h=P.hh/\t.l=Dp P.on P.o s/\Dn r/\Wd P.X (P.DH++[P.bx 0 0 0 0]++I1 P.X.p x t P.X.sz::r) (P.m+P.a+I3 P.on P.o P.hh s) W
def VP.P3(P:VP)(x F N C:Nat)(B:DA)(W:World):Prop:=∃s t r,P.R s/\Ep t P.X.sz/\t.k=P.k/\t.h=P.hh/\t.l=Dp P.on P.o s/\(F=DY t/\N=Cr P.hh t.l.length/\C=t.l.length)/\Dn r/\Wd P.X (P.DH++[B]++Uu P.X.p x t P.X.sz::r) (P.m+P.a+Cr P.hh t.l.length) W
def VP.P6(P:VP)(x:Nat)(W:World):Prop:=¬P.X.cm/\∃q r m',((∃t,q=Yu P.X.p x t)\/∃t,q=I1 P.X.p x t P.X.sz/\Ep t P.X.sz)/\Dn r/\Wd P.X (P.DH++[P.bx 0 0 0 0]++q::r) m' W
def VP.P7(P:VP)(W:World):Prop:=¬P.X.cm/\∃r m',Dn r/\Wd P.X (P.DH++[P.bx 0 0 0 0]++r) m' W
section
variable{P:VP}{x:Nat}{W W':World}
theorem VP.P0.below(h:P.P0 W)(hb:Below W W W'):P.P0 W':=Wd.below h hb
theorem NZ{B z}:(P.DH++[B]++z)[P.DH.length]?=AE B:=by rw[AR];exact DD P.DH _ 0
theorem dI{B q r}:(P.DH++[B]++q::r)[P.DH.length+1]?=AE q:=by
 have h:=DD (P.DH++[B]) (q::r) 0;rw[AY]at h;exact h
theorem ZI{B q q' r}:(P.DH++[B]++q::r).set (P.DH.length+1) q'=P.DH++[B]++q'::r:=by
 rw[As _ _ (by rw[AY];show P.DH.length+1<= _;omega),AY];show _++(q::r).set (P.DH.length+1-(P.DH.length+1)) q'= _;rw[Ap];rfl
theorem ZL{B B' z}:(P.DH++[B]++z).set P.DH.length B'=P.DH++[B']++z:=by
 rw[AR,As _ _ ao,Ap,AR];rfl
theorem VP.P0.write(U:P.hh=Ct P.X.sz P.k)(Gh:0<P.hh)(J:P.bd<=100000)(H:P.X.sz+DC DA.gw P.DH<=P.X.rm)(h:P.P0 W):
  Calls AP 28 #[AI (AE ⟨P.X.p.w,0,AD⟩),P.k,P.bd] W λe w'=>(e=AH (AM #[AI AD,AA AB 5])/\(∀q,¬Rm P.X P.DH q (Cr P.hh P.bd))/\P.P0 w')\/(∃x,e=AH (AM #[AI (AE ⟨x,0,AD⟩),()])/\P.P1 x w'):=by
 have hg:DC DA.gw (P.DH++[P.bx 0 0 0 0])=DC DA.gw P.DH:=by rw[Dz];rfl
 refine(ON h P.k P.bd (by rw[<-U];exact Gh) J (by rw[hg];exact H)).mono ?_;rintro e w' (⟨he,Q,O⟩|⟨x,t,he,Q,O,h3,h4,h5,h6⟩)
 ·refine .inl ⟨he,λq hq=>Q q λz Ew Js=>?_,O⟩;rw[<-U]at Js;obtain⟨k1,k2⟩:=hq z Ew Js;refine⟨k1,λi a hi I=>?_⟩;rcases G7 hi with⟨_,e⟩|⟨_,e⟩
  ·rw[e]at I;exact DT _ _ I
  ·exact k2 i a e I
 ·exact .inr ⟨x,he,t,h5,Q,by rw[O,U],h3,h4,h6⟩
theorem bP{t}(h:t.l=[]):TV t []=t:=by
 unfold TV;rw[<-h]
def VP.jM(P:VP)(fF:Nat)(fs:Array Value):Prop:=∀(x tT fP n:Nat) (vT:Value) (Z:List Cv->List DA) (W:World),ow P.X P.o P.on P.k P.hh P.bd x tT fP vT Z n->Wd P.X (P.DH++[P.bx 0 0 0 0]++Z []) P.m W->
 Calls AP fF (#[.iface tT vT]++fs) W λe w'=>(e=AH ()/\∃s,P.R s/\s.length<=P.bd/\Wd P.X (P.DH++[P.bx 0 0 0 0]++Z s) (P.m+P.a+I3 P.on P.o P.hh s) w')\/(e=AH (AA AB 6)/\¬P.X.cm/\∃z m',Q8 P.X x P.bd n Z z/\Wd P.X (P.DH++[P.bx 0 0 0 0]++z) m' w')
theorem X5{fF tT fP n fs vT Z}(hF:P.jM fF fs)(hS:ow P.X P.o P.on P.k P.hh P.bd x tT fP vT Z n)(h:Wd P.X (P.DH++[P.bx 0 0 0 0]++Z []) P.m W):
  Calls AP fF (#[.iface tT vT]++fs) W λe w'=>∃er,e=AH (AA AB er)/\((er=0/\P.P2 x w')\/(er=6/\P.P6 x w')):=by
 refine(hF x tT fP n vT Z W hS h).mono ?_;rintro e w' (⟨he,s,hR,H,hw⟩|⟨he,U,z,m',hz,hw⟩)
 ·obtain⟨t,r,O,J,Q,h3,h4,h5,I⟩:=hS.hd s H;rw[O]at hw;exact⟨0,he,.inl ⟨rfl,s,t,r,hR,J,Q,h3,h5,I,hw⟩⟩
 ·rcases hz with⟨s,H,rfl⟩|⟨t,r,rfl,hl,hb⟩
  ·obtain⟨t,r,O,J,Q,h3,h4,h5,I⟩:=hS.hd s H;rw[O]at hw;exact⟨6,he,.inr ⟨rfl,U,_,r,m',.inr ⟨t,rfl,J⟩,I,hw⟩⟩
  ·exact⟨6,he,.inr ⟨rfl,U,_,r,m',.inl ⟨t,rfl⟩,hb,hw⟩⟩
theorem VP.P1.AL2{fF fs}(hF:P.jM fF fs)(H:P.on=false)(h:P.P1 x W):Calls AP fF (#[.iface 65 (AI x)]++fs) W λe w'=>∃er,e=AH (AA AB er)/\((er=0/\P.P2 x w')\/(er=6/\P.P6 x w')):=by
 obtain⟨t,O,J,h3,h4,h5,I⟩:=h;have hS:=AE6 (X:=P.X) (o:=P.o) (x:=x) O;rw[J,h3,h4,<-H]at hS;refine X5 hF hS ?_;show Wd P.X (P.DH++[P.bx 0 0 0 0]++[I1 P.X.p x (TV t []) P.X.sz]) P.m W;rw[bP h5];exact I
theorem VP.P1.AL1{fF f fs}(hF:P.jM fF fs)(I:P.on=true)(h:P.P1 x W)(hb:Below W.heap.size W W')(J:Row W' f 220 (MZ x P.o false Cu))(hf:W.heap.size<=f):Calls AP fF (#[.iface 218 (AI f)]++fs) W' λe w'=>∃er,e=AH (AA AB er)/\((er=0/\P.P2 x w')\/(er=6/\P.P6 x w')):=by
 obtain⟨t,U,Q,h3,h4,h5,O⟩:=h;have hS:=AE7 (X:=P.X) (o:=P.o) (x:=x) (f:=f) U;rw[Q,h3,h4,<-I]at hS;refine X5 hF hS ?_;have H:=O.new hb J hf;show Wd P.X (P.DH++[P.bx 0 0 0 0]++[I1 P.X.p x (TV t []) P.X.sz,Cs f 220 (Vn x P.o [])]) P.m W';rw[bP h5];rw[AR]at H;exact H
theorem VP.P2.close(h:P.P2 x W)(O:∀s,P.R s->P.X.N+(P.m+P.a+I3 P.on P.o P.hh s)<1000000):
  Calls AP 31 #[AI x] W λe w'=>(∃F N C:Nat,e=AH (AM #[AL #[F,N,P.k,C],()])/\P.P3 x F N C (P.bx 0 0 0 0) w')\/(e=AH (AM #[AL #[(),(),(),()],AA AB 6])/\P.P6 x w'):=by
 obtain⟨s,t,r,hR,J,I,h3,h4,h5,U⟩:=h;refine(OR U dI J (O s hR)).mono ?_;rintro e w' (⟨he,H⟩|⟨he,Fu,H⟩)
 ·rw[ZI]at H;refine .inl ⟨DY t,Cr t.h t.l.length,t.l.length,by rw[he,I];rfl,s,t,r,hR,J,I,h3,h4,⟨rfl,by rw[h3],rfl⟩,h5,?_⟩;have hle:t.l.length/t.h<=Cr t.h t.l.length:=by unfold Cr;split<;>omega
  have Q:I3 P.on P.o P.hh s=t.l.length/t.h:=by unfold I3;rw[h4,h3]
  rw[Q]at H;rw[show P.m+P.a+t.l.length/t.h+(Cr t.h t.l.length-t.l.length/t.h)=P.m+P.a+Cr t.h t.l.length by omega,h3]at H;exact H
 ·rw[ZI]at H;exact .inr ⟨he,Fu,_,r,_,.inl ⟨t,rfl⟩,h5,H⟩
theorem VP.P3.drop{F N C B}(u:Bf)(h:P.P3 x F N C B W):CallsD AP 29 #[AI x] u W λe H w'=>H=u/\(e=AH (AM #[])/\P.P3 x F N C B w'):=by
 obtain⟨s,t,r,hR,U,Q,h3,h4,h5,O,I⟩:=h;have J:Nb W x P.X.p t:=I.at_ dI;refine(E8 J u).mono ?_;rintro e H w' ⟨hu,he,hw⟩;exact⟨hu,he,s,t,r,hR,U,Q,h3,h4,h5,O,by rw[hw];exact I⟩
theorem VP.P6.drop(u:Bf)(h:P.P6 x W):CallsD AP 29 #[AI x] u W λe I w'=>I=u/\(e=AH (AM #[])/\P.P7 w'):=by
 obtain⟨J,q,r,m',O,hb,hw⟩:=h;rcases O with⟨t,rfl⟩|⟨t,rfl,ht⟩
 ·have Q:Nb W x P.X.p t:=hw.at_ dI;refine(E8 Q u).mono ?_;rintro e I w' ⟨hu,he,H⟩;exact⟨hu,he,J,_,m',DF ⟨rfl,rfl⟩ hb,by rw[H];exact hw⟩
 ·refine(Uw hw dI ht u).mono ?_;rintro e I w' ⟨hu,he,H⟩;rw[ZI]at H;exact⟨hu,he,J,_,m',DF ⟨rfl,rfl⟩ hb,H⟩
theorem Ih{W b c0 c1 c2 c3}{F N k C:Nat}(e:Row W b 28 [c0,c1,c2,c3]):Row ((((W.setCell b F).setCell (b,1) N).setCell (b,2) k).setCell (b,3) C) b 28 [F,N,k,C]/\
  DG (λk=>k=b) W ((((W.setCell b F).setCell (b,1) N).setCell (b,2) k).setCell (b,3) C):=
 ⟨(((e.set 0 _).set 1 _).set 2 _).set 3 _,((((DG.refl (λk=>k=b) W).set (p:=⟨b,0,AD⟩) (.inl rfl) _).set (p:=⟨b,1,AD⟩) (.inl rfl) _).set (p:=⟨b,2,AD⟩) (.inl rfl) _).set (p:=⟨b,3,AD⟩) (.inl rfl) _⟩
theorem VP.P3.store{F N C}(h:P.P3 x F N C (P.bx 0 0 0 0) W)(hw:W'=((((W.setCell P.ob F).setCell (P.ob,1) N).setCell (P.ob,2) P.k).setCell (P.ob,3) C)):P.P3 x F N C (P.bx F N P.k C) W':=by
 obtain⟨s,t,r,hR,U,Q,h3,h4,h5,O,H⟩:=h;obtain⟨J,I⟩:=Ih (F:=F) (N:=N) (k:=P.k) (C:=C) (H.row NZ);have e:=H.Nn NZ a6 I J;rw[ZL]at e;subst hw;exact⟨s,t,r,hR,U,Q,h3,h4,h5,O,e⟩
theorem VP.P6.store(h:P.P6 x W)(hw:W'=((((W.setCell P.ob ()).setCell (P.ob,1) ()).setCell (P.ob,2) ()).setCell (P.ob,3) ())):P.P6 x W':=by
 obtain⟨Q,q,r,m',O,hb,H⟩:=h;obtain⟨J,I⟩:=Ih (F:=0) (N:=0) (k:=0) (C:=0) (H.row NZ);have e:=H.Nn NZ a6 I J;rw[ZL]at e;subst hw;exact⟨Q,q,r,m',O,hb,e⟩
theorem VP.P0.store(h:P.P0 W)(hw:W'=((((W.setCell P.ob ()).setCell (P.ob,1) ()).setCell (P.ob,2) ()).setCell (P.ob,3) ())):P.P0 W':=by
 have H:Wd P.X (P.DH++[P.bx 0 0 0 0]++[]) P.m W:=by rw[AZ];exact h
 obtain⟨J,I⟩:=Ih (F:=0) (N:=0) (k:=0) (C:=0) (H.row NZ);have e:=H.Nn NZ a6 I J;rw[ZL,AZ]at e;subst hw;exact e
end
section
variable{P:VP}{W:World}{js sb rb Dl fF:Nat}{once UI:Bool}{fs:Array Value}
theorem T4(Qs:P.DH[js]?=AE (Cs sb 193 (Em P.X.p.w P.k P.hh rb Dl P.o once P.bd)))(gM:(UI&&once)=P.on)(hF:P.jM fF fs)(eF:∀args w,Br AP (callFunc fF args) w=.ok (.enter fF args) w)
  (LU:P.hh=Ct P.X.sz P.k)(Gh:0<P.hh)(aE:P.bd<=100000)(ar:P.X.sz+DC DA.gw P.DH<=P.X.rm)(hn:∀s,P.R s->P.X.N+(P.m+P.a+I3 P.on P.o P.hh s)<1000000)(aA:W=P.ob)(h:Wd P.X P.DH P.m W):
  Calls AP 139 #[AI sb,UI,.func (.func fF) #[] fs] W λe w'=>
   (e=AH (AM #[AL #[(),(),(),()],AA AB 5])/\(∀q,¬Rm P.X P.DH q (Cr P.hh P.bd))/\Wd P.X P.DH P.m w')\/
   (∃x F N C:Nat,e=AH (AM #[AL #[F,N,P.k,C],()])/\∃s t,P.R s/\Ep t P.X.sz/\t.k=P.k/\t.h=P.hh/\t.l=Dp P.on P.o s/\(F=DY t/\N=Cr P.hh t.l.length/\C=t.l.length)/\Wd P.X (P.DH++[Uu P.X.p x t P.X.sz]) (P.m+P.a+Cr P.hh t.l.length) w')\/
   (e=AH (AM #[AL #[(),(),(),()],AA AB 6])/\¬P.X.cm/\∃m',Wd P.X P.DH m' w'):=by
 obtain⟨W1,EB⟩:=ae (W.alloc (AK #[(),(),(),()] 28));have DV:Below W W W1:=by rw[EB];exact(AS _ _).alloc ao _
 have ER:Row W1 P.ob 28 [(),(),(),()]:=by rw[EB,<-aA];exact heap_alloc_new _ _
 have h1:P.P0 W1:=h.new DV ER (by rw[aA];exact AQ _);have Yk:Hid (∀(z:List DA) m W,Wd P.X (P.DH++z) m W->Row W sb 193 (Em P.X.p.w P.k P.hh rb Dl P.o once P.bd)):=λz m W h=>h.row (Df Qs);have LK:Hid (∀W,P.P0 W->Row W sb 193 (Em P.X.p.w P.k P.hh rb Dl P.o once P.bd)):=λW h=>Yk.out _ _ _ h;have Ja:Hid (∀x W,P.P1 x W->Row W sb 193 (Em P.X.p.w P.k P.hh rb Dl P.o once P.bd)):=λx W ⟨t,_,_,_,_,_,h⟩=>by rw[AR]at h;exact Yk.out _ _ _ h
 have K9:Hid (∀W,P.P0 W->Row W P.ob 28 [(),(),(),()]):=λW h=>by
  have h7:Wd P.X (P.DH++[P.bx 0 0 0 0]++[]) P.m W:=by rw[AZ];exact h
  exact h7.row NZ
 have Ei:Hid (∀x F N C B cs W,B=Cs P.ob 28 cs->P.P3 x F N C B W->Row W P.ob 28 cs):=λx F N C B cs W hB ⟨s,t,r,_,_,_,_,_,_,_,h⟩=>by
  rw[hB]at h;exact h.row NZ
 have JO:Hid (∀x W,P.P6 x W->Row W P.ob 28 [(),(),(),()]):=λx W ⟨_,q,r,m',_,_,h⟩=>h.row NZ;have dS:Hid (∀W,P.P7 W->Row W P.ob 28 [(),(),(),()]):=λW ⟨_,r,m',_,h⟩=>h.row NZ;have Ty:Hid (Calls AP 28 #[AI (AE ⟨P.X.p.w,0,AD⟩),AA AB P.k,AA AB P.bd] W1.drew λe w'=>∃v er,e=AH (AM #[AI v,AA AB er])/\((v=AD/\er=5/\(∀q,¬Rm P.X P.DH q (Cr P.hh P.bd))/\P.P0 w')\/∃x,v=AE ⟨x,0,AD⟩/\er=0/\P.P1 x w')/\Row w' sb 193 (Em P.X.p.w P.k P.hh rb Dl P.o once P.bd)):=by
  refine(VP.P0.write (W:=W1.drew) LU Gh aE ar (h1.below (Cz (AS _ _)))).mono ?_;rintro e w' (⟨he,h2,h3⟩|⟨x,he,h2⟩)
  ·exact⟨AD,5,he,.inl ⟨rfl,rfl,h2,h3⟩,LK.out _ h3⟩
  ·exact⟨_,0,he,.inr ⟨x,rfl,rfl,h2⟩,Ja.out _ _ h2⟩
 have aG:Hid (∀x W,P.on=false->P.P1 x W->Calls AP fF (#[.iface 65 (AI (AE ⟨x,0,AD⟩))]++fs) W λe w'=>∃er,e=AH (AA AB er)/\((er=0/\P.P2 x w')\/(er=6/\P.P6 x w'))):=λx W ho h=>h.AL2 hF ho;have aF:Hid (∀x W,P.on=true->P.P1 x W->Calls AP fF (#[.iface 218 (AI (AE ⟨W.heap.size,0,AD⟩))]++fs) (W.alloc (.cells (MZ x P.o false Cu).toArray 220)) λe w'=>∃er,e=AH (AA AB er)/\((er=0/\P.P2 x w')\/(er=6/\P.P6 x w'))):=λx W ho h=>h.AL1 hF ho ((AS _ _).alloc ao _) (heap_alloc_new _ _) ao;have jF:Hid (∀x W,P.P2 x W->Calls AP 31 #[AI x] W λe w'=>(∃F N C:Nat,e=AH (AM #[AL #[F,N,P.k,C],()])/\P.P3 x F N C (P.bx 0 0 0 0) w')\/(e=AH (AM #[AL #[(),(),(),()],AA AB 6])/\P.P6 x w')):=λx W h=>h.close hn;have aB:Hid (∀x F N C B u W,P.P3 x F N C B W->CallsD AP 29 #[AI x] u W λe u' w'=>u'=u/\(e=AH (AM #[])/\P.P3 x F N C B w')):=λx F N C B u W h=>h.drop u;have yI:Hid (∀x u W,P.P6 x W->CallsD AP 29 #[AI x] u W λe u' w'=>u'=u/\(e=AH (AM #[])/\P.P7 w')):=λx u W h=>h.drop u;have dO:Hid (∀x F N C W,P.P3 x F N C (P.bx 0 0 0 0) W->P.P3 x F N C (P.bx F N P.k C) ((((W.setCell P.ob F).setCell (P.ob,1) N).setCell (P.ob,2) P.k).setCell (P.ob,3) C)):=λx F N C W h=>h.store rfl;have av:Hid (∀x W,P.P6 x W->P.P6 x ((((W.setCell P.ob ()).setCell (P.ob,1) ()).setCell (P.ob,2) ()).setCell (P.ob,3) ())):=λx W h=>h.store rfl;have Qe:Hid (∀W,P.P0 W->P.P0 ((((W.setCell P.ob ()).setCell (P.ob,1) ()).setCell (P.ob,2) ()).setCell (P.ob,3) ())):=λW h=>h.store rfl;have aI:Hid (∀W,P.P0 W->Wd P.X P.DH P.m W):=λW h=>Wd.forget h (DF (G3 _ _ _) Ea);have pV:Hid (∀x F N C W,P.P3 x F N C (P.bx F N P.k C) W->∃s t,P.R s/\Ep t P.X.sz/\t.k=P.k/\t.h=P.hh/\t.l=Dp P.on P.o s/\(F=DY t/\N=Cr P.hh t.l.length/\C=t.l.length)/\Wd P.X (P.DH++[Uu P.X.p x t P.X.sz]) (P.m+P.a+Cr P.hh t.l.length) W):=λx F N C W ⟨s,t,r,h1,h2,h3,h4,h5,h6,h7,h8⟩=>by
  have J:Wd P.X (P.DH++P.bx F N P.k C::([Uu P.X.p x t P.X.sz]++r)) (P.m+P.a+Cr P.hh t.l.length) W:=by rw[AR]at h8;exact h8
  have OJ:=J.cut rfl rfl;rw[<-AR]at OJ;exact⟨s,t,h1,h2,h3,h4,h5,h6,OJ.forget h7⟩
 have aw:Hid (∀W,P.P7 W->¬P.X.cm/\∃m',Wd P.X P.DH m' W):=λW ⟨Fu,r,m',hb,h⟩=>by
  have J:Wd P.X (P.DH++P.bx 0 0 0 0::r) m' W:=by rw[AR]at h;exact h
  exact⟨Fu,m',(J.cut rfl rfl).forget hb⟩
 have o9:=AO (LK.out _ (h1.below (Cz (AS _ _))));have E0:=AO EB;have wV:=AO gM;have Nz:Hid (∀F N C:Nat,P.bx F N P.k C=Cs P.ob 28 [AA AB (F:Nat),AA AB (N:Nat),AA AB (P.k:Nat),AA AB (C:Nat)]):=λ_ _ _=>rfl;clear EB DV ER h hF LU Gh ar hn Yk Qs gM;go_enter_defers func139,ntmps139
 go_upto_region 1 with(fail)
 rw[<-E0.out];clear E0;have a4:W1.drew.cell? (sb,4)=AE (AI P.X.p.w):=o9.out.cell 4;obtain⟨a0,-,-,-,-,-,-,-,-,-,-,aC⟩:=o9.out.q12;clear h1 o9 aA;go_region_held3 (λw'=>w'.cell? (sb,4)=AE (AI P.X.p.w)/\w'.cell? sb=AE (AA AB P.k)/\w'.cell? (sb,11)=AE (AA AB P.bd)) (first|with_reducible exact⟨a4,a0,aC⟩|with_reducible exact U)
  ((go_at_call 28;(with_reducible refine Ty.out.mono ?_);rintro e w2 ⟨v,er,rfl,h2,EA⟩;obtain⟨H2,U⟩:Hid ((v=AD/\er=5/\(∀q,¬Rm P.X P.DH q (Cr P.hh P.bd))/\P.P0 w2)\/∃x,v=AE ⟨x,0,AD⟩/\er=0/\P.P1 x w2)/\(w2.cell? ⟨sb,4,AD⟩=AE (AI (AE ⟨P.X.p.w,0,AD⟩))/\w2.cell? ⟨sb,0,AD⟩=AE (AA AB P.k)/\w2.cell? ⟨sb,11,AD⟩=AE (AA AB P.bd)):=⟨h2,EA.cell 4,EA.cell 0,EA.cell 11⟩))
 clear a4 a0 aC U h2 EA Ty;rcases H2.out with⟨rfl,rfl,MN,h2⟩|⟨x,rfl,rfl,h2⟩
 ·generalize w2=H at*
  have I:=K9.out H h2;have g9:H.cell? P.ob=AE (AA AB 0)/\H.cell? (P.ob,1)=AE (AA AB 0)/\H.cell? (P.ob,2)=AE (AA AB 0)/\H.cell? (P.ob,3)=AE (AA AB 0):=⟨I.cell 0,I.cell 1,I.cell 2,I.cell 3⟩;have f9:H.frozen? P.ob=false/\H.frozen? (P.ob,1)=false/\H.frozen? (P.ob,2)=false/\H.frozen? (P.ob,3)=false:=⟨I.free 0,I.free 1,I.free 2,I.free 3⟩;obtain⟨uR,uQ,uP,uO⟩:=g9;obtain⟨al,ad,ab,aa⟩:=f9;have H9:=AO (Qe.out H h2);have aH:=AO MN;clear h2 I H2 MN;go_wp2
  generalize((((H.setCell P.ob ()).setCell (P.ob,1) ()).setCell (P.ob,2) ()).setCell (P.ob,3) ())=Lf at*
  have WE:=K9.out Lf H9.out;obtain⟨q0,q1,U,q3⟩:=WE.q4;exact⟨AM #[AL #[(),(),(),()],AA AB 5],by simp[results,Ca,go_sem,q0,q1,U,q3],.inl ⟨rfl,aH.out,aI.out Lf H9.out⟩⟩
 ·have Ur:=AO h2;have aJ:w2.cell? ⟨sb,10,AD⟩=AE (.bool once):=(Ja.out x w2 h2).cell 10;have o0:w2.cell? ⟨sb,5,AD⟩=AE (AA AB P.o.a):=(Ja.out x w2 h2).cell 5;have o1:w2.cell? ⟨sb,6,AD⟩=AE (AA AB P.o.b):=(Ja.out x w2 h2).cell 6;have o2:w2.cell? ⟨sb,7,AD⟩=AE (AA AB P.o.c):=(Ja.out x w2 h2).cell 7;have o3:w2.cell? ⟨sb,8,AD⟩=AE (AA AB P.o.d):=(Ja.out x w2 h2).cell 8;have o4:w2.cell? ⟨sb,9,AD⟩=AE (AA AB P.o.e):=(Ja.out x w2 h2).cell 9;clear h2 H2;have aK:Hid (∀w3 er,((er=0/\P.P2 x w3)\/(er=6/\P.P6 x w3))->True):=λ_ _ _=>trivial;by_cases zS:P.on=true
  ·have h3:UI=true/\once=true:=by have:=wV.out;rw[zS]at this;simpa using this
   obtain⟨rfl,rfl⟩:=h3;have HG:=AO (aF.out x w2 zS Ur.out);go_wp2_with fail
   refine HG.out.mono ?_;rintro e w8 ⟨er,rfl,h8⟩;rcases h8 with⟨rfl,J⟩|⟨rfl,J⟩
   ·have GJ:=AO (jF.out x w8 J);clear J HG;go_wp2_with fail
    refine GJ.out.mono ?_;rintro e H (⟨F,N,C,rfl,J⟩|⟨rfl,J⟩)
    ·clear GJ;have I:=Ei.out x F N C _ _ H rfl J;have g9:H.cell? P.ob=AE (AA AB 0)/\H.cell? (P.ob,1)=AE (AA AB 0)/\H.cell? (P.ob,2)=AE (AA AB 0)/\H.cell? (P.ob,3)=AE (AA AB 0):=⟨I.cell 0,I.cell 1,I.cell 2,I.cell 3⟩;have f9:H.frozen? P.ob=false/\H.frozen? (P.ob,1)=false/\H.frozen? (P.ob,2)=false/\H.frozen? (P.ob,3)=false:=⟨I.free 0,I.free 1,I.free 2,I.free 3⟩;obtain⟨uR,uQ,uP,uO⟩:=g9;obtain⟨al,ad,ab,aa⟩:=f9;have H9:=AO (dO.out x F N C H J);clear J I;go_wp2
     generalize((((H.setCell P.ob F).setCell (P.ob,1) N).setCell (P.ob,2) P.k).setCell (P.ob,3) C)=Lf at*
     refine Ay (f:=29) (args:=#[AI x]) a8 (by simp[go_sem]) ?_;refine(aB.out x F N C _ _ _ H9.out).mono ?_;rintro e u1 Q ⟨rfl,rfl,O⟩;have WE:=Ei.out x F N C _ _ Q (Nz.out F N C) O;obtain⟨q0,q1,U,q3⟩:=WE.q4;refine⟨AM #[AL #[F,N,P.k,C],()],by simp[results,Ca,go_sem,q0,q1,U,q3],?_⟩;exact .inr (.inl ⟨x,F,N,C,rfl,pV.out x F N C Q O⟩)
    ·clear GJ;have I:=JO.out x H J;have g9:H.cell? P.ob=AE (AA AB 0)/\H.cell? (P.ob,1)=AE (AA AB 0)/\H.cell? (P.ob,2)=AE (AA AB 0)/\H.cell? (P.ob,3)=AE (AA AB 0):=⟨I.cell 0,I.cell 1,I.cell 2,I.cell 3⟩;have f9:H.frozen? P.ob=false/\H.frozen? (P.ob,1)=false/\H.frozen? (P.ob,2)=false/\H.frozen? (P.ob,3)=false:=⟨I.free 0,I.free 1,I.free 2,I.free 3⟩;obtain⟨uR,uQ,uP,uO⟩:=g9;obtain⟨al,ad,ab,aa⟩:=f9;have H9:=AO (av.out x H J);clear J I;go_wp2
     generalize((((H.setCell P.ob ()).setCell (P.ob,1) ()).setCell (P.ob,2) ()).setCell (P.ob,3) ())=Lf at*
     refine Ay (f:=29) (args:=#[AI x]) a8 (by simp[go_sem]) ?_;refine(yI.out x _ _ H9.out).mono ?_;rintro e u1 Q ⟨rfl,rfl,O⟩;have WE:=dS.out Q O;obtain⟨q0,q1,U,q3⟩:=WE.q4;refine⟨AM #[AL #[(),(),(),()],AA AB 6],by simp[results,Ca,go_sem,q0,q1,U,q3],?_⟩;exact .inr (.inr ⟨rfl,aw.out Q O⟩)
   ·clear HG;generalize w8=H at*
    have I:=JO.out x H J;have g9:H.cell? P.ob=AE (AA AB 0)/\H.cell? (P.ob,1)=AE (AA AB 0)/\H.cell? (P.ob,2)=AE (AA AB 0)/\H.cell? (P.ob,3)=AE (AA AB 0):=⟨I.cell 0,I.cell 1,I.cell 2,I.cell 3⟩;have f9:H.frozen? P.ob=false/\H.frozen? (P.ob,1)=false/\H.frozen? (P.ob,2)=false/\H.frozen? (P.ob,3)=false:=⟨I.free 0,I.free 1,I.free 2,I.free 3⟩;obtain⟨uR,uQ,uP,uO⟩:=g9;obtain⟨al,ad,ab,aa⟩:=f9;have H9:=AO (av.out x H J);clear J I;go_wp2
    generalize((((H.setCell P.ob ()).setCell (P.ob,1) ()).setCell (P.ob,2) ()).setCell (P.ob,3) ())=Lf at*
    refine Ay (f:=29) (args:=#[AI x]) a8 (by simp[go_sem]) ?_;refine(yI.out x _ _ H9.out).mono ?_;rintro e u1 Q ⟨rfl,rfl,O⟩;have WE:=dS.out Q O;obtain⟨q0,q1,U,q3⟩:=WE.q4;refine⟨AM #[AL #[AA AB 0,AA AB 0,AA AB 0,AA AB 0],AA AB 6],by simp[results,Ca,go_sem,q0,q1,U,q3],?_⟩;exact .inr (.inr ⟨rfl,aw.out Q O⟩)
  ·have aD:P.on=false:=by simpa using zS
   have HG:=AO (aG.out x w2 aD Ur.out)
   cases UI
   ·go_wp2_with fail
    refine HG.out.mono ?_;rintro e w8 ⟨er,rfl,h8⟩;rcases h8 with⟨rfl,J⟩|⟨rfl,J⟩
    ·have GJ:=AO (jF.out x w8 J);clear J HG;go_wp2_with fail
     refine GJ.out.mono ?_;rintro e H (⟨F,N,C,rfl,J⟩|⟨rfl,J⟩)
     ·clear GJ;have I:=Ei.out x F N C _ _ H rfl J;have g9:H.cell? P.ob=AE (AA AB 0)/\H.cell? (P.ob,1)=AE (AA AB 0)/\H.cell? (P.ob,2)=AE (AA AB 0)/\H.cell? (P.ob,3)=AE (AA AB 0):=⟨I.cell 0,I.cell 1,I.cell 2,I.cell 3⟩;have f9:H.frozen? P.ob=false/\H.frozen? (P.ob,1)=false/\H.frozen? (P.ob,2)=false/\H.frozen? (P.ob,3)=false:=⟨I.free 0,I.free 1,I.free 2,I.free 3⟩;obtain⟨uR,uQ,uP,uO⟩:=g9;obtain⟨al,ad,ab,aa⟩:=f9;have H9:=AO (dO.out x F N C H J);clear J I;go_wp2
      generalize((((H.setCell P.ob F).setCell (P.ob,1) N).setCell (P.ob,2) P.k).setCell (P.ob,3) C)=Lf at*
      refine Ay (f:=29) (args:=#[AI x]) a8 (by simp[go_sem]) ?_;refine(aB.out x F N C _ _ _ H9.out).mono ?_;rintro e u1 Q ⟨rfl,rfl,O⟩;have WE:=Ei.out x F N C _ _ Q (Nz.out F N C) O;obtain⟨q0,q1,U,q3⟩:=WE.q4;refine⟨AM #[AL #[F,N,P.k,C],()],by simp[results,Ca,go_sem,q0,q1,U,q3],?_⟩;exact .inr (.inl ⟨x,F,N,C,rfl,pV.out x F N C Q O⟩)
     ·clear GJ;have I:=JO.out x H J;have g9:H.cell? P.ob=AE (AA AB 0)/\H.cell? (P.ob,1)=AE (AA AB 0)/\H.cell? (P.ob,2)=AE (AA AB 0)/\H.cell? (P.ob,3)=AE (AA AB 0):=⟨I.cell 0,I.cell 1,I.cell 2,I.cell 3⟩;have f9:H.frozen? P.ob=false/\H.frozen? (P.ob,1)=false/\H.frozen? (P.ob,2)=false/\H.frozen? (P.ob,3)=false:=⟨I.free 0,I.free 1,I.free 2,I.free 3⟩;obtain⟨uR,uQ,uP,uO⟩:=g9;obtain⟨al,ad,ab,aa⟩:=f9;have H9:=AO (av.out x H J);clear J I;go_wp2
      generalize((((H.setCell P.ob ()).setCell (P.ob,1) ()).setCell (P.ob,2) ()).setCell (P.ob,3) ())=Lf at*
      refine Ay (f:=29) (args:=#[AI x]) a8 (by simp[go_sem]) ?_;refine(yI.out x _ _ H9.out).mono ?_;rintro e u1 Q ⟨rfl,rfl,O⟩;have WE:=dS.out Q O;obtain⟨q0,q1,U,q3⟩:=WE.q4;refine⟨AM #[AL #[(),(),(),()],AA AB 6],by simp[results,Ca,go_sem,q0,q1,U,q3],?_⟩;exact .inr (.inr ⟨rfl,aw.out Q O⟩)
    ·clear HG;generalize w8=H at*
     have I:=JO.out x H J;have g9:H.cell? P.ob=AE (AA AB 0)/\H.cell? (P.ob,1)=AE (AA AB 0)/\H.cell? (P.ob,2)=AE (AA AB 0)/\H.cell? (P.ob,3)=AE (AA AB 0):=⟨I.cell 0,I.cell 1,I.cell 2,I.cell 3⟩;have f9:H.frozen? P.ob=false/\H.frozen? (P.ob,1)=false/\H.frozen? (P.ob,2)=false/\H.frozen? (P.ob,3)=false:=⟨I.free 0,I.free 1,I.free 2,I.free 3⟩;obtain⟨uR,uQ,uP,uO⟩:=g9;obtain⟨al,ad,ab,aa⟩:=f9;have H9:=AO (av.out x H J);clear J I;go_wp2
     generalize((((H.setCell P.ob ()).setCell (P.ob,1) ()).setCell (P.ob,2) ()).setCell (P.ob,3) ())=Lf at*
     refine Ay (f:=29) (args:=#[AI x]) a8 (by simp[go_sem]) ?_;refine(yI.out x _ _ H9.out).mono ?_;rintro e u1 Q ⟨rfl,rfl,O⟩;have WE:=dS.out Q O;obtain⟨q0,q1,U,q3⟩:=WE.q4;refine⟨AM #[AL #[(),(),(),()],AA AB 6],by simp[results,Ca,go_sem,q0,q1,U,q3],?_⟩;exact .inr (.inr ⟨rfl,aw.out Q O⟩)
   ·have h3:once=false:=by have:=wV.out;rw[aD]at this;simpa using this
    subst h3;go_wp2_with fail
    refine HG.out.mono ?_;rintro e w8 ⟨er,rfl,h8⟩;rcases h8 with⟨rfl,J⟩|⟨rfl,J⟩
    ·have GJ:=AO (jF.out x w8 J);clear J HG;go_wp2_with fail
     refine GJ.out.mono ?_;rintro e H (⟨F,N,C,rfl,J⟩|⟨rfl,J⟩)
     ·clear GJ;have I:=Ei.out x F N C _ _ H rfl J;have g9:H.cell? P.ob=AE (AA AB 0)/\H.cell? (P.ob,1)=AE (AA AB 0)/\H.cell? (P.ob,2)=AE (AA AB 0)/\H.cell? (P.ob,3)=AE (AA AB 0):=⟨I.cell 0,I.cell 1,I.cell 2,I.cell 3⟩;have f9:H.frozen? P.ob=false/\H.frozen? (P.ob,1)=false/\H.frozen? (P.ob,2)=false/\H.frozen? (P.ob,3)=false:=⟨I.free 0,I.free 1,I.free 2,I.free 3⟩;obtain⟨uR,uQ,uP,uO⟩:=g9;obtain⟨al,ad,ab,aa⟩:=f9;have H9:=AO (dO.out x F N C H J);clear J I;go_wp2
      generalize((((H.setCell P.ob F).setCell (P.ob,1) N).setCell (P.ob,2) P.k).setCell (P.ob,3) C)=Lf at*
      refine Ay (f:=29) (args:=#[AI x]) a8 (by simp[go_sem]) ?_;refine(aB.out x F N C _ _ _ H9.out).mono ?_;rintro e u1 Q ⟨rfl,rfl,O⟩;have WE:=Ei.out x F N C _ _ Q (Nz.out F N C) O;obtain⟨q0,q1,U,q3⟩:=WE.q4;refine⟨AM #[AL #[F,N,P.k,C],()],by simp[results,Ca,go_sem,q0,q1,U,q3],?_⟩;exact .inr (.inl ⟨x,F,N,C,rfl,pV.out x F N C Q O⟩)
     ·clear GJ;have I:=JO.out x H J;have g9:H.cell? P.ob=AE (AA AB 0)/\H.cell? (P.ob,1)=AE (AA AB 0)/\H.cell? (P.ob,2)=AE (AA AB 0)/\H.cell? (P.ob,3)=AE (AA AB 0):=⟨I.cell 0,I.cell 1,I.cell 2,I.cell 3⟩;have f9:H.frozen? P.ob=false/\H.frozen? (P.ob,1)=false/\H.frozen? (P.ob,2)=false/\H.frozen? (P.ob,3)=false:=⟨I.free 0,I.free 1,I.free 2,I.free 3⟩;obtain⟨uR,uQ,uP,uO⟩:=g9;obtain⟨al,ad,ab,aa⟩:=f9;have H9:=AO (av.out x H J);clear J I;go_wp2
      generalize((((H.setCell P.ob ()).setCell (P.ob,1) ()).setCell (P.ob,2) ()).setCell (P.ob,3) ())=Lf at*
      refine Ay (f:=29) (args:=#[AI x]) a8 (by simp[go_sem]) ?_;refine(yI.out x _ _ H9.out).mono ?_;rintro e u1 Q ⟨rfl,rfl,O⟩;have WE:=dS.out Q O;obtain⟨q0,q1,U,q3⟩:=WE.q4;refine⟨AM #[AL #[(),(),(),()],AA AB 6],by simp[results,Ca,go_sem,q0,q1,U,q3],?_⟩;exact .inr (.inr ⟨rfl,aw.out Q O⟩)
    ·clear HG;generalize w8=H at*
     have I:=JO.out x H J;have g9:H.cell? P.ob=AE (AA AB 0)/\H.cell? (P.ob,1)=AE (AA AB 0)/\H.cell? (P.ob,2)=AE (AA AB 0)/\H.cell? (P.ob,3)=AE (AA AB 0):=⟨I.cell 0,I.cell 1,I.cell 2,I.cell 3⟩;have f9:H.frozen? P.ob=false/\H.frozen? (P.ob,1)=false/\H.frozen? (P.ob,2)=false/\H.frozen? (P.ob,3)=false:=⟨I.free 0,I.free 1,I.free 2,I.free 3⟩;obtain⟨uR,uQ,uP,uO⟩:=g9;obtain⟨al,ad,ab,aa⟩:=f9;have H9:=AO (av.out x H J);clear J I;go_wp2
     generalize((((H.setCell P.ob ()).setCell (P.ob,1) ()).setCell (P.ob,2) ()).setCell (P.ob,3) ())=Lf at*
     refine Ay (f:=29) (args:=#[AI x]) a8 (by simp[go_sem]) ?_;refine(yI.out x _ _ H9.out).mono ?_;rintro e u1 Q ⟨rfl,rfl,O⟩;have WE:=dS.out Q O;obtain⟨q0,q1,U,q3⟩:=WE.q4;refine⟨AM #[AL #[(),(),(),()],AA AB 6],by simp[results,Ca,go_sem,q0,q1,U,q3],?_⟩;exact .inr (.inr ⟨rfl,aw.out Q O⟩)
end
structure SP where
 X:Cx
 DH:List DA
 sb:Nat
 rb:Nat
 Dl:Nat
 o:Cv
 once:Bool
 k:Nat
 hh:Nat
 first:Nat
 nb:Nat
 count:Nat
 l:List Cv
 m:Nat
 b2:Nat
 b3:Nat
 b4:Nat
 b6:Nat
 b7:Nat
def DJ(b F N k C:Nat):DA:=Cs b 28 [F,N,k,C]
def SP.bs(P:SP)(q:Nat):List DA:=[Cs P.b2 188 [AI P.sb],DJ P.b3 P.first P.nb P.k P.count,DJ P.b4 0 0 0 0,Cs P.b6 3 [q]]
structure SP.Ok (P:SP) (js:Nat):Prop where
 row:P.DH[js]?=AE (Cs P.sb 193 (Em P.X.p.w P.k P.hh P.rb P.Dl P.o P.once P.count))
 f:GY P.first P.nb P.k P.hh P.l P.X.sz
 c:P.l.length=P.count
 src:Src P.DH P.X.sz P.first P.k P.hh P.l
 rb:0<P.rb/\P.rb<=100000
 Dl:2<=P.Dl/\P.Dl<=1000000
 room1:DC DA.gw P.DH+2*P.X.sz+P.rb*P.hh*P.k<=P.X.rm
 room2:DC DA.gw P.DH+P.X.sz+P.Dl*P.k+P.Dl*P.X.sz<=P.X.rm
 rm:P.X.rm<=1000000
 n:P.X.N+P.m+40*P.nb+3*P.count+10<=1000000
 prod:P.nb*P.Dl<=100000000
structure SP.Sd (P:SP) (q i:Nat) (l':List Cv) (m':Nat):Prop where
 pw:2^i<=q
 ib:i=0\/2^(i-1)<P.nb
 m:m'<=P.m+2*P.nb*(1+i)
 kind:(q<P.nb/\l'.length=P.count/\Yo P.o (q*P.hh) l'/\Cl P.o P.l l')\/(P.nb<=q/\∃s,NC P.o s/\Cl P.o P.l s/\l'=Dp P.once P.o s)
def SP.A(P:SP)(q i F N C:Nat)(W:World):Prop:=∃l' m',P.Sd q i l' m'/\GY F N P.k P.hh l' P.X.sz/\C=l'.length/\Wd P.X (P.DH++P.bs q++[Da F N P.k P.hh l' P.X.sz,DJ P.b7 F N P.k C]) m' W
def SP.Ju(P:SP)(er:Int):Prop:=(er=5/\∀z,¬Rm P.X P.DH z (3*P.nb))\/(er=6/\¬P.X.cm)
def SP.E(P:SP)(er:Int)(q:Nat)(W:World):Prop:=P.Ju er/\∃m',Wd P.X (P.DH++P.bs q++[DJ P.b7 0 0 0 0]) m' W
section
variable{P:SP}{q i js:Nat}{W W':World}{X:Cx}{os:List DA}{m:Nat}{a:DA}
theorem Wd.AL3(h:Wd X os m W){j:Nat}(hi:os[j]?=AE a)(H:0<a.ex.2):a.ex.1+a.ex.2<=2000000:=by
 obtain⟨G,D,A,S,h⟩:=h;have e:=h.exs j a hi (a.ex.1+a.ex.2-1) ⟨a5,a5⟩;have I:=(h.s0.2.2.has e).2;have h3:=h.s0.1;have h4:=h.s0.2.1;omega
theorem NA(q:Nat):Dn (P.bs q):=DF ⟨rfl,rfl⟩ (DF ⟨rfl,rfl⟩ (DF ⟨rfl,rfl⟩ (DF ⟨rfl,rfl⟩ Ea)))
theorem nt{o once k hh bd x tT fP n vT Z}(hS:ow X o once k hh bd x tT fP vT Z n){s}(e:s.length<=bd):DC DA.gw (Z s)=X.sz:=by
 obtain⟨t,r,I,_,_,_,_,_,H⟩:=hS.hd s e;rw[I,EI,Dq r H];rfl
theorem oW{o k l s}(h:Cl o l s)(hf:ID k l):ID k s:=λu hu=>hf u (h.symm.mem hu)
theorem mF{on o k s}(hf:ID k s):ID k (Dp on o s):=λu hu=>by
 unfold Dp at hu
 split at hu
 ·exact hf u (Mv hu)
 ·exact hf u hu
theorem aq{o q s}(h:Yo o q s)(e:s.length<=q):NC o s:=by
 have H:=h 0;rwa [CS,Cn,Ao e]at H
theorem SP.Ok.file(e:P.Ok js){t}{on}{s}(I:Ep t P.X.sz)(Q:t.k=P.k)(U:t.h=P.hh)(H:t.l=Dp on P.o s)(hs:s.length<=P.count)(hf:ID P.k s):GY (DY t) (Cr P.hh t.l.length) P.k P.hh t.l P.X.sz/\Cr P.hh t.l.length<=P.nb:=by
 have O:=SD on P.o s;rw[<-H]at O;have J:=e.f.len;rw[e.c]at J;refine⟨⟨e.f.kk,e.f.hh,e.f.Pm,rfl,a5,?_,by rw[H];exact mF hf⟩,?_⟩
 ·unfold DY;have:=I.first;split<;>omega
 ·have h3:=e.f.bn;rw[e.c]at h3;rw[h3];exact Db e.f.hh.1 a5
theorem Rm.less{DH z2 F n z}(h:Rm X DH z (3*n))(Q:∀a∈z2,a.ex.2=0\/(a.ex=(F,n))):∃H,Rm X (DH++z2) H n:=by
 have key:∀H,z<=H->H+n<=z+3*n->(H+n<=F\/F+n<=H)->Rm X (DH++z2) H n:=λH I h2 h3 y aa U=>by
  obtain⟨O,J⟩:=h y a5 a5;refine⟨O,λi a hi=>?_⟩;rcases Ag.1 (Ak hi)with hm|hm
  ·obtain⟨j,hj,e⟩:=BO hm;exact J j a (by rw[AU hj,e])
  ·rcases Q a hm with h4|h4
   ·unfold I2;rw[h4];omega
   ·unfold I2;rw[h4];show ¬(F<=y/\y<F+n);omega
 rcases Am F (z+n)with I|I
 ·exact⟨z+2*n,key _ a5 a5 a5⟩
 ·exact⟨z,key _ a5 a5 a5⟩
def SP.V1(P:SP)(ob:Nat):VP:=⟨P.X,P.DH++P.bs P.rb,P.o,decide (P.nb<=P.rb)&&P.once,P.k,P.hh,P.count,ob,P.m,P.nb,λs=>s.length=P.count/\Yo P.o (P.rb*P.hh) s/\Cl P.o P.l s⟩
def SP.V2(P:SP)(ob q F N C b9 m:Nat)(l':List Cv):VP:=⟨P.X,P.DH++(P.bs q++[Da F N P.k P.hh l' P.X.sz,DJ P.b7 F N P.k C,DJ b9 F N P.k C]),P.o,decide (P.nb<=q*P.Dl)&&P.once,P.k,P.hh,P.count,ob,m,P.nb,λs=>s.length=P.count/\Yo P.o (q*P.Dl*P.hh) s/\Cl P.o l' s⟩
theorem iV{tT b2 H sb:Nat}{vT}{first nb k count:Nat}{Q:Int->World->Prop}(J:W.cell? b2=AE (AI sb))(c0:W.cell? H=AE (AA AB first))(U:W.cell? (H,1)=AE (AA AB nb))(c2:W.cell? (H,2)=AE (AA AB k))(O:W.cell? (H,3)=AE (AA AB count))
  (hF:Calls AP 141 #[AI sb,AL #[AA AB first,AA AB nb,AA AB k,AA AB count],.iface tT vT] W λe w'=>∃er,e=AH (AA AB er)/\Q er w'):
  Calls AP 140 (#[.iface tT vT]++#[AI b2,AI H]) W λe w'=>∃er,e=AH (AA AB er)/\Q er w':=by
 have I:=AO hF;clear hF;show Calls AP 140 #[.iface tT vT,AI b2,AI H] W _;go_enter func140,ntmps140
 go_wp2_with fail
 refine I.out.mono ?_;rintro e w' ⟨er,rfl,h⟩;have HQ:=AO h;clear h I;go_wp2
 go_ret
 exact⟨_,rfl,HQ.out⟩
theorem iU{tT b2 b9 H sb q:Nat}{vT}{first nb k count:Nat}{Q:Int->World->Prop}(J:W.cell? b2=AE (AI sb))(c0:W.cell? b9=AE (AA AB first))(c1:W.cell? (b9,1)=AE (AA AB nb))(c2:W.cell? (b9,2)=AE (AA AB k))(U:W.cell? (b9,3)=AE (AA AB count))(O:W.cell? H=AE (AA AB q))
  (hF:Calls AP 143 #[AI sb,AL #[AA AB first,AA AB nb,AA AB k,AA AB count],AA AB q,.iface tT vT] W λe w'=>∃er,e=AH (AA AB er)/\Q er w'):
  Calls AP 142 (#[.iface tT vT]++#[AI b2,AI b9,AI H]) W λe w'=>∃er,e=AH (AA AB er)/\Q er w':=by
 have I:=AO hF;clear hF;show Calls AP 142 #[.iface tT vT,AI b2,AI b9,AI H] W _;go_enter func142,ntmps142
 go_wp2_with fail
 refine I.out.mono ?_;rintro e w' ⟨er,rfl,h⟩;have HQ:=AO h;clear h I;go_wp2
 go_ret
 exact⟨_,rfl,HQ.out⟩
theorem AA4(I:P.Ok js)(H:Nat):(P.V1 H).jM 140 #[AI P.b2,AI P.b3]:=by
 intro x tT fP n vT Z W hS hw;have Fh:=I.f.len;rw[I.c]at Fh;have GK:Wd P.X (P.DH++(P.bs P.rb++[(P.V1 H).bx 0 0 0 0]++Z [])) P.m W:=by
  have h:=hw;rw[AR,show (P.V1 H).DH=P.DH++P.bs P.rb from rfl,AR]at h;rw[AR];exact h
 have EA:=GK.row (DD P.DH (P.bs P.rb++[(P.V1 H).bx 0 0 0 0]++Z []) 0);have U:=GK.row (DD P.DH (P.bs P.rb++[(P.V1 H).bx 0 0 0 0]++Z []) 1);have hg:DC DA.gw ((P.V1 H).DH++[(P.V1 H).bx 0 0 0 0]++Z [])=DC DA.gw P.DH+P.X.sz:=by
  rw[DM,nt hS (Aq _),Dz];show DC DA.gw (P.DH++P.bs P.rb)+0+P.X.sz= _;rw[DM,Dq _ (NA _)];rfl
 have hn:=I.n;have h1:=I.room1;have h2:min P.count (P.rb*P.hh)*P.k<=P.rb*P.hh*P.k:=Ae _ (Nat.min_le_right _ _);have MN:=I.rm;have J:P.X.sz+(min P.count (P.rb*P.hh)*P.k)+DC DA.gw ((P.V1 H).DH++[(P.V1 H).bx 0 0 0 0]++Z [])<=P.X.rm:=by rw[hg];omega
 have qG:P.X.N+P.m+3*P.count+3<=1000000:=a5;have Yc:=qv (DH:=(P.V1 H).DH++[(P.V1 H).bx 0 0 0 0]) (js:=js) (count:=P.count) hS (Df (Df I.row)) hw I.f I.c I.src.app.app I.rb J MN ⟨AQ _,Fh⟩ qG;refine(iV (Q:=λer w'=>(er=0/\∃s,(P.V1 H).R s/\s.length<=P.count/\Wd P.X ((P.V1 H).DH++[(P.V1 H).bx 0 0 0 0]++Z s) (P.m+P.nb+I3 (P.V1 H).on P.o P.hh s) w')\/(er=6/\¬P.X.cm/\∃z m',Q8 P.X x P.count n Z z/\Wd P.X ((P.V1 H).DH++[(P.V1 H).bx 0 0 0 0]++z) m' w')) (EA.cell 0) (U.cell 0) (U.cell 1) (U.cell 2) (U.cell 3) (Yc.mono ?_)).mono ?_
 ·rintro e w' (⟨he,s,O,k2,k3,k4,k5⟩|⟨he,Fu,z,m',O,k2⟩)
  ·exact⟨0,he,.inl ⟨rfl,s,⟨O,k2,k3⟩,by rw[O];exact AQ _,k5⟩⟩
  ·exact⟨6,he,.inr ⟨rfl,Fu,z,m',O,k2⟩⟩
 ·rintro e w' ⟨er,he,(⟨rfl,h⟩|⟨rfl,h⟩)⟩
  ·exact .inl ⟨he,h⟩
  ·exact .inr ⟨he,h⟩
end
def SP.CC(P:SP)(q i F' N' k' C':Nat)(er:Int)(q6:Nat)(f1 b7 b9:DA)(W:World):Prop:=
 (er=0/\k'=P.k/\∃l' m',P.Sd (q*P.Dl) (i+1) l' m'/\GY F' N' P.k P.hh l' P.X.sz/\C'=l'.length/\Wd P.X (P.DH++(P.bs q6++[f1,b7,b9])++[Da F' N' P.k P.hh l' P.X.sz]) m' W)\/
 (P.Ju er/\(F'=0/\N'=0/\k'=0/\C'=0)/\∃m',Wd P.X (P.DH++(P.bs q6++[f1,b7,b9])++[]) m' W)
section
variable{P:SP}{q i js F N C F' N' k' C' Jq q6 m:Nat}{er:Int}{W W':World}{f1 b7 b9:DA}{l':List Cv}{z:List DA}
theorem Mg(j:Nat):(P.DH++(P.bs q6++[f1,b7,b9])++z)[P.DH.length+j]?=(P.bs q6++[f1,b7,b9]++z)[j]?:=by rw[AR];exact DD _ _ j
theorem ZK(j:Nat)(v:DA):(P.DH++(P.bs q6++[f1,b7,b9])++z).set (P.DH.length+j) v=P.DH++(P.bs q6++[f1,b7,b9]++z).set j v:=by
 rw[AR,As _ _ a5,Cm]
theorem SP.CC.map{f1' b7' b9' q6'}(h:P.CC q i F' N' k' C' er q6 f1 b7 b9 W)(hw:∀z m,Wd P.X (P.DH++(P.bs q6++[f1,b7,b9])++z) m W->Wd P.X (P.DH++(P.bs q6'++[f1',b7',b9'])++z) m W'):P.CC q i F' N' k' C' er q6' f1' b7' b9' W':=by
 rcases h with⟨h1,h2,l',m',h3,h4,h5,h6⟩|⟨h1,h2,m',h6⟩
 ·exact .inl ⟨h1,h2,l',m',h3,h4,h5,hw _ _ h6⟩
 ·exact .inr ⟨h1,h2,m',hw _ _ h6⟩
theorem SP.CC.get(h:P.CC q i F' N' k' C' er q6 f1 b7 b9 W):∃z m,Wd P.X (P.DH++(P.bs q6++[f1,b7,b9])++z) m W:=by
 rcases h with⟨_,_,l',m',_,_,_,h6⟩|⟨_,_,m',h6⟩
 ·exact⟨_,_,h6⟩
 ·exact⟨_,_,h6⟩
theorem SP.CC.below(h:P.CC q i F' N' k' C' er q6 f1 b7 b9 W)(hb:Below W W W'):P.CC q i F' N' k' C' er q6 f1 b7 b9 W':=h.map λ_ _ hw=>hw.below hb
theorem SP.CC.yU{g c0 c1 c2 c3}{A B K D:Nat}(h:P.CC q i F' N' k' C' er q6 f1 (Cs g 28 [c0,c1,c2,c3]) b9 W)(hw:W'=((((W.setCell g A).setCell (g,1) B).setCell (g,2) K).setCell (g,3) D)):P.CC q i F' N' k' C' er q6 f1 (DJ g A B K D) b9 W':=by
 refine h.map λz m H=>?_;have I:(P.DH++(P.bs q6++[f1,Cs g 28 [c0,c1,c2,c3],b9])++z)[P.DH.length+5]?=AE (Cs g 28 [c0,c1,c2,c3]):=Mg 5;obtain⟨O,J⟩:=Ih (F:=A) (N:=B) (k:=K) (C:=D) (H.row I);have e:=H.Nn I a6 J O;rw[ZK]at e;rw[hw,AR];exact e
theorem SP.CC.yV{n}(h:P.CC q i F' N' k' C' er q6 f1 b7 b9 W):P.CC q i F' N' k' C' er n f1 b7 b9 (W.setCell P.b6 n):=by
 refine h.map λz m H=>?_;have I:(P.DH++(P.bs q6++[f1,b7,b9])++z)[P.DH.length+3]?=AE (Cs P.b6 3 [q6]):=Mg 3;have e:=H.store I a6 0 n;rw[ZK]at e;rw[AR];exact e
theorem SP.CC.free{k hh sz l0}(h:P.CC q i F' N' k' C' er q6 (Da F N k hh l0 sz) b7 b9 W)(hf:F<=2000000)(J:N<=2000000)(c:Nat):Calls AP 67 #[AI P.X.p.w,AL #[F,N,k,c]] W λe w'=>e=AH ()/\P.CC q i F' N' k' C' er q6 Dt b7 b9 w':=by
 have key:∀z m,Wd P.X (P.DH++(P.bs q6++[Da F N k hh l0 sz,b7,b9])++z) m W->Calls AP 67 #[AI P.X.p.w,AL #[F,N,k,c]] W λe w'=>e=AH ()/\Wd P.X (P.DH++(P.bs q6++[Dt,b7,b9])++z) m w':=λz m I=>by
  have O:(P.DH++(P.bs q6++[Da F N k hh l0 sz,b7,b9])++z)[P.DH.length+4]?=AE (Da F N k hh l0 sz):=Mg 4;refine(OP I O hf J c).mono ?_;rintro e w' ⟨he,H⟩;rw[ZK]at H;exact⟨he,by rw[AR];exact H⟩
 rcases h with⟨I,H,l',m',h3,h4,h5,h6⟩|⟨I,H,m',h6⟩
 ·exact(key _ _ h6).mono λe w' ⟨he,h7⟩=>⟨he,.inl ⟨I,H,l',m',h3,h4,h5,h7⟩⟩
 ·exact(key _ _ h6).mono λe w' ⟨he,h7⟩=>⟨he,.inr ⟨I,H,m',h7⟩⟩
theorem SP.CC.fin(h:P.CC q i F' N' k' C' er (q*P.Dl) Dt (DJ P.b7 F' N' k' C') (DJ Jq F N P.k C) W):(er=0/\P.A (q*P.Dl) (i+1) F' N' C' W)\/P.E er (q*P.Dl) W:=by
 rcases h with⟨h1,h2,l',m',h3,h4,h5,h6⟩|⟨h1,⟨e1,e2,e3,e4⟩,m',h6⟩
 ·subst h2;refine .inl ⟨h1,l',m',h3,h4,h5,?_⟩;have e:=Wd.perm (os':=P.DH++P.bs (q*P.Dl)++[Da F' N' P.k P.hh l' P.X.sz,DJ P.b7 F' N' P.k C']++[Dt,DJ Jq F N P.k C]) h6 (by
   rw[AR,AR,AR,AR];refine Cc _ (Cc _ ?_);show List.Perm [_,_,Dt,_] [Dt,_,_,_];refine(List.perm_append_comm (l₁:=[Da F' N' P.k P.hh l' P.X.sz,DJ P.b7 F' N' P.k C']) (l₂:=[Dt,DJ Jq F N P.k C])).trans ?_;refine List.Perm.cons _ ?_;exact(List.perm_append_comm (l₁:=[DJ Jq F N P.k C,Da F' N' P.k P.hh l' P.X.sz]) (l₂:=[DJ P.b7 F' N' P.k C'])).trans (Cf _))
  exact e.forget (DF ⟨rfl,rfl⟩ (DF ⟨rfl,rfl⟩ Ea))
 ·subst e1 e2 e3 e4;refine .inr ⟨h1,m',?_⟩;rw[AZ]at h6;have e:=Wd.perm (os':=P.DH++P.bs (q*P.Dl)++[DJ P.b7 0 0 0 0]++[Dt,DJ Jq F N P.k C]) h6 (by
   rw[AR,AR];refine Cc _ (Cc _ ?_);exact List.perm_append_comm (l₁:=[DJ P.b7 0 0 0 0]) (l₂:=[Dt,DJ Jq F N P.k C])|>.trans (List.Perm.cons _ (List.Perm.swap _ _ _)))
  exact e.forget (DF ⟨rfl,rfl⟩ (DF ⟨rfl,rfl⟩ Ea))
theorem AA3(I:P.Ok js)(H:Nat)(tQ:P.Sd q i l' m)(hq:q<P.nb)(hf:GY F N P.k P.hh l' P.X.sz)(hC:C=l'.length):(P.V2 H q F N C Jq m l').jM 142 #[AI P.b2,AI Jq,AI P.b6]:=by
 intro x tT fP n vT Z W hS hw;obtain⟨hi,aa,hm,hk⟩:=tQ;rcases hk with⟨_,hl,ab,Fh⟩|⟨J,_⟩
 ·have Nx:=I.f.len;rw[I.c]at Nx;have hnb:N=P.nb:=by
   have J:=hf.bn;have O:=I.f.bn;rw[J,O,hl,I.c]
  have gS:P.nb<=P.count:=by
   have O:=I.f.bn;rw[I.c]at O;rw[O];exact Di _ _
  have av:i<=17:=by
   rcases aa with J|J
   ·omega
   ·rcases Am 17 i with O|O
    ·have h3:2^17<=2^(i-1):=Nat.pow_le_pow_right a5 a5;have h4:(2:Nat)^17=131072:=a6;omega
    ·exact O
  have ao:m<=P.m+36*P.nb:=by
   have J:2*P.nb*(1+i)<=2*P.nb*18:=Nat.mul_le_mul_left _ a5;omega
  have hn:=I.n;have U:Wd P.X (P.DH++(P.bs q++[Da F N P.k P.hh l' P.X.sz,DJ P.b7 F N P.k C,DJ Jq F N P.k C])++([(P.V2 H q F N C Jq m l').bx 0 0 0 0]++Z [])) m W:=by
   rw[<-AR];exact hw
  have EA:=U.row (Mg 0);have JE:=U.row (Mg 3);have Dx:=U.row (Mg 6);have Pq:(P.DH++(P.bs q++[Da F N P.k P.hh l' P.X.sz,DJ P.b7 F N P.k C,DJ Jq F N P.k C])++([(P.V2 H q F N C Jq m l').bx 0 0 0 0]++Z []))[P.DH.length+4]?=AE (Da F N P.k P.hh l' P.X.sz):=Mg 4;have ae:F+N<=2000000:=U.AL3 Pq (by show 0<N;omega);have hg:∀s,s.length<=P.count->DC DA.gw ((P.V2 H q F N C Jq m l').DH++[(P.V2 H q F N C Jq m l').bx 0 0 0 0]++Z s)=DC DA.gw P.DH+P.X.sz:=λs hs=>by
   rw[DM,nt hS hs,Dz];show DC DA.gw (P.DH++(P.bs q++[Da F N P.k P.hh l' P.X.sz,DJ P.b7 F N P.k C,DJ Jq F N P.k C]))+0+P.X.sz= _;rw[DM,DM,Dq _ (NA _)];rfl
  let Q:JP:=⟨P.X,(P.V2 H q F N C Jq m l').DH++[(P.V2 H q F N C Jq m l').bx 0 0 0 0],Z,P.o,(P.V2 H q F N C Jq m l').on,P.k,P.hh,P.count,x,tT,fP,vT,n,m,F,N,P.count,q,P.Dl,q*P.Dl,l'⟩
  have ar:=I.room2;have De:0<q:=BH (Nat.pow_pos a5) hi
  have hQ:Q.Ok:={
   S:=hS
   f:=hf
   c:=hl
   src:=by
    refine Src.app ⟨P.DH.length+4,Da F N P.k P.hh l' P.X.sz,DD P.DH _ 4,λD hD hd=>?_,λ_=>?_⟩
    ·have J:=hd hD;rw[hf.bn]at J;exact J
    ·show F<=F/\F+Cr P.hh l'.length<=F+N;rw[hf.bn];omega
   rb:=⟨De,by show q<=1000000;omega⟩
   Dl:=⟨by have:=I.Dl.1;show 0<P.Dl;omega,I.Dl.2⟩
   L:=rfl
   fst:=ae
   asc:=ab
   room:=λs hs=>by
    show DC DA.gw ((P.V2 H q F N C Jq m l').DH++[(P.V2 H q F N C Jq m l').bx 0 0 0 0]++Z s)+P.Dl*P.k+P.Dl*P.X.sz<=P.X.rm;rw[hg s hs];omega
   rm:=I.rm
   bd:=⟨AQ _,Nx⟩
   n:=by show P.X.N+m+N+P.count+3<=1000000;omega}
  have ad:q*P.Dl<=100000000:=Af (Ae _ a5) I.prod;have al:C=P.count:=by rw[hC,hl]
  subst al;refine(iU (Q:=λer w'=>(er=0/\∃s,(P.V2 H q F N P.count Jq m l').R s/\s.length<=P.count/\Wd P.X ((P.V2 H q F N P.count Jq m l').DH++[(P.V2 H q F N P.count Jq m l').bx 0 0 0 0]++Z s) (m+P.nb+I3 (P.V2 H q F N P.count Jq m l').on P.o P.hh s) w')\/(er=6/\¬P.X.cm/\∃z m',Q8 P.X x P.count n Z z/\Wd P.X ((P.V2 H q F N P.count Jq m l').DH++[(P.V2 H q F N P.count Jq m l').bx 0 0 0 0]++z) m' w')) (EA.cell 0) (Dx.cell 0) (Dx.cell 1) (Dx.cell 2) (Dx.cell 3) (JE.cell 0) ((qt (P:=Q) (js:=js) (WH:=P.rb) (RE:=P.once) hQ (Df (Df I.row)) ad hw).mono ?_)).mono ?_
  ·rintro e w' (⟨he,s,k1,k2,k3,k5⟩|⟨he,Fu,z,m',k1,k2⟩)
   ·have k6:Wd P.X ((P.V2 H q F N P.count Jq m l').DH++[(P.V2 H q F N P.count Jq m l').bx 0 0 0 0]++Z s) (m+N+I3 (P.V2 H q F N P.count Jq m l').on P.o P.hh s) w':=k5;rw[hnb]at k6;have k7:s.length=P.count:=k1;exact⟨0,he,.inl ⟨rfl,s,⟨k7,k2,k3⟩,a5,by rw[<-hnb];rw[<-hnb]at k6;exact k6⟩⟩
   ·exact⟨6,he,.inr ⟨rfl,Fu,z,m',k1,k2⟩⟩
  ·rintro e w' ⟨er,he,(⟨rfl,h⟩|⟨rfl,h⟩)⟩
   ·exact .inl ⟨he,h⟩
   ·exact .inr ⟨he,h⟩
 ·omega
end
def SP.B1(P:SP)(F N k' C:Nat)(er:Int)(W:World):Prop:=
 (er=0/\k'=P.k/\∃l' m',P.Sd P.rb 0 l' m'/\GY F N P.k P.hh l' P.X.sz/\C=l'.length/\Wd P.X (P.DH++P.bs P.rb++[Da F N P.k P.hh l' P.X.sz]) m' W)\/
 (P.Ju er/\(F=0/\N=0/\k'=0/\C=0)/\∃m',Wd P.X (P.DH++P.bs P.rb) m' W)
section
variable{P:SP}{q i js F N C Jq m:Nat}{W W':World}{l':List Cv}
theorem SP.Ok.kind(H:P.Ok js){q}{s}(J:s.length=P.count)(I:Yo P.o (q*P.hh) s)(h3:Cl P.o P.l s):
  (q<P.nb/\(Dp (decide (P.nb<=q)&&P.once) P.o s).length=P.count/\Yo P.o (q*P.hh) (Dp (decide (P.nb<=q)&&P.once) P.o s)/\Cl P.o P.l (Dp (decide (P.nb<=q)&&P.once) P.o s))\/(P.nb<=q/\∃s',NC P.o s'/\Cl P.o P.l s'/\Dp (decide (P.nb<=q)&&P.once) P.o s=Dp P.once P.o s'):=by
 have O:=H.f.bn;rw[H.c]at O;rcases Am q P.nb with e|e
 ·rw[decide_eq_false a5,Bool.false_and];exact .inl ⟨e,J,I,h3⟩
 ·rw[decide_eq_true e,Bool.true_and];refine .inr ⟨e,s,aq I ?_,h3,rfl⟩;rw[J];refine Af (Mf H.f.hh.1 P.count) ?_;rw[<-O];exact Ae _ e
theorem SP.X0(H:P.Ok js)(h:Wd P.X (P.DH++P.bs P.rb) P.m W):Calls AP 139 #[AI P.sb,.bool (decide (P.nb<=P.rb)),.func (.func 140) #[] #[AI P.b2,AI P.b3]] W λe w'=>
  ∃(F N k' C:Nat) (er:Int),e=AH (AM #[AL #[F,N,k',C],er])/\P.B1 F N k' C er w':=by
 have Fh:=H.f.len;rw[H.c]at Fh;have M6:=H.f.bn;rw[H.c]at M6;have hn:=H.n;have hr:=H.room1;have hg:DC DA.gw (P.DH++P.bs P.rb)=DC DA.gw P.DH:=by rw[DM,Dq _ (NA _)];rfl
 have gS:P.nb<=P.count:=by rw[M6];exact Di _ _
 refine(T4 (P:=P.V1 W) (once:=P.once) (UI:=decide (P.nb<=P.rb)) (Df H.row) rfl (AA4 H _) (λargs w=>by kernel_rfl) H.f.Pm H.f.hh.1 Fh (by show P.X.sz+DC DA.gw (P.DH++P.bs P.rb)<=P.X.rm;rw[hg];omega) (λs hs=>?_) rfl h).mono ?_
 ·have U:=Nj (P.V1 W).on P.o P.hh s;have I:s.length=P.count:=hs.1;show P.X.N+(P.m+P.nb+I3 (P.V1 W.heap.size).on P.o P.hh s)<1000000;omega
 ·rintro e w' (⟨he,U,I⟩|⟨x,F,N,C,he,s,t,⟨U,I,h3⟩,h4,h5,Q,O,⟨h8,J,OJ⟩,Xt⟩|⟨he,Fu,m',I⟩)
  ·refine⟨0,0,0,0,5,he,.inr ⟨.inl ⟨rfl,λz hz=>?_⟩,⟨rfl,rfl,rfl,rfl⟩,P.m,I⟩⟩;obtain⟨z',aa⟩:=Rm.less (z2:=P.bs P.rb) (F:=0) hz λa ha=>.inl (NA _ a ha).2;refine U z' ?_;show Rm P.X (P.DH++P.bs P.rb) z' (Cr P.hh P.count);rw[<-M6];exact aa
  ·have Oj:s.length<=P.count:=a5;obtain⟨f1,f2⟩:=H.file h4 h5 Q O Oj (oW h3 H.f.fit);have JW:Wd P.X (P.DH++P.bs P.rb++[Uu P.X.p x t P.X.sz]) (P.m+P.nb+Cr P.hh t.l.length) w':=Xt;have FX:(P.DH++P.bs P.rb++[Uu P.X.p x t P.X.sz])[(P.DH++P.bs P.rb).length]?=AE (Uu P.X.p x t P.X.sz):=DD _ _ 0;have Pt:=WV JW FX;have h5:t.k=P.k:=h5;have Q:t.h=P.hh:=Q;have J:N=Cr P.hh t.l.length:=J;rw[GP,h5,Q,<-h8,<-J]at Pt;have hk:=H.kind U I h3;have O:t.l=Dp (decide (P.nb<=P.rb)&&P.once) P.o s:=O;rw[<-O]at hk;refine⟨F,N,P.k,C,0,he,.inl ⟨rfl,rfl,t.l,P.m+P.nb+N,⟨by rw[Nat.pow_zero];exact H.rb.1,.inl rfl,by rw[J];omega,hk⟩,by rw[h8,J];exact f1,OJ,Pt⟩⟩
  ·exact⟨0,0,0,0,6,he,.inr ⟨.inr ⟨rfl,Fu⟩,⟨rfl,rfl,rfl,rfl⟩,m',I⟩⟩
theorem SP.Zc(H:P.Ok js)(O:P.Sd q i l' m)(hq:q<P.nb)(hf:GY F N P.k P.hh l' P.X.sz)(hC:C=l'.length)(h:Wd P.X (P.DH++(P.bs q++[Da F N P.k P.hh l' P.X.sz,DJ P.b7 F N P.k C,DJ Jq F N P.k C])) m W):
  Calls AP 139 #[AI P.sb,.bool (decide (P.nb<=q*P.Dl)),.func (.func 142) #[] #[AI P.b2,AI Jq,AI P.b6]] W λe w'=>
  ∃(F' N' k' C':Nat) (er:Int),e=AH (AM #[AL #[F',N',k',C'],er])/\P.CC q i F' N' k' C' er q (Da F N P.k P.hh l' P.X.sz) (DJ P.b7 F N P.k C) (DJ Jq F N P.k C) w':=by
 have Fh:=H.f.len;rw[H.c]at Fh;have M6:=H.f.bn;rw[H.c]at M6;have hn:=H.n;have hr:=H.room1;have hg:DC DA.gw (P.DH++(P.bs q++[Da F N P.k P.hh l' P.X.sz,DJ P.b7 F N P.k C,DJ Jq F N P.k C]))=DC DA.gw P.DH:=by rw[DM,DM,Dq _ (NA _)];rfl
 have gS:P.nb<=P.count:=by rw[M6];exact Di _ _
 have ad:=O.ib;have av:i<=17:=by
  rcases ad with J|J
  ·omega
  ·rcases Am 17 i with I|I
   ·have h3:2^17<=2^(i-1):=Nat.pow_le_pow_right a5 a5;have h4:(2:Nat)^17=131072:=a6;omega
   ·exact I
 have ar:m<=P.m+36*P.nb:=by
  have J:2*P.nb*(1+i)<=2*P.nb*18:=Nat.mul_le_mul_left _ a5;have:=O.m;omega
 have U:l'.length=P.count/\Cl P.o P.l l':=by
  rcases O.kind with⟨_,J,_,I⟩|⟨J,_⟩
  ·exact⟨J,I⟩
  ·omega
 refine(T4 (P:=P.V2 W q F N C Jq m l') (once:=P.once) (UI:=decide (P.nb<=q*P.Dl)) (Df H.row) rfl (AA3 H _ O hq hf hC) (λargs w=>by kernel_rfl) H.f.Pm H.f.hh.1 Fh (by show P.X.sz+DC DA.gw (P.DH++(P.bs q++[Da F N P.k P.hh l' P.X.sz,DJ P.b7 F N P.k C,DJ Jq F N P.k C]))<=P.X.rm;rw[hg];omega) (λs hs=>?_) rfl h).mono ?_
 ·have J:=Nj (P.V2 W q F N C Jq m l').on P.o P.hh s;have I:s.length=P.count:=hs.1;show P.X.N+(m+P.nb+I3 (P.V2 W.heap.size q F N C Jq m l').on P.o P.hh s)<1000000;omega
 ·rintro e w' (⟨he,J,I⟩|⟨x,F',N',C',he,s,t,⟨J,I,h3⟩,h4,h5,h6,h7,⟨h8,h9,OJ⟩,Xt⟩|⟨he,Fu,m',I⟩)
  ·refine⟨0,0,0,0,5,he,.inr ⟨.inl ⟨rfl,λz hz=>?_⟩,⟨rfl,rfl,rfl,rfl⟩,m,by rw[AZ];exact I⟩⟩;have ae:N=P.nb:=by rw[hf.bn,U.1,M6]
   obtain⟨z',ab⟩:=Rm.less (z2:=P.bs q++[Da F N P.k P.hh l' P.X.sz,DJ P.b7 F N P.k C,DJ Jq F N P.k C]) (F:=F) hz λa Q=>by
    rcases Ag.1 Q with Q|Q
    ·exact .inl (NA _ a Q).2
    ·simp at Q;rcases Q with rfl|rfl|rfl
     ·right;show (F,N)=(F,P.nb);rw[ae]
     ·exact .inl rfl
     ·exact .inl rfl
   refine J z' ?_;show Rm P.X (P.DH++(P.bs q++[Da F N P.k P.hh l' P.X.sz,DJ P.b7 F N P.k C,DJ Jq F N P.k C])) z' (Cr P.hh P.count);rw[<-M6];exact ab
  ·have Oj:s.length<=P.count:=a5;have aa:Cl P.o P.l s:=U.2.trans h3;obtain⟨f1,f2⟩:=H.file h4 h5 h6 h7 Oj (oW aa H.f.fit);have JW:Wd P.X (P.DH++(P.bs q++[Da F N P.k P.hh l' P.X.sz,DJ P.b7 F N P.k C,DJ Jq F N P.k C])++[Uu P.X.p x t P.X.sz]) (m+P.nb+Cr P.hh t.l.length) w':=Xt;have FX:(P.DH++(P.bs q++[Da F N P.k P.hh l' P.X.sz,DJ P.b7 F N P.k C,DJ Jq F N P.k C])++[Uu P.X.p x t P.X.sz])[(P.DH++(P.bs q++[Da F N P.k P.hh l' P.X.sz,DJ P.b7 F N P.k C,DJ Jq F N P.k C])).length]?=AE (Uu P.X.p x t P.X.sz):=DD _ _ 0;have Pt:=WV JW FX;have h5:t.k=P.k:=h5;have h6:t.h=P.hh:=h6;have h9:N'=Cr P.hh t.l.length:=h9;rw[GP,h5,h6,<-h8,<-h9]at Pt;have hk:=H.kind J I aa;have h7:t.l=Dp (decide (P.nb<=q*P.Dl)&&P.once) P.o s:=h7;rw[<-h7]at hk;have ao:=O.m;have al:2^(i+1)<=q*P.Dl:=by
    rw[Nat.pow_succ];exact Nat.mul_le_mul O.pw H.Dl.1
   refine⟨F',N',P.k,C',0,he,.inl ⟨rfl,rfl,t.l,m+P.nb+N',⟨al,.inr (by rw[BQ];exact Ce O.pw hq),?_,hk⟩,by rw[h8,h9];exact f1,OJ,Pt⟩⟩;have Td:2*P.nb*(1+(i+1))=2*P.nb*(1+i)+2*P.nb:=by rw[show 1+(i+1)=(1+i)+1 by omega,Nat.mul_add,Nat.mul_one]
   rw[Td,h9];omega
  ·exact⟨0,0,0,0,6,he,.inr ⟨.inr ⟨rfl,Fu⟩,⟨rfl,rfl,rfl,rfl⟩,m',by rw[AZ];exact I⟩⟩
end
def SP.pe(P:SP)(e:Ending)(w':World):Prop:=
 (∃(F N C:Nat) (l':List Cv) (m' i:Nat),e=AH (AM #[AL #[F,N,P.k,C],()])/\(∃s,NC P.o s/\Cl P.o P.l s/\l'=Dp P.once P.o s)/\GY F N P.k P.hh l' P.X.sz/\C=l'.length/\
  (i=0\/2^(i-1)<P.nb)/\m'<=P.m+2*P.nb*(1+i)/\Wd P.X (P.DH++[Da F N P.k P.hh l' P.X.sz]) m' w')\/
 (∃er,e=AH (AM #[AL #[AA AB 0,AA AB 0,AA AB 0,AA AB 0],AA AB er])/\P.Ju er/\∃m',Wd P.X P.DH m' w')
section
variable{P:SP}{q i js F N C:Nat}{W W':World}{er:Int}
theorem SP.A.row(h:P.A q i F N C W):Row W P.b2 188 [AI P.sb]/\Row W P.b3 28 [P.first,P.nb,P.k,P.count]/\Row W P.b4 28 [(),(),(),()]/\Row W P.b6 3 [q]/\Row W P.b7 28 [F,N,P.k,C]:=by
 obtain⟨l',m',_,_,_,h⟩:=h;rw[AR]at h;exact⟨h.row (DD _ _ 0),h.row (DD _ _ 1),h.row (DD _ _ 2),h.row (DD _ _ 3),h.row (DD _ _ 5)⟩
theorem SP.E.row(h:P.E er q W):Row W P.b2 188 [AI P.sb]/\Row W P.b3 28 [P.first,P.nb,P.k,P.count]/\Row W P.b4 28 [(),(),(),()]/\Row W P.b6 3 [q]/\Row W P.b7 28 [(),(),(),()]:=by
 obtain⟨_,m',h⟩:=h;rw[AR]at h;exact⟨h.row (DD _ _ 0),h.row (DD _ _ 1),h.row (DD _ _ 2),h.row (DD _ _ 3),h.row (DD _ _ 4)⟩
theorem SP.A.sort(e:P.Ok js)(h:P.A q i F N C W):Row W P.sb 193 (Em P.X.p.w P.k P.hh P.rb P.Dl P.o P.once P.count):=by
 obtain⟨l',m',_,_,_,h⟩:=h;exact h.row (Df (Df e.row))
theorem SP.A.fin(h:P.A q i F N C W)(U:P.nb<=q)(hw:W'=((((W.setCell P.b4 F).setCell (P.b4,1) N).setCell (P.b4,2) P.k).setCell (P.b4,3) C)):
  (W'.cell? P.b4=AE (AA AB (F:Nat))/\W'.cell? (P.b4,1)=AE (AA AB (N:Nat))/\W'.cell? (P.b4,2)=AE (AA AB (P.k:Nat))/\W'.cell? (P.b4,3)=AE (AA AB (C:Nat)))/\
   Hid (P.pe (AH (AM #[AL #[F,N,P.k,C],()])) W'):=by
 subst hw;obtain⟨l',m',H,Q,h3,h⟩:=h;have I:Wd P.X (P.DH++(P.bs q++[Da F N P.k P.hh l' P.X.sz,DJ P.b7 F N P.k C])) m' W:=by rw[<-AR];exact h
 have J:(P.DH++(P.bs q++[Da F N P.k P.hh l' P.X.sz,DJ P.b7 F N P.k C]))[P.DH.length+2]?=AE (Cs P.b4 28 [((0:Nat):Int),((0:Nat):Int),((0:Nat):Int),((0:Nat):Int)]):=DD _ _ 2;obtain⟨e,O⟩:=Ih (F:=F) (N:=N) (k:=P.k) (C:=C) (I.row J);have h4:=I.Nn J a6 O e;rw[As _ _ a5,Cm]at h4;refine⟨⟨e.cell 0,e.cell 1,e.cell 2,e.cell 3⟩,.inl ⟨F,N,C,l',m',i,rfl,?_,Q,h3,H.ib,H.m,?_⟩⟩
 ·rcases H.kind with⟨h5,_⟩|⟨_,h5⟩
  ·omega
  ·exact h5
 ·have h5:=Wd.perm (os':=P.DH++[Da F N P.k P.hh l' P.X.sz]++([Cs P.b2 188 [AI P.sb],DJ P.b3 P.first P.nb P.k P.count,DJ P.b4 F N P.k C,Cs P.b6 3 [q]]++[DJ P.b7 F N P.k C])) h4 (by
   rw[AR];refine Cc _ ?_;exact(List.perm_append_comm (l₁:=[Da F N P.k P.hh l' P.X.sz]) (l₂:=[Cs P.b2 188 [AI P.sb],DJ P.b3 P.first P.nb P.k P.count,DJ P.b4 F N P.k C,Cs P.b6 3 [q]]++[DJ P.b7 F N P.k C])).trans (by
    show List.Perm ([_,_,_,_]++([_]++[_])) ([_,_,_,_]++([_]++[_]));exact Cc _ List.perm_append_comm))
  exact h5.forget (DF ⟨rfl,rfl⟩ (DF ⟨rfl,rfl⟩ (DF ⟨rfl,rfl⟩ (DF ⟨rfl,rfl⟩ (DF ⟨rfl,rfl⟩ Ea)))))
theorem SP.E.fin(h:P.E er q W)(hw:W'=((((W.setCell P.b4 ()).setCell (P.b4,1) ()).setCell (P.b4,2) ()).setCell (P.b4,3) ())):
  (W'.cell? P.b4=AE (AA AB 0)/\W'.cell? (P.b4,1)=AE (AA AB 0)/\W'.cell? (P.b4,2)=AE (AA AB 0)/\W'.cell? (P.b4,3)=AE (AA AB 0))/\
   Hid (P.pe (AH (AM #[AL #[(),(),(),()],er])) W'):=by
 subst hw;obtain⟨O,m',h⟩:=h;have H:Wd P.X (P.DH++(P.bs q++[DJ P.b7 0 0 0 0])) m' W:=by rw[<-AR];exact h
 have I:(P.DH++(P.bs q++[DJ P.b7 0 0 0 0]))[P.DH.length+2]?=AE (Cs P.b4 28 [((0:Nat):Int),((0:Nat):Int),((0:Nat):Int),((0:Nat):Int)]):=DD _ _ 2;obtain⟨e,J⟩:=Ih (F:=0) (N:=0) (k:=0) (C:=0) (H.row I);have h4:=H.Nn I a6 J e;rw[As _ _ a5,Cm]at h4;refine⟨⟨e.cell 0,e.cell 1,e.cell 2,e.cell 3⟩,.inr ⟨er,rfl,O,m',?_⟩⟩;exact h4.forget (DF ⟨rfl,rfl⟩ (DF ⟨rfl,rfl⟩ (DF ⟨rfl,rfl⟩ (DF ⟨rfl,rfl⟩ (DF ⟨rfl,rfl⟩ Ea)))))
theorem SP.B1.box{k' b7}(h:P.B1 F N k' C er W)(hb:Below W W W')(e:Row W' b7 28 [F,N,k',C])(H:W<=b7):(er=0/\k'=P.k/\({P with b7:=b7}:SP).A P.rb 0 F N C W')\/((F=0/\N=0/\k'=0/\C=0)/\({P with b7:=b7}:SP).E er P.rb W'):=by
 rcases h with⟨h1,h2,l',m',h3,h4,h5,h6⟩|⟨h1,⟨e1,e2,e3,e4⟩,m',h6⟩
 ·subst h2;have I:=h6.new hb e H;rw[AR]at I;exact .inl ⟨h1,rfl,l',m',⟨h3.pw,h3.ib,h3.m,h3.kind⟩,h4,h5,I⟩
 ·subst e1 e2 e3 e4;exact .inr ⟨⟨rfl,rfl,rfl,rfl⟩,h1,m',h6.new hb e H⟩
theorem SP.CC.row(J:P.Ok js){F' N' k' C' q6 Jq}{f1 b7}(h:P.CC q i F' N' k' C' er q6 f1 b7 (DJ Jq F N P.k C) W):Row W P.b2 188 [AI P.sb]/\Row W P.b6 3 [q6]/\Row W Jq 28 [F,N,P.k,C]/\Row W P.sb 193 (Em P.X.p.w P.k P.hh P.rb P.Dl P.o P.once P.count)/\(∀cs,b7=Cs P.b7 28 cs->Row W P.b7 28 cs):=by
 obtain⟨z,m,H⟩:=h.get;exact⟨H.row (Mg 0),H.row (Mg 3),H.row (Mg 6),H.row (Df (Df J.row)),λcs e=>by
  have I:(P.DH++(P.bs q6++[f1,b7,DJ Jq F N P.k C])++z)[P.DH.length+5]?=AE b7:=Mg 5;rw[e]at I H;exact H.row I⟩
theorem SP.A.step(I:P.Ok js)(h:P.A q i F N C W)(hq:q<P.nb):∃O,F<=2000000/\N<=2000000/\q*P.Dl<=100000000/\q<q*P.Dl/\∀W' b9,Below W W W'->Row W' b9 28 [F,N,P.k,C]->W<=b9->
  Calls AP 139 #[AI P.sb,.bool (decide (P.nb<=q*P.Dl)),.func (.func 142) #[] #[AI P.b2,AI b9,AI P.b6]] W' λe w'=>
  ∃(F' N' k' C':Nat) (er:Int),e=AH (AM #[AL #[F',N',k',C'],er])/\P.CC q i F' N' k' C' er q (Da F N P.k P.hh O P.X.sz) (DJ P.b7 F N P.k C) (DJ b9 F N P.k C) w':=by
 obtain⟨l',m',J,H,h3,h4⟩:=h;have U:0<q:=BH (Nat.pow_pos a5) J.pw;have qF:=Nat.mul_le_mul_left q I.Dl.1;refine⟨l',H.fst,?_,Af (Ae _ a5) I.prod,a5,λW' b9 hb Q hg=>?_⟩
 ·have h5:=H.bn;have h6:=Di P.hh l'.length;have h7:=H.len;omega
 ·have h5:=h4.new hb Q hg;refine SP.Zc I J hq H h3 ?_;rw[AR,AR]at h5;exact h5
def qOf(b:Nat)(w:World):Nat:=match w.cell? ⟨b,0,AD⟩with
 |some v=>(BF v).toNat
 |none=>0
theorem bY{b n:Nat}{w}(h:Row w b 3 [n]):qOf b w=n:=by
 have e:w.cell? b=AE (AA AB (n:Nat)):=h.cell 0;unfold qOf;rw[e];simp[BF]
theorem qm(hP:P.Ok js)(h:Wd P.X P.DH P.m W)(DN:W=P.b2)(D9:P.b2+1=P.b3)(IX:P.b3+1=P.b4)(RF:P.b4+1=P.b6):
  Calls AP 130 #[AI P.sb,AL #[P.first,P.nb,P.k,P.count]] W P.pe:=by
 obtain⟨W1,EB⟩:=ae (W.alloc (AK #[AI P.sb] 188));obtain⟨W2,G9⟩:=ae (W1.alloc (AK #[P.first,P.nb,P.k,P.count] 28));obtain⟨W3,Kv⟩:=ae (W2.alloc (AK #[(),(),(),()] 28));obtain⟨W4,ab⟩:=ae (W3.alloc (AK #[P.rb] 3));have z1:W1=P.b3:=by rw[EB];simp;omega
 have z2:W2=P.b4:=by rw[G9];simp;omega
 have z3:W3=P.b6:=by rw[Kv];simp;omega
 have h1:Wd P.X (P.DH++[Cs P.b2 188 [AI P.sb]]) P.m W1:=h.new (by rw[EB];exact(AS _ _).alloc ao _) (by rw[EB,<-DN];exact heap_alloc_new _ _) a5;have h2:Wd P.X (P.DH++[Cs P.b2 188 [AI P.sb]]++[DJ P.b3 P.first P.nb P.k P.count]) P.m W2:=h1.new (by rw[G9];exact(AS _ _).alloc ao _) (by rw[G9,<-z1];exact heap_alloc_new _ _) a5;have h3:Wd P.X (P.DH++[Cs P.b2 188 [AI P.sb]]++[DJ P.b3 P.first P.nb P.k P.count]++[DJ P.b4 0 0 0 0]) P.m W3:=h2.new (by rw[Kv];exact(AS _ _).alloc ao _) (by rw[Kv,<-z2];exact heap_alloc_new _ _) a5;have aA:Wd P.X (P.DH++[Cs P.b2 188 [AI P.sb]]++[DJ P.b3 P.first P.nb P.k P.count]++[DJ P.b4 0 0 0 0]++[Cs P.b6 3 [P.rb]]) P.m W4:=h3.new (by rw[ab];exact(AS _ _).alloc ao _) (by rw[ab,<-z3];exact heap_alloc_new _ _) a5;have h4:Wd P.X (P.DH++P.bs P.rb) P.m W4:=by
  rw[AR,AR,AR]at aA;exact aA
 have Jy:Hid (W3=((W.alloc (AK #[AI P.sb] 188)).alloc (AK #[P.first,P.nb,P.k,P.count] 28)).alloc (AK #[(),(),(),()] 28)):=by unfold Hid;rw[Kv,G9,EB]
 have aF:=AO ab;have r2:Row W3 P.b2 188 [AI P.sb]:=by
  rw[AR,AR]at h3;exact h3.row (DD _ _ 0)
 have rs:Row W3 P.sb 193 (Em P.X.p.w P.k P.hh P.rb P.Dl P.o P.once P.count):=h3.row (Df (Df (Df hP.row)));have q2:W3.cell? P.b2=AE (AI P.sb):=r2.cell 0;have s2:W3.cell? (P.sb,2)=AE (AA AB P.rb):=rs.cell 2;have u2:W4.cell? P.b2=AE (AI P.sb):=(h4.row (DD _ _ 0)).cell 0;have u3:W4.cell? (P.b3,1)=AE (AA AB P.nb):=(h4.row (DD _ _ 1)).cell 1;have u6:W4.cell? P.b6=AE (AA AB P.rb):=(h4.row (DD _ _ 3)).cell 0;have OK:=AO (SP.X0 hP h4);obtain⟨one,gM⟩:=al (decide (P.nb<=P.rb));rw[gM]at OK;have a6:decide ((P.nb:Int)<=(P.rb:Int))=one:=by rw[<-gM];simp
 have U:=AO hP;clear EB G9 Kv ab h h1 h2 h3 h4 aA z1 z2 r2 rs hP;go_enter func130,ntmps130
 go_upto_region 1 with(fail)
 rw[<-Jy.out];go_upto_region 2 with(fail)
 rw[<-aF.out];go_wp2_with fail
 refine OK.out.mono ?_;rintro e w5 ⟨F,N,k',C,er,rfl,aD⟩;have Qz:=aD.box (W':=w5.alloc (AK #[F,N,k',C] 28)) ((AS _ _).alloc ao _) (heap_alloc_new w5 (AK #[F,N,k',C] 28)) ao;have jI:Hid (∃q i F9 N9 C9,(er=0/\({P with b7:=w5}:SP).A q i F9 N9 C9 (w5.alloc (AK #[F,N,k',C] 28)))\/({P with b7:=w5}:SP).E er q (w5.alloc (AK #[F,N,k',C] 28))):=by
  rcases Qz with⟨e1,e2,hA⟩|⟨_,hE⟩
  ·exact⟨_,_,F,N,C,.inl ⟨e1,hA⟩⟩
  ·exact⟨P.rb,0,F,N,C,.inr hE⟩
 clear Qz aD OK u2 u3 u6 gM a6 q2 s2;go_upto_region 3 with(fail)
 generalize w5.alloc (AK #[F,N,k',C] 28)=w6 at*
 generalize w5.heap.size=b7 at*
 obtain⟨Q,I⟩:∃Q:SP,Q={P with b7:=b7}:=⟨_,rfl⟩;have qU:Hid (Q.Ok js):=by rw[I];exact⟨U.out.row,U.out.f,U.out.c,U.out.src,U.out.rb,U.out.Dl,U.out.room1,U.out.room2,U.out.rm,U.out.n,U.out.prod⟩
 have aG:Hid (Q.pe=P.pe):=by rw[I];rfl
 have e1:P.sb=Q.sb:=by rw[I]
 have e2:P.b2=Q.b2:=by rw[I]
 have e3:P.b3=Q.b3:=by rw[I]
 have e4:P.b4=Q.b4:=by rw[I]
 have e6:P.b6=Q.b6:=by rw[I]
 have e7:b7=Q.b7:=by rw[I]
 have e8:P.nb=Q.nb:=by rw[I]
 have e9:P.k=Q.k:=by rw[I]
 rw[<-I]at jI;have a9:=AO I;clear I DN D9 IX RF z3 Jy aF;rw[e1,e2,e3,e4,e6,e7];have bb:=qU.out.Dl;have a8:Q.nb<=100000:=by
  have h1:=qU.out.f.bn;have h2:=Di Q.hh Q.l.length;have h3:=qU.out.f.len;omega
 clear e1 e2 e3 e4 e6 e7 e8 e9;go_loopw [8] (λiv wr=>∃(er:Int) (q i F N C:Nat),iv=AA AB er/\Hid ((er=0/\Q.A q i F N C wr)\/Q.E er q wr)) (λ_ wr=>Q.nb-qOf Q.b6 wr)
 case atStart=>
  obtain⟨q,i,F,N,C,h1⟩:=jI.out;exact⟨er,q,i,F,N,C,rfl,h1⟩
 case round=>
  obtain⟨er,q,i,F,N,C,rfl,Gv⟩:=hrel;clear jI;rcases Gv.out with⟨rfl,hA⟩|hE
  ·obtain⟨k2,k3,k4,k6,k7⟩:=hA.row;have kS:=hA.sort qU.out;have c6:wr.cell? Q.b6=AE (AA AB q):=k6.cell 0;have a1:wr.cell? (Q.b3,1)=AE (AA AB Q.nb):=k3.cell 1;have HA:=AO hA;by_cases hq:q<Q.nb
   ·obtain⟨l0,hF,hN,hL,aY,O⟩:=hA.step qU.out hq;obtain⟨L,qN⟩:=al (q*Q.Dl);have hmul:(q:Int)*(Q.Dl:Int)=(L:Int):=by rw[<-qN];exact(Be q Q.Dl).symm
    have jY:=AO qN;have aK:qOf Q.b6 wr=q:=bY k6;have a2:=AO aK;rw[qN]at hL aY;have wO:Row ((wr.alloc (AK #[F,N,Q.k,C] 28)).drew) wr 28 [F,N,Q.k,C]:=Row.drewN (heap_alloc_new wr (AK #[F,N,Q.k,C] 28)) 1;have aw:=O _ wr (((AS wr wr).alloc ao _).drew) wO ao;obtain⟨ym,nB⟩:=al (decide (Q.nb<=q*Q.Dl));rw[nB]at aw;rw[qN]at nB;have bc:decide ((Q.nb:Int)<=(L:Int))=ym:=by rw[<-nB];simp
    have aH:=AO aw;have aB:Aa.wrap (L:Int)=(L:Int):=Ah _ a5;have vE:=AO aB;have ad:∀w,Below wr wr w->(w.cell? Q.b7=AE (AA AB F)/\w.cell? (Q.b7,1)=AE (AA AB N)/\w.cell? (Q.b7,2)=AE (AA AB Q.k)/\w.cell? (Q.b7,3)=AE (AA AB C)/\w.cell? Q.b6=AE (AA AB q)/\w.cell? Q.b2=AE (AI Q.sb)/\w.cell? (Q.sb,3)=AE (AA AB Q.Dl)):=λw hb=>by
     have H:=k7.below hb k7.lt;exact⟨H.cell 0,H.cell 1,H.cell 2,H.cell 3,(k6.below hb k6.lt).cell 0,(k2.below hb k2.lt).cell 0,(kS.below hb kS.lt).cell 3⟩
    have aa:∀cs,Below wr wr ((wr.alloc (.cells cs 28)).drew):=λcs=>((AS wr wr).alloc ao _).drew;have s1:=ad wr.drew (Cz (AS _ _));have s2:=ad _ (aa #[(),(),(),()]);have s3:=ad _ (aa #[F,N,Q.k,C]);have a0:((wr.alloc (AK #[F,N,Q.k,C] 28)).drew).cell? (Q.b3,1)=AE (AA AB Q.nb):=(k3.below (aa #[F,N,Q.k,C]) k3.lt).cell 1;have d2:((wr.alloc (AK #[F,N,Q.k,C] 28)).drew).cell? Q.b2=AE (AI Q.sb):=s3.2.2.2.2.2.1;clear aB wO aw O aK qN aa k2 k3 k4 k6 k7 kS hA ad;go_upto_region 4 with(fail)
    go_region_held3 (λw=>w.cell? Q.b7=AE (AA AB F)/\w.cell? (Q.b7,1)=AE (AA AB N)/\w.cell? (Q.b7,2)=AE (AA AB Q.k)/\w.cell? (Q.b7,3)=AE (AA AB C)/\w.cell? Q.b6=AE (AA AB q)/\w.cell? Q.b2=AE (AI Q.sb)/\w.cell? (Q.sb,3)=AE (AA AB Q.Dl)) (first|with_reducible exact s1|with_reducible exact s2|with_reducible exact s3) (fail)
    rw[vE.out];clear s1 s2 s3;generalize(wr.alloc (AK #[F,N,Q.k,C] 28)).drew=w7 at*
    generalize wr.heap.size=b9 at*
    clear Gv HA c6 a1;go_wp2_with fail
    refine aH.out.mono ?_;rintro e w8 ⟨F',N',k9,C',aE,rfl,av⟩;obtain⟨j2,j6,J,jS,H⟩:=av.row qU.out;have H:=H [F,N,Q.k,C] rfl;obtain⟨x0,x1,x2,x3⟩:=H.q4;obtain⟨y0,y1,y2,y3⟩:=H.r4;have aC:=av.yU (A:=F') (B:=N') (K:=k9) (D:=C') rfl;clear av aH d2 a0 j2 j6 J jS H;go_upto_region 6 with(fail)
    generalize((((w8.setCell Q.b7 F').setCell (Q.b7,1) N').setCell (Q.b7,2) k9).setCell (Q.b7,3) C')=w9 at*
    clear x0 x1 x2 x3 y0 y1 y2 y3;have zn:=aC.below (Cz (AS _ _));obtain⟨j2,j6,J,jS,H⟩:=zn.row qU.out;have s4:w9.drew.cell? Q.b2=AE (AI Q.sb)/\w9.drew.cell? (Q.sb,4)=AE (AI Q.X.p.w)/\w9.drew.cell? b9=AE (AA AB F)/\w9.drew.cell? (b9,1)=AE (AA AB N)/\w9.drew.cell? (b9,2)=AE (AA AB Q.k)/\w9.drew.cell? (b9,3)=AE (AA AB C):=⟨j2.cell 0,jS.cell 4,J.cell 0,J.cell 1,J.cell 2,J.cell 3⟩;have Th:=AO (zn.free hF hN C);have aI:Hid (∀w,Q.CC q i F' N' k9 C' aE q Dt (DJ Q.b7 F' N' k9 C') (DJ b9 F N Q.k C) w->w.cell? Q.b2=AE (AI Q.sb)/\w.cell? (Q.sb,4)=AE (AI Q.X.p.w)/\w.cell? b9=AE (AA AB F)/\w.cell? (b9,1)=AE (AA AB N)/\w.cell? (b9,2)=AE (AA AB Q.k)/\w.cell? (b9,3)=AE (AA AB C)):=λw h=>by
     obtain⟨j2,j6,J,jS,H⟩:=h.row qU.out;exact⟨j2.cell 0,jS.cell 4,J.cell 0,J.cell 1,J.cell 2,J.cell 3⟩
    clear zn j2 j6 J jS H aC;go_region_held3 (λw=>w.cell? Q.b2=AE (AI Q.sb)/\w.cell? (Q.sb,4)=AE (AI Q.X.p.w)/\w.cell? b9=AE (AA AB F)/\w.cell? (b9,1)=AE (AA AB N)/\w.cell? (b9,2)=AE (AA AB Q.k)/\w.cell? (b9,3)=AE (AA AB C)) (first|with_reducible exact s4|with_reducible exact s5)
     ((go_at_call 67;(with_reducible refine Th.out.mono ?_);rintro e Lf ⟨rfl,OJ⟩;have s5:=aI.out Lf OJ))
    have zO:=(OJ.row qU.out).2.1;have c6:Lf.cell? Q.b6=AE (AA AB q):=zO.cell 0;have f6:Lf.frozen? Q.b6=false:=zO.free 0;have Xt:=OJ.yV (n:=L);have aX:=(Xt.row qU.out).2.1;have aJ:=bY aX;have IP:=SP.CC.fin (by rw[<-jY.out]at Xt;exact Xt);rw[jY.out]at IP;have IC:=AO IP;have a3:=AO aJ;clear OJ Xt zO aX aJ IP s4 s5 Th aI;go_wp2
    go_roundw
    case rel=>exact⟨aE,L,i+1,F',N',C',rfl,IC.out⟩
    case measure=>rw[a3.out,a2.out];omega
   ·have ar:Q.nb<=q:=a5;have ba:=AO ar;obtain⟨d0,d1,d2,d3⟩:=k7.q4;obtain⟨z0,z1,z2,z3⟩:=k4.q4;obtain⟨y0,y1,y2,y3⟩:=k4.r4;have IP:=hA.fin ar rfl;clear k2 k3 k4 k6 k7 kS hA ar;go_wp2
    generalize((((wr.setCell Q.b4 F).setCell (Q.b4,1) N).setCell (Q.b4,2) Q.k).setCell (Q.b4,3) C)=w9 at*
    obtain⟨⟨q0,q1,q2,q3⟩,HD⟩:=IP;rw[aG.out]at HD;exact Aw (v:=AM #[AL #[F,N,Q.k,C],()]) (by simp[results,Tryz.results130,go_sem,q0,q1,q2,q3]) rfl HD.out
  ·obtain⟨k2,k3,k4,k6,k7⟩:=hE.row;obtain⟨d0,d1,d2,d3⟩:=k7.q4;obtain⟨z0,z1,z2,z3⟩:=k4.q4;obtain⟨y0,y1,y2,y3⟩:=k4.r4;have gX:er=5\/er=6:=hE.1.elim (λh=>.inl h.1) λh=>.inr h.1;have IP:=hE.fin rfl;have a7:(er==0)=false:=by rcases gX with rfl|rfl<;>rfl
   clear k2 k3 k4 k6 k7 hE Gv gX;go_wp2
   generalize((((wr.setCell Q.b4 ()).setCell (Q.b4,1) ()).setCell (Q.b4,2) ()).setCell (Q.b4,3) ())=w9 at*
   obtain⟨⟨q0,q1,q2,q3⟩,HD⟩:=IP;rw[aG.out]at HD;exact Aw (v:=AM #[AL #[(),(),(),()],er]) (by simp[results,Tryz.results130,go_sem,q0,q1,q2,q3]) rfl HD.out
end
def Ni(X:Cx)(os:List DA)(i m first nb k hh:Nat)(l:List Cv)(W:World):Prop:=∃G D A S,KI X (os.set i Dt) m W G D A S/\EM D first k hh l nb/\∀z,first<=z->z<first+nb->hasB S.fr z
section
variable{X:Cx}{os:List DA}{m i:Nat}{W W':World}{G:Nat->Prop}{D:St}{A:Ar}{S:Sp}{first nb k hh:Nat}{l:List Cv}
theorem kC(h:Wd X os m W)(hi:os[i]?=AE (Da first nb k hh l X.sz))(hf:first<=2000000)(hn:nb<=2000000)(c:Nat):
  Calls AP 67 #[AI X.p.w,AL #[first,nb,k,c]] W λe w'=>e=AH ()/\Ni X os i m first nb k hh l w':=by
 obtain⟨G,D,A,S,h⟩:=h;have aa:EM D first k hh l nb:=h.Te i _ hi h.size;obtain⟨U,I⟩:=h.held hi;have U:∀z,I2 (first,nb) z->¬hasB S.fr z:=U;have I:0<nb->S.first<=first/\first+nb<=S.first+S.blocks:=I;have Q:=Jk (S:=S) h.sys.eZ (f:=first) (n:=nb) (by
  rcases A7 nb with H|H
  ·exact .inr H
  ·exact .inl (I H).1) (by
  rcases A7 nb with H|H
  ·exact .inr H
  ·exact .inl (I H).2) (λz J z2=>U z ⟨J,z2⟩)
 have Xq:(if nb=0 then 0 else (Ez S first nb).2)=0:=by
  by_cases H:nb=0
  ·rw[if_pos H]
  ·rw[if_neg H];rcases Jj (s:=S) h.sys.eZ (first:Int) (nb:Int)with⟨s',a',m',ha,hm,h1,he,hg⟩|⟨_,KR⟩
   ·rw[he]
   ·exact absurd ⟨(I a5).1,(I a5).2,λz J z2=>U z ⟨J,z2⟩⟩ (KR first nb rfl rfl a5)
 refine(Ua (F:=⟨D,A,S⟩) h.sys first nb k c a5 a5).mono ?_;rintro e w' ⟨he,G',k1,k2,k3⟩;refine⟨by rw[he,Xq];rfl,G',_,_,_,h.step hi k1 (k2.mono λk hk=>.inl hk) k3 LR trivial (λk hk=>hk.elim) ⟨rfl,rfl⟩ h.alive id h.Dg (λ_ _=>rfl) trivial rfl rfl (λ_ _ hw _=>hw) (λb n hb=>by cases hb) ⟨Q.1,Q.2.1⟩ (λz=>?_) (λz O=>absurd O (DT _ _)) ?_,aa,λz J z2=>(Q.2.2.1 z).2 (.inr ⟨J,z2⟩)⟩
 ·show hasB (Dm S first nb).fr z↔ _;rw[Q.2.2.1 z];exact⟨λO=>⟨O,DT _ _⟩,λO=>O.1⟩
 ·show ED (Dm S first nb).fr+0=ED S.fr+nb;rw[Q.2.2.2];omega
theorem Ni.below(h:Ni X os i m first nb k hh l W)(hb:Below W W W'):Ni X os i m first nb k hh l W':=by
 obtain⟨G,D,A,S,H,e,h3⟩:=h;exact⟨G,D,A,S,H.below hb,e,h3⟩
theorem Ni.wd(h:Ni X os i m first nb k hh l W):Wd X (os.set i Dt) m W:=by
 obtain⟨G,D,A,S,e,_⟩:=h;exact⟨G,D,A,S,e⟩
theorem Ni.none(h:Ni X os i m first 0 k hh l W)(hi:i<os.length):Wd X (os.set i (Da first 0 k hh l X.sz)) m W:=by
 obtain⟨G,D,A,S,H,J,h3⟩:=h;have O:(os.set i Dt)[i]?=AE Dt:=by rw[Av,if_pos rfl,if_pos hi]
 have h4:=H.step O H.sys (DG.refl _ _) (λk I=>.inl I) (aV (first:=first) (nb:=0) (k:=k) (h:=hh) (l:=l) (sz:=X.sz)) trivial (λk I=>I.elim) ⟨rfl,rfl⟩ H.alive id H.Dg (λ_ _=>rfl) (λ_=>J) rfl rfl (λ_ _ hw _=>hw) (λb n hb=>by cases hb) ⟨rfl,rfl⟩ (λz=>⟨λe=>⟨.inl e,DT _ _⟩,λe=>e.1.elim id λh=>absurd h (DT _ _)⟩) (λz e=>absurd e (DT _ _)) rfl;rw[List.set_set]at h4;exact⟨G,D,A,S,h4⟩
theorem j4(h:Ni X os i m first nb k hh l W)(hi:i<os.length)(hn:0<nb/\nb<=2000000)(hf:first<=2000000):
  Calls AP 64 #[AI X.p.s,first,nb] W λe w'=>e=AH ()/\Wd X (os.set i (Da first nb k hh l X.sz)) m w':=by
 obtain⟨G,D,A,S,H,h2,h3⟩:=h;have FX:(os.set i Dt)[i]?=AE Dt:=by rw[Av,if_pos rfl,if_pos hi]
 obtain⟨Gs,hs,Gn⟩:=H.sys.spc;rcases SQ (s:=S) H.sys.eZ (first:Int) (nb:Int)with⟨s',a',m',O,hm,h4,he,hg⟩|⟨_,KR⟩
 ·have O:a'=first:=a5;have hm:m'=nb:=a5;subst O hm;refine(Xi X.p.s S Gs (a':Int) (m':Int) W hs (Fg.of a5 a5) (Fg.of a5 a5)).mono ?_;rw[he];rintro e w' ⟨h5,h6⟩;obtain⟨G',k1,U,k3⟩:=Gn _ _ h6;have Q:=H.step FX k1 (U.mono λk I=>.inl I) k3 (aV (first:=a') (nb:=m') (k:=k) (h:=hh) (l:=l) (sz:=X.sz)) trivial (λk I=>I.elim) ⟨rfl,rfl⟩ H.alive id H.Dg (λ_ _=>rfl) (λ_=>h2) rfl rfl (λ_ _ hw _=>hw) (λb n hb=>by cases hb) ⟨hg.first,hg.blocks⟩ (λz=>by
    show hasB s'.fr z↔(hasB S.fr z\/I2 (0,0) z)/\¬I2 (a',m') z;rw[hg.has z];exact⟨λ⟨x,y⟩=>⟨.inl x,y⟩,λ⟨x,y⟩=>⟨x.elim id λh=>absurd h (DT _ _),y⟩⟩) (λz J=>.inr (h3 z J.1 J.2)) (by
    show ED s'.fr+m'=ED S.fr+0;have:=hg.sum;omega)
  rw[List.set_set]at Q;exact⟨h5,G',_,_,_,Q⟩
 ·exact absurd (λb DV DN=>h3 b DV DN) (KR first nb rfl rfl a5)
theorem dz(h:Wd X os m W)(hi:os[i]?=AE (Da first nb k hh l X.sz))(hf:first<=2000000)(hn:nb<=2000000)(c:Nat):
  Calls AP 127 #[AI X.p.w,AL #[first,nb,k,c]] W λe w'=>e=AH true/\Wd X os m w':=by
 have ad:=MI hi;have ab:=Iu hi;obtain⟨W1,EB⟩:=ae (W.alloc (AK #[first,nb,k,c] 28));have DV:Below W W W1:=by rw[EB];exact(AS _ _).alloc ao _
 have ER:Row W1 W 28 [first,nb,k,c]:=by rw[EB];exact heap_alloc_new _ _
 have h1:Wd X (os++[Cs W 28 [first,nb,k,c]]) m W1:=h.new DV ER ao;have cS:(os++[Cs W 28 [first,nb,k,c]])[i]?=AE (Da first nb k hh l X.sz):=Df hi;have Th:=AO (kC h1 cS hf hn c);obtain⟨b0,b1,b2,b3⟩:=ER.q4;have E0:=AO EB;generalize Vk:W.heap.size=s0 at*
 have U:∀w,Wd X ((os++[Cs s0 28 [first,nb,k,c]]).set i (Da first nb k hh l X.sz)) m w->Wd X os m w:=λw hw=>by
  rw[Iu cS]at hw;exact hw.forget (DF ⟨rfl,rfl⟩ Ea)
 have Dr:=AO U;have O:i<(os++[Cs s0 28 [first,nb,k,c]]).length:=MI cS;have I:∀w,Ni X (os++[Cs s0 28 [first,nb,k,c]]) i m first nb k hh l w->Row w s0 28 [first,nb,k,c]:=λw hw=>by
  have h9:=hw.wd;rw[IU hi]at h9;exact h9.row (by
   have OJ:=DD (os.set i Dt) [Cs s0 28 [first,nb,k,c]] 0;exact OJ)
 have Fz:=AO I;clear EB DV ER h h1 cS U I ab;have al:(nb:Int)<=2000000:=a5;go_enter func127,ntmps127
 go_upto_region 1 with(fail)
 rw[<-E0.out];clear E0 Vk;go_wp2_with fail
 refine Th.out.mono ?_;rintro e w2 ⟨rfl,J⟩;have EA:=Fz.out w2 J;clear Th b0 b1 b2 b3;rcases A7 nb with h0|h0
 ·have Q:Wd X ((os++[Cs s0 28 [first,nb,k,c]]).set i (Da first nb k hh l X.sz)) m w2:=by subst h0;exact J.none O
  have H3:=AO (Dr.out w2 Q);clear Q;have c1:w2.drew.cell? (s0,1)=AE (AA AB nb):=EA.cell 1;have c0:w2.drew.cell? s0=AE (AA AB first):=EA.cell 0;have g0:((nb:Int)==0)=true:=by simp;omega
  have H4:=AO (H3.out.drewN 1);have H2:=AO J;clear J EA;go_wp2_with fail
  go_region
  go_wp2
  go_ret
  exact⟨rfl,H4.out⟩
 ·have H:=J.below (Cz (AS _ _));have zN:=Fz.out _ H;have c1:w2.drew.cell? (s0,1)=AE (AA AB nb):=zN.cell 1;have c0:w2.drew.cell? s0=AE (AA AB first):=zN.cell 0;have g0:((nb:Int)==0)=false:=by simp;omega
  have HH:=AO (j4 H O ⟨h0,hn⟩ hf);have V5:=AO (Nl H.wd);have H2:=AO J;have aa:Hid (∀w,Wd X ((os++[Cs s0 28 [first,nb,k,c]]).set i (Da first nb k hh l X.sz)) m w->w.cell? (s0,1)=AE (AA AB nb)/\w.cell? s0=AE (AA AB first)):=λw hw=>by
   rw[IU hi]at hw;have OJ:=hw.row (DD (os.set i (Da first nb k hh l X.sz)) [Cs s0 28 [first,nb,k,c]] 0);exact⟨OJ.cell 1,OJ.cell 0⟩
  clear J EA H zN;go_wp2_with fail
  go_region_held3 (λw=>w.cell? (s0,1)=AE (AA AB nb)/\w.cell? s0=AE (AA AB first)) (first|with_reducible exact⟨c1,c0⟩|with_reducible exact q5)
   (first
    |(go_at_call 42;(with_reducible refine V5.out.mono ?_);rintro e w5 ⟨rfl,rfl⟩)
    |(go_at_call 64;(with_reducible refine HH.out.mono ?_);rintro e w5 ⟨rfl,h5⟩;have q5:=aa.out w5 h5))
  have H9:=AO (Dr.out _ h5);clear h5 q5;go_wp2
  go_ret
  exact⟨rfl,H9.out⟩
theorem Wo{rm rb Dl}(h:Wd X os m W)(k0:0<k/\k<=5)(LU:hh=Ct X.sz k)(Gh:0<hh)(MN:min (X.rm-DC DA.gw os) 65536=rm)(aw:2*X.sz<=rm)(I:(rm-2*X.sz)/(hh*k)=rb)(Qx:(rm-X.sz)/(X.sz+k)=Dl):
  Calls AP 129 #[AI X.p.w,k] W λe w'=>e=AH (AL #[k,hh,rb,Dl])/\Below W W w':=by
 obtain⟨W1,EB⟩:=ae (W.alloc (AK #[(),(),(),()] 190));have DV:Below W W W1:=by rw[EB];exact(AS _ _).alloc ao _
 have ER:Row W1 W 190 [(),(),(),()]:=by rw[EB];exact heap_alloc_new _ _
 have Q:=h.below DV;have aa:=h.bounds;have HD:=AO (Nm Q);have HZ:=AO (OQ Q);have HO:=AO (j3 Q k);rw[<-LU]at HO;have jk:=AO (L6 Q);have yD:=AO (RB Q);have IY:hh<=256:=by rw[LU];exact Af (IN _ _) (by have:=aa.1.2;omega)
 have aF:rm<=65536:=by rw[<-MN];exact Nat.min_le_right _ _
 generalize hG:X.rm-DC DA.gw os=LF at*
 have wZ:(if 65536<LF then (65536:Int)else (LF:Int))=(rm:Int):=by rw[<-MN];split<;>omega
 have aG:(if (65536:Int)<(LF:Int)then (65536:Int)else (LF:Int))=(rm:Int):=by rw[<-MN];split<;>omega
 generalize hz:X.sz=sz at*
 obtain⟨S2,ad⟩:=al (2*sz);obtain⟨A1,Tt⟩:=al (rm-S2);obtain⟨O,J⟩:=al (hh*k);obtain⟨B1,av⟩:=al (rm-sz);obtain⟨U,ab⟩:=al (sz+k);rw[ad]at I;rw[Tt,J]at I;rw[av,ab]at Qx;have aC:0<O:=by rw[<-J];exact Nat.mul_pos Gh k0.1
 have aB:O<=1280:=by rw[<-J];exact Nat.mul_le_mul IY k0.2
 have e1:(2:Int)*(sz:Int)=(S2:Int):=a5;have e2:(rm:Int)-(S2:Int)=(A1:Int):=a5;have e3:(hh:Int)*(k:Int)=(O:Int):=by rw[<-J];exact(Be hh k).symm
 have e4:(A1:Int).tdiv (O:Int)=(rb:Int):=by rw[<-I];rfl
 have e5:(rm:Int)-(sz:Int)=(B1:Int):=a5;have e6:(sz:Int)+(k:Int)=(U:Int):=a5;have e7:(B1:Int).tdiv (U:Int)=(Dl:Int):=by rw[<-Qx];rfl
 have n1:¬((O:Int)=0):=a5;have n2:¬((U:Int)=0):=a5;have n3:((O:Int)==0)=false:=by simpa using n1
 have n4:((U:Int)==0)=false:=by simpa using n2
 have n5:¬(O=0):=a5;have n6:¬(U=0):=a5;have aE:rb<=65536:=by rw[<-I];exact Af (BW _ _) a5
 have aD:Dl<=65536:=by rw[<-Qx];exact Af (BW _ _) a5
 have w1:Aa.wrap (S2:Int)=(S2:Int):=Ah _ a5;have w2:Aa.wrap (A1:Int)=(A1:Int):=Ah _ a5;have w3:Aa.wrap (O:Int)=(O:Int):=Ah _ a5;have w4:Aa.wrap (rb:Int)=(rb:Int):=Ah _ a5;have w5:Aa.wrap (B1:Int)=(B1:Int):=Ah _ a5;have w6:Aa.wrap (U:Int)=(U:Int):=Ah _ a5;have w7:Aa.wrap (Dl:Int)=(Dl:Int):=Ah _ a5;have E0:=AO EB;have OM:=AO DV;have Ja:=AO ER;generalize Vk:W.heap.size=s0 at*
 obtain⟨x0,x1,x2,x3⟩:=Ja.out.q4;obtain⟨f0,f1,f2,f3⟩:=Ja.out.r4;clear EB DV ER h Q MN hG ad Tt J av ab LU I Qx hz aa aw;go_enter func129,ntmps129
 go_upto_region 1 with(fail)
 rw[<-E0.out];clear E0;go_wp2_with fail
 refine HD.out.mono ?_;rintro e w ⟨rfl,rfl⟩;go_wp2_with fail
 refine HZ.out.mono ?_;rintro e w' ⟨rfl,rfl⟩;go_wp2_with fail
 refine HO.out.mono ?_;rintro e Ej ⟨rfl,rfl⟩;go_wp2_with fail
 refine jk.out.mono ?_;rintro e aA ⟨rfl,rfl⟩;go_wp2_with fail
 refine yD.out.mono ?_;rintro e H ⟨rfl,rfl⟩;go_upto_region 3 with(fail)
 refine wp_region_still_tail 18 a7 a7 ?_;simp only[List.take_succ_cons,Bt,List.drop_succ_cons,Cn];change wpStill AP _ H.drew (λa'=>wpList AP _ _ _ a' H.drew) _ _
 repeat still_step
 refine wpStill_nil ?_;go_wp2
 have Dx:Row (((((H.setCell s0 k).setCell (s0,1) hh).setCell (s0,2) rb).setCell (s0,3) Dl).drew) s0 190 [k,hh,rb,Dl]:=((((Ja.out.set 0 k).set 1 hh).set 2 rb).set 3 Dl).drewN 1;have ar:Below W W (((((H.setCell s0 k).setCell (s0,1) hh).setCell (s0,2) rb).setCell (s0,3) Dl).drew):=by
  have h0:Below s0 W H:=OM.out;have Q:=h0.setCell (p:=s0) ao k;have h2:=Q.setCell (p:=(s0,1)) ao hh;have h3:=h2.setCell (p:=(s0,2)) ao rb;have h4:=(h3.setCell (p:=(s0,3)) ao Dl).drew;rw[Vk];exact h4
 generalize((((H.setCell s0 k).setCell (s0,1) hh).setCell (s0,2) rb).setCell (s0,3) Dl).drew=w9 at*
 obtain⟨q0,q1,q2,q3⟩:=Dx.q4;rw[Vk]at ar;exact Aw (v:=AL #[k,hh,rb,Dl]) (by simp[results,Tryz.results129,go_sem,q0,q1,q2,q3]) rfl ⟨rfl,ar⟩
end
section
variable{X:Cx}{os:List DA}{m i:Nat}{W W':World}{G:Nat->Prop}{D:St}{A:Ar}{S:Sp}{first nb k hh count:Nat}{l:List Cv}
def Yp(W w:World)(a:Nat):Prop:=Below W W w/\W<=a/\Jz w (λk=>k=a) a (empty 0)
theorem Yp.below{W w w' a}(h:Yp W w a)(hb:Below w w w'):Yp W w' a:=
 ⟨h.1.trans (hb.mono h.1.size),h.2.1,h.2.2.Ey (DG.DB hb λ_=>False) (λ_ _ h=>h) (λ_ _ h=>h)⟩
theorem U0{w a wp n p}(h:Sys W G p ⟨D,A,S⟩ n)(h0:Yp W w a)(hr:Row w wp 87 [ptr p.d,ptr a,ptr p.s])(hw:W<=wp/\wp≠a):∃G',Sys w G' ⟨wp,p.d,a,p.s⟩ ⟨D,empty 0,S⟩ n:=by
 have J:=λk H=>h.lt (k:=k) H;obtain⟨hb,RG,ha⟩:=h0;obtain⟨Q,Ga,O,aa,hd,QV,U,hg,h1,h2,h3,h4⟩:=h.below hb;have I:∀k,Q k\/O k->k<W:=λk H=>J k ((hg k).2 (H.elim (λh=>.inr (.inl h)) λh=>.inr (.inr (.inr h))));refine⟨λk=>k=wp\/Q k\/k=a\/O k,Q,λk=>k=a,O,hr,hd,ha,U,λk=>BN,λk H=>⟨λe=>?_,(h1 k H).2.1,λe=>?_⟩,λk H=>⟨λJV=>?_,λe=>?_⟩,λk H e=>?_,λq hq=>by cases hq⟩
 ·have e:k=a:=e;have:=I k (.inl H);omega
 ·have e:k=wp:=e;have:=I k (.inl H);omega
 ·have H:k=a:=H;have:=I k (.inr JV);omega
 ·have H:k=a:=H;have e:k=wp:=e;omega
 ·have e:k=wp:=e;have:=I k (.inr H);omega
end
section
variable{X:Cx}{os:List DA}{m i:Nat}{W W':World}{G:Nat->Prop}{D:St}{A:Ar}{S:Sp}{first nb k hh count:Nat}{l:List Cv}
theorem iW(h:Wd X os m W)(LU:hh=Ct X.sz k)(Gh:0<hh)(hnb:nb=Cr hh count)(I6:count<=100000):
  Calls AP 126 #[AI X.p.w,AL #[first,nb,k,count]] W λe w'=>e=AH true/\Below W W w':=by
 obtain⟨W1,EB⟩:=ae (W.alloc (AK #[first,nb,k,count] 28));have DV:Below W W W1:=by rw[EB];exact(AS _ _).alloc ao _
 have ER:Row W1 W 28 [first,nb,k,count]:=by rw[EB];exact heap_alloc_new _ _
 obtain⟨G,D,A,S,hF⟩:=h;have Q:=hF.below DV;have ab:8<=X.sz:=(Wd.bounds ⟨G,D,A,S,hF⟩).1.1;have qa:Hid (∀w,Below W1 W1 w->Calls AP 19 #[AI X.p.w] w λe w'=>e=AH (AI X.p.d)/\w'=w):=λw hb=>Nm ⟨G,D,A,S,Q.below hb⟩;have V5:Hid (∀w,Below W1 W1 w->Calls AP 42 #[AI X.p.w] w λe w'=>e=AH (AI X.p.s)/\w'=w):=λw hb=>Nl ⟨G,D,A,S,Q.below hb⟩;have vm:Hid (∀w,Below W1.heap.size W1 w->Calls AP 25 #[AA AB 0] w λe w'=>∃a,e=AH (AI (AE ⟨a,0,AD⟩))/\Yp W1 w' a):=λw hb=>by
  refine(K7 0 w a5 a5).mono ?_;rintro e w' ⟨he,ha,DN⟩;exact⟨w,he,hb.trans (DN.mono hb.size),hb.size,ha⟩
 have pS:Hid (∀w a,Yp W1 w a->Calls AP 24 #[AI (AE ⟨X.p.d,0,AD⟩),AI (AE ⟨a,0,AD⟩),AI (AE ⟨X.p.s,0,AD⟩)] w λe w'=>∃wp,e=AH (AI (AE ⟨wp,0,AD⟩))/\Yp W1 w' a/\Row w' wp 87 [ptr X.p.d,ptr a,ptr X.p.s]/\W1.heap.size<=wp/\wp≠a):=λw a I=>by
  refine(Ow X.p.d a X.p.s w).mono ?_;rintro e w' ⟨he,rfl⟩;have Tb:a<w:=I.2.2.lt rfl;exact⟨w.heap.size,he,I.below ((AS _ _).alloc ao _),heap_alloc_new _ _,I.1.size,a5⟩
 have LJ:Hid (∀w a wp,Yp W1 w a->Row w wp 87 [ptr X.p.d,ptr a,ptr X.p.s]->W1<=wp->wp≠a->Calls AP 46 #[AI wp,AL #[first,nb,k,count]] w λe w'=>e=AH (AM #[AI AD,AA AB 7])/\Below W1 W1 w'):=λw a wp I hr hw aa=>by
  obtain⟨G',Zy⟩:=U0 Q.sys I hr ⟨hw,aa⟩;have zm:D.size=X.sz:=hF.size;refine(Sf Zy k hh first nb count (by show hh=Ct D.size k;rw[zm];exact LU) Gh hnb a5 (by show (empty 0).room-(empty 0).used<D.size;rw[zm];exact BH (by show 0-0<8;omega) ab)).mono ?_;rintro e w' ⟨he,hb⟩;exact⟨he,I.1.trans (hb.mono I.1.size)⟩
 have U:Hid (∀w,Below W1 W1 w->w.cell? W=AE (AA AB first)/\w.cell? (W,1)=AE (AA AB nb)/\w.cell? (W,2)=AE (AA AB k)/\w.cell? (W,3)=AE (AA AB count)):=λw hb=>by
  have O:=ER.below hb ER.lt;exact⟨O.cell 0,O.cell 1,O.cell 2,O.cell 3⟩
 have IC:Hid (∀w,Below W1 W1 w->Below W W w):=λw hb=>DV.trans (hb.mono DV.size);have H:Below W1 W1 W1.drew:=Cz (AS _ _);have q0:=U.out _ H;have E0:=AO EB;have ad:=AO hnb;have al:=AO LU;generalize Vk:W.heap.size=s0 at*
 clear EB DV ER hF Q hnb LU;go_enter func126,ntmps126
 go_upto_region 1 with(fail)
 rw[<-E0.out];clear E0;go_region_held3 (λw=>w.cell? ⟨s0,0,AD⟩=AE (AA AB first)/\w.cell? ⟨s0,1,AD⟩=AE (AA AB nb)/\w.cell? ⟨s0,2,AD⟩=AE (AA AB k)/\w.cell? ⟨s0,3,AD⟩=AE (AA AB count)) (first|with_reducible exact q0|with_reducible exact J|with_reducible exact q6|with_reducible exact q7)
  (first
   |(go_at_call 19;(with_reducible refine(qa.out _ (by first|with_reducible exact H|with_reducible exact FU)).mono ?_);rintro e w4 ⟨rfl,rfl⟩)
   |(go_at_call 42;(with_reducible refine(V5.out _ (by first|with_reducible exact H|with_reducible exact FU)).mono ?_);rintro e w4 ⟨rfl,rfl⟩)
   |(go_at_call 25;(with_reducible refine(vm.out _ H).mono ?_);rintro e w5 ⟨a,rfl,h5⟩;have FU:=h5.1;have J:=U.out w5 FU;have q6:=J;have q7:=J)
   |(go_at_call 24;(with_reducible refine(pS.out _ _ h5).mono ?_);rintro e w6 ⟨wp,rfl,h6,JE,gE,tq⟩;have q6:=U.out w6 h6.1)
   |(go_at_call 46;(with_reducible refine(LJ.out _ _ _ h6 JE gE tq).mono ?_);rintro e w7 ⟨rfl,aJ⟩;have q7:=U.out w7 aJ))
 all_goals
  have H9:=AO (IC.out _ aJ);clear aJ q7 q6 J q0 h6 JE gE tq h5 FU H;go_wp2
  go_ret
  exact⟨rfl,by rw[Vk]at*;exact H9.out⟩
end
section
variable{X:Cx}{os:List DA}{m i:Nat}{W W':World}{first nb k hh count:Nat}{l:List Cv}{o:Cv}{once:Bool}
def Vy(X:Cx)(os:List DA)(i m nb k hh:Nat)(l:List Cv)(o:Cv)(once:Bool)(e:Ending)(w':World):Prop:=
 (∃(F N C:Nat) (l':List Cv) (m' j:Nat),e=AH (AM #[AL #[F,N,k,C],()])/\(∃s,NC o s/\Cl o l s/\l'=Dp once o s)/\GY F N k hh l' X.sz/\C=l'.length/\
  (j=0\/2^(j-1)<nb)/\m'<=m+2*nb*(1+j)/\Wd X (os.set i Dt++[Da F N k hh l' X.sz]) m' w')\/
 (∃er,e=AH (AM #[AL #[AA AB 0,AA AB 0,AA AB 0,AA AB 0],AA AB er])/\((er=5/\∀z,¬Rm X os z (3*nb))\/(er=6/\¬X.cm))/\∃m',Wd X os m' w')
def Vz(X:Cx)(os:List DA)(m nb k hh:Nat)(l:List Cv)(o:Cv)(once:Bool)(zs:List DA)(F N k' C:Nat)(er:Int)(w':World):Prop:=
 (er=0/\k'=k/\∃(l':List Cv) (m' j:Nat),((∃s,NC o s/\Cl o l s/\l'=Dp once o s)/\GY F N k hh l' X.sz/\C=l'.length/\(j=0\/2^(j-1)<nb)/\m'<=m+2*nb*(1+j))/\Wd X (os++zs++[Da F N k hh l' X.sz]) m' w')\/
 ((F=0/\N=0/\k'=0/\C=0)/\((er=5/\∀z,¬Rm X os z (3*nb))\/(er=6/\¬X.cm))/\∃m',Wd X (os++zs) m' w')
end
section
variable{X:Cx}{os:List DA}{m i:Nat}{W W':World}{first nb k hh count:Nat}{l:List Cv}{o:Cv}{once:Bool}
theorem ZH{sz hh k g rmX rm rb Dl}(O:0<k/\k<=5)(Gh:0<hh/\hh*k<=sz-2)(I:8<=sz/\sz<=256)(MN:min (rmX-g) 65536=rm)(h5:5*sz<=rmX-g)(e:(rm-2*sz)/(hh*k)=rb)(H:(rm-sz)/(sz+k)=Dl):
  (0<rb/\rb<=100000)/\(2<=Dl/\Dl<=7281)/\g+2*sz+rb*hh*k<=rmX/\g+sz+Dl*k+Dl*sz<=rmX:=by
 have I5:5*sz<=rm:=a5;have J:rm<=65536/\rm<=rmX-g:=a5;have hp:0<hh*k:=Nat.mul_pos Gh.1 O.1;have h1:rb*(hh*k)<=rm-2*sz:=by rw[<-e];exact CU _ _
 have U:Dl*(sz+k)<=rm-sz:=by rw[<-H];exact CU _ _
 have h3:1<=rb:=by rw[<-e];exact(Nat.le_div_iff_mul_le hp).2 a5
 have h4:2<=Dl:=by rw[<-H];exact(Nat.le_div_iff_mul_le a5).2 a5
 have h6:rb<=rb*(hh*k):=Nat.le_mul_of_pos_right _ hp;have Q:Dl*9<=Dl*(sz+k):=Nat.mul_le_mul_left _ a5;rw[Nat.mul_add]at U Q;rw[Nat.mul_assoc];refine⟨⟨h3,a5⟩,⟨h4,a5⟩,a5,a5⟩
theorem Vz.fin{b5 b6 b8 dH sb F N k' C}{er:Int}{w9 Lf rb Dl}(hi:os[i]?=AE (Da first nb k hh l X.sz))
  (h:(er=0/\k'=k/\∃(l':List Cv) (m' j:Nat),((∃s,NC o s/\Cl o l s/\l'=Dp once o s)/\GY F N k hh l' X.sz/\C=l'.length/\(j=0\/2^(j-1)<nb)/\m'<=m+2*nb*(1+j))/\Wd X (os.set i Dt++([DJ b5 first nb k count,Cs b6 132 [o.a,o.b,o.c,o.d,o.e],DJ b8 0 0 0 0]++[Cs sb 193 (Em X.p.w k hh rb Dl o once count)])++[Da F N k hh l' X.sz,DJ dH F N k C]) m' w9)\/
   ((F=0/\N=0/\k'=0/\C=0)/\((er=5/\∀z,¬Rm X os z (3*nb))\/(er=6/\¬X.cm))/\∃m',Wd X (os++([DJ b5 first nb k count,Cs b6 132 [o.a,o.b,o.c,o.d,o.e],DJ b8 0 0 0 0]++[Cs sb 193 (Em X.p.w k hh rb Dl o once count)])++[DJ dH 0 0 0 0]) m' w9))(hw:Lf=((((w9.setCell b8 F).setCell (b8,1) N).setCell (b8,2) k').setCell (b8,3) C)):
  (Lf.cell? b8=AE (AA AB (F:Nat))/\Lf.cell? (b8,1)=AE (AA AB (N:Nat))/\Lf.cell? (b8,2)=AE (AA AB (k':Nat))/\Lf.cell? (b8,3)=AE (AA AB (C:Nat)))/\
   Hid (Vy X os i m nb k hh l o once (AH (AM #[AL #[F,N,k',C],er])) Lf):=by
 subst hw;have key:∀(os' z:List DA) m',Wd X (os'++([DJ b5 first nb k count,Cs b6 132 [o.a,o.b,o.c,o.d,o.e],DJ b8 0 0 0 0]++[Cs sb 193 (Em X.p.w k hh rb Dl o once count)])++z) m' w9->(Row (((((w9.setCell b8 F).setCell (b8,1) N).setCell (b8,2) k').setCell (b8,3) C)) b8 28 [F,N,k',C])/\Wd X (os'++z) m' (((((w9.setCell b8 F).setCell (b8,1) N).setCell (b8,2) k').setCell (b8,3) C)):=λos' z m' I=>by
  rw[AR]at I;have J:(os'++([DJ b5 first nb k count,Cs b6 132 [o.a,o.b,o.c,o.d,o.e],DJ b8 0 0 0 0]++[Cs sb 193 (Em X.p.w k hh rb Dl o once count)]++z))[os'.length+2]?=AE (Cs b8 28 [((0:Nat):Int),((0:Nat):Int),((0:Nat):Int),((0:Nat):Int)]):=DD os' _ 2;obtain⟨e,H⟩:=Ih (F:=F) (N:=N) (k:=k') (C:=C) (I.row J);have h4:=I.Nn J a6 H e;rw[As _ _ a5,Cm]at h4;refine⟨e,?_⟩;have h5:Wd X (os'++[DJ b5 first nb k count,Cs b6 132 [o.a,o.b,o.c,o.d,o.e],DJ b8 F N k' C,Cs sb 193 (Em X.p.w k hh rb Dl o once count)]++z) m' (((((w9.setCell b8 F).setCell (b8,1) N).setCell (b8,2) k').setCell (b8,3) C)):=by rw[AR];exact h4
  exact h5.Fy _ (DF ⟨rfl,rfl⟩ (DF ⟨rfl,rfl⟩ (DF ⟨rfl,rfl⟩ (DF ⟨rfl,rfl⟩ Ea))))
 rcases h with⟨rfl,rfl,l',m',j,⟨I,h2,h3,h4,h5⟩,h6⟩|⟨⟨rfl,rfl,rfl,rfl⟩,h2,m',h6⟩
 ·obtain⟨e,H⟩:=key _ _ _ h6;have k3:Wd X ((os.set i Dt++[Da F N k' hh l' X.sz])++[DJ dH F N k' C]) m' (((((w9.setCell b8 F).setCell (b8,1) N).setCell (b8,2) k').setCell (b8,3) C)):=by rw[AR];exact H
  exact⟨⟨e.cell 0,e.cell 1,e.cell 2,e.cell 3⟩,.inl ⟨F,N,C,l',m',j,rfl,I,h2,h3,h4,h5,k3.forget (DF ⟨rfl,rfl⟩ Ea)⟩⟩
 ·obtain⟨e,H⟩:=key _ _ _ h6;exact⟨⟨e.cell 0,e.cell 1,e.cell 2,e.cell 3⟩,.inr ⟨er,rfl,h2,m',H.forget (DF ⟨rfl,rfl⟩ Ea)⟩⟩
theorem qw(h:Wd X os m W)(hi:os[i]?=AE (Da first nb k hh l X.sz))(hf:GY first nb k hh l X.sz)(hc:l.length=count)(Yc:Fm o)(aa:5*X.sz<=X.rm-DC DA.gw os)(NF:X.rm<=1000000)(hnb:nb<=10000)(hn:X.N+m+40*nb+3*count+10<=1000000):
  Calls AP 108 #[AI X.p.w,AL #[first,nb,k,count],AL #[o.a,o.b,o.c,o.d,o.e],once] W (Vy X os i m nb k hh l o once):=by
 have Fh:count<=100000:=by rw[<-hc];exact hf.len
 have Lp:nb=Cr hh count:=by rw[<-hc];exact hf.bn
 have aA:=h.bounds;obtain⟨rm,MN⟩:=al (min (X.rm-DC DA.gw os) 65536);obtain⟨rb,av⟩:=al ((rm-2*X.sz)/(hh*k));obtain⟨Dl,Qx⟩:=al ((rm-X.sz)/(X.sz+k));obtain⟨n1,n2,n3,n4⟩:=ZH hf.kk ⟨hf.hh.1,hf.hh.2.1⟩ aA.1 MN aa av Qx;obtain⟨W1,EB⟩:=ae (W.alloc (AK #[first,nb,k,count] 28));obtain⟨W2,G9⟩:=ae (W1.alloc (AK #[o.a,o.b,o.c,o.d,o.e] 132));obtain⟨W3,Kv⟩:=ae (W2.alloc (AK #[(),(),(),()] 28));obtain⟨J,e5⟩:=al W.heap.size;obtain⟨I,e6⟩:=al (J+1);obtain⟨H,e8⟩:=al (I+1);have z1:W1=I:=by rw[EB];simp;omega
 have z2:W2=H:=by rw[G9];simp;omega
 have Q:Wd X (os++[DJ J first nb k count]) m W1:=h.new (by rw[EB];exact(AS _ _).alloc ao _) (by rw[EB,<-e5];exact heap_alloc_new _ _) a5;have h2:Wd X (os++[DJ J first nb k count]++[Cs I 132 [o.a,o.b,o.c,o.d,o.e]]) m W2:=Q.new (by rw[G9];exact(AS _ _).alloc ao _) (by rw[G9,<-z1];exact heap_alloc_new _ _) a5;have aC:Wd X (os++[DJ J first nb k count]++[Cs I 132 [o.a,o.b,o.c,o.d,o.e]]++[DJ H 0 0 0 0]) m W3:=h2.new (by rw[Kv];exact(AS _ _).alloc ao _) (by rw[Kv,<-z2];exact heap_alloc_new _ _) a5;have h3:Wd X (os++[DJ J first nb k count,Cs I 132 [o.a,o.b,o.c,o.d,o.e],DJ H 0 0 0 0]) m W3:=by rw[AR,AR]at aC;exact aC
 have Jy:Hid (W3=((W.alloc (AK #[first,nb,k,count] 28)).alloc (AK #[o.a,o.b,o.c,o.d,o.e] 132)).alloc (AK #[(),(),(),()] 28)):=by unfold Hid;rw[Kv,G9,EB]
 have Qz:Dn [DJ J first nb k count,Cs I 132 [o.a,o.b,o.c,o.d,o.e],DJ H 0 0 0 0]:=DF ⟨rfl,rfl⟩ (DF ⟨rfl,rfl⟩ (DF ⟨rfl,rfl⟩ Ea));have IZ:DC DA.gw (os++[DJ J first nb k count,Cs I 132 [o.a,o.b,o.c,o.d,o.e],DJ H 0 0 0 0])=DC DA.gw os:=by rw[DM,Dq _ Qz];rfl
 have aH:Hid (Calls AP 91 #[AL #[o.a,o.b,o.c,o.d,o.e]] W3 λe w'=>e=AH true/\Below W3 W3 w'):=by
  have Q:=LW o W3;rw[decide_eq_true Yc]at Q;exact Q
 have aJ:Hid (∀w,Wd X (os++[DJ J first nb k count,Cs I 132 [o.a,o.b,o.c,o.d,o.e],DJ H 0 0 0 0]) m w->Calls AP 126 #[AI X.p.w,AL #[first,nb,k,count]] w λe w'=>e=AH true/\Wd X (os++[DJ J first nb k count,Cs I 132 [o.a,o.b,o.c,o.d,o.e],DJ H 0 0 0 0]) m w'):=λw hw=>(iW hw hf.Pm hf.hh.1 Lp Fh).mono λe w' ⟨he,hb⟩=>⟨he,hw.below hb⟩;have jk:Hid (∀w,Wd X (os++[DJ J first nb k count,Cs I 132 [o.a,o.b,o.c,o.d,o.e],DJ H 0 0 0 0]) m w->Calls AP 21 #[AI X.p.w] w λe w'=>e=AH (AI X.p.a)/\w'=w):=λw hw=>L6 hw;have qa:Hid (∀w,Wd X (os++[DJ J first nb k count,Cs I 132 [o.a,o.b,o.c,o.d,o.e],DJ H 0 0 0 0]) m w->Calls AP 19 #[AI X.p.w] w λe w'=>e=AH (AI X.p.d)/\w'=w):=λw hw=>Nm hw;obtain⟨LF,uI⟩:=al (X.rm-DC DA.gw os);have yD:Hid (∀w,Wd X (os++[DJ J first nb k count,Cs I 132 [o.a,o.b,o.c,o.d,o.e],DJ H 0 0 0 0]) m w->Calls AP 33 #[AI X.p.a] w λe w'=>e=AH LF/\w'=w):=λw hw=>by
  have Q:=RB hw;rw[IZ,uI]at Q;exact Q
 obtain⟨sz,ar⟩:=al X.sz;have aI:Hid (∀w,Wd X (os++[DJ J first nb k count,Cs I 132 [o.a,o.b,o.c,o.d,o.e],DJ H 0 0 0 0]) m w->Calls AP 34 #[AI X.p.d] w λe w'=>e=AH sz/\w'=w):=λw hw=>by
  have Q:=OQ hw;rw[ar]at Q;exact Q
 have SU:first<=2000000:=hf.fst;have Qd:Hid (∀w,Wd X (os++[DJ J first nb k count,Cs I 132 [o.a,o.b,o.c,o.d,o.e],DJ H 0 0 0 0]) m w->Calls AP 127 #[AI X.p.w,AL #[first,nb,k,count]] w λe w'=>e=AH true/\Wd X (os++[DJ J first nb k count,Cs I 132 [o.a,o.b,o.c,o.d,o.e],DJ H 0 0 0 0]) m w'):=λw hw=>dz hw (Df hi) SU a5 count;have aG:Hid (∀w,Wd X (os++[DJ J first nb k count,Cs I 132 [o.a,o.b,o.c,o.d,o.e],DJ H 0 0 0 0]) m w->Calls AP 129 #[AI X.p.w,k] w λe w'=>e=AH (AL #[k,hh,rb,Dl])/\Wd X (os++[DJ J first nb k count,Cs I 132 [o.a,o.b,o.c,o.d,o.e],DJ H 0 0 0 0]) m w'):=λw hw=>
  (Wo (rm:=rm) hw hf.kk hf.Pm hf.hh.1 (by rw[IZ];exact MN) a5 av Qx).mono λe w' ⟨he,hb⟩=>⟨he,hw.below hb⟩
 have Fz:Hid (∀(z:List DA) m w,Wd X (os++([DJ J first nb k count,Cs I 132 [o.a,o.b,o.c,o.d,o.e],DJ H 0 0 0 0]++z)) m w->Row w J 28 [first,nb,k,count]/\Row w I 132 [o.a,o.b,o.c,o.d,o.e]/\Row w H 28 [(),(),(),()]):=λz m w hw=>⟨hw.row (DD os _ 0),hw.row (DD os _ 1),hw.row (DD os _ 2)⟩;have dP:Hid (∀w,Wd X (os++[DJ J first nb k count,Cs I 132 [o.a,o.b,o.c,o.d,o.e],DJ H 0 0 0 0]) m w->Row w J 28 [first,nb,k,count]/\Row w I 132 [o.a,o.b,o.c,o.d,o.e]/\Row w H 28 [(),(),(),()]):=λw hw=>Fz.out [] m w (by rw[AZ];exact hw);have aF:Hid (∀w sb,Wd X (os++([DJ J first nb k count,Cs I 132 [o.a,o.b,o.c,o.d,o.e],DJ H 0 0 0 0]++[Cs sb 193 (Em X.p.w k hh rb Dl o once count)])) m w->Calls AP 130 #[AI sb,AL #[first,nb,k,count]] w λe w'=>∃(F N k' C:Nat) (er:Int),e=AH (AM #[AL #[F,N,k',C],er])/\Vz X os m nb k hh l o once ([DJ J first nb k count,Cs I 132 [o.a,o.b,o.c,o.d,o.e],DJ H 0 0 0 0]++[Cs sb 193 (Em X.p.w k hh rb Dl o once count)]) F N k' C er w'):=λw sb hw=>by
  let P:SP:=⟨X,os++([DJ J first nb k count,Cs I 132 [o.a,o.b,o.c,o.d,o.e],DJ H 0 0 0 0]++[Cs sb 193 (Em X.p.w k hh rb Dl o once count)]),sb,rb,Dl,o,once,k,hh,first,nb,count,l,m,w.heap.size,w.heap.size+1,w.heap.size+1+1,w.heap.size+1+1+1,0⟩
  have Ye:Dn ([DJ J first nb k count,Cs I 132 [o.a,o.b,o.c,o.d,o.e],DJ H 0 0 0 0]++[Cs sb 193 (Em X.p.w k hh rb Dl o once count)]):=DF ⟨rfl,rfl⟩ (DF ⟨rfl,rfl⟩ (DF ⟨rfl,rfl⟩ (DF ⟨rfl,rfl⟩ Ea)));have aD:DC DA.gw (os++([DJ J first nb k count,Cs I 132 [o.a,o.b,o.c,o.d,o.e],DJ H 0 0 0 0]++[Cs sb 193 (Em X.p.w k hh rb Dl o once count)]))=DC DA.gw os:=by rw[DM,Dq _ Ye];rfl
  have hP:P.Ok (os.length+3):={
   row:=DD os _ 3
   f:=hf
   c:=hc
   src:=⟨i,_,Df hi,λD hD hd=>by rw[<-hf.bn];exact hd hD,λ_=>by
    show first<=first/\first+Cr hh l.length<=first+nb;rw[<-hf.bn];omega⟩
   rb:=n1
   Dl:=⟨n2.1,by show Dl<=1000000;omega⟩
   room1:=by show DC DA.gw (os++([DJ J first nb k count,Cs I 132 [o.a,o.b,o.c,o.d,o.e],DJ H 0 0 0 0]++[Cs sb 193 (Em X.p.w k hh rb Dl o once count)]))+2*X.sz+rb*hh*k<=X.rm;rw[aD];exact n3
   room2:=by show DC DA.gw (os++([DJ J first nb k count,Cs I 132 [o.a,o.b,o.c,o.d,o.e],DJ H 0 0 0 0]++[Cs sb 193 (Em X.p.w k hh rb Dl o once count)]))+X.sz+Dl*k+Dl*X.sz<=X.rm;rw[aD];exact n4
   rm:=NF
   n:=hn
   prod:=by
    show nb*Dl<=100000000;exact Af (Nat.mul_le_mul hnb n2.2) a5}
  refine(qm hP hw rfl rfl rfl rfl).mono ?_;rintro e w' (⟨F,N,C,l',m',j,he,Q,h2,h3,h4,h5,h6⟩|⟨er,he,Q,m',h6⟩)
  ·exact⟨F,N,k,C,0,he,.inl ⟨rfl,rfl,l',m',j,⟨Q,h2,h3,h4,h5⟩,h6⟩⟩
  ·refine⟨0,0,0,0,er,he,.inr ⟨⟨rfl,rfl,rfl,rfl⟩,?_,m',h6⟩⟩;rcases Q with⟨Q,h7⟩|Q
   ·exact .inl ⟨Q,λz hz=>h7 z (GF hz Ye)⟩
   ·exact .inr Q
 have IC:Hid (∀dH sb F N k' C er O Lf,((er=0/\k'=k/\∃(l':List Cv) (m' j:Nat),((∃s,NC o s/\Cl o l s/\l'=Dp once o s)/\GY F N k hh l' X.sz/\C=l'.length/\(j=0\/2^(j-1)<nb)/\m'<=m+2*nb*(1+j))/\Wd X (os.set i Dt++([DJ J first nb k count,Cs I 132 [AA AB o.a,AA AB o.b,AA AB o.c,AA AB o.d,AA AB o.e],DJ H 0 0 0 0]++[Cs sb 193 (Em X.p.w k hh rb Dl o once count)])++[Da F N k hh l' X.sz,DJ dH F N k C]) m' O)\/
   ((F=0/\N=0/\k'=0/\C=0)/\((er=5/\∀z,¬Rm X os z (3*nb))\/(er=6/\¬X.cm))/\∃m',Wd X (os++([DJ J first nb k count,Cs I 132 [AA AB o.a,AA AB o.b,AA AB o.c,AA AB o.d,AA AB o.e],DJ H 0 0 0 0]++[Cs sb 193 (Em X.p.w k hh rb Dl o once count)])++[DJ dH 0 0 0 0]) m' O))->Lf=((((O.setCell ⟨H,0,AD⟩ (AA AB (F:Nat))).setCell ⟨H,1,AD⟩ (AA AB (N:Nat))).setCell ⟨H,2,AD⟩ (AA AB (k':Nat))).setCell ⟨H,3,AD⟩ (AA AB (C:Nat)))->
  (Lf.cell? H=AE (AA AB (F:Nat))/\Lf.cell? (H,1)=AE (AA AB (N:Nat))/\Lf.cell? (H,2)=AE (AA AB (k':Nat))/\Lf.cell? (H,3)=AE (AA AB (C:Nat)))/\
   Hid (Vy X os i m nb k hh l o once (AH (AM #[AL #[AA AB (F:Nat),AA AB (N:Nat),AA AB (k':Nat),AA AB (C:Nat)],AA AB er])) Lf)):=λdH sb F N k' C er O Lf h hw=>Vz.fin (first:=first) hi h hw
 have H3:=AO h3;have HI:=AO hi;have Xb:sz<=256:=by rw[<-ar];exact aA.1.2
 obtain⟨S5,a1⟩:=al (5*sz);have a6:(5:Int)*(sz:Int)=(S5:Int):=a5;have a7:S5<=1280:=a5;have a3:S5<=LF:=a5;have a9:decide (LF<S5)=false:=by simp;omega
 have a8:decide ((LF:Int)<(S5:Int))=false:=by simp;omega
 have FK:=dP.out W3 h3;obtain⟨c0,c1,c2,c3,c4⟩:=FK.2.1.q5;have gS:nb<=2000000:=a5;clear FK h Q h2 h3 aC hi hf hc Yc aa NF hnb hn Lp aA MN av Qx n1 n2 n3 n4 EB G9 Kv z1 z2 Qz IZ uI ar a1 Fh;go_enter func108,ntmps108
 go_upto_region 1 with(fail)
 rw[<-Jy.out];clear Jy e5 e6 e8;go_wp2_with fail
 refine aH.out.mono ?_;rintro e w4 ⟨rfl,IX⟩;have h4:=H3.out.below IX;have r4:=(dP.out w4 h4).1;obtain⟨d0,d1,d2,d3⟩:=r4.q4;have aK:=AO (aJ.out w4 h4);clear c0 c1 c2 c3 c4 r4 IX aH H3 h4 aJ;go_wp2_with fail
 refine aK.out.mono ?_;rintro e w5 ⟨rfl,h5⟩;have H1:=AO (jk.out w5 h5);have H2:=AO (yD.out w5 h5);have H3:=AO (qa.out w5 h5);have H4:=AO (aI.out w5 h5);have HT:=AO (Qd.out w5 h5);have r5:=(dP.out w5 h5).1;obtain⟨g0,g1,g2,g3⟩:=r5.q4;clear h5 r5 aK d0 d1 d2 d3 jk yD qa aI Qd;go_wp2_with fail
 refine H1.out.mono ?_;rintro e w ⟨rfl,rfl⟩;go_wp2_with fail
 refine H2.out.mono ?_;rintro e w' ⟨rfl,rfl⟩;go_wp2_with fail
 refine H3.out.mono ?_;rintro e w6 ⟨rfl,rfl⟩;go_wp2_with fail
 refine H4.out.mono ?_;rintro e w7 ⟨rfl,rfl⟩;clear H1 H2 H3 H4;go_wp2_with fail
 refine HT.out.mono ?_;rintro e w8 ⟨rfl,h8⟩;clear HT g0 g1 g2 g3;have aB:=h8.below (Cz (AS _ _));have a0:=AO (aG.out _ aB);have vM:Hid (∀w,Wd X (os++[DJ J first nb k count,Cs I 132 [o.a,o.b,o.c,o.d,o.e],DJ H 0 0 0 0]) m w->(w.cell? I=AE (AA AB o.a)/\w.cell? (I,1)=AE (AA AB o.b)/\w.cell? (I,2)=AE (AA AB o.c)/\w.cell? (I,3)=AE (AA AB o.d)/\w.cell? (I,4)=AE (AA AB o.e)/\w.cell? (J,3)=AE (AA AB count)/\w.cell? (J,2)=AE (AA AB k))):=λw hw=>by
  obtain⟨j5,j6,_⟩:=dP.out w hw;exact⟨j6.cell 0,j6.cell 1,j6.cell 2,j6.cell 3,j6.cell 4,j5.cell 3,j5.cell 2⟩
 have s1:=vM.out _ aB;clear h8 aB aG;go_upto_region 7 with(fail)
 go_region_held3 (λw=>w.cell? I=AE (AA AB o.a)/\w.cell? (I,1)=AE (AA AB o.b)/\w.cell? (I,2)=AE (AA AB o.c)/\w.cell? (I,3)=AE (AA AB o.d)/\w.cell? (I,4)=AE (AA AB o.e)/\w.cell? (J,3)=AE (AA AB count)/\w.cell? (J,2)=AE (AA AB k)) (first|with_reducible exact s1|with_reducible exact s2|with_reducible exact s3)
  ((go_at_call 129;(with_reducible refine a0.out.mono ?_);rintro e O ⟨rfl,h9⟩;have s2:=vM.out O h9;have s3:=vM.out _ (h9.below ((AS _ _).alloc ao (AK #[k,hh,rb,Dl,AI X.p.w,o.a,o.b,o.c,o.d,o.e,once,count] 193)))))
 have OJ:Wd X (os++([DJ J first nb k count,Cs I 132 [o.a,o.b,o.c,o.d,o.e],DJ H 0 0 0 0]++[Cs O 193 (Em X.p.w k hh rb Dl o once count)])) m (O.alloc (AK #[k,hh,rb,Dl,AI X.p.w,o.a,o.b,o.c,o.d,o.e,once,count] 193)):=by
  have Xt:=h9.new ((AS _ _).alloc ao _) (g:=O) (t:=193) (cs:=Em X.p.w k hh rb Dl o once count) (heap_alloc_new O (AK #[k,hh,rb,Dl,AI X.p.w,o.a,o.b,o.c,o.d,o.e,once,count] 193)) ao;rw[AR]at Xt;exact Xt
 clear s1 s2 s3 h9 a0 vM;generalize O.alloc (AK #[k,hh,rb,Dl,AI X.p.w,o.a,o.b,o.c,o.d,o.e,once,count] 193)=Lf at*
 generalize O.heap.size=sb at*
 obtain⟨j5,j6,j8⟩:=Fz.out _ _ _ OJ;obtain⟨d0,d1,d2,d3⟩:=j5.q4;have aY:=AO (aF.out Lf sb OJ);clear j5 j6 j8 OJ aF;go_wp2_with fail
 refine aY.out.mono ?_;rintro e U ⟨F,N,k',C,er,rfl,IV⟩;clear d0 d1 d2 d3 aY;have Ia:Below U U (U.alloc (AK #[F,N,k',C] 28)):=(AS _ _).alloc ao _;have ad:Row (U.alloc (AK #[F,N,k',C] 28)) U 28 [F,N,k',C]:=heap_alloc_new _ _;rcases IV with⟨rfl,aw,l',m',j,gW,JW⟩|⟨⟨rfl,rfl,rfl,rfl⟩,KR,m',JW⟩
 ·have aw:=aw.symm;subst aw;have Pt:Wd X (os++([DJ J first nb k count,Cs I 132 [o.a,o.b,o.c,o.d,o.e],DJ H 0 0 0 0]++[Cs sb 193 (Em X.p.w k hh rb Dl o once count)])++[Da F N k hh l' X.sz,DJ U F N k C]) m' (U.alloc (AK #[F,N,k,C] 28)):=by
   have Td:=JW.new Ia ad ao;rw[AR]at Td;exact Td
  have YR:=AO gW;clear JW Ia ad gW;have PT:Wd X (os++([DJ J first nb k count,Cs I 132 [o.a,o.b,o.c,o.d,o.e],DJ H 0 0 0 0]++([Cs sb 193 (Em X.p.w k hh rb Dl o once count)]++[Da F N k hh l' X.sz,DJ U F N k C]))) m' (U.alloc (AK #[F,N,k,C] 28)):=by
   rw[AR,AR]at Pt;exact Pt
  obtain⟨j5,_,_⟩:=Fz.out _ _ _ PT;obtain⟨d0,d1,d2,d3⟩:=j5.q4;have Th:Hid (Calls AP 67 #[AI X.p.w,AL #[first,nb,k,count]] (U.alloc (AK #[F,N,k,C] 28)) λe w'=>e=AH ()/\Wd X (os.set i Dt++([DJ J first nb k count,Cs I 132 [o.a,o.b,o.c,o.d,o.e],DJ H 0 0 0 0]++[Cs sb 193 (Em X.p.w k hh rb Dl o once count)])++[Da F N k hh l' X.sz,DJ U F N k C]) m' w'):=by
   refine(OP Pt (Df (Df HI.out)) SU gS count).mono ?_;rintro e w' ⟨he,aE⟩;rw[AR,IU HI.out,<-AR]at aE;exact⟨he,aE⟩
  clear Pt PT j5;go_upto_region 10 with(fail)
  generalize U.alloc (AK #[F,N,k,C] 28)=jN at*
  generalize U.heap.size=dH at*
  go_wp2_with fail
  refine Th.out.mono ?_;rintro e O ⟨rfl,h9⟩;clear d0 d1 d2 d3 Th;have PT:Wd X (os.set i Dt++([DJ J first nb k count,Cs I 132 [o.a,o.b,o.c,o.d,o.e],DJ H 0 0 0 0]++([Cs sb 193 (Em X.p.w k hh rb Dl o once count)]++[Da F N k hh l' X.sz,DJ dH F N k C]))) m' O:=by
   rw[AR,AR]at h9;exact h9
  have r8:Row O H 28 [(),(),(),()]:=PT.row (DD _ _ 2);have ab:Row O dH 28 [F,N,k,C]:=PT.row (DD _ _ 5);obtain⟨x0,x1,x2,x3⟩:=ab.q4;obtain⟨y0,y1,y2,y3⟩:=r8.q4;obtain⟨f0,f1,f2,f3⟩:=r8.r4;have IP:=IC.out dH sb F N k C 0 O _ (.inl ⟨rfl,rfl,l',m',j,YR.out,h9⟩) rfl;clear h9 PT r8 ab IC YR;go_wp2
  generalize((((O.setCell H F).setCell (H,1) N).setCell (H,2) k).setCell (H,3) C)=Lf at*
  obtain⟨⟨q0,q1,q2,q3⟩,HD⟩:=IP;exact Aw (v:=AM #[AL #[F,N,k,C],()]) (by simp[results,Tryz.results108,go_sem,q0,q1,q2,q3]) rfl HD.out
 ·have Pt:Wd X (os++([DJ J first nb k count,Cs I 132 [o.a,o.b,o.c,o.d,o.e],DJ H 0 0 0 0]++[Cs sb 193 (Em X.p.w k hh rb Dl o once count)])++[DJ U 0 0 0 0]) m' (U.alloc (AK #[(),(),(),()] 28)):=JW.new Ia ad ao;have aX:=AO KR;have gX:er=5\/er=6:=KR.elim (λh=>.inl h.1) λh=>.inr h.1;have a2:(er==0)=false:=by rcases gX with rfl|rfl<;>rfl
  clear JW Ia ad KR gX;go_upto_region 11 with(fail)
  have PT:Wd X (os++([DJ J first nb k count,Cs I 132 [o.a,o.b,o.c,o.d,o.e],DJ H 0 0 0 0]++([Cs sb 193 (Em X.p.w k hh rb Dl o once count)]++[DJ U 0 0 0 0]))) m' (U.alloc (AK #[(),(),(),()] 28)):=by
   rw[AR,AR]at Pt;exact Pt
  generalize U.alloc (AK #[(),(),(),()] 28)=O at*
  generalize U.heap.size=dH at*
  have r8:Row O H 28 [(),(),(),()]:=PT.row (DD _ _ 2);have ab:Row O dH 28 [(),(),(),()]:=PT.row (DD _ _ 4);obtain⟨x0,x1,x2,x3⟩:=ab.q4;obtain⟨y0,y1,y2,y3⟩:=r8.q4;obtain⟨f0,f1,f2,f3⟩:=r8.r4;have IP:=IC.out dH sb 0 0 0 0 er O _ (.inr ⟨⟨rfl,rfl,rfl,rfl⟩,aX.out,m',Pt⟩) rfl;clear Pt PT r8 ab IC aX;go_wp2
  generalize((((O.setCell H ((0:Nat):Int)).setCell (H,1) ((0:Nat):Int)).setCell (H,2) ((0:Nat):Int)).setCell (H,3) ((0:Nat):Int))=Lf at*
  obtain⟨⟨q0,q1,q2,q3⟩,HD⟩:=IP;exact Aw (v:=AM #[AL #[(),(),(),()],er]) (by simp[results,Tryz.results108,go_sem,q0,q1,q2,q3]) rfl HD.out
end
end Go.Proofs.YthfnbpjegjbbiaaGreat
