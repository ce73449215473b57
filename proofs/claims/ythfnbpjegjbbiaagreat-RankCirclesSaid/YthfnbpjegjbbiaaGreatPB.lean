/- What the laws stand on. -/
import Derived.Test.YthfnbpjegjbbiaaGreatPA
namespace Go.Proofs.YthfnbpjegjbbiaaGreat
set_option linter.unusedVariables false
set_option maxRecDepth 100000
set_option maxHeartbeats 8000000
open Go.ChangeShapes Go.WideShapes Go.ChangeAt Go.RowKit
open Go.Joins Go.Deep
open Go.ChangeShapes Go.WideShapes Go.ChangeAt Go.RowKit Go.Maps
open Go.ChangeMaps (setBlock heap_setBlock_same heap_setBlock_other)
open Go.Value renaming pointer → AI
open Go.Value renaming int → AA
open Go.IntKind renaming i64 → AB
open Option renaming some → AE
open Option renaming none → AD
open Lib renaming hid → AG
open Go.Ending renaming returned → AH
open Go.Value renaming slice → AJ
open Go.Obj renaming cells → AK
open Go.Value renaming agg → AL
open Go.Value renaming tuple → AM
open Go.Lib renaming hid → AO
open Go.Proofs.Tryz renaming prog → AP, underlying101 → Ad, underlying116 → Bc, results139 → Ca
open Nat renaming le_refl → AQ, mul_le_mul_right → Ae, le_trans → Af, lt_or_ge → Am, sub_self → Ap, zero_le → Aq, add_mul → A6, eq_zero_or_pos → A7, one_mul → BD, lt_of_lt_of_le → BH, zero_add → BL, add_sub_cancel → BQ, div_le_self → BW, min_eq_left → Bh, mod_lt → Bw, mul_comm → B6, add_assoc → CK, zero_mul → CS, div_mul_le_self → CU, min → CW, reduceAdd → Cb, lt_of_le_of_lt → Ce, add_sub_cancel_left → Cm
open List renaming append_assoc → AR, getD_eq_getElem?_getD → AT, getElem?_eq_getElem → AU, getElem?_cons_succ → AV, getElem?_cons_zero → AW, getElem?_append_right → AX, length_append → AY, append_nil → AZ, length_take → Ac, mem_append → Ag, length_map → Aj, mem_of_getElem? → Ak, getElem?_append_left → Al, length_drop → An, take_of_length_le → Ao, set_append_right → As, getElem?_take → At, getElem?_set → Av, mem_cons_self → Ax, mem_map → Az, mem_cons → A8, replicate → BA, mem_cons_of_mem → BB, mem_iff_getElem? → BC, getElem?_eq_none → BG, nil_append → BI, getElem?_eq_some_iff → BM, getElem_of_mem → BO, take_append_drop → BS, length_cons → BY, filter_append → Ba, getElem?_map → Bd, take_add_one → Bi, length_set → Bk, mem_singleton → Bn, mem_of_mem_take → Bo, getElem_mem → Bs, take_zero → Bt, range → Bu, take_length → By, set_cons_succ → Bz, pairwise_iff_getElem → B0, nodup_cons → B3, mem_filter → B4, take_take → B7, cons_append → B8, getElem?_drop → CL, drop_eq_getElem_cons → CQ, take_append_of_le_length → CX, findIdx_le_length → Cg, map_append → Cj, drop_zero → Cn, drop_drop → Co
open Go.RowKit.Below renaming refl → AS, trans → CM, size → CN, mono → CO
open Go.IntKind renaming i64 → Aa, wrap_i64 → BV
open Go renaming cell_regrown → Ab, bodyPost_ret → Aw, leaves_cons → Ay, wp_region_quiet_below → Bb, FrameMode → Bf, below_regrown → Bj, run_underlying → Bv, wpQuiet_nil → CV, block_lt_of_cell → Ci, Regrown → Cq
open Go.IntWalk renaming i64_in → Ah
open Go.Sort renaming grow → Ai
open Go.RowKit renaming intOf → BF
open Iff renaming rfl → BN
open Go.Result renaming andThen → BP
open Go.Calls renaming regrown_of → BU
open Int renaming toNat_natCast → BX, natCast_mul → Be, lt_trichotomy → Ck, tmod → Cp
open Go.Builtin renaming zeroCells → BZ
open Go.Value renaming int → Bg, ownBlock → Bp
open Go.Addr renaming add_lit → Bl, add → CY
open Go.Ending renaming returned → Bm
open And renaming intro → Bq
open Go.Sem renaming run → Br
open Go.Instr renaming index → CR
open Classical renaming byContradiction → CZ
open List.Perm renaming append_left → Cc, refl → Cf
open Go.Lit renaming int → Cd
open Go.Proofs.Tryz
open Nat.le renaming refl → ao
section
variable(p:Nat)(s:St)(bl bf:Nat)(v:Value)(w:World)
theorem oM(H:Row w p 94 (cellsOf s bl bf v)):Calls AP 118 #[AI p] w λe w'=>e=AH (.bool s.down)/\w'=w:=by
 have I:w.cell? (p,9)=AE (.bool s.down):=H.cell 9;go_enter func118,ntmps118
 go_wp2
 go_ret
 exact⟨rfl,rfl⟩
theorem kY(H:Row w p 94 (cellsOf s bl bf v)):Calls AP 34 #[AI p] w λe w'=>e=AH s.size/\w'=w:=by
 have c0:w.cell? p=AE (AA AB (s.size:Int)):=H.cell 0;go_enter func34,ntmps34
 go_wp2
 go_ret
 exact⟨rfl,rfl⟩
theorem ah(H:Row w p 94 (cellsOf s bl bf v)):Calls AP 121 #[AI p] w λe w'=>e=AH s.blocks/\w'=w:=by
 have I:w.cell? (p,1)=AE (AA AB s.blocks):=H.cell 1;go_enter func121,ntmps121
 go_wp2
 go_ret
 exact⟨rfl,rfl⟩
theorem cW(i:Int)(Q:Row w p 94 (cellsOf s bl bf v)):Calls AP 103 #[AI p,i] w λe w'=>e=AH (.bool (right s i))/\w'=w:=by
 have hb:=ah p s bl bf v w Q;have O:Hid (right s i=(decide (0<=i)&&decide (i<s.blocks))):=rfl;by_cases I:0<=i
 ·have J:decide (i≥0)=true:=by simpa using I
  have H:decide (0<=i)=true:=by simpa using I
  go_enter func103,ntmps103
  go_wp2_with fail
  refine hb.mono ?_;rintro e w1 ⟨rfl,rfl⟩;go_wp2
  go_ret
  exact⟨II (by rw[O.out,H];simp),rfl⟩
 ·have J:decide (i≥0)=false:=by simpa using I
  have H:decide (0<=i)=false:=by simpa using I
  go_enter func103,ntmps103
  go_wp2
  go_ret
  exact⟨II (by rw[O.out,H];simp),rfl⟩
theorem Pg(b o:Nat)(isSet:Bool)(left:Int)(c0:w.cell? (b,o)=AE (.bool isSet))(H:w.cell? (b,o+1)=AE (AA AB left)):
  Calls AP 119 #[AI (b,o)] w λe w'=>e=AH (.bool (isSet&&left==0))/\w'=w:=by
 cases isSet
 ·go_enter func119,ntmps119
  go_wp2
  go_ret
  exact⟨rfl,rfl⟩
 ·go_enter func119,ntmps119
  go_wp2
  go_ret
  exact⟨rfl,rfl⟩
theorem SA(b o:Nat)(isSet:Bool)(left:Int)(c0:w.cell? (b,o)=AE (.bool isSet))(I:w.cell? (b,o+1)=AE (AA AB left))(f1:w.frozen? (b,o+1)=false)(H:0<=left/\left<=1000000):
  Calls AP 120 #[AI (b,o)] w λe w'=>e=AH (AM #[])/\w'=if isSet then w.setCell (b,o+1) (AA AB (left-1))else w:=by
 cases isSet
 ·go_enter func120,ntmps120
  go_wp2
  go_end0
  exact⟨rfl,rfl⟩
 ·go_enter func120,ntmps120
  go_wp2
  go_end0
  exact⟨rfl,rfl⟩
end
theorem Row.Gz{w p s s' bl bf v}(e:Row w p 94 (cellsOf s bl bf v))(i:Nat)(u:Value)(he:(cellsOf s bl bf v).set i u=cellsOf s' bl bf v):Row (w.setCell (p,i) u) p 94 (cellsOf s' bl bf v):=by
 have:=e.set i u;rw[he]at this;exact this
theorem KE{w w1 p}(h:DG (λk=>k=p) w w1)(i:Nat)(u:Value):DG (λk=>k=p) w (w1.setCell (p,i) u):=h.set (.inl rfl) u
theorem St.uU(s:St)(h:s.fb=false):({s with fn:=if s.fb then s.fn-1 else s.fn}:St)=s:=by cases s;simp_all
theorem St.rN(s:St)(h:s.tb=false):({s with tn:=if s.tb then s.tn-1 else s.tn}:St)=s:=by cases s;simp_all
theorem St.uV(s:St)(h:s.fb=true):({s with fn:=if s.fb then s.fn-1 else s.fn}:St)={s with fn:=s.fn-1}:=by cases s;simp_all
theorem St.rO(s:St)(h:s.tb=true):({s with tn:=if s.tb then s.tn-1 else s.tn}:St)={s with tn:=s.tn-1}:=by cases s;simp_all
theorem iY(p:Nat)(s:St)(n:Nat)(bl bf:Nat)(v:Value)(b:Bool)(w:World)(hf:Fits s n)(J:Row w p 94 (cellsOf s bl bf v)):
  Calls AP 102 #[AI p,b] w λe w'=>e=AH (AA AB (begin s b).1)/\Row w' p 94 (cellsOf (begin s b).2 bl bf v)/\DG (λk=>k=p) w w':=by
 have hd:=oM p s bl bf v w J;by_cases Xp:s.down=true
 ·have HX:=AO (ak s b Xp);rw[Xp]at hd;go_enter func102,ntmps102
  go_wp2_with fail
  refine hd.mono ?_;rintro e w1 ⟨rfl,rfl⟩;go_wp2
  go_ret
  rw[HX.out];exact⟨rfl,J,DG.refl _ _⟩
 have aF:s.down=false:=by simpa using Xp
 rw[aF]at hd
 cases b
 ·have HX:Hid (begin s false=(1,s)):=by unfold Hid begin;simp[aF]
  go_enter func102,ntmps102
  go_wp2_with fail
  refine hd.mono ?_;rintro e w1 ⟨rfl,rfl⟩;go_wp2
  go_ret
  rw[HX.out];exact⟨rfl,J,DG.refl _ _⟩
 have hi:=Pg w p 5 s.fb s.fn (J.cell 5) (J.cell 6);by_cases hA:s.fb=true/\s.fn=0
 ·have HX:Hid (begin s true=(8,{s with down:=true})):=by unfold Hid begin;simp[aF,hA]
  rw[show (s.fb&&s.fn==0)=true by simp[hA]]at hi;have f9:=J.free 9;have c9:w.cell? (p,9)=AE (.bool s.down):=J.cell 9;go_enter func102,ntmps102
  go_wp2_with fail
  refine hd.mono ?_;rintro e w1 ⟨rfl,rfl⟩;go_wp2_with fail
  refine hi.mono ?_;rintro e w1 ⟨rfl,rfl⟩;go_wp2
  go_ret
  rw[HX.out];exact⟨rfl,J.Gz 9 _ rfl,KE (DG.refl _ _) _ _⟩
 rw[show (s.fb&&s.fn==0)=false by rw[Bool.eq_false_iff];simpa using hA]at hi;have hl:=SA w p 5 s.fb s.fn (J.cell 5) (J.cell 6) (J.free 6) hf.fn;obtain⟨H,Gg⟩:∃H:St,H={s with fn:=if s.fb then s.fn-1 else s.fn}:=⟨_,rfl⟩;have ER:∀w',w'=(if s.fb=true then w.setCell (p,5+1) (AA AB (s.fn-1))else w)->Row w' p 94 (cellsOf H bl bf v)/\DG (λk=>k=p) w w':=by
  intro w' U;subst Gg;by_cases Q:s.fb=false
  ·rw[St.uU s Q];rw[Q]at U;simp at U;subst U;exact⟨J,DG.refl _ _⟩
  ·have Q:s.fb=true:=by simpa using Q
   rw[St.uV s Q];rw[Q]at U;simp at U;subst U;exact⟨J.Gz 6 _ rfl,KE (DG.refl _ _) _ _⟩
 have ab:=AO ER;have wL:H.tb=s.tb:=by rw[Gg]
 have zD:H.tn=s.tn:=by rw[Gg]
 by_cases hC:s.tb=true/\s.tn=0
 ·have HX:Hid (begin s true=(6,{H with tb:=false,tn:=0})):=by
   subst Gg;unfold Hid begin;rw[if_neg Xp,if_neg a6,if_neg hA];dsimp only;rw[if_pos hC]
  clear ER Gg;go_enter func102,ntmps102
  go_wp2_with fail
  refine hd.mono ?_;rintro e w1 ⟨rfl,rfl⟩;go_wp2_with fail
  refine hi.mono ?_;rintro e w1 ⟨rfl,rfl⟩;go_wp2_with fail
  refine hl.mono ?_;rintro e w2 ⟨rfl,GK⟩;obtain⟨I,Gl⟩:=ab.out w2 GK;have Qf:=AO I;have RA:=AO Gl;clear GK Gl hl hi hd;have O:=Pg w2 p 7 H.tb H.tn (I.cell 7) (I.cell 8);rw[show (H.tb&&H.tn==0)=true by simp[wL,zD,hC]]at O;obtain⟨-,-,-,-,-,-,-,f7,f8⟩:=I.r9;obtain⟨-,-,-,-,-,-,-,c7,c8⟩:=I.q9;clear I hC wL zD;go_wp2_with fail
  refine O.mono ?_;rintro e w3 ⟨rfl,rfl⟩;go_wp2
  go_ret
  rw[HX.out];exact⟨rfl,(Qf.out.Gz (s':={H with tb:=false}) 7 _ rfl).Gz 8 _ rfl,KE (KE RA.out _ _) _ _⟩
 ·have HX:Hid (begin s true=(0,{H with tn:=if H.tb then H.tn-1 else H.tn,Dg:=H.Dg+1})):=by
   subst Gg;unfold Hid begin;rw[if_neg Xp,if_neg a6,if_neg hA];dsimp only;rw[if_neg hC]
  have aa:0<=H.tn/\H.tn<=1000000:=by rw[zD];exact hf.tn
  have has:0<=H.Dg/\H.Dg<=n:=by rw[Gg];exact hf.Dg
  have h6:=hf.small;clear ER Gg;go_enter func102,ntmps102
  go_wp2_with fail
  refine hd.mono ?_;rintro e w1 ⟨rfl,rfl⟩;go_wp2_with fail
  refine hi.mono ?_;rintro e w1 ⟨rfl,rfl⟩;go_wp2_with fail
  refine hl.mono ?_;rintro e w2 ⟨rfl,GK⟩;obtain⟨I,Gl⟩:=ab.out w2 GK;have Qf:=AO I;have RA:=AO Gl;clear GK Gl hl hi hd;have O:=Pg w2 p 7 H.tb H.tn (I.cell 7) (I.cell 8);rw[show (H.tb&&H.tn==0)=false by rw[Bool.eq_false_iff,wL,zD];simpa using hC]at O;have zY:=SA w2 p 7 H.tb H.tn (I.cell 7) (I.cell 8) (I.free 8) aa;have FK:∀w',w'=(if H.tb=true then w2.setCell (p,7+1) (AA AB (H.tn-1))else w2)->Row w' p 94 (cellsOf {H with tn:=if H.tb then H.tn-1 else H.tn} bl bf v)/\DG (λk=>k=p) w1 w':=by
   intro w' U;by_cases Q:H.tb=false
   ·rw[St.rN H Q];rw[Q]at U;simp at U;subst U;exact⟨I,RA.out⟩
   ·have Q:H.tb=true:=by simpa using Q
    rw[St.rO H Q];rw[Q]at U;simp at U;subst U;exact⟨I.Gz 8 _ rfl,KE RA.out _ _⟩
  have Gb:=AO FK;clear I FK hC wL zD aa;go_wp2_with fail
  refine O.mono ?_;rintro e w3 ⟨rfl,rfl⟩;go_wp2_with fail
  refine zY.mono ?_;rintro e w4 ⟨rfl,Zx⟩;obtain⟨JU,Qy⟩:=Gb.out w4 Zx;have QC:=AO JU;have ad:=AO Qy;have ae:=JU.free 10;have al:w4.cell? (p,10)=AE (AA AB H.Dg):=JU.cell 10;clear Zx JU Qy O zY;go_wp2
  go_ret
  rw[HX.out];exact⟨rfl,QC.out.Gz 10 _ rfl,KE ad.out _ _⟩
theorem dK(p:Nat)(s:St)(n:Nat)(G:Nat->Prop)(b:Bool)(w:World)(h:LC w G p s n)(I:n<1000000):
  Calls AP 102 #[AI p,b] w λe w'=>e=AH (AA AB (begin s b).1)/\pn w' G p (begin s b).2 (n+1) n/\DG (λk=>k=p) w w':=by
 obtain⟨bl,bf,v,nl,H,_⟩:=id h.2;refine(iY p s n bl bf v b w h.1 H).mono ?_;rintro e w' ⟨he,J,h3⟩;exact⟨he,h.begin H J h3 (aj h.1 I b),h3⟩
theorem LC.Nn{w w' G p s s' n n' bl bf v}(h:LC w G p s n)(J:Row w p 94 (cellsOf s bl bf v))(h2:Row w' p 94 (cellsOf s' bl bf v))(hf:DG (λk=>k=p) w w')(ab:Fits s' n')(hn:n<=n')(e3:s'.fl=s.fl)(e4:s'.Dk=s.Dk):LC w' G p s' n':=by
 obtain⟨h0,O,Q,v',nl,I,U,k3,k4,k5,k6,k7,k8,k9,Zp⟩:=h;have e0:cellsOf s bl bf v=cellsOf s O Q v':=by
  unfold Row at J I;rw[J]at I;injection I with I;injection I with I;simpa using I
 obtain⟨rfl,rfl,rfl⟩:bl=O/\bf=Q/\v=v':=by simpa [cellsOf]using e0
 have aa:∀k cs,Row w k 120 cs->k≠p:=by
  intro k cs H e;subst e;unfold Row at J H;rw[J]at H;injection H with H;injection H with _ H;exact absurd H a6
 have DV:bl≠p:=λe=>U.EG J e.symm;have DN:bf≠p:=λe=>k3.EG J e.symm;have MR:∀k cs,Row w k 120 cs->G k->w'.heap[k]?=w.heap[k]?:=λk cs H _=>hf.block k H.lt (aa k cs H);refine⟨ab,bl,bf,v,nl,h2,?_,?_,?_,k5,k6,k7,k8,λk H=>BH (k9 k H) hf.size,by rw[e4];omega⟩
 ·rw[e3];exact U.GS (hf.block bl U.lt DV) MR (λk _ _ H=>H)
 ·rw[e4];exact k3.GS (hf.block bf k3.lt DN) MR (λk _ _ H=>H)
 ·rw[e4];exact k4.GS (λk H hg=>⟨hf.block k (k9 k hg) λe=>k4.EG J a6 (by rw[<-e];exact H),hg⟩) MR (λk _ _ H=>H)
theorem XR(n:Int)(w:World)(H:0<=n):Calls AP 49 #[n] w λe w'=>e=AH (AL #[true,n])/\Below w w w':=by
 have g:decide (n<0)=false:=by simpa using H
 go_enter func49,ntmps49
 go_wp2
 refine Aw (v:=AL #[true,n]) (by simp[results,Tryz.results49,go_sem]) rfl ?_;exact⟨rfl,(AS _ w).alloc ao _⟩
theorem U9(p:Nat)(s:St)(n:Nat)(G:Nat->Prop)(m:Int)(w:World)(h:LC w G p s n)(O:0<=m)(U:m<=1000000):
  Calls AP 20 #[AI p,m] w λe w'=>e=AH (AM #[])/\LC w' G p {s with tb:=true,tn:=m} n/\DG (λk=>k=p) w w':=by
 obtain⟨bl,bf,v,nl,J,_⟩:=id h.2;have H:Fits {s with tb:=true,tn:=m} n:=⟨h.1.size,h.1.blocks,h.1.fn,⟨O,U⟩,h.1.Dg,h.1.small,h.1.Dk,h.1.fl⟩;have hd:=AO h;clear h;have hb:=XR m w O;go_enter func20,ntmps20
 go_wp2_with fail
 refine hb.mono ?_;rintro e w1 ⟨rfl,DV⟩;have I:=J.below DV J.lt;have Kr:=AO (hd.out.below DV);obtain⟨-,-,-,-,-,-,-,c5,c6⟩:=I.q9;obtain⟨-,-,-,-,-,-,-,f5,f6⟩:=I.r9;have OK:=AO (DG.DB DV (λk=>k=p));have Q:=AO I;clear DV I hb;go_wp2
 go_end0
 exact⟨rfl,Kr.out.Nn Q.out ((Q.out.Gz (s':={s with tb:=true}) 7 _ rfl).Gz (s':={s with tb:=true,tn:=m}) 8 _ rfl) (KE (KE (DG.refl _ _) _ _) _ _) H ao rfl rfl,KE (KE OK.out _ _) _ _⟩
theorem wG:(AP.info? 120).map (λi=>(i.zero,i.size,i.bytes))=AE (AE (.int .u64 0),1,8):=a7
theorem ownsRow_made(w:World)(e:TypeId):(w.alloc (AK #[] e)).ownsRow w e 1 (AJ w 0 0) 0 []:=
 ⟨rfl,.inr ⟨w.heap.size,0,#[],rfl,AQ _,heap_alloc_new _ _,AQ _,Aq _,rfl,rfl⟩⟩
theorem fK{w base v n l}(h:w.ownsRow base 120 1 v n (l.map λx:Nat=>Bg .u64 x))(I:l.length=n)(hp:0<n)(hw:∀x∈l,(Cd .u64 (x:Nat)).wf=true):Words w (λk=>base<=k) v l:=by
 subst I;obtain⟨g,cap,cs,rfl,J,H,O,hm,_,e⟩:=sP h hp;exact⟨g,cap,cs,rfl,H,J,O,hm,hp,hw,e⟩
theorem Np(A:Option Addr)(n c:Nat)(l:List Nat)(w:World){B}(I:Reads .u64 w B A n l)(Q:0<n)(PO:n<=1000000)(hB:B<=w):
  Calls AP 104 #[AJ A n c] w λe w'=>∃v,e=AH v/\Words w' (λk=>w<=k) v l/\Below w w w':=by
 obtain⟨i0,hi,Ft,Ew,Js⟩:=info_parts wG;obtain⟨Oo,U,O⟩:=id I;obtain⟨b,off,rfl,nX,_⟩:=O Q;have HL:=AO I;have H:=AO Oo;have Tg:=AO U;clear I Oo U O;have hq:=λw=>Go.Lib.run_eql_slice_nil (P:=AP) w 116 120 (b,off) n c 0 0 Bc;go_enter func104,ntmps104
 go_wp2_with (with_reducible refine EO 7 ?_)
 unfold Hid;refine Jc _ rfl _ _ 116 rfl w 120 i0 (.int .u64 0) 8 Bc hi Ft Ew Js rfl _ 0 [] rfl (ownsRow_made w 120) (b,off) n c (l.map λx:Nat=>Bg .u64 x) rfl (by rw[Aj];exact H.out) (HL.out.GS ((AS _ w).alloc a5 _:Below B w _)).source Uh a5 a5 a8 ?_;intro v' w' J hb;rw[BL,BI]at J;have HO:=AO J;have HB:=AO (((AS w w).alloc ao _).trans hb);clear J hb;go_wp2
 go_ret
 exact⟨v',rfl,fK HO.out H.out Q Tg.out,HB.out⟩
theorem yL(w:World):(zeroValue 116).run AP w=.ok (AJ AD 0 0) w:=a7
theorem GM(w:World){ops}{rest}{o}{a}{Q}
  (O:o.guard=AD)(m x:Operand)(Yb:o.op=Op.lookup 91 m x true)(b n:Nat)(f:Int->Option Value)(hm:a.eval m=.map (AE b))(h:Lv w b n f)(i:Int)(hi:Fg i)(J:a.eval x=.int AB i)
  (u:Value)(k:Bool)(hu:(u=.slice AD 0 0/\k=false/\f i=AD)\/(f i=AE u/\k=true))(I:wpList AP ops Q rest (a.put o.dst (AM #[u,k])) w):
  wpList AP ops Q (o::rest) a w:=by
 obtain⟨D,D7,h0,h1,h2⟩:=h;refine wpList_lookup_own_ok w O m x 91 Yb 3 116 law underlying91 XY (yL w) (.held (.slice AD 0 0)) [] rfl b n D hm D7 _ (.int AB i) J (y5 hi) ?_;intro v ps H;have e:DataW.held v=D.atKey (.int AB i) (.held (.slice AD 0 0)):=by unfold XY at H;injection H with H;injection H
 rcases hu with⟨rfl,rfl,hn⟩|⟨hs,rfl⟩
 ·have hh:=h1 i hi hn;rw[Maps.atKey_of_not_has hh]at e;injection e with e
  rw[hh,e];exact I
 ·obtain⟨hh,U⟩:=h2 i u hi hs;rw[U]at e;injection e with e
  rw[hh,e];exact I
theorem Xh(size:Nat)(blocks:Int)(b:Nat)(w:World):
  Calls AP 50 #[size,blocks,.map (AE b)] w λe w'=>e=AH (AI (w.heap.size+1,0))/\Lv w' w.heap.size 0 nothing/\
   Row w' (w.heap.size+1) 94 (cellsOf (fresh size blocks) b w.heap.size (AJ AD 0 0))/\Below w.heap.size w w'/\w'.heap.size=w.heap.size+2:=by
 have H:=@run_makeMap AP;have J:=AO ((Lv.made w).same (w':=(w.alloc (.map #[] 0)).alloc (.cells (cellsOf (fresh size blocks) b w (AJ AD 0 0)).toArray 94)) (Below.heap_alloc _ _ _ a8));have I:Hid (Row ((w.alloc (.map #[] 0)).alloc (.cells (cellsOf (fresh size blocks) b w (AJ AD 0 0)).toArray 94)) (w+1) 94 (cellsOf (fresh size blocks) b w (AJ AD 0 0))):=by
  unfold Hid;have:=heap_alloc_new (w.alloc (.map #[] 0)) (.cells (cellsOf (fresh size blocks) b w (AJ AD 0 0)).toArray 94);simp only[World.alloc,Array.size_push]at this⊢;exact this
 go_enter func50,ntmps50
 go_wp2
 go_ret
 exact⟨rfl,J.out,I.out,((AS _ w).alloc ao _).alloc a8 _,a8⟩
theorem aN{size blocks}(I:8<=size/\size<=256)(H:0<=blocks/\blocks<=1000000):Fits (fresh size blocks) 0:=
 ⟨I,H,⟨Int.le_refl 0,(by decide:(0:Int)<=1000000)⟩,⟨Int.le_refl 0,(by decide:(0:Int)<=1000000)⟩,⟨Int.le_refl 0,Int.le_refl 0⟩,a6,λe he=>(by cases he),λx l h=>(by cases h)⟩
theorem sU(size:Nat)(blocks:Int)(w:World)(h1:8<=size/\size<=256)(U:0<=blocks/\blocks<=1000000):
  Calls AP 23 #[size,blocks] w λe w'=>∃p G,e=AH (AM #[AI (AE ⟨p,0,AD⟩),()])/\LC w' G p (fresh size blocks) 0/\(∀k,G k->w.heap.size<=k)/\Below w.heap.size w w':=by
 have aa:=@run_makeMap AP;have g1:decide ((size:Int)<8)=false:=by simp;omega
 have g2:decide ((size:Int)>256)=false:=by simp;omega
 have g3:decide (blocks<0)=false:=by simp;omega
 have g4:decide (blocks>1000000)=false:=by simp;omega
 have hh:=Xh size blocks w (w.alloc (.map #[] 0));have HM:=AO (Lv.made w);have HF:=AO (aN h1 U);clear h1 U;go_enter func23,ntmps23
 go_wp2_with fail
 refine hh.mono ?_;rintro e w1 ⟨rfl,J,O,DV,Ew⟩;have Q:(w.alloc (.map #[] 0)).heap.size=w+1:=a8;rw[Q]at J O DV Ew;have H:=HM.out.same (DV.block w a5);have HD:Hid (LC w1 (λk=>w<=k/\k<w1) (w+1+1) (fresh size blocks) 0):=
  ⟨HF.out,w.heap.size,w.heap.size+1,AJ AD 0 0,0,O,⟨nothing,H,λx=>trivial⟩,⟨nothing,J,λx=>trivial⟩,KJ.nil _ _,a5,⟨a5,a5⟩,⟨a5,a5⟩,⟨a5,a5⟩,λk I=>I.2,AQ _⟩
 have HB:=AO (((AS w w).alloc ao (.map #[] 0)).trans (DV.mono a5));clear J O DV H Q hh;go_wp2
 go_ret2
 exact⟨w+1+1,_,rfl,HD.out,λk I=>I.1,HB.out⟩
theorem Qp{w g n}(h:Row w g 120 (BA n (.int .u64 0)))(H:0<n)(hm:n<=maxLen){G}(I:G g):Words w G (AJ g n n) (BA n 0):=by
 refine⟨g,n,_,by rw[List.length_replicate],h,I,a8,hm,by simpa using H,λx e=>by rw[List.eq_of_mem_replicate e];decide,?_⟩;simp
theorem lK(p:Nat)(s:St)(n:Nat)(G:Nat->Prop)(i:Int)(w:World)(h:LC w G p s n)(hn:n<1000000)(hi:Fg i):
  Calls AP 96 #[AI p,i] w λe w'=>∃v,e=AH (AM #[v,AA AB (read s i).1])/\((read s i).1≠0->v=AJ AD 0 0)/\((read s i).1=0->Words w' (λk=>w<=k) v (s.now i))/\
   LC w' G p (read s i).2 (n+1)/\DG (λk=>k=p) w w':=by
 obtain⟨_,al,ar,v0,av,hr,_⟩:=id h;have hh:=cW p s al ar v0 w i hr;have ha:=dK p s n G (right s i) w h hn;have HR:Hid (read s i=begin s (right s i)):=rfl;rw[HR.out];obtain⟨e1,e2,e3,e4⟩:=GX s (right s i);have HE:=AO e1;have pV:=AO e3;have U:=AO e4;clear e1 e2 e3 e4 hr h HR;generalize begin s (right s i)=r at*
 obtain⟨er,s'⟩:=r;simp only at ha HE pV U⊢;by_cases he:er=0
 ·subst he;go_enter func96,ntmps96
  go_wp2_with fail
  refine hh.mono ?_;rintro e w1 ⟨rfl,rfl⟩;go_wp2_with fail
  refine ha.mono ?_;rintro e YW ⟨rfl,Kr,Kq⟩;obtain⟨I,bl,bf,v,nl,k1,k2,k3,k4,k5,k6,k7,k8,k9,Zp⟩:=id Kr;obtain⟨c0,-,c2,c3⟩:=k1.q4;obtain⟨ff,ad,J⟩:=k3;obtain⟨fl,wY,H⟩:=k2;have Q:=AO ad;have ae:=AO wY;have J:=J i;have H:=H i;have aa:=AO (Kr.up (Nat.le_succ n));have OK:=AO Kq;have aw:=I.size;have tf:s.now i=blk s'.size (over (lay nothing s'.Dk) s'.fl i):=by unfold St.now;rw[HE.out,pV.out,U.out,yw]
  have ab:=AO tf;have cR:∀l,lay nothing s'.Dk i=AE l->l.length=s'.size:=λl hl=>VV (λl=>l.length=s'.size) s'.Dk nothing (λ_ _ h=>by cases h) (λe he=>(I.Dk e he).2) i l hl;have On:∀l,s'.fl i=AE l->l.length=s'.size:=λl hl=>I.fl i l hl;clear k1 k4 k5 k6 k7 k8 k9 Zp ad wY Kr Kq hh ha tf I HE pV U;have Ji:∀(v':Value) (w2:World) (l:List Nat),Below YW YW w2->Words w2 (λk=>YW<=k) v' l->s.now i=l->
    ((0:Int)=0->Words w2 (λk=>w1.heap.size<=k) v' (s.now i))/\LC w2 G p s' (n+1)/\DG (λk=>k=p) w1 w2:=by
   intro v' w2 l hb hw hl;refine⟨λ_=>?_,aa.out.below hb,OK.out.trans (DG.DB hb λ_=>False) λ_ hf=>hf.elim⟩;rw[hl];exact hw.GS (λ_ _ _ _=>rfl) λk _ _ hk=>Af OK.out.size hk
  have Dr:=AO Ji;clear Ji;rcases uA:ff i with _|vf
  ·
   rcases cQ:lay nothing s'.Dk i with _|l
   ·rcases IW:fl i with _|vl
    ·
     rcases PR:s'.fl i with _|l
     ·have HL:Hid (s.now i=BA s'.size 0):=by unfold Hid;rw[ab.out];simp[over,cQ,PR,blk]
      have Qh:=AO uA;have qZ:=AO IW;obtain⟨i0,FM,Ft,Ew,Js⟩:=info_parts wG;clear uA IW J H cQ PR cR On;go_wp2_with (with_reducible refine EO 25 ?_)
      unfold Hid;refine GM _ rfl _ _ rfl bf _ ff rfl Q.out i hi rfl (AJ AD 0 0) false (.inl ⟨rfl,rfl,Qh.out⟩) ?_;go_wp2_with (with_reducible refine EO 37 ?_)
      unfold Hid;refine GM _ rfl _ _ rfl bl _ fl rfl ae.out i hi rfl (AJ AD 0 0) false (.inl ⟨rfl,rfl,qZ.out⟩) ?_;go_wp2_with (with_reducible refine EO 47 ?_)
      unfold Hid;refine I4 _ rfl _ _ 116 rfl 120 i0 (.int .u64 0) Bc FM Ft Ew rfl AB AB _ _ s'.size rfl rfl rfl rfl (by rw[Js];omega) a5 ?_;intro w2 EA DN Gk;obtain⟨x1,x2,x3⟩:=Dr.out _ w2 _ DN (Qp EA a5 (by unfold maxLen;omega) ao) HL.out;have X1:=AO x1;have X2:=AO x2;have X3:=AO x3;clear x1 x2 x3 EA DN Gk;go_wp2
      go_ret2
      exact⟨_,rfl,λh=>absurd rfl h,X1.out,X2.out,X3.out⟩
     ·rw[IW,PR]at H;exact H.elim
    ·
     rcases PR:s'.fl i with _|l
     ·rw[IW,PR]at H;exact H.elim
     ·rw[IW,PR]at H;have HL:Hid (s.now i=l):=by unfold Hid;rw[ab.out];simp[over,cQ,PR,blk]
      have zX:=On l PR;obtain⟨A,c,rfl,hA,SL⟩:=Words.reads H;have Qh:=AO uA;have qZ:=AO IW;have O:=Np A l.length c l YW SL a5 a5 ao;clear uA IW J H cQ PR cR On SL zX;go_wp2_with (with_reducible refine EO 25 ?_)
      unfold Hid;refine GM _ rfl _ _ rfl bf _ ff rfl Q.out i hi rfl (AJ AD 0 0) false (.inl ⟨rfl,rfl,Qh.out⟩) ?_;go_wp2_with (with_reducible refine EO 37 ?_)
      unfold Hid;refine GM _ rfl _ _ rfl bl _ fl rfl ae.out i hi rfl _ true (.inr ⟨qZ.out,rfl⟩) ?_;go_wp2_with fail
      refine O.mono ?_;rintro e w2 ⟨v',rfl,GK,DN⟩;obtain⟨x1,x2,x3⟩:=Dr.out _ w2 _ DN GK HL.out;have X1:=AO x1;have X2:=AO x2;have X3:=AO x3;clear x1 x2 x3 GK DN;go_wp2
      go_ret2
      exact⟨_,rfl,λh=>absurd rfl h,X1.out,X2.out,X3.out⟩
   ·rw[uA,cQ]at J;exact J.elim
  ·
   rcases cQ:lay nothing s'.Dk i with _|l
   ·rw[uA,cQ]at J;exact J.elim
   ·rw[uA,cQ]at J;have HL:Hid (s.now i=l):=by unfold Hid;rw[ab.out];simp[over,cQ,blk]
    have zX:=cR l cQ;obtain⟨A,c,rfl,hA,SL⟩:=Words.reads J;have Qh:=AO uA;have O:=Np A l.length c l YW SL a5 a5 ao;clear uA J H cQ cR On SL zX;go_wp2_with (with_reducible refine EO 25 ?_)
    unfold Hid;refine GM _ rfl _ _ rfl bf _ ff rfl Q.out i hi rfl _ true (.inr ⟨Qh.out,rfl⟩) ?_;go_wp2_with fail
    refine O.mono ?_;rintro e w2 ⟨v',rfl,GK,DN⟩;obtain⟨x1,x2,x3⟩:=Dr.out _ w2 _ DN GK HL.out;have X1:=AO x1;have X2:=AO x2;have X3:=AO x3;clear x1 x2 x3 GK DN;go_wp2
    go_ret2
    exact⟨_,rfl,λh=>absurd rfl h,X1.out,X2.out,X3.out⟩
 ·have g:(er !=0)=true:=by simpa using he
  have HE:=AO he;clear he;go_enter func96,ntmps96
  go_wp2_with fail
  refine hh.mono ?_;rintro e w1 ⟨rfl,rfl⟩;go_wp2_with fail
  refine ha.mono ?_;rintro e YW ⟨rfl,Kr,Kq⟩;have aa:=AO (Kr.up (Nat.le_succ n));have OK:=AO Kq;clear Kr Kq hh ha;go_wp2
  go_ret2
  exact⟨_,rfl,λ_=>rfl,λh=>absurd h HE.out,aa.out,OK.out⟩
theorem y7:(AP.info? 166).map (λi=>(i.zero,i.size,i.bytes))=AE (AE (AL #[(),AJ AD 0 0]),2,32):=a7
theorem dY{G p n bl bf nl s v v' u i l w1 w2 w3 J o ff rs}
  (I:Fits s n)(hi:Fg i)(hl:l.length=s.size)
  (O:Row w1 p 94 (cellsOf s bl bf v))(k2:K8 w1 G bl nl s.fl)(k4:KJ w1 G v s.Dk)(Ll:Lv w1 bf s.Dk.length ff)(k5:bl≠bf)(k6:G p)(k7:G bl)(k8:G bf)(k9:∀k,G k->k<w1)(Zp:nl+s.Dk.length+1<=n)
  (hrel:∀x,Rel w1 G (ff x) (lay nothing s.Dk x))(DN:Below w1 w1 w2)(hu:Words w2 (λk=>w1<=k) u l)
  (ae:Lv w3 bf (s.Dk.length+1) (WG ff i u))(IZ:w2.grownBy w3 (AE bf))
  (al:rs.length=s.Dk.length)(aB:∀(j:Nat) (r:Int×Value) (e:Int×List Nat),rs[j]?=AE r->s.Dk[j]?=AE e->r.1=e.1/\Words w1 G r.2 e.2)(D7:∀k,v.ownBlock=AE k->G k)
  (QO:J.ownsRow 0 166 2 v' (s.Dk.length+1) (NW (rs++[(i,u)])))(aC:(w3.alloc o).grownBy J v.ownBlock)(FX:v'.ownBlock=v.ownBlock\/v'.ownBlock=AE (w3.alloc o).heap.size):
  ∃G',LC (J.setCell (p,4) v') G' p {s with Dk:=s.Dk++[(i,l)]} n/\DG G w1 (J.setCell (p,4) v')/\∀k,G' k->G k\/w1<=k:=by
 have ab:v.ownBlock≠AE p:=k4.EG O a6;have av:v.ownBlock≠AE bl:=k4.VQ k2;have U:K8 w1 G bf s.Dk.length (lay nothing s.Dk):=⟨ff,Ll,hrel⟩;have ar:v.ownBlock≠AE bf:=k4.VQ U;have zR:p≠bl:=k2.EG O;have ad:p≠bf:=U.EG O;have aF:∀k cs,Row w1 k 120 cs->k≠p/\k≠bf/\v.ownBlock≠AE k:=λk cs H=>by
  refine⟨λe=>?_,U.EG H,k4.EG H a6⟩;subst e;unfold Row at O H;rw[O]at H;injection H with H;injection H with _ H;exact absurd H a6
 have F2:DG (λk=>k=p\/k=bf\/v.ownBlock=AE k) w1 w2:=DG.DB DN _;have F3:DG (λk=>k=p\/k=bf\/v.ownBlock=AE k) w1 w3:=F2.grown IZ λk H=>by injection H with H;exact .inl (.inr (.inl H.symm))
 have F5:DG (λk=>k=p\/k=bf\/v.ownBlock=AE k) w1 J:=(F3.alloc o).grown aC λk H=>.inl (.inr (.inr H));have F6:DG (λk=>k=p\/k=bf\/v.ownBlock=AE k) w1 (J.setCell (p,4) v'):=F5.set (.inl (.inl rfl)) _;have E3:DG (λk=>v.ownBlock=AE k) w3 J:=((DG.refl _ w3).alloc o).grown aC λk H=>.inl H;have E2:DG (λk=>k=bf\/v.ownBlock=AE k) w2 J:=(((DG.refl _ w2).grown IZ λk H=>by injection H with H;exact .inl (.inl H.symm)).alloc o).grown aC λk H=>.inl (.inr H);have aE:=DN.size;have aG:=F3.size;have aH:=F5.size;have aA:Row J p 94 (cellsOf s bl bf v):=F2.row O|>λ_=>by
  have h1:Row w3 p 94 (cellsOf s bl bf v):=(IZ.block p (BH O.lt aE) (by intro e;injection e with e;exact ad e)).trans (O.below DN O.lt);exact E3.row h1 (λe=>ab e)
 have aw:Row (J.setCell (p,4) v') p 94 (cellsOf {s with Dk:=s.Dk++[(i,l)]} bl bf v'):=by
  have:=aA.set 4 v';exact this
 have z6:(J.setCell (p,4) v').heap.size=J:=a8;have MR:∀k cs,Row w1 k 120 cs->G k->(J.setCell (p,4) v').heap[k]?=w1.heap[k]?:=λk cs H _=>F6.block k H.lt λhf=>by
  obtain⟨a1,a2,a3⟩:=aF k cs H;rcases hf with hf|hf|hf
  ·exact a1 hf
  ·exact a2 hf
  ·exact a3 hf
 have aa:Words (J.setCell (p,4) v') (λk=>G k\/(w1<=k/\k<J)) u l:=by
  refine hu.GS (λk cs H hg=>?_) (λk cs H hg=>.inr ⟨hg,BH H.lt (by have:=E2.size;omega)⟩);have ao:k≠p:=by have:=k9 p k6;omega
  have h1:J.heap[k]?=w2.heap[k]?:=E2.block k H.lt λhf=>by
   rcases hf with hf|hf
   ·have:=k9 bf k8;omega
   ·have:=k9 k (D7 k hf);omega
  rw[heap_setCell_other J ⟨p,4,AD⟩ k v' (by simpa using ao)];exact h1
 have Ls:DG G w1 (J.setCell (p,4) v'):=F6.mono λb hb=>by
  rcases hb with hb|hb|hb
  ·subst hb;exact k6
  ·subst hb;exact k8
  ·exact D7 b hb
 refine⟨λk=>G k\/(w1<=k/\k<J),⟨?_,bl,bf,v',nl,aw,?_,?_,?_,k5,.inl k6,.inl k7,.inl k8,λk H=>?_,by simp only[AY,List.length_singleton];omega⟩,Ls,λk H=>H.imp_right (·.1)⟩
 ·refine⟨I.size,I.blocks,I.fn,I.tn,I.Dg,I.small,λe he=>?_,I.fl⟩;rcases Ag.1 he with he|he
  ·exact I.Dk e he
  ·rw[Bn.1 he];exact⟨hi,hl⟩
 ·refine k2.GS (F6.block bl (k9 bl k7) λhf=>?_) MR (λk _ _ H=>.inl H);rcases hf with hf|hf|hf
  ·exact zR hf.symm
  ·exact k5 hf
  ·exact av hf
 ·refine⟨WG ff i u,?_,λx=>?_⟩
  ·rw[AY,List.length_singleton];refine ae.same ?_;rw[heap_setCell_other J ⟨p,4,AD⟩ bf v' (by simpa using ad.symm)];exact E3.block bf ae.lt λe=>ar e
  ·show Rel _ _ _ (lay nothing (s.Dk++[(i,l)]) x);rw[SB];by_cases e:x=i
   ·subst e;rw[KW,KW];exact aa
   ·rw[JQ _ _ e,JQ _ _ e];exact(hrel x).GS MR (λk _ _ H=>.inl H)
 ·have aD:v'.ownBlock≠AE p:=by
   rcases FX with h|h
   ·rw[h];exact ab
   ·rw[h];intro e;injection e with e
    have:=k9 p k6;simp only[World.alloc,Array.size_push]at e;omega
  refine⟨rs++[(i,u)],?_,by simp[al],λj r e Q he=>?_,λk H=>?_⟩
  ·rw[AY,List.length_singleton];exact Fq QO λk H=>heap_setCell_other J ⟨p,4,AD⟩ k v' (by intro e;simp only at e;subst e;exact aD H)
  ·by_cases hj:j<rs.length
   ·rw[Al hj]at Q;rw[Al a5]at he;obtain⟨a1,a2⟩:=aB j r e Q he;exact⟨a1,a2.GS MR (λk _ _ H=>.inl H)⟩
   ·rw[AX a5]at Q;rw[AX a5]at he;have UM:j=rs.length:=by
     rcases Am (j-rs.length) 1 with h1|h1
     ·omega
     ·rw[BG (by simpa using h1)]at Q;cases Q
    subst UM;rw[Ap]at Q;rw[al,Ap]at he;simp at Q he;subst Q;subst he;exact⟨rfl,aa⟩
  ·rcases FX with h|h
   ·exact .inl (D7 k (by rw[<-h];exact H))
   ·refine .inr ⟨?_,?_⟩
    ·rw[h]at H;injection H with H;subst H
     simp only[World.alloc,Array.size_push];omega
    ·exact(QO.lt k H).2
 ·rcases H with H|H
  ·have:=k9 k H;rw[z6];omega
  ·rw[z6];exact H.2
theorem Row.lZ{w p s bl bf A n c}(e:Row w p 94 (cellsOf s bl bf (AJ A n c)))(i:Nat)(x:Int):w.cell? (p,i)≠AE (.int .u64 x):=by
 intro h;rw[e.cell i]at h;have:=Ak h;simp[cellsOf]at this
theorem Reads.Ey{k w w1 B A n l F}(h:Reads k w B A n l)(Q:B<=w.heap.size)(hf:DG F w w1)(hF:0<n->∀b off,A=AE ⟨b,off,AD⟩->¬F b):Reads k w1 B A n l:=by
 obtain⟨O,J,h3⟩:=h;refine⟨O,J,λe=>?_⟩;obtain⟨b,off,H,hb,I⟩:=h3 e;refine⟨b,off,H,hb,λi hi=>?_⟩;rw[World.cell?_of_block (w:=w) (w':=w1) (hf.block b a5 (hF e b off H))];exact I i hi
theorem YG(s:St):(begin s false).1≠0:=by
 unfold begin;by_cases h:s.down=true
 ·rw[if_pos h];exact λh=>absurd h (by decide:¬((8:Int)=0))
 ·rw[if_neg h,if_pos rfl];exact λh=>absurd h (by decide:¬((1:Int)=0))
theorem dZ(p:Nat)(s:St)(n:Nat)(G:Nat->Prop)(i:Int)(A:Option Addr)(m c:Nat)(l:List Nat)(w:World){B}(h:LC w G p s n)(hn:n<1000000)(hi:Fg i)(hl:Reads .u64 w B A m l)(hB:B<=w):
  Calls AP 78 #[.pointer p,i,.slice A m c] w λe w'=>e=AH (AA AB (write s i l).1)/\∃G',LC w' G' p (write s i l).2 (n+1)/\DG G w w'/\∀k,G' k->G k\/w<=k:=by
 obtain⟨_,aG,aH,v0,a3,hr,_,_,al,_⟩:=id h;obtain⟨A0,q0,rfl⟩:=al.form;have hh:=cW p s aG aH _ w i hr;have c0:w.cell? p=AE (AA AB (s.size:Int)):=hr.cell 0;have hlen:=hl.1;have ha:=dK p s n G (right s i&&decide (l.length=s.size)) w h hn;have pN:=AO h.Of;have PF:=AO h.fits.size;have HR:Hid (write s i l=if (begin s (right s i&&decide (l.length=s.size))).1=0 then (0,{(begin s (right s i&&decide (l.length=s.size))).2 with Dk:=s.Dk++[(i,l)]})else begin s (right s i&&decide (l.length=s.size))):=rfl;rw[HR.out];obtain⟨e1,e2,e3,e4⟩:=GX s (right s i&&decide (l.length=s.size));have HE:=AO e1;have pV:=AO e3;have aA:=AO e4;have H0:Hid ((begin s (right s i&&decide (l.length=s.size))).1=0->right s i=true/\l.length=s.size):=by
  intro h0;rcases hb:(right s i&&decide (l.length=s.size))with _| _
  ·rw[hb]at h0;exact absurd h0 (YG s)
  ·simpa using hb
 have LJ:Hid (∀w1,DG (λk=>k=p) w w1->Reads .u64 w1 B A m l):=λw1 hf=>hl.Ey hB hf λhm b off hA hb=>by
  obtain⟨_,_,h3⟩:=hl;obtain⟨b',Za,O,_,hc⟩:=h3 hm;rw[hA]at O;injection O with O;injection O with Tt N5;subst Tt;subst N5
  subst hb;exact hr.lZ _ _ (hc 0 hm)
 clear e1 e2 e3 e4 hr h HR al;generalize qK:(right s i&&decide (l.length=s.size))=b at*
 generalize begin s b=r at*
 obtain⟨er,s'⟩:=r;simp only at ha HE pV aA H0⊢;have JC:=AO hlen;have qc:=AO qK;clear hl hlen qK;by_cases H:right s i=true
 ·rw[H]at hh;have gb:((m:Int)==(s.size:Int))=b:=by
   rw[<-qc.out,H,JC.out];by_cases e:m=s.size
   ·subst e;simp
   ·have:¬((m:Int)=(s.size:Int)):=a5;simp[e,this]
  clear H qc;by_cases he:er=0
  ·subst he;rw[if_pos rfl];go_enter func78,ntmps78
   go_wp2_with fail
   refine hh.mono ?_;rintro e w1 ⟨rfl,rfl⟩;go_wp2_with fail
   refine ha.mono ?_;rintro e Q ⟨rfl,Kr,J⟩;obtain⟨aa,bl,bf,v,nl,k1,k2,k3,k4,k5,k6,k7,k8,k9,Zp⟩:=id Kr;have a7:=PF.out;have On:=(H0.out (by trivial)).2;have hm:=JC.out;have ae:=Np A m c l Q (LJ.out _ J) a5 a5 (Af hB J.size);obtain⟨ff,Ll,hrel⟩:=k3;obtain⟨A1,U,rfl⟩:=k4.form;obtain⟨rs,o1,o2,o3,o4⟩:=id k4;have c3:Q.cell? (p,3)=AE (.map (AE bf)):=k1.cell 3;have Dr:=AO (λ(w2 w3 w5:World) (o:Obj) (v' u:Value) (DN:Below Q Q w2) (hu:Words w2 (λk=>Q<=k) u l) (aD:Lv w3 bf (s'.Dk.length+1) (WG ff i u)) (IZ:w2.grownBy w3 (AE bf)) (QO:w5.ownsRow 0 166 2 v' (s'.Dk.length+1) (NW (rs++[(i,u)]))) (aC:(w3.alloc o).grownBy w5 (Value.slice A1 s'.Dk.length U).ownBlock) FX=>dY aa hi (by rw[HE.out];exact On) k1 k2 k4 Ll k5 k6 k7 k8 k9 a5 hrel DN hu aD IZ o2 o3 o4 QO aC FX);have jD:=AO k1;have aJ:=AO o1;have ad:Hid ((Value.slice A1 s'.Dk.length U).ownBlock≠AE bf/\bf≠p/\bf<Q):=⟨k4.VQ (⟨ff,Ll,hrel⟩:K8 Q G bf _ _),λe=>Ll.EG k1 e.symm,k9 bf k8⟩;have aY:=AO Ll;have OK:=AO J;have a8:s'.Dk.length<=1000000:=a5;have aI:Hid ((Value.slice A1 s'.Dk.length U).ownBlock≠AE p):=k4.EG k1 a6;have aB:=AO o1.lt;clear k1 k2 Ll k4 k5 k6 k7 k8 k9 Zp hrel o1 o2 o3 o4 Kr J aa;go_wp2_with fail
   refine ae.mono ?_;rintro e w2 ⟨u,rfl,GK,DN⟩;have vS:=AO (jD.out.below DN jD.out.lt);have c3:w2.cell? (p,3)=AE (.map (AE bf)):=vS.out.cell 3;have aE:=aY.out.same (DN.block bf ad.out.2.2);have aX:=AO (Fq aJ.out λk I=>DN.block k (aB.out k I).2);have E1:=AO DN;have KU:=AO GK;obtain⟨D,hD,av⟩:=aE;have HD:=AO hD;have pS:=AO av;obtain⟨Au,mu,cu,hu⟩:∃Au mu cu,u=.slice Au mu cu:=by obtain⟨g,cc,cs,hv,_⟩:=GK;exact⟨_,_,_,hv⟩
   subst hu;clear ae DN GK hD av;go_wp2_with (with_reducible refine U3 ?_)
   unfold Hid;refine wpList_mapUpdate_own _ rfl _ _ _ 91 rfl 3 116 law underlying91 XY bf _ D rfl HD.out (by unfold maxLen;omega) _ _ _ rfl rfl (y5 hi) (.held _) [] rfl ?_;intro w3 aw IZ;have a0:Hid (Lv w3 bf (s'.Dk.length+1) (WG ff i (.slice Au mu cu))):=⟨_,aw,pS.out.put hi _⟩;have a2:=AO IZ;have FK:Row w3 p 94 (cellsOf s' bl bf (.slice A1 s'.Dk.length U)):=(IZ.block p vS.out.lt (by intro e;injection e with e;exact ad.out.2.1 e.symm)).trans vS.out;have c4:w3.cell? (p,4)=AE (.slice A1 s'.Dk.length U):=FK.cell 4;have f4:=FK.free 4;have Gb:=AO FK;have aK:=AO (Fq aX.out λk I=>IZ.block k (BH (aB.out k I).2 E1.out.size) (by intro e;injection e with e;subst e;exact ad.out.1 I));clear aw IZ FK c3;obtain⟨i0,FM,Ft,Ew,Js⟩:=info_parts y7;go_wp2_with (with_reducible refine EO 43 ?_)
   unfold Hid;refine wpList_append_own_at _ rfl _ _ 92 rfl 0 166 i0 (AL #[(),.slice AD 0 0]) 2 32 underlying92 FM Ft Ew Js rfl a5 (.slice A1 s'.Dk.length U) s'.Dk.length (NW rs) rfl (aK.out.alloc _) w3 1 1 [i,.slice Au mu cu] rfl rfl ?_ (by simp[Value.oneCell']) (by unfold maxLen;omega) a5 a5 ?_
   ·intro j v hj
    match j,hj with
    |0,hj=>simp at hj;subst hj;simp[CY]
    |1,hj=>simp at hj;subst hj;simp[CY]
   intro v' w5 QO aC _ FX;have m9:w5.ownsRow 0 166 2 v' (s'.Dk.length+1) (NW (rs++[(i,.slice Au mu cu)])):=by rw[Oy];exact QO
   obtain⟨G',ar,WK,ao⟩:=Dr.out w2 w3 w5 _ v' _ E1.out KU.out a0.out a2.out m9 aC FX;have I5:Row w5 p 94 (cellsOf s' bl bf (.slice A1 s'.Dk.length U)):=(aC.block p (by have:=Gb.out.lt;simp only[World.alloc,Array.size_push];omega) (λe=>aI.out e.symm)).trans (Gb.out.alloc _);have c4:w5.cell? (p,4)=AE (.slice A1 s'.Dk.length U):=I5.cell 4;have f4:=I5.free 4;obtain⟨A5,c5,rfl⟩:∃A5 c5,v'=.slice A5 (s'.Dk.length+1) c5:=by
    rcases QO.2 with⟨rfl,h0⟩|⟨g,cap,cur,rfl,_⟩
    ·omega
    ·exact⟨_,_,rfl⟩
   have yI:=AO ar;have vZ:=AO WK;have a1:=AO ao;clear ar WK ao I5 QO m9 aC FX;go_wp2
   go_ret
   refine⟨rfl,G',?_,?_,λk I=>?_⟩
   ·rw[<-aA.out];exact yI.out
   ·exact(OK.out.mono λb hb=>by subst hb;exact pN.out).trans vZ.out λb hb=>.inl hb
   ·rcases a1.out k I with h|h
    ·exact .inl h
    ·exact .inr (Af OK.out.size h)
  ·have g:(er !=0)=true:=by simpa using he
   rw[if_neg he];clear he;go_enter func78,ntmps78
   go_wp2_with fail
   refine hh.mono ?_;rintro e w1 ⟨rfl,rfl⟩;go_wp2_with fail
   refine ha.mono ?_;rintro e Q ⟨rfl,Kr,J⟩;have ab:=AO (Kr.up (Nat.le_succ n));have OK:=AO J;clear Kr J hh ha;go_wp2
   go_ret
   exact⟨rfl,G,ab.out,OK.out.mono λb hb=>by subst hb;exact pN.out,λk I=>.inl I⟩
 ·have tU:right s i=false:=by simpa using H
  have aF:b=false:=by rw[<-qc.out,tU];rfl
  have he:er≠0:=λe=>by have:=(H0.out e).1;rw[tU]at this;cases this
  have g:(er !=0)=true:=by simpa using he
  rw[if_neg he];subst aF;rw[tU]at hh;clear he H tU qc;go_enter func78,ntmps78
  go_wp2_with fail
  refine hh.mono ?_;rintro e w1 ⟨rfl,rfl⟩;go_wp2_with fail
  refine ha.mono ?_;rintro e Q ⟨rfl,Kr,J⟩;have ab:=AO (Kr.up (Nat.le_succ n));have OK:=AO J;clear Kr J hh ha;go_wp2
  go_ret
  exact⟨rfl,G,ab.out,OK.out.mono λb hb=>by subst hb;exact pN.out,λk I=>.inl I⟩
def findAt:List (Nat×Nat)->Nat->Nat->Option (Nat×Nat)
 |[],_,_=>AD
 |q::l,x,i=>if q.1=x then AE (i,q.2)else findAt l x (i+1)
def wordsAt:List (Nat×Nat)->Nat->Option Nat
 |[],_=>AD
 |q::l,x=>if q.1=x then AE q.2 else wordsAt l x
def Fo:List (Nat×Nat)->Nat->List (Nat×Nat)
 |[],_=>[]
 |q::l,x=>if q.1=x then l else q::Fo l x
def total:List (Nat×Nat)->Nat
 |[]=>0
 |q::l=>q.2+total l
theorem Mb:∀(l:List (Nat×Nat)) (x i:Nat),wordsAt l x=AD->findAt l x i=AD
 |[],_,_,_=>rfl
 |q::l,x,i,h=>by
  unfold wordsAt at h;unfold findAt;by_cases e:q.1=x
  ·rw[if_pos e]at h;cases h
  ·rw[if_neg e]at h⊢;exact Mb l x _ h
theorem Ma:∀(l:List (Nat×Nat)) (x i n:Nat),wordsAt l x=AE n->∃j,findAt l x i=AE (i+j,n)/\j<l.length/\l.eraseIdx j=Fo l x
 |[],_,_,_,h=>by cases h
 |q::l,x,i,n,h=>by
  unfold wordsAt at h;unfold findAt Fo;by_cases e:q.1=x
  ·rw[if_pos e]at h⊢;injection h with h;subst h
   exact⟨0,rfl,a8,by simp[e]⟩
  ·rw[if_neg e]at h⊢;obtain⟨j,H,I,h3⟩:=Ma l x (i+1) n h;refine⟨j+1,by rw[H];congr 2;omega,by simp;omega,?_⟩;rw[if_neg e,List.eraseIdx_cons_succ,h3]
theorem Nk:∀(l:List (Nat×Nat)) (x n:Nat),wordsAt l x=AE n->total (Fo l x)+n=total l
 |[],_,_,h=>by cases h
 |q::l,x,n,h=>by
  unfold wordsAt at h;unfold Fo;by_cases e:q.1=x
  ·rw[if_pos e]at h⊢;injection h with h;subst h
   show total l+q.2=q.2+total l;omega
  ·rw[if_neg e]at h⊢;have:=Nk l x n h;show q.2+total (Fo l x)+n=q.2+total l;omega
theorem Rb:∀(l:List (Nat×Nat)) (x n:Nat),total (l++[(x,n)])=total l+n
 |[],_,n=>by show n+0=0+n;omega
 |q::l,x,n=>by show q.2+total (l++[(x,n)])=q.2+total l+n;rw[Rb l x n];omega
theorem Ip:∀(l:List (Nat×Nat)) (x n:Nat),wordsAt l x=AE n->(x,n)∈l
 |[],_,_,h=>by cases h
 |q::l,x,n,h=>by
  unfold wordsAt at h;by_cases e:q.1=x
  ·rw[if_pos e]at h;injection h with h;subst h;subst e;exact Ax
  ·rw[if_neg e]at h;exact BB _ (Ip l x n h)
theorem NP:∀(l:List (Nat×Nat)) (x:Nat),(∀q∈l,q.1≠x)->wordsAt l x=AD
 |[],_,_=>rfl
 |q::l,x,h=>by
  unfold wordsAt;rw[if_neg (h q Ax)];exact NP l x λr e=>h r (BB _ e)
theorem Iq:∀(l:List (Nat×Nat)) (x:Nat) (q:Nat×Nat),q∈Fo l x->q∈l
 |[],_,_,h=>h
 |r::l,x,q,h=>by
  unfold Fo at h;by_cases e:r.1=x
  ·rw[if_pos e]at h;exact BB _ h
  ·rw[if_neg e]at h;rcases A8.1 h with h|h
   ·rw[h];exact Ax
   ·exact BB _ (Iq l x q h)
structure Ar where
 room:Nat
 used:Nat
 Fx:Nat
 st:List (Nat×Nat)
def empty(room:Nat):Ar:=⟨room,0,0,[]⟩
def FG(s:Ar)(b n:Nat):Ar:={s with used:=s.used+n,Fx:=if s.Fx<s.used+n then s.used+n else s.Fx,st:=s.st++[(b,n)]}
def release(s:Ar)(b n:Nat):Ar:={s with used:=s.used-n,st:=Fo s.st b}
structure Sound (s:Ar):Prop where
 used:s.used=total s.st
 Fx:s.used<=s.Fx/\s.Fx<=s.room
 room:s.room<=9223372036854775807
theorem X8{room}(h:room<=9223372036854775807):Sound (empty room):=⟨rfl,⟨AQ _,Aq _⟩,h⟩
theorem Xu{s}(h:Sound s)(b:Nat){n}(e:n<=s.room-s.used):Sound (FG s b n):=by
 have H:=h.Fx;refine⟨?_,⟨?_,?_⟩,h.room⟩
 ·show s.used+n=total (s.st++[(b,n)]);rw[Rb,h.used]
 ·show s.used+n<=if s.Fx<s.used+n then s.used+n else s.Fx
  split<;>omega
 ·show (if s.Fx<s.used+n then s.used+n else s.Fx)<=s.room
  split<;>omega
theorem NU{s}(h:Sound s){b n}(hb:wordsAt s.st b=AE n):Sound (release s b n):=by
 have e:=h.Fx;have H:=Nk s.st b n hb;have h3:=h.used;refine⟨?_,⟨?_,e.2⟩,h.room⟩
 ·show s.used-n=total (Fo s.st b);omega
 ·show s.used-n<=s.Fx;omega
theorem Rv{s}(h:Sound s){b n}(hb:wordsAt s.st b=AE n):n<=s.used:=by
 have e:=Nk s.st b n hb;have h3:=h.used;omega
def ptr(b:Nat):Value:=AI b
def LD(w:World)(b:Nat):Prop:=∃v,Row w b 119 [v]
def Jx(w:World)(b:Nat)(l:List (Nat×Nat)):Prop:=
 ∃(es:Array MapEntry) (clock:Nat),w.heap[b]?=AE (.map es clock)/\es.toList.map (λe=>(e.key,e.val))=l.map λq=>(ptr q.1,Bg AB (q.2:Int))
theorem tI:(AP.info? 119).map (λi=>i.size)=AE 1:=a7
theorem uY(w:World){x b}(I:LD w x)(hb:LD w b):(Op.equal 110 (ptr x) (ptr b)).run AP w=.ok (decide (b=x)) w:=by
 obtain⟨j,Q,U⟩:∃j,AP.info? 119=AE j/\j.size=1:=by
  have h:=tI;rcases hi:AP.info? 119 with _|i
  ·rw[hi]at h;cases h
  ·rw[hi]at h;simp at h;exact⟨i,rfl,h⟩
 obtain⟨v,I⟩:=I;obtain⟨u,hb⟩:=hb;by_cases e:b=x
 ·subst e;have h:∀d:Nat,(Op.equalIn (d+1) 110 (ptr b) (ptr b)).run AP w=.ok true w:=λd=>by
   simp[ptr,Op.equalIn,Bv underlying110,sizeOf,typeInfo,Q,run_sameAddr_same]
  simp[Op.equal,Op.maxDepth,h 9999]
 ·have J:(x:Addr)≠b:=λh=>e (by injection h with h;exact h.symm);have H:w.heap[(x:Addr).block]?=AE (AK #[v] 119 (0,0)):=I;have O:w.heap[(b:Addr).block]?=AE (AK #[u] 119 (0,0)):=hb;have h:∀d:Nat,(Op.equalIn (d+1) 110 (ptr x) (ptr b)).run AP w=.ok false w:=λd=>by
   simp[ptr,Op.equalIn,Bv underlying110,sizeOf,typeInfo,Q,U,run_sameAddr_other w J H O]
  simp[Op.equal,Op.maxDepth,h 9999,e]
theorem MA(w:World){x}(I:LD w x):∀(es:List MapEntry) (l:List (Nat×Nat)) (i:Nat),es.map (λe=>(e.key,e.val))=l.map (λq=>(ptr q.1,Bg AB (q.2:Int)))->(∀q∈l,LD w q.1)->
  (Instr.findAsking 110 (ptr x) es i).run AP w=.ok ((findAt l x i).map λr=>(r.1,Bg AB (r.2:Int))) w
 |[],[],i,_,_=>by simp[Instr.findAsking,findAt]
 |[],q::l,i,h,_=>by cases h
 |e::es,[],i,h,_=>by cases h
 |e::es,q::l,i,h,hl=>by
  have J:(e.key,e.val)=(ptr q.1,Bg AB (q.2:Int)):=by injection h
  have h1:es.map (λe=>(e.key,e.val))=l.map (λq=>(ptr q.1,Bg AB (q.2:Int))):=by injection h
  have hk:e.key=ptr q.1:=by injection J
  have Q:e.val=Bg AB (q.2:Int):=by injection J
  have H:=uY w I (hl q Ax);have O:=MA w I es l (i+1) h1 λr U=>hl r (BB _ U);unfold Instr.findAsking findAt;rw[hk];by_cases he:q.1=x
  ·rw[he]at H⊢;simp[H,Q,BP]
  ·simp[H,he,O,BP]
theorem run_findKey(w:World){x}(H:LD w x)(es:List MapEntry)(l:List (Nat×Nat))(h:es.map (λe=>(e.key,e.val))=l.map (λq=>(ptr q.1,Bg AB (q.2:Int))))(J:∀q∈l,LD w q.1):
  (Instr.findKey 110 (ptr x) es).run AP w=.ok ((findAt l x 0).map λr=>(r.1,Bg AB (r.2:Int))) w:=by
 have hf:=MA w H es l 0 h J;unfold Instr.findKey;rcases es with _|⟨e,es⟩
 ·match l,h with
  |[],_=>simp[Bv underlying110,Instr.findNow,findAt,BP]
 ·have I:∀k i,Instr.findNow (.pointer k) (ptr x) (e::es) i=AD:=λk i=>by simp[Instr.findNow,Instr.sameNow]
  simp[Bv underlying110,I,hf,BP]
theorem JG(w:World)(em:Bool)(b:Nat):(Instr.checkKey em 10000 110 (ptr b)).run AP w=.ok () w:=by
 unfold Instr.checkKey;simp[Bv underlying110,BP]
theorem Wv(w:World){b x}{l}(h:Jx w b l)(e:LD w x)(H:∀q∈l,LD w q.1):
  (Instr.lookup 95 (.map (AE b)) (ptr x) true).run AP w=.ok (AM #[((wordsAt l x).getD 0:Nat),.bool (wordsAt l x).isSome]) w:=by
 obtain⟨es,clock,hb,he⟩:=h;have hf:=run_findKey w e es.toList l he H;unfold Instr.lookup;rcases hw:wordsAt l x with _|n
 ·rw[Mb l x 0 hw]at hf;simp[Bv underlying95,MapKept.run_getObj_map hb,JG,hf,BP]
 ·obtain⟨j,I,_⟩:=Ma l x 0 n hw;rw[I]at hf;simp[Bv underlying95,MapKept.run_getObj_map hb,JG,hf,BP]
theorem ry(w:World){b x n:Nat}{l}(h:Jx w b l)(H:LD w x)(J:∀q∈l,LD w q.1)(I:wordsAt l x=AD):
  ∃w',(Instr.mapUpdate 95 (.map (AE b)) (ptr x) n).run AP w=.ok () w'/\Jx w' b (l++[(x,n)])/\w.grownBy w' (AE b):=by
 obtain⟨es,clock,hb,he⟩:=h;have hf:=run_findKey w H es.toList l he J;rw[Mb l x 0 I]at hf;refine⟨setBlock w b (.map (es.push ⟨ptr x,n,clock⟩) (clock+1)),?_,⟨_,_,heap_setBlock_same hb _,?_⟩,⟨rfl,rfl,rfl,by simp[setBlock],λi _ hi=>heap_setBlock_other hb _ (λe=>hi (by rw[e]))⟩⟩
 ·unfold Instr.mapUpdate;simp[Bv underlying95,MapKept.run_getObj_map hb,JG,hf,MapKept.run_setObj_map _ hb,BP,setBlock]
 ·simp[he]
theorem sB(w:World){b x n}{l}(h:Jx w b l)(H:LD w x)(J:∀q∈l,LD w q.1)(I:wordsAt l x=AE n)(ty:TypeId):
  ∃w',(Builtin.delete_ #[95,110] ty #[.map (AE b),ptr x]).run AP w=.ok (AM #[]) w'/\Jx w' b (Fo l x)/\w.grownBy w' (AE b):=by
 obtain⟨es,clock,hb,he⟩:=h;have hf:=run_findKey w H es.toList l he J;obtain⟨j,U,Q,h3⟩:=Ma l x 0 n I;rw[U]at hf;refine⟨setBlock w b (.map (es.eraseIdxIfInBounds j) clock),?_,⟨_,_,heap_setBlock_same hb _,?_⟩,⟨rfl,rfl,rfl,by simp[setBlock],λi _ hi=>heap_setBlock_other hb _ (λe=>hi (by rw[e]))⟩⟩
 ·unfold Builtin.delete_;simp[Bv underlying95,MapKept.run_getObj_map hb,JG,hf,MapKept.run_setObj_map _ hb,BP,setBlock]
 ·have hlen:es.toList.length=l.length:=by have:=congrArg List.length he;simpa using this
  have O:j<es.size:=by simpa [<-hlen]using Q
  have e1:(es.eraseIdxIfInBounds j).toList=es.toList.eraseIdx j:=by simp[Array.eraseIdxIfInBounds,O]
  rw[e1,<-h3,Go.ChangeMaps.map_eraseIdx,Go.ChangeMaps.map_eraseIdx,he]
theorem Jx.same{w w' b l}(h:Jx w b l)(hb:w'.heap[b]?=w.heap[b]?):Jx w' b l:=by
 obtain⟨es,clock,H,e⟩:=h;exact⟨es,clock,hb.trans H,e⟩
theorem Jx.lt{w b l}(h:Jx w b l):b<w:=by
 obtain⟨es,clock,e,H⟩:=h;exact(Array.getElem?_eq_some_iff.1 e).1
theorem Jx.EG{w b g l t cs}(h:Jx w b l)(H:Row w g t cs):g≠b:=by
 obtain⟨es,clock,I,J⟩:=h;intro e;subst e;unfold Row at H;rw[I]at H;cases H
theorem Jx.made(w:World):Jx (w.alloc (.map #[] 0)) w []:=⟨#[],0,(MapKept.heap_alloc w _).1,rfl⟩
def Ee(s:Ar)(m:Option Nat):List Value:=[s.room,s.used,s.Fx,.map m]
def dL(w:World)(G:Nat->Prop)(m:Option Nat)(l:List (Nat×Nat)):Prop:=(m=AD/\l=[])\/∃b,m=AE b/\Jx w b l/\G b
def Jz(w:World)(G:Nat->Prop)(p:Nat)(s:Ar):Prop:=
 Sound s/\(∃m,Row w p 97 (Ee s m)/\dL w G m s.st/\∀k,G k->k=p\/m=AE k)/\G p/\(∀k,G k->k<w)/\∀q∈s.st,LD w q.1
section
variable{w w':World}{G G':Nat->Prop}{p:Nat}{s:Ar}
theorem LD.lt{b}(h:LD w b):b<w:=by obtain⟨v,h⟩:=h;exact h.lt
theorem LD.Ey{F b}(h:LD w b)(hf:DG F w w')(hF:¬F b):LD w' b:=by obtain⟨v,h⟩:=h;exact⟨v,hf.row h hF⟩
theorem dL.GS{m l}(h:dL w G m l)(H:∀k,G k->w'.heap[k]?=w.heap[k]?):dL w' G m l:=by
 rcases h with h|⟨b,rfl,hb,e⟩
 ·exact .inl h
 ·exact .inr ⟨b,rfl,hb.same (H b e),e⟩
theorem Jz.lt(h:Jz w G p s){k}(e:G k):k<w:=h.2.2.2.1 k e
theorem Jz.sound(h:Jz w G p s):Sound s:=h.1
theorem Jz.buf(h:Jz w G p s){q}(e:q∈s.st):LD w q.1:=h.2.2.2.2 q e
theorem Row.typed{g t u cs ds}(h:Row w g t cs)(k:Row w g u ds):t=u:=by
 unfold Row at h k;rw[h]at k;injection k with k;injection k
theorem Jz.types(h:Jz w G p s){k}{t}{cs}(H:Row w k t cs)(I:t≠97):¬G k:=by
 obtain⟨U,⟨m,Q,O,h3⟩,_⟩:=h;intro J;rcases h3 k J with rfl|rfl
 ·exact I (H.typed Q)
 ·rcases O with⟨e,_⟩|⟨b,e,hb,_⟩
  ·cases e
  ·injection e with e;subst e;exact hb.EG H rfl
theorem Jz.Pf(h:Jz w G p s){b}(hb:LD w b):¬G b:=by obtain⟨v,hb⟩:=hb;exact h.types hb a6
theorem Jz.GS(h:Jz w G p s)(H:∀k,G k->w'.heap[k]?=w.heap[k]?)(O:∀q∈s.st,LD w q.1->LD w' q.1)(I:w.heap.size<=w'.heap.size):Jz w' G p s:=by
 obtain⟨h0,⟨m,h1,U,h3⟩,h4,h5,Q⟩:=h;exact⟨h0,⟨m,(H p h4).trans h1,U.GS H,h3⟩,h4,λk J=>BH (h5 k J) I,λq e=>O q e (Q q e)⟩
theorem Jz.Ey{F}(h:Jz w G p s)(hf:DG F w w')(I:∀k,G k->¬F k)(J:∀q∈s.st,¬F q.1):Jz w' G p s:=
 h.GS (λk e=>hf.block k (h.lt e) (I k e)) (λq H hb=>hb.Ey hf (J q H)) hf.size
theorem Jz.below(h:Jz w G p s)(hb:Below w w w'):Jz w' G p s:=h.Ey (DG.DB hb λ_=>False) (λ_ _ hf=>hf) λ_ _ hf=>hf
theorem Jz.words{b n}(h:Jz w G p s)(hb:wordsAt s.st b=AE n):n<=s.used/\s.used<=s.Fx/\s.Fx<=s.room/\s.room<=9223372036854775807:=⟨Rv h.1 hb,h.1.Fx.1,h.1.Fx.2,h.1.room⟩
end
theorem RR(w:World){ops}{rest}{o}{a}{Q}
  (hg:o.guard=AD)(m x v:Operand)(Yb:o.op=Op.mapUpdate 95 m x v)(b k n:Nat)(l:List (Nat×Nat))(hm:a.eval m=.map (AE b))(O:a.eval x=ptr k)(U:a.eval v=AA AB (n:Nat))
  (h:Jx w b l)(hk:LD w k)(hl:∀q∈l,LD w q.1)(hn:wordsAt l k=AD)
  (hK:∀w',Jx w' b (l++[(k,n)])->w.grownBy w' (AE b)->wpList AP ops Q rest (a.put o.dst undef) w'):
  wpList AP ops Q (o::rest) a w:=by
 refine wpList_plain hg λK' H=>?_;obtain⟨w',e,J,I⟩:=ry w (n:=n) h hk hl hn;unfold Oper.wp;simp[execOp,Yb,hm,O,U,e,BP];exact H _ _ (hK w' J I)
theorem RS(w:World){ops}{rest}{o}{a}{Q}
  (hg:o.guard=AD)(m x:Operand)(Yb:o.op=Op.call {callee:=Callee.builtin Builtin.delete,args:=#[m,x],argTypes:=#[95,110]})(b k n:Nat)(l:List (Nat×Nat))(hm:a.eval m=.map (AE b))(O:a.eval x=ptr k)
  (h:Jx w b l)(hk:LD w k)(hl:∀q∈l,LD w q.1)(U:wordsAt l k=AE n)
  (hK:∀w',Jx w' b (Fo l k)->w.grownBy w' (AE b)->wpList AP ops Q rest (a.put o.dst (AM #[])) w'):
  wpList AP ops Q (o::rest) a w:=by
 refine wpList_plain hg λK' H=>?_;obtain⟨w',e,J,I⟩:=sB w h hk hl U o.type;unfold Oper.wp;simp[execOp,Yb,resolve,invoke,builtin,hm,O,e,BP];exact H _ _ (hK w' J I)
theorem bT{P ops Q rest a w m x ts ty pos after guard}
  (h:Hid (wpList P ops Q (⟨AD,.call {callee:=.builtin .delete,args:=#[m,x],argTypes:=ts},ty,pos,after,guard⟩::rest) a w)):wpList P ops Q (⟨AD,.call {callee:=.builtin .delete,args:=#[m,x],argTypes:=ts},ty,pos,after,guard⟩::rest) a w:=h
section
variable(p:Nat)(s:Ar)(m:Option Nat)(w:World)
theorem TJ(H:Row w p 97 (Ee s m)):Calls AP 45 #[AI p] w λe w'=>e=AH s.room/\w'=w:=by
 have c0:w.cell? p=AE (AA AB (s.room:Int)):=H.cell 0;go_enter func45,ntmps45
 go_wp2
 go_ret
 exact⟨rfl,rfl⟩
theorem TI(H:Row w p 97 (Ee s m)):Calls AP 22 #[AI p] w λe w'=>e=AH s.used/\w'=w:=by
 have c0:w.cell? (p,1)=AE (AA AB (s.used:Int)):=H.cell 1;go_enter func22,ntmps22
 go_wp2
 go_ret
 exact⟨rfl,rfl⟩
theorem ax(H:Row w p 97 (Ee s m)):Calls AP 44 #[AI p] w λe w'=>e=AH s.Fx/\w'=w:=by
 have c0:w.cell? (p,2)=AE (AA AB (s.Fx:Int)):=H.cell 2;go_enter func44,ntmps44
 go_wp2
 go_ret
 exact⟨rfl,rfl⟩
theorem OB(O:Row w p 97 (Ee s m))(I:Sound s):Calls AP 33 #[AI p] w λe w'=>e=AH ((s.room-s.used:Nat):Int)/\w'=w:=by
 have J:=TJ p s m w O;have H:=TI p s m w O;have h1:=I.Fx;have U:=I.room;have Q:(s.room:Int)-(s.used:Int)=((s.room-s.used:Nat):Int):=a5;have g1:(-9223372036854775808:Int)<=(s.room:Int)-(s.used:Int):=a5;have g2:(s.room:Int)-(s.used:Int)<=9223372036854775807:=a5;clear h1 U I O;go_enter func33,ntmps33
 go_wp2_with fail
 refine J.mono ?_;rintro e w1 ⟨rfl,rfl⟩;go_wp2_with fail
 refine H.mono ?_;rintro e w1 ⟨rfl,rfl⟩;go_wp2
 go_ret
 exact⟨rfl,rfl⟩
end
theorem sS(w:World)(room:Nat)(h:room<=9223372036854775807):Jz (w.alloc (AK #[room,(),(),.map AD] 97)) (λk=>k=w) w (empty room):=by
 have H:Row (w.alloc (AK #[room,(),(),.map AD] 97)) w 97 (Ee (empty room) AD):=heap_alloc_new _ _;exact⟨X8 h,⟨AD,H,.inl ⟨rfl,rfl⟩,λk e=>.inl e⟩,rfl,λk e=>by subst e;simp,λq I=>by cases I⟩
theorem K7(room:Int)(w:World)(O:-9223372036854775808<=room)(J:room<=9223372036854775807):
  Calls AP 25 #[room] w λe w'=>e=AH (ptr w)/\Jz w' (λk=>k=w) w (empty room.toNat)/\Below w w w':=by
 have H:=AO (sS w);have I:=λo=>AO ((AS _ w).alloc ao o);go_enter func25,ntmps25
 go_wp2
 ·go_ret
  have e:room.toNat=0:=a5;rw[e];exact⟨rfl,H.out 0 a5,(I _).out⟩
 ·go_ret
  have e:room=(room.toNat:Int):=a5;have hh:=H.out room.toNat a5;rw[<-e]at hh;exact⟨rfl,hh,(I _).out⟩
theorem dJ{w2 w3}{G:Nat->Prop}{p b n bm s}(h0:Sound s)(hn:n<=s.room-s.used)(hb:LD w2 b)(Vi:¬G b)(O:∀q∈s.st,LD w2 q.1/\¬G q.1)(hp:G p)(hG:∀k,G k->k<w2)(Q:∀k,G k->k=p\/AE bm=AE k)
  (hm:Jx w2 bm (s.st++[(b,n)]))(Ta:G bm)(I:bm≠p)(hr:Row w3 p 97 (Ee (FG s b n) (AE bm)))(hf:DG (λk=>k=p) w2 w3):Jz w3 G p (FG s b n):=by
 have J:∀x,LD w2 x->¬G x->LD w3 x:=λx U hg=>U.Ey hf λe=>hg (e▸hp);refine⟨Xu h0 b hn,⟨AE bm,hr,.inr ⟨bm,rfl,hm.same (hf.block bm hm.lt I),Ta⟩,Q⟩,hp,λk hk=>BH (hG k hk) hf.size,λq H=>?_⟩;rcases Ag.1 H with H|H
 ·exact J _ (O q H).1 (O q H).2
 ·have:q=(b,n):=by simpa using H
  subst this;exact J _ hb Vi
theorem count_tail{w2 p s bm}(b n:Nat){u}(hu:s.used+n=u)(H:Row w2 p 97 (Ee s (AE bm))):
  Row ((w2.setCell (p,1) u).setCell (p,2) (AA AB (if s.Fx<u then (u:Int)else (s.Fx:Int)))).drew p 97 (Ee (FG s b n) (AE bm))/\
  DG (λk=>k=p) w2 ((w2.setCell (p,1) u).setCell (p,2) (AA AB (if s.Fx<u then (u:Int)else (s.Fx:Int)))).drew:=by
 refine⟨?_,?_⟩
 ·have h:=(H.set 1 u).set 2 (AA AB (if s.Fx<u then (u:Int)else (s.Fx:Int)));have e:Ee (FG s b n) (AE bm)=((Ee s (AE bm)).set 1 u).set 2 (AA AB (if s.Fx<u then (u:Int)else (s.Fx:Int))):=by
   subst hu;by_cases h:s.Fx<s.used+n<;>simp[Ee,FG,h]
  rw[e];exact h
 ·exact(((DG.refl (λk=>k=p) w2).set (p:=(p,1)) (.inl rfl) u).set (p:=(p,2)) (.inl rfl) (AA AB (if s.Fx<u then (u:Int)else (s.Fx:Int)))).drew
theorem YH(p:Nat)(s:Ar)(G:Nat->Prop)(b n:Nat)(w:World)(h:Jz w G p s)(hb:LD w b)(wz:∀q∈s.st,q.1≠b)(hn:n<=s.room-s.used):
  Calls AP 74 #[.pointer p,.pointer b,n] w λe w'=>∃G',e=AH (AM #[])/\Jz w' G' p (FG s b n)/\DG G w w'/\∀k,G' k->G k\/w<=k:=by
 have ab:=NP s.st b wz;have Vi:=h.Pf hb;have U:=λq J=>Bq (h.buf (q:=q) J) (h.Pf (h.buf J));obtain⟨h0,⟨m,hr,aa,qO⟩,hp,hG,_⟩:=id h;have ar:=@run_makeMap AP;have gP:=λw r=>run_eql_map_nil (P:=AP) w 95 110 3 r underlying95;have Gg:=h0.Fx;have Gk:=h0.room;obtain⟨u,hu⟩:=al (s.used+n);have Ku:(s.used:Int)+(n:Int)=(u:Int):=a5;have HU:=AO hu;have g1:(-9223372036854775808:Int)<=(u:Int):=a5;have g2:(u:Int)<=9223372036854775807:=a5;clear hu;have H0:=AO h0;have HR:=AO hr;have HN:=AO hn;have c3:w.cell? (p,3)=AE (.map m):=hr.cell 3;have f3:=hr.free 3;clear hr h0 h hn Gg Gk;rcases aa with⟨rfl,aa⟩|⟨bm,rfl,hm,Ta⟩
 ·have jU:p<w:=hG p hp;have ER:Row ((w.setCell (p,3) (.map (AE w))).alloc (.map #[] 0)) p 97 (Ee s (AE w)):=(HR.out.set 3 (.map (AE w))).alloc (.map #[] 0);have QT:Jx ((w.setCell (p,3) (.map (AE w))).alloc (.map #[] 0)) w s.st:=by
   rw[aa];have:=Jx.made (w.setCell (p,3) (.map (AE w.heap.size)));rwa [show (w.setCell (p,3) (.map (AE w.heap.size))).heap.size=w.heap.size by simp]at this
  have Kq:DG G w ((w.setCell (p,3) (.map (AE w))).alloc (.map #[] 0)):=((DG.refl G w).set (p:=(p,3)) (.inl hp) _).alloc _;have Ew:((w.setCell (p,3) (.map (AE w))).alloc (.map #[] 0)).heap.size=w+1:=a8;have ao:((w.setCell (p,3) (.map (AE w))).alloc (.map #[] 0)).cell? (p,3)=AE (.map (AE w)):=ER.cell 3;have ad:=AO QT;have Ja:=AO ER;have OK:=AO Kq;have av:=AO Ew;clear QT ER Kq Ew;go_enter func74,ntmps74
  go_wp2_with (with_reducible refine U3 ?_)
  unfold Hid;generalize(w.setCell (p,3) (.map (AE w.heap.size))).alloc (.map #[] 0)=w1 at*
  have DV:∀x,LD w x->¬G x->LD w1 x:=λx hx hg=>hx.Ey OK.out hg;refine RR w1 rfl _ _ _ rfl w b n s.st rfl rfl rfl ad.out (DV b hb Vi) (λq J=>DV _ (U q J).1 (U q J).2) ab ?_;intro w2 Q FT;have Gl:DG (λk=>k=w) w1 w2:=(DG.refl _ w1).grown FT λk H=>.inl (by injection H with H;exact H.symm);have EA:=Gl.row Ja.out (ad.out.EG Ja.out);have RA:=AO (OK.out.trans Gl λk H=>.inr a5);have DN:∀x,LD w x->¬G x->LD w2 x:=λx hx hg=>hx.Ey RA.out hg;have HT:=AO (count_tail b n HU.out EA);obtain⟨-,k1,k2⟩:=EA.q3;obtain⟨-,f1,f2⟩:=EA.r3;have Ji:∀w3,Row w3 p 97 (Ee (FG s b n) (AE w))->DG (λk=>k=p) w2 w3->∃G',Bm (AM #[])=Bm (AM #[])/\Jz w3 G' p (FG s b n)/\DG G w w3/\∀k,G' k->G k\/w<=k:=by
   intro w3 FK MW;refine⟨λk=>G k\/k=w,rfl,?_,RA.out.trans MW λk H=>.inl (H▸hp),λk H=>H.imp id λe=>by omega⟩;have I:∀x,LD w x->¬G x->¬(G x\/x=w):=λx hx hg hh=>hh.elim hg λe=>by have:=hx.lt;omega
   refine dJ (G:=λk=>G k\/k=w) H0.out HN.out (DN b hb Vi) (I b hb Vi) (λq J=>⟨DN _ (U q J).1 (U q J).2,I _ (U q J).1 (U q J).2⟩) (.inl hp) (λk H=>?_) (λk H=>?_) Q (.inr rfl) a5 FK MW
   ·have:=RA.out.size;have:=Q.lt;rcases H with H|H
    ·have:=hG k H;omega
    ·omega
   ·rcases H with H|H
    ·exact(qO k H).elim .inl λe=>by cases e
    ·exact .inr (by rw[H])
  have Dr:=AO Ji;clear Ji Q FT Gl EA DN c3 ao f3 DV aa ab wz U;go_wp2_with fail
  go_region
  go_end0
  have O:=HT.out;by_cases I:s.Fx<u
  ·simp only[if_pos I]at O⊢;exact Dr.out _ O.1 O.2
  ·simp only[if_neg I]at O⊢;exact Dr.out _ O.1 O.2
 ·have HM:=AO hm;go_enter func74,ntmps74
  go_wp2_with (with_reducible refine U3 ?_)
  unfold Hid;refine RR _ rfl _ _ _ rfl bm b n s.st rfl rfl rfl HM.out hb (λq J=>(U q J).1) ab ?_;intro w2 Q FT;have Gl:DG (λk=>k=bm) w w2:=(DG.refl _ w).grown FT λk H=>.inl (by injection H with H;exact H.symm);have EA:=Gl.row HR.out (HM.out.EG HR.out);have RA:Hid (DG G w w2):=Gl.mono λk H=>H▸Ta;have DN:∀x,LD w x->¬G x->LD w2 x:=λx hx hg=>hx.Ey RA.out hg;have ae:bm≠p:=λe=>HM.out.EG HR.out e.symm;have HT:=AO (count_tail b n HU.out EA);obtain⟨-,k1,k2⟩:=EA.q3;obtain⟨-,f1,f2⟩:=EA.r3;have Ji:∀w3,Row w3 p 97 (Ee (FG s b n) (AE bm))->DG (λk=>k=p) w2 w3->∃G',Bm (AM #[])=Bm (AM #[])/\Jz w3 G' p (FG s b n)/\DG G w w3/\∀k,G' k->G k\/w<=k:=by
   intro w3 FK MW;exact⟨G,rfl,dJ H0.out HN.out (DN b hb Vi) Vi (λq J=>⟨DN _ (U q J).1 (U q J).2,(U q J).2⟩) hp (λk H=>BH (hG k H) RA.out.size) qO Q Ta ae FK MW,RA.out.trans MW λk H=>.inl (H▸hp),λk H=>.inl H⟩
  have Dr:=AO Ji;clear Ji Q FT Gl EA DN c3 f3 ab wz U;go_wp2_with fail
  go_region
  go_end0
  have O:=HT.out;by_cases I:s.Fx<u
  ·simp only[if_pos I]at O⊢;exact Dr.out _ O.1 O.2
  ·simp only[if_neg I]at O⊢;exact Dr.out _ O.1 O.2
theorem uz:(AP.info? 120).map (λi=>(i.zero,i.size,i.bytes))=AE (AE (.int .u64 0),1,8):=a7
theorem nu(p:Nat)(s:Ar)(G:Nat->Prop)(n:Int)(w:World)(h:Jz w G p s)(Q:n<0\/(s.room-s.used:Nat)<n):
  Calls AP 54 #[AI p,n] w λe w'=>e=AH (AM #[AI AD,AA AB (if n<0 then 1 else 7)])/\w'=w:=by
 obtain⟨h0,⟨m,O,aa,qO⟩,hp,hG,NJ⟩:=h;have I:=OB p s m w O h0;by_cases H:n<0
 ·rw[if_pos H];have g1:decide (n<0)=true:=by simpa using H
  clear I Q;go_enter func54,ntmps54
  go_wp2
  go_ret2
  exact⟨rfl,rfl⟩
 ·rw[if_neg H];have J:(s.room-s.used:Nat)<n:=a5;have g1:decide (n<0)=false:=by simpa using H
  obtain⟨left,U⟩:∃l:Nat,s.room-s.used=l:=⟨_,rfl⟩;rw[U]at I J;have g2:decide (n>(left:Int))=true:=by simpa using J
  clear Q U H J O;go_enter func54,ntmps54
  go_wp2_with fail
  refine I.mono ?_;rintro e w1 ⟨rfl,rfl⟩;go_wp2
  go_ret2
  exact⟨rfl,rfl⟩
theorem US(p:Nat)(s:Ar)(G:Nat->Prop)(n:Nat)(w:World)(h:Jz w G p s)(hn:n<=s.room-s.used)(hm:n<=268435455):
  Calls AP 54 #[AI p,n] w λe w'=>∃b g G',e=AH (AM #[ptr b,()])/\Jz w' G' p (FG s b n)/\
   Row w' b 119 [AJ (AE ⟨g,0,AD⟩) n n]/\Row w' g 120 (BA n (.int .u64 0))/\w.heap.size<=b/\w.heap.size<=g/\b≠g/\¬G' b/\¬G' g/\DG G w w'/\∀k,G' k->G k\/w.heap.size<=k:=by
 obtain⟨h0,⟨m,hr,ab,qO⟩,hp,hG,NJ⟩:=id h;have hl:=OB p s m w hr h0;have HA:=AO h;have HN:=AO hn;have g1:decide ((n:Int)<0)=false:=a8;have g2:decide (s.room-s.used<n)=false:=by simp;omega
 have g3:decide ((n:Int)>268435455)=false:=by simp;omega
 obtain⟨i0,FM,Ft,Ew,Js⟩:=info_parts uz;have O:i0.bytes*n<=281474976710656:=by rw[Js];omega
 obtain⟨left,QU⟩:∃l:Nat,s.room-s.used=l:=⟨_,rfl⟩;rw[QU]at hl g2;clear h hn hr ab h0 QU;go_enter func54,ntmps54
 go_wp2_with fail
 refine hl.mono ?_;rintro e w1 ⟨rfl,rfl⟩;go_wp2_with (with_reducible refine EO 23 ?_)
 unfold Hid;refine I4 _ rfl _ _ 116 rfl 120 i0 (.int .u64 0) Bc FM Ft Ew rfl AB AB _ _ n rfl rfl rfl rfl O a5 ?_;intro w2 EA DN Gk;have FK:Row (w2.alloc (AK #[AJ w1 n n] 119)) w2 119 [AJ w1 n n]:=heap_alloc_new _ _;have D9:=DN.trans (((AS _ w2).alloc ao (AK #[AJ w1 n n] 119)).mono a5);have cF:(w2.alloc (AK #[AJ w1 n n] 119)).heap.size=w1+2:=by simp[Gk]
 have PS:Row (w2.alloc (AK #[AJ w1 n n] 119)) w1 120 (BA n (.int .u64 0)):=EA.alloc _;have U:=HA.out.below D9;have ad:∀k,G k->k<w1:=hG;have Nx:=YH p s G w2 n _ U ⟨_,FK⟩ (λq hq e=>by have:=(NJ q hq).lt;omega) HN.out;have Gb:=AO FK;have Ei:=AO D9;have YQ:=AO PS;have aa:=AO cF;have Ly:=AO Gk;clear FK D9 PS cF U EA DN Gk NJ hl FM Ft Ew Js O;go_wp2_with fail
 refine Nx.mono ?_;rintro e w4 ⟨G',rfl,Q,Qy,I⟩;have Gk:=Ly.out;have cF:=aa.out;have IX:=Qy.row Gb.out (λH=>by have:=hG _ H;omega);have J:=Qy.row YQ.out (λH=>by have:=hG _ H;omega);have Dr:Hid (Jz w4 G' p (FG s w2.heap.size n)/\Row w4 w2.heap.size 119 [AJ (AE ⟨w1.heap.size,0,AD⟩) n n]/\Row w4 w1.heap.size 120 (BA n (.int .u64 0))/\w1.heap.size<=w2.heap.size/\w1.heap.size<=w1.heap.size/\w2.heap.size≠w1.heap.size/\¬G' w2.heap.size/\¬G' w1.heap.size/\DG G w1 w4/\∀k,G' k->G k\/w1.heap.size<=k):=by
  have cN:∀x,G' x->¬G x->w1.heap.size+2<=x:=λx hx H=>(I x hx).elim (λh=>absurd h H) λh=>by omega
  refine⟨Q,IX,J,a5,AQ _,a5,λh=>?_,λh=>?_,(DG.DB Ei.out G).trans Qy λk hk=>.inl hk,λk hk=>(I k hk).imp id λh=>by omega⟩
  ·by_cases H:G w2.heap.size
   ·have:=hG _ H;omega
   ·have:=cN _ h H;omega
  ·by_cases H:G w1.heap.size
   ·have:=hG _ H;omega
   ·have:=cN _ h H;omega
 clear Q Qy I IX J Nx Gk cF Gb Ei YQ aa Ly;go_wp2
 go_ret2
 exact⟨_,_,_,rfl,Dr.out⟩
theorem W0(p:Nat)(s:Ar)(G:Nat->Prop)(b n:Nat)(w:World)(h:Jz w G p s)(hb:LD w b)(O:wordsAt s.st b=AE n):
  Calls AP 70 #[AI p,AI b] w λe w'=>e=AH true/\Jz w' G p (release s b n)/\Row w' b 119 [AJ AD 0 0]/\DG (λk=>G k\/k=b) w w':=by
 have hw:=h.words O;have Vi:=h.Pf hb;have NJ:=λq H=>Bq (h.buf (q:=q) H) (h.Pf (h.buf H));obtain⟨h0,⟨m,U,I,qO⟩,hp,hG,_⟩:=id h;rcases I with⟨rfl,I⟩|⟨bm,rfl,hm,Ta⟩
 ·rw[I]at O;cases O
 have c3:w.cell? (p,3)=AE (.map (AE bm)):=U.cell 3;have nC:(Instr.lookup 95 (.map (AE bm)) (AI b) true).run AP w=.ok (AM #[n,true]) w:=by
  have:=Wv w hm hb λq H=>(NJ q H).1;rw[O]at this;exact this
 have ab:bm≠p:=λe=>hm.EG U e.symm;have HM:=AO hm;have HR:=AO U;have H0:=AO h0;have yA:=AO O;obtain⟨u,hu⟩:=al (s.used-n);have aa:(s.used:Int)-(n:Int)=(u:Int):=a5;have g1:(-9223372036854775808:Int)<=(u:Int):=a5;have g2:(u:Int)<=9223372036854775807:=a5;have HU:=AO hu;clear hu U hm h h0 O hw;go_enter func70,ntmps70
 go_wp2_with (with_reducible refine bT ?_)
 unfold Hid;refine RS _ rfl _ _ rfl bm b n s.st rfl rfl HM.out hb (λq H=>(NJ q H).1) yA.out ?_;intro w2 Q FT;have Gl:DG (λk=>k=bm) w w2:=(DG.refl _ w).grown FT λk J=>.inl (by injection J with J;exact J.symm);have EA:=Gl.row HR.out (HM.out.EG HR.out);obtain⟨v,hv⟩:=hb;have DN:=Gl.row hv (HM.out.EG hv);have k1:w2.cell? (p,1)=AE (AA AB (s.used:Int)):=EA.cell 1;have f1:=EA.free 1;have fb:=DN.free 0;have kb:w2.cell? b=AE v:=DN.cell 0;have qJ:b≠p:=λe=>Vi (e▸hp);have zR:p≠b:=λe=>qJ e.symm;have Ji:Jz ((w2.setCell (p,1) u).setCell b (AJ AD 0 0)) G p (release s b n)/\Row ((w2.setCell (p,1) u).setCell b (AJ AD 0 0)) b 119 [AJ AD 0 0]/\
   DG (λk=>G k\/k=b) w ((w2.setCell (p,1) u).setCell b (AJ AD 0 0)):=by
  have FK:Row ((w2.setCell (p,1) u).setCell b (AJ AD 0 0)) p 97 (Ee (release s b n) (AE bm)):=by
   have e:Ee (release s b n) (AE bm)=(Ee s (AE bm)).set 1 u:=by rw[<-HU.out];rfl
   rw[e];exact(EA.set 1 _).Ey (λe=>qJ e.symm) _
  have JU:Row ((w2.setCell ⟨p,1,AD⟩ (AA AB (u:Int))).setCell ⟨b,0,AD⟩ (AJ AD 0 0)) b 119 [AJ AD 0 0]:=(DN.Ey (p:=⟨p,1,AD⟩) qJ _).set 0 _;have Qy:DG (λk=>G k\/k=b) w ((w2.setCell (p,1) u).setCell b (AJ AD 0 0)):=((Gl.mono λk J=>.inl (J▸Ta)).set (p:=(p,1)) (.inl (.inl hp)) _).set (p:=b) (.inl (.inr rfl)) _;refine⟨⟨NU H0.out yA.out,⟨AE bm,FK,.inr ⟨bm,rfl,Q.same ?_,Ta⟩,qO⟩,hp,λk J=>BH (hG k J) Qy.size,λq H=>?_⟩,JU,Qy⟩
  ·rw[heap_setCell_other _ ⟨b,0,AD⟩ _ _ (show bm≠b from λe=>Vi (e▸Ta)),heap_setCell_other _ ⟨p,1,AD⟩ _ _ (show bm≠p from ab)]
  ·have jT:=NJ q (Iq _ _ _ H);by_cases e:q.1=b
   ·rw[e];exact⟨_,JU⟩
   ·exact jT.1.Ey Qy λh=>h.elim jT.2 e
 have Dr:=AO Ji;clear Ji Q FT Gl EA DN hv c3 nC NJ;go_wp2
 go_ret
 exact⟨rfl,Dr.out⟩
theorem Cz{B a w}(h:Below B a w):Below B a w.drew:=⟨h.os,h.tape,h.output,h.size,h.block⟩
structure Wp where
 w:Nat
 d:Nat
 a:Nat
 s:Nat
structure Fs where
 D:St
 A:Ar
 S:Sp
def Sys(w:World)(G:Nat->Prop)(p:Wp)(F:Fs)(n:Nat):Prop:=
 ∃Gd Ga Gs,Row w p.w 87 [ptr p.d,ptr p.a,ptr p.s]/\LC w Gd p.d F.D n/\Jz w Ga p.a F.A/\JY w Gs p.s F.S/\(∀k,G k↔k=p.w\/Gd k\/Ga k\/Gs k)/\
  (∀k,Gd k->¬Ga k/\¬Gs k/\k≠p.w)/\(∀k,Ga k->¬Gs k/\k≠p.w)/\(∀k,Gs k->k≠p.w)/\∀q∈F.A.st,¬G q.1
def DQ(w:World)(G:Nat->Prop)(p:Wp)(F:Fs)(n:Nat)(w':World):Prop:=∃G',Sys w' G' p F n/\DG G w w'/\∀k,G' k->G k\/w<=k
section
variable{w w':World}{G:Nat->Prop}{p:Wp}{F:Fs}{n:Nat}
theorem Sys.lt(h:Sys w G p F n){k}(I:G k):k<w:=by
 obtain⟨U,Ga,Q,H,hd,J,e,O,_⟩:=h;rcases(O k).1 I with rfl|h|h|h
 ·exact H.lt
 ·exact hd.lt h
 ·exact J.lt h
 ·exact e.lt h
theorem Sys.row(h:Sys w G p F n):Row w p.w 87 [ptr p.d,ptr p.a,ptr p.s]:=by obtain⟨I,J,H,e,_⟩:=h;exact e
theorem Sys.size(h:Sys w G p F n):8<=F.D.size/\F.D.size<=256:=by obtain⟨I,J,H,e,hd,_⟩:=h;exact hd.fits.size
theorem Sys.sound(h:Sys w G p F n):Sound F.A:=by obtain⟨J,O,I,H,hd,e,_⟩:=h;exact e.sound
theorem Sys.eZ(h:Sys w G p F n):F.S.ok:=by obtain⟨O,Q,J,H,hd,I,e,_⟩:=h;exact e.1
theorem Sys.fits(h:Sys w G p F n):Fits F.D n:=by obtain⟨I,J,H,e,hd,_⟩:=h;exact hd.fits
theorem Sys.buf(h:Sys w G p F n){q}(e:q∈F.A.st):LD w q.1/\¬G q.1:=by obtain⟨U,Ga,Q,J,hd,H,I,O,_,_,_,hb⟩:=h;exact⟨H.buf e,hb q e⟩
theorem Sys.Ey{R}(h:Sys w G p F n)(hf:DG R w w')(I:∀k,G k->¬R k)(U:∀q∈F.A.st,¬R q.1):Sys w' G p F n:=by
 obtain⟨Gd,Ga,Gs,O,hd,Q,J,H,h1,h2,h3,h4⟩:=h;exact⟨Gd,Ga,Gs,hf.row O (I _ ((H _).2 (.inl rfl))),hd.Ey hf λk e=>I k ((H k).2 (.inr (.inl e))),Q.Ey hf (λk e=>I k ((H k).2 (.inr (.inr (.inl e))))) U,J.Ey hf λk e=>I k ((H k).2 (.inr (.inr (.inr e)))),H,h1,h2,h3,h4⟩
theorem Sys.below(h:Sys w G p F n)(hb:Below w w w'):Sys w' G p F n:=h.Ey (DG.DB hb λ_=>False) (λ_ _ hf=>hf) λ_ _ hf=>hf
theorem Sys.mono{n'}(h:Sys w G p F n)(H:n<=n')(I:n'<=1000000):Sys w G p F n':=by
 obtain⟨O,Q,J,e,hd,r⟩:=h;exact⟨O,Q,J,e,hd.mono H I,r⟩
theorem DQ.DB(h:Sys w G p F n)(hb:Below w w w'):DQ w G p F n w':=⟨G,h.below hb,DG.DB hb G,λ_ e=>.inl e⟩
theorem DQ.behind{w1}(hb:Below w w w1)(h:DQ w1 G p F n w'):DQ w G p F n w':=by
 obtain⟨G',J,I,h3⟩:=h;exact⟨G',J,(DG.DB hb G).trans I λb e=>.inl e,λk H=>(h3 k H).imp id λh=>Af hb.size h⟩
theorem DQ.ahead{w1}(h:DQ w G p F n w1)(hb:Below w1 w1 w'):DQ w G p F n w':=by
 obtain⟨G',H,e,h3⟩:=h;exact⟨G',H.below hb,e.trans (DG.DB hb λ_=>False) λ_ hf=>hf.elim,h3⟩
theorem DQ.mono{n'}(h:DQ w G p F n w')(e:n<=n')(H:n'<=1000000):DQ w G p F n' w':=by
 obtain⟨G',J,I⟩:=h;exact⟨G',J.mono e H,I⟩
theorem DQ.apart(h:DQ w G p F n w'):∃G',Sys w' G' p F n/\DG G w w'/\(∀k,G' k->G k\/w.heap.size<=k)/\∀k,k<w.heap.size->¬G k->¬G' k:=by
 obtain⟨G',J,I,h3⟩:=h;exact⟨G',J,I,h3,λk O e H=>(h3 k H).elim e λh=>by omega⟩
theorem Sys.dev(h:Sys w G p F n):∃U,LC w U p.d F.D n/\∀w' D' n',(∃I,LC w' I p.d D' n'/\DG U w w'/\∀k,I k->U k\/w<=k)->DQ w G p {F with D:=D'} n' w':=by
 have Q:=λk e=>h.lt (k:=k) e;obtain⟨U,Ga,Gs,hr,hd,ha,hs,H,h1,h2,h3,h4⟩:=h;refine⟨U,hd,λw' D' n' ⟨I,k1,k2,k3⟩=>⟨λk=>k=p.w\/I k\/Ga k\/Gs k,⟨I,Ga,Gs,?_,k1,?_,?_,λk=>BN,?_,h2,h3,?_⟩,k2.mono λk e=>(H k).2 (.inr (.inl e)),?_⟩⟩
 ·exact k2.row hr λe=>(h1 _ e).2.2 rfl
 ·exact ha.Ey k2 (λk e JV=>(h1 k JV).1 e) λq O e=>h4 q O ((H _).2 (.inr (.inl e)))
 ·exact hs.Ey k2 λk e JV=>(h1 k JV).2.1 e
 ·intro k e;rcases k3 k e with h5|h5
  ·exact h1 k h5
  ·refine⟨λJ=>?_,λJ=>?_,λJ=>?_⟩
   ·have:=Q k ((H k).2 (.inr (.inr (.inl J))));omega
   ·have:=Q k ((H k).2 (.inr (.inr (.inr J))));omega
   ·have:=hr.lt;omega
 ·intro q O e;rcases e with h5|h5|h5|h5
  ·exact h4 q O ((H _).2 (.inl h5))
  ·rcases k3 _ h5 with J|J
   ·exact h4 q O ((H _).2 (.inr (.inl J)))
   ·have:=(ha.buf O).lt;omega
  ·exact h4 q O ((H _).2 (.inr (.inr (.inl h5))))
  ·exact h4 q O ((H _).2 (.inr (.inr (.inr h5))))
 ·rintro k (h5|h5|h5|h5)
  ·exact .inl ((H k).2 (.inl h5))
  ·exact(k3 k h5).imp_left λJ=>(H k).2 (.inr (.inl J))
  ·exact .inl ((H k).2 (.inr (.inr (.inl h5))))
  ·exact .inl ((H k).2 (.inr (.inr (.inr h5))))
theorem Sys.spc(h:Sys w G p F n):∃Gs,JY w Gs p.s F.S/\∀w' S',Next w Gs p.s S' w'->DQ w G p {F with S:=S'} n w':=by
 have aa:=λk H=>h.lt (k:=k) H;obtain⟨Gd,Ga,Gs,hr,hd,ha,hs,I,h1,h2,h3,h4⟩:=h;refine⟨Gs,hs,λw' S' ⟨U,k1,k2,k3⟩=>⟨λk=>k=p.w\/Gd k\/Ga k\/U k,⟨Gd,Ga,U,?_,?_,?_,k1,λk=>BN,?_,?_,?_,?_⟩,k2.mono λk H=>(I k).2 (.inr (.inr (.inr H))),?_⟩⟩
 ·exact k2.row hr λH=>h3 _ H rfl
 ·exact hd.Ey k2 λk H JV=>(h1 k H).2.1 JV
 ·exact ha.Ey k2 (λk H JV=>(h2 k H).1 JV) λq Q H=>h4 q Q ((I _).2 (.inr (.inr (.inr H))))
 ·intro k H;refine⟨(h1 k H).1,λO=>?_,(h1 k H).2.2⟩;rcases k3 k O with J|J
  ·exact(h1 k H).2.1 J
  ·have:=hd.lt H;omega
 ·intro k H;refine⟨λO=>?_,(h2 k H).2⟩;rcases k3 k O with J|J
  ·exact(h2 k H).1 J
  ·have:=ha.lt H;omega
 ·intro k H e;rcases k3 k H with J|J
  ·exact h3 k J e
  ·have:=hr.lt;omega
 ·intro q Q H;rcases H with h5|h5|h5|h5
  ·exact h4 q Q ((I _).2 (.inl h5))
  ·exact h4 q Q ((I _).2 (.inr (.inl h5)))
  ·exact h4 q Q ((I _).2 (.inr (.inr (.inl h5))))
  ·rcases k3 _ h5 with O|O
   ·exact h4 q Q ((I _).2 (.inr (.inr (.inr O))))
   ·have:=(ha.buf Q).lt;omega
 ·rintro k (h5|h5|h5|h5)
  ·exact .inl ((I k).2 (.inl h5))
  ·exact .inl ((I k).2 (.inr (.inl h5)))
  ·exact .inl ((I k).2 (.inr (.inr (.inl h5))))
  ·exact(k3 k h5).imp_left λO=>(I k).2 (.inr (.inr (.inr O)))
theorem Sys.arn(h:Sys w G p F n):∃Ga,Jz w Ga p.a F.A/\
  (∀w' b g m,(∃Q,Jz w' Q p.a (FG F.A b m)/\Row w' b 119 [AJ (AE ⟨g,0,AD⟩) m m]/\Row w' g 120 (BA m (.int .u64 0))/\w.heap.size<=b/\w.heap.size<=g/\b≠g/\¬Q b/\¬Q g/\DG Ga w w'/\∀k,Q k->Ga k\/w.heap.size<=k)->
   ∃G',Sys w' G' p {F with A:=FG F.A b m} n/\DG G w w'/\(∀k,G' k->G k\/w<=k)/\¬G' b/\¬G' g)/\
  (∀w' b m,Jz w' Ga p.a (release F.A b m)->DG (λk=>Ga k\/k=b) w w'->¬G b->Sys w' G p {F with A:=release F.A b m} n/\DG (λk=>G k\/k=b) w w'):=by
 have aa:=λk e=>h.lt (k:=k) e;obtain⟨Gd,Ga,Gs,hr,hd,ha,hs,H,h1,h2,h3,h4⟩:=h;refine⟨Ga,ha,λw' b g m ⟨Q,k1,kb,kg,lb,lg,WM,nb,ng,O,k3⟩=>?_,λw' b m k1 O nb=>?_⟩
 ·have Ig:∀x,w.heap.size<=x->¬Q x->¬(x=p.w\/Gd x\/Q x\/Gs x):=by
   rintro x hx hn (h5|h5|h5|h5)
   ·have:=hr.lt;omega
   ·have:=hd.lt h5;omega
   ·exact hn h5
   ·have:=hs.lt h5;omega
  refine⟨λk=>k=p.w\/Gd k\/Q k\/Gs k,⟨Gd,Q,Gs,?_,?_,k1,?_,λk=>BN,?_,?_,h3,?_⟩,O.mono λk e=>(H k).2 (.inr (.inr (.inl e))),?_,Ig b lb nb,Ig g lg ng⟩
  ·exact O.row hr λe=>(h2 _ e).2 rfl
  ·exact hd.Ey O λk e J=>(h1 k e).1 J
  ·exact hs.Ey O λk e J=>(h2 k J).1 e
  ·intro k e;refine⟨λI=>?_,(h1 k e).2⟩;rcases k3 k I with U|U
   ·exact(h1 k e).1 U
   ·have:=hd.lt e;omega
  ·intro k e;rcases k3 k e with U|U
   ·exact h2 k U
   ·refine⟨λI=>?_,λI=>?_⟩
    ·have:=hs.lt I;omega
    ·have:=hr.lt;omega
  ·intro q hq e;have Xf:q∈F.A.st++[(b,m)]:=hq;rcases Ag.1 Xf with h5|h5
   ·rcases e with I|I|I|I
    ·exact h4 q h5 ((H _).2 (.inl I))
    ·exact h4 q h5 ((H _).2 (.inr (.inl I)))
    ·rcases k3 _ I with U|U
     ·exact h4 q h5 ((H _).2 (.inr (.inr (.inl U))))
     ·have:=(ha.buf h5).lt;omega
    ·exact h4 q h5 ((H _).2 (.inr (.inr (.inr I))))
   ·simp only[Bn]at h5;subst h5;exact Ig b lb nb e
  ·rintro k (h5|h5|h5|h5)
   ·exact .inl ((H k).2 (.inl h5))
   ·exact .inl ((H k).2 (.inr (.inl h5)))
   ·exact(k3 k h5).imp_left λI=>(H k).2 (.inr (.inr (.inl I)))
   ·exact .inl ((H k).2 (.inr (.inr (.inr h5))))
 ·refine⟨⟨Gd,Ga,Gs,?_,?_,k1,?_,H,h1,h2,h3,λq hq=>h4 q (Iq _ _ _ hq)⟩,O.mono λk e=>e.imp_left λh5=>(H k).2 (.inr (.inr (.inl h5)))⟩
  ·refine O.row hr ?_;rintro(e|e)
   ·exact(h2 _ e).2 rfl
   ·exact nb ((H _).2 (.inl e.symm))
  ·refine hd.Ey O ?_;rintro k e (J|J)
   ·exact(h1 k e).1 J
   ·subst J;exact nb ((H _).2 (.inr (.inl e)))
  ·refine hs.Ey O ?_;rintro k e (J|J)
   ·exact(h2 k J).1 e
   ·subst J;exact nb ((H _).2 (.inr (.inr (.inr e))))
theorem Sys.Hs(h:Sys w G p F n):Calls AP 34 #[ptr p.d] w λe w'=>e=AH F.D.size/\w'=w:=by
 obtain⟨J,O,I,H,hd,_⟩:=h;obtain⟨bl,bf,v,nl,H,_⟩:=hd.2;exact kY p.d F.D bl bf v w H
theorem Sys.XS(h:Sys w G p F n):Calls AP 33 #[ptr p.a] w λe w'=>e=AH ((F.A.room-F.A.used:Nat):Int)/\w'=w:=by
 obtain⟨Q,U,O,H,hd,I,_⟩:=h;obtain⟨J,⟨m,H,_⟩,_⟩:=id I;exact OB p.a F.A m w H J
theorem Sys.kG(h:Sys w G p F n):Calls AP 22 #[ptr p.a] w λe w'=>e=AH F.A.used/\w'=w:=by
 obtain⟨Q,U,O,H,hd,I,_⟩:=h;obtain⟨J,⟨m,H,_⟩,_⟩:=id I;exact TI p.a F.A m w H
theorem Sys.lS(h:Sys w G p F n):Calls AP 44 #[ptr p.a] w λe w'=>e=AH F.A.Fx/\w'=w:=by
 obtain⟨Q,U,O,H,hd,I,_⟩:=h;obtain⟨J,⟨m,H,_⟩,_⟩:=id I;exact ax p.a F.A m w H
end
section
variable{w:World}{p:Wp}
theorem jt(h:Row w p.w 87 [ptr p.d,ptr p.a,ptr p.s]):Calls AP 19 #[AI p.w] w λe w'=>e=AH (AI p.d)/\w'=w:=by
 have c0:w.cell? p.w=AE (AI p.d):=h.cell 0;go_enter func19,ntmps19
 go_wp2
 go_ret
 exact⟨rfl,rfl⟩
theorem kF(h:Row w p.w 87 [ptr p.d,ptr p.a,ptr p.s]):Calls AP 21 #[AI p.w] w λe w'=>e=AH (AI p.a)/\w'=w:=by
 have c0:w.cell? (p.w,1)=AE (AI p.a):=h.cell 1;go_enter func21,ntmps21
 go_wp2
 go_ret
 exact⟨rfl,rfl⟩
theorem jn(h:Row w p.w 87 [ptr p.d,ptr p.a,ptr p.s]):Calls AP 42 #[AI p.w] w λe w'=>e=AH (AI p.s)/\w'=w:=by
 have c0:w.cell? (p.w,2)=AE (AI p.s):=h.cell 2;go_enter func42,ntmps42
 go_wp2
 go_ret
 exact⟨rfl,rfl⟩
end
theorem jr(w:World):Calls AP 19 #[AI AD] w λe w'=>e=AH (AI AD)/\w'=w:=by
 go_enter func19,ntmps19
 go_wp2
 go_ret
 exact⟨rfl,rfl⟩
theorem jl(w:World):Calls AP 42 #[AI AD] w λe w'=>e=AH (AI AD)/\w'=w:=by
 go_enter func42,ntmps42
 go_wp2
 go_ret
 exact⟨rfl,rfl⟩
theorem Ow(d a s:Nat)(w:World):Calls AP 24 #[AI d,AI a,AI s] w λe w'=>e=AH (AI w)/\w'=w.alloc (AK #[ptr d,ptr a,ptr s] 87):=by
 go_enter func24,ntmps24
 go_wp2
 go_ret
 exact⟨rfl,rfl⟩
theorem oB(a s:Option Addr)(w:World):Calls AP 24 #[AI AD,AI a,AI s] w λe w'=>e=AH (AI AD)/\w'=w:=by
 go_enter func24,ntmps24
 go_wp2
 go_ret
 exact⟨rfl,rfl⟩
theorem tY(width:Int)(w:World):Calls AP 72 #[AI AD,width] w λe w'=>e=AH ()/\w'=w:=by
 go_enter func72,ntmps72
 go_wp2
 go_ret
 exact⟨rfl,rfl⟩
theorem IN(size:Nat)(width:Int):Ct size width<=size-2:=by
 unfold Ct;split
 ·exact Aq _
 ·exact BW _ _
theorem cL{w G p F n}(h:Sys w G p F n)(width:Int):Calls AP 72 #[AI p.w,width] w λe w'=>e=AH (Ct F.D.size width:Nat)/\w'=w:=by
 by_cases I:width<1
 ·have g1:decide (width<1)=true:=by simpa using I
  have H:Ct F.D.size width=0:=by unfold Ct;rw[if_pos (.inl I)]
  rw[H];go_enter func72,ntmps72
  go_wp2
  go_ret
  exact⟨rfl,rfl⟩
 have g1:decide (width<1)=false:=by simpa using I
 by_cases J:width>5
 ·have g2:decide (width>5)=true:=by simpa using J
  have H:Ct F.D.size width=0:=by unfold Ct;rw[if_pos (.inr J)]
  rw[H];clear I;go_enter func72,ntmps72
  go_wp2
  go_ret
  exact⟨rfl,rfl⟩
 have g2:decide (width>5)=false:=by simpa using J
 have H:Ct F.D.size width=(F.D.size-2)/width.toNat:=by unfold Ct;rw[if_neg a5]
 obtain⟨k,rfl⟩:∃k:Nat,width=(k:Int):=⟨width.toNat,a5⟩;rw[BX]at H;have U:=h.size;have c0:w.cell? p.w=AE (AI p.d):=h.row.cell 0;have Q:=h.Hs;rw[H];obtain⟨m,hm⟩:=ae (F.D.size-2);have O:(F.D.size:Int)-2=(m:Int):=a5;have SR:6<=m/\m<=254:=a5;have hq:Int.tdiv (m:Int) (k:Int)=((m/k:Nat):Int):=rfl;have WJ:¬((k:Int)=0):=a5;have SM:m/k<=m:=BW _ _;rw[<-hm];have HS:=AO Q;have aa:(if m<0 then (0:Int)else (m:Int))=(m:Int):=a8;clear Q hm H h I J;generalize m/k=q at*
 go_enter func72,ntmps72
 go_wp2_with fail
 refine HS.out.mono ?_;rintro e w1 ⟨rfl,rfl⟩;go_wp2
 go_ret
 exact⟨rfl,rfl⟩
theorem Ic{w G p F n}(h:Sys w G p F n)(width:Int):Calls AP 51 #[AI p.w,width] w λe w'=>e=AH (AL #[width,(Ct F.D.size width:Nat)])/\Below w w w':=by
 have O:Hid (Calls AP 72 #[AI p.w,width] (w.alloc (AK #[(),()] 105)) λe w'=>e=AH (Ct F.D.size width:Nat)/\w'=w.alloc (AK #[(),()] 105)):=cL (h.below ((AS _ w).alloc ao _)) width;have U:Hid (Below w w (w.alloc (AK #[(),()] 105))):=(AS _ w).alloc ao _;generalize Ct F.D.size width=q at*
 clear h;go_enter func51,ntmps51
 go_wp2_with fail
 refine O.out.mono ?_;rintro e w1 ⟨rfl,rfl⟩;go_wp2
 have Q:Below w w (w.alloc (AK #[width,q] 105)):=(AS _ w).alloc ao _;refine Aw (v:=AL #[width,q]) ?_ rfl ⟨rfl,Q⟩;have J:Row (w.alloc (AK #[width,q] 105)) w 105 [width,q]:=heap_alloc_new _ _;obtain⟨I,H⟩:=J.q2;simp[results,Tryz.results51,go_sem,I,H]
theorem eg(width:Int)(w:World):Calls AP 51 #[AI AD,width] w λe w'=>e=AH (AL #[width,()])/\Below w w w':=by
 have O:=AO (tY width (w.alloc (AK #[(),()] 105)));go_enter func51,ntmps51
 go_wp2_with fail
 refine O.out.mono ?_;rintro e w1 ⟨rfl,rfl⟩;go_wp2
 have Q:Below w w (w.alloc (AK #[width,()] 105)):=(AS _ w).alloc ao _;refine Aw (v:=AL #[width,()]) ?_ rfl ⟨rfl,Q⟩;have J:Row (w.alloc (AK #[width,()] 105)) w 105 [width,()]:=heap_alloc_new _ _;obtain⟨I,H⟩:=J.q2;simp[results,Tryz.results51,go_sem,I,H]
theorem Jp(k h c:Nat)(w:World)(hh:0<h)(G8:h<=254)(hc:c<=100000000):Calls AP 53 #[AL #[k,h],c] w λe w'=>e=AH (Cr h c:Nat)/\Below w w w':=by
 have I:=AO ((AS w w).alloc ao (AK #[k,h] 105));have U:Int.tdiv (c:Int) (h:Int)=((c/h:Nat):Int):=rfl;have Q:Cp (c:Int) (h:Int)=((c%h:Nat):Int):=rfl;have Gh:¬((h:Int)=0):=a5;have SM:c/h<=c:=BW _ _;have O:c%h<h:=Bw _ hh;by_cases hm:0<c%h
 ·have H:Hid (Cr h c=c/h+1):=by unfold Hid Cr;rw[if_pos hm]
  rw[H.out];have J:decide (((c%h:Nat):Int)>0)=true:=by simp;omega
  clear H hh;generalize c/h=q at*
  generalize c%h=m at*
  go_enter func53,ntmps53
  go_wp2
  go_ret
  exact⟨by rfl,I.out⟩
 ·have H:Hid (Cr h c=c/h):=by unfold Hid Cr;rw[if_neg hm]
  rw[H.out];have J:decide (((c%h:Nat):Int)>0)=false:=by simp;omega
  clear H hh;generalize c/h=q at*
  generalize c%h=m at*
  go_enter func53,ntmps53
  go_wp2
  go_ret
  exact⟨rfl,I.out⟩
theorem RQ(k h j c:Nat)(w:World)(hk:k<=5)(G8:h<=254)(hc:c<=100000000)(Q:j*h<=c):Calls AP 77 #[AL #[k,h],j,c] w λe w'=>e=AH (min h (c-j*h)*k:Nat)/\Below w w w':=by
 have HB:=AO ((AS w w).alloc ao (AK #[k,h] 105));obtain⟨I,J⟩:=ae (j*h);have hmul:(j:Int)*(h:Int)=(I:Int):=by rw[J];exact(Be j h).symm
 rw[<-J]at Q⊢;obtain⟨d,hd⟩:=ae (c-I);have O:(c:Int)-(I:Int)=(d:Int):=a5;rw[<-hd];obtain⟨lo,H⟩:=ae (min h d);have Lr:(if d<h then (d:Int)else (h:Int))=(lo:Int):=by rw[H];split<;>omega
 have al:(if h<d then (h:Int)else (d:Int))=(lo:Int):=by rw[H];split<;>omega
 have U:lo<=254:=a5;rw[<-H];obtain⟨m,hm⟩:=ae (lo*k);have ar:(lo:Int)*(k:Int)=(m:Int):=by rw[hm];exact(Be lo k).symm
 have aa:m<=1270:=by rw[hm];exact Nat.mul_le_mul U hk
 rw[<-hm];have ab:I<=100000000:=a5;have ad:d<=100000000:=a5;clear hm H hd J Q;go_enter func77,ntmps77
 go_wp2
 go_ret
 exact⟨rfl,HB.out⟩
theorem VK(k h i g n:Nat)(w:World)(WJ:0<k)(hk:k<=5)(hh:0<h)(G8:h<=254)(aa:i<=100000000)(I:i%h*k+k<=n)(PO:n<=256):Calls AP 59 #[AL #[k,h],AJ g n n,i] w λe w'=>e=AH (AJ (AE ⟨g,i%h*k,AD⟩) k (n-i%h*k))/\Below w w w':=by
 have DV:=(AS w w).alloc ao (AK #[k,h] 105);have HB:=AO DV;have O:Row (w.alloc (AK #[k,h] 105)) w 105 [k,h]:=heap_alloc_new _ _;obtain⟨c0,c1⟩:=O.q2;have U:Cp (i:Int) (h:Int)=((i%h:Nat):Int):=rfl;have Gh:¬((h:Int)=0):=a5;have Q:i%h<h:=Bw _ hh;obtain⟨m,hm⟩:=ae (i%h);rw[<-hm]at U Q I⊢;obtain⟨a,J⟩:=ae (m*k);have hmul:(m:Int)*(k:Int)=(a:Int):=by rw[J];exact(Be m k).symm
 rw[<-J]at I⊢;obtain⟨u,hu⟩:=ae (a+k);have Ku:(a:Int)+(k:Int)=(u:Int):=a5;have H:u-a=k:=a5;have hcut:=λW=>J8 (P:=AP) W 116 120 _ Bc (info_parts QL).choose_spec.1 (info_parts QL).choose_spec.2.2.1 g n n a u a5 a5 AB AB (a:Int) (u:Int) rfl rfl;rw[H,EW a5,BL,Nat.mul_one]at hcut;have QV:a<=256:=a5;have Ph:u<=256:=a5;clear O hm J hu H DV hh I;go_enter func59,ntmps59
 go_wp2
 generalize w.alloc (AK #[k,h] 105)=w1 at*
 go_region
 go_wp2
 go_ret
 exact⟨rfl,Cz HB.out⟩
theorem Wh{b A n c w}(h:Row w b 119 [AJ A n c]):Calls AP 75 #[AI b] w λe w'=>e=AH (.bool (decide (0<n)))/\w'=w:=by
 have c0:w.cell? b=AE (AJ A n c):=h.cell 0;go_enter func75,ntmps75
 go_wp2
 go_ret
 exact⟨II a8,rfl⟩
theorem Qn{P w}(t e ty:TypeId)(z:Value)(ht:P.underlying t=AE (.slice e))(Q:∀w,(zeroValue e).run P w=.ok z w)(hz:z.cells=#[z])(h1:z.oneCell'=true)
  (n c g:Nat)(cur:List Value)(O:TypeId)(U:Row w g O cur)(J:n<=cur.length)(hn:0<n):
  ∃w',(Builtin.clear_ #[t] ty #[.slice g n c]).run P w=.ok (AM #[]) w'/\Row w' g O (BA n z++cur.drop n)/\DG (λk=>k=g) w w':=by
 obtain⟨m,rfl⟩:∃m,n=m+1:=⟨n-1,a5⟩;have H:(BZ z.cells (m+1)).toList=BA (m+1) z:=by
  rw[hz];apply List.ext_getElem?;intro i;simp[BZ,List.getElem?_replicate];by_cases hi:i<m+1<;>simp[hi,Nat.mod_one]
 have I:=run_storeCells_at P g 0 O (BZ z.cells (m+1)).toList 0 cur.toArray w U (by rw[H];simpa using J) (by rw[H];intro v Q;rw[List.mem_replicate]at Q;rw[Q.2];exact h1);simp only[Nat.add_zero]at I;rw[H]at I;refine⟨_,?_,setRow_heap w g cur.toArray _ O (0,0) U,DG.setRow w g _⟩;simp[Builtin.clear_,Bv ht,Q,H,I]
theorem qd(w:World):(zeroValue 2).run AP w=.ok () w:=a7
theorem oJ(w:World)(a b c d e a' b' c' I H:Int):(binOp .eql 47 (AL #[a,b,c,d,e]) (AL #[a',b',c',I,H])).run AP w=.ok (.bool (a==a'&&(b==b'&&(c==c'&&(d==I&&e==H))))) w:=by
 obtain⟨i0,hi⟩:∃i,AP.info? 2=AE i:=by
  rcases h:AP.info? 2 with _|i
  ·have:(AP.info? 2).isSome=true:=a7;rw[h]at this;cases this
  ·exact⟨i,rfl⟩
 have Li:AP.cellsOf 2=1:=a7;have p0:∀(a b c d e:Int) w,(part 2 #[a,b,c,d,e] 0).run AP w=.ok a w:=λa b c d e w=>run_part_plain (P:=AP) w a7 rfl;have p1:∀(a b c d e:Int) w,(part 2 #[a,b,c,d,e] 1).run AP w=.ok b w:=λa b c d e w=>run_part_plain (P:=AP) w a7 rfl;have U:∀(a b c d e:Int) w,(part 2 #[a,b,c,d,e] 2).run AP w=.ok c w:=λa b c d e w=>run_part_plain (P:=AP) w a7 rfl;have Q:∀(a b c d e:Int) w,(part 2 #[a,b,c,d,e] 3).run AP w=.ok d w:=λa b c d e w=>run_part_plain (P:=AP) w a7 rfl;have O:∀(a b c d e:Int) w,(part 2 #[a,b,c,d,e] 4).run AP w=.ok e w:=λa b c d e w=>run_part_plain (P:=AP) w a7 rfl;rw[run_eql_struct,show (10000:Nat)=9998+1+1 from rfl,run_equalIn_array w (9998+1) _ _ underlying47 hi,Li];have q:=λ(a b:Int) (w:World)=>run_equalIn_int (P:=AP) w 9998 2 AB AB a b underlying2;have J:∀(a b:Int) (w:World),(Op.equalIn 9999 2 a b).run AP w=.ok (a==b) w:=q;simp only[Op.eqItems,Bu,List.range.loop,Sem.run_bind,Nat.mul_one,p0,Result.andThen_ok,q];by_cases h1:a=a'<;>by_cases h2:b=b'<;>by_cases h3:c=c'<;>by_cases h4:d=I<;>by_cases h5:e=H<;>simp[h1,h2,h3,h4,h5,p1,U,Q,O,J]
theorem UR(w:World)(op:BinOp)(x y:Operand)(xs e:Array Value):(eqGuard op 47 x y (.agg xs) (.agg e)).run AP w=.ok () w:=
 run_eqGuard_agg w op 47 x y _ _ a7
def DS(t:Cv):Value:=AL #[t.a,t.b,t.c,t.d,t.e]
theorem Y0(t:Cv)(k:Nat)(w:World)(WJ:0<k)(hk:k<=5):Calls AP 58 #[AL #[t.a,t.b,t.c,t.d,t.e],k] w λe w'=>e=AH (.bool (Dc k t))/\Below w w w':=by
 obtain⟨a,b,c,d,e⟩:=t;have hr:Row (w.alloc (AK #[a,b,c,d,e] 47)) w 47 [a,b,c,d,e]:=heap_alloc_new _ _;obtain⟨w2,Fh,EA,Gl⟩:=Qn (P:=AP) 43 2 0 () underlying43 qd rfl rfl k 5 w.heap.size _ 47 hr (by simpa using hk) WJ;have Qf:=AO EA;have E1:=AO (((AS w w).alloc ao (AK #[a,b,c,d,e] 47)).trans (Gl.below (B:=w) a8 (λb hb=>by rw[hb];exact AQ _)));have Oj:∀W,(Instr.sliceAt 47 (.pointer w) AD (AE (AA AB (k:Int))) AD).run AP W=.ok (.slice w k 5) W:=λW=>by
  have Tb:AP.arrayLen 47=5:=a7;have Q:AP.elem 47=2:=a7;obtain⟨i0,hi⟩:∃i,AP.info? 2=AE i:=by
   rcases h:AP.info? 2 with _|i
   ·have:(AP.info? 2).isSome=true:=a7;rw[h]at this;cases this
   ·exact⟨i,rfl⟩
  rw[run_sliceAt_array_h W 47 w.heap.size (by rw[Tb,Q];exact underlying47) AB (k:Int) a5 (by rw[Tb];omega),Tb,Q];simp[sizeOf,typeInfo,hi,slicedAt,CY]
 have hq:=λW a b c d e=>oJ W a b c d e 0 0 0 0 0;have hg:=UR;have J:∀(i:Nat) (x:Int),i<5->[a,b,c,d,e][i]?=AE x->w2.cell? (w,i)=AE (AA AB (if i<k then 0 else x)):=λi x hi H=>by
  rw[Qf.out.cell i];by_cases O:i<k
  ·rw[Al (by simpa using O),if_pos O];simp[O]
  ·rw[AX (by simpa using O),if_neg O,List.length_replicate,CL,show k+(i-k)=i by omega]
   match i,hi,H with
   |0,_,H=>simp at H;simp[H]
   |1,_,H=>simp at H;simp[H]
   |2,_,H=>simp at H;simp[H]
   |3,_,H=>simp at H;simp[H]
   |4,_,H=>simp at H;simp[H]
 obtain⟨z0,Ft⟩:∃z,z=if 0<k then 0 else a:=⟨_,rfl⟩
 obtain⟨z1,Ew⟩:∃z,z=if 1<k then 0 else b:=⟨_,rfl⟩
 obtain⟨z2,Js⟩:∃z,z=if 2<k then 0 else c:=⟨_,rfl⟩
 obtain⟨z3,U⟩:∃z,z=if 3<k then 0 else d:=⟨_,rfl⟩
 obtain⟨z4,I⟩:∃z,z=if 4<k then 0 else e:=⟨_,rfl⟩
 have c0:=J 0 a a5 rfl;have c1:=J 1 b a5 rfl;have c2:=J 2 c a5 rfl;have c3:=J 3 d a5 rfl;have c4:=J 4 e a5 rfl;rw[<-Ft]at c0;rw[<-Ew]at c1;rw[<-Js]at c2;rw[<-U]at c3;rw[<-I]at c4;have HE:Hid ((z0==0&&(z1==0&&(z2==0&&(z3==0&&z4==0))))=Dc k ⟨a,b,c,d,e⟩):=by
  unfold Hid;rw[Ft,Ew,Js,U,I]
  match k,WJ,hk with
  |1,_,_=>simp[Dc,Cv.D8]
  |2,_,_=>simp[Dc,Cv.D8]
  |3,_,_=>simp[Dc,Cv.D8]
  |4,_,_=>simp[Dc,Cv.D8]
  |5,_,_=>simp[Dc,Cv.D8]
 rw[<-HE.out];clear EA Gl hr J Qf Ft Ew Js U I HE;go_enter func58,ntmps58
 go_wp2
 go_ret
 exact⟨II a8,E1.out⟩
def takeN(S:Sp)(m:Nat):Sp×Nat×Nat×Nat:=
 if m=0 then (S,0,0,0)else if (GN S m).2.2=0 then ((GN S m).1,(GN S m).2.1,m,0)else ((GN S m).1,0,0,(GN S m).2.2)
def Dm(S:Sp)(f m:Nat):Sp:=if m=0 then S else (Ez S f m).1
theorem DQ.own{w w1 w2 w3:World}{G p F}{n g:Nat}(h:DQ w1 G p F n w2)(hb:Below w w w1)(Hz:w<=g)(FT:g<w1)(O:∀k,G k->k<w)(H:∀q∈F.A.st,q.1≠g)(hf:DG (λk=>k=g) w2 w3):DQ w G p F n w3:=by
 obtain⟨G',U,Q,h3⟩:=h;refine⟨G',U.Ey hf (λk I e=>?_) H,((DG.DB hb G).trans Q λb J=>.inl J).trans hf λb e=>.inr (by rw[e];exact Hz),λk I=>(h3 k I).imp id λh=>Af hb.size h⟩;subst e;rcases h3 k I with h4|h4
 ·have:=O k h4;omega
 ·omega
theorem DG.one{w}(g i:Nat)(v:Value):DG (λk=>k=g) w (w.setCell (g,i) v):=(DG.refl (λk=>k=g) w).set (p:=(g,i)) (.inl rfl) v
theorem DG.two(w:World)(g i j:Nat)(u v:Value):DG (λk=>k=g) w ((w.setCell (g,i) u).setCell (g,j) v):=(DG.one g i u).set (p:=(g,j)) (.inl rfl) v
theorem Pv{w G p F n}(h:Sys w G p F n)(m:Nat)(hm:m<=100000000):
  Calls AP 52 #[AI p.w,m] w λe w'=>e=AH (AM #[AL #[AA AB (takeN F.S m).2.1,AA AB (takeN F.S m).2.2.1],AA AB (takeN F.S m).2.2.2])/\DQ w G p {F with S:=(takeN F.S m).1} n w':=by
 have DV:=(AS w w).alloc ao (AK #[(),()] 100);have H:Row (w.alloc (AK #[(),()] 100)) w 100 [(),()]:=heap_alloc_new _ _;have h1:=h.below DV;by_cases J:m=0
 ·subst J;have e0:takeN F.S 0=(F.S,0,0,0):=rfl;rw[e0];have HX:Hid (DQ w G p F n (w.alloc (AK #[(),()] 100))):=DQ.DB h DV;obtain⟨U,Q⟩:=H.q2;clear h h1 DV H e0;go_enter func52,ntmps52
  go_wp2
  refine Aw (v:=AM #[AL #[(),()],()]) (by simp[results,Tryz.results52,go_sem,U,Q]) rfl ⟨rfl,HX.out⟩
 ·have g0:((m:Int)==0)=false:=by simpa using J
  have c2:(w.alloc (AK #[(),()] 100)).cell? (p.w,2)=AE (AI p.s):=h1.row.cell 2;have aa:=λk hk=>h.lt (k:=k) hk;have SY:∀q∈F.A.st,q.1≠w:=λq hq e=>by have:=(h.buf hq).1.lt;omega
  obtain⟨Gs,hs,Gn⟩:=h1.spc;have ht:=kI p.s F.S Gs m _ hs (Fg.of a5 a5);have hz:(w.alloc (AK #[(),()] 100)).heap.size=w+1:=a8;have HE:Hid (takeN F.S m=if (GN F.S m).2.2=0 then ((GN F.S m).1,(GN F.S m).2.1,m,0)else ((GN F.S m).1,0,0,(GN F.S m).2.2)):=by unfold Hid takeN;rw[if_neg J]
  have HT:=AO ht;have bJ:=AO Gn;have Fz:=AO H;have HB:=AO DV;have KV:=AO aa;have ab:=AO SY;have HZ:=AO hz;rw[HE.out];clear ht Gn H DV aa SY h h1 hs HE hz;generalize GN F.S m=q at*
  obtain⟨S',a,er⟩:=q;simp only at HT⊢;by_cases he:er=0
  ·subst he;rw[if_pos rfl];go_enter func52,ntmps52
   go_wp2_with fail
   refine HT.out.mono ?_;rintro e w2 ⟨rfl,hn⟩;have O:=bJ.out _ _ hn;have I:Row w2 w 100 [(),()]:=by
    obtain⟨G',k1,k2,k3⟩:=O;exact k2.row Fz.out λhg=>by have:=KV.out _ hg;omega
   have Ly:Hid (∀w3,DG (λk=>k=w) w2 w3->DQ w G p {F with S:=S'} n w3):=λw3 hf=>O.own HB.out ao (by rw[HZ.out];omega) KV.out ab.out hf;obtain⟨b0,b1⟩:=I.q2;obtain⟨f0,f1⟩:=I.r2;have jg:=AO I;clear O hn I bJ HT;go_wp2
   have IZ:Row ((w2.setCell w a).setCell (w,1) m) w 100 [a,m]:=(jg.out.set 0 _).set 1 _;obtain⟨U,Q⟩:=IZ.q2;refine Aw (v:=AM #[AL #[a,m],()]) (by simp[results,Tryz.results52,go_sem,U,Q]) rfl ⟨rfl,Ly.out _ (DG.two _ _ _ _ _ _)⟩
  ·rw[if_neg he];have g1:((er:Int) !=0)=true:=by simpa using he
   go_enter func52,ntmps52
   go_wp2_with fail
   refine HT.out.mono ?_;rintro e w2 ⟨rfl,hn⟩;have O:=bJ.out _ _ hn;have I:Row w2 w 100 [(),()]:=by
    obtain⟨G',k1,k2,k3⟩:=O;exact k2.row Fz.out λhg=>by have:=KV.out _ hg;omega
   have Ly:Hid (∀w3,DG (λk=>k=w) w2 w3->DQ w G p {F with S:=S'} n w3):=λw3 hf=>O.own HB.out ao (by rw[HZ.out];omega) KV.out ab.out hf;obtain⟨b0,b1⟩:=I.q2;obtain⟨f0,f1⟩:=I.r2;have jg:=AO I;clear O hn I bJ HT;go_wp2
   have IZ:Row ((w2.setCell w ()).setCell (w,1) ()) w 100 [(),()]:=(jg.out.set 0 _).set 1 _;obtain⟨U,Q⟩:=IZ.q2;refine Aw (v:=AM #[AL #[(),()],er]) (by simp[results,Tryz.results52,go_sem,U,Q]) rfl ⟨rfl,Ly.out _ (DG.two _ _ _ _ _ _)⟩
theorem DQ.cell{w w1 G p F n}(h:DQ w G p F n w1):w1.cell? p.w=AE (AI p.d)/\w1.cell? (p.w,1)=AE (AI p.a)/\w1.cell? (p.w,2)=AE (AI p.s):=by
 obtain⟨G',e,_⟩:=h;exact⟨e.row.cell 0,e.row.cell 1,e.row.cell 2⟩
theorem DQ.row{w w1 G p F n g t cs}(h:DQ w G p F n w1)(e:Row w g t cs)(H:¬G g):Row w1 g t cs:=by
 obtain⟨G',J,I,_⟩:=h;exact I.row e H
theorem UZ{w G p F n}(h:Sys w G p F n)(f m:Nat)(hf:f<=100000000)(hm:m<=100000000):
  Calls AP 55 #[AI p.w,AL #[f,m]] w λe w'=>e=AH (AM #[])/\DQ w G p {F with S:=Dm F.S f m} n w':=by
 have DV:=(AS w w).alloc ao (AK #[f,m] 100);have H:Row (w.alloc (AK #[f,m] 100)) w 100 [f,m]:=heap_alloc_new _ _;have U:¬G w:=λhg=>by have:=h.lt hg;omega
 by_cases J:m=0
 ·subst J;have I:Dm F.S f 0=F.S:=rfl;rw[I];have HX:Hid (DQ w G p F n (w.alloc (AK #[f,()] 100))):=DQ.DB h DV;clear h DV H I;go_enter func55,ntmps55
  go_wp2
  go_end0
  exact⟨rfl,HX.out⟩
 ·have g0:decide ((m:Int)>0)=true:=by simp;omega
  have I:Dm F.S f m=(Ez F.S f m).1:=by unfold Dm;rw[if_neg J]
  have O:=h.below DV;have yH:Hid (∀q,Calls AP 63 #[AI p.s,f,m] ((w.alloc (AK #[f,m] 100)).drewN q) λe w'=>e=AH ((Ez F.S f m).2:Nat)/\DQ ((w.alloc (AK #[f,m] 100)).drewN q) G p {F with S:=(Ez F.S f m).1} n w'):=λq=>by
   obtain⟨Gs,hs,Gn⟩:=(O.below (Cy (AS _ _) q)).spc;exact(Xv p.s F.S Gs f m _ hs (Fg.of a5 a5) (Fg.of a5 a5)).mono λe w' ⟨he,hn⟩=>⟨he,Gn _ _ hn⟩
  have c2:(w.alloc (AK #[f,m] 100)).cell? (p.w,2)=AE (AI p.s):=O.row.cell 2;obtain⟨b0,b1⟩:=H.q2;have HB:=AO DV;have Fz:=AO H;rw[I];clear O h DV H I;generalize Ez F.S f m=q at*
  go_enter func55,ntmps55
  go_wp2
  generalize w.alloc (AK #[f,m] 100)=w1 at*
  have I:w1.drew.cell? (p.w,2)=AE (AI p.s):=c2;have e1:w1.drew.cell? w=AE (AA AB (f:Int)):=b0;have e2:w1.drew.cell? (w,1)=AE (AA AB (m:Int)):=b1;go_region_held3 (λw'=>w'.cell? (p.w,2)=AE (AI p.s)/\w'.cell? w.heap.size=AE (AA AB (f:Int))/\w'.cell? (w.heap.size,1)=AE (AA AB (m:Int))) (first|with_reducible exact⟨I,e1,e2⟩|with_reducible exact⟨d0,d1,d2⟩)
   (first
    |(go_at_call 63;refine(yH.out 1).mono ?_;rintro e Q ⟨rfl,h5⟩;have d0:=h5.cell.2.2;have d1:Q.cell? w.heap.size=AE (AA AB (f:Int)):=(h5.row (Fz.out.drewN 1) U).cell 0;have d2:Q.cell? (w.heap.size,1)=AE (AA AB (m:Int)):=(h5.row (Fz.out.drewN 1) U).cell 1))
  go_wp2
  go_end0
  exact⟨rfl,h5.behind (Cy HB.out 1)⟩
structure Wt where
 k:Nat
 h:Nat
 bound:Nat
 first:Nat
 blocks:Nat
 b:Nat
 g:Nat
 l:List Cv
def Yx(p:Wp)(t:Wt):List Value:=[t.k,t.h,AI p.w,t.bound,t.l.length,t.first,t.blocks,AI t.b]
structure Ep (t:Wt) (sz:Nat):Prop where
 k:0<t.k/\t.k<=5
 h:0<t.h/\t.h*t.k<=sz-2/\t.h<=254
 sz:8<=sz/\sz<=256
 bound:t.bound<=100000000/\t.l.length<=t.bound
 blocks:t.blocks=Cr t.h t.bound/\t.blocks<=2000000
 first:t.first<=2000000
def FV(w:World)(G:Nat->Prop)(b:Nat)(p:Wp)(F:Fs)(n:Nat)(w':World):Prop:=
 ∃G',Sys w' G' p F n/\DG (λk=>G k\/k=b) w w'/\(∀k,G' k->G k\/w<=k)/\Row w' b 119 [AJ AD 0 0]
theorem FV.behind{w w1 w':World}{G b n p F}(hb:Below w w w1)(h:FV w1 G b p F n w'):FV w G b p F n w':=by
 obtain⟨G',J,I,h3,h4⟩:=h;exact⟨G',J,(DG.DB hb (λk=>G k\/k=b)).trans I λb e=>.inl e,λk H=>(h3 k H).imp id λh=>Af hb.size h,h4⟩
theorem FV.cell{w w1 G b n p F}(h:FV w G b p F n w1):w1.cell? p.w=AE (AI p.d)/\w1.cell? (p.w,1)=AE (AI p.a)/\w1.cell? (p.w,2)=AE (AI p.s):=by
 obtain⟨G',e,_⟩:=h;exact⟨e.row.cell 0,e.row.cell 1,e.row.cell 2⟩
theorem FV.row{w w1 G b n g p F t cs}(h:FV w G b p F n w1)(e:Row w g t cs)(H:¬G g)(hb:g≠b):Row w1 g t cs:=by
 obtain⟨G',J,I,_⟩:=h;exact I.row e λh=>h.elim H hb
theorem FV.from{w w1 w' G G' b n p F}(I:DG G w w1)(H:∀k,G' k->G k\/w<=k)(h:FV w1 G' b p F n w'):FV w G b p F n w':=by
 obtain⟨U,Q,O,k3,J⟩:=h;exact⟨U,Q,(I.mono λk e=>.inl e).trans O λk e=>e.elim (λh=>(H k h).imp_left .inl) λh=>.inl (.inr h),λk e=>(k3 k e).elim (λh=>H k h) λh=>.inr (Af I.size h),J⟩
theorem L7{w G p F n}(h:Sys w G p F n){b m}(hb:wordsAt F.A.st b=AE m):
  Calls AP 70 #[AI p.a,AI b] w λe w'=>e=AH true/\FV w G b p {F with A:=release F.A b m} n w':=by
 obtain⟨SY,Vi⟩:=h.buf (Ip _ _ _ hb);obtain⟨Ga,O,_,hrel⟩:=h.arn;refine(W0 p.a F.A Ga b m w O SY hb).mono ?_;rintro e w' ⟨he,U,Q,h3⟩;obtain⟨I,H⟩:=hrel w' b m U h3 Vi;exact⟨he,G,I,H,λk J=>.inl J,Q⟩
section
variable{w:World}{x:Nat}{p:Wp}{t:Wt}
theorem Is{A m c}(H:Row w x 115 (Yx p t))(hb:Row w t.b 119 [AJ A m c]):Calls AP 56 #[AI x] w λe w'=>e=AH (.bool (!decide (0<m)))/\w'=w:=by
 have J:w.cell? (x,7)=AE (AI t.b):=H.cell 7;have I:=AO (Wh hb);clear hb H;go_enter func56,ntmps56
 go_wp2_with fail
 refine I.out.mono ?_;rintro e w1 ⟨rfl,rfl⟩;go_wp2
 go_ret
 exact⟨II a8,rfl⟩
end
def JN(F:Fs)(t:Wt)(kept:Nat):Fs:={F with S:=Dm F.S (t.first+kept) (t.blocks-kept),A:=release F.A t.b F.D.size}
theorem RU{w G p F n x t}(h:Sys w G p F n)(I:Row w x 115 (Yx p t))(hx:¬G x)(J:wordsAt F.A.st t.b=AE F.D.size)(M4:x≠t.b)(hf:t.first<=2000000)(Ia:t.blocks<=2000000)(kept:Nat)(Q:kept<=t.blocks):
  Calls AP 57 #[AI x,kept] w λe w'=>e=AH (AM #[])/\FV w G t.b p (JN F t kept) n w':=by
 obtain⟨_,Vi⟩:=h.buf (Ip _ _ _ J);have ae:t.b<w:=(h.buf (Ip _ _ _ J)).1.lt;have Pn:=Row.lt I;have yH:Hid (Calls AP 55 #[AI p.w,AL #[(t.first+kept:Nat),(t.blocks-kept:Nat)]] w.drew λe w'=>e=AH (AM #[])/\DQ w G p {F with S:=Dm F.S (t.first+kept) (t.blocks-kept)} n w'):=
  (UZ (h.below (Cz (AS _ w))) _ _ a5 a5).mono λe w' ⟨he,H⟩=>⟨he,H.behind (Cz (AS _ w))⟩
 have Yl:Hid (∀w1,DQ w G p {F with S:=Dm F.S (t.first+kept) (t.blocks-kept)} n w1->Calls AP 70 #[AI p.a,AI t.b] w1.drew λe w'=>e=AH true/\FV w G t.b p (JN F t kept) n w'/\Row w' x 115 (Yx p t)):=λw1 H=>by
  have O:=H.row I hx;obtain⟨G',k1,k2,k3,k4⟩:=H.apart;refine(L7 (k1.below (Cz (AS _ w1))) (show wordsAt F.A.st t.b=AE F.D.size from J)).mono λe w' ⟨he,h2⟩=>⟨he,?_⟩;obtain⟨Le,m1,m2,m3,m4⟩:=h2;have U:DG (λk=>G' k\/k=t.b) w1 w':=⟨m2.os,m2.tape,m2.output,m2.size,m2.block⟩;refine⟨⟨Le,m1,(k2.mono λk Q=>.inl Q).trans U λk Q=>Q.elim (λh=>(k3 k h).imp_left .inl) λh=>.inl (.inr h),λk Q=>(m3 k Q).elim (λh=>k3 k h) λh=>.inr (Af k2.size h),m4⟩,U.row O ?_⟩;rintro(h5|h5)
  ·exact k4 x Pn hx h5
  ·exact M4 h5
 have Fz:Hid (∀w1,DQ w G p {F with S:=Dm F.S (t.first+kept) (t.blocks-kept)} n w1->Row w1 x 115 (Yx p t)):=λw1 H=>H.row I hx;generalize JN F t kept=F2 at*
 obtain⟨tk,th,bound,first,blocks,b,g,l⟩:=t;simp only[Yx]at*
 generalize l.length=cnt at*
 generalize({F with S:=Dm F.S (first+kept) (blocks-kept)}:Fs)=F1 at*
 obtain⟨u,hu⟩:=al (first+kept);obtain⟨v,hv⟩:=al (blocks-kept);rw[hu,hv]at yH;have Ku:(first:Int)+(kept:Int)=(u:Int):=a5;have ab:(blocks:Int)-(kept:Int)=(v:Int):=a5;have Ph:u<=4000000:=a5;have mX:v<=2000000:=a5;have c2:w.drew.cell? ⟨x,2,AD⟩=AE (AI (AE ⟨p.w,0,AD⟩)):=I.cell 2;have c5:w.drew.cell? ⟨x,5,AD⟩=AE (AA AB first):=I.cell 5;have c6:w.drew.cell? ⟨x,6,AD⟩=AE (AA AB blocks):=I.cell 6;have b2:w.cell? ⟨x,2,AD⟩=AE (AI (AE ⟨p.w,0,AD⟩)):=I.cell 2;have b5:w.cell? ⟨x,5,AD⟩=AE (AA AB first):=I.cell 5;have b6:w.cell? ⟨x,6,AD⟩=AE (AA AB blocks):=I.cell 6;clear hu hv I h J Q Ia hf hx M4 ae Vi Pn;have aa:Aa.wrap (u:Int)=(u:Int):=Ah _ a5;have ao:Aa.wrap (v:Int)=(v:Int):=Ah _ ⟨by clear aa;omega,by clear aa;omega⟩;go_enter func57,ntmps57
 go_wp2
 go_region_held3 (λw'=>w'.cell? (x,2)=AE (AI p.w)/\w'.cell? (x,5)=AE (AA AB (first:Int))/\w'.cell? (x,6)=AE (AA AB (blocks:Int))) (first|with_reducible exact⟨c2,c5,c6⟩|with_reducible exact⟨d2,d5,d6⟩)
  (first
   |(go_at_call 55;refine yH.out.mono ?_;rintro e w1 ⟨rfl,H⟩;have O:=Fz.out _ H;have d2:w1.cell? (x,2)=AE (AI p.w):=O.cell 2;have d5:w1.cell? (x,5)=AE (AA AB (first:Int)):=O.cell 5;have d6:w1.cell? (x,6)=AE (AA AB (blocks:Int)):=O.cell 6))
 have e2:w1.drew.cell? (x,2)=AE (AI p.w):=d2;have d7:w1.cell? (x,7)=AE (AI b):=O.cell 7;have e7:w1.drew.cell? (x,7)=AE (AI b):=O.cell 7;have d1:=H.cell.2.1;have e1:w1.drew.cell? (p.w,1)=AE (AI p.a):=d1;have ad:=AO (Yl.out w1 H);clear H O yH Fz Yl c2 c5 c6 b2 b5 b6 d5 d6;go_wp2
 go_region_held3 (λw'=>w'.cell? (x,2)=AE (AI p.w)/\w'.cell? (x,7)=AE (AI b)/\w'.cell? (p.w,1)=AE (AI p.a)) (first|with_reducible exact⟨e2,e7,e1⟩|with_reducible exact⟨f2,f7,f1⟩)
  (first
   |(go_at_call 70;refine ad.out.mono ?_;rintro e w2 ⟨rfl,h2,EA⟩;have f2:w2.cell? (x,2)=AE (AI p.w):=EA.cell 2;have f7:w2.cell? (x,7)=AE (AI b):=EA.cell 7;have f1:=h2.cell.2.1))
 go_wp2
 go_end0
 exact⟨rfl,h2⟩
theorem dh{w G p F n x t A m c}(h:Sys w G p F n)(I:Row w x 115 (Yx p t))(hb:Row w t.b 119 [AJ A m c])(hm:0<m)(O:¬G x)(H:wordsAt F.A.st t.b=AE F.D.size)(U:x≠t.b)(hf:t.first<=2000000)(Ia:t.blocks<=2000000):
  Calls AP 29 #[AI x] w λe w'=>(e=AH (AM #[])/\FV w G t.b p (JN F t 0) n w'):=by
 have J:=Is I hb;rw[decide_eq_true hm]at J;have HC:=AO J;have HW:Hid (Calls AP 57 #[AI x,()] w λe w'=>e=AH (AM #[])/\FV w G t.b p (JN F t 0) n w'):=RU h I O H U hf Ia 0 (Aq _);clear J h I hb hm O H U hf Ia;go_enter func29,ntmps29
 go_wp2_with fail
 refine HC.out.mono ?_;rintro e w1 ⟨rfl,rfl⟩;go_wp2_with fail
 refine HW.out.mono ?_;rintro e w2 ⟨rfl,Q⟩;have H2:=AO Q;clear Q;go_wp2
 go_end0
 exact⟨rfl,H2.out⟩
theorem dg(u:Bf){w}{G}{p}{F}{n x}{t}{A}{m c}(h:Sys w G p F n)(I:Row w x 115 (Yx p t))(hb:Row w t.b 119 [AJ A m c])(hm:0<m)(O:¬G x)(H:wordsAt F.A.st t.b=AE F.D.size)(U:x≠t.b)(hf:t.first<=2000000)(Ia:t.blocks<=2000000):
  CallsD AP 29 #[AI x] u w λe u' w'=>u'=u/\(e=AH (AM #[])/\FV w G t.b p (JN F t 0) n w'):=by
 have J:=Is I hb;rw[decide_eq_true hm]at J;have HC:=AO J;have HW:Hid (Calls AP 57 #[AI x,()] w λe w'=>e=AH (AM #[])/\FV w G t.b p (JN F t 0) n w'):=RU h I O H U hf Ia 0 (Aq _);clear J h I hb hm O H U hf Ia;go_enter_d func29,ntmps29
 go_wp2_with fail
 refine HC.out.mono ?_;rintro e w1 ⟨rfl,rfl⟩;go_wp2_with fail
 refine HW.out.mono ?_;rintro e w2 ⟨rfl,Q⟩;have H2:=AO Q;clear Q;go_wp2
 go_end0
 exact⟨rfl,H2.out⟩
theorem RV(u:Bf){w}{p}{x}{t}{A}{c}(I:Row w x 115 (Yx p t))(hb:Row w t.b 119 [AJ A 0 c]):
  CallsD AP 29 #[AI x] u w λe J w'=>J=u/\(e=AH (AM #[])/\w'=w):=by
 have H:=Is I hb;rw[decide_eq_false (Nat.lt_irrefl 0)]at H;have O:=AO H;clear H I hb;go_enter_d func29,ntmps29
 go_wp2_with fail
 refine O.out.mono ?_;rintro e w1 ⟨rfl,rfl⟩;go_wp2
 go_end0
 exact⟨rfl,rfl⟩
structure Lu (w:World) (x:Nat) (p:Wp) (t:Wt) (sz:Nat) (ws:List Nat):Prop where
 row:Row w x 115 (Yx p t)
 buf:Row w t.b 119 [AJ t.g sz sz]
 words:Row w t.g 120 (ws.map vw)
 len:ws.length=sz
 u64:NO ws
structure YI (G:Nat->Prop) (x:Nat) (t:Wt):Prop where
 x:¬G x
 b:¬G t.b
 g:¬G t.g
theorem Lu.Ey{w w' x p t sz ws R}(h:Lu w x p t sz ws)(hf:DG R w w')(H:¬R x)(e:¬R t.b)(h3:¬R t.g):Lu w' x p t sz ws:=⟨hf.row h.row H,hf.row h.buf e,hf.row h.words h3,h.len,h.u64⟩
theorem Lu.below{w w' x p t sz ws}(h:Lu w x p t sz ws)(hb:Below w w w'):Lu w' x p t sz ws:=h.Ey (DG.DB hb λ_=>False) (λh=>h) (λh=>h) (λh=>h)
theorem Lu.lt{w x p t sz ws}(h:Lu w x p t sz ws):x<w/\t.b<w/\t.g<w:=⟨h.row.lt,h.buf.lt,h.words.lt⟩
theorem Lu.apart{w x p t sz ws}(h:Lu w x p t sz ws):x≠t.b/\x≠t.g/\t.b≠t.g:=
 ⟨λe=>absurd (h.row.typed (e▸h.buf)) a6,λe=>absurd (h.row.typed (e▸h.words)) a6,λe=>absurd (h.buf.typed (e▸h.words)) a6⟩
theorem L0(s:St)(i:Int)(l:List Nat):(write s i l).2.size=s.size/\(write s i l).2.blocks=s.blocks:=by
 obtain⟨H,e,J,I⟩:=GX s (right s i&&decide (l.length=s.size));unfold write;dsimp only
 split
 ·exact⟨H,e⟩
 ·exact⟨H,e⟩
theorem eC{w G p F n}(h:Sys w G p F n)(H:n<1000000)(i:Int)(hi:Fg i)(A:Option Addr)(m c:Nat)(l:List Nat){B}(I:Reads .u64 w B A m l)(J:B<=w):
  Calls AP 78 #[AI p.d,i,AJ A m c] w λe w'=>e=AH (AA AB (write F.D i l).1)/\DQ w G p {F with D:=(write F.D i l).2} (n+1) w':=by
 obtain⟨Q,hd,O⟩:=h.dev;exact(dZ p.d F.D n Q i A m c l w hd H hi I J).mono λe w' ⟨he,h1⟩=>⟨he,O _ _ _ h1⟩
def DX(t:Wt):Nat:=t.first+(Cr t.h t.l.length-1)
def DU(sz:Nat)(t:Wt):List Nat:=Gi sz (DX t) t.k (EL t.k (GR t.h t.l))
def V0(w:World)(G:Nat->Prop)(p:Wp)(F:Fs)(n:Nat)(t:Wt)(e:Ending)(w':World):Prop:=
  e=AH (AA AB (write F.D (DX t:Nat) (DU F.D.size t)).1)/\
  (((write F.D (DX t:Nat) (DU F.D.size t)).1=0/\DQ w G p {F with D:=(write F.D (DX t:Nat) (DU F.D.size t)).2} (n+1) w')\/
   ((write F.D (DX t:Nat) (DU F.D.size t)).1≠0/\FV w G t.b p (JN {F with D:=(write F.D (DX t:Nat) (DU F.D.size t)).2} t 0) (n+1) w'))
theorem T2{w G p F n x t ws}(h:Sys w G p F n)(hn:n<1000000)(DK:Ep t F.D.size)(hm:Lu w x p t F.D.size ws)(ho:YI G x t)(av:wordsAt F.A.st t.b=AE F.D.size)(hl:0<t.l.length)
  (ab:ws.take ((GR t.h t.l).length*t.k)=EL t.k (GR t.h t.l)):Calls AP 60 #[AI x] w (V0 w G p F n t):=by
 obtain⟨i0,hi,Ft,Ew,Js⟩:=info_parts QL;obtain⟨hx,Jt,GZ⟩:=hm.lt;obtain⟨M4,YZ,WM⟩:=hm.apart;have ar:=DK.sz;have hk:=DK.k;have hh:=DK.h;have H:=DK.bound;have Ia:=DK.blocks;have Pq:=DK.first;obtain⟨l1,l2,l3⟩:=My hh.1 hl;have qJ:=En hh.1 hl;have aG:=Di t.h t.l.length;obtain⟨j,hj⟩:=ae (Cr t.h t.l.length-1);have nD:((Cr t.h t.l.length:Nat):Int)-1=(j:Int):=a5;obtain⟨ad,U⟩:=ae (t.first+j);have Ku:(t.first:Int)+(j:Int)=(ad:Int):=a5;have aI:j<=2000000:=by
  have O:=Db (h:=t.h) hh.1 H.2;have:=Ia.1;have:=Ia.2;omega
 have aJ:ad<=4000000:=a5;obtain⟨m,J⟩:=ae ((GR t.h t.l).length*t.k);have aw:min t.h (t.l.length-j*t.h)*t.k=m:=by rw[J,l3,<-hj];congr 1;rw[l3,<-hj]at l1;omega
 have SR:m<=F.D.size-2:=by
  rw[J];exact Af (Ae _ l1) hh.2.1
 have qH:j*t.h<=t.l.length:=by have:=(I0 hh.1 hl).1;rw[<-hj]at this;omega
 have QE:Hid (∀W,Calls AP 53 #[AL #[t.k,t.h],t.l.length] W λe w'=>e=AH (Cr t.h t.l.length:Nat)/\Below W W w'):=λW=>Jp t.k t.h t.l.length W hh.1 hh.2.2 a5;have aA:Hid (∀W,Calls AP 77 #[AL #[t.k,t.h],j,t.l.length] W λe w'=>e=AH m/\Below W W w'):=λW=>by
  have:=RQ t.k t.h j t.l.length W hk.2 hh.2.2 a5 qH;rwa [aw]at this
 have PF:Hid (∀W,Below w w W->Calls AP 34 #[AI p.d] W λe w'=>e=AH F.D.size/\w'=W):=λW hb=>(h.below hb).Hs;have aF:∀y∈EL t.k (GR t.h t.l),(Cd .u64 (y:Nat)).wf=true:=λy hy=>PU (Px _ _ y hy);have vN:Hid (∀W,Below w w W->Calls AP 76 #[F.D.size,ad,.int .u64 t.k,AJ t.g m F.D.size] W λe w'=>e=AH (AM #[AJ W F.D.size F.D.size,()])/\Row w' W 120 ((DU F.D.size t).map vw)/\Below W W w'):=λW hb=>by
  have I:=((hm.words.below hb GZ).words (n:=m) (by rw[hm.len];omega) (λy hy=>PU (hm.u64 y hy)));rw[J,ab]at I;rw[<-J]at I;have:=yg F.D.size ad t.k t.g m F.D.size _ W I ao ar.1 ar.2 a5 a5 SR;unfold DU DX;rw[<-hj,<-U];exact this
 have JC:Hid ((DU F.D.size t).length=F.D.size/\∀y∈DU F.D.size t,(Cd .u64 (y:Nat)).wf=true):=by
  have IW:(EL t.k (GR t.h t.l)).length<=F.D.size-2:=by rw[Kx hk.2,<-J];exact SR
  exact⟨L8 IW a5,λy hy=>PU (ke (Px _ _) a5 a5 y hy)⟩
 have Ty:Hid (∀W g8,Below w w W->Row W g8 120 ((DU F.D.size t).map vw)->Calls AP 78 #[AI p.d,ad,AJ g8 F.D.size F.D.size] W λe w'=>e=AH (AA AB (write F.D (ad:Nat) (DU F.D.size t)).1)/\DQ w G p {F with D:=(write F.D (ad:Nat) (DU F.D.size t)).2} (n+1) w'):=λW g8 hb Qt=>by
  have I:=Qt.words (n:=F.D.size) (by rw[JC.out.1];exact AQ _) JC.out.2;rw[Ao (by rw[JC.out.1];exact AQ _)]at I;exact(eC (h.below hb) hn (ad:Int) (Fg.of a5 a5) _ _ _ _ I ao).mono λe w' ⟨he,O⟩=>⟨he,O.behind hb⟩
 have aC:Hid (∀W D',D'.size=F.D.size->DQ w G p {F with D:=D'} (n+1) W->Calls AP 29 #[AI x] W λe w'=>e=AH (AM #[])/\FV w G t.b p (JN {F with D:=D'} t 0) (n+1) w'):=λW D' hD O=>by
  have ER:=O.row hm.row ho.x;have DV:=O.row hm.buf ho.b;obtain⟨G',k1,k2,k3,k4⟩:=O.apart;refine(dh k1 ER DV a5 (k4 x hx ho.x) (show wordsAt F.A.st t.b=AE D'.size by rw[hD];exact av) M4 Pq a5).mono ?_;rintro e w' ⟨he,h2⟩;exact⟨he,FV.from k2 k3 h2⟩
 have aB:Hid ((write F.D (ad:Nat) (DU F.D.size t)).2.size=F.D.size):=(L0 _ _ _).1;have aD:Hid (DX t=ad):=by unfold Hid DX;rw[<-hj,<-U]
 have Fz:=AO hm.row;have aK:=AO hm.buf;have Q:Hid (∀W,Below w w W->W.cell? x=AE (AA AB t.k)/\W.cell? (x,1)=AE (AA AB t.h)/\W.cell? (x,4)=AE (AA AB (t.l.length:Nat))/\W.cell? (x,7)=AE (AI t.b)/\W.cell? t.b=AE (AJ t.g F.D.size F.D.size)):=λW hb=>
  have r:=hm.row.below hb hx;have rb:=hm.buf.below hb Jt
  ⟨r.cell 0,r.cell 1,r.cell 4,r.cell 7,rb.cell 0⟩
 have c2:∀W,Below w w W->W.cell? (x,2)=AE (AI p.w)/\W.cell? (x,5)=AE (AA AB t.first)/\W.cell? p.w=AE (AI p.d):=λW hb=>
  have r:=hm.row.below hb hx;have aE:=(h.below hb).row
  ⟨r.cell 2,r.cell 5,aE.cell 0⟩
 have Lz:=AO c2;obtain⟨er,gX⟩:=ae ((write F.D (ad:Nat) (DU F.D.size t)).1);obtain⟨F1,Yg⟩:∃F1:Fs,F1={F with D:=(write F.D (ad:Nat) (DU F.D.size t)).2}:=⟨_,rfl⟩;have aa:Hid (∀W,DQ w G p F1 (n+1) W->Calls AP 29 #[AI x] W λe w'=>e=AH (AM #[])/\FV w G t.b p (JN F1 t 0) (n+1) w'):=λW O=>by
  subst Yg;exact aC.out W _ aB.out O
 have KV:Hid (∀w',((er=0/\DQ w G p F1 (n+1) w')\/(er≠0/\FV w G t.b p (JN F1 t 0) (n+1) w'))->V0 w G p F n t (AH er) w'):=λw' O=>by
  subst gX;subst Yg;unfold V0;rw[aD.out];exact⟨rfl,O⟩
 rw[<-gX,<-Yg]at Ty;have hcut:=λW=>Fc (P:=AP) W 116 120 i0 Bc hi t.g F.D.size F.D.size m a5 AB (m:Int) rfl;generalize V0 w G p F n t=Dd at*
 generalize DU F.D.size t=bk at*
 generalize JN F1 t 0=FE at*
 clear gX Yg aC aB aD ab av DK hm ho h l1 l2 l3 qJ aG hj aw J hi Ft Ew Js hl U qH aF JC c2;obtain⟨k,G8,bound,first,blocks,b,g,l⟩:=t;simp only at*
 generalize Cr G8 l.length=nb at*
 generalize l.length=cnt at*
 generalize F.D.size=size at*
 have al:Aa.wrap (j:Int)=(j:Int):=Ah _ a5;have aH:IntKind.u64.wrap (k:Int)=(k:Int):=IntWalk.u64_in _ ⟨by clear al;omega,by clear al;omega⟩;clear Ia H hx Jt GZ M4 YZ WM Pq;have d1:=Q.out w (AS _ _);have e1:=Q.out w.drew (Cz (AS _ _));go_enter func60,ntmps60
 go_wp2
 go_region_held3 (λw'=>Below w.heap.size w w'/\w'.cell? x=AE (AA AB k)/\w'.cell? (x,1)=AE (AA AB G8)/\w'.cell? (x,4)=AE (AA AB cnt)) (first|with_reducible exact⟨Cz (AS _ _),e1.1,e1.2.1,e1.2.2.1⟩|with_reducible exact⟨DV,f1.1,f1.2.1,f1.2.2.1⟩)
  (first
   |(go_at_call 53;refine(QE.out _).mono ?_;rintro e w1 ⟨rfl,DV⟩;replace DV:=(Cz (AS w.heap.size w)).trans DV;have f1:=Q.out w1 DV))
 obtain⟨g2,g5,gd⟩:=Lz.out w1 DV;have H:=Cz DV;have q0:=Q.out w1 DV;have q1:=Q.out w1.drew H;clear e1 f1 d1 QE Lz;go_wp2
 clear g2 g5 gd;go_region_held3 (λw'=>Below w.heap.size w w'/\w'.cell? x=AE (AA AB k)/\w'.cell? (x,1)=AE (AA AB G8)/\w'.cell? (x,4)=AE (AA AB cnt)/\w'.cell? (x,7)=AE (AI b)/\w'.cell? b=AE (AJ g size size))
  (first|with_reducible exact⟨H,q1⟩|with_reducible exact⟨DN,q2⟩|with_reducible exact⟨D9,q3⟩)
  (first
   |(go_at_call 34;(with_reducible refine(PF.out _ (by first|exact H|exact DN)).mono ?_);rintro e w8 ⟨rfl,rfl⟩)
   |(go_at_call 77;(with_reducible refine(aA.out _).mono ?_);rintro e w2 ⟨rfl,DN⟩;replace DN:=H.trans (DN.mono H.size);have q2:=Q.out w2 DN)
   |(go_at_call 76;(with_reducible refine(vN.out _ DN).mono ?_);rintro e w3 ⟨rfl,FK,D9⟩;replace D9:=DN.trans (D9.mono DN.size);have q3:=Q.out w3 D9;have Gb:=AO FK;clear FK))
 clear q0 q1 q2 q3 DN vN aA PF Q hcut;by_cases he:er=0
 ·subst he;go_wp2_with fail
  refine(Ty.out w3 _ D9 Gb.out).mono ?_;rintro e w4 ⟨rfl,h4⟩;have H4:=AO (KV.out w4 (.inl ⟨by trivial,h4⟩));clear h4 KV aa Ty;go_wp2
  exact H4.out
 ·have g9:(er !=0)=true:=by simpa using he
  go_wp2_with fail
  refine(Ty.out w3 _ D9 Gb.out).mono ?_;rintro e w4 ⟨rfl,h4⟩;have H4:=AO h4;clear h4 Ty;go_wp2_with fail
  refine(aa.out w4 H4.out).mono ?_;rintro e w5 ⟨rfl,h5⟩;have H5:=AO (KV.out w5 (.inr ⟨he,h5⟩));clear h5 KV aa;go_wp2
  exact H5.out
def O7(w:World)(x:Nat)(p:Wp)(t:Wt)(sz:Nat):Prop:=∃ws,Lu w x p t sz ws/\TK t.k t.h t.l ws
def Nb(w:World)(x:Nat)(p:Wp)(t:Wt):Prop:=Row w x 115 (Yx p t)/\Row w t.b 119 [AJ AD 0 0]
def Wt.snoc(t:Wt)(tu:Cv):Wt:={t with l:=t.l++[tu]}
def xm(w:World)(G:Nat->Prop)(x:Nat)(p:Wp)(F:Fs)(n:Nat)(t:Wt)(w':World):Prop:=
 ∃G',Sys w' G' p F n/\O7 w' x p t F.D.size/\DG (λk=>G k\/k=x\/k=t.g) w w'/\∀k,G' k->G k\/w<=k
def Ld(w:World)(G:Nat->Prop)(x:Nat)(p:Wp)(F:Fs)(n:Nat)(t:Wt)(w':World):Prop:=
 ∃G',Sys w' G' p F n/\Nb w' x p t/\DG (λk=>G k\/k=x\/k=t.g\/k=t.b) w w'/\∀k,G' k->G k\/w<=k
def Un(w:World)(G:Nat->Prop)(x:Nat)(p:Wp)(F:Fs)(n:Nat)(t:Wt)(tu:Cv)(e:Ending)(w':World):Prop:=
  (Dc t.k tu=false/\e=AH (AA AB 1)/\Below w w w')\/
  (Dc t.k tu=true/\t.l.length=t.bound/\e=AH (AA AB 5)/\Below w w w')\/
  (Dc t.k tu=true/\t.l.length<t.bound/\
    (((t.l.length+1)%t.h≠0/\e=AH ()/\xm w G x p F n (t.snoc tu) w')\/
     ((t.l.length+1)%t.h=0/\(write F.D (DX (t.snoc tu):Nat) (DU F.D.size (t.snoc tu))).1=0/\e=AH ()/\xm w G x p {F with D:=(write F.D (DX (t.snoc tu):Nat) (DU F.D.size (t.snoc tu))).2} (n+1) (t.snoc tu) w')\/
     ((t.l.length+1)%t.h=0/\(write F.D (DX (t.snoc tu):Nat) (DU F.D.size (t.snoc tu))).1≠0/\e=AH (AA AB (write F.D (DX (t.snoc tu):Nat) (DU F.D.size (t.snoc tu))).1)/\Ld w G x p (JN {F with D:=(write F.D (DX (t.snoc tu):Nat) (DU F.D.size (t.snoc tu))).2} (t.snoc tu) 0) (n+1) (t.snoc tu) w')))
theorem Sys.Wa{w w' G p F n}(h:Sys w G p F n){R}(hf:DG R w w')(hR:∀k,R k->¬G k/\∀v,¬Row w k 119 [v]):Sys w' G p F n:=
 h.Ey hf (λk I e=>(hR k e).1 I) λq H e=>by
  obtain⟨⟨v,hb⟩,_⟩:=h.buf H;exact(hR _ e).2 v hb
theorem Ro{α}(L wl:List α)(off i:Nat)(u:α)(hi:wl[i]?=AE u)(I:off+wl.length<=L.length):(splice L off (wl.take i)).set (off+i) u=splice L off (wl.take (i+1)):=by
 have H:i<wl.length:=(BM.1 hi).1;apply List.ext_getElem?;intro k;have l1:(splice L off (wl.take i)).length=L.length:=DL L off _ (by rw[Ac];omega);rw[Av];by_cases e:off+i=k
 ·subst e;rw[if_pos rfl,if_pos (by rw[l1];omega)];unfold splice;rw[AX (by rw[Ac];omega),Al (by simp;omega),Ac,show off+i-min off L.length=i by omega,At,if_pos a5,hi]
 ·rw[if_neg e];by_cases J:k<off\/off+(i+1)<=k
  ·rw[ET L off _ (by rw[Ac];omega) (by rw[Ac];omega),ET L off _ (by rw[Ac];omega) (by rw[Ac];omega)]
  ·unfold splice;rw[AX (by rw[Ac];omega),Al (by simp;omega),AX (by rw[Ac];omega),Al (by simp;omega),At,At,if_pos (by simp;omega),if_pos (by simp;omega)]
theorem sL{w W G p F n x t ws}(h:Sys w G p F n)(H:Ep t F.D.size)(hm:Lu w x p t F.D.size ws)(Q:YI G x t)(MU:TK t.k t.h t.l ws)(tu:Cv)(Kp:t.l.length<t.bound)
  (hf:DG (λk=>k=x\/k=t.g) w W)(hr:Row W x 115 (Yx p (t.snoc tu)))(hg:Row W t.g 120 ((splice ws (t.l.length%t.h*t.k) (DW t.k tu)).map vw)):
  Sys W G p F n/\Ep (t.snoc tu) F.D.size/\Lu W x p (t.snoc tu) F.D.size (splice ws (t.l.length%t.h*t.k) (DW t.k tu))/\
   (splice ws (t.l.length%t.h*t.k) (DW t.k tu)).take ((GR t.h (t.snoc tu).l).length*t.k)=EL t.k (GR t.h (t.snoc tu).l):=by
 obtain⟨M4,YZ,WM⟩:=hm.apart;have TX:=Fl H.k.2 tu;have U:=Bw t.l.length H.h.1;have aa:t.l.length%t.h*t.k+t.k<=t.h*t.k:=by
  have:=Ae t.k (show t.l.length%t.h+1<=t.h by omega);rw[A6,BD]at this;exact this
 have J:t.l.length%t.h*t.k+(DW t.k tu).length<=ws.length:=by rw[TX,hm.len];have:=H.h.2.1;omega
 refine⟨h.Wa hf ?_,⟨H.k,H.h,H.sz,⟨H.bound.1,by show (t.l++[tu]).length<=t.bound;simp;omega⟩,H.blocks,H.first⟩,⟨hr,hf.row hm.buf (by rintro(e|e);exact M4 e.symm;exact WM e),hg,by rw[DL _ _ _ J];exact hm.len,?_⟩,?_⟩
 ·rintro k (rfl|rfl)
  ·exact⟨Q.x,λv O=>absurd (hm.row.typed O) a6⟩
  ·exact⟨Q.g,λv O=>absurd (hm.words.typed O) a6⟩
 ·intro y I;unfold splice at I;rcases Ag.1 I with I|I
  ·exact hm.u64 y (Bo I)
  ·rcases Ag.1 I with I|I
   ·exact Px t.k [tu] y (by rw[UY];exact I)
   ·exact hm.u64 y (List.mem_of_mem_drop I)
 ·exact nO H.k.2 H.h.1 MU (by rw[hm.len];have:=H.h.2.1;omega) tu
theorem sM{w W G p F n x t ws}(h:Sys w G p F n)(hn:n<1000000)(DK:Ep t F.D.size)(hm:Lu w x p t F.D.size ws)(I:YI G x t)(U:wordsAt F.A.st t.b=AE F.D.size)(MU:TK t.k t.h t.l ws)(tu:Cv)(J:Dc t.k tu=true)(Kp:t.l.length<t.bound)
  (hf:DG (λk=>k=x\/k=t.g) w W)(hr:Row W x 115 (Yx p (t.snoc tu)))(hg:Row W t.g 120 ((splice ws (t.l.length%t.h*t.k) (DW t.k tu)).map vw)):
  (0<(t.l.length+1)%t.h->Un w G x p F n t tu (AH (AA AB 0)) W)/\(¬0<(t.l.length+1)%t.h->Calls AP 60 #[AI x] W λe w'=>∃er,e=AH (AA AB er)/\Un w G x p F n t tu (AH (AA AB er)) w'):=by
 obtain⟨h1,h2,h3,h4⟩:=sL h DK hm I MU tu Kp hf hr hg;obtain⟨M4,YZ,WM⟩:=hm.apart;obtain⟨hx,Jt,GZ⟩:=hm.lt;have PR:(t.snoc tu).l.length=t.l.length+1:=by show (t.l++[tu]).length= _;simp
 have Gl:DG (λk=>G k\/k=x\/k=t.g) w W:=hf.mono λk H=>.inr H;refine⟨λh0=>.inr (.inr ⟨J,Kp,.inl ⟨a5,rfl,G,h1,⟨_,h3,?_⟩,Gl,λk H=>.inl H⟩⟩),λh0=>?_⟩
 ·exact(UN (k:=t.k) (l:=(t.snoc tu).l) DK.h.1 (by rw[PR];show (t.l.length+1)%t.h≠0;omega)).2 h4
 ·refine(T2 h1 hn h2 h3 ⟨I.x,I.b,I.g⟩ U (by rw[PR];omega) h4).mono ?_;rintro e w' ⟨he,h5⟩;refine⟨_,he,.inr (.inr ⟨J,Kp,?_⟩)⟩;rcases h5 with⟨h6,h7⟩|⟨h6,h7⟩
  ·refine .inr (.inl ⟨a5,h6,by rw[h6],?_⟩);obtain⟨G',Q,O,k3⟩:=h7;have ND:=(L0 F.D (DX (t.snoc tu):Nat) (DU F.D.size (t.snoc tu))).1;refine⟨G',Q,⟨_,by show Lu w' x p (t.snoc tu) (write F.D (DX (t.snoc tu):Nat) (DU F.D.size (t.snoc tu))).2.size _;rw[ND];exact h3.Ey O I.x I.b I.g,?_⟩,Gl.trans O λk H=>.inl (.inl H),λk H=>(k3 k H).imp id λh=>Af hf.size h⟩;exact gY _ (by rw[PR];show (t.l.length+1)%t.h=0;omega)
  ·refine .inr (.inr ⟨a5,h6,rfl,?_⟩);obtain⟨G',Q,O,k3,k4⟩:=h7;refine⟨G',Q,⟨O.row hr ?_,k4⟩,(Gl.mono (F':=λk=>G k\/k=x\/k=t.g\/k=t.b) λk H=>H.imp_right λh=>h.imp_right .inl).trans O λk H=>.inl (H.elim .inl λh=>.inr (.inr (.inr h))),λk H=>(k3 k H).imp id λh=>Af hf.size h⟩;rintro(h8|h8)
   ·exact I.x h8
   ·exact M4 h8
theorem qi{w G p F n x t ws}(h:Sys w G p F n)(DK:Ep t F.D.size)(hm:Lu w x p t F.D.size ws)(hn:n<1000000)(ho:YI G x t)(al:wordsAt F.A.st t.b=AE F.D.size)(MU:TK t.k t.h t.l ws)(tu:Cv)(aa:Dc t.k tu=true)(Kp:t.l.length<t.bound):Calls AP 30 #[AI x,AL #[tu.a,tu.b,tu.c,tu.d,tu.e]] w (Un w G x p F n t tu):=by
 obtain⟨hx,Jt,GZ⟩:=hm.lt;have hk:=DK.k;have hh:=DK.h;have aA:=DK.bound;obtain⟨Q,O,J,I,H⟩:=tu;have nU:=(AS w w).alloc ao (AK #[Q,O,J,I,H] 47);have GL:Row (w.alloc (AK #[Q,O,J,I,H] 47)) w 47 [Q,O,J,I,H]:=heap_alloc_new _ _;have Vd:=DK.sz;have PS:=λd os=>Bj (w.alloc (AK #[Q,O,J,I,H] 47)) d os;have qA:=nU.size;have Q1:Hid (∀U os,Calls AP 56 #[AI x] (Ai (redrawn (w.alloc (AK #[Q,O,J,I,H] 47)) U) os) λe Ej=>e=AH false/\∃p:Cq,Ej=Ai (redrawn (w.alloc (AK #[Q,O,J,I,H] 47)) p.d) p.os):=λU os=>BU ((Is (((hm.row.below nU hx).below (PS U os) (BH hx qA))) (((hm.buf.below nU Jt).below (PS U os) (BH Jt qA)))).mono λe' w' ⟨he,hw⟩=>⟨by rw[he,decide_eq_true a5];rfl,by subst hw;exact AS _ _⟩);have Q2:Hid (∀U os,Calls AP 58 #[AL #[Q,O,J,I,H],t.k] (Ai (redrawn (w.alloc (AK #[Q,O,J,I,H] 47)) U) os) λe Ej=>e=AH true/\∃p:Cq,Ej=Ai (redrawn (w.alloc (AK #[Q,O,J,I,H] 47)) p.d) p.os):=λU os=>BU ((Y0 ⟨Q,O,J,I,H⟩ t.k _ hk.1 hk.2).mono λe' w' ⟨he,hw⟩=>⟨by rw[he,aa],hw⟩);have k0:∀U os,(Ai (redrawn (w.alloc (AK #[Q,O,J,I,H] 47)) U) os).cell? x=AE (AA AB t.k):=Ab ((hm.row.below nU hx).cell 0);have k1:∀U os,(Ai (redrawn (w.alloc (AK #[Q,O,J,I,H] 47)) U) os).cell? w=AE (AA AB Q):=Ab (GL.cell 0);have k2:∀U os,(Ai (redrawn (w.alloc (AK #[Q,O,J,I,H] 47)) U) os).cell? (w,1)=AE (AA AB O):=Ab (GL.cell 1);have k3:∀U os,(Ai (redrawn (w.alloc (AK #[Q,O,J,I,H] 47)) U) os).cell? (w,2)=AE (AA AB J):=Ab (GL.cell 2);have k4:∀U os,(Ai (redrawn (w.alloc (AK #[Q,O,J,I,H] 47)) U) os).cell? (w,3)=AE (AA AB I):=Ab (GL.cell 3);have k5:∀U os,(Ai (redrawn (w.alloc (AK #[Q,O,J,I,H] 47)) U) os).cell? (w,4)=AE (AA AB H):=Ab (GL.cell 4);have aD:=AO nU;have IE:=AO GL;have HM:=AO hm;have YN:=AO h;have JB:=AO DK;have pT:=AO aa;have V6:Hid (x<w/\t.b<w/\t.g<w):=⟨hx,Jt,GZ⟩;clear nU GL hm h DK hx Jt GZ PS qA Vd aa;have g0:(((t.l.length:Nat):Int)==(t.bound:Int))=false:=by simp;omega
 obtain⟨M4,YZ,WM⟩:=HM.out.apart;have PR:(t.snoc ⟨Q,O,J,I,H⟩).l.length=t.l.length+1:=by show (t.l++[_]).length= _;simp
 have TX:=Fl hk.2 ⟨Q,O,J,I,H⟩;obtain⟨off,hoff⟩:=ae (t.l.length%t.h*t.k);have aK:off+t.k<=F.D.size-2:=by
  have h1:=Ae t.k (show t.l.length%t.h+1<=t.h by have:=Bw t.l.length hh.1;omega);rw[A6,BD]at h1;have:=hh.2.1;omega
 have aI:=JB.out.sz;have Fh:t.l.length<t.bound:=Kp;obtain⟨cnt,Nx⟩:=ae t.l.length;have Dr:Hid (∀W,DG (λk=>k=x\/k=t.g) w W->Row W x 115 [t.k,t.h,AI p.w,t.bound,(cnt+1:Nat),t.first,t.blocks,AI t.b]->Row W t.g 120 ((splice ws off (DW t.k ⟨Q,O,J,I,H⟩)).map vw)->
   (0<(cnt+1)%t.h->Un w G x p F n t ⟨Q,O,J,I,H⟩ (AH (AA AB 0)) W)/\(¬0<(cnt+1)%t.h->Calls AP 60 #[AI (AE ⟨x,0,AD⟩)] W λe w'=>∃er,e=AH (AA AB er)/\Un w G x p F n t ⟨Q,O,J,I,H⟩ (AH (AA AB er)) w')):=λW h1 h2 h3=>by
  rw[Nx];rw[Nx,<-PR]at h2;rw[hoff]at h3;exact sM YN.out hn JB.out HM.out ho al MU _ pT.out Kp h1 h2 h3
 have Q3:Hid (∀W,Below w w W->∀U os,Calls AP 59 #[AL #[t.k,t.h],AJ t.g F.D.size F.D.size,cnt] (Ai (redrawn W U) os) λe Ej=>e=AH (AJ (t.g,off) t.k (F.D.size-off))/\∃p:Cq,Ej=Ai (redrawn W p.d) p.os):=λW hb U os=>BU (by
  rw[hoff,Nx];exact VK t.k t.h t.l.length t.g F.D.size _ hk.1 hk.2 hh.1 hh.2.2 a5 (by rw[<-hoff];omega) a5)
 have vg:Hid (∀i,i<t.k->∃z,[Q,O,J,I,H][i]?=AE z/\(DW t.k ⟨Q,O,J,I,H⟩)[i]?=AE (uw z)):=λi hi=>by
  have av:i<[Q,O,J,I,H].length:=by simp;omega
  refine⟨_,AU av,?_⟩;unfold DW;rw[Bd,At,if_pos hi];show (([Q,O,J,I,H]:List Int)[i]?).map uw= _;rw[AU av];rfl
 have tN:=HM.out.len;have vH:Hid (∀i z,i<t.k->(DW t.k ⟨Q,O,J,I,H⟩)[i]?=AE (uw z)->((splice ws off ((DW t.k ⟨Q,O,J,I,H⟩).take i)).map vw).set (off+i) (.int .u64 (uw z:Nat))=(splice ws off ((DW t.k ⟨Q,O,J,I,H⟩).take (i+1))).map vw/\off+i<((splice ws off ((DW t.k ⟨Q,O,J,I,H⟩).take i)).map vw).length):=λi z hi hz=>by
  refine⟨?_,?_⟩
  ·rw[<-Ro ws _ off i (uw z) hz (by rw[TX,tN];omega),List.map_set];rfl
  ·rw[Aj,DL _ _ _ (by rw[Ac,TX,tN];omega),tN];omega
 have Qe:Hid (ws.map vw=(splice ws off ((DW t.k ⟨Q,O,J,I,H⟩).take 0)).map vw):=by unfold Hid splice;simp
 have aB:Hid ((DW t.k ⟨Q,O,J,I,H⟩).take t.k=DW t.k ⟨Q,O,J,I,H⟩):=Ao a5;have HX:=AO HM.out.row;have aH:=AO HM.out.buf;have HG:=AO HM.out.words;unfold Yx at HX;rw[<-Nx]at HX g0 Fh;clear PR TX hoff tN JB YN pT ho al MU hn Nx;generalize DW t.k ⟨Q,O,J,I,H⟩=WL at*
 generalize Un w G x p F n t ⟨Q,O,J,I,H⟩=Dd at*
 obtain⟨k,G8,bound,first,blocks,b,g,l⟩:=t;simp only at*
 generalize F.D.size=size at*
 obtain⟨r,hr⟩:=ae ((cnt+1)%G8);obtain⟨c1,Li⟩:=ae (cnt+1);have UP:(cnt:Int)+1=(c1:Int):=a5;have Lt:c1<=100000000:=by have:=aA.1;rw[Li];omega
 have zL:Cp (c1:Int) (G8:Int)=(r:Int):=by rw[Li,hr];rfl
 have Gh:¬((G8:Int)=0):=by have:=hh.1;omega
 have aJ:r<=254:=by rw[hr];have:=Bw (cnt+1) hh.1;omega
 rw[<-hr,<-Li]at Dr;clear hr Li HM aA Kp Fh;go_enter func30,ntmps30
 go_wp2
 refine Bb a7 a7 ?_
 repeat(any_goals(first|go_big_quiet_step (with_reducible first|exact Q1.out _ _|exact Q2.out _ _)|quiet_step (with_reducible first|exact Q1.out _ _|exact Q2.out _ _)))
 refine CV ?_;intro w5 Hy;obtain⟨⟨dq,osq⟩,Hy⟩:=Hy;have Eh:=Bj (w.alloc (AK #[Q,O,J,I,H] 47)) dq osq;rw[<-Hy]at Eh;clear Hy;have EV:=AO (aD.out.trans (Eh.mono a8));have IB:=AO (IE.out.below Eh a8);clear Eh Q1 Q2 k0 k1 k2 k3 k4 k5 aD IE;have c3:w5.cell? (x,3)=AE (AA AB bound):=(HX.out.below EV.out V6.out.1).cell 3;have c4:w5.cell? (x,4)=AE (AA AB cnt):=(HX.out.below EV.out V6.out.1).cell 4;go_wp2
 go_region
 clear c3 c4;have JO:=AO (Cz EV.out);have Q9:=AO (IB.out.drewN 1);clear EV IB;have aw:w5.drewN 1=w5.drew:=rfl;rw[aw]at Q9;clear aw;generalize w5.drew=w6 at*
 have Q4:=AO (Q3.out w6 JO.out);have k0:∀U os,(Ai (redrawn w6 U) os).cell? x=AE (AA AB k):=Ab ((HX.out.below JO.out V6.out.1).cell 0);have k1:∀U os,(Ai (redrawn w6 U) os).cell? (x,1)=AE (AA AB G8):=Ab ((HX.out.below JO.out V6.out.1).cell 1);have k4:∀U os,(Ai (redrawn w6 U) os).cell? (x,4)=AE (AA AB cnt):=Ab ((HX.out.below JO.out V6.out.1).cell 4);have k7:∀U os,(Ai (redrawn w6 U) os).cell? (x,7)=AE (AI b):=Ab ((HX.out.below JO.out V6.out.1).cell 7);have kb:∀U os,(Ai (redrawn w6 U) os).cell? b=AE (AJ g size size):=Ab ((aH.out.below JO.out V6.out.2.1).cell 0);go_wp2
 refine Bb a7 a7 ?_
 repeat(any_goals(first|go_big_quiet_step (with_reducible first|exact Q4.out _ _)|quiet_step (with_reducible first|exact Q4.out _ _)))
 refine CV ?_;intro w7 cI;obtain⟨⟨dq,osq⟩,cI⟩:=cI;have Oq:=Bj w6 dq osq;rw[<-cI]at Oq;clear cI;have dS:=AO (JO.out.trans (Oq.mono JO.out.size));have vL:=AO (Q9.out.below Oq Q9.out.lt);clear Oq Q4 Q3 k0 k1 k4 k7 kb Q9 JO;have GZ:=V6.out.2.2;have aC:Hid (Row w7 g 120 ((splice ws off (WL.take 0)).map vw)):=by unfold Hid;rw[<-Qe.out];exact HG.out.below dS.out GZ
 have aG:w≠g:=a5;clear HG Qe;go_wp2
 go_loopw [48] (λiv wr=>∃i:Nat,i<=k/\iv=AA AB (i:Int)/\Hid (DG (λj=>j=g) w7 wr)/\Hid (Row wr g 120 ((splice ws off (WL.take i)).map vw))) (λiv _=>k-(BF iv).toNat)
 case atStart=>exact⟨0,Aq _,rfl,DG.refl _ _,aC.out⟩
 case round=>
  obtain⟨i,hi,rfl,HF,pG⟩:=hrel;by_cases ab:i<k
  ·obtain⟨z,hz,ad⟩:=vg.out i ab;obtain⟨Km,ar⟩:=vH.out i z ab ad;have ct:wr.cell? (w,i)=AE (AA AB z):=by
    rw[(HF.out.row vL.out aG).cell i]
    match i,ab,hz with
    |0,_,hz=>simpa using hz
    |1,_,hz=>simpa using hz
    |2,_,hz=>simpa using hz
    |3,_,hz=>simpa using hz
    |4,_,hz=>simpa using hz
    |i+5,ab,_=>omega
   have cg:∃v,wr.cell? (g,off+i)=AE v:=⟨_,(pG.out.cell (off+i)).trans (AU ar)⟩;obtain⟨v0,cg⟩:=cg;have fg:=pG.out.free (off+i);have Gv:Hid (Row (wr.setCell (g,off+i) (.int .u64 (uw z:Nat))) g 120 ((splice ws off (WL.take (i+1))).map vw)):=by
    have h1:=pG.out.set (off+i) (.int .u64 (uw z:Nat));rw[Km]at h1;exact h1
   have Qh:Hid (DG (λj=>j=g) w7 (wr.setCell (g,off+i) (.int .u64 (uw z:Nat)))):=HF.out.set (p:=(g,off+i)) (.inl rfl) _;have UM:(0:Int)<=(i:Int):=a5;have nD:(i:Int)<(k:Int):=a5;have wk:(i:Int)<5:=a5;have aX:IntKind.u64.wrap z=((uw z:Nat):Int):=bQ z;clear Km ar hz ad hi;generalize uw z=u at*
   go_wp2
   go_roundw
   case rel=>exact⟨i+1,a5,by go_num,Qh.out,Gv.out⟩
   case measure=>simp[BF];omega
  ·obtain rfl:i=k:=a5;have Lo:Row wr x 115 [i,G8,AI p.w,bound,cnt,first,blocks,AI b]:=HF.out.row (HX.out.below dS.out V6.out.1) YZ;have c4:wr.cell? (x,4)=AE (AA AB cnt):=Lo.cell 4;have f4:=Lo.free 4;have Tr:Row (wr.setCell (x,4) c1) x 115 [i,G8,AI p.w,bound,c1,first,blocks,AI b]:=Lo.set 4 _;have aF:Row (wr.setCell (x,4) c1) g 120 ((splice ws off WL).map vw):=by
    have h1:=pG.out;rw[aB.out]at h1;exact h1.Ey (p:=(x,4)) (λe=>YZ e.symm) _
   have xI:DG (λk=>k=x\/k=g) w (wr.setCell (x,4) c1):=(((DG.DB dS.out (λk=>k=x\/k=g)).trans HF.out λb hb=>.inl (.inr hb))).set (p:=(x,4)) (.inl (.inl rfl)) _;have d4:(wr.setCell (x,4) c1).cell? (x,4)=AE (AA AB c1):=Tr.cell 4;have d1:(wr.setCell (x,4) c1).cell? (x,1)=AE (AA AB G8):=Tr.cell 1;have Yk:=AO Tr;have aE:=AO aF;have jj:=AO xI;clear Lo Tr aF xI pG HF HX vH vg aB aC vL;go_wp2
   generalize wr.setCell (x,4) c1=w8 at*
   have HE:=AO (Dr.out w8.drew (jj.out.drew) (Yk.out.drewN 1) (aE.out.drewN 1));clear Dr Yk aE jj;by_cases EU:0<r
   ·have gr:decide ((r:Int)>0)=true:=by simp;omega
    have YT:=AO (HE.out.1 EU);clear HE;go_region
    go_wp2
    exact YT.out
   ·have gr:decide ((r:Int)>0)=false:=by simp;omega
    have YT:=AO (HE.out.2 EU);clear HE;go_region
    go_wp2_with fail
    refine YT.out.mono ?_;rintro e w9 ⟨er,rfl,h9⟩;have H9:=AO h9;clear h9 YT;go_wp2
    exact H9.out
def KD(first blocks k c:Nat):Value:=AL #[first,blocks,k,c]
def DY(t:Wt):Nat:=if t.l.length=0 then 0 else t.first
def PL(w:World)(G:Nat->Prop)(x:Nat)(p:Wp)(F:Fs)(n:Nat)(t:Wt)(e:Ending)(w':World):Prop:=
 (t.l.length%t.h=0/\e=AH (AM #[KD (DY t) (Cr t.h t.l.length) t.k t.l.length,()])/\Ld w G x p (JN F t (Cr t.h t.l.length)) n t w')\/
 (t.l.length%t.h≠0/\(write F.D (DX t:Nat) (DU F.D.size t)).1=0/\e=AH (AM #[KD (DY t) (Cr t.h t.l.length) t.k t.l.length,()])/\
  Ld w G x p (JN {F with D:=(write F.D (DX t:Nat) (DU F.D.size t)).2} t (Cr t.h t.l.length)) (n+1) t w')\/
 (t.l.length%t.h≠0/\(write F.D (DX t:Nat) (DU F.D.size t)).1≠0/\e=AH (AM #[KD 0 0 0 0,AA AB (write F.D (DX t:Nat) (DU F.D.size t)).1])/\
  Ld w G x p (JN {F with D:=(write F.D (DX t:Nat) (DU F.D.size t)).2} t 0) (n+1) t w')
theorem DG.four(w:World)(g:Nat)(a b c d:Value):DG (λk=>k=g) w ((((w.setCell g a).setCell (g,1) b).setCell (g,2) c).setCell (g,3) d):=
 ((DG.two w g 0 1 a b).set (p:=⟨g,2,AD⟩) (.inl rfl) c).set (p:=⟨g,3,AD⟩) (.inl rfl) d
theorem iS{w w0 W6 W7 G p F U n n1 x t}{rb:Nat}(h:Sys w G p F n)(Q:∀q∈U.A.st,q∈F.A.st)(H:Below w w w0)(hr:Row w x 115 (Yx p t))(hx:¬G x)(M4:x≠t.b)(Jt:t.b<w)
  (h6:FV w0 G t.b p U n1 W6)(aa:w<=rb)(ab:rb<w0)(J:DG (λk=>k=rb) W6 W7):Ld w G x p U n1 t W7:=by
 have O:=hr.lt;obtain⟨G',k1,k2,k3,k4⟩:=h6;have EU:=hr.below H O;refine⟨G',k1.Ey J (λk I e=>?_) (λq hq e=>?_),⟨J.row (k2.row EU (by rintro(h5|h5);exact hx h5;exact M4 h5)) a5,J.row k4 a5⟩,?_,?_⟩
 ·subst e;rcases k3 k I with h5|h5
  ·have:=h.lt h5;omega
  ·omega
 ·have:=(h.buf (Q q hq)).1.lt;omega
 ·refine(((DG.DB H (λk=>G k\/k=x\/k=t.g\/k=t.b)).trans k2 λk I=>.inl (I.elim .inl λh=>.inr (.inr (.inr h))))).trans J λk I=>.inr a5
 ·intro k I;exact(k3 k I).imp_right λh=>Af H.size h
def Mn(w w0:World)(G:Nat->Prop)(x:Nat)(p:Wp)(t:Wt)(F1:Fs)(n1:Nat)(W2:World):Prop:=DQ w0 G p F1 n1 W2/\Row W2 x 115 (Yx p t)/\Row W2 w 28 [(),(),(),()]
theorem Y6{w G p F n x t}(h:Sys w G p F n)(hn:n<1000000)(DK:Ep t F.D.size)(hm:O7 w x p t F.D.size)(ho:YI G x t)(aA:wordsAt F.A.st t.b=AE F.D.size):Calls AP 31 #[AI x] w (PL w G x p F n t):=by
  obtain⟨ws,hm,MU⟩:=hm;obtain⟨hx,Jt,GZ⟩:=hm.lt;obtain⟨M4,YZ,WM⟩:=hm.apart;have hk:=DK.k;have hh:=DK.h;have aY:=DK.sz;have aK:=DK.bound;have Ia:=DK.blocks;have Pq:=DK.first;have av:=(AS w w).alloc ao (AK #[(),(),(),()] 28);have I:Row (w.alloc (AK #[(),(),(),()] 28)) w 28 [(),(),(),()]:=heap_alloc_new _ _;have Ft:(w.alloc (AK #[(),(),(),()] 28)).heap.size=w+1:=a8;obtain⟨w0,JM⟩:=ae (w.alloc (AK #[(),(),(),()] 28));rw[<-JM]at av I Ft;have cN:¬G w:=λhg=>by have:=h.lt hg;omega
  have h0:=h.below av;have aa:=hm.below av;have SG:x<w0:=a5;have HC:=AO (Is aa.row aa.buf);have hd:decide (0<F.D.size)=true:=by simp;omega
  rw[hd]at HC;have Q0:=Cz (AS w0 w0);have pO:Hid (Mn w w0 G x p t F n w0.drew):=⟨DQ.DB h0 Q0,aa.row.below Q0 SG,I.below Q0 I.lt⟩;have Qg:Hid (t.l.length%t.h≠0->Calls AP 60 #[AI x] w0.drew λe w'=>e=AH (AA AB (write F.D (DX t:Nat) (DU F.D.size t)).1)/\
      (((write F.D (DX t:Nat) (DU F.D.size t)).1=0/\Mn w w0 G x p t {F with D:=(write F.D (DX t:Nat) (DU F.D.size t)).2} (n+1) w')\/
       ((write F.D (DX t:Nat) (DU F.D.size t)).1≠0/\FV w0 G t.b p (JN {F with D:=(write F.D (DX t:Nat) (DU F.D.size t)).2} t 0) (n+1) w'/\Row w' w.heap.size 28 [(),(),(),()]))):=λaB=>by
    have hl:0<t.l.length:=by
      rcases A7 t.l.length with h1|h1
      · rw[h1]at aB;simp at aB
      · exact h1
    refine(T2 (h0.below Q0) hn DK (aa.below Q0) ho aA hl ((UN hh.1 aB).1 MU)).mono ?_;rintro e w' ⟨he,h1⟩;refine⟨he,?_⟩;rcases h1 with⟨U,h3⟩|⟨U,h3⟩
    · exact .inl ⟨U,h3.behind Q0,h3.row (aa.row.below Q0 SG) ho.x,h3.row (I.below Q0 I.lt) cN⟩
    · refine .inr ⟨U,h3.behind Q0,h3.row (I.below Q0 I.lt) cN a5⟩
  obtain⟨nb,hnb⟩:=ae (Cr t.h t.l.length);obtain⟨fst,SU⟩:=ae (DY t);have zV:nb<=t.blocks:=by rw[hnb,Ia.1];exact Db hh.1 aK.2
  have QE:Hid (∀W,Calls AP 53 #[AL #[t.k,t.h],t.l.length] W λe w'=>e=AH nb/\Below W W w'):=λW=>by
    rw[hnb];exact Jp t.k t.h t.l.length W hh.1 hh.2.2 a5
  have dN:Hid (∀(F1:Fs) (n1:Nat) (H:World),Mn w w0 G x p t F1 n1 H->F1.A=F.A->F1.D.size=F.D.size->∀J,Below H H J->Calls AP 57 #[AI x,nb] J λe w6=>e=AH (AM #[])/\FV w0 G t.b p (JN F1 t nb) n1 w6/\Row w6 w 28 [(),(),(),()]/\∀fb cs,Row J fb 28 cs->H<=fb->Row w6 fb 28 cs):=by
    intro F1 n1 H ⟨Gk,EA,Gl⟩ hA hD J FU;obtain⟨G',k1,k2,k3⟩:=Gk;have mV:=EA.lt;have a7:t.b<H:=by have:=k2.size;omega
    have Pn:¬G' x:=λhg=>(k3 x hg).elim ho.x λh8=>by omega
    refine(RU (k1.below FU) (EA.below FU mV) Pn (by rw[hA,hD];exact aA) M4 Pq Ia.2 nb zV).mono ?_;rintro e w6 ⟨he,h6⟩;have a0:¬G' w:=λhg=>(k3 _ hg).elim cN λh8=>by omega
    have a2:Row J w 28 [(),(),(),()]:=Gl.below FU Gl.lt;refine⟨he,(h6.behind FU).from k2 k3,h6.row a2 a0 a5,λfb cs LI hl=>h6.row LI (λhg=>by have:=k1.lt hg;omega) a5⟩
  have IC:Hid (∀(F1:Fs) (n1 kp:Nat) (W6 W7:World),F1.A=F.A->FV w0 G t.b p (JN F1 t kp) n1 W6->DG (λk=>k=w) W6 W7->Ld w G x p (JN F1 t kp) n1 t W7):=by
    intro F1 n1 kp W6 W7 hA h6 Yd;refine iS h (λq hq=>?_) av hm.row ho.x M4 Jt h6 ao a5 Yd;have Xf:q∈Fo F1.A.st t.b:=hq;have:=Iq _ _ _ Xf;rwa [hA]at this
  have TQ:Hid (∀(F1:Fs) (n1:Nat) (H:World),Mn w w0 G x p t F1 n1 H->∀W,Below H H W->W.cell? x=AE (AA AB t.k)/\W.cell? (x,1)=AE (AA AB t.h)/\W.cell? (x,4)=AE (AA AB (t.l.length:Nat))/\W.cell? (x,5)=AE (AA AB t.first)):=by
    intro F1 n1 H ⟨_,EA,_⟩ W hb;have r:=EA.below hb EA.lt;exact⟨r.cell 0,r.cell 1,r.cell 4,r.cell 5⟩
  have ND:=(L0 F.D (DX t:Nat) (DU F.D.size t)).1;have qW:Hid (t.l.length%t.h=0->∀W7,Ld w G x p (JN F t nb) n t W7->PL w G x p F n t (AH (AM #[KD fst nb t.k t.l.length,()])) W7):=λh1 W7 U=>by
    rw[hnb]at U⊢;rw[SU];exact .inl ⟨h1,rfl,U⟩
  have al:Hid (t.l.length%t.h≠0->(write F.D (DX t:Nat) (DU F.D.size t)).1=0->∀W7,Ld w G x p (JN {F with D:=(write F.D (DX t:Nat) (DU F.D.size t)).2} t nb) (n+1) t W7->PL w G x p F n t (AH (AM #[KD fst nb t.k t.l.length,()])) W7):=λh1 h0 W7 U=>by
    rw[hnb]at U⊢;rw[SU];exact .inr (.inl ⟨h1,h0,rfl,U⟩)
  have ad:Hid (t.l.length%t.h≠0->(write F.D (DX t:Nat) (DU F.D.size t)).1≠0->∀W7,Ld w G x p (JN {F with D:=(write F.D (DX t:Nat) (DU F.D.size t)).2} t 0) (n+1) t W7->PL w G x p F n t (AH (AM #[KD 0 0 0 0,AA AB (write F.D (DX t:Nat) (DU F.D.size t)).1])) W7):=λh1 h0 W7 U=>.inr (.inr ⟨h1,h0,rfl,U⟩);have cP:Cp ((t.l.length:Nat):Int) (t.h:Int)=((t.l.length%t.h:Nat):Int):=rfl;have Gh:¬((t.h:Int)=0):=a5;have SR:t.l.length%t.h<=254:=by have:=Bw t.l.length hh.1;omega
  have HZ:Hid (t.l.length=0->nb=0/\fst=0):=λh1=>⟨by rw[hnb,h1,Du],by rw[SU];unfold DY;rw[if_pos h1]⟩;have aF:Hid (t.l.length≠0->fst=t.first):=λh1=>by rw[SU];unfold DY;rw[if_neg h1]
  obtain⟨a6,a1,-,-,a4⟩:=aa.row.q5;have Lt:t.l.length<=100000000:=a5;have dQ:=AO I;obtain⟨FB,aD⟩:∃FB:Fs,FB={F with D:=(write F.D (DX t:Nat) (DU F.D.size t)).2}:=⟨_,rfl⟩;have vX:Hid (FB.A=F.A/\FB.D.size=F.D.size):=by unfold Hid;rw[aD];exact⟨rfl,ND⟩
  have YR:Hid (F.A=F.A/\F.D.size=F.D.size):=⟨rfl,rfl⟩;rw[<-aD]at Qg al ad;clear aD ND h h0 hm aa DK MU aA hd hnb SU zV Ia Pq aK I av a6 Ft Q0 aY hk cN hx Jt GZ M4 YZ WM SG ho;generalize PL w G x p F n t=Dd at*
  generalize(write F.D (DX t:Nat) (DU F.D.size t)).1=er at*
  obtain⟨k,G8,bound,first,blocks,b,g,l⟩:=t;simp only at*
  obtain⟨cnt,Nx⟩:=ae l.length;rw[<-Nx]at cP SR HZ aF a4 Lt Qg QE TQ qW al ad;obtain⟨r,hr⟩:=ae (cnt%G8);rw[<-hr]at cP SR Qg qW al ad;have aE:=AO JM;clear hr Nx hh JM;by_cases EU:r=0
  · have gr:¬0<r:=a5
    have HP:=AO (qW.out EU);have TP:=pO;have Qh:=YR;clear qW al ad Qg pO EU vX YR;go_enter func31,ntmps31
    go_wp2_with fail
    rw[<-aE.out];refine HC.out.mono ?_;rintro e w1 ⟨rfl,rfl⟩;go_wp2
    go_region
    generalize w1.drew=H at*
    clear gr cP Gh SR a1 a4;have Q:=AO (TQ.out _ _ _ TP.out);obtain⟨e0,e1,e4,e5⟩:=Q.out H (AS _ _);have aX:x<H:=TP.out.2.1.lt;have Z0:=TP.out.2.2;have a3:w.heap.size<H.heap.size:=Z0.lt;have aJ:=AO Z0;clear Z0;go_wp2
    go_region
    have mz:Row (H.alloc (AK #[(),(),k,cnt] 28)).drew H 28 [(),(),k,cnt]:=heap_alloc_new _ _;have D9:=Cz ((AS H H).alloc ao (AK #[(),(),k,cnt] 28));generalize(H.alloc (AK #[(),(),k,cnt] 28)).drew=W3 at*
    obtain⟨_,_,i4,_⟩:=Q.out W3 D9;have Ei:=AO D9;have TO:=AO mz;clear e0 e1 e4 e5;have Dr:Hid (∀J,Below H H J->Row J H 28 [fst,nb,k,cnt]->Calls AP 57 #[AI x,nb] J λe w6=>e=AH (AM #[])/\(Row w6 w 28 [(),(),(),()]/\Row w6 H 28 [fst,nb,k,cnt])/\∀W7,DG (λk=>k=w) w6 W7->Dd (AH (AM #[KD fst nb k cnt,()])) W7):=λJ FU I5=>
      (dN.out _ _ H TP.out (by first|exact Qh.out.1|rfl) (by first|exact Qh.out.2|rfl) J FU).mono λe w6 ⟨he,h6,hz,hk⟩=>⟨he,⟨hz,hk _ _ I5 ao⟩,λW7 Yd=>HP.out W7 (IC.out _ _ nb w6 W7 (by first|exact Qh.out.1|rfl) h6 Yd)⟩
    clear dN IC HP mz D9 aJ dQ HC TP Qh;by_cases Jw:cnt=0
    · obtain⟨cO,aC⟩:=HZ.out Jw
      subst cO;subst aC;have gc:¬0<cnt:=a5;have i5:W3.cell? (H,1)=AE (AA AB 0):=TO.out.cell 1;have HE:=AO (Dr.out W3 Ei.out TO.out);clear Dr Jw Q;go_wp2_with fail
      refine HE.out.mono ?_;rintro e W6 ⟨rfl,⟨O,WK⟩,h7⟩;have H7:=AO h7;obtain⟨q0,q1,q2,q3⟩:=O.q4;obtain⟨z0,z1,z2,z3⟩:=O.r4;obtain⟨s0,s1,s2,s3⟩:=WK.q4;have ab:=AO O;clear O WK h7 HE;go_wp2
      have HQ:=H7.out _ (DG.four W6 w () () k cnt);have Qt:=(((ab.out.set 0 ()).set 1 ()).set 2 k).set 3 cnt;obtain⟨r0,r1,r2,r3⟩:=Qt.q4;refine Aw (v:=AM #[AL #[(),(),k,cnt],()]) (by simp[results,Tryz.results31,go_sem,r0,r1,r2,r3]) rfl HQ
    · have gc:0<cnt:=a5
      have ar:=aF.out Jw;have Vj:=Cz Ei.out;have q1:=Q.out W3.drew Vj;have i5:=Q.out W3 Ei.out;rw[ar]at Dr;clear ar i4;have i4:=i5.2.2.1;clear Jw;go_wp2
      go_region_held3 (λw'=>w'.cell? x=AE (AA AB k)/\w'.cell? (x,1)=AE (AA AB G8)/\w'.cell? (x,4)=AE (AA AB cnt)/\w'.cell? (x,5)=AE (AA AB first))
        (first|with_reducible exact q1|with_reducible exact q2|with_reducible exact q3|with_reducible exact q4)
        (first
          | (go_at_call 53;(with_reducible refine(QE.out _).mono ?_);rintro e w4 ⟨rfl,aI⟩;have Pk:=(TO.out.drewN 1).below aI (TO.out.drewN 1).lt;have IX:=Vj.trans (aI.mono Vj.size);have q2:=Q.out w4 IX;have f0:w4.cell? H.heap.size=AE (AA AB 0):=Pk.cell 0;have f1:w4.cell? (H.heap.size,1)=AE (AA AB 0):=Pk.cell 1;have z0:=Pk.free 0;have z1:=Pk.free 1;have FU:=IX.setCell (p:=H.heap.size) ao first;have q3:=Q.out _ FU;have RF:=FU.setCell (p:=(H.heap.size,1)) ao nb;have q4:=Q.out _ RF;have pH:=AO Pk;clear Pk aI))
      have I5:=(pH.out.set 0 first).set 1 nb;have HE:=AO (Dr.out _ RF I5);have i6:((w4.setCell H first).setCell (H,1) nb).cell? (H,1)=AE (AA AB nb):=I5.cell 1;clear Dr Q q1 q2 q3 q4 f0 f1 z0 z1 IX FU RF I5 pH TO Ei i4 i5 Vj QE;generalize(w4.setCell H.heap.size first).setCell (H.heap.size,1) nb=J at*
      go_wp2_with fail
      refine HE.out.mono ?_;rintro e W6 ⟨rfl,⟨O,WK⟩,h7⟩;have H7:=AO h7;obtain⟨q0,q1,q2,q3⟩:=O.q4;obtain⟨z0,z1,z2,z3⟩:=O.r4;obtain⟨s0,s1,s2,s3⟩:=WK.q4;have ab:=AO O;clear O WK h7 HE;go_wp2
      have HQ:=H7.out _ (DG.four W6 w first nb k cnt);have Qt:=(((ab.out.set 0 first).set 1 nb).set 2 k).set 3 cnt;obtain⟨r0,r1,r2,r3⟩:=Qt.q4;refine Aw (v:=AM #[AL #[first,nb,k,cnt],()]) (by simp[results,Tryz.results31,go_sem,r0,r1,r2,r3]) rfl HQ
  · have gr:0<r:=a5
    have yE:=AO (Qg.out EU);have aG:=AO (al.out EU);have aH:=AO (ad.out EU);clear qW al ad Qg pO EU YR;by_cases aw:er=0
    · subst aw
      have HP:=AO (aG.out rfl);clear aG aH;go_enter func31,ntmps31
      go_wp2_with fail
      rw[<-aE.out];refine HC.out.mono ?_;rintro e w1 ⟨rfl,rfl⟩;go_wp2
      go_region
      go_wp2_with fail
      refine yE.out.mono ?_;rintro e H ⟨rfl,U⟩;have TP:Hid (Mn w w1 G x p ⟨k,G8,bound,first,blocks,b,g,l⟩ FB (n+1) H):=by
        rcases U with⟨_,h3⟩|⟨h3,_⟩
        · exact h3
        · exact absurd rfl h3
      have Qh:=vX;clear U yE vX;clear gr cP Gh SR a1 a4;have Q:=AO (TQ.out _ _ _ TP.out);obtain⟨e0,e1,e4,e5⟩:=Q.out H (AS _ _);have aX:x<H:=TP.out.2.1.lt;have Z0:=TP.out.2.2;have a3:w.heap.size<H.heap.size:=Z0.lt;have aJ:=AO Z0;clear Z0;go_wp2
      go_region
      have mz:Row (H.alloc (AK #[(),(),k,cnt] 28)).drew H 28 [(),(),k,cnt]:=heap_alloc_new _ _;have D9:=Cz ((AS H H).alloc ao (AK #[(),(),k,cnt] 28));generalize(H.alloc (AK #[(),(),k,cnt] 28)).drew=W3 at*
      obtain⟨_,_,i4,_⟩:=Q.out W3 D9;have Ei:=AO D9;have TO:=AO mz;clear e0 e1 e4 e5;have Dr:Hid (∀J,Below H H J->Row J H 28 [fst,nb,k,cnt]->Calls AP 57 #[AI x,nb] J λe w6=>e=AH (AM #[])/\(Row w6 w 28 [(),(),(),()]/\Row w6 H 28 [fst,nb,k,cnt])/\∀W7,DG (λk=>k=w) w6 W7->Dd (AH (AM #[KD fst nb k cnt,()])) W7):=λJ FU I5=>
        (dN.out _ _ H TP.out (by first|exact Qh.out.1|rfl) (by first|exact Qh.out.2|rfl) J FU).mono λe w6 ⟨he,h6,hz,hk⟩=>⟨he,⟨hz,hk _ _ I5 ao⟩,λW7 Yd=>HP.out W7 (IC.out _ _ nb w6 W7 (by first|exact Qh.out.1|rfl) h6 Yd)⟩
      clear dN IC HP mz D9 aJ dQ HC TP Qh;by_cases Jw:cnt=0
      · obtain⟨cO,aC⟩:=HZ.out Jw
        subst cO;subst aC;have gc:¬0<cnt:=a5;have i5:W3.cell? (H,1)=AE (AA AB 0):=TO.out.cell 1;have HE:=AO (Dr.out W3 Ei.out TO.out);clear Dr Jw Q;go_wp2_with fail
        refine HE.out.mono ?_;rintro e W6 ⟨rfl,⟨O,WK⟩,h7⟩;have H7:=AO h7;obtain⟨q0,q1,q2,q3⟩:=O.q4;obtain⟨z0,z1,z2,z3⟩:=O.r4;obtain⟨s0,s1,s2,s3⟩:=WK.q4;have ab:=AO O;clear O WK h7 HE;go_wp2
        have HQ:=H7.out _ (DG.four W6 w () () k cnt);have Qt:=(((ab.out.set 0 ()).set 1 ()).set 2 k).set 3 cnt;obtain⟨r0,r1,r2,r3⟩:=Qt.q4;refine Aw (v:=AM #[AL #[(),(),k,cnt],()]) (by simp[results,Tryz.results31,go_sem,r0,r1,r2,r3]) rfl HQ
      · have gc:0<cnt:=a5
        have ar:=aF.out Jw;have Vj:=Cz Ei.out;have q1:=Q.out W3.drew Vj;have i5:=Q.out W3 Ei.out;rw[ar]at Dr;clear ar i4;have i4:=i5.2.2.1;clear Jw;go_wp2
        go_region_held3 (λw'=>w'.cell? x=AE (AA AB k)/\w'.cell? (x,1)=AE (AA AB G8)/\w'.cell? (x,4)=AE (AA AB cnt)/\w'.cell? (x,5)=AE (AA AB first))
          (first|with_reducible exact q1|with_reducible exact q2|with_reducible exact q3|with_reducible exact q4)
          (first
            | (go_at_call 53;(with_reducible refine(QE.out _).mono ?_);rintro e w4 ⟨rfl,aI⟩;have Pk:=(TO.out.drewN 1).below aI (TO.out.drewN 1).lt;have IX:=Vj.trans (aI.mono Vj.size);have q2:=Q.out w4 IX;have f0:w4.cell? H.heap.size=AE (AA AB 0):=Pk.cell 0;have f1:w4.cell? (H.heap.size,1)=AE (AA AB 0):=Pk.cell 1;have z0:=Pk.free 0;have z1:=Pk.free 1;have FU:=IX.setCell (p:=H.heap.size) ao first;have q3:=Q.out _ FU;have RF:=FU.setCell (p:=(H.heap.size,1)) ao nb;have q4:=Q.out _ RF;have pH:=AO Pk;clear Pk aI))
        have I5:=(pH.out.set 0 first).set 1 nb;have HE:=AO (Dr.out _ RF I5);have i6:((w4.setCell H first).setCell (H,1) nb).cell? (H,1)=AE (AA AB nb):=I5.cell 1;clear Dr Q q1 q2 q3 q4 f0 f1 z0 z1 IX FU RF I5 pH TO Ei i4 i5 Vj QE;generalize(w4.setCell H.heap.size first).setCell (H.heap.size,1) nb=J at*
        go_wp2_with fail
        refine HE.out.mono ?_;rintro e W6 ⟨rfl,⟨O,WK⟩,h7⟩;have H7:=AO h7;obtain⟨q0,q1,q2,q3⟩:=O.q4;obtain⟨z0,z1,z2,z3⟩:=O.r4;obtain⟨s0,s1,s2,s3⟩:=WK.q4;have ab:=AO O;clear O WK h7 HE;go_wp2
        have HQ:=H7.out _ (DG.four W6 w first nb k cnt);have Qt:=(((ab.out.set 0 first).set 1 nb).set 2 k).set 3 cnt;obtain⟨r0,r1,r2,r3⟩:=Qt.q4;refine Aw (v:=AM #[AL #[first,nb,k,cnt],()]) (by simp[results,Tryz.results31,go_sem,r0,r1,r2,r3]) rfl HQ
    · have g9:(er !=0)=true:=by simpa using aw
      have HP:=AO (aH.out aw);clear aG aH;go_enter func31,ntmps31
      go_wp2_with fail
      rw[<-aE.out];refine HC.out.mono ?_;rintro e w1 ⟨rfl,rfl⟩;go_wp2
      go_region
      go_wp2_with fail
      refine yE.out.mono ?_;rintro e H ⟨rfl,U⟩;have h3:FV w1 G b p (JN FB ⟨k,G8,bound,first,blocks,b,g,l⟩ 0) (n+1) H/\Row H w 28 [(),(),(),()]:=by
        rcases U with⟨h3,_⟩|⟨_,h3⟩
        · exact absurd h3 aw
        · exact h3
      obtain⟨q0,q1,q2,q3⟩:=h3.2.q4;obtain⟨z0,z1,z2,z3⟩:=h3.2.r4;have H3:=AO h3;clear U h3 yE;go_wp2
      have HQ:=HP.out _ (IC.out FB (n+1) 0 H _ vX.out.1 H3.out.1 (DG.four H w () () () ()));have Qt:=(((H3.out.2.set 0 ()).set 1 ()).set 2 ()).set 3 ();obtain⟨r0,r1,r2,r3⟩:=Qt.q4;refine Aw (v:=AM #[AL #[(),(),(),()],er]) (by simp[results,Tryz.results31,go_sem,r0,r1,r2,r3]) rfl HQ
def Mh(F:Fs)(width bound:Int):Prop:=Ct F.D.size width≠0/\0<=bound/\bound<=100000000
def AL6(F:Fs)(width bound er:Int):Prop:=
 (er=1/\¬Mh F width bound)\/(er=7/\Mh F width bound/\F.A.room-F.A.used<F.D.size)\/
 (er=5/\Mh F width bound/\F.D.size<=F.A.room-F.A.used/\0<Cr (Ct F.D.size width) bound.toNat/\∀k,¬QK F.S k (Cr (Ct F.D.size width) bound.toNat))
def YJ(S S':Sp)(a m:Nat):Prop:=(m=0/\a=0/\S'=S)\/(0<m/\iy S S' a m/\∀k,QK S k m->a<=k)
theorem iB{S S' a m}(hm:0<m)(h:S.ok)(e:iy S S' a m):(Ez S' a m).1=S:=by
 have H:=h.2.2;have O:=H.has (e.room a ao a5);have h2:=H.has (e.room (a+m-1) a5 a5);rcases Jj e.ok (a:Int) (m:Int)with⟨s',a',m',e1,e2,h3,e3,hg⟩|⟨e3,hno⟩
 ·have Q:a'=a:=a5;have em:m'=m:=a5;subst Q;subst em;rw[e3];have hf:s'.first=S.first:=hg.first.trans e.first;have hb:s'.blocks=S.blocks:=hg.blocks.trans e.blocks;have I:s'.fr=S.fr:=by
   have J:=hg.ok.2.2;rw[hf,hb]at J;refine Canon.only J H λb=>?_;rw[hg.has,e.has];constructor
   ·rintro(h4|h4)
    ·exact h4.1
    ·exact e.room b h4.1 h4.2
   ·intro h4;by_cases h5:a'<=b/\b<a'+m'
    ·exact .inr h5
    ·exact .inl ⟨h4,h5⟩
  obtain⟨f1,b1,l1⟩:=s';obtain⟨f2,b2,U⟩:=S;simp only at hf hb I;subst hf;subst hb;subst I;rfl
 ·refine absurd ?_ (hno a m rfl rfl a5);rw[e.first,e.blocks];exact⟨O.1,a5,λb DV DN hh=>((e.has b).1 hh).2 ⟨DV,DN⟩⟩
theorem rM{S S' a m}(hm:0<m)(h:S.ok)(e:iy S S' a m):a+m<=S.first+S.blocks/\S.first<=a:=by
 have H:=h.2.2;have J:=H.has (e.room a ao a5);have I:=H.has (e.room (a+m-1) a5 a5);omega
theorem ZB{S}(h:S.ok)(m:Nat):(∃S' a,takeN S m=(S',a,m,0)/\YJ S S' a m/\Dm S' a m=S/\a+m<=2000000)\/(takeN S m=(S,0,0,5)/\0<m/\∀k,¬QK S k m):=by
 by_cases hm:m=0
 ·subst hm;exact .inl ⟨S,0,rfl,.inl ⟨rfl,rfl,rfl⟩,rfl,a5⟩
 ·have H:0<m:=a5;unfold takeN;rw[if_neg hm];rcases ZA h (n:=m) H with⟨S',a,e,ht,hl⟩|⟨e,hno⟩
  ·rw[e,if_pos rfl];refine .inl ⟨S',a,rfl,.inr ⟨H,ht,hl⟩,?_,?_⟩
   ·unfold Dm;rw[if_neg hm];exact iB H h ht
   ·have:=rM H h ht;have:=h.1;have:=h.2.1;omega
  ·rw[e,if_neg (show ¬((5:Nat)=0)by decide)];exact .inr ⟨rfl,H,hno⟩
theorem Ko{size width}(h:Ct size width≠0):∃k:Nat,width=(k:Int)/\0<k/\k<=5/\Ct size width*k<=size-2:=by
 unfold Ct at h⊢;by_cases e:width<1\/5<width
 ·rw[if_pos e]at h;exact absurd rfl h
 ·rw[if_neg e];refine⟨width.toNat,a5,a5,a5,?_⟩;exact CU _ _
theorem aL{w G p F n}(h:Sys w G p F n)(width bound:Int)(H:¬Mh F width bound):Calls AP 28 #[AI p.w,width,bound] w λe w'=>e=AH (AM #[AI AD,AA AB 1])/\Below w w w':=by
 have Q:=AO (Ic h width);by_cases I:Ct F.D.size width=0
 ·rw[I]at Q;clear I H h;go_enter func28,ntmps28
  go_wp2_with fail
  refine Q.out.mono ?_;rintro e w1 ⟨rfl,hb⟩;have J:=AO (hb.alloc hb.size (AK #[width,()] 105));clear hb;go_wp2
  go_ret2
  exact⟨rfl,J.out⟩
 ·have g0:(((Ct F.D.size width:Nat):Int)==0)=false:=by simpa using I
  by_cases O:bound<0
  ·have g1:decide (bound<0)=true:=by simpa using O
   generalize Ct F.D.size width=hh at*
   clear I H h O;go_enter func28,ntmps28
   go_wp2_with fail
   refine Q.out.mono ?_;rintro e w1 ⟨rfl,hb⟩;have J:=AO (hb.alloc hb.size (AK #[width,hh] 105));clear hb;go_wp2
   go_ret2
   exact⟨rfl,J.out⟩
  ·have g1:decide (bound<0)=false:=by simpa using O
   have g2:decide (bound>100000000)=true:=by
    have:¬bound<=100000000:=λU=>H ⟨I,a5,U⟩;simp;omega
   generalize Ct F.D.size width=hh at*
   clear I H h O;go_enter func28,ntmps28
   go_wp2_with fail
   refine Q.out.mono ?_;rintro e w1 ⟨rfl,hb⟩;have J:=AO (hb.alloc hb.size (AK #[width,hh] 105));clear hb;go_wp2
   go_ret2
   exact⟨rfl,J.out⟩
theorem Xx{w G p F n}(h:Sys w G p F n)(width bound:Int)(ha:Mh F width bound)(Pj:takeN F.S (Cr (Ct F.D.size width) bound.toNat)=(F.S,0,0,5))(e7:Bool)(O:e7=decide (F.A.room-F.A.used<F.D.size)):Calls AP 28 #[AI p.w,width,bound] w λe w'=>e=AH (AM #[AI AD,AA AB (if e7 then 7 else 5)])/\DQ w G p F n w':=by
 have aa:=h.size;have IY:Ct F.D.size width<=254:=Af (IN _ _) a5;obtain⟨RG,gn,z8⟩:=ha;obtain⟨Q,rfl⟩:∃Q:Nat,bound=(Q:Int):=⟨bound.toNat,a5⟩;rw[BX]at Pj;obtain⟨k,rfl,WJ,jV,wu⟩:=Ko RG;have Ta:Cr (Ct F.D.size k) Q<=100000000:=Af (Di _ _) a5;have HS:=AO (Ic h k);have QE:Hid (∀W,Calls AP 53 #[AL #[k,(Ct F.D.size k:Nat)],Q] W λe w'=>e=AH (Cr (Ct F.D.size k) Q:Nat)/\Below W W w'):=λW=>Jp k (Ct F.D.size k) Q W a5 IY a5;have Qd:Hid (∀W,Below w w W->Calls AP 52 #[AI p.w,(Cr (Ct F.D.size k) Q:Nat)] W λe w'=>e=AH (AM #[AL #[(),()],AA AB 5])/\DQ W G p F n w'/\∀g t cs,Row W g t cs->¬G g->Row w' g t cs):=λW hb=>by
  have h1:=Pv (h.below hb) (Cr (Ct F.D.size k) Q) Ta;rw[Pj]at h1;exact h1.mono λe w' ⟨he,h2⟩=>⟨he,h2,λg t cs hr hg=>h2.row hr hg⟩
 have dR:Hid (∀k,w.heap.size<=k->¬G k):=λk hk hg=>by have:=h.lt hg;omega
 have U:Hid (∀W G',Sys W G' p F n->∀q,Calls AP 33 #[AI p.a] (W.drewN q) λe Ej=>e=AH ((F.A.room-F.A.used:Nat):Int)/\∃k,Ej=W.drewN k):=λW G' hs q=>Calls.quiet_of_same ((hs.below (Cy (AS _ _) q)).XS.mono λ_ _ h=>h);have Yj:Hid (∀W G',Sys W G' p F n->∀q,Calls AP 34 #[AI p.d] (W.drewN q) λe Ej=>e=AH F.D.size/\∃k,Ej=W.drewN k):=λW G' hs q=>Calls.quiet_of_same ((hs.below (Cy (AS _ _) q)).Hs.mono λ_ _ h=>h);obtain⟨left,QU⟩:=ae (F.A.room-F.A.used);rw[<-QU]at U O;have g0:(((Ct F.D.size (k:Int):Nat):Int)==0)=false:=by simpa using RG
 have g1:decide ((Q:Int)<0)=false:=a8;have g2:decide ((Q:Int)>100000000)=false:=by simp;omega
 clear QU Pj h RG gn wu IY;generalize Cr (Ct F.D.size k) Q=nb at*
 generalize Ct F.D.size k=hh at*
 cases e7
 ·have gl:¬left<F.D.size:=by simpa using O
  clear O;go_enter func28,ntmps28
  go_wp2_with fail
  refine HS.out.mono ?_;rintro e w1 ⟨rfl,DV⟩;have DN:=DV.alloc DV.size (AK #[k,hh] 105);have EA:Row (w1.alloc (AK #[k,hh] 105)) w1 105 [k,hh]:=heap_alloc_new _ _;have Ve:=DV.size;clear DV;go_wp2_with fail
  refine(QE.out _).mono ?_;rintro e w3 ⟨rfl,D9⟩;have FK:=EA.below D9 EA.lt;have Sb:=DN.trans (D9.mono DN.size);have Gb:=AO FK;have Ei:=AO Sb;have Tg:=AO Ve;clear DN EA D9 FK Sb Ve;go_wp2_with fail
  refine(Qd.out _ Ei.out).mono ?_;rintro e H ⟨rfl,h4,gT⟩;have JU:=gT _ _ _ Gb.out (dR.out _ Tg.out);obtain⟨G',k1,YY,Ll⟩:=h4;have Qs:¬G' w1:=λhg=>(Ll _ hg).elim (dR.out _ Tg.out) λh=>by have:=Gb.out.lt;omega
  have k2:DG G w H:=(DG.DB Ei.out G).trans YY λb hb=>.inl hb;have k3:∀k,G' k->G k\/w<=k:=λk hk=>(Ll k hk).imp id λh=>Af Ei.out.size h;clear YY Ll;have FU:=(AS H H).alloc ao (AK #[(),()] 100);have I5:=JU.below FU JU.lt;have Ts:Row (H.alloc (AK #[(),()] 100)) H 100 [(),()]:=heap_alloc_new _ _;have J:=k1.below FU;have Zx:=k2.size;go_wp2
  generalize H.alloc (AK #[(),()] 100)=I at*
  have Q1:=AO (U.out I G' J);have Q2:=AO (Yj.out I G' J);have c0:I.cell? ⟨p.w,0,AD⟩=AE (AI (AE ⟨p.d,0,AD⟩)):=J.row.cell 0;have c1:I.cell? ⟨p.w,1,AD⟩=AE (AI (AE ⟨p.a,0,AD⟩)):=J.row.cell 1;have Dr:Hid (∀q,DQ w G p F n (I.drewN q)):=λq=>DQ.ahead (DQ.ahead ⟨G',k1,k2,k3⟩ FU) (Cy (AS _ _) q);clear k1 k2 k3 J FU I5 Ts JU gT QE Qd HS U Yj Gb Ei;go_quiet ((with_reducible first|exact Q1.out _|exact Q2.out _))
  go_wp2
  go_ret2
  exact⟨rfl,Dr.out _⟩
 ·have gl:left<F.D.size:=by simpa using O
  clear O;go_enter func28,ntmps28
  go_wp2_with fail
  refine HS.out.mono ?_;rintro e w1 ⟨rfl,DV⟩;have DN:=DV.alloc DV.size (AK #[k,hh] 105);have EA:Row (w1.alloc (AK #[k,hh] 105)) w1 105 [k,hh]:=heap_alloc_new _ _;have Ve:=DV.size;clear DV;go_wp2_with fail
  refine(QE.out _).mono ?_;rintro e w3 ⟨rfl,D9⟩;have FK:=EA.below D9 EA.lt;have Sb:=DN.trans (D9.mono DN.size);have Gb:=AO FK;have Ei:=AO Sb;have Tg:=AO Ve;clear DN EA D9 FK Sb Ve;go_wp2_with fail
  refine(Qd.out _ Ei.out).mono ?_;rintro e H ⟨rfl,h4,gT⟩;have JU:=gT _ _ _ Gb.out (dR.out _ Tg.out);obtain⟨G',k1,YY,Ll⟩:=h4;have Qs:¬G' w1:=λhg=>(Ll _ hg).elim (dR.out _ Tg.out) λh=>by have:=Gb.out.lt;omega
  have k2:DG G w H:=(DG.DB Ei.out G).trans YY λb hb=>.inl hb;have k3:∀k,G' k->G k\/w<=k:=λk hk=>(Ll k hk).imp id λh=>Af Ei.out.size h;clear YY Ll;have FU:=(AS H H).alloc ao (AK #[(),()] 100);have I5:=JU.below FU JU.lt;have Ts:Row (H.alloc (AK #[(),()] 100)) H 100 [(),()]:=heap_alloc_new _ _;have J:=k1.below FU;have Zx:=k2.size;go_wp2
  generalize H.alloc (AK #[(),()] 100)=I at*
  have Q1:=AO (U.out I G' J);have Q2:=AO (Yj.out I G' J);have c0:I.cell? ⟨p.w,0,AD⟩=AE (AI (AE ⟨p.d,0,AD⟩)):=J.row.cell 0;have c1:I.cell? ⟨p.w,1,AD⟩=AE (AI (AE ⟨p.a,0,AD⟩)):=J.row.cell 1;have Dr:Hid (∀q,DQ w G p F n (I.drewN q)):=λq=>DQ.ahead (DQ.ahead ⟨G',k1,k2,k3⟩ FU) (Cy (AS _ _) q);clear k1 k2 k3 J FU I5 Ts JU gT QE Qd HS U Yj Gb Ei;go_quiet ((with_reducible first|exact Q1.out _|exact Q2.out _))
  go_wp2
  go_ret2
  exact⟨rfl,Dr.out _⟩
theorem OU{w G p F n}(h:Sys w G p F n)(m:Nat)(hm:F.A.room-F.A.used<m):Calls AP 54 #[AI p.a,m] w λe w'=>e=AH (AM #[AI AD,AA AB 7])/\w'=w:=by
 obtain⟨J,I,_⟩:=h.arn;have H:=nu p.a F.A J (m:Int) w I (.inr a5);rw[if_neg a5]at H;exact H
theorem T6{w G p F n}(h:Sys w G p F n)(m:Nat)(hm:m<=F.A.room-F.A.used)(h8:m<=256):Calls AP 54 #[AI (AE ⟨p.a,0,AD⟩),m] w λe w'=>∃b g,e=AH (AM #[AI (AE ⟨b,0,AD⟩),()])/\
  (∃G',Sys w' G' p {F with A:=FG F.A b m} n/\DG G w w'/\(∀k,G' k->G k\/w<=k)/\¬G' b/\¬G' g)/\Row w' b 119 [AJ g m m]/\Row w' g 120 ((BA m 0).map vw)/\w<=b/\w<=g:=by
 obtain⟨Ga,O,J,_⟩:=h.arn;refine(US p.a F.A Ga m w O hm a5).mono ?_;rintro e w' ⟨b,g,I,he,U,H,h3,h4,h5,Q⟩;refine⟨b,g,he,J w' b g m ⟨I,U,H,h3,h4,h5,Q⟩,H,?_,h4,h5⟩;rw[List.map_replicate];exact h3
theorem Xw{w G p F n}(h:Sys w G p F n)(width bound:Int)(ha:Mh F width bound)(S1:Sp)(a:Nat)(Pj:takeN F.S (Cr (Ct F.D.size width) bound.toNat)=(S1,a,Cr (Ct F.D.size width) bound.toNat,0))(U:Dm S1 a (Cr (Ct F.D.size width) bound.toNat)=F.S)(Tb:a<=2000000)(I:F.A.room-F.A.used<F.D.size):Calls AP 28 #[AI p.w,width,bound] w λe w'=>e=AH (AM #[AI AD,AA AB 7])/\DQ w G p F n w':=by
 have ad:=h.size;have IY:Ct F.D.size width<=254:=Af (IN _ _) a5;obtain⟨RG,gn,z8⟩:=ha;obtain⟨H,rfl⟩:∃H:Nat,bound=(H:Int):=⟨bound.toNat,a5⟩;rw[BX]at Pj;obtain⟨k,rfl,WJ,jV,wu⟩:=Ko RG;have Ta:Cr (Ct F.D.size k) H<=100000000:=Af (Di _ _) a5;have HS:=AO (Ic h k);have QE:Hid (∀W,Calls AP 53 #[AL #[k,(Ct F.D.size k:Nat)],H] W λe w'=>e=AH (Cr (Ct F.D.size k) H:Nat)/\Below W W w'):=λW=>Jp k (Ct F.D.size k) H W a5 IY a5;have Qd:Hid (∀W,Below w w W->Calls AP 52 #[AI p.w,(Cr (Ct F.D.size k) H:Nat)] W λe w'=>e=AH (AM #[AL #[a,(Cr (Ct F.D.size k) H:Nat)],()])/\DQ W G p {F with S:=S1} n w'/\∀g t cs,Row W g t cs->¬G g->Row w' g t cs):=λW hb=>by
  have J:=Pv (h.below hb) (Cr (Ct F.D.size k) H) Ta;rw[Pj]at J;exact J.mono λe w' ⟨he,h2⟩=>⟨he,h2,λg t cs hr hg=>h2.row hr hg⟩
 have dR:Hid (∀k,w.heap.size<=k->¬G k):=λk hk hg=>by have:=h.lt hg;omega
 rw[BX]at U;obtain⟨F1,Yg⟩:∃F1:Fs,F1={F with S:=S1}:=⟨_,rfl⟩;rw[<-Yg]at Qd;have aa:Hid (∀W G',Sys W G' p F1 n->∀q,Calls AP 54 #[AI p.a,F.D.size] (W.drewN q) λe Ej=>e=AH (AM #[AI AD,AA AB 7])/\∃k,Ej=W.drewN k):=λW G' hs q=>Calls.quiet_of_same ((OU (hs.below (Cy (AS _ _) q)) F.D.size (by rw[Yg];exact I)).mono λ_ _ h=>h);have Yj:Hid (∀W G',Sys W G' p F1 n->∀q,Calls AP 34 #[AI p.d] (W.drewN q) λe Ej=>e=AH F.D.size/\∃k,Ej=W.drewN k):=λW G' hs q=>by
  have J:=(hs.below (Cy (AS _ _) q)).Hs;rw[Yg]at J;exact Calls.quiet_of_same (J.mono λ_ _ h=>h)
 have yH:Hid (∀W G',Sys W G' p F1 n->Calls AP 55 #[AI p.w,AL #[a,(Cr (Ct F.D.size k) H:Nat)]] W λe w'=>e=AH (AM #[])/\DQ W G' p F n w'):=λW G' hs=>by
  have J:=UZ hs a (Cr (Ct F.D.size k) H) a5 Ta;rw[Yg]at J;simp only[U]at J;exact J
 have g0:(((Ct F.D.size (k:Int):Nat):Int)==0)=false:=by simpa using RG
 have g1:decide ((H:Int)<0)=false:=a8;have g2:decide ((H:Int)>100000000)=false:=by simp;omega
 clear Yg Pj h RG gn wu IY U I;generalize Cr (Ct F.D.size k) H=nb at*
 generalize Ct F.D.size k=hh at*
 go_enter func28,ntmps28
 go_wp2_with fail
 refine HS.out.mono ?_;rintro e w1 ⟨rfl,DV⟩;have DN:=DV.alloc DV.size (AK #[k,hh] 105);have EA:Row (w1.alloc (AK #[k,hh] 105)) w1 105 [k,hh]:=heap_alloc_new _ _;have Ve:=DV.size;clear DV;go_wp2_with fail
 refine(QE.out _).mono ?_;rintro e w3 ⟨rfl,D9⟩;have FK:=EA.below D9 EA.lt;have Sb:=DN.trans (D9.mono DN.size);have Gb:=AO FK;have Ei:=AO Sb;have Tg:=AO Ve;clear DN EA D9 FK Sb Ve;go_wp2_with fail
 refine(Qd.out _ Ei.out).mono ?_;rintro e Q ⟨rfl,h4,gT⟩;have JU:=gT _ _ _ Gb.out (dR.out _ Tg.out);obtain⟨G',k1,YY,Ll⟩:=h4;have Qs:¬G' w1:=λhg=>(Ll _ hg).elim (dR.out _ Tg.out) λh=>by have:=Gb.out.lt;omega
 have k2:DG G w Q:=(DG.DB Ei.out G).trans YY λb hb=>.inl hb;have k3:∀k,G' k->G k\/w<=k:=λk hk=>(Ll k hk).imp id λh=>Af Ei.out.size h;clear YY Ll;have FU:=(AS Q Q).alloc ao (AK #[a,nb] 100);have I5:=JU.below FU JU.lt;have Ts:Row (Q.alloc (AK #[a,nb] 100)) Q 100 [a,nb]:=heap_alloc_new _ _;have k5:=k1.below FU;have Zx:=k2.size;go_wp2
 generalize Q.alloc (AK #[a,nb] 100)=O at*
 have Q1:=AO (aa.out O G' k5);have Q2:=AO (Yj.out O G' k5);have c0:O.cell? ⟨p.w,0,AD⟩=AE (AI (AE ⟨p.d,0,AD⟩)):=k5.row.cell 0;have c1:O.cell? ⟨p.w,1,AD⟩=AE (AI (AE ⟨p.a,0,AD⟩)):=k5.row.cell 1;have e0:O.cell? ⟨Q.heap.size,0,AD⟩=AE (AA AB a):=Ts.cell 0;have e1:O.cell? ⟨Q.heap.size,1,AD⟩=AE (AA AB nb):=Ts.cell 1;have ab:Hid (∀q,Calls AP 55 #[AI p.w,AL #[a,nb]] (O.drewN q) λe w'=>e=AH (AM #[])/\DQ w G p F n w'):=λq=>by
  refine(yH.out _ G' (k5.below (Cy (AS _ _) q))).mono ?_;rintro e w' ⟨he,h6⟩;refine⟨he,?_⟩;obtain⟨Le,m1,m2,m3⟩:=h6;have YY:DG G w (O.drewN q):=(k2.trans (DG.DB FU λ_=>False) λ_ hf=>hf.elim).drewN q;exact⟨Le,m1,YY.trans m2 k3,λk hk=>(m3 k hk).elim (λh=>k3 k h) λh=>.inr (Af YY.size h)⟩
 clear k1 k2 k3 k5 FU I5 Ts JU gT QE Qd HS aa Yj Gb Ei yH;go_quiet ((with_reducible first|exact Q1.out _|exact Q2.out _))
 clear Q1 Q2 c0 c1;go_wp2_with fail
 refine(ab.out _).mono ?_;rintro e w6 ⟨rfl,h6⟩;have H6:=AO h6;clear h6 ab;go_wp2
 go_ret2
 exact⟨rfl,H6.out⟩
def vA(w:World)(G:Nat->Prop)(p:Wp)(F:Fs)(n:Nat)(S1:Sp)(t:Wt)(x:Nat)(w':World):Prop:=
 w<=x/\w<=t.b/\w<=t.g/\∃G',Sys w' G' p {F with S:=S1,A:=FG F.A t.b F.D.size} n/\O7 w' x p t F.D.size/\YI G' x t/\DG G w w'/\∀k,G' k->G k\/w<=k
def Vx(w:World)(G:Nat->Prop)(p:Wp)(F:Fs)(n:Nat)(S1:Sp)(a k h bn nb:Nat)(e:Ending)(w':World):Prop:=
 ∃x b g,e=AH (AM #[AI (AE ⟨x,0,AD⟩),()])/\vA w G p F n S1 ⟨k,h,bn,a,nb,b,g,[]⟩ x w'
theorem iC{w G p F n}(h:Sys w G p F n)(width bound:Int)(ha:Mh F width bound)(S1:Sp)(a:Nat)(Pj:takeN F.S (Cr (Ct F.D.size width) bound.toNat)=(S1,a,Cr (Ct F.D.size width) bound.toNat,0))(Q:F.D.size<=F.A.room-F.A.used):
  Calls AP 28 #[AI p.w,width,bound] w (Vx w G p F n S1 a width.toNat (Ct F.D.size width) bound.toNat (Cr (Ct F.D.size width) bound.toNat)):=by
 have ar:=h.size;have IY:Ct F.D.size width<=254:=Af (IN _ _) a5;obtain⟨RG,gn,z8⟩:=ha;obtain⟨H,rfl⟩:∃H:Nat,bound=(H:Int):=⟨bound.toNat,a5⟩;rw[BX]at Pj;obtain⟨k,rfl,WJ,jV,wu⟩:=Ko RG;have Ta:Cr (Ct F.D.size k) H<=100000000:=Af (Di _ _) a5;have HS:=AO (Ic h k);have QE:Hid (∀W,Calls AP 53 #[AL #[k,(Ct F.D.size k:Nat)],H] W λe w'=>e=AH (Cr (Ct F.D.size k) H:Nat)/\Below W W w'):=λW=>Jp k (Ct F.D.size k) H W a5 IY a5;have Qd:Hid (∀W,Below w w W->Calls AP 52 #[AI p.w,(Cr (Ct F.D.size k) H:Nat)] W λe w'=>e=AH (AM #[AL #[a,(Cr (Ct F.D.size k) H:Nat)],()])/\DQ W G p {F with S:=S1} n w'/\∀g t cs,Row W g t cs->¬G g->Row w' g t cs):=λW hb=>by
  have h1:=Pv (h.below hb) (Cr (Ct F.D.size k) H) Ta;rw[Pj]at h1;exact h1.mono λe w' ⟨he,h2⟩=>⟨he,h2,λg t cs hr hg=>h2.row hr hg⟩
 have dR:Hid (∀k,w.heap.size<=k->¬G k):=λk hk hg=>by have:=h.lt hg;omega
 simp only[BX];obtain⟨F1,Yg⟩:∃F1:Fs,F1={F with S:=S1}:=⟨_,rfl⟩;rw[<-Yg]at Qd;obtain⟨size,GI⟩:=ae F.D.size;have YQ:Hid (∀W G',Sys W G' p F1 n->Calls AP 54 #[AI (AE ⟨p.a,0,AD⟩),AA AB size] W.drew λe w'=>∃b g,e=AH (AM #[AI (AE ⟨b,0,AD⟩),AA AB 0])/\
   (∃I,Sys w' I p {F with S:=S1,A:=FG F.A b F.D.size} n/\DG G' W w'/\(∀k,I k->G' k\/W.heap.size<=k)/\¬I b/\¬I g)/\Row w' b 119 [AJ (AE ⟨g,0,AD⟩) size size]/\Row w' g 120 ((BA size 0).map vw)/\W.heap.size<=b/\W.heap.size<=g):=λW G' hs=>by
  refine(T6 (hs.below (Cz (AS _ _))) size (by rw[Yg,GI];exact Q) a5).mono ?_;rintro e w' ⟨b,g,he,⟨I,h1,h2,h3,h4⟩,h5⟩;rw[Yg,GI]at h1;exact⟨b,g,he,⟨I,h1,⟨h2.os,h2.tape,h2.output,h2.size,h2.block⟩,h3,h4⟩,h5⟩
 have Yj:Hid (∀W G',Sys W G' p F1 n->Calls AP 34 #[AI p.d] W.drew λe Ej=>e=AH size/\Ej=W.drew):=λW G' hs=>by
  have h1:=(hs.below (Cz (AS _ _))).Hs;rw[Yg]at h1;rw[GI];exact h1
 have pL:Hid (∀J w7 b g I,Sys J I p {F with S:=S1,A:=FG F.A b F.D.size} n->DG G w J->(∀k,I k->G k\/w<=k)->¬I b->¬I g->Row J b 119 [AJ g size size]->Row J g 120 ((BA size 0).map vw)->w<=b->w<=g->
   w7=J.alloc (AK #[k,(Ct F.D.size k:Nat),AI p.w,H,(),a,(Cr (Ct F.D.size k) H:Nat),AI b] 115)->
   vA w G p F n S1 ⟨k,Ct F.D.size k,H,a,Cr (Ct F.D.size k) H,b,g,[]⟩ J.heap.size w7):=by
  intro J w7 b g I k1 O k3 k4 k5 k6 k7 k8 k9 e7;subst e7;have hb:=(AS J J).alloc ao (AK #[k,(Ct F.D.size k:Nat),AI p.w,H,(),a,(Cr (Ct F.D.size k) H:Nat),AI b] 115);refine⟨O.size,k8,k9,I,k1.below hb,⟨BA size 0,⟨heap_alloc_new _ _,by have ab:=k6.below hb k6.lt;rw[GI]at ab;exact ab,k7.below hb k7.lt,by rw[<-GI];simp,?_⟩,nP _ _ _⟩,⟨λhg=>by have:=k1.lt hg;omega,k4,k5⟩,O.trans (DG.DB hb λ_=>False) λ_ hf=>hf.elim,k3⟩;intro y hy;rw[List.mem_replicate]at hy;omega
 have g0:(((Ct F.D.size (k:Int):Nat):Int)==0)=false:=by simpa using RG
 have g1:decide ((H:Int)<0)=false:=a8;have g2:decide ((H:Int)>100000000)=false:=by simp;omega
 have pJ:Hid (∀w7 x b g,vA w G p F n S1 ⟨k,Ct F.D.size k,H,a,Cr (Ct F.D.size k) H,b,g,[]⟩ x w7->Vx w G p F n S1 a k (Ct F.D.size k) H (Cr (Ct F.D.size k) H) (AH (AM #[AI x,()])) w7):=λw7 x b g h1=>⟨x,b,g,rfl,h1⟩;clear Yg GI Pj h RG gn wu IY Q;generalize Vx w G p F n S1 a k (Ct F.D.size k) H (Cr (Ct F.D.size k) H)=Dd at*
 generalize Cr (Ct F.D.size k) H=nb at*
 generalize Ct F.D.size k=hh at*
 go_enter func28,ntmps28
 go_wp2_with fail
 refine HS.out.mono ?_;rintro e w1 ⟨rfl,DV⟩;have DN:=DV.alloc DV.size (AK #[k,hh] 105);have EA:Row (w1.alloc (AK #[k,hh] 105)) w1 105 [k,hh]:=heap_alloc_new _ _;have Ve:=DV.size;clear DV;go_wp2_with fail
 refine(QE.out _).mono ?_;rintro e w3 ⟨rfl,D9⟩;have FK:=EA.below D9 EA.lt;have Sb:=DN.trans (D9.mono DN.size);have Gb:=AO FK;have Ei:=AO Sb;have Tg:=AO Ve;clear DN EA D9 FK Sb Ve;go_wp2_with fail
 refine(Qd.out _ Ei.out).mono ?_;rintro e w4 ⟨rfl,h4,gT⟩;have JU:=gT _ _ _ Gb.out (dR.out _ Tg.out);obtain⟨G',k1,YY,Ll⟩:=h4;have Qs:¬G' w1:=λhg=>(Ll _ hg).elim (dR.out _ Tg.out) λh=>by have:=Gb.out.lt;omega
 have O:DG G w w4:=(DG.DB Ei.out G).trans YY λb hb=>.inl hb;have k3:∀k,G' k->G k\/w<=k:=λk hk=>(Ll k hk).imp id λh=>Af Ei.out.size h;clear YY Ll;have FU:=(AS w4 w4).alloc ao (AK #[a,nb] 100);have I5:=JU.below FU JU.lt;have Ts:Row (w4.alloc (AK #[a,nb] 100)) w4 100 [a,nb]:=heap_alloc_new _ _;have k5:=k1.below FU;have Zx:=O.size;go_wp2
 have al:=AO Ts;have IB:=AO I5;have EV:=AO FU;generalize w4.alloc (AK #[a,nb] 100)=w5 at*
 have Q1:=AO (YQ.out w5 G' k5);have Q2:=AO (Yj.out w5 G' k5);have U:Hid (DG G w w5):=O.trans (DG.DB FU λ_=>False) λ_ hf=>hf.elim;have aa:=AO k3;have c0:w5.drew.cell? ⟨p.w,0,AD⟩=AE (AI (AE ⟨p.d,0,AD⟩)):=k5.row.cell 0;have c1:w5.drew.cell? ⟨p.w,1,AD⟩=AE (AI (AE ⟨p.a,0,AD⟩)):=k5.row.cell 1;have GJ:Hid (∀W I F2,Sys W I p F2 n->W.cell? p.w=AE (AI p.d)/\W.cell? (p.w,1)=AE (AI p.a)):=λW I F2 hs=>⟨hs.row.cell 0,hs.row.cell 1⟩;have qX:Hid (¬G' w4.heap.size):=λhg=>by have:=k1.lt hg;omega
 have ad:=AO Qs;clear k1 O k3 k5 FU I5 Ts JU gT QE Qd HS YQ Yj Gb Ei Qs;go_region_held3 (λw'=>w'.cell? ⟨p.w,0,AD⟩=AE (AI (AE ⟨p.d,0,AD⟩))/\w'.cell? ⟨p.w,1,AD⟩=AE (AI (AE ⟨p.a,0,AD⟩))) (first|with_reducible exact⟨c0,c1⟩|with_reducible exact d1)
  (first
   |(go_at_call 34;(with_reducible refine Q2.out.mono ?_);rintro e w8 ⟨rfl,rfl⟩)
   |(go_at_call 54;(with_reducible refine Q1.out.mono ?_);rintro e J ⟨b,g,rfl,⟨G6,k1,O,k3,k4,k5⟩,k6,k7,k8,k9⟩;have d1:=GJ.out _ _ _ k1))
 have cJ:=O.row al.out qX.out;have Zz:=O.row IB.out ad.out;obtain⟨e0,e1⟩:=cJ.q2;obtain⟨e2,e3⟩:=Zz.q2;have HN:=AO (pL.out J _ b g G6 k1 (U.out.trans O aa.out) (λk hk=>(k3 k hk).elim (λh=>aa.out k h) λh=>.inr (Af U.out.size h)) k4 k5 k6 k7 (Af U.out.size k8) (Af U.out.size k9) rfl);clear k1 O k3 k4 k5 k6 k7 k8 k9 cJ Zz Q1 Q2 pL al IB EV U aa GJ qX ad d1 c0 c1;go_wp2
 exact pJ.out _ _ b g HN.out
def u5(w:World)(G:Nat->Prop)(p:Wp)(F:Fs)(n:Nat)(width bound:Int)(e:Ending)(w':World):Prop:=
 (∃er,e=AH (AM #[AI AD,AA AB er])/\AL6 F width bound er/\DQ w G p F n w')\/
 (∃x t S',e=AH (AM #[AI (AE ⟨x,0,AD⟩),AA AB 0])/\Mh F width bound/\F.D.size<=F.A.room-F.A.used/\(t.k:Int)=width/\(t.bound:Int)=bound/\t.h=Ct F.D.size width/\t.l=[]/\t.blocks=Cr t.h t.bound/\YJ F.S S' t.first t.blocks/\Ep t F.D.size/\vA w G p F n S' t x w')
theorem aM{w G p F n}(h:Sys w G p F n)(width bound:Int):Calls AP 28 #[AI p.w,width,bound] w (u5 w G p F n width bound):=by
 by_cases H:Mh F width bound
 ·obtain⟨RG,gn,z8⟩:=id H;obtain⟨k,U,WJ,jV,Q⟩:=Ko RG;have O:=h.size;have aa:=h.eZ;have IY:Ct F.D.size width<=254:=Af (IN _ _) a5;rcases ZB h.eZ (Cr (Ct F.D.size width) bound.toNat)with⟨S1,a,e,ht,hg,Tb⟩|⟨e,hm,hno⟩
  ·by_cases I:F.D.size<=F.A.room-F.A.used
   ·refine(iC h width bound H S1 a e I).mono ?_;rintro e w' ⟨x,b,g,he,hN⟩;refine .inr ⟨x,⟨width.toNat,Ct F.D.size width,bound.toNat,a,Cr (Ct F.D.size width) bound.toNat,b,g,[]⟩,S1,he,H,I,?_,?_,rfl,rfl,rfl,ht,⟨⟨?_,?_⟩,⟨by show 0<Ct F.D.size width;omega,?_,IY⟩,O,⟨?_,Aq _⟩,⟨rfl,by show Cr (Ct F.D.size width) bound.toNat<=2000000;omega⟩,by show a<=2000000;omega⟩,hN⟩
    ·show ((width.toNat:Nat):Int)=width;omega
    ·show ((bound.toNat:Nat):Int)=bound;omega
    ·show 0<width.toNat;omega
    ·show width.toNat<=5;omega
    ·show Ct F.D.size width*width.toNat<=F.D.size-2;rw[U]at Q⊢;rw[BX];exact Q
    ·show bound.toNat<=100000000;omega
   ·exact(Xw h width bound H S1 a e hg a5 a5).mono λe w' ⟨he,J⟩=>.inl ⟨7,he,.inr (.inl ⟨rfl,H,a5⟩),J⟩
  ·refine(Xx h width bound H e (decide (F.A.room-F.A.used<F.D.size)) rfl).mono ?_;rintro e w' ⟨he,J⟩;by_cases I:F.A.room-F.A.used<F.D.size
   ·rw[decide_eq_true I,if_pos rfl]at he;exact .inl ⟨7,he,.inr (.inl ⟨rfl,H,I⟩),J⟩
   ·rw[decide_eq_false I,if_neg a6]at he;exact .inl ⟨5,he,.inr (.inr ⟨rfl,H,a5,hm,hno⟩),J⟩
 ·exact(aL h width bound H).mono λe w' ⟨he,hb⟩=>.inl ⟨1,he,.inl ⟨rfl,H⟩,DQ.DB h hb⟩
structure Rt where
 k:Nat
 h:Nat
 first:Nat
 blocks:Nat
 count:Nat
 pos:Nat
 b:Nat
 g:Nat
def YX(p:Wp)(r:Rt):List Value:=[r.k,r.h,AI p.w,r.first,r.blocks,r.k,r.count,r.pos,AI r.b]
structure JA (r:Rt) (sz:Nat):Prop where
 k:0<r.k/\r.k<=5
 h:0<r.h/\r.h*r.k<=sz-2/\r.h<=254
 sz:8<=sz/\sz<=256
 count:r.count<=100000000/\r.pos<=r.count
 first:r.first<=2000000
structure Gu (w:World) (x:Nat) (p:Wp) (r:Rt) (sz:Nat) (ws:List Nat):Prop where
 row:Row w x 134 (YX p r)
 buf:Row w r.b 119 [AJ r.g sz sz]
 words:Row w r.g 120 (ws.map vw)
 len:ws.length=sz
 u64:NO ws
structure OD (G:Nat->Prop) (x:Nat) (r:Rt):Prop where
 x:¬G x
 b:¬G r.b
 g:¬G r.g
def Um(w:World)(x:Nat)(p:Wp)(r:Rt):Prop:=Row w x 134 (YX p r)/\Row w r.b 119 [AJ AD 0 0]
section
variable{w w':World}{x:Nat}{p:Wp}{r:Rt}{sz:Nat}{ws:List Nat}
theorem Gu.Ey{R}(h:Gu w x p r sz ws)(hf:DG R w w')(H:¬R x)(e:¬R r.b)(h3:¬R r.g):Gu w' x p r sz ws:=⟨hf.row h.row H,hf.row h.buf e,hf.row h.words h3,h.len,h.u64⟩
theorem Gu.below(h:Gu w x p r sz ws)(hb:Below w w w'):Gu w' x p r sz ws:=h.Ey (DG.DB hb λ_=>False) (λh=>h) (λh=>h) (λh=>h)
theorem Gu.lt(h:Gu w x p r sz ws):x<w/\r.b<w/\r.g<w:=⟨h.row.lt,h.buf.lt,h.words.lt⟩
theorem Gu.apart(h:Gu w x p r sz ws):x≠r.b/\x≠r.g/\r.b≠r.g:=
 ⟨λe=>absurd (h.row.typed (e▸h.buf)) a6,λe=>absurd (h.row.typed (e▸h.words)) a6,λe=>absurd (h.buf.typed (e▸h.words)) a6⟩
end
theorem iD(a b c d:Int)(w:World):Calls AP 46 #[AI AD,AL #[a,b,c,d]] w λe w'=>e=AH (AM #[AI AD,AA AB 1])/\Below w w w':=by
 have H:=(AS w w).alloc ao (AK #[a,b,c,d] 28);have U:Row (w.alloc (AK #[a,b,c,d] 28)) w 28 [a,b,c,d]:=heap_alloc_new _ _;have O:=AO (eg c (w.alloc (AK #[a,b,c,d] 28)));have I:=AO H;clear H;go_enter func46,ntmps46
 go_wp2_with fail
 refine O.out.mono ?_;rintro e w1 ⟨rfl,hb⟩;have J:=AO (I.out.trans (hb.mono I.out.size));have Q:Hid (∀q,Below w w ((w1.alloc (AK #[c,()] 105)).drewN q)):=λq=>Cy (J.out.alloc J.out.size _) q;clear hb I J U;go_wp2
 go_quiet (fail)
 go_wp2
 go_ret2
 exact⟨rfl,Q.out _⟩
section
variable{w:World}{x:Nat}{p:Wp}{r:Rt}
theorem Fj{A m c}(H:Row w x 134 (YX p r))(hb:Row w r.b 119 [AJ A m c]):Calls AP 69 #[AI x] w λe w'=>e=AH (.bool (!decide (0<m)))/\w'=w:=by
 have J:w.cell? (x,8)=AE (AI r.b):=H.cell 8;have I:=AO (Wh hb);clear hb H;go_enter func69,ntmps69
 go_wp2_with fail
 refine I.out.mono ?_;rintro e w1 ⟨rfl,rfl⟩;go_wp2
 go_ret
 exact⟨II a8,rfl⟩
end
def YL(w:World)(G:Nat->Prop)(x:Nat)(p:Wp)(F:Fs)(n:Nat)(r:Rt)(w':World):Prop:=
 ∃G',Sys w' G' p {F with A:=release F.A r.b F.D.size} n/\Um w' x p r/\DG (λk=>G k\/k=r.b) w w'/\∀k,G' k->G k\/w<=k
theorem Rw{w G p F n x r ws}(h:Sys w G p F n)(hm:Gu w x p r F.D.size ws)(ho:OD G x r)(I:wordsAt F.A.st r.b=AE F.D.size):
  Calls AP 47 #[AI x] w λe w'=>(e=AH (AM #[])/\YL w G x p F n r w'):=by
 have Q:=h.size;have U:=Fj hm.row hm.buf;rw[decide_eq_true (show 0<F.D.size by omega)]at U;have HC:=AO U;have Q0:=Cz (AS w w);obtain⟨M4,YZ,WM⟩:=hm.apart;have Yl:Hid (Calls AP 70 #[AI p.a,AI r.b] w.drew λe w'=>e=AH true/\YL w G x p F n r w'):=by
  refine(L7 (h.below Q0) I).mono ?_;rintro e w' ⟨he,J⟩;obtain⟨G',O,H,k3,k4⟩:=J.behind Q0;refine⟨he,G',O,⟨H.row hm.row ?_,k4⟩,H,k3⟩;rintro(h5|h5)
  ·exact ho.x h5
  ·exact M4 h5
 have c2:w.drew.cell? ⟨x,2,AD⟩=AE (AI (AE ⟨p.w,0,AD⟩)):=hm.row.cell 2;have c8:w.drew.cell? ⟨x,8,AD⟩=AE (AI (AE ⟨r.b,0,AD⟩)):=hm.row.cell 8;have cp:w.drew.cell? (p.w,1)=AE (AI p.a):=h.row.cell 1;have TQ:Hid (∀w',YL w G x p F n r w'->w'.cell? (x,2)=AE (AI p.w)/\w'.cell? (x,8)=AE (AI r.b)/\w'.cell? (p.w,1)=AE (AI p.a)):=λw' ⟨G',O,H,_⟩=>⟨H.1.cell 2,H.1.cell 8,O.row.cell 1⟩;generalize YL w G x p F n r=Dd at*
 generalize r.b=b at*
 clear U h hm ho I Q Q0 M4 YZ WM;go_enter func47,ntmps47
 go_wp2_with fail
 refine HC.out.mono ?_;rintro e w1 ⟨rfl,rfl⟩;go_wp2
 go_region_held3 (λw'=>w'.cell? (x,2)=AE (AI p.w)/\w'.cell? (x,8)=AE (AI b)/\w'.cell? (p.w,1)=AE (AI p.a)) (first|with_reducible exact⟨c2,c8,cp⟩|with_reducible exact q2)
  (first
   |(go_at_call 70;(with_reducible refine Yl.out.mono ?_);rintro e w2 ⟨rfl,J⟩;have q2:=TQ.out w2 J))
 have H2:=AO J;clear J q2;go_wp2
 go_end0
 exact⟨rfl,H2.out⟩
theorem Qq{w p x r}(H:Um w x p r):
  Calls AP 47 #[AI x] w λe w'=>(e=AH (AM #[])/\w'=w):=by
 have I:=Fj H.1 H.2;rw[decide_eq_false (Nat.lt_irrefl 0)]at I;have J:=AO I;clear I H;go_enter func47,ntmps47
 go_wp2_with fail
 refine J.out.mono ?_;rintro e w1 ⟨rfl,rfl⟩;go_wp2
 go_end0
 exact⟨rfl,rfl⟩
theorem ZV(u:Bf){w}{G}{p}{F}{n x}{r}{ws}(h:Sys w G p F n)(hm:Gu w x p r F.D.size ws)(ho:OD G x r)(I:wordsAt F.A.st r.b=AE F.D.size):
  CallsD AP 47 #[AI x] u w λe u' w'=>u'=u/\(e=AH (AM #[])/\YL w G x p F n r w'):=by
 have Q:=h.size;have U:=Fj hm.row hm.buf;rw[decide_eq_true (show 0<F.D.size by omega)]at U;have HC:=AO U;have Q0:=Cz (AS w w);obtain⟨M4,YZ,WM⟩:=hm.apart;have Yl:Hid (Calls AP 70 #[AI p.a,AI r.b] w.drew λe w'=>e=AH true/\YL w G x p F n r w'):=by
  refine(L7 (h.below Q0) I).mono ?_;rintro e w' ⟨he,J⟩;obtain⟨G',O,H,k3,k4⟩:=J.behind Q0;refine⟨he,G',O,⟨H.row hm.row ?_,k4⟩,H,k3⟩;rintro(h5|h5)
  ·exact ho.x h5
  ·exact M4 h5
 have c2:w.drew.cell? ⟨x,2,AD⟩=AE (AI (AE ⟨p.w,0,AD⟩)):=hm.row.cell 2;have c8:w.drew.cell? ⟨x,8,AD⟩=AE (AI (AE ⟨r.b,0,AD⟩)):=hm.row.cell 8;have cp:w.drew.cell? (p.w,1)=AE (AI p.a):=h.row.cell 1;have TQ:Hid (∀w',YL w G x p F n r w'->w'.cell? (x,2)=AE (AI p.w)/\w'.cell? (x,8)=AE (AI r.b)/\w'.cell? (p.w,1)=AE (AI p.a)):=λw' ⟨G',O,H,_⟩=>⟨H.1.cell 2,H.1.cell 8,O.row.cell 1⟩;generalize YL w G x p F n r=Dd at*
 generalize r.b=b at*
 clear U h hm ho I Q Q0 M4 YZ WM;go_enter_d func47,ntmps47
 go_wp2_with fail
 refine HC.out.mono ?_;rintro e w1 ⟨rfl,rfl⟩;go_wp2
 go_region_held3 (λw'=>w'.cell? (x,2)=AE (AI p.w)/\w'.cell? (x,8)=AE (AI b)/\w'.cell? (p.w,1)=AE (AI p.a)) (first|with_reducible exact⟨c2,c8,cp⟩|with_reducible exact q2)
  (first
   |(go_at_call 70;(with_reducible refine Yl.out.mono ?_);rintro e w2 ⟨rfl,J⟩;have q2:=TQ.out w2 J))
 have H2:=AO J;clear J q2;go_wp2
 go_end0
 exact⟨rfl,H2.out⟩
theorem Lg(u:Bf){w}{p}{x}{r}(H:Um w x p r):
  CallsD AP 47 #[AI x] u w λe J w'=>J=u/\(e=AH (AM #[])/\w'=w):=by
 have I:=Fj H.1 H.2;rw[decide_eq_false (Nat.lt_irrefl 0)]at I;have O:=AO I;clear I H;go_enter_d func47,ntmps47
 go_wp2_with fail
 refine O.out.mono ?_;rintro e w1 ⟨rfl,rfl⟩;go_wp2
 go_end0
 exact⟨rfl,rfl⟩
theorem Sf{w G p F n}(h:Sys w G p F n)(k hh first nb count:Nat)(LU:hh=Ct F.D.size k)(Gh:0<hh)(hnb:nb=Cr hh count)(I6:count<=100000000)(H:F.A.room-F.A.used<F.D.size):Calls AP 46 #[AI p.w,AL #[first,nb,k,count]] w λe w'=>e=AH (AM #[AI AD,AA AB 7])/\Below w w w':=by
 have ab:=h.size;have IY:hh<=254:=by rw[LU];exact Af (IN _ _) a5
 have I:=(AS w w).alloc ao (AK #[first,nb,k,count] 28);have EU:Row (w.alloc (AK #[first,nb,k,count] 28)) w 28 [first,nb,k,count]:=heap_alloc_new _ _;have SJ:=Ic (h.below I) k;rw[<-LU]at SJ;have HS:=AO SJ;have QE:Hid (∀W,Calls AP 53 #[AL #[k,hh],count] W λe w'=>e=AH nb/\Below W W w'):=λW=>by
  rw[hnb];exact Jp k hh count W Gh IY I6
 have YN:Hid (∀W,Below w w W->Sys W G p F n):=λW hb=>h.below hb;have K9:=AO I;have LK:=AO EU;obtain⟨size,GI⟩:=ae F.D.size;have g0:((hh:Int)==0)=false:=by simp;omega
 have g1:decide ((count:Int)<0)=false:=a8;have aa:Hid (∀W,Sys W G p F n->∀q,Calls AP 54 #[AI p.a,size] (W.drewN q) λe Ej=>e=AH (AM #[AI AD,AA AB 7])/\∃k,Ej=W.drewN k):=λW hs q=>by
  rw[GI];exact Calls.quiet_of_same ((OU (hs.below (Cy (AS _ _) q)) F.D.size H).mono λ_ _ h=>h)
 have Yj:Hid (∀W,Sys W G p F n->∀q,Calls AP 34 #[AI p.d] (W.drewN q) λe Ej=>e=AH size/\∃k,Ej=W.drewN k):=λW hs q=>by
  rw[GI];exact Calls.quiet_of_same ((hs.below (Cy (AS _ _) q)).Hs.mono λ_ _ h=>h)
 clear GI H h SJ I EU LU hnb ab;go_enter func46,ntmps46
 go_wp2_with fail
 refine HS.out.mono ?_;rintro e w1 ⟨rfl,DV⟩;have DN:=DV.alloc DV.size (AK #[k,hh] 105);have Xd:Row (w1.alloc (AK #[k,hh] 105)) w1 105 [k,hh]:=heap_alloc_new _ _;have Lw:=LK.out.below DN LK.out.lt;have E1:=AO (K9.out.trans (DN.mono K9.out.size));have Tg:Hid (w.heap.size<=w1.heap.size):=Af K9.out.size DV.size;clear DV DN K9 LK HS;have Q:=AO Xd;have Hv:=AO Lw;clear Xd Lw;have k0:∀d os,(Ai (redrawn (w1.alloc (AK #[k,hh] 105)) d) os).cell? w1=AE (AA AB k):=Ab (Q.out.cell 0);have k1:∀d os,(Ai (redrawn (w1.alloc (AK #[k,hh] 105)) d) os).cell? (w1,1)=AE (AA AB hh):=Ab (Q.out.cell 1);have k2:∀d os,(Ai (redrawn (w1.alloc (AK #[k,hh] 105)) d) os).cell? (w,1)=AE (AA AB nb):=Ab (Hv.out.cell 1);have k3:∀d os,(Ai (redrawn (w1.alloc (AK #[k,hh] 105)) d) os).cell? (w,3)=AE (AA AB count):=Ab (Hv.out.cell 3);have U:Hid (∀d os,Calls AP 53 #[AL #[k,hh],count] (Ai (redrawn (w1.alloc (AK #[k,hh] 105)) d) os) λe Ej=>e=AH nb/\∃p:Cq,Ej=Ai (redrawn (w1.alloc (AK #[k,hh] 105)) p.d) p.os):=λd os=>BU (QE.out _);go_wp2
 refine Bb a7 a7 ?_
 repeat(any_goals(first|go_big_quiet_step (with_reducible exact U.out _ _)|quiet_step (with_reducible exact U.out _ _)))
 refine CV ?_;intro J Hy;obtain⟨⟨dq,osq⟩,Hy⟩:=Hy;have Eh:=Bj (w1.alloc (AK #[k,hh] 105)) dq osq;rw[<-Hy]at Eh;clear Hy;have EV:=AO (E1.out.trans (Eh.mono E1.out.size));have al:=AO (Q.out.below Eh Q.out.lt);have ad:=AO (Hv.out.below Eh Hv.out.lt);have O:=YN.out J EV.out;clear Eh U k0 k1 k2 k3 Q Hv E1 QE;have U:=AO (aa.out J O);have Q2:=AO (Yj.out J O);have c0:J.cell? ⟨p.w,0,AD⟩=AE (AI (AE ⟨p.d,0,AD⟩)):=O.row.cell 0;have c1:J.cell? ⟨p.w,1,AD⟩=AE (AI (AE ⟨p.a,0,AD⟩)):=O.row.cell 1;clear O aa Yj YN;go_wp2
 go_quiet ((with_reducible first|exact U.out _|exact Q2.out _))
 go_wp2
 go_ret2
 exact⟨rfl,Cy EV.out _⟩
def AB3(w:World)(G:Nat->Prop)(p:Wp)(F:Fs)(n:Nat)(r:Rt)(x:Nat)(w':World):Prop:=
 w<=x/\w<=r.b/\w<=r.g/\∃G',Sys w' G' p {F with A:=FG F.A r.b F.D.size} n/\(∃ws,Gu w' x p r F.D.size ws)/\OD G' x r/\DG G w w'/\∀k,G' k->G k\/w<=k
def ay(w:World)(G:Nat->Prop)(p:Wp)(F:Fs)(n:Nat)(k h first nb count:Nat)(e:Ending)(w':World):Prop:=
 ∃x b g,e=AH (AM #[AI (AE ⟨x,0,AD⟩),()])/\AB3 w G p F n ⟨k,h,first,nb,count,0,b,g⟩ x w'
theorem n9{w G p F n}(h:Sys w G p F n)(k hh first nb count:Nat)(LU:hh=Ct F.D.size k)(Gh:0<hh)(hnb:nb=Cr hh count)(I6:count<=100000000)(J:F.D.size<=F.A.room-F.A.used):Calls AP 46 #[AI p.w,AL #[first,nb,k,count]] w (ay w G p F n k hh first nb count):=by
 have ar:=h.size;have IY:hh<=254:=by rw[LU];exact Af (IN _ _) a5
 have aa:=(AS w w).alloc ao (AK #[first,nb,k,count] 28);have EU:Row (w.alloc (AK #[first,nb,k,count] 28)) w 28 [first,nb,k,count]:=heap_alloc_new _ _;have SJ:=Ic (h.below aa) k;rw[<-LU]at SJ;have HS:=AO SJ;have QE:Hid (∀W,Calls AP 53 #[AL #[k,hh],count] W λe w'=>e=AH nb/\Below W W w'):=λW=>by
  rw[hnb];exact Jp k hh count W Gh IY I6
 have YN:Hid (∀W,Below w w W->Sys W G p F n):=λW hb=>h.below hb;have K9:=AO aa;have LK:=AO EU;obtain⟨size,GI⟩:=ae F.D.size;have g0:((hh:Int)==0)=false:=by simp;omega
 have g1:decide ((count:Int)<0)=false:=a8;have YQ:Hid (∀W,Sys W G p F n->Calls AP 54 #[AI (AE ⟨p.a,0,AD⟩),AA AB size] W.drew λe w'=>∃b g,e=AH (AM #[AI (AE ⟨b,0,AD⟩),AA AB 0])/\
   (∃H,Sys w' H p {F with A:=FG F.A b F.D.size} n/\DG G W w'/\(∀k,H k->G k\/W.heap.size<=k)/\¬H b/\¬H g)/\Row w' b 119 [AJ (AE ⟨g,0,AD⟩) size size]/\Row w' g 120 ((BA size 0).map vw)/\W.heap.size<=b/\W.heap.size<=g):=λW hs=>by
  refine(T6 (hs.below (Cz (AS _ _))) size (by rw[GI];exact J) a5).mono ?_;rintro e w' ⟨b,g,he,⟨H,h1,h2,h3,h4⟩,h5⟩;rw[GI]at h1;exact⟨b,g,he,⟨H,h1,⟨h2.os,h2.tape,h2.output,h2.size,h2.block⟩,h3,h4⟩,h5⟩
 have Yj:Hid (∀W,Sys W G p F n->Calls AP 34 #[AI p.d] W.drew λe Ej=>e=AH size/\Ej=W.drew):=λW hs=>by
  rw[GI];exact(hs.below (Cz (AS _ _))).Hs
 have dR:Hid (∀k,w.heap.size<=k->¬G k):=λk hk hg=>by have:=h.lt hg;omega
 have pL:Hid (∀I w7 b g H,Sys I H p {F with A:=FG F.A b F.D.size} n->DG G w I->(∀k,H k->G k\/w<=k)->¬H b->¬H g->Row I b 119 [AJ g size size]->Row I g 120 ((BA size 0).map vw)->w<=b->w<=g->
   w7=I.alloc (AK #[k,hh,AI p.w,first,nb,k,count,(),AI b] 134)->
   AB3 w G p F n ⟨k,hh,first,nb,count,0,b,g⟩ I.heap.size w7):=by
  intro I w7 b g H U Q k3 k4 O k6 k7 k8 k9 e7;subst e7;have hb:=(AS I I).alloc ao (AK #[k,hh,AI p.w,first,nb,k,count,(),AI b] 134);have ab:=k6.below hb k6.lt;rw[GI]at ab;refine⟨Q.size,k8,k9,H,U.below hb,⟨BA size 0,⟨heap_alloc_new _ _,ab,k7.below hb k7.lt,by rw[<-GI];simp,?_⟩⟩,⟨λhg=>by have:=U.lt hg;omega,k4,O⟩,Q.trans (DG.DB hb λ_=>False) λ_ hf=>hf.elim,k3⟩;intro y hy;rw[List.mem_replicate]at hy;omega
 have pJ:Hid (∀w7 x b g,AB3 w G p F n ⟨k,hh,first,nb,count,0,b,g⟩ x w7->ay w G p F n k hh first nb count (AH (AM #[AI x,()])) w7):=λw7 x b g h1=>⟨x,b,g,rfl,h1⟩;have GJ:Hid (∀W H F2,Sys W H p F2 n->W.cell? p.w=AE (AI p.d)/\W.cell? (p.w,1)=AE (AI p.a)):=λW H F2 hs=>⟨hs.row.cell 0,hs.row.cell 1⟩;clear GI J h SJ aa EU LU hnb ar;generalize ay w G p F n k hh first nb count=Dd at*
 go_enter func46,ntmps46
 go_wp2_with fail
 refine HS.out.mono ?_;rintro e w1 ⟨rfl,DV⟩;have DN:=DV.alloc DV.size (AK #[k,hh] 105);have Xd:Row (w1.alloc (AK #[k,hh] 105)) w1 105 [k,hh]:=heap_alloc_new _ _;have Lw:=LK.out.below DN LK.out.lt;have E1:=AO (K9.out.trans (DN.mono K9.out.size));have Tg:Hid (w.heap.size<=w1.heap.size):=Af K9.out.size DV.size;clear DV DN K9 LK HS;have QB:=AO Xd;have Hv:=AO Lw;clear Xd Lw;have k0:∀d os,(Ai (redrawn (w1.alloc (AK #[k,hh] 105)) d) os).cell? w1=AE (AA AB k):=Ab (QB.out.cell 0);have U:∀d os,(Ai (redrawn (w1.alloc (AK #[k,hh] 105)) d) os).cell? (w1,1)=AE (AA AB hh):=Ab (QB.out.cell 1);have Q:∀d os,(Ai (redrawn (w1.alloc (AK #[k,hh] 105)) d) os).cell? (w,1)=AE (AA AB nb):=Ab (Hv.out.cell 1);have k3:∀d os,(Ai (redrawn (w1.alloc (AK #[k,hh] 105)) d) os).cell? (w,3)=AE (AA AB count):=Ab (Hv.out.cell 3);have Q1:Hid (∀d os,Calls AP 53 #[AL #[k,hh],count] (Ai (redrawn (w1.alloc (AK #[k,hh] 105)) d) os) λe Ej=>e=AH nb/\∃p:Cq,Ej=Ai (redrawn (w1.alloc (AK #[k,hh] 105)) p.d) p.os):=λd os=>BU (QE.out _);go_wp2
 refine Bb a7 a7 ?_
 repeat(any_goals(first|go_big_quiet_step (with_reducible exact Q1.out _ _)|quiet_step (with_reducible exact Q1.out _ _)))
 refine CV ?_;intro w5 Hy;obtain⟨⟨dq,osq⟩,Hy⟩:=Hy;have Eh:=Bj (w1.alloc (AK #[k,hh] 105)) dq osq;rw[<-Hy]at Eh;clear Hy;have EV:=AO (E1.out.trans (Eh.mono E1.out.size));have al:=AO (QB.out.below Eh QB.out.lt);have ad:=AO (Hv.out.below Eh Hv.out.lt);have O:=YN.out w5 EV.out;clear Eh Q1 k0 U Q k3 QB Hv E1 QE;have Q1:=AO (YQ.out w5 O);have Q2:=AO (Yj.out w5 O);have c0:w5.drew.cell? ⟨p.w,0,AD⟩=AE (AI (AE ⟨p.d,0,AD⟩)):=O.row.cell 0;have c1:w5.drew.cell? ⟨p.w,1,AD⟩=AE (AI (AE ⟨p.a,0,AD⟩)):=O.row.cell 1;clear O YQ Yj YN;go_wp2
 go_region_held3 (λw'=>w'.cell? ⟨p.w,0,AD⟩=AE (AI (AE ⟨p.d,0,AD⟩))/\w'.cell? ⟨p.w,1,AD⟩=AE (AI (AE ⟨p.a,0,AD⟩))) (first|with_reducible exact⟨c0,c1⟩|with_reducible exact d1)
  (first
   |(go_at_call 34;(with_reducible refine Q2.out.mono ?_);rintro e w8 ⟨rfl,rfl⟩)
   |(go_at_call 54;(with_reducible refine Q1.out.mono ?_);rintro e I ⟨b,g,rfl,⟨G6,U,Q,k3,k4,O⟩,k6,k7,k8,k9⟩;have d1:=GJ.out _ _ _ U))
 have cJ:=Q.row ad.out (dR.out _ ao);have Zz:=Q.row al.out (dR.out _ Tg.out);obtain⟨e0,e1,e2,e3⟩:=cJ.q4;obtain⟨e4,e5⟩:=Zz.q2;have HN:=AO (pL.out I _ b g G6 U ((DG.DB EV.out G).trans Q λb hb=>.inl hb) (λk hk=>(k3 k hk).imp_right λh=>Af EV.out.size h) k4 O k6 k7 (Af EV.out.size k8) (Af EV.out.size k9) rfl);clear U Q k3 k4 O k6 k7 k8 k9 cJ Zz Q1 Q2 pL EV ad al GJ d1 c0 c1 dR;go_wp2
 exact pJ.out _ _ b g HN.out
theorem R7{s n}(h:Fits s n)(x:Int):(s.now x).length=s.size:=by
 unfold St.now blk
 split
 ·next l hl=>exact VV (λl=>l.length=s.size) s.Dk s.fl h.fl (λe he=>(h.Dk e he).2) x l hl
 ·simp
theorem rQ{b}(h:∀x∈b,x<18446744073709551616):PV b<18446744073709551616:=by
 unfold PV;rw[AT];rcases hx:b[b.length-2]?with _|x
 ·simp
 ·exact h x (Ak hx)
theorem Wl{α}(ws l:List α)(h:l.length<=ws.length):(splice ws 0 l).length=ws.length:=by unfold splice;simp;omega
theorem yZ{w g t a b c d e}(h:Row w g t [a,b,c,d,e])(Q O J I H:Value):Row (((((w.setCell g Q).setCell (g,1) O).setCell (g,2) J).setCell (g,3) I).setCell (g,4) H) g t [Q,O,J,I,H]:=
 ((((h.set 0 Q).set 1 O).set 2 J).set 3 I).set 4 H
theorem oH(w:World)(g:Nat)(O J I H e:Value):DG (λk=>k=g) w (((((w.setCell g O).setCell (g,1) J).setCell (g,2) I).setCell (g,3) H).setCell (g,4) e):=
 (((((DG.refl (λk=>k=g) w).set (p:=⟨g,0,AD⟩) (.inl rfl) O).set (p:=⟨g,1,AD⟩) (.inl rfl) J).set (p:=⟨g,2,AD⟩) (.inl rfl) I).set (p:=⟨g,3,AD⟩) (.inl rfl) H).set (p:=⟨g,4,AD⟩) (.inl rfl) e
theorem Wk{α β}(f:α->β)(ws l:List α)(off:Nat):splice (ws.map f) off (l.map f)=(splice ws off l).map f:=by unfold splice;simp[List.map_take,List.map_drop]
theorem Wj{ws l}(h:NO ws)(H:∀y∈l,y<18446744073709551616):NO (splice ws 0 l):=by
 intro y e;unfold splice at e;rcases Ag.1 e with e|e
 ·exact h y (Bo e)
 ·rcases Ag.1 e with e|e
  ·exact H y e
  ·exact h y (List.mem_of_mem_drop e)
theorem We{w G p F n}(h:Sys w G p F n)(hn:n<1000000)(i:Int)(hi:Fg i):
  Calls AP 96 #[AI p.d,i] w λe w'=>∃v,e=AH (AM #[v,AA AB (read F.D i).1])/\((read F.D i).1≠0->v=AJ AD 0 0)/\
   ((read F.D i).1=0->∃A c,v=AJ A F.D.size c/\F.D.size<=c/\Reads .u64 w' w' A F.D.size (F.D.now i))/\DQ w G p {F with D:=(read F.D i).2} (n+1) w':=by
 obtain⟨Gd,hd,Gn⟩:=h.dev;have I:=R7 hd.fits i;refine(lK p.d F.D n Gd i w hd hn hi).mono ?_;rintro e w' ⟨v,he,h1,h2,h3,h4⟩;refine⟨v,he,h1,λh0=>?_,Gn _ _ _ ⟨Gd,h3,h4.mono λk J=>by rw[J];exact hd.Of,λk J=>.inl J⟩⟩;have U:=h2 h0;obtain⟨A,c,O,_,Q⟩:=U.reads;obtain⟨g',c',cs,H,_,_,e4,_⟩:=id U;rw[I]at O Q e4 H;rw[O]at H;injection H with H _ e5
 exact⟨A,c,O,a5,Q⟩
def WD(w:World)(G:Nat->Prop)(p:Wp)(F:Fs)(n x:Nat)(r:Rt)(ws:List Nat)(w':World):Prop:=
 ∃G',Sys w' G' p F n/\Gu w' x p r F.D.size ws/\DG (λk=>G k\/k=r.g) w w'/\∀k,G' k->G k\/w<=k
theorem DQ.blk{w w' G p}{F F':Fs}{n' x r ws}(h:DQ w G p F' n' w')(I:F'.D.size=F.D.size)(hm:Gu w x p r F.D.size ws)(e:OD G x r):WD w G p F' n' x r ws w':=by
 obtain⟨G',O,H,h3⟩:=h;refine⟨G',O,?_,H.mono λk J=>.inl J,h3⟩;rw[I];exact hm.Ey H e.x e.b e.g
theorem DQ.dF{w w1 w' G p}{F F':Fs}{n' x r ws E7}(h:DQ w G p F' n' w1)(hs:F'.D.size=F.D.size)(hm:Gu w x p r F.D.size ws)(H:OD G x r)
  (hf:DG (λk=>k=r.g) w1 w')(hr:Row w' r.g 120 (E7.map vw))(hl:E7.length=F.D.size)(hu:NO E7):WD w G p F' n' x r E7 w':=by
 obtain⟨hx,hb,hg⟩:=hm.lt;obtain⟨a1,a2,a3⟩:=hm.apart;obtain⟨G',U,Q,h3,h4⟩:=h.apart;have O:=hm.Ey Q H.x H.b H.g;have I:¬G' r.g:=h4 _ hg H.g;refine⟨G',U.Ey hf (λk J e=>I (e▸J)) λq hq e=>?_,?_,(Q.mono λk J=>.inl J).trans hf (λb hb=>.inl (.inr hb)),h3⟩
 ·have:=(U.buf hq).1;obtain⟨v,hv⟩:=this;exact absurd ((e▸hv:Row w1 r.g 119 _).typed O.words) a6
 ·rw[hs];exact⟨hf.row O.row a2,hf.row O.buf a3,hr,hl,hu⟩
theorem lP{w G p F n x r ws}(h:Sys w G p F n)(hn:n<1000000)(J:JA r F.D.size)(hm:Gu w x p r F.D.size ws)(I:OD G x r)(De:r.pos<r.count)
  (he:(read F.D ((r.first+r.pos/r.h:Nat):Int)).1≠0):
  Calls AP 71 #[AI x] w λe w'=>e=AH (AA AB (read F.D ((r.first+r.pos/r.h:Nat):Int)).1)/\WD w G p {F with D:=(read F.D ((r.first+r.pos/r.h:Nat):Int)).2} (n+1) x r ws w':=by
 obtain⟨hx,Jt,GZ⟩:=hm.lt;have aa:=J.sz;have hk:=J.k;have hh:=J.h;have Q:=J.count;have Pq:=J.first;have ab:=R7 h.fits ((r.first+r.pos/r.h:Nat):Int);have ao:=Af (Ae r.k (Nat.min_le_left r.h (r.count-r.pos/r.h*r.h))) hh.2.1;have gG:(read F.D ((r.first+r.pos/r.h:Nat):Int)).2.size=F.D.size:=(Jg F.D ((r.first+r.pos/r.h:Nat):Int) 0).2.1;have xz:Hid (∀W,DQ w G p {F with D:=(read F.D ((r.first+r.pos/r.h:Nat):Int)).2} (n+1) W->WD w G p {F with D:=(read F.D ((r.first+r.pos/r.h:Nat):Int)).2} (n+1) x r ws W):=λW H=>H.blk gG hm I;have Ur:Hid (∀W1 W E7,DQ w G p {F with D:=(read F.D ((r.first+r.pos/r.h:Nat):Int)).2} (n+1) W1->DG (λk=>k=r.g) W1 W->Row W r.g 120 (E7.map vw)->E7.length=F.D.size->NO E7->WD w G p {F with D:=(read F.D ((r.first+r.pos/r.h:Nat):Int)).2} (n+1) x r E7 W):=λW1 W E7 H U h3 h4 h5=>H.dF gG hm I U h3 h4 h5;have ae:r.pos/r.h<=r.pos:=BW _ _;have qH:r.pos/r.h*r.h<=r.count:=Af (CU _ _) a5;have HW:Hid (∀W,Calls AP 77 #[AL #[r.k,r.h],(r.pos/r.h:Nat),r.count] W λe w'=>e=AH (min r.h (r.count-r.pos/r.h*r.h)*r.k:Nat)/\Below W W w'):=λW=>RQ r.k r.h (r.pos/r.h) r.count W hk.2 hh.2.2 Q.1 qH;have zi:Fg ((r.first+r.pos/r.h:Nat):Int):=by
  have hb:r.first+r.pos/r.h<=200000000:=a5;generalize r.first+r.pos/r.h=z at hb;exact Fg.of a5 a5
 have hq:Int.tdiv (r.pos:Int) (r.h:Int)=((r.pos/r.h:Nat):Int):=rfl;have z7:r.first+r.pos/r.h<=200000000:=by clear hq;omega
 have al:(r.first:Int)+((r.pos/r.h:Nat):Int)=((r.first+r.pos/r.h:Nat):Int):=by clear hq;omega
 have LJ:Hid (∀W,Below w w W->Calls AP 96 #[AI p.d,(r.first+r.pos/r.h:Nat)] W λe w'=>∃v,e=AH (AM #[v,AA AB (read F.D ((r.first+r.pos/r.h:Nat):Int)).1])/\((read F.D ((r.first+r.pos/r.h:Nat):Int)).1≠0->v=AJ AD 0 0)/\
   ((read F.D ((r.first+r.pos/r.h:Nat):Int)).1=0->∃A c,v=AJ A F.D.size c/\F.D.size<=c/\Reads .u64 w' w'.heap.size A F.D.size (F.D.now ((r.first+r.pos/r.h:Nat):Int)))/\DQ w G p {F with D:=(read F.D ((r.first+r.pos/r.h:Nat):Int)).2} (n+1) w'):=λW hb=>
  (We (h.below hb) hn _ zi).mono λe w' ⟨v,H,U,h3,h4⟩=>⟨v,H,U,h3,h4.behind hb⟩
 have vO:Hid (∀W,DQ w G p {F with D:=(read F.D ((r.first+r.pos/r.h:Nat):Int)).2} (n+1) W->Row W x 134 (YX p r)/\Row W r.b 119 [AJ r.g F.D.size F.D.size]/\Row W r.g 120 (ws.map vw)):=λW H=>⟨H.row hm.row I.x,H.row hm.buf I.b,H.row hm.words I.g⟩;have vE:Hid (ws.length=F.D.size/\NO ws):=⟨hm.len,hm.u64⟩;have O:=hm.row.below (Cz (AS _ _)) hx;have r1:=(h.below (Cz (AS _ _))).row;have c3:w.cell? (x,7)=AE (AA AB r.pos):=hm.row.cell 7;have c1:w.cell? (x,1)=AE (AA AB r.h):=hm.row.cell 1;have d2:w.drew.cell? (x,3)=AE (AA AB r.first):=O.cell 3;have d5:w.drew.cell? (x,2)=AE (AI p.w):=O.cell 2;have d6:w.drew.cell? p.w=AE (AI p.d):=r1.cell 0;have Gh:¬((r.h:Int)=0):=a5;have OM:Hid (Below w w w.drew):=Cz (AS _ _);clear O r1 hm I J h gG hx Jt GZ;generalize({F with D:=(read F.D ((r.first+r.pos/r.h:Nat):Int)).2}:Fs)=F1 at*
 generalize(read F.D ((r.first+r.pos/r.h:Nat):Int)).1=er at*
 generalize min r.h (r.count-r.pos/r.h*r.h)*r.k=m at*
 obtain⟨k,G8,first,blocks,count,pos,b,g⟩:=r;unfold YX at*
 simp only at*
 generalize pos/G8=j at*
 generalize first+j=ad at*
 generalize F.D.now (ad:Int)=bl at*
 generalize F.D.size=size at*
 generalize WD w G p F1 (n+1) x ⟨k,G8,first,blocks,count,pos,b,g⟩=Dd at*
 have g9:(er !=0)=true:=by simpa using he
 clear Ur vO vE HW;go_enter func71,ntmps71
 go_wp2
 go_region
 go_wp2_with fail
 refine(LJ.out _ OM.out).mono ?_;rintro e w4 ⟨v,rfl,hv,_,h4⟩;have H4:=AO (xz.out w4 h4);clear h4 xz LJ hv;go_wp2
 go_ret
 exact⟨rfl,H4.out⟩
theorem fG{w G p F n x r ws}(h:Sys w G p F n)(hn:n<1000000)(DK:JA r F.D.size)(hm:Gu w x p r F.D.size ws)(Q:OD G x r)(De:r.pos<r.count)
  (he:(read F.D ((r.first+r.pos/r.h:Nat):Int)).1=0)(WJ:okW (F.D.now ((r.first+r.pos/r.h:Nat):Int)) (r.first+r.pos/r.h)=true)(ar:PV (F.D.now ((r.first+r.pos/r.h:Nat):Int))=r.k)(aw:GB (F.D.now ((r.first+r.pos/r.h:Nat):Int))-1=min r.h (r.count-r.pos/r.h*r.h)*r.k):
  Calls AP 71 #[AI x] w λe w'=>e=AH ()/\WD w G p {F with D:=(read F.D ((r.first+r.pos/r.h:Nat):Int)).2} (n+1) x r (splice ws 0 ((F.D.now ((r.first+r.pos/r.h:Nat):Int)).take (min r.h (r.count-r.pos/r.h*r.h)*r.k))) w':=by
 obtain⟨hx,Jt,GZ⟩:=hm.lt;have aa:=DK.sz;have hk:=DK.k;have hh:=DK.h;have aB:=DK.count;have Pq:=DK.first;have aE:=R7 h.fits ((r.first+r.pos/r.h:Nat):Int);have aJ:=Af (Ae r.k (Nat.min_le_left r.h (r.count-r.pos/r.h*r.h))) hh.2.1;have gG:(read F.D ((r.first+r.pos/r.h:Nat):Int)).2.size=F.D.size:=(Jg F.D ((r.first+r.pos/r.h:Nat):Int) 0).2.1;have xz:Hid (∀W,DQ w G p {F with D:=(read F.D ((r.first+r.pos/r.h:Nat):Int)).2} (n+1) W->WD w G p {F with D:=(read F.D ((r.first+r.pos/r.h:Nat):Int)).2} (n+1) x r ws W):=λW H=>H.blk gG hm Q;have Ur:Hid (∀W1 W E7,DQ w G p {F with D:=(read F.D ((r.first+r.pos/r.h:Nat):Int)).2} (n+1) W1->DG (λk=>k=r.g) W1 W->Row W r.g 120 (E7.map vw)->E7.length=F.D.size->NO E7->WD w G p {F with D:=(read F.D ((r.first+r.pos/r.h:Nat):Int)).2} (n+1) x r E7 W):=λW1 W E7 H h2 h3 h4 h5=>H.dF gG hm Q h2 h3 h4 h5;have aG:r.pos/r.h<=r.pos:=BW _ _;have qH:r.pos/r.h*r.h<=r.count:=Af (CU _ _) a5;have HW:Hid (∀W,Calls AP 77 #[AL #[r.k,r.h],(r.pos/r.h:Nat),r.count] W λe w'=>e=AH (min r.h (r.count-r.pos/r.h*r.h)*r.k:Nat)/\Below W W w'):=λW=>RQ r.k r.h (r.pos/r.h) r.count W hk.2 hh.2.2 aB.1 qH;have zi:Fg ((r.first+r.pos/r.h:Nat):Int):=by
  have hb:r.first+r.pos/r.h<=200000000:=a5;generalize r.first+r.pos/r.h=z at hb;exact Fg.of a5 a5
 have hq:Int.tdiv (r.pos:Int) (r.h:Int)=((r.pos/r.h:Nat):Int):=rfl;have z7:r.first+r.pos/r.h<=200000000:=by clear hq;omega
 have aH:(r.first:Int)+((r.pos/r.h:Nat):Int)=((r.first+r.pos/r.h:Nat):Int):=by clear hq;omega
 have LJ:Hid (∀W,Below w w W->Calls AP 96 #[AI p.d,(r.first+r.pos/r.h:Nat)] W λe w'=>∃v,e=AH (AM #[v,AA AB (read F.D ((r.first+r.pos/r.h:Nat):Int)).1])/\((read F.D ((r.first+r.pos/r.h:Nat):Int)).1≠0->v=AJ AD 0 0)/\
   ((read F.D ((r.first+r.pos/r.h:Nat):Int)).1=0->∃A c,v=AJ A F.D.size c/\F.D.size<=c/\Reads .u64 w' w'.heap.size A F.D.size (F.D.now ((r.first+r.pos/r.h:Nat):Int)))/\DQ w G p {F with D:=(read F.D ((r.first+r.pos/r.h:Nat):Int)).2} (n+1) w'):=λW hb=>
  (We (h.below hb) hn _ zi).mono λe w' ⟨v,H,h2,h3,h4⟩=>⟨v,H,h2,h3,h4.behind hb⟩
 have vO:Hid (∀W,DQ w G p {F with D:=(read F.D ((r.first+r.pos/r.h:Nat):Int)).2} (n+1) W->Row W x 134 (YX p r)/\Row W r.b 119 [AJ r.g F.D.size F.D.size]/\Row W r.g 120 (ws.map vw)):=λW H=>⟨H.row hm.row Q.x,H.row hm.buf Q.b,H.row hm.words Q.g⟩;have vE:Hid (ws.length=F.D.size/\NO ws):=⟨hm.len,hm.u64⟩;have r0:=hm.row.below (Cz (AS _ _)) hx;have r1:=(h.below (Cz (AS _ _))).row;have c3:w.cell? (x,7)=AE (AA AB r.pos):=hm.row.cell 7;have c1:w.cell? (x,1)=AE (AA AB r.h):=hm.row.cell 1;have d2:w.drew.cell? (x,3)=AE (AA AB r.first):=r0.cell 3;have d5:w.drew.cell? (x,2)=AE (AI p.w):=r0.cell 2;have d6:w.drew.cell? p.w=AE (AI p.d):=r1.cell 0;have Gh:¬((r.h:Int)=0):=a5;have OM:Hid (Below w w w.drew):=Cz (AS _ _);clear r0 r1 hm Q DK h gG hx Jt GZ;generalize({F with D:=(read F.D ((r.first+r.pos/r.h:Nat):Int)).2}:Fs)=F1 at*
 generalize(read F.D ((r.first+r.pos/r.h:Nat):Int)).1=er at*
 generalize min r.h (r.count-r.pos/r.h*r.h)*r.k=m at*
 obtain⟨k,G8,first,blocks,count,pos,b,g⟩:=r;unfold YX at*
 simp only at*
 generalize pos/G8=j at*
 generalize first+j=ad at*
 generalize F.D.now (ad:Int)=bl at*
 generalize F.D.size=size at*
 generalize WD w G p F1 (n+1) x ⟨k,G8,first,blocks,count,pos,b,g⟩=Dd at*
 subst he;have aD:IntKind.u64.wrap (k:Int)=(k:Int):=IntWalk.u64_in _ ⟨a5,a5⟩;go_enter func71,ntmps71
 go_wp2
 go_region
 go_wp2_with fail
 refine(LJ.out _ OM.out).mono ?_;rintro e w4 ⟨v,rfl,_,hv,h4⟩;obtain⟨A,c,rfl,av,m6⟩:=hv (by trivial);have I:∀y∈bl,y<18446744073709551616:=λy hy=>RX (m6.2.1 y hy);have ab:=AO I;have V4:Hid (PV bl<18446744073709551616):=rQ I;have HG:=AO (uN A size c ad bl w4 m6 ao av aa.1 aa.2 a5);have H4:=AO h4;obtain⟨n0,n1,n2⟩:=vO.out w4 h4;have N0:=AO n0;have N1:=AO n1;have N2:=AO n2;have aC:Hid (∀W,Below w4 w4 W->Dd ws W):=λW hb=>xz.out W (h4.ahead hb);clear h4 xz LJ hv m6 n0 n1 n2 vO I;generalize PV bl=tg at*
 go_wp2_with fail
 refine HG.out.mono ?_;rintro e O (⟨Z6,_⟩|⟨_,v5,rfl,D7,hb⟩)
 ·exact absurd (Z6.symm.trans WJ) a6
 have aI:=V4.out;have EV:=AO hb;have U:=AO (N0.out.below hb N0.out.lt);have M1:=AO (N1.out.below hb N1.out.lt);have M2:=AO (N2.out.below hb N2.out.lt);clear hb N0 N1 N2 HG;have k0:∀d os,(Ai (redrawn O d) os).cell? x=AE (AA AB k):=Ab (U.out.cell 0);have k1:∀d os,(Ai (redrawn O d) os).cell? (x,1)=AE (AA AB G8):=Ab (U.out.cell 1);have k6:∀d os,(Ai (redrawn O d) os).cell? (x,6)=AE (AA AB count):=Ab (U.out.cell 6);have Q1:Hid (∀d os,Calls AP 77 #[AL #[k,G8],j,count] (Ai (redrawn O d) os) λe Ej=>e=AH m/\∃p:Cq,Ej=Ai (redrawn O p.d) p.os):=λd os=>BU (HW.out _);obtain rfl:tg=k:=ar;have aF:((tg:Int) !=(tg:Int))=false:=a8;rw[aw]at D7;have Qd:Hid ((bl.take m).length=m):=by
  unfold Hid;rw[Ac];omega
 obtain⟨A5,c5,rfl,al,aA⟩:=fL (k:=.u64) (l:=bl.take m) D7 (λx hx=>PU (ab.out x (Bo hx)));have g9:((m:Int) !=(m:Int))=false:=a8;have ae:=AO al;clear D7 aA al;go_wp2
 refine Bb a7 a7 ?_
 repeat(any_goals(first|go_big_quiet_step (with_reducible exact Q1.out _ _)|quiet_step (with_reducible exact Q1.out _ _)))
 refine CV ?_;intro w6 gE;obtain⟨⟨dq,osq⟩,gE⟩:=gE;have J:=Bj O dq osq;rw[<-gE]at J;clear gE Q1 k0 k1 k6;have IB:=AO ((ae.out.GS J));have O0:=AO (U.out.below J U.out.lt);have O1:=AO (M1.out.below J M1.out.lt);have O2:=AO (M2.out.below J M2.out.lt);have H6:=AO (H4.out.ahead (EV.out.trans (J.mono EV.out.size)));clear aC J EV U M1 M2 HW H4 ae;have e8:w6.cell? (x,8)=AE (AI b):=O0.out.cell 8;have e0:w6.cell? b=AE (AJ g size size):=O1.out.cell 0;go_wp2_with (with_reducible refine EO 83 ?_)
 unfold Hid;refine Eb rfl _ _ 116 116 rfl 120 Bc vq a6 g A5 size size m c5 rfl rfl g 0 _ 120 O2.out ((bl.take m).map vw) (by rw[Aj,Qd.out,Nat.mul_one];exact(Bh a5).symm) (λh0=>⟨rfl,IB.out.source (by have:=Qd.out;rw[Aj]at h0;omega)⟩) (by rw[Aj,Aj,Qd.out,vE.out.1];omega) (λv hv=>by obtain⟨x,_,rfl⟩:=Az.1 hv;rfl) ?_;intro w7 tW Yd;have vL:Hid (Row w7 g 120 ((splice ws 0 (bl.take m)).map vw)):=by
  have h:=tW.out;rw[Wk]at h;exact h
 have H7:=AO (Ur.out w6 w7 _ H6.out Yd.out vL.out (by rw[Wl _ _ (by rw[Qd.out,vE.out.1];omega)];exact vE.out.1) (Wj vE.out.2 λy hy=>ab.out y (Bo hy)));clear Ur H6 tW Yd vL IB O0 O1 O2;go_wp2
 go_ret
 exact⟨rfl,H7.out⟩
def KT(w:World)(G:Nat->Prop)(p:Wp)(F:Fs)(n x:Nat)(r:Rt)(ws:List Nat)(w':World):Prop:=
 ∃G',Sys w' G' p F n/\Gu w' x p r F.D.size ws/\DG (λk=>G k\/k=r.g\/k=x) w w'/\∀k,G' k->G k\/w<=k
def GD(r:Rt)(ws:List Nat):Cv:=J6 r.k ((ws.drop (r.pos%r.h*r.k)).take r.k)
def Q5(k:Nat)(l:List Nat)(i c:Nat):Value:=AA AB (if c<i/\c<k then Aa.wrap ((l.getD c 0:Nat):Int)else 0)
def Eo(k:Nat)(l:List Nat)(i:Nat):List Value:=[Q5 k l i 0,Q5 k l i 1,Q5 k l i 2,Q5 k l i 3,Q5 k l i 4]
theorem OA(k:Nat)(l:List Nat):Eo k l 0=[AA AB 0,AA AB 0,AA AB 0,AA AB 0,AA AB 0]:=by simp[Eo,Q5]
theorem Pz{k}(e:k<=5)(l:List Nat){i}(hi:i<k):(Eo k l i).set i (AA AB (Aa.wrap ((l.getD i 0:Nat):Int)))=Eo k l (i+1):=by
 match i,hi with
 |0,hi=>simp[Eo,Q5,hi]
 |1,hi=>simp[Eo,Q5,hi]
 |2,hi=>simp[Eo,Q5,hi]
 |3,hi=>simp[Eo,Q5,hi]
 |4,hi=>simp[Eo,Q5,hi]
 |i+5,hi=>omega
theorem P4{k}(e:k<=5)(l:List Nat):Eo k l k=[AA AB (J6 k l).a,AA AB (J6 k l).b,AA AB (J6 k l).c,AA AB (J6 k l).d,AA AB (J6 k l).e]:=by
 simp[Eo,Q5,J6]
theorem UW{w G p F n x r ws}(h:Sys w G p F n)(DK:JA r F.D.size)(hm:Gu w x p r F.D.size ws)(ho:OD G x r)(De:r.pos<r.count)
  (IV:r.pos%r.h≠0):
  Calls AP 48 #[AI x] w λe w'=>e=AH (AM #[AL #[AA AB (GD r ws).a,AA AB (GD r ws).b,AA AB (GD r ws).c,AA AB (GD r ws).d,AA AB (GD r ws).e],true,()])/\KT w G p F n x {r with pos:=r.pos+1} ws w':=by
 obtain⟨hx,Jt,GZ⟩:=hm.lt;obtain⟨a1,a2,a3⟩:=hm.apart;have aD:=DK.sz;have hk:=DK.k;have hh:=DK.h;have aY:=DK.count;have aa:=Bw r.pos hh.1;have aK:r.pos%r.h*r.k+r.k<=F.D.size-2:=by
  have h1:(r.pos%r.h+1)*r.k<=r.h*r.k:=Ae _ aa;rw[A6,BD]at h1;exact Af h1 hh.2.1
 obtain⟨w0,JM⟩:=ae (w.alloc (AK #[(),(),(),(),()] 47));have I:Below w w w0:=by rw[JM];exact(AS w w).alloc ao _
 have EU:Row w0 w 47 [(),(),(),(),()]:=by rw[JM];exact heap_alloc_new _ _
 have O:=hm.below I;have Fh:=Fj O.row O.buf;rw[decide_eq_true (show 0<F.D.size by omega)]at Fh;have GJ:Hid (Calls AP 69 #[AI x] (w.alloc (AK #[(),(),(),(),()] 47)) λe w'=>e=AH (.bool (!true))/\w'=w.alloc (AK #[(),(),(),(),()] 47)):=by rw[JM]at Fh;exact Fh
 have aJ:=AO EU;have QD:Hid (¬G w):=λQ=>by have:=h.lt Q;omega
 have Dr:Hid (∀H U,WD w0 G p F n x r ws H->DG (λk=>k=x\/k=w) H U->Row U x 134 (YX p {r with pos:=r.pos+1})->KT w G p F n x {r with pos:=r.pos+1} ws U):=by
  intro H U ⟨G4,k1,J,k3,k4⟩ hf hr;have aB:¬G4 x:=λQ=>(k4 x Q).elim ho.x λh=>by have:=I.size;omega
  have aH:¬G4 w:=λQ=>(k4 _ Q).elim QD.out λh=>by have:=EU.lt;omega
  have ni:Row H w 47 [(),(),(),(),()]:=k3.row EU (by
   rintro(Q|Q)
   ·exact QD.out Q
   ·omega)
  refine⟨G4,k1.Wa hf ?_,⟨hr,hf.row J.buf ?_,hf.row J.words ?_,J.len,J.u64⟩,?_,λk hk=>(k4 k hk).imp_right λh=>Af I.size h⟩
  ·rintro k (rfl|rfl)
   ·exact⟨aB,λv hv=>absurd (hv.typed J.row) a6⟩
   ·exact⟨aH,λv hv=>absurd (hv.typed ni) a6⟩
  ·rintro(e|e)
   ·exact a1 e.symm
   ·exact absurd e (Nat.ne_of_lt Jt)
  ·rintro(e|e)
   ·exact a2 e.symm
   ·exact absurd e (Nat.ne_of_lt GZ)
  ·refine(((DG.DB I _).trans k3 λb hb=>hb.elim (λh=>.inl (.inl h)) λh=>.inl (.inr (.inl h)))).trans hf ?_;rintro b (rfl|rfl)
   ·exact .inl (.inr (.inr rfl))
   ·exact .inr ao
 have H0:Hid (Row (w.alloc (AK #[(),(),(),(),()] 47)) x 134 (YX p r)):=by rw[<-JM];exact O.row
 have aE:Cp (r.pos:Int) (r.h:Int)=((r.pos%r.h:Nat):Int):=rfl;have Gh:¬((r.h:Int)=0):=a5;have g3:((r.pos:Int)==(r.count:Int))=false:=by simp;omega
 have aX:(r.pos:Int)+1=((r.pos+1:Nat):Int):=a5;have c7:(w.alloc (AK #[(),(),(),(),()] 47)).cell? (x,7)=AE (AA AB r.pos):=H0.out.cell 7;obtain⟨-,-,-,-,-,-,c6,d7⟩:=H0.out.q8;have d1:(w.alloc (AK #[(),(),(),(),()] 47)).drew.cell? (x,1)=AE (AA AB r.h):=H0.out.cell 1;have K9:Hid (Below w w (w.alloc (AK #[(),(),(),(),()] 47)).drew.drew):=by rw[<-JM];exact Cz (Cz I)
 have g5:(((r.pos%r.h:Nat):Int)==0)=false:=by simp;omega
 have bJ:Hid (WD w0 G p F n x r ws (w.alloc (AK #[(),(),(),(),()] 47)).drew.drew):=(DQ.DB (h.below I) (by rw[<-JM];exact Cz (Cz (AS _ _)))).blk rfl O ⟨ho.x,ho.b,ho.g⟩;clear Fh h hm O DK ho EU I;go_enter func48,ntmps48
 go_wp2_with fail
 refine GJ.out.mono ?_;rintro e w1 ⟨rfl,rfl⟩;go_wp2
 go_region
 go_wp2
 go_region
 generalize(w.alloc (AK #[(),(),(),(),()] 47)).drew.drew=H at*
 have YS:Hid (∀U,DG (λk=>k=x\/k=w) H U->Row U x 134 (YX p {r with pos:=r.pos+1})->KT w G p F n x {r with pos:=r.pos+1} ws U):=λU h1 h2=>Dr.out H U bJ.out h1 h2;obtain⟨G4,k1,J,k3,k4⟩:=bJ.out;have X4:=AO J.row;have Y4:=AO J.buf;have Z4:=AO J.words;have aI:Hid (ws.length=F.D.size/\NO ws):=⟨J.len.trans rfl,J.u64⟩;have R4:Hid (Row H w 47 [(),(),(),(),()]):=k3.row aJ.out (by
  rintro(Q|Q)
  ·exact QD.out Q
  ·omega)
 clear bJ k1 J k3 k4 Dr QD G4;have aA:Hid (∀W,Calls AP 59 #[AL #[r.k,r.h],AJ r.g F.D.size F.D.size,r.pos] W λe w'=>e=AH (AJ (AE ⟨r.g,r.pos%r.h*r.k,AD⟩) r.k (F.D.size-r.pos%r.h*r.k))/\Below W W w'):=λW=>VK r.k r.h r.pos r.g F.D.size W hk.1 hk.2 hh.1 hh.2.2 a5 a5 aD.2;have pY:Hid (Eo r.k ((ws.drop (r.pos%r.h*r.k)).take r.k) r.k=[AA AB (GD r ws).a,AA AB (GD r ws).b,AA AB (GD r ws).c,AA AB (GD r ws).d,AA AB (GD r ws).e]):=P4 hk.2 _;have Qc:Hid (Eo r.k ((ws.drop (r.pos%r.h*r.k)).take r.k) 0=[AA AB 0,AA AB 0,AA AB 0,AA AB 0,AA AB 0]):=OA _ _;have pW:Hid (∀i j,j<5->∃v,(Eo r.k ((ws.drop (r.pos%r.h*r.k)).take r.k) i)[j]?=AE v):=λi j hj=>⟨_,AU (show j<(Eo r.k ((ws.drop (r.pos%r.h*r.k)).take r.k) i).length from hj)⟩;have av:Hid (x≠w):=by unfold Hid;omega
 have TM:Hid (∀i,i<r.k->(Eo r.k ((ws.drop (r.pos%r.h*r.k)).take r.k) i).set i (AA AB (Aa.wrap (((ws.getD (r.pos%r.h*r.k+i) 0:Nat):Nat):Int)))=Eo r.k ((ws.drop (r.pos%r.h*r.k)).take r.k) (i+1)):=by
  intro i hi;rw[<-Pz hk.2 _ hi]
  congr 4
  rw[AT,AT,At,if_pos hi,CL]
 generalize Gr:KT w G p F n x {r with pos:=r.pos+1} ws=Dd at*
 replace Gr:=AO Gr;generalize hTU:GD r ws=TU at*
 replace hTU:=AO hTU;generalize Eo r.k ((ws.drop (r.pos%r.h*r.k)).take r.k)=CC at*
 clear aa JM GJ H0 c7 c6 d7 d1 K9 aE Gh g3;obtain⟨TA,TB,TC,TD,TE⟩:=TU;obtain⟨k,G8,first,blocks,count,pos,b,g⟩:=r;unfold YX at*
 simp only at*
 generalize pos%G8*k=off at*
 generalize F.D.size=size at*
 generalize hP1:pos+1=Ns at*
 replace hP1:=AO hP1;have FU:=(AS H H).alloc ao (AK #[(),(),(),(),()] 47);have I5:Row (H.alloc (AK #[(),(),(),(),()] 47)) H 47 [(),(),(),(),()]:=heap_alloc_new _ _;have P9:=AO (X4.out.below FU X4.out.lt);have ar:=AO (Y4.out.below FU Y4.out.lt);have k0:∀d os,(Ai (redrawn (H.alloc (AK #[(),(),(),(),()] 47)) d) os).cell? x=AE (AA AB k):=Ab (P9.out.cell 0);have k1:∀d os,(Ai (redrawn (H.alloc (AK #[(),(),(),(),()] 47)) d) os).cell? (x,1)=AE (AA AB G8):=Ab (P9.out.cell 1);have k7:∀d os,(Ai (redrawn (H.alloc (AK #[(),(),(),(),()] 47)) d) os).cell? (x,7)=AE (AA AB pos):=Ab (P9.out.cell 7);have k8:∀d os,(Ai (redrawn (H.alloc (AK #[(),(),(),(),()] 47)) d) os).cell? (x,8)=AE (AI b):=Ab (P9.out.cell 8);have kb:∀d os,(Ai (redrawn (H.alloc (AK #[(),(),(),(),()] 47)) d) os).cell? b=AE (AJ g size size):=Ab (ar.out.cell 0);have Q4:Hid (∀d os,Calls AP 59 #[AL #[k,G8],AJ g size size,pos] (Ai (redrawn (H.alloc (AK #[(),(),(),(),()] 47)) d) os) λe Ej=>e=AH (AJ (g,off) k (size-off))/\∃p:Cq,Ej=Ai (redrawn (H.alloc (AK #[(),(),(),(),()] 47)) p.d) p.os):=λd os=>BU (aA.out _);have EV:=AO FU;have IB:=AO I5;clear FU I5 aA P9 ar;go_wp2
 refine Bb a7 a7 ?_
 repeat(any_goals(first|go_big_quiet_step (with_reducible first|exact Q4.out _ _)|quiet_step (with_reducible first|exact Q4.out _ _)))
 refine CV ?_;intro w7 cI;obtain⟨⟨dq,osq⟩,cI⟩:=cI;have Oq:=Bj (H.alloc (AK #[(),(),(),(),()] 47)) dq osq;rw[<-cI]at Oq;clear cI;have dS:=AO (EV.out.trans (Oq.mono EV.out.size));have vL:Hid (Row w7 H 47 (CC 0)):=by unfold Hid;rw[Qc.out];exact IB.out.below Oq IB.out.lt
 clear Oq Q4 k0 k1 k7 k8 kb IB EV Qc;have ab:=X4.out.lt;have ad:=Z4.out.lt;have GL:=R4.out.lt;have V7:Hid (x<H.heap.size/\g<H.heap.size/\w.heap.size<H.heap.size):=⟨ab,ad,GL⟩;clear ab ad GL;generalize hT:H.heap.size=T at*
 go_wp2
 go_loopw [61] (λiv wr=>∃i:Nat,i<=k/\iv=AA AB (i:Int)/\Hid (Below T H wr)/\Hid (Row wr T 47 (CC i))) (λiv _=>k-(BF iv).toNat)
 case atStart=>exact⟨0,Aq _,rfl,dS.out,vL.out⟩
 case round=>
  obtain⟨i,hi,rfl,HF,IE⟩:=hrel;by_cases aF:i<k
  ·have Km:=TM.out i aF;have Pm:off+i<ws.length:=by have:=aI.out.1;omega
   have cw:wr.cell? (g,off+i)=AE (.int .u64 (ws.getD (off+i) 0:Nat)):=by
    rw[(Z4.out.below HF.out V7.out.2.1).cell (off+i)];exact MH Pm
   have aG:i<5:=a5;have ct:∃v,wr.cell? (T,i)=AE v:=by
    rw[IE.out.cell i];exact pW.out i i aG
   obtain⟨v0,ct⟩:=ct;have fg:=IE.out.free i;have Gv:Hid (Row (wr.setCell (T,i) (AA AB (Aa.wrap ((ws.getD (off+i) 0:Nat):Int)))) T 47 (CC (i+1))):=by
    have h1:=IE.out.set i (AA AB (Aa.wrap ((ws.getD (off+i) 0:Nat):Int)));rw[Km]at h1;exact h1
   have Qh:Hid (Below T H (wr.setCell (T,i) (AA AB (Aa.wrap ((ws.getD (off+i) 0:Nat):Int))))):=HF.out.setCell ao _;have UM:(0:Int)<=(i:Int):=a5;have nD:(i:Int)<(k:Int):=a5;have wk:(i:Int)<5:=a5;clear Km Pm hi;generalize ws.getD (off+i) 0=u at*
   obtain⟨z,hz⟩:=al (Aa.wrap (u:Int));rw[hz]at Gv Qh;go_wp2
   go_roundw
   case rel=>exact⟨i+1,a5,by go_num,Qh.out,Gv.out⟩
   case measure=>simp[BF];omega
  ·obtain rfl:i=k:=a5;have Lo:=X4.out.below HF.out V7.out.1;have c7:wr.cell? (x,7)=AE (AA AB pos):=Lo.cell 7;have f7:=Lo.free 7;have Tr:=Lo.set 7 Ns;have Z1:Row (wr.setCell (x,7) Ns) T 47 (CC i):=IE.out.Ey (p:=(x,7)) (λe=>by have:=V7.out.1;simp only at e;omega) _;rw[pY.out]at Z1;have mo:Row (wr.setCell (x,7) Ns) w 47 [(),(),(),(),()]:=(R4.out.below HF.out V7.out.2.2).Ey (p:=(x,7)) (λe=>av.out e.symm) Ns;have xI:DG (λk=>k=x\/k=w) H (wr.setCell (x,7) Ns):=(DG.DB (by rw[hT];exact HF.out) (λk=>k=x\/k=w)).set (p:=(x,7)) (.inl (.inl rfl)) _;have bF:=AO Z1;have TN:=AO mo;have bD:=AO Tr;have jj:=AO xI;clear Lo Tr Z1 mo xI IE HF;generalize aC:wr.setCell (x,7) Ns=w8 at bF TN bD jj;obtain⟨t0,t1,t2,t3,t4⟩:=bF.out.q5;obtain⟨z0,z1,z2,z3,z4⟩:=TN.out.q5;obtain⟨f0,f1,f2,f3,f4⟩:=TN.out.r5;have ES:=AO (yZ TN.out TA TB TC TD TE);have ji:=AO (jj.out.trans (oH w8 w TA TB TC TD TE) λb hb=>.inl (.inr hb));have aw:=AO ((oH w8 w TA TB TC TD TE).row bD.out av.out);clear bF TN bD jj;subst aC;go_wp2
   have H9:=AO (YS.out _ ji.out aw.out);clear YS ji aw;have q0:=ES.out.cell 0;have q1:=ES.out.cell 1;have q2:=ES.out.cell 2;have q3:=ES.out.cell 3;have q4:=ES.out.cell 4;refine Aw (v:=AM #[AL #[TA,TB,TC,TD,TE],true,()]) ?_ rfl ⟨by rw[hTU.out],by obtain rfl:=hP1.out;rw[Gr.out];exact H9.out⟩;generalize(((((((wr.setCell (x,7) Ns).setCell w.heap.size TA).setCell (w.heap.size,1) TB).setCell (w.heap.size,2) TC).setCell (w.heap.size,3) TD).setCell (w.heap.size,4) TE))=w9 at*
   simp only[AW,AV]at q0 q1 q2 q3 q4;simp[results,Tryz.results48,go_sem,q0,q1,q2,q3,q4]
theorem aQ{w G p F n x r ws}(h:Sys w G p F n)(DK:JA r F.D.size)(hm:Gu w x p r F.D.size ws)(ho:OD G x r)(De:r.pos<r.count)
  {F1}{n1}{LG}(Gg:F1.D.size=F.D.size)(IV:r.pos%r.h=0)(hB:∀W,Below w w W->Calls AP 71 #[AI x] W λe w'=>e=AH ()/\WD W G p F1 n1 x r LG w'):
  Calls AP 48 #[AI x] w λe w'=>e=AH (AM #[AL #[AA AB (GD r LG).a,AA AB (GD r LG).b,AA AB (GD r LG).c,AA AB (GD r LG).d,AA AB (GD r LG).e],true,()])/\KT w G p F1 n1 x {r with pos:=r.pos+1} LG w':=by
 obtain⟨hx,Jt,GZ⟩:=hm.lt;obtain⟨a1,a2,a3⟩:=hm.apart;have aE:=DK.sz;have hk:=DK.k;have hh:=DK.h;have a0:=DK.count;have aa:=Bw r.pos hh.1;have aX:r.pos%r.h*r.k+r.k<=F.D.size-2:=by
  have h1:(r.pos%r.h+1)*r.k<=r.h*r.k:=Ae _ aa;rw[A6,BD]at h1;exact Af h1 hh.2.1
 obtain⟨w0,JM⟩:=ae (w.alloc (AK #[(),(),(),(),()] 47));have J:Below w w w0:=by rw[JM];exact(AS w w).alloc ao _
 have EU:Row w0 w 47 [(),(),(),(),()]:=by rw[JM];exact heap_alloc_new _ _
 have U:=hm.below J;have Fh:=Fj U.row U.buf;rw[decide_eq_true (show 0<F.D.size by omega)]at Fh;have GJ:Hid (Calls AP 69 #[AI x] (w.alloc (AK #[(),(),(),(),()] 47)) λe w'=>e=AH (.bool (!true))/\w'=w.alloc (AK #[(),(),(),(),()] 47)):=by rw[JM]at Fh;exact Fh
 have aK:=AO EU;have QD:Hid (¬G w):=λO=>by have:=h.lt O;omega
 have Dr:Hid (∀H Q,WD w0 G p F1 n1 x r LG H->DG (λk=>k=x\/k=w) H Q->Row Q x 134 (YX p {r with pos:=r.pos+1})->KT w G p F1 n1 x {r with pos:=r.pos+1} LG Q):=by
  intro H Q ⟨G4,k1,I,k3,k4⟩ hf hr;have aC:¬G4 x:=λO=>(k4 x O).elim ho.x λh=>by have:=J.size;omega
  have aI:¬G4 w:=λO=>(k4 _ O).elim QD.out λh=>by have:=EU.lt;omega
  have ni:Row H w 47 [(),(),(),(),()]:=k3.row EU (by
   rintro(O|O)
   ·exact QD.out O
   ·omega)
  refine⟨G4,k1.Wa hf ?_,⟨hr,hf.row I.buf ?_,hf.row I.words ?_,I.len,I.u64⟩,?_,λk hk=>(k4 k hk).imp_right λh=>Af J.size h⟩
  ·rintro k (rfl|rfl)
   ·exact⟨aC,λv hv=>absurd (hv.typed I.row) a6⟩
   ·exact⟨aI,λv hv=>absurd (hv.typed ni) a6⟩
  ·rintro(e|e)
   ·exact a1 e.symm
   ·exact absurd e (Nat.ne_of_lt Jt)
  ·rintro(e|e)
   ·exact a2 e.symm
   ·exact absurd e (Nat.ne_of_lt GZ)
  ·refine(((DG.DB J _).trans k3 λb hb=>hb.elim (λh=>.inl (.inl h)) λh=>.inl (.inr (.inl h)))).trans hf ?_;rintro b (rfl|rfl)
   ·exact .inl (.inr (.inr rfl))
   ·exact .inr ao
 have H0:Hid (Row (w.alloc (AK #[(),(),(),(),()] 47)) x 134 (YX p r)):=by rw[<-JM];exact U.row
 have aF:Cp (r.pos:Int) (r.h:Int)=((r.pos%r.h:Nat):Int):=rfl;have Gh:¬((r.h:Int)=0):=a5;have g3:((r.pos:Int)==(r.count:Int))=false:=by simp;omega
 have aY:(r.pos:Int)+1=((r.pos+1:Nat):Int):=a5;have c7:(w.alloc (AK #[(),(),(),(),()] 47)).cell? (x,7)=AE (AA AB r.pos):=H0.out.cell 7;obtain⟨-,-,-,-,-,-,c6,d7⟩:=H0.out.q8;have d1:(w.alloc (AK #[(),(),(),(),()] 47)).drew.cell? (x,1)=AE (AA AB r.h):=H0.out.cell 1;have K9:Hid (Below w w (w.alloc (AK #[(),(),(),(),()] 47)).drew.drew):=by rw[<-JM];exact Cz (Cz J)
 have g5:(((r.pos%r.h:Nat):Int)==0)=true:=by simp;omega
 have aB:Hid (Calls AP 71 #[AI x] (w.alloc (AK #[(),(),(),(),()] 47)).drew.drew λe w'=>e=AH ()/\WD w0 G p F1 n1 x r LG w'):=(hB _ K9.out).mono λe w' ⟨h1,G',k1,I,k3,k4⟩=>
  have Qz:Below w0 w0 (w.alloc (AK #[(),(),(),(),()] 47)).drew.drew:=by rw[<-JM];exact Cz (Cz (AS _ _))
  ⟨h1,G',k1,I,(DG.DB Qz _).trans k3 λb hb=>.inl hb,λk hk=>(k4 k hk).imp_right λh=>Af Qz.size h⟩
 clear Fh h hm U DK ho EU J hB;go_enter func48,ntmps48
 go_wp2_with fail
 refine GJ.out.mono ?_;rintro e w1 ⟨rfl,rfl⟩;go_wp2
 go_region
 go_wp2
 go_region
 go_wp2_with fail
 refine aB.out.mono ?_;rintro e H ⟨rfl,nV⟩;have bJ:=AO nV;clear nV aB;have YS:Hid (∀Q,DG (λk=>k=x\/k=w) H Q->Row Q x 134 (YX p {r with pos:=r.pos+1})->KT w G p F1 n1 x {r with pos:=r.pos+1} LG Q):=λQ h1 h2=>Dr.out H Q bJ.out h1 h2;obtain⟨G4,k1,I,k3,k4⟩:=bJ.out;have X4:=AO I.row;have Y4:=AO I.buf;have Z4:=AO I.words;have aJ:Hid (LG.length=F.D.size/\NO LG):=⟨I.len.trans Gg,I.u64⟩;have R4:Hid (Row H w 47 [(),(),(),(),()]):=k3.row aK.out (by
  rintro(O|O)
  ·exact QD.out O
  ·omega)
 clear bJ k1 I k3 k4 Dr QD G4;have aA:Hid (∀W,Calls AP 59 #[AL #[r.k,r.h],AJ r.g F.D.size F.D.size,r.pos] W λe w'=>e=AH (AJ (AE ⟨r.g,r.pos%r.h*r.k,AD⟩) r.k (F.D.size-r.pos%r.h*r.k))/\Below W W w'):=λW=>VK r.k r.h r.pos r.g F.D.size W hk.1 hk.2 hh.1 hh.2.2 a5 a5 aE.2;have pY:Hid (Eo r.k ((LG.drop (r.pos%r.h*r.k)).take r.k) r.k=[AA AB (GD r LG).a,AA AB (GD r LG).b,AA AB (GD r LG).c,AA AB (GD r LG).d,AA AB (GD r LG).e]):=P4 hk.2 _;have Qc:Hid (Eo r.k ((LG.drop (r.pos%r.h*r.k)).take r.k) 0=[AA AB 0,AA AB 0,AA AB 0,AA AB 0,AA AB 0]):=OA _ _;have pW:Hid (∀i j,j<5->∃v,(Eo r.k ((LG.drop (r.pos%r.h*r.k)).take r.k) i)[j]?=AE v):=λi j hj=>⟨_,AU (show j<(Eo r.k ((LG.drop (r.pos%r.h*r.k)).take r.k) i).length from hj)⟩;have av:Hid (x≠w):=by unfold Hid;omega
 have TM:Hid (∀i,i<r.k->(Eo r.k ((LG.drop (r.pos%r.h*r.k)).take r.k) i).set i (AA AB (Aa.wrap (((LG.getD (r.pos%r.h*r.k+i) 0:Nat):Nat):Int)))=Eo r.k ((LG.drop (r.pos%r.h*r.k)).take r.k) (i+1)):=by
  intro i hi;rw[<-Pz hk.2 _ hi]
  congr 4
  rw[AT,AT,At,if_pos hi,CL]
 generalize Gr:KT w G p F1 n1 x {r with pos:=r.pos+1} LG=Dd at*
 replace Gr:=AO Gr;generalize hTU:GD r LG=TU at*
 replace hTU:=AO hTU;generalize Eo r.k ((LG.drop (r.pos%r.h*r.k)).take r.k)=CC at*
 clear aa JM GJ H0 c7 c6 d7 d1 K9 aF Gh g3;obtain⟨TA,TB,TC,TD,TE⟩:=TU;obtain⟨k,G8,first,blocks,count,pos,b,g⟩:=r;unfold YX at*
 simp only at*
 generalize pos%G8*k=off at*
 rw[Gg]at*
 generalize F.D.size=size at*
 generalize hP1:pos+1=Ns at*
 replace hP1:=AO hP1;have FU:=(AS H H).alloc ao (AK #[(),(),(),(),()] 47);have I5:Row (H.alloc (AK #[(),(),(),(),()] 47)) H 47 [(),(),(),(),()]:=heap_alloc_new _ _;have P9:=AO (X4.out.below FU X4.out.lt);have ar:=AO (Y4.out.below FU Y4.out.lt);have k0:∀d os,(Ai (redrawn (H.alloc (AK #[(),(),(),(),()] 47)) d) os).cell? x=AE (AA AB k):=Ab (P9.out.cell 0);have k1:∀d os,(Ai (redrawn (H.alloc (AK #[(),(),(),(),()] 47)) d) os).cell? (x,1)=AE (AA AB G8):=Ab (P9.out.cell 1);have k7:∀d os,(Ai (redrawn (H.alloc (AK #[(),(),(),(),()] 47)) d) os).cell? (x,7)=AE (AA AB pos):=Ab (P9.out.cell 7);have k8:∀d os,(Ai (redrawn (H.alloc (AK #[(),(),(),(),()] 47)) d) os).cell? (x,8)=AE (AI b):=Ab (P9.out.cell 8);have kb:∀d os,(Ai (redrawn (H.alloc (AK #[(),(),(),(),()] 47)) d) os).cell? b=AE (AJ g size size):=Ab (ar.out.cell 0);have Q4:Hid (∀d os,Calls AP 59 #[AL #[k,G8],AJ g size size,pos] (Ai (redrawn (H.alloc (AK #[(),(),(),(),()] 47)) d) os) λe Ej=>e=AH (AJ (g,off) k (size-off))/\∃p:Cq,Ej=Ai (redrawn (H.alloc (AK #[(),(),(),(),()] 47)) p.d) p.os):=λd os=>BU (aA.out _);have EV:=AO FU;have IB:=AO I5;clear FU I5 aA P9 ar;go_wp2
 refine Bb a7 a7 ?_
 repeat(any_goals(first|go_big_quiet_step (with_reducible first|exact Q4.out _ _)|quiet_step (with_reducible first|exact Q4.out _ _)))
 refine CV ?_;intro w7 cI;obtain⟨⟨dq,osq⟩,cI⟩:=cI;have Oq:=Bj (H.alloc (AK #[(),(),(),(),()] 47)) dq osq;rw[<-cI]at Oq;clear cI;have dS:=AO (EV.out.trans (Oq.mono EV.out.size));have vL:Hid (Row w7 H 47 (CC 0)):=by unfold Hid;rw[Qc.out];exact IB.out.below Oq IB.out.lt
 clear Oq Q4 k0 k1 k7 k8 kb IB EV Qc;have ab:=X4.out.lt;have ad:=Z4.out.lt;have GL:=R4.out.lt;have V7:Hid (x<H.heap.size/\g<H.heap.size/\w.heap.size<H.heap.size):=⟨ab,ad,GL⟩;clear ab ad GL;generalize hT:H.heap.size=T at*
 go_wp2
 go_loopw [61] (λiv wr=>∃i:Nat,i<=k/\iv=AA AB (i:Int)/\Hid (Below T H wr)/\Hid (Row wr T 47 (CC i))) (λiv _=>k-(BF iv).toNat)
 case atStart=>exact⟨0,Aq _,rfl,dS.out,vL.out⟩
 case round=>
  obtain⟨i,hi,rfl,HF,IE⟩:=hrel;by_cases aG:i<k
  ·have Km:=TM.out i aG;have Pm:off+i<LG.length:=by have:=aJ.out.1;omega
   have cw:wr.cell? (g,off+i)=AE (.int .u64 (LG.getD (off+i) 0:Nat)):=by
    rw[(Z4.out.below HF.out V7.out.2.1).cell (off+i)];exact MH Pm
   have aH:i<5:=a5;have ct:∃v,wr.cell? (T,i)=AE v:=by
    rw[IE.out.cell i];exact pW.out i i aH
   obtain⟨v0,ct⟩:=ct;have fg:=IE.out.free i;have Gv:Hid (Row (wr.setCell (T,i) (AA AB (Aa.wrap ((LG.getD (off+i) 0:Nat):Int)))) T 47 (CC (i+1))):=by
    have h1:=IE.out.set i (AA AB (Aa.wrap ((LG.getD (off+i) 0:Nat):Int)));rw[Km]at h1;exact h1
   have Qh:Hid (Below T H (wr.setCell (T,i) (AA AB (Aa.wrap ((LG.getD (off+i) 0:Nat):Int))))):=HF.out.setCell ao _;have UM:(0:Int)<=(i:Int):=a5;have nD:(i:Int)<(k:Int):=a5;have wk:(i:Int)<5:=a5;clear Km Pm hi;generalize LG.getD (off+i) 0=u at*
   obtain⟨z,hz⟩:=al (Aa.wrap (u:Int));rw[hz]at Gv Qh;go_wp2
   go_roundw
   case rel=>exact⟨i+1,a5,by go_num,Qh.out,Gv.out⟩
   case measure=>simp[BF];omega
  ·obtain rfl:i=k:=a5;have Lo:=X4.out.below HF.out V7.out.1;have c7:wr.cell? (x,7)=AE (AA AB pos):=Lo.cell 7;have f7:=Lo.free 7;have Tr:=Lo.set 7 Ns;have Z1:Row (wr.setCell (x,7) Ns) T 47 (CC i):=IE.out.Ey (p:=(x,7)) (λe=>by have:=V7.out.1;simp only at e;omega) _;rw[pY.out]at Z1;have mo:Row (wr.setCell (x,7) Ns) w 47 [(),(),(),(),()]:=(R4.out.below HF.out V7.out.2.2).Ey (p:=(x,7)) (λe=>av.out e.symm) Ns;have xI:DG (λk=>k=x\/k=w) H (wr.setCell (x,7) Ns):=(DG.DB (by rw[hT];exact HF.out) (λk=>k=x\/k=w)).set (p:=(x,7)) (.inl (.inl rfl)) _;have bF:=AO Z1;have TN:=AO mo;have bD:=AO Tr;have jj:=AO xI;clear Lo Tr Z1 mo xI IE HF;generalize aD:wr.setCell (x,7) Ns=w8 at bF TN bD jj;obtain⟨t0,t1,t2,t3,t4⟩:=bF.out.q5;obtain⟨z0,z1,z2,z3,z4⟩:=TN.out.q5;obtain⟨f0,f1,f2,f3,f4⟩:=TN.out.r5;have ES:=AO (yZ TN.out TA TB TC TD TE);have ji:=AO (jj.out.trans (oH w8 w TA TB TC TD TE) λb hb=>.inl (.inr hb));have aw:=AO ((oH w8 w TA TB TC TD TE).row bD.out av.out);clear bF TN bD jj;subst aD;go_wp2
   have H9:=AO (YS.out _ ji.out aw.out);clear YS ji aw;have q0:=ES.out.cell 0;have q1:=ES.out.cell 1;have q2:=ES.out.cell 2;have q3:=ES.out.cell 3;have q4:=ES.out.cell 4;refine Aw (v:=AM #[AL #[TA,TB,TC,TD,TE],true,()]) ?_ rfl ⟨by rw[hTU.out],by obtain rfl:=hP1.out;rw[Gr.out];exact H9.out⟩;generalize(((((((wr.setCell (x,7) Ns).setCell w.heap.size TA).setCell (w.heap.size,1) TB).setCell (w.heap.size,2) TC).setCell (w.heap.size,3) TD).setCell (w.heap.size,4) TE))=w9 at*
   simp only[AW,AV]at q0 q1 q2 q3 q4;simp[results,Tryz.results48,go_sem,q0,q1,q2,q3,q4]
def vB(w:World)(G:Nat->Prop)(x:Nat)(p:Wp)(F:Fs)(n:Nat)(r:Rt)(w':World):Prop:=
 ∃G',Sys w' G' p {F with A:=release F.A r.b F.D.size} n/\Um w' x p r/\DG (λk=>G k\/k=r.b\/k=r.g) w w'/\∀k,G' k->G k\/w<=k
theorem iH{w G p F n x r ws}(h:Sys w G p F n)(DK:JA r F.D.size)(hm:Gu w x p r F.D.size ws)(ho:OD G x r)(al:wordsAt F.A.st r.b=AE F.D.size)(De:r.pos<r.count)
  {F1}{n1}{LG}{er:Int}(he:er≠0)(Gg:F1.D.size=F.D.size)(aK:F1.A=F.A)(IV:r.pos%r.h=0)(hB:∀W,Below w w W->Calls AP 71 #[AI x] W λe w'=>e=AH er/\WD W G p F1 n1 x r LG w'):
  Calls AP 48 #[AI x] w λe w'=>e=AH (AM #[AL #[(),(),(),(),()],false,er])/\vB w G x p F1 n1 r w':=by
 obtain⟨hx,Jt,GZ⟩:=hm.lt;obtain⟨a1,a2,a3⟩:=hm.apart;have av:=DK.sz;have hk:=DK.k;have hh:=DK.h;have aA:=DK.count;obtain⟨w0,U⟩:=ae (w.alloc (AK #[(),(),(),(),()] 47));have H:Below w w w0:=by rw[U];exact(AS w w).alloc ao _
 have EU:Row w0 w 47 [(),(),(),(),()]:=by rw[U];exact heap_alloc_new _ _
 have O:=hm.below H;have Fh:=Fj O.row O.buf;rw[decide_eq_true (show 0<F.D.size by omega)]at Fh;have GJ:Hid (Calls AP 69 #[AI x] (w.alloc (AK #[(),(),(),(),()] 47)) λe w'=>e=AH (.bool (!true))/\w'=w.alloc (AK #[(),(),(),(),()] 47)):=by rw[U]at Fh;exact Fh
 have QD:Hid (¬G w):=λI=>by have:=h.lt I;omega
 have jF:Hid (∀Q,WD w0 G p F1 n1 x r LG Q->Calls AP 47 #[AI x] Q λe w5=>e=AH (AM #[])/\(Row w5 w 47 [(),(),(),(),()]/\∀w6,DG (λk=>k=w) w5 w6->vB w G x p F1 n1 r w6)):=by
  intro Q ⟨G4,k1,k2,k3,k4⟩;have cN:∀k,k<w.heap.size->¬G k->¬G4 k:=λk hk hn I=>(k4 k I).elim hn λh=>by have:=H.size;omega
  have aa:¬G4 w:=λI=>(k4 _ I).elim QD.out λh=>by have:=EU.lt;omega
  have ni:Row Q w.heap.size 47 [AA AB 0,AA AB 0,AA AB 0,AA AB 0,AA AB 0]:=k3.row EU (by
   rintro(I|I)
   ·exact QD.out I
   ·omega)
  refine(Rw k1 k2 ⟨cN x hx ho.x,cN _ Jt ho.b,cN _ GZ ho.g⟩ (by rw[aK,Gg];exact al)).mono ?_;rintro e w5 ⟨rfl,G5,q1,q2,q3,q4⟩;have ab:Row w5 w 47 [(),(),(),(),()]:=q3.row ni (by
   rintro(I|I)
   ·exact aa I
   ·omega)
  have ar:¬G5 w:=λI=>(q4 _ I).elim aa λh=>by have:=ni.lt;omega
  refine⟨rfl,ab,λw6 hf=>⟨G5,q1.Wa hf ?_,⟨hf.row q2.1 a5,hf.row q2.2 a5⟩,?_,?_⟩⟩
  ·rintro k rfl;exact⟨ar,λv hv=>absurd (hv.typed ab) a6⟩
  ·have f1:DG (λk=>G k\/k=r.b\/k=r.g) w Q:=(DG.DB H _).trans k3 λb hb=>hb.elim (λh=>.inl (.inl h)) λh=>.inl (.inr (.inr h));have f2:=f1.trans q3 (λb hb=>by
    rcases hb with hb|hb
    ·exact(k4 b hb).imp (λh=>.inl h) λh=>Af H.size h
    ·exact .inl (.inr (.inl hb)))
   exact f2.trans hf λb hb=>.inr a5
  ·intro k hk;rcases q4 k hk with I|I
   ·exact(k4 k I).imp_right λh=>Af H.size h
   ·exact .inr (by have:=H.size;have:=k3.size;omega)
 have H0:Hid (Row (w.alloc (AK #[(),(),(),(),()] 47)) x 134 (YX p r)):=by rw[<-U];exact O.row
 have aw:Cp (r.pos:Int) (r.h:Int)=((r.pos%r.h:Nat):Int):=rfl;have Gh:¬((r.h:Int)=0):=a5;have g3:((r.pos:Int)==(r.count:Int))=false:=by simp;omega
 have c7:(w.alloc (AK #[(),(),(),(),()] 47)).cell? (x,7)=AE (AA AB r.pos):=H0.out.cell 7;obtain⟨-,-,-,-,-,-,c6,d7⟩:=H0.out.q8;have d1:(w.alloc (AK #[(),(),(),(),()] 47)).drew.cell? (x,1)=AE (AA AB r.h):=H0.out.cell 1;have K9:Hid (Below w w (w.alloc (AK #[(),(),(),(),()] 47)).drew.drew):=by rw[<-U];exact Cz (Cz H)
 have g5:(((r.pos%r.h:Nat):Int)==0)=true:=by simp;omega
 have ge:(er !=0)=true:=by simpa using he
 have ad:Hid (Calls AP 71 #[AI x] (w.alloc (AK #[(),(),(),(),()] 47)).drew.drew λe w'=>e=AH er/\WD w0 G p F1 n1 x r LG w'):=(hB _ K9.out).mono λe w' ⟨h1,G',k1,k2,k3,k4⟩=>
  have Qz:Below w0 w0 (w.alloc (AK #[(),(),(),(),()] 47)).drew.drew:=by rw[<-U];exact Cz (Cz (AS _ _))
  ⟨h1,G',k1,k2,(DG.DB Qz _).trans k3 λb hb=>.inl hb,λk hk=>(k4 k hk).imp_right λh=>Af Qz.size h⟩
 generalize vB w G x p F1 n1 r=Dd at*
 generalize WD w0 G p F1 n1 x r LG=BK at*
 clear Fh h hm O DK ho EU H hB U;go_enter func48,ntmps48
 go_wp2_with fail
 refine GJ.out.mono ?_;rintro e w1 ⟨rfl,rfl⟩;go_wp2
 go_region
 go_wp2
 go_region
 go_wp2_with fail
 refine ad.out.mono ?_;rintro e Q ⟨rfl,nV⟩;have bJ:=AO nV;clear nV ad H0 K9 c7 c6 d7 d1 QD;go_wp2_with fail
 refine(jF.out Q bJ.out).mono ?_;rintro e w5 ⟨rfl,I5,h6⟩;have J:=AO I5;have H6:=AO h6;clear I5 h6 jF bJ;have z0:=J.out.cell 0;have z1:=J.out.cell 1;have z2:=J.out.cell 2;have z3:=J.out.cell 3;have z4:=J.out.cell 4;have f0:=J.out.free 0;have f1:=J.out.free 1;have f2:=J.out.free 2;have f3:=J.out.free 3;have f4:=J.out.free 4;simp only[AW,AV]at z0 z1 z2 z3 z4;have ES:=AO (yZ J.out () () () () ());have ji:=AO (oH w5 w () () () () ());go_wp2
 have H9:=AO (H6.out _ ji.out);have q0:=ES.out.cell 0;have q1:=ES.out.cell 1;have q2:=ES.out.cell 2;have q3:=ES.out.cell 3;have q4:=ES.out.cell 4;refine Aw (v:=AM #[AL #[(),(),(),(),()],false,er]) ?_ rfl ⟨rfl,H9.out⟩;simp only[AW,AV]at q0 q1 q2 q3 q4;simp[results,Tryz.results48,go_sem,q0,q1,q2,q3,q4]
theorem iG{w p sz x r ws}(DK:JA r sz)(hm:Gu w x p r sz ws)(De:r.pos=r.count):Calls AP 48 #[AI x] w λe w'=>e=AH (AM #[AL #[(),(),(),(),()],false,()])/\Below w w w':=by
 have aa:=DK.sz;have HB:Hid (Below w w (w.alloc (AK #[(),(),(),(),()] 47))):=(AS w w).alloc ao _;have H:=hm.below HB.out;have J:=Fj H.row H.buf;rw[decide_eq_true (show 0<sz by omega)]at J;have HC:=AO J;have EU:Row (w.alloc (AK #[(),(),(),(),()] 47)) w 47 [(),(),(),(),()]:=heap_alloc_new _ _;have I:=AO EU;have c7:(w.alloc (AK #[(),(),(),(),()] 47)).cell? (x,7)=AE (AA AB r.pos):=H.row.cell 7;have c6:(w.alloc (AK #[(),(),(),(),()] 47)).cell? (x,6)=AE (AA AB r.count):=H.row.cell 6;have g3:((r.pos:Int)==(r.count:Int))=true:=by simp;omega
 clear EU J hm H DK De;go_enter func48,ntmps48
 go_wp2_with fail
 refine HC.out.mono ?_;rintro e w1 ⟨rfl,rfl⟩;go_wp2
 go_region
 go_wp2
 have q0:=I.out.cell 0;have q1:=I.out.cell 1;have U:=I.out.cell 2;have Q:=I.out.cell 3;have O:=I.out.cell 4;refine Aw (v:=AM #[AL #[(),(),(),(),()],false,()]) ?_ rfl ⟨rfl,Cz HB.out⟩;simp only[AW,AV]at q0 q1 U Q O;simp[results,Tryz.results48,go_sem,q0,q1,U,Q,O]
section
variable{w:World}{G:Nat->Prop}{p:Wp}{F:Fs}{n x:Nat}{r:Rt}{ws:List Nat}
theorem iF(h:Sys w G p F n)(Q:n<1000000)(O:JA r F.D.size)(hm:Gu w x p r F.D.size ws)(I:OD G x r)(H:wordsAt F.A.st r.b=AE F.D.size)(J:r.pos<r.count)(U:r.pos%r.h=0)(he:(read F.D ((r.first+r.pos/r.h:Nat):Int)).1≠0):
  Calls AP 48 #[AI x] w λe w'=>e=AH (AM #[AL #[(),(),(),(),()],false,AA AB (read F.D ((r.first+r.pos/r.h:Nat):Int)).1])/\vB w G x p {F with D:=(read F.D ((r.first+r.pos/r.h:Nat):Int)).2} (n+1) r w':=
 iH h O hm I H J (LG:=ws) he (Jg F.D _ 0).2.1 rfl U λ_ hb=>lP (h.below hb) Q O (hm.below hb) I J he
end
structure AL7 (D:St) (r:Rt) (l:List Cv) (ws:List Nat):Prop where
 stands:EM D r.first r.k r.h l (Cr r.h r.count)
 cnt:l.length=r.count
 ok:∀t∈l,EE t/\Dc r.k t=true
 buf:r.pos%r.h≠0->ws.take (min r.h (r.count-r.pos/r.h*r.h)*r.k)=JI r.h r.k l (r.pos/r.h)
section
variable{r:Rt}{l:List Cv}{ws:List Nat}{sz:Nat}
theorem Vr(H:r.k<=5)(hh:0<r.h)(De:r.pos<r.count)(hc:l.length=r.count)(hb:ws.take (min r.h (r.count-r.pos/r.h*r.h)*r.k)=JI r.h r.k l (r.pos/r.h)){t}(I:l[r.pos]?=AE t)(DK:EE t)(hf:Dc r.k t=true):GD r ws=t:=by
 have hm:=Bw r.pos hh;have e:=Nat.div_add_mod r.pos r.h;rw[B6]at e;obtain⟨j,O⟩:=ae (r.pos/r.h);rw[<-O]at hb e;have hq:r.pos%r.h<min r.h (r.count-j*r.h):=a5;have J:r.pos%r.h*r.k+r.k<=min r.h (r.count-j*r.h)*r.k:=by
  have:=Ae r.k (show r.pos%r.h+1<=min r.h (r.count-j*r.h)by omega);rw[A6,BD]at this;exact this
 have U:(ws.drop (r.pos%r.h*r.k)).take r.k=((ws.take (min r.h (r.count-j*r.h)*r.k)).drop (r.pos%r.h*r.k)).take r.k:=by
  rw[List.drop_take,B7,Bh a5]
 unfold GD;rw[U,hb];unfold JI;have Q:((l.drop (j*r.h)).take r.h)[r.pos%r.h]?=AE t:=by
  rw[At,if_pos hm,CL,show j*r.h+r.pos%r.h=r.pos by omega];exact I
 rw[Xy H Q];exact RY H DK hf
end
def cA(D:St)(r:Rt):St:=if r.pos%r.h=0 then (read D ((r.first+r.pos/r.h:Nat):Int)).2 else D
theorem AF7:(AP.info? 47).map (λi=>(i.zero,i.size,i.bytes))=AE (AE (AL #[(),(),(),(),()]),5,40):=a7
def DE(t:Cv):List Value:=[t.a,t.b,t.c,t.d,t.e]
def EK(l:List Cv):List Value:=l.flatMap DE
theorem Kw(l:List Cv):(EK l).length=l.length*5:=by
 unfold EK
 induction l with
 |nil=>rfl
 |cons e l ih=>rw[List.flatMap_cons,AY,ih,BY];show 5+ _= _;omega
theorem aS(l:List Cv)(e:Cv):EK (l++[e])=EK l++DE e:=by unfold EK;simp
theorem Si:∀(l:List Cv) (i:Nat),i<l.length->∀(j:Nat) (u:Value),(DE (l.getD i Cu))[j]?=AE u->(EK l)[i*5+j]?=AE u
 |[],i,h=>by simp at h
 |e::l,0,_=>by
  intro j u h;have H:j<(DE e).length:=(BM.1 h).1;show (DE e++EK l)[0*5+j]?= _;rw[CS,BL,Al H];exact h
 |e::l,i+1,hi=>by
  intro j u h;show (DE e++EK l)[(i+1)*5+j]?= _;rw[AX (by show 5<= _;omega),show (i+1)*5+j-(DE e).length=i*5+j by show _-5= _;omega];exact Si l i (by simpa using hi) j u (by simpa using h)
theorem M7{l:List Cv}{i}(h:i<l.length):l.getD i Cu∈l:=by
 rw[AT,AU h];exact Bs h
def Lb(w:World)(B:Nat)(a:Option Addr)(n:Nat)(l:List Cv):Prop:=
 l.length=n/\(∀e∈l,EE e)/\(0<n->∃b off,a=AE ⟨b,off,AD⟩/\b<B/\∀(i:Nat),i<n->∀(j:Nat) (u:Value),(DE (l.getD i Cu))[j]?=AE u->w.cell? ⟨b,off+i*5+j,AD⟩=AE u)
section
variable{w w':World}{B:Nat}{a:Option Addr}{n:Nat}{l:List Cv}
theorem Lb.at_(h:Lb w B a n l){i}(hi:i<n):∃b off t,a=AE ⟨b,off,AD⟩/\b<B/\w.cell? ⟨b,off+i*5,AD⟩=AE (AA AB t.a)/\w.cell? ⟨b,off+i*5+1,AD⟩=AE (AA AB t.b)/\w.cell? ⟨b,off+i*5+2,AD⟩=AE (AA AB t.c)/\
  w.cell? (b,off+i*5+3)=AE (AA AB t.d)/\w.cell? (b,off+i*5+4)=AE (AA AB t.e)/\EE t/\Hid (l[i]?=AE t):=by
 obtain⟨H,hw,e⟩:=h;obtain⟨b,off,rfl,hb,e⟩:=e a5;refine⟨b,off,l.getD i Cu,rfl,hb,e i hi 0 _ rfl,e i hi 1 _ rfl,e i hi 2 _ rfl,e i hi 3 _ rfl,e i hi 4 _ rfl,hw _ (M7 a5),?_⟩;show l[i]?=AE (l.getD i Cu);rw[AT,AU a5];rfl
end
theorem Rz{w base t v n l}(h:w.ownsRow base t 5 v n (EK l))(hw:∀e∈l,EE e):∃A c,v=AJ A n c/\Lb w w.heap.size A n l/\l.length=n/\c<=maxLen/\n<=c/\(0<n->∀b off,A=AE ⟨b,off,AD⟩->base<=b):=by
 obtain⟨J,Q⟩:=h;have H:l.length=n:=by rw[Kw]at J;omega
 rcases Q with⟨rfl,rfl⟩|⟨g,cap,cur,rfl,O,hh,hcap,hm,hs,ht⟩
 ·exact⟨AD,0,rfl,⟨H,hw,λh=>absurd h a5⟩,H,by unfold maxLen;omega,AQ _,λh=>absurd h a5⟩
 ·refine⟨AE g,cap,rfl,⟨H,hw,λ_=>⟨g,0,rfl,?_,λi hi j u I=>?_⟩⟩,H,hm,hcap,λ_ b off e=>?_⟩
  ·exact Zi hh
  ·have h3:w.cell? (g,0+i*5+j)=cur[0+i*5+j]?:=by simp[World.cell?,hh]
   rw[h3,BL];have U:j<5:=(BM.1 I).1;have h4:(cur.toList.take (n*5))[i*5+j]?=cur.toList[i*5+j]?:=by rw[At,if_pos a5]
   rw[ht,Si l i a5 j u I]at h4;rw[<-Array.getElem?_toList];exact h4.symm
  ·injection e with e;injection e with e _;subst e;exact O
theorem JT{w w':World}{base e s n v xs}(h:w.ownsRow base e s v n xs)(hb:Below w w w'):w'.ownsRow base e s v n xs:=
 Fq h λk H=>hb.block k (h.lt k H).2
theorem XF(w:World)(base:Nat)(e:TypeId):w.ownsRow base e 5 (AJ AD 0 0) 0 (EK []):=⟨rfl,.inl ⟨rfl,rfl⟩⟩
theorem Fv{w:World}{ops rest o a Q}(TZ:o.guard=AD)(e x:Operand)
  (ho:o.op=.call {callee:=.builtin .append,args:=#[e,x],argTypes:=#[22,22]}){v}{base n}{l}(h:w.ownsRow base 47 5 v n (EK l))(U:a.eval e=v)(ad:Addr)(O:a.eval x=.slice (AE ad) 1 1)(t:Cv)
  (EY:∀j u,(DE t)[j]?=AE u->w.cell? (ad.add j)=AE u)(hn:n<=1000000)(Lj:base<=w)
  (hK:∀v' w',w'.ownsRow base 47 5 v' (n+1) (EK (l++[t]))->DG (λk=>v.ownBlock=AE k) w w'->(v'.ownBlock=v.ownBlock\/v'.ownBlock=AE w.heap.size)->wpList AP ops Q rest (a.put o.dst v') w'):wpList AP ops Q (o::rest) a w:=by
 obtain⟨I,FM,Ft,J,VY⟩:=info_parts AF7;refine wpList_append_own_at w TZ e x 22 ho base 47 I _ 5 40 underlying22 FM Ft J VY rfl a6 v n (EK l) U h ad 1 1 (DE t) O rfl EY (λu hu=>by simp[DE]at hu;rcases hu with rfl|rfl|rfl|rfl|rfl<;>rfl) (by unfold maxLen;omega) a5 Lj ?_;intro v' w' H PS _ FX;rw[<-aS]at H;exact hK v' w' H ((DG.refl _ w).grown PS λk hk=>.inl hk) FX
structure Na (D D':St) (m:Nat):Prop where
 size:D'.size=D.size
 blocks:D'.blocks=D.blocks
 Dg:D'.Dg=D.Dg+m
 calm:Calm D->Calm D'
 alive:D.down=false/\D.fb=false->D'.down=false/\D'.fb=false
theorem Na.refl(D:St):Na D D 0:=⟨rfl,rfl,a8,id,id⟩
theorem QG{s r}(h:(begin s r).1=0):Na s (begin s r).2 1:=by
 unfold begin at h⊢
 split at h
 ·exact absurd h a5
 ·rename_i h1
  split at h
  ·exact absurd h a5
  ·rename_i h2
   split at h
   ·exact absurd h a5
   ·rename_i h3
    dsimp only at h
    split at h
    ·exact absurd h a5
    ·rename_i h4
     rw[if_neg h1,if_neg h2,if_neg h3];dsimp only;rw[if_neg h4];exact⟨rfl,rfl,rfl,λe=>⟨e.1,e.2.1,e.2.2⟩,λH=>H⟩
theorem QF{s i l}(h:(write s i l).1=0):Na s (write s i l).2 1:=by
 unfold write at h⊢;dsimp only at h⊢;by_cases hb:(begin s (right s i&&decide (l.length=s.size))).1=0
 ·rw[if_pos hb];have k:=QG hb;exact⟨k.size,k.blocks,k.Dg,λe=>k.calm e,λH=>k.alive H⟩
 ·rw[if_neg hb]at h;exact absurd h hb
theorem Yv{s i}(h:(read s i).1=0):Na s (read s i).2 1:=QG h
def Ii(D:St)(t:Wt):Prop:=EM D t.first t.k t.h t.l (t.l.length/t.h)
section
variable{D:St}{t:Wt}{tu:Cv}
theorem Yr(h:t.l=[]):Ii D t:=by
 intro j e;rw[h]at e;simp at e
theorem Kf(t:Wt)(tu:Cv):(t.snoc tu).l.length=t.l.length+1:=by show (t.l++[tu]).length= _;simp
theorem Md{c h}(hh:0<h)(J:(c+1)%h≠0):(c+1)/h=c/h:=by
 have I:=Nat.div_add_mod (c+1) h;have H:=Nat.div_add_mod c h;have h3:=Bw (c+1) hh;have h4:=Bw c hh;have Q:¬(c+1)/h<c/h:=λe=>by
  have:=Nat.mul_le_mul_left h (show (c+1)/h+1<=c/h from e);rw[Nat.mul_add,Nat.mul_one]at this;omega
 have O:¬c/h<(c+1)/h:=λe=>by
  have:=Nat.mul_le_mul_left h (show c/h+1<=(c+1)/h from e);rw[Nat.mul_add,Nat.mul_one]at this;omega
 omega
theorem QW{c h}(H:0<h)(e:(c+1)%h=0):(c+1)/h=c/h+1:=by
 have:=Nat.succ_div_of_mod_eq_zero (a:=c) (b:=h) e;exact this
theorem QH{D first k h m l l'}(H:EM D first k h l m)(hm:m*h<=l.length):EM D first k h (l++l') m:=by
 intro j e;rw[H j e,lT (Af (Ae h (show j+1<=m from e)) hm)]
theorem Yt(H:0<t.h)(h:Ii D t)(e:(t.l.length+1)%t.h≠0):Ii D (t.snoc tu):=by
 unfold Ii;rw[Kf];show EM D t.first t.k t.h (t.l++[tu]) ((t.l.length+1)/t.h);rw[Md H e];exact QH h (CU _ _)
theorem QI(H:0<t.h)(e:0<t.l.length)(U:(write D (DX t:Nat) (DU D.size t)).1=0)(J:EM D t.first t.k t.h t.l (Cr t.h t.l.length-1)):EM (write D (DX t:Nat) (DU D.size t)).2 t.first t.k t.h t.l (Cr t.h t.l.length):=by
 obtain⟨Q,O,h3,_⟩:=Pe U;have qJ:=En H e;intro j hj;by_cases I:j=Cr t.h t.l.length-1
 ·subst I;show (write D (DX t:Nat) (DU D.size t)).2.now ((DX t:Nat):Int)= _;rw[Q,h3];unfold DU;rw[lU H e];rfl
 ·rw[O _ (by unfold DX;omega),h3];exact J j a5
theorem Yq(e:0<t.h)(h:Ii D t)(H:(t.l.length+1)%t.h=0)(hw:(write D (DX (t.snoc tu):Nat) (DU D.size (t.snoc tu))).1=0):Ii (write D (DX (t.snoc tu):Nat) (DU D.size (t.snoc tu))).2 (t.snoc tu):=by
 have hb:Cr t.h (t.snoc tu).l.length=(t.snoc tu).l.length/t.h:=by
  rw[Kf];exact KH H
 unfold Ii;have:=QI (t:=t.snoc tu) (D:=D) e (by rw[Kf];omega) hw (by
  show EM D t.first t.k t.h (t.l++[tu]) (Cr t.h (t.snoc tu).l.length-1);rw[hb,Kf,QW e H,BQ];exact QH h (CU _ _))
 show EM _ t.first t.k t.h (t.snoc tu).l ((t.snoc tu).l.length/t.h);rw[<-hb];exact this
theorem WQ(h:Ii D t)(e:t.l.length%t.h=0):EM D t.first t.k t.h t.l (Cr t.h t.l.length):=by rw[KH e];exact h
theorem Ut(J:0<t.h)(h:Ii D t)(H:t.l.length%t.h≠0)(hw:(write D (DX t:Nat) (DU D.size t)).1=0):EM (write D (DX t:Nat) (DU D.size t)).2 t.first t.k t.h t.l (Cr t.h t.l.length):=by
 have I:0<t.l.length:=by
  rcases A7 t.l.length with e|e
  ·rw[e]at H;simp at H
  ·exact e
 refine QI J I hw ?_;have:Cr t.h t.l.length-1=t.l.length/t.h:=by unfold Cr;rw[if_pos a5,BQ]
 rw[this];exact h
theorem VW(e:Ep t D.size)(H:0<t.l.length):t.first<=DX t/\DX t<t.first+t.blocks:=by
 have J:=En e.h.1 H;have I:=Db (h:=t.h) e.h.1 e.bound.2;have h3:=e.blocks.1;unfold DX;omega
theorem SC(H:Ep t D.size)(e:0<t.l.length)(I:((t.first+t.blocks:Nat):Int)<=D.blocks):right D (DX t:Nat)=true:=by
 have:=VW H e;unfold right;simp;omega
theorem XX(e:Ep t D.size)(I:0<t.l.length):(DU D.size t).length=D.size:=by
 have H:=e.sz;have J:=(My (l:=t.l) e.h.1 I).1;unfold DU;refine L8 ?_ a5;rw[Kx e.k.2];exact Af (Ae _ J) e.h.2.1
end
theorem J5:∀(l:List (Nat×Nat)) (x n:Nat),(∀q∈l,q.1≠x)->wordsAt (l++[(x,n)]) x=AE n
 |[],x,n,_=>by simp[wordsAt]
 |q::l,x,n,h=>by
  have I:=h q Ax;have H:=J5 l x n λq e=>h q (BB _ e);simp[wordsAt,I,H]
def AU2(F:Fs)(S1:Sp)(b:Nat)(D':St):Fs:=⟨D',FG F.A b F.D.size,S1⟩
def tk(t:Wt)(l:List Cv)(i:Nat):Wt:={t with l:=l.take i}
theorem rP{t l i tu}(h:l[i]?=AE tu):(tk t l i).snoc tu=tk t l (i+1):=by
 unfold tk Wt.snoc;simp only;rw[Bi,h];rfl
theorem Re{t l i}(h:i<=l.length):(tk t l i).l.length=i:=by unfold tk;simp;omega
structure AY4 (w:World) (F:Fs) (n x:Nat) (t:Wt) (S1:Sp) (l:List Cv):Prop where
 n:n+l.length+1<=1000000
 eZ:F.S.ok
 taken:YJ F.S S1 t.first t.blocks
 blocks:t.blocks=Cr t.h l.length
 ok:Ep t F.D.size
 bound:t.bound=l.length
 x:w<=x
 b:w<=t.b
 g:w<=t.g
 st:∀q∈F.A.st,q.1<w
def tr(r:Rt)(i:Nat):Rt:={r with pos:=i}
def AY3(w:World)(G:Nat->Prop)(p:Wp)(F:Fs)(n x:Nat)(r:Rt)(l:List Cv)(base pos cnt:Nat)(v:Value)(wr:World):Prop:=
 ∃G' D' ws,Sys wr G' p (AU2 F F.S r.b D') (n+pos)/\Gu wr x p (tr r pos) F.D.size ws/\OD G' x (tr r pos)/\DG G w wr/\(∀k,G' k->G k\/w<=k)/\Na F.D D' (Cr r.h pos)/\(∀i,D'.now i=F.D.now i)/\AL7 D' (tr r pos) l ws/\
  wr.ownsRow base 47 5 v cnt (EK (l.take cnt))/\(∀k,v.ownBlock=AE k->¬G' k)/\base<=wr
structure AY2 (w:World) (F:Fs) (n x:Nat) (r:Rt) (l:List Cv) (base:Nat):Prop where
 n:n+r.count+1<=1000000
 ok:JA {r with pos:=0} F.D.size
 blocks:r.blocks=Cr r.h r.count
 hx:w<=x
 hb:w<=r.b
 hg:w<=r.g
 st:∀q∈F.A.st,q.1<w
 Lj:x<base/\r.b<base/\r.g<base
section
variable{w wr:World}{G:Nat->Prop}{p:Wp}{F:Fs}{n x:Nat}{r:Rt}{l:List Cv}{base pos cnt:Nat}{v:Value}
theorem Qb{h i}(hh:0<h):Cr h (i+1)=if i%h=0 then Cr h i+1 else Cr h i:=by
 have I:=(Qa (c:=i) hh).2.2;have H:=En (c:=i+1) hh a5;by_cases e:i%h=0
 ·rw[if_pos e,KH e];omega
 ·rw[if_neg e];unfold Cr at I H⊢;rw[if_pos (show 0<i%h by omega)];omega
end
def sliceLen:Value->Nat
 |.slice _ n _=>n
 | _=>0
theorem lW{w:World}{base n v l}(h:w.ownsRow base 47 5 v n (EK l)):sliceLen v=n:=by
 obtain⟨_,e⟩:=h;rcases e with⟨rfl,rfl⟩|⟨g,cap,cur,rfl,_⟩<;>rfl
theorem iu(b j:Nat):(b:Addr).add j=(b,j):=by unfold CY;split<;>simp_all
theorem yR{wd wa ws d a s n D A S Gd Ga Gs}(hd:LC wd Gd d D n)(DV:Below wd wd wa)(J:Jz wa Ga a A)(I:∀k,Ga k->wd<=k)(H:A.st=[])(DN:Below wa wa ws)(Q:JY ws Gs s S)(O:∀k,Gs k->wa<=k):
  Sys (ws.alloc (AK #[ptr d,ptr a,ptr s] 87)) (λk=>k=ws\/Gd k\/Ga k\/Gs k) ⟨ws,d,a,s⟩ ⟨D,A,S⟩ n:=by
 have D9:Below ws ws (ws.alloc (AK #[ptr d,ptr a,ptr s] 87)):=(AS _ _).alloc ao _;have z1:=DV.size;have z2:=DN.size;refine⟨Gd,Ga,Gs,heap_alloc_new _ _,((hd.below DV).below (DN.mono ao)).below D9,?_,?_,λk=>BN,λk e=>⟨λh=>?_,λh=>?_,λh=>?_⟩,λk e=>⟨λh=>?_,λh=>?_⟩,λk e h=>?_,λq U=>?_⟩
 ·exact(J.Ey (DG.DB DN λ_=>False) (λ_ _ h=>h) (λ_ _ h=>h)).Ey (DG.DB D9 λ_=>False) (λ_ _ h=>h) (λ_ _ h=>h)
 ·exact Q.below D9
 ·have:=hd.lt e;have:=I k h;omega
 ·have:=hd.lt e;have:=O k h;omega
 ·have:=hd.lt e;simp only at h;omega
 ·have:=J.lt e;have:=O k h;omega
 ·have:=J.lt e;simp only at h;omega
 ·have:=Q.lt e;simp only at h;omega
 ·rw[show (⟨D,A,S⟩:Fs).A.st=[]from H]at U;cases U
theorem Wf{w G p F n}(h:Sys w G p F n)(f m:Nat)(hf:f<=100000000)(hm:m<=100000000):
  Calls AP 63 #[AI p.s,f,m] w λe w'=>e=AH ((Ez F.S f m).2:Nat)/\DQ w G p {F with S:=(Ez F.S f m).1} n w':=by
 obtain⟨I,H,J⟩:=h.spc;exact(Xv p.s F.S I f m w H (Fg.of a5 a5) (Fg.of a5 a5)).mono λe w' ⟨he,h1⟩=>⟨he,J _ _ h1⟩
theorem Ua{w G p F n}(h:Sys w G p F n)(f m k c:Nat)(hf:f<=100000000)(hm:m<=100000000):
  Calls AP 67 #[AI p.w,AL #[f,m,k,c]] w λe w'=>e=AH (if m=0 then 0 else (Ez F.S f m).2:Nat)/\DQ w G p {F with S:=Dm F.S f m} n w':=by
 have hb:=(AS w w).alloc ao (AK #[f,m,k,c] 28);have I:Row (w.alloc (AK #[f,m,k,c] 28)) w 28 [f,m,k,c]:=heap_alloc_new _ _;by_cases H:m=0
 ·subst H;have c1:(w.alloc (AK #[AA AB f,AA AB (0:Nat),AA AB k,AA AB c] 28)).cell? ⟨w.heap.size,1,AD⟩=AE (AA AB (0:Nat)):=I.cell 1;have HP:Hid (DQ w G p {F with S:=Dm F.S f 0} n (w.alloc (AK #[AA AB f,AA AB (0:Nat),AA AB k,AA AB c] 28))):=DQ.DB h hb;clear I hb h;generalize DQ w G p {F with S:=Dm F.S f 0} n=Dd at*
  go_enter func67,ntmps67
  go_wp2
  go_ret
  exact⟨rfl,HP.out⟩
 ·have HB:=AO hb;have U:Hid (Calls AP 63 #[AI p.s,f,m] (w.alloc (AK #[f,m,k,c] 28)).drew λe w'=>e=AH ((Ez F.S f m).2:Nat)/\DQ w G p {F with S:=Dm F.S f m} n w'/\(w'.cell? w=AE (AA AB f)/\w'.cell? (w,1)=AE (AA AB m)/\w'.cell? (p.w,2)=AE (AI p.s))):=by
   have e:Dm F.S f m=(Ez F.S f m).1:=by unfold Dm;rw[if_neg H]
   rw[e];exact(Wf (h.below (Cz hb)) f m hf hm).mono λe w' ⟨h1,J⟩=>by
    have Q:=J.row (I.drewN 1) (λhg=>by have:=h.lt hg;omega);exact⟨h1,J.behind (Cz hb),Q.cell 0,Q.cell 1,J.cell.2.2⟩
  have c0:(w.alloc (AK #[AA AB f,AA AB m,AA AB k,AA AB c] 28)).drew.cell? ⟨w.heap.size,0,AD⟩=AE (AA AB f):=I.cell 0;have c1:(w.alloc (AK #[AA AB f,AA AB m,AA AB k,AA AB c] 28)).cell? ⟨w.heap.size,1,AD⟩=AE (AA AB m):=I.cell 1;have d1:(w.alloc (AK #[f,m,k,c] 28)).drew.cell? (w,1)=AE (AA AB m):=I.cell 1;have c2:(w.alloc (AK #[f,m,k,c] 28)).drew.cell? (p.w,2)=AE (AI p.s):=(h.below hb).row.cell 2;have g1:((m:Int)==0)=false:=by simp;omega
  rw[if_neg H];clear I hb h;generalize DQ w G p {F with S:=Dm F.S f m} n=Dd at*
  generalize(Ez F.S f m).2=er at*
  go_enter func67,ntmps67
  go_wp2
  go_region_held3 (λw'=>w'.cell? w.heap.size=AE (AA AB f)/\w'.cell? (w.heap.size,1)=AE (AA AB m)/\w'.cell? (p.w,2)=AE (AI p.s)) (first|with_reducible exact⟨c0,d1,c2⟩|with_reducible exact O)
   (first
    |(go_at_call 63;(with_reducible refine U.out.mono ?_);rintro e w2 ⟨rfl,J,O⟩))
  have H2:=AO J;clear J O;go_wp2
  go_ret
  exact⟨rfl,H2.out⟩
theorem Zf{m n}(h:m<=n):QK (Hi 0 n) 0 m:=by
 intro b _ hb;unfold Hi;simp only;rw[if_neg a5];exact⟨(0,n),a8,a8,by simp;omega⟩
instance tupDec : DecidableEq Cv := λa b => decidable_of_iff (a.D8 = b.D8) ⟨λh => Cv.oI h, λh => h ▸ rfl⟩
theorem sV(w:World)(a b c d e a' b' c' I H:Int):(binOp .neq 47 (AL #[a,b,c,d,e]) (AL #[a',b',c',I,H])).run AP w=.ok (.bool (!(a==a'&&(b==b'&&(c==c'&&(d==I&&e==H)))))) w:=by
 have h:=oJ w a b c d e a' b' c' I H;rw[run_eql_struct]at h;rw[run_neq_struct];generalize(Op.equalIn 10000 47 (AL #[a,b,c,d,e]) (AL #[a',b',c',I,H])).run AP w=R at h⊢;generalize(a==a'&&(b==b'&&(c==c'&&(d==I&&e==H))))=X at h⊢
 cases R with
 |ok b w'=>simp[BP]at h⊢;obtain⟨rfl,rfl⟩:=h;exact⟨rfl,rfl⟩
 | _=>simp[BP]at h
theorem yP(t u:Cv):(t.a==u.a&&(t.b==u.b&&(t.c==u.c&&(t.d==u.d&&t.e==u.e))))=decide (t=u):=by
 obtain⟨a,b,c,d,e⟩:=t;obtain⟨a',b',c',O,J⟩:=u;simp only[Cv.mk.injEq];by_cases I:a=a'<;>by_cases H:b=b'<;>by_cases h3:c=c'<;>by_cases h4:d=O<;>by_cases h5:e=J<;>simp[I,H,h3,h4,h5]
theorem qz{l l':List Cv}{i:Nat}{t t'}(h:l[i]?=AE t)(h':l'[i]?=AE t')(H:t≠t'):l≠l':=λe=>by
 rw[e,h']at h;injection h with h;exact H h.symm
theorem AD6(A A':Option Addr)(m m' c c':Nat)(l l':List Cv)(w:World)(h:Lb w w A m l)(h':Lb w w A' m' l')(hm:m<=maxLen)(O:m'<=maxLen):Calls AP 17 #[AJ A m c,AJ A' m' c'] w λe w'=>e=AH (.bool (decide (l=l')))/\∃q,w'=w.drewN q:=by
 have hlen:=h.1;have H:=h'.1;have al:m<=9223372036854775807:=by unfold maxLen at hm;omega
 have aH:m'<=9223372036854775807:=by unfold maxLen at O;omega
 by_cases I:m=m'
 ·subst I;have HR:=AO h;have ad:=AO h';have HL:=AO hlen;have ae:=AO H;have g9:((m:Int) !=(m:Int))=false:=a8;clear h h' hlen H hm O;go_enter func17,ntmps17
  go_wp2
  go_loopw [5] (λiv wr=>∃i:Nat,i<=m/\iv=AA AB (i:Int)/\(∃q,wr=w.drewN q)/\Hid (l.take i=l'.take i)) (λiv _=>m-(BF iv).toNat)
  case atStart=>exact⟨0,Aq _,rfl,⟨0,rfl⟩,by simp[Hid]⟩
  case round=>
   obtain⟨i,hi,rfl,⟨q0,rfl⟩,HT⟩:=hrel;by_cases U:i<m
   ·obtain⟨b,off,t,rfl,Ia,d0,d1,d2,d3,d4,_,ht⟩:=HR.out.at_ U;obtain⟨b',Za,Q,rfl,aG,s0,s1,s2,s3,s4,_,mZ⟩:=ad.out.at_ U;have i0:(0:Int)<=(i:Int):=a5;have i1:(i:Int)<(m:Int):=a5;have g0:decide ((i:Int)<(m:Int))=true:=by simp;omega
    have heq:=yP t Q;have Qd:Hid (t=Q->l.take (i+1)=l'.take (i+1)):=λhf=>by
     rw[Bi,Bi,HT.out,ht.out,mZ.out,hf]
    have Nh:Hid (t≠Q->l≠l'):=qz ht.out mZ.out;generalize aa:decide (t=Q)=bq at heq;have J:=AO aa;obtain⟨ta,tb,tc,td,te⟩:=t;obtain⟨ua,ub,uc,ud,ue⟩:=Q;simp only at d0 d1 d2 d3 d4 s0 s1 s2 s3 s4 heq;have aF:∀q,(w.drewN q).cell? (b,off+i*5)=AE (AA AB ta):=λ_=>d0;have aE:∀q,(w.drewN q).cell? (b,off+i*5+1)=AE (AA AB tb):=λ_=>d1;have aD:∀q,(w.drewN q).cell? (b,off+i*5+2)=AE (AA AB tc):=λ_=>d2;have aC:∀q,(w.drewN q).cell? (b,off+i*5+3)=AE (AA AB td):=λ_=>d3;have aB:∀q,(w.drewN q).cell? (b,off+i*5+4)=AE (AA AB te):=λ_=>d4;have aA:∀q,(w.drewN q).cell? (b',Za+i*5)=AE (AA AB ua):=λ_=>s0;have aw:∀q,(w.drewN q).cell? (b',Za+i*5+1)=AE (AA AB ub):=λ_=>s1;have av:∀q,(w.drewN q).cell? (b',Za+i*5+2)=AE (AA AB uc):=λ_=>s2;have ar:∀q,(w.drewN q).cell? (b',Za+i*5+3)=AE (AA AB ud):=λ_=>s3;have ao:∀q,(w.drewN q).cell? (b',Za+i*5+4)=AE (AA AB ue):=λ_=>s4;have hq:=λW=>sV W ta tb tc td te ua ub uc ud ue;simp only[heq]at hq;have hg:=λW x y=>UR W .neq x y #[ta,tb,tc,td,te] #[ua,ub,uc,ud,ue];clear heq aa ht mZ
    cases bq
    ·have qX:Hid (decide (l=l')=false):=by
      unfold Hid;rw[decide_eq_false_iff_not];exact Nh.out (of_decide_eq_false J.out)
     clear J Nh Qd;go_wp2
     go_quiet (fail)
     go_wp2
     go_ret
     exact⟨II qX.out.symm,_,World.drewN_drewN _ _ _⟩
    ·have ab:=AO (Qd.out (of_decide_eq_true J.out));clear J Nh Qd;go_wp2
     go_quiet (fail)
     go_wp2
     go_roundw
     case rel=>exact⟨i+1,a5,by go_num,⟨_,rfl⟩,ab.out⟩
     case measure=>simp[BF];omega
   ·obtain rfl:i=m:=a5;have HE:Hid (decide (l=l')=true):=by
     have h:=HT.out;rw[Ao (by have:=HL.out;omega),Ao (by have:=ae.out;omega)]at h;exact decide_eq_true h
    have g0:decide ((i:Int)<(i:Int))=false:=a8;go_wp2
    go_ret
    exact⟨II HE.out.symm,q0,rfl⟩
 ·have qX:Hid (decide (l=l')=false):=by
   unfold Hid;rw[decide_eq_false_iff_not];intro e;exact I (by rw[<-hlen,<-H,e])
  have g9:((m:Int) !=(m':Int))=true:=by simpa using λh:(m:Int)=(m':Int)=>I a5
  clear h h' hlen H hm O I;go_enter func17,ntmps17
  go_wp2
  go_ret
  exact⟨II qX.out.symm,0,rfl⟩
def Ad9(w0:World)(p:Wp)(F:Fs)(n:Nat)(rs:List (Nat×TypeId×List Value))(W:World):Prop:=
 ∃G,Sys W G p F n/\(∀k,G k->w0<=k)/\Below w0 w0 W/\∀r∈rs,Row W r.1 r.2.1 r.2.2/\¬G r.1/\r.2.1≠119
theorem dy{S S1 a m}(e:YJ S S1 a m):ED S1.fr+m=ED S.fr:=by
 rcases e with⟨rfl,_,rfl⟩|⟨hm,e,_⟩
 ·rfl
 ·exact e.sum
theorem UG(n:Nat):ED (Hi 0 n).fr=n:=by
 unfold Hi ED;simp only
 split<;>simp_all
theorem aP{w G p F n x r ws l}(h:Sys w G p F n)(hn:n<1000000)(H:JA r F.D.size)(hm:Gu w x p r F.D.size ws)(ho:OD G x r)(hc:l.length=r.count)(De:r.pos<r.count)
  (aa:r.pos%r.h=0->(read F.D ((r.first+r.pos/r.h:Nat):Int)).1=0/\F.D.now ((r.first+r.pos/r.h:Nat):Int)=Gi F.D.size (r.first+r.pos/r.h) r.k (JI r.h r.k l (r.pos/r.h)))
  (SY:r.pos%r.h≠0->ws.take (min r.h (r.count-r.pos/r.h*r.h)*r.k)=JI r.h r.k l (r.pos/r.h)){t}(ht:l[r.pos]?=AE t)(J:EE t)(O:Dc r.k t=true):
  Calls AP 48 #[AI x] w λe w'=>e=AH (AM #[AL #[t.a,t.b,t.c,t.d,t.e],true,()])/\
   ∃E7,KT w G p {F with D:=cA F.D r} (n+1) x {r with pos:=r.pos+1} E7 w'/\E7.take (min r.h (r.count-r.pos/r.h*r.h)*r.k)=JI r.h r.k l (r.pos/r.h):=by
 unfold cA;have ab:=H.sz;by_cases I:r.pos%r.h=0
 ·rw[if_pos I];obtain⟨he,hs⟩:=aa I;have Hl:(JI r.h r.k l (r.pos/r.h)).length=min r.h (r.count-r.pos/r.h*r.h)*r.k:=by rw[fI H.k.2,hc]
  have hle:(JI r.h r.k l (r.pos/r.h)).length<=F.D.size-2:=Af (sO H.k.2 l _) H.h.2.1;have g1:okW (F.D.now ((r.first+r.pos/r.h:Nat):Int)) (r.first+r.pos/r.h)=true:=by rw[hs];exact ru hle a5
  have g2:PV (F.D.now ((r.first+r.pos/r.h:Nat):Int))=r.k:=by rw[hs];exact Wq hle a5
  have g3:GB (F.D.now ((r.first+r.pos/r.h:Nat):Int))-1=min r.h (r.count-r.pos/r.h*r.h)*r.k:=by rw[hs,Wr hle a5,Hl,BQ]
  have g4:(F.D.now ((r.first+r.pos/r.h:Nat):Int)).take (min r.h (r.count-r.pos/r.h*r.h)*r.k)=JI r.h r.k l (r.pos/r.h):=by rw[hs,<-Hl];exact UC
  have Q:(splice ws 0 ((F.D.now ((r.first+r.pos/r.h:Nat):Int)).take (min r.h (r.count-r.pos/r.h*r.h)*r.k))).take (min r.h (r.count-r.pos/r.h*r.h)*r.k)=JI r.h r.k l (r.pos/r.h):=by
   rw[g4];unfold splice;rw[Bt,BI,List.take_left' Hl]
  have U:=aQ h H hm ho De (Jg F.D ((r.first+r.pos/r.h:Nat):Int) 0).2.1 I λW hb=>fG (h.below hb) hn H (hm.below hb) ho De he g1 g2 g3;rw[Vr H.k.2 H.h.1 De hc Q ht J O]at U;exact U.mono λe w' ⟨h1,h2⟩=>⟨h1,_,h2,Q⟩
 ·rw[if_neg I];have hb:=SY I;have U:=UW h H hm ho De I;rw[Vr H.k.2 H.h.1 De hc hb ht J O]at U;exact U.mono λe w' ⟨h1,G',k1,k2⟩=>⟨h1,_,⟨G',k1.mono a5 a5,k2⟩,hb⟩
def AY1(w0:World)(p:Wp)(F:Fs)(n:Nat)(rs:List (Nat×TypeId×List Value))(x:Nat)(r:Rt)(ws:List Nat)(W:World):Prop:=
 ∃G,Sys W G p F n/\(∀k,G k->w0<=k)/\Below w0 w0 W/\(∀q∈rs,Row W q.1 q.2.1 q.2.2/\¬G q.1/\q.2.1≠119/\q.2.1≠120/\q.2.1≠134)/\Gu W x p r F.D.size ws/\OD G x r/\w0<=x/\w0<=r.b/\w0<=r.g
theorem Jd(l:List (Nat×Nat))(x y n m:Nat)(h:wordsAt l x=AE n):wordsAt (l++[(y,m)]) x=AE n:=by
 induction l with
 |nil=>simp[wordsAt]at h
 |cons q l ih=>
  simp only[B8,wordsAt]at h⊢
  split
  ·rename_i h1;rw[if_pos h1]at h;exact h
  ·rename_i h1;rw[if_neg h1]at h;exact ih h
theorem E4:∀(l:List (Nat×Nat)) (x y n:Nat),wordsAt l x=AE n->x≠y->wordsAt (Fo l y) x=AE n
 |[],x,y,n,h,_=>by simp[wordsAt]at h
 |q::l,x,y,n,h,hne=>by
  simp only[wordsAt]at h;simp only[Fo];by_cases H:q.1=y
  ·rw[if_pos H];rw[if_neg (by rw[H];exact λe=>hne e.symm)]at h;exact h
  ·rw[if_neg H];simp only[wordsAt];by_cases I:q.1=x
   ·rw[if_pos I]at h⊢;exact h
   ·rw[if_neg I]at h⊢;exact E4 l x y n h hne
structure Wok (w0 W:World) (G:Nat->Prop) (p:Wp) (F:Fs) (x:Nat) (t:Wt):Prop where
 ok:Ep t F.D.size
 mem:O7 W x p t F.D.size
 out:YI G x t
 st:wordsAt F.A.st t.b=AE F.D.size
 stand:Ii F.D t
 new:w0<=x/\w0<=t.b/\w0<=t.g
 fit:∀u∈t.l,EE u/\Dc t.k u=true
structure Wap (x:Nat) (t:Wt) (x':Nat) (t':Wt):Prop where
 x:x≠x'
 b:t.b≠t'.b
 g:t.g≠t'.g
 ext:∀i,t.first<=i->i<t.first+t.blocks->¬(t'.first<=i/\i<t'.first+t'.blocks)
section
variable{w0 W W':World}{G G':Nat->Prop}{p:Wp}{F F':Fs}{n x:Nat}{t:Wt}
theorem de(h:Sys W G p F n)(width bound:Int)(O:Below w0 w0 W):Calls AP 28 #[AI p.w,width,bound] W λe w'=>
  (∃er,e=AH (AM #[AI AD,AA AB er])/\AL6 F width bound er/\DQ W G p F n w')\/
  (∃x t S' G',e=AH (AM #[AI (AE ⟨x,0,AD⟩),()])/\Mh F width bound/\F.D.size<=F.A.room-F.A.used/\(t.k:Int)=width/\(t.bound:Int)=bound/\t.h=Ct F.D.size width/\t.l=[]/\YJ F.S S' t.first t.blocks/\(∀q∈F.A.st,q.1≠t.b)/\
   Sys w' G' p {F with S:=S',A:=FG F.A t.b F.D.size} n/\Wok w0 w' G' p {F with S:=S',A:=FG F.A t.b F.D.size} x t/\DG G W w'/\(∀k,G' k->G k\/W<=k)/\W<=x/\W<=t.b/\W<=t.g):=by
 refine(aM h width bound).mono ?_;rintro e w' (⟨er,he,hw,hs⟩|⟨x,t,S1,he,wH,MN,Pj,Q,J,I,aa,U,DK,k1,k2,k3,G1,k4,k5,k6,k7,k8⟩)
 ·exact .inl ⟨er,he,hw,hs⟩
 ·have z:=O.size;have H:∀q∈F.A.st,q.1≠t.b:=λq H e=>by have:=(h.buf H).1.lt;omega
  exact .inr ⟨x,t,S1,G1,he,wH,MN,Pj,Q,J,I,U,H,k4,⟨DK,k5,k6,J5 _ _ _ H,Yr I,⟨a5,a5,a5⟩,λu hu=>by rw[I]at hu;cases hu⟩,k7,k8,k1,k2,k3⟩
end
structure DA where
 K:Nat->Prop
 A:World->Prop
 gr:Option (Nat×Nat)
 ex:Nat×Nat
 dA:St->Prop
def I2(e:Nat×Nat)(z:Nat):Prop:=e.1<=z/\z<e.1+e.2
structure DA.Ok (a:DA):Prop where
 okA:∀W W',a.A W->(∀k,a.K k->W'.heap[k]?=W.heap[k]?)->a.A W'
 okD:∀D D',a.dA D->D'.size=D.size->(∀z:Nat,I2 a.ex z->D'.now z=D.now z)->a.dA D'
 grK:∀b n,a.gr=AE (b,n)->a.K b
def DA.gw(a:DA):Nat:=match a.gr with
 |some q=>q.2
 |none=>0
def DA.xw(a:DA):Nat:=a.ex.2
def DC{α:Type}(f:α->Nat)(l:List α):Nat:=(l.map f).sum
theorem Je{α}(f:α->Nat):∀(l:List α) (i:Nat) (a b:α),l[i]?=AE a->DC f (l.set i b)+f a=DC f l+f b
 |[],i,a,b,h=>by simp at h
 |x::l,0,a,b,h=>by simp at h;subst h;simp[DC];omega
 |x::l,i+1,a,b,h=>by
  have:=Je f l i a b (by simpa using h);simp[DC]at this⊢;omega
theorem Dz{α}(f:α->Nat)(l:List α)(a:α):DC f (l++[a])=DC f l+f a:=by simp[DC]
structure Cx where
 w0:World
 p:Wp
 S0:Sp
 rm:Nat
 sz:Nat
 bl:Int
 cm:Prop
 N:Nat
 C:Nat
 n:Nat
structure KI (X:Cx) (os:List DA) (m:Nat) (W:World) (G:Nat->Prop) (D:St) (A:Ar) (S:Sp):Prop where
 sys:Sys W G X.p ⟨D,A,S⟩ (X.n+m)
 Lx:X.n<=X.N/\X.N+m<=1000000
 base:∀k,G k->X.w0.heap.size<=k
 Tw:Below X.w0.heap.size X.w0 W
 size:D.size=X.sz
 blocks:D.blocks=X.bl
 alive:D.down=false/\D.fb=false
 calm:X.cm->Calm D
 Dg:D.Dg<=((X.C+m:Nat):Int)
 room:A.room=X.rm
 used:A.used=DC DA.gw os
 ok:∀(i:Nat) (a:DA),os[i]?=AE a->a.Ok
 st:∀(i:Nat) (a:DA) (b n:Nat),os[i]?=AE a->a.gr=AE (b,n)->wordsAt A.st b=AE n
 mem:∀(i:Nat) (a:DA),os[i]?=AE a->a.A W/\∀k,a.K k->k<W/\X.w0.heap.size<=k/\¬G k
 Te:∀(i:Nat) (a:DA),os[i]?=AE a->a.dA D
 apart:∀(i j:Nat) (a b:DA),os[i]?=AE a->os[j]?=AE b->i≠j->∀k,a.K k->¬b.K k
 exa:∀(i j:Nat) (a b:DA),os[i]?=AE a->os[j]?=AE b->i≠j->∀z,I2 a.ex z->¬I2 b.ex z
 exs:∀(i:Nat) (a:DA),os[i]?=AE a->∀z,I2 a.ex z->hasB X.S0.fr z
 s0:X.S0.ok
 sp:S.first=X.S0.first/\S.blocks=X.S0.blocks
 free:∀z,hasB S.fr z↔hasB X.S0.fr z/\∀(i:Nat) (a:DA),os[i]?=AE a->¬I2 a.ex z
 sum:ED S.fr+DC DA.xw os=ED X.S0.fr
 range:((X.S0.first+X.S0.blocks:Nat):Int)<=X.bl
def Wd(X:Cx)(os:List DA)(m:Nat)(W:World):Prop:=∃G D A S,KI X os m W G D A S
def Dt:DA:=⟨λ_=>False,λ_=>True,AD,(0,0),λ_=>True⟩
theorem LR:Dt.Ok:=⟨λ_ _ _ _=>trivial,λ_ _ _ _ _=>trivial,λ_ _ h=>by cases h⟩
theorem DT(a z:Nat):¬I2 (a,0) z:=λh=>by unfold I2 at h;simp only at h;omega
def Cs(g:Nat)(t:TypeId)(cs:List Value):DA:=⟨λk=>k=g,λW=>Row W g t cs,AD,(0,0),λ_=>True⟩
theorem VC(g:Nat)(t:TypeId)(cs:List Value):(Cs g t cs).Ok:=⟨λW W' h e=>(e g rfl).trans h,λ_ _ _ _ _=>trivial,λ_ _ h=>by cases h⟩
theorem KL{α:Type}{l:List α}{i j a b}(h:(l.set i a)[j]?=AE b):(j=i/\b=a)\/(j≠i/\l[j]?=AE b):=by
 rw[Av]at h;by_cases H:i=j
 ·rw[if_pos H]at h
  split at h
  ·injection h with h;exact .inl ⟨H.symm,h.symm⟩
  ·cases h
 ·rw[if_neg H]at h;exact .inr ⟨λe=>H e.symm,h⟩
theorem G7{α:Type}{l j}{a b:α}(h:(l++[a])[j]?=AE b):(j=l.length/\b=a)\/(j<l.length/\l[j]?=AE b):=by
 rcases Am j l.length with e|e
 ·rw[Al e]at h;exact .inr ⟨e,h⟩
 ·rw[AX e]at h;have:j-l.length=0:=by
   rcases A7 (j-l.length)with H|H
   ·exact H
   ·rw[BG (by simp;omega)]at h;cases h
  rw[this]at h;simp at h;exact .inl ⟨a5,h.symm⟩
section
variable{X:Cx}{os:List DA}{m m' i:Nat}{W W':World}{G G':Nat->Prop}{D D':St}{A A':Ar}{S S':Sp}{a a':DA}
theorem KI.step(h:KI X os m W G D A S)(hi:os[i]?=AE a)(sys:Sys W' G' X.p ⟨D',A',S'⟩ (X.n+m'))(Ey:DG (λk=>G k\/a.K k) W W')(hG:∀k,G' k->G k\/W<=k)
  (ok:a'.Ok)(mem:a'.A W')(lz:∀k,a'.K k->(a.K k\/W<=k)/\k<W'/\¬G' k)
  (hD:D'.size=D.size/\D'.blocks=D.blocks)(alive:D'.down=false/\D'.fb=false)(calm:Calm D->Calm D')(Dg:D'.Dg<=((X.C+m':Nat):Int))
  (now:∀z:Nat,¬I2 a.ex z->D'.now z=D.now z)(Te:a'.dA D')
  (room:A'.room=A.room)(used:A'.used+a.gw=A.used+a'.gw)(st:∀b n,wordsAt A.st b=AE n->¬a.K b->wordsAt A'.st b=AE n)(gr:∀b n,a'.gr=AE (b,n)->wordsAt A'.st b=AE n)
  (sp:S'.first=S.first/\S'.blocks=S.blocks)(free:∀z,hasB S'.fr z↔(hasB S.fr z\/I2 a.ex z)/\¬I2 a'.ex z)(ab:∀z,I2 a'.ex z->I2 a.ex z\/hasB S.fr z)(sum:ED S'.fr+a'.xw=ED S.fr+a.xw)(Lx:X.N+m'<=1000000:=by first|exact(KI.Lx a9).2|omega):
  KI X (os.set i a') m' W' G' D' A' S':=by
 have ad:i<os.length:=by
  rcases Am i os.length with U|U
  ·exact U
  ·rw[BG U]at hi;cases hi
 have hz:=Ey.size;have ae:=h.Tw.size;have hold:∀(j:Nat) (b:DA),j≠i->os[j]?=AE b->∀k,b.K k->W'.heap[k]?=W.heap[k]?/\k<W/\X.w0.heap.size<=k/\¬G k:=λj b hj hb k H=>by
  obtain⟨J,Q,h3⟩:=(h.mem j b hb).2 k H;exact⟨Ey.block k J λhf=>hf.elim h3 (h.apart j i b a hb hi hj k H),J,Q,h3⟩
 have aa:∀k,a.K k->X.w0.heap.size<=k:=λk H=>((h.mem i a hi).2 k H).2.1;have s1:=Je DA.gw os i a a' hi;have s2:=Je DA.xw os i a a' hi;have s3:=h.sum;have s4:=h.used
 exact {
  sys:=sys
  Lx:=⟨h.Lx.1,Lx⟩
  base:=λk H=>(hG k H).elim (h.base k) λU=>by omega
  Tw:=h.Tw.trans (Ey.below ae λk H=>H.elim (h.base k) (aa k))
  size:=hD.1.trans h.size
  blocks:=hD.2.trans h.blocks
  alive:=alive
  calm:=λhc=>calm (h.calm hc)
  Dg:=Dg
  room:=room.trans h.room
  used:=a5
  ok:=λj b hb=>(KL hb).elim (λe=>e.2▸ok) λe=>h.ok j b e.2
  st:=λj b c n hb hg=>(KL hb).elim (λe=>gr c n (by rw[<-e.2];exact hg)) λe=>st c n (h.st j b c n e.2 hg) (h.apart j i b a e.2 hi e.1 c ((h.ok j b e.2).grK c n hg))
  mem:=λj b hb=>(KL hb).elim (λe=>by
    rw[e.2];exact⟨mem,λk H=>⟨(lz k H).2.1,(lz k H).1.elim (aa k) λU=>by omega,(lz k H).2.2⟩⟩) λe=>⟨(h.ok j b e.2).okA W W' (h.mem j b e.2).1 λk H=>(hold j b e.1 e.2 k H).1,λk H=>by
    obtain⟨J,Q,h3,h4⟩:=hold j b e.1 e.2 k H;exact⟨a5,h3,λhg=>(hG k hg).elim h4 λU=>by omega⟩⟩
  Te:=λj b hb=>(KL hb).elim (λe=>e.2▸Te) λe=>(h.ok j b e.2).okD D D' (h.Te j b e.2) hD.1 λz hz=>now z (h.exa j i b a e.2 hi e.1 z hz)
  apart:=λj j2 b b2 hb DN O k H JV=>by
   rcases KL hb with⟨e1,e2⟩|⟨e1,e2⟩<;>rcases KL DN with⟨e3,e4⟩|⟨e3,e4⟩
   ·exact O (e1.trans e3.symm)
   ·subst e2;obtain⟨J,Q,_⟩:=hold j2 b2 e3 e4 k JV;exact(lz k H).1.elim (λha=>h.apart i j2 a b2 hi e4 (λe=>e3 e.symm) k ha JV) λU=>by omega
   ·subst e4;obtain⟨J,Q,_⟩:=hold j b e1 e2 k H;exact(lz k JV).1.elim (λha=>h.apart i j a b hi e2 (λe=>e1 e.symm) k ha H) λU=>by omega
   ·exact h.apart j j2 b b2 e2 e4 O k H JV
  exa:=λj j2 b b2 hb DN O z I Js=>by
   have key:∀(q:Nat) (c:DA),q≠i->os[q]?=AE c->I2 c.ex z->I2 a'.ex z->False:=λq c hq hc J Q=>by
    rcases ab z Q with h3|h3
    ·exact h.exa q i c a hc hi hq z J h3
    ·exact((h.free z).1 h3).2 q c hc J
   rcases KL hb with⟨e1,e2⟩|⟨e1,e2⟩<;>rcases KL DN with⟨e3,e4⟩|⟨e3,e4⟩
   ·exact O (e1.trans e3.symm)
   ·subst e2;exact key j2 b2 e3 e4 Js I
   ·subst e4;exact key j b e1 e2 I Js
   ·exact h.exa j j2 b b2 e2 e4 O z I Js
  exs:=λj b hb z I=>(KL hb).elim (λe=>by
    rw[e.2]at I;exact(ab z I).elim (h.exs i a hi z) λh3=>((h.free z).1 h3).1) λe=>h.exs j b e.2 z I
  s0:=h.s0
  sp:=⟨sp.1.trans h.sp.1,sp.2.trans h.sp.2⟩
  free:=λz=>by
   rw[free z];refine⟨λ⟨J,Q⟩=>⟨J.elim (λh3=>((h.free z).1 h3).1) (h.exs i a hi z),λj b hb I=>?_⟩,λ⟨J,Q⟩=>⟨?_,Q i a' (by rw[Av,if_pos rfl,if_pos ad])⟩⟩
   ·rcases KL hb with⟨e1,e2⟩|⟨e1,e2⟩
    ·rw[e2]at I;exact Q I
    ·exact J.elim (λh3=>((h.free z).1 h3).2 j b e2 I) λh3=>h.exa j i b a e2 hi e1 z I h3
   ·by_cases ha:I2 a.ex z
    ·exact .inr ha
    ·refine .inl ((h.free z).2 ⟨J,λj b hb I=>?_⟩);by_cases hj:j=i
     ·rw[hj,hi]at hb;injection hb with hb;subst hb;exact ha I
     ·exact Q j b (by rw[Av,if_neg (λe=>hj e.symm)];exact hb) I
  sum:=a5
  range:=h.range}
theorem KI.grow (h : KI X os m W G D A S) : KI X (os ++ [Dt]) m W G D A S :=
  { sys := h.sys, Lx := h.Lx, base := h.base, Tw := h.Tw, size := h.size, blocks := h.blocks, alive := h.alive, calm := h.calm, Dg := h.Dg, room := h.room, s0 := h.s0, sp := h.sp, range := h.range
    used := by rw [Dz]; exact h.used
    sum := by rw [Dz]; exact h.sum
    ok := λj b hb => (G7 hb).elim (λe => e.2 ▸ LR) λe => h.ok j b e.2
    st := λj b c n hb hg => (G7 hb).elim (λe => by rw [e.2] at hg; cases hg) λe => h.st j b c n e.2 hg
    mem := λj b hb => (G7 hb).elim (λe => by rw [e.2]; exact ⟨trivial, λk O => O.elim⟩) λe => h.mem j b e.2
    Te := λj b hb => (G7 hb).elim (λe => by rw [e.2]; exact trivial) λe => h.Te j b e.2
    apart := λj U b b2 hb DN J k O JV => by
      rcases G7 hb with ⟨e1, I⟩ | ⟨e1, I⟩ <;> rcases G7 DN with ⟨e3, Q⟩ | ⟨e3, Q⟩
      · rw [I] at O; exact O
      · rw [I] at O; exact O
      · rw [Q] at JV; exact JV
      · exact h.apart j U b b2 I Q J k O JV
    exa := λj U b b2 hb DN J z H Js => by
      rcases G7 hb with ⟨e1, I⟩ | ⟨e1, I⟩ <;> rcases G7 DN with ⟨e3, Q⟩ | ⟨e3, Q⟩
      · rw [I] at H; exact DT _ _ H
      · rw [I] at H; exact DT _ _ H
      · rw [Q] at Js; exact DT _ _ Js
      · exact h.exa j U b b2 I Q J z H Js
    exs := λj b hb z H => (G7 hb).elim (λe => by rw [e.2] at H; exact (DT _ _ H).elim) λe => h.exs j b e.2 z H
    free := λz => by
      rw [h.free z];refine ⟨λ⟨h1, h2⟩ => ⟨h1, λj b hb H => (G7 hb).elim (λe => by rw [e.2] at H; exact DT _ _ H) λe => h2 j b e.2 H⟩, λ⟨h1, h2⟩ => ⟨h1, λj b hb H => h2 j b ?_ H⟩⟩;rw [Al]
      · exact hb
      · rcases Am j os.length with hl | hl
        · exact hl
        · rw [BG hl] at hb; cases hb }
theorem KI.drop (h : KI X (os ++ [a]) m W G D A S) (I : a.gr = AD) (hx : a.ex.2 = 0) : KI X os m W G D A S := by
  have hle : ∀ (j : Nat) (b : DA), os[j]? = AE b -> (os ++ [a])[j]? = AE b := λj b hb => by
    rw [Al]
    · exact hb
    · rcases Am j os.length with H | H
      · exact H
      · rw [BG H] at hb; cases hb
  have GZ : a.gw = 0 := by unfold DA.gw; rw [I]
  have hu := h.used;have hs := h.sum;rw [Dz] at hu hs;have U : a.xw = 0 := hx
  exact { sys := h.sys, Lx := h.Lx, base := h.base, Tw := h.Tw, size := h.size, blocks := h.blocks, alive := h.alive, calm := h.calm, Dg := h.Dg, room := h.room, s0 := h.s0, sp := h.sp, range := h.range
          used := by omega
          sum := by omega
          ok := λj b hb => h.ok j b (hle j b hb)
          st := λj b c n hb I => h.st j b c n (hle j b hb) I
          mem := λj b hb => h.mem j b (hle j b hb)
          Te := λj b hb => h.Te j b (hle j b hb)
          apart := λj e b b2 hb DN => h.apart j e b b2 (hle j b hb) (hle e b2 DN)
          exa := λj e b b2 hb DN => h.exa j e b b2 (hle j b hb) (hle e b2 DN)
          exs := λj b hb => h.exs j b (hle j b hb)
          free := λz => by
            rw [h.free z];refine ⟨λ⟨J, h2⟩ => ⟨J, λj b hb => h2 j b (hle j b hb)⟩, λ⟨J, h2⟩ => ⟨J, λj b hb Q => ?_⟩⟩;rcases G7 hb with ⟨e1, O⟩ | ⟨e1, O⟩
            · rw [O] at Q; unfold I2 at Q; omega
            · exact h2 j b O Q }
theorem Wd.grow(h:Wd X os m W):Wd X (os++[Dt]) m W:=by obtain⟨G,D,A,S,h⟩:=h;exact⟨G,D,A,S,h.grow⟩
theorem Wd.drop(h:Wd X (os++[a]) m W)(H:a.gr=AD)(e:a.ex.2=0):Wd X os m W:=by obtain⟨G,D,A,S,h⟩:=h;exact⟨G,D,A,S,h.drop H e⟩
theorem KI.below (h : KI X os m W G D A S) (hb : Below W W W') : KI X os m W' G D A S :=
  { sys := h.sys.below hb, Lx := h.Lx, base := h.base, Tw := h.Tw.trans (hb.mono h.Tw.size), size := h.size, blocks := h.blocks, alive := h.alive, calm := h.calm, Dg := h.Dg, room := h.room, s0 := h.s0, sp := h.sp, range := h.range, used := h.used, sum := h.sum, ok := h.ok, st := h.st, Te := h.Te, apart := h.apart, exa := h.exa, exs := h.exs, free := h.free
    mem := λj b DV => ⟨(h.ok j b DV).okA W W' (h.mem j b DV).1 λk e => hb.block k ((h.mem j b DV).2 k e).1, λk e => by
      obtain ⟨I, H, h3⟩ := (h.mem j b DV).2 k e;have := hb.size;exact ⟨a5, H, h3⟩⟩ }
theorem Wd.below(h:Wd X os m W)(hb:Below W W W'):Wd X os m W':=by obtain⟨G,D,A,S,h⟩:=h;exact⟨G,D,A,S,h.below hb⟩
theorem Wd.drewN(h:Wd X os m W)(q:Nat):Wd X os m (W.drewN q):=h.below (Cy (AS _ _) q)
theorem Wd.size(h:Wd X os m W):X.w0.heap.size<=W:=by obtain⟨G,D,A,S,h⟩:=h;exact h.Tw.size
theorem Wd.Tw(h:Wd X os m W):Below X.w0.heap.size X.w0 W:=by obtain⟨G,D,A,S,h⟩:=h;exact h.Tw
theorem Wd.at_(h:Wd X os m W)(hi:os[i]?=AE a):a.A W:=by obtain⟨G,D,A,S,h⟩:=h;exact(h.mem i a hi).1
theorem Wd.row(h:Wd X os m W){g}{t}{cs}(hi:os[i]?=AE (Cs g t cs)):Row W g t cs:=h.at_ hi
theorem Wd.bounds(h:Wd X os m W):(8<=X.sz/\X.sz<=256)/\X.N+m<=1000000:=by obtain⟨G,D,A,S,h⟩:=h;have:=h.sys.size;exact⟨by rw[<-h.size];exact this,h.Lx.2⟩
theorem Wd.apart(h:Wd X os m W){j}{b}(hi:os[i]?=AE a)(I:os[j]?=AE b)(e:i≠j){k}(H:a.K k):¬b.K k:=by obtain⟨G,D,A,S,h⟩:=h;exact h.apart i j a b hi I e k H
theorem Wd.lt(h:Wd X os m W)(hi:os[i]?=AE a){k}(e:a.K k):k<W/\X.w0.heap.size<=k:=by obtain⟨G,D,A,S,h⟩:=h;exact⟨((h.mem i a hi).2 k e).1,((h.mem i a hi).2 k e).2.1⟩
theorem Wd.Of(h:Wd X os m W)(hi:os[i]?=AE a){R}(hf:DG R W W')(hR:∀k,R k->a.K k/\∀v,¬Row W k 119 [v])(ok:a'.Ok)(mem:a'.A W')(O:∀k,a'.K k->(a.K k\/W<=k)/\k<W')(I:a'.gr=a.gr)(J:a'.ex=a.ex)(hd:∀D,a.dA D->a'.dA D):Wd X (os.set i a') m W':=by
 obtain⟨G,D,A,S,h⟩:=h;have U:=h.sys.Wa hf λk e=>⟨((h.mem i a hi).2 k (hR k e).1).2.2,(hR k e).2⟩;refine⟨G,D,A,S,h.step hi U (hf.mono λk e=>.inr (hR k e).1) (λk e=>.inl e) ok mem (λk e=>⟨(O k e).1,(O k e).2,λI=>?_⟩) ⟨rfl,rfl⟩ h.alive id h.Dg (λ_ _=>rfl) (hd D (h.Te i a hi)) rfl (by unfold DA.gw;rw[I]) (λ_ _ hw _=>hw) (λb n hb=>h.st i a b n hi (by rw[<-I];exact hb)) ⟨rfl,rfl⟩ (λz=>?_) (λz Q=>.inl (by rw[<-J];exact Q)) (by unfold DA.xw;rw[J])⟩
 ·rcases(O k e).1 with H|H
  ·exact((h.mem i a hi).2 k H).2.2 I
  ·have:=h.sys.lt I;omega
 ·rw[J];refine⟨λH=>⟨.inl H,((h.free z).1 H).2 i a hi⟩,λ⟨H,h2⟩=>H.elim id λh3=>absurd h3 h2⟩
theorem Wd.jq(h:Wd X os m W)(hi:os[i]?=AE a)(ok:a'.Ok)(mem:a.A W->a'.A W)(H:∀k,a'.K k->a.K k)(J:a'.gr=a.gr)(I:a'.ex=a.ex)(hd:∀D,a.dA D->a'.dA D):Wd X (os.set i a') m W:=
 h.Of hi (R:=λ_=>False) (DG.refl _ _) (λ_ e=>e.elim) ok (mem (h.at_ hi)) (λk e=>⟨.inl (H k e),(h.lt hi (H k e)).1⟩) J I hd
theorem Wd.new(h:Wd X os m W){g}{t}{cs}(hb:Below W W W')(H:Row W' g t cs)(J:W<=g):Wd X (os++[Cs g t cs]) m W':=by
 have O:=h.grow;have I:=O.Of (i:=os.length) (a:=Dt) (a':=Cs g t cs) (W':=W') (R:=λ_=>False) (by rw[AX ao,Ap];rfl) (DG.DB hb _) (λk e=>e.elim) (VC g t cs) H (λk e=>by
  have e:k=g:=e;subst e;exact⟨.inr J,H.lt⟩) rfl rfl (λ_ _=>trivial)
 rw[As _ _ ao,Ap]at I;exact I
theorem Wd.store(h:Wd X os m W){g}{t}{cs}(hi:os[i]?=AE (Cs g t cs))(I:t≠119)(j:Nat)(v:Value):Wd X (os.set i (Cs g t (cs.set j v))) m (W.setCell (g,j) v):=by
 have H:=h.row hi;refine h.Of hi (R:=λk=>k=g) (DG.one g j v) (λk e=>⟨e,λu hu=>?_⟩) (VC _ _ _) (H.set j v) (λk e=>⟨.inl e,?_⟩) rfl rfl (λ_ h=>h)
 ·subst e;exact I (H.typed hu)
 ·have e:k=g:=e;subst e;exact(H.set j v).lt
theorem Wd.Nn(h:Wd X os m W){g}{t}{cs JX}(hi:os[i]?=AE (Cs g t cs))(I:t≠119)(hf:DG (λk=>k=g) W W')(H:Row W' g t JX):Wd X (os.set i (Cs g t JX)) m W':=by
 have J:=h.row hi;refine h.Of hi (R:=λk=>k=g) hf (λk e=>⟨e,λu hu=>?_⟩) (VC _ _ _) H (λk e=>⟨.inl e,?_⟩) rfl rfl (λ_ h=>h)
 ·subst e;exact I (J.typed hu)
 ·have e:k=g:=e;subst e;exact H.lt
theorem Wd.mono(h:Wd X os m W)(hm:m<=m')(e:X.N+m'<=1000000):Wd X os m' W:=by
 obtain⟨G,D,A,S,h⟩:=h;exact⟨G,D,A,S,{h with sys:=h.sys.mono a5 (by have:=h.Lx;omega),Lx:=⟨h.Lx.1,e⟩,Dg:=by have:=h.Dg;omega}⟩
end
end Go.Proofs.YthfnbpjegjbbiaaGreat
