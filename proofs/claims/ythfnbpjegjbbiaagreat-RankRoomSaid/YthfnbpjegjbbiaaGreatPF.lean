/- What the laws stand on. -/
import Derived.Test.YthfnbpjegjbbiaaGreatPE
namespace Go.Proofs.YthfnbpjegjbbiaaGreat
set_option linter.unusedVariables false
set_option linter.unusedSimpArgs false
set_option maxRecDepth 100000
set_option maxHeartbeats 8000000
open Go.ChangeShapes Go.WideShapes Go.ChangeAt Go.RowKit
open Go.Joins Go.Deep
open Go.ChangeShapes Go.WideShapes Go.ChangeAt Go.RowKit Go.Maps
open Go.ChangeMaps (setBlock heap_setBlock_same heap_setBlock_other)
open Go.Value renaming pointer → AI
open Go.Value renaming int → AA
open Go.IntKind renaming i64 → AB
open Option renaming some → AE
open Option renaming none → AD
open Lib renaming hid → AG
open Go.Ending renaming returned → AH
open Go.Value renaming slice → AJ
open Go.Obj renaming cells → AK
open Go.Value renaming agg → AL
open Go.Value renaming tuple → AM
open Go.Lib renaming hid → AO
open Go.Proofs.Tryz renaming prog → AP, underlying101 → Ad, underlying116 → Bc, results139 → Ca
open Nat renaming le_refl → AQ, mul_le_mul_right → Ae, le_trans → Af, lt_or_ge → Am, sub_self → Ap, zero_le → Aq, add_mul → A6, eq_zero_or_pos → A7, one_mul → BD, lt_of_lt_of_le → BH, zero_add → BL, add_sub_cancel → BQ, div_le_self → BW, min_eq_left → Bh, mod_lt → Bw, mul_comm → B6, add_assoc → CK, zero_mul → CS, div_mul_le_self → CU, min → CW, reduceAdd → Cb, lt_of_le_of_lt → Ce, add_sub_cancel_left → Cm
open List renaming append_assoc → AR, getD_eq_getElem?_getD → AT, getElem?_eq_getElem → AU, getElem?_cons_succ → AV, getElem?_cons_zero → AW, getElem?_append_right → AX, length_append → AY, append_nil → AZ, length_take → Ac, mem_append → Ag, length_map → Aj, mem_of_getElem? → Ak, getElem?_append_left → Al, length_drop → An, take_of_length_le → Ao, set_append_right → As, getElem?_take → At, getElem?_set → Av, mem_cons_self → Ax, mem_map → Az, mem_cons → A8, replicate → BA, mem_cons_of_mem → BB, mem_iff_getElem? → BC, getElem?_eq_none → BG, nil_append → BI, getElem?_eq_some_iff → BM, getElem_of_mem → BO, take_append_drop → BS, length_cons → BY, filter_append → Ba, getElem?_map → Bd, take_add_one → Bi, length_set → Bk, mem_singleton → Bn, mem_of_mem_take → Bo, getElem_mem → Bs, take_zero → Bt, range → Bu, take_length → By, set_cons_succ → Bz, pairwise_iff_getElem → B0, nodup_cons → B3, mem_filter → B4, take_take → B7, cons_append → B8, getElem?_drop → CL, drop_eq_getElem_cons → CQ, take_append_of_le_length → CX, findIdx_le_length → Cg, map_append → Cj, drop_zero → Cn, drop_drop → Co
open Go.RowKit.Below renaming refl → AS, trans → CM, size → CN, mono → CO
open Go.IntKind renaming i64 → Aa, wrap_i64 → BV
open Go renaming cell_regrown → Ab, bodyPost_ret → Aw, leaves_cons → Ay, wp_region_quiet_below → Bb, FrameMode → Bf, below_regrown → Bj, run_underlying → Bv, wpQuiet_nil → CV, block_lt_of_cell → Ci, Regrown → Cq
open Go.IntWalk renaming i64_in → Ah
open Go.Sort renaming grow → Ai
open Go.RowKit renaming intOf → BF
open Iff renaming rfl → BN
open Go.Result renaming andThen → BP
open Go.Calls renaming regrown_of → BU
open Int renaming toNat_natCast → BX, natCast_mul → Be, lt_trichotomy → Ck, tmod → Cp
open Go.Builtin renaming zeroCells → BZ
open Go.Value renaming int → Bg, ownBlock → Bp
open Go.Addr renaming add_lit → Bl, add → CY
open Go.Ending renaming returned → Bm
open And renaming intro → Bq
open Go.Sem renaming run → Br
open Go.Instr renaming index → CR
open Classical renaming byContradiction → CZ
open List.Perm renaming append_left → Cc, refl → Cf
open Go.Lit renaming int → Cd
open Go.Proofs.Tryz
open Nat.le renaming refl → ao
def Mj(X:Cx)(k:Nat)(o:Cv)(once:Bool)(Good:List Cv->List DA->Prop)(Ju:Nat->List DA->Prop)(m ct cb:Nat)(e:Ending)(w':World):Prop:=
 (∃(F N:Nat) (l' s:List Cv) (os':List DA) (m':Nat),e=AH (AM #[AL #[F,N,k,((Dp once o s).length:Nat)],()])/\GY F N k (Ct X.sz k) (Dp once o s) X.sz/\Good l' os'/\NC o s/\Cl o l' s/\m'<=m+ct+20*cb/\Wd X (os'++[Da F N k (Ct X.sz k) (Dp once o s) X.sz]) m' w')\/
 (∃(er:Nat) (os':List DA) (m':Nat),e=AH (AM #[AL #[(),(),(),()],er])/\0<er/\
  (Ju er os'\/∃l',Good l' os'/\(er=6/\¬X.cm\/er=5/\∃F N,N=Cr (Ct X.sz k) l'.length/\∀z,¬Rm X (os'++[Da F N k (Ct X.sz k) l' X.sz]) z (3*N)))/\Wd X os' m' w')
theorem eY{nb j cb}(H:j=0\/2^(j-1)<nb)(J:nb<=cb)(I:cb<=300):2*nb*(1+j)<=20*cb:=by
 have e:j<=9:=by
  rcases H with h|h
  ·omega
  ·rcases Am 9 j with h3|h3
   ·have:2^9<=2^(j-1):=Nat.pow_le_pow_right a5 a5;omega
   ·exact h3
 have h4:2*nb*(1+j)<=2*nb*10:=Nat.mul_le_mul_left _ a5;omega
section
variable{X:Cx}{os:List DA}{m:Nat}{W:World}
theorem Mo{fS k ct cb aa Good Ju o}{once:Bool}(hS:ou X os fS aa k Good Ju ct)(nI:∀l' os',Good l' os'->5*X.sz+DC DA.gw os'<=X.rm/\l'.length<=cb)(Lt:cb<=300)(Yc:Fm o)(NF:X.rm<=1000000)
  (h:Wd X os m W)(hn:X.N+m+ct+43*cb+10<=1000000):
  Calls AP 84 #[AI X.p.w,.func (.func fS) #[] aa,AL #[o.a,o.b,o.c,o.d,o.e],once] W (Mj X k o once Good Ju m ct cb):=by
 obtain⟨W2,G9⟩:=ae ((W.alloc (AK #[o.a,o.b,o.c,o.d,o.e] 132)).alloc (AK #[(),(),(),()] 28));have h1:=h.new ((AS W W).alloc ao (AK #[o.a,o.b,o.c,o.d,o.e] 132)) (heap_alloc_new _ _:Row _ _ 132 (DE o)) ao;have h2:=h1.new ((AS _ _).alloc ao (AK #[(),(),(),()] 28)) (heap_alloc_new _ _:Row _ _ 28 Z4) ao;rw[<-G9]at h2;have aw:∀(w:World) (o:Obj),(w.alloc o).heap.size=w+1:=λw o=>by simp
 simp only[aw,AR,B8,BI]at h2;obtain⟨s0,hs0⟩:=ae W.heap.size;rw[<-hs0]at h2;obtain⟨zz,TW⟩:∃zz:List Value->List DA,∀cs,zz cs=[Cs s0 132 (DE o),Cs (s0+1) 28 cs]:=⟨_,λ_=>rfl⟩;have Ye:∀cs,Dn (zz cs):=λcs q hq=>by rw[TW]at hq;simp at hq;rcases hq with rfl|rfl<;>exact⟨rfl,rfl⟩
 have Ft:∀(os' tail:List DA) cs,(os'++zz cs++tail)[os'.length]?=AE (Cs s0 132 (DE o)):=λos' tail cs=>by rw[TW];simp
 have Ew:∀(os' tail:List DA) cs,(os'++zz cs++tail)[os'.length+1]?=AE (Cs (s0+1) 28 cs):=λos' tail cs=>by rw[TW];simp
 have mT:∀(os' tail:List DA) cs JX,(os'++zz cs++tail).set (os'.length+1) (Cs (s0+1) 28 JX)=os'++zz JX++tail:=λos' tail cs JX=>by rw[TW,TW];simp
 have aA:Wd X (os++zz Z4) m W2:=by rw[TW];exact h2
 obtain⟨PB,U⟩:∃PB:Nat->List Value->World->Prop,∀er cs w,PB er cs w↔∃os' m' tail,Dn tail/\0<er/\(Ju er os'\/∃l',Good l' os'/\(er=6/\¬X.cm\/er=5/\∃F N,N=Cr (Ct X.sz k) l'.length/\∀z,¬Rm X (os'++[Da F N k (Ct X.sz k) l' X.sz]) z (3*N)))/\Wd X (os'++zz cs++tail) m' w:=⟨_,λ_ _ _=>BN⟩;obtain⟨PA,ar⟩:∃PA:Nat->Nat->Nat->World->Prop,∀F N C w,PA F N C w↔∃l' os' m',C=l'.length/\GY F N k (Ct X.sz k) l' X.sz/\Good l' os'/\m'<=m+ct/\Wd X (os'++zz Z4++[Da F N k (Ct X.sz k) l' X.sz]) m' w:=⟨_,λ_ _ _ _=>BN⟩;obtain⟨ad,uH⟩:∃ad:Nat->Nat->Nat->Nat->World->Prop,∀F N C g w,ad F N C g w↔∃l' os' m',C=l'.length/\GY F N k (Ct X.sz k) l' X.sz/\Good l' os'/\m'<=m+ct/\Wd X (os'++zz Z4++[Da F N k (Ct X.sz k) l' X.sz,Cs g 28 [F,N,k,C]]) m' w:=⟨_,λ_ _ _ _ _=>BN⟩;obtain⟨PD,gu⟩:∃PD:Nat->Nat->Nat->List Value->World->Prop,∀F N C cs w,PD F N C cs w↔∃l' s os' m' tail,Dn tail/\C=(Dp once o s).length/\GY F N k (Ct X.sz k) (Dp once o s) X.sz/\Good l' os'/\NC o s/\Cl o l' s/\m'<=m+ct+20*cb/\Wd X (os'++zz cs++(tail++[Da F N k (Ct X.sz k) (Dp once o s) X.sz])) m' w:=⟨_,λ_ _ _ _ _=>BN⟩;obtain⟨PG,al⟩:∃PG:Nat->Nat->Nat->Nat->Nat->World->Prop,∀er F N C g w,PG er F N C g w↔∃l' os' m',0<er/\GY F N k (Ct X.sz k) l' X.sz/\Good l' os'/\(er=6/\¬X.cm\/er=5/\∃F N,N=Cr (Ct X.sz k) l'.length/\∀z,¬Rm X (os'++[Da F N k (Ct X.sz k) l' X.sz]) z (3*N))/\Wd X (os'++zz Z4++[Da F N k (Ct X.sz k) l' X.sz,Cs g 28 [F,N,k,C]]) m' w:=⟨_,λ_ _ _ _ _ _=>BN⟩;obtain⟨ab,uG⟩:∃ab:Nat->Nat->Nat->Nat->Nat->Nat->World->Prop,∀er F N C g g2 w,ab er F N C g g2 w↔∃l' os' m',0<er/\GY F N k (Ct X.sz k) l' X.sz/\Good l' os'/\(er=6/\¬X.cm\/er=5/\∃F N,N=Cr (Ct X.sz k) l'.length/\∀z,¬Rm X (os'++[Da F N k (Ct X.sz k) l' X.sz]) z (3*N))/\Wd X (os'++zz Z4++[Da F N k (Ct X.sz k) l' X.sz,Cs g 28 [F,N,k,C],Cs g2 28 Z4]) m' w:=⟨_,λ_ _ _ _ _ _ _=>BN⟩;have aH:Hid (Calls AP fS aa W2 λe w'=>(∃F N C:Nat,e=AH (AM #[AL #[F,N,k,C],()])/\PA F N C w')\/(∃er:Nat,e=AH (AM #[AL #[(),(),(),()],er])/\0<er/\PB er Z4 w')):=by
  refine(hS.call (zz Z4) m W2 aA (Ye _) a5).mono ?_;rintro e w' (⟨F,N,l',os',m',he,NH,TZ,hm,hw⟩|⟨er,os',m',he,De,KR,hm,hw⟩)
  ·exact .inl ⟨F,N,_,he,(ar _ _ _ _).2 ⟨l',os',m',rfl,NH,TZ,hm,hw⟩⟩
  ·exact .inr ⟨er,he,De,(U _ _ _).2 ⟨os',m',[],(λq hq=>by cases hq),De,.inl KR,by rw[AZ];exact hw⟩⟩
 have a7:=hS.ent;have aY:Hid (∀F N C:Nat,∀w,PA F N C w->ad F N C w (w.alloc (AK #[F,N,k,C] 28))):=λF N C w q=>by
  obtain⟨l',os',m',O,I,H,J,Q⟩:=(ar _ _ _ _).1 q;have:=Q.new ((AS w w).alloc ao (AK #[F,N,k,C] 28)) (heap_alloc_new _ _:Row _ _ 28 [F,N,k,C]) ao;refine(uH _ _ _ _ _).2 ⟨l',os',m',O,I,H,J,?_⟩;simpa [AR]using this
 have jk:Hid (∀F N C g w,ad F N C g w->Row w s0 132 (DE o)/\Row w g 28 [F,N,k,C]):=λF N C g w q=>by
  obtain⟨l',os',m',O,I,H,J,Q⟩:=(uH _ _ _ _ _).1 q;exact⟨Q.row (Ft _ _ _),Q.row (i:=os'.length+3) (by rw[TW];simp)⟩
 have aG:Hid (∀F N C g w,ad F N C g w->Calls AP 108 #[AI X.p.w,AL #[F,N,k,C],AL #[o.a,o.b,o.c,o.d,o.e],once] w λe w'=>
   (∃F2 N2 C2:Nat,e=AH (AM #[AL #[F2,N2,k,C2],()])/\PD F2 N2 C2 Z4 w')\/(∃er:Nat,e=AH (AM #[AL #[(),(),(),()],er])/\0<er/\PG er F N C g w')):=λF N C g w q=>by
  obtain⟨l',os',m',O,I,H,J,Q⟩:=(uH _ _ _ _ _).1 q;obtain⟨g1,g2⟩:=nI l' os' H;have hnb:N<=cb:=by have:=Di (Ct X.sz k) l'.length;have:=I.bn;omega
  have GZ:DC DA.gw (os'++zz Z4++[Da F N k (Ct X.sz k) l' X.sz,Cs g 28 [F,N,k,C]])=DC DA.gw os':=by
   rw[DM,DM,Dq _ (Ye _)];rfl
  have hi:(os'++zz Z4++[Da F N k (Ct X.sz k) l' X.sz,Cs g 28 [F,N,k,C]])[os'.length+2]?=AE (Da F N k (Ct X.sz k) l' X.sz):=by rw[TW];simp
  have Km:(os'++zz Z4++[Da F N k (Ct X.sz k) l' X.sz,Cs g 28 [F,N,k,C]]).set (os'.length+2) Dt=os'++zz Z4++[Dt,Cs g 28 [F,N,k,C]]:=by rw[TW];simp
  refine(qw (count:=C) (once:=once) Q hi I O.symm Yc (by rw[GZ];omega) NF a5 a5).mono ?_;rintro e w' (⟨F2,N2,C2,l2,m2,j,he,⟨s,Gg,Gk,rfl⟩,NH,hC,hj,a6,hw⟩|⟨er,he,Hw,m2,hw⟩)
  ·rw[Km]at hw;refine .inl ⟨F2,N2,C2,he,(gu _ _ _ _ _).2 ⟨l',s,os',m2,[Dt,Cs g 28 [F,N,k,C]],λq hq=>?_,hC,NH,H,Gg,Gk,?_,by simpa [AR]using hw⟩⟩
   ·simp at hq;rcases hq with rfl|rfl<;>exact⟨rfl,rfl⟩
   ·have:=eY hj hnb Lt;omega
  ·have De:0<er/\∃av:Nat,er=(av:Int):=by rcases Hw with⟨h,_⟩|⟨h,_⟩<;>exact⟨a5,er.toNat,a5⟩
   obtain⟨De,av,rfl⟩:=De;refine .inr ⟨av,he,a5,(al _ _ _ _ _ _).2 ⟨l',os',m2,a5,I,H,?_,hw⟩⟩;rcases Hw with⟨h5,hno⟩|⟨h6,Fu⟩
   ·refine .inr ⟨a5,F,N,I.bn,λz hz=>hno z ?_⟩;have:=GF (GF hz (Ye Z4)) (z2:=[Cs g 28 [F,N,k,C]]) (λq hq=>by simp at hq;subst hq;exact⟨rfl,rfl⟩);intro y aE aD;obtain⟨k1,k2⟩:=this y aE aD;refine⟨k1,λi a ha=>?_⟩;have wg:a∈os'++[Da F N k (Ct X.sz k) l' X.sz]++zz Z4++[Cs g 28 [F,N,k,C]]:=by
     have:=Ak ha;simp only[Ag,A8,List.not_mem_nil,or_false]at this⊢;rcases this with(h|h)|h|h
     ·exact .inl (.inl (.inl h))
     ·exact .inl (.inr h)
     ·exact .inl (.inl (.inr h))
     ·exact .inr h
    obtain⟨i',gV⟩:=BC.1 wg;exact k2 i' a gV
   ·exact .inl ⟨a5,Fu⟩
 have aI:Hid (∀er F N C g w,PG er F N C g w->ab er F N C g w (w.alloc (AK #[(),(),(),()] 28))):=λer F N C g w q=>by
  obtain⟨l',os',m',O,I,H,J,Q⟩:=(al _ _ _ _ _ _).1 q;have:=Q.new ((AS w w).alloc ao (AK #[(),(),(),()] 28)) (heap_alloc_new _ _:Row _ _ 28 Z4) ao;refine(uG _ _ _ _ _ _ _).2 ⟨l',os',m',O,I,H,J,?_⟩;simpa [AR]using this
 have YQ:Hid (∀er F N C g g2 w,ab er F N C g g2 w->Row w g 28 [F,N,k,C]):=λer F N C g g2 w q=>by
  obtain⟨l',os',m',O,I,H,J,Q⟩:=(uG _ _ _ _ _ _ _).1 q;exact Q.row (i:=os'.length+3) (by rw[TW];simp)
 have Th:Hid (∀er F N C g g2 w,ab er F N C g g2 w->Calls AP 67 #[AI X.p.w,AL #[F,N,k,C]] w λe w'=>e=AH ()/\PB er Z4 w'/\Row w' g2 28 Z4):=λer F N C g g2 w q=>by
  obtain⟨l',os',m',O,I,H,J,Q⟩:=(uG _ _ _ _ _ _ _).1 q;obtain⟨g1,g3⟩:=nI l' os' H;have hnb:N<=cb:=by have:=Di (Ct X.sz k) l'.length;have:=I.bn;omega
  have hi:(os'++zz Z4++[Da F N k (Ct X.sz k) l' X.sz,Cs g 28 [F,N,k,C],Cs g2 28 Z4])[os'.length+2]?=AE (Da F N k (Ct X.sz k) l' X.sz):=by rw[TW];simp
  refine(OP Q hi I.fst a5 C).mono ?_;rintro e w' ⟨he,hw⟩;have Km:(os'++zz Z4++[Da F N k (Ct X.sz k) l' X.sz,Cs g 28 [F,N,k,C],Cs g2 28 Z4]).set (os'.length+2) Dt=os'++zz Z4++[Dt,Cs g 28 [F,N,k,C],Cs g2 28 Z4]:=by rw[TW];simp
  rw[Km]at hw;exact⟨he,(U _ _ _).2 ⟨os',m',_,λq hq=>by simp at hq;rcases hq with rfl|rfl|rfl<;>exact⟨rfl,rfl⟩,O,.inr ⟨l',H,J⟩,hw⟩,hw.row (i:=os'.length+4) (by rw[TW];simp)⟩
 have aC:Hid (∀er cs w,PB er cs w->Row w (s0+1) 28 cs):=λer cs w q=>by
  obtain⟨os',m',tail,O,I,H,J⟩:=(U _ _ _).1 q;exact J.row (Ew _ _ _)
 have qc:Hid (∀er cs w w',PB er cs w->Below w w w'->PB er cs w'):=λer cs w w' q hb=>by
  obtain⟨os',m',tail,O,I,H,J⟩:=(U _ _ _).1 q;exact(U _ _ _).2 ⟨os',m',tail,O,I,H,J.below hb⟩
 have aB:Hid (∀er w,PB er Z4 w->Row ((((w.setCell (s0+1,0) ()).setCell (s0+1,1) ()).setCell (s0+1,2) ()).setCell (s0+1,3) ()) (s0+1) 28 Z4/\Mj X k o once Good Ju m ct cb (AH (AM #[AL #[(),(),(),()],er])) ((((w.setCell (s0+1,0) ()).setCell (s0+1,1) ()).setCell (s0+1,2) ()).setCell (s0+1,3) ())):=λer w q=>by
  obtain⟨os',m',tail,O,I,H,J⟩:=(U _ _ _).1 q;have k4:=F4 J (Ew _ _ _) rfl () () () ();rw[mT]at k4;refine⟨k4.row (Ew _ _ _),.inr ⟨er,os',m',rfl,I,H,?_⟩⟩;have k5:=Wd.Fy (b:=[]) tail O (by rw[AZ];exact k4);rw[AZ]at k5;have k6:=Wd.Fy (b:=[]) (zz [(),(),(),()]) (Ye _) (by rw[AZ];exact k5);rwa [AZ]at k6
 have aK:Hid (∀F N C cs w,PD F N C cs w->Row w (s0+1) 28 cs):=λF N C cs w q=>by
  obtain⟨l',s,os',m',tail,O,I,H,J,Q,q6,q7,q8⟩:=(gu _ _ _ _ _).1 q;exact q8.row (Ew _ _ _)
 have aX:Hid (∀F N C cs w w',PD F N C cs w->Below w w w'->PD F N C cs w'):=λF N C cs w w' q hb=>by
  obtain⟨l',s,os',m',tail,O,I,H,J,Q,q6,q7,q8⟩:=(gu _ _ _ _ _).1 q;exact(gu _ _ _ _ _).2 ⟨l',s,os',m',tail,O,I,H,J,Q,q6,q7,q8.below hb⟩
 have aJ:Hid (∀F N C:Nat,∀w,PD F N C Z4 w->Row ((((w.setCell (s0+1,0) F).setCell (s0+1,1) N).setCell (s0+1,2) k).setCell (s0+1,3) C) (s0+1) 28 [F,N,k,C]/\Mj X k o once Good Ju m ct cb (AH (AM #[AL #[F,N,k,C],()])) ((((w.setCell (s0+1,0) F).setCell (s0+1,1) N).setCell (s0+1,2) k).setCell (s0+1,3) C)):=λF N C w q=>by
  obtain⟨l',s,os',m',tail,O,rfl,H,J,Q,q6,q7,q8⟩:=(gu _ _ _ _ _).1 q;have k4:=F4 q8 (Ew _ _ _) rfl F N k ((Dp once o s).length:Nat);rw[mT]at k4;refine⟨k4.row (Ew _ _ _),.inl ⟨F,N,l',s,os',m',rfl,H,J,Q,q6,q7,?_⟩⟩;rw[<-AR]at k4;exact Wd.Fy _ (Ye _) (Wd.Fy tail O k4)
 have KU:=AO G9;replace hs0:=AO hs0;generalize Mj X k o once Good Ju m ct cb=Dd at*
 generalize X.p.w=pw at*
 clear ar U uH gu al uG h1 h2 aA h hS nI hn NF Yc Lt G9 aw TW Ye Ft Ew mT;go_enter func84,ntmps84
 go_upto_region 1 with(fail)
 rw[<-KU.out,<-hs0.out];clear KU;go_wp2_with fail
 refine aH.out.mono ?_;rintro e w3 (⟨F,N,C,rfl,h3⟩|⟨er,rfl,De,h3⟩)
 ·have H4:=AO (aY.out _ _ _ _ h3);clear h3;go_upto_region 2 with(fail)
  generalize w3.alloc (AK #[F,N,k,C] 28)=w4 at*
  generalize w3.heap.size=g1 at*
  obtain⟨p1,p2⟩:=jk.out _ _ _ _ _ H4.out;obtain⟨a0,a1,a2,a3⟩:=p2.q4;obtain⟨b0,b1,b2,b3,b4⟩:=p1.q5;clear p1 p2;go_wp2_with fail
  refine(AO (aG.out _ _ _ _ _ H4.out)).out.mono ?_;rintro e w5 (⟨F2,N2,C2,rfl,h5⟩|⟨er,rfl,De,h5⟩)
  ·have H6:=AO (aX.out _ _ _ _ _ _ h5 ((AS w5 w5).alloc ao (AK #[F2,N2,k,C2] 28)));have JE:Row (w5.alloc (AK #[F2,N2,k,C2] 28)) w5 28 [F2,N2,k,C2]:=heap_alloc_new _ _;clear h5 a0 a1 a2 a3 b0 b1 b2 b3 b4;go_upto_region 5 with(fail)
   generalize w5.alloc (AK #[F2,N2,k,C2] 28)=w6 at*
   generalize w5.heap.size=g2 at*
   have p3:=aK.out _ _ _ _ _ H6.out;obtain⟨d0,d1,d2,d3⟩:=JE.q4;obtain⟨z0,z1,z2,z3⟩:=p3.q4;obtain⟨f0,f1,f2,f3⟩:=p3.r4;obtain⟨Dx,hp⟩:=aJ.out _ _ _ _ H6.out;have ES:=AO Dx;have HP:=AO hp;clear p3 JE Dx hp;go_wp2
   have r0:=ES.out.cell 0;have r1:=ES.out.cell 1;have r2:=ES.out.cell 2;have r3:=ES.out.cell 3;simp only[AW,AV]at r0 r1 r2 r3;refine Aw (v:=AM #[AL #[F2,N2,k,C2],()]) (by simp[results,Tryz.results84,go_sem,r0,r1,r2,r3]) rfl ?_;exact HP.out
  ·have aF:¬(er:Int)=0:=a5;have H6:=AO (aI.out _ _ _ _ _ _ h5);clear h5 a0 a1 a2 a3 b0 b1 b2 b3 b4 De;go_upto_region 5 with(fail)
   generalize w5.alloc (AK #[(),(),(),()] 28)=w6 at*
   generalize w5.heap.size=g2 at*
   have p3:=YQ.out _ _ _ _ _ _ _ H6.out;obtain⟨a0,a1,a2,a3⟩:=p3.q4;clear p3;go_wp2_with fail
   refine(AO (Th.out _ _ _ _ _ _ _ H6.out)).out.mono ?_;rintro e w7 ⟨rfl,h7,tW⟩;have p3:=aC.out _ _ _ h7;obtain⟨d0,d1,d2,d3⟩:=tW.q4;obtain⟨z0,z1,z2,z3⟩:=p3.q4;obtain⟨f0,f1,f2,f3⟩:=p3.r4;obtain⟨Dx,hp⟩:=aB.out _ _ h7;have ES:=AO Dx;have HP:=AO hp;clear p3 tW Dx hp h7 a0 a1 a2 a3;go_wp2
   have r0:=ES.out.cell 0;have r1:=ES.out.cell 1;have r2:=ES.out.cell 2;have r3:=ES.out.cell 3;simp only[Z4,AW,AV]at r0 r1 r2 r3;refine Aw (v:=AM #[AL #[(),(),(),()],er]) (by simp[results,Tryz.results84,go_sem,r0,r1,r2,r3]) rfl ?_;exact HP.out
 ·have aF:¬(er:Int)=0:=a5;have H4:=AO (qc.out _ _ _ _ h3 ((AS w3 w3).alloc ao (AK #[(),(),(),()] 28)));clear h3 De;go_upto_region 2 with(fail)
  generalize w3.alloc (AK #[(),(),(),()] 28)=w4 at*
  generalize w3.heap.size=g1 at*
  have p3:=aC.out _ _ _ H4.out;obtain⟨z0,z1,z2,z3⟩:=p3.q4;obtain⟨f0,f1,f2,f3⟩:=p3.r4;obtain⟨Dx,hp⟩:=aB.out _ _ H4.out;have ES:=AO Dx;have HP:=AO hp;clear p3 Dx hp;go_wp2
  have r0:=ES.out.cell 0;have r1:=ES.out.cell 1;have r2:=ES.out.cell 2;have r3:=ES.out.cell 3;simp only[Z4,AW,AV]at r0 r1 r2 r3;refine Aw (v:=AM #[AL #[(),(),(),()],er]) (by simp[results,Tryz.results84,go_sem,r0,r1,r2,r3]) rfl ?_;exact HP.out
end
theorem iL(U:Bf){w}{G}{p}{F}{n}(h:Sys w G p F n)(f m k c:Nat)(hf:f<=100000000)(hm:m<=100000000):
  CallsD AP 67 #[AI p.w,AL #[f,m,k,c]] U w λe u' w'=>u'=U/\(e=AH (if m=0 then 0 else (Ez F.S f m).2:Nat)/\DQ w G p {F with S:=Dm F.S f m} n w'):=by
 have hb:=(AS w w).alloc ao (AK #[f,m,k,c] 28);have I:Row (w.alloc (AK #[f,m,k,c] 28)) w 28 [f,m,k,c]:=heap_alloc_new _ _;by_cases H:m=0
 ·subst H;have c1:(w.alloc (AK #[AA AB f,AA AB (0:Nat),AA AB k,AA AB c] 28)).cell? ⟨w.heap.size,1,AD⟩=AE (AA AB (0:Nat)):=I.cell 1;have HP:Hid (DQ w G p {F with S:=Dm F.S f 0} n (w.alloc (AK #[AA AB f,AA AB (0:Nat),AA AB k,AA AB c] 28))):=DQ.DB h hb;clear I hb h;generalize DQ w G p {F with S:=Dm F.S f 0} n=Dd at*
  go_enter_d func67,ntmps67
  go_wp2
  go_ret
  exact⟨rfl,HP.out⟩
 ·have HB:=AO hb;have vV:Hid (Calls AP 63 #[AI p.s,f,m] (w.alloc (AK #[f,m,k,c] 28)).drew λe w'=>e=AH ((Ez F.S f m).2:Nat)/\DQ w G p {F with S:=Dm F.S f m} n w'/\(w'.cell? w=AE (AA AB f)/\w'.cell? (w,1)=AE (AA AB m)/\w'.cell? (p.w,2)=AE (AI p.s))):=by
   have e:Dm F.S f m=(Ez F.S f m).1:=by unfold Dm;rw[if_neg H]
   rw[e];exact(Wf (h.below (Cz hb)) f m hf hm).mono λe w' ⟨h1,J⟩=>by
    have Q:=J.row (I.drewN 1) (λhg=>by have:=h.lt hg;omega);exact⟨h1,J.behind (Cz hb),Q.cell 0,Q.cell 1,J.cell.2.2⟩
  have c0:(w.alloc (AK #[AA AB f,AA AB m,AA AB k,AA AB c] 28)).drew.cell? ⟨w.heap.size,0,AD⟩=AE (AA AB f):=I.cell 0;have c1:(w.alloc (AK #[AA AB f,AA AB m,AA AB k,AA AB c] 28)).cell? ⟨w.heap.size,1,AD⟩=AE (AA AB m):=I.cell 1;have d1:(w.alloc (AK #[f,m,k,c] 28)).drew.cell? (w,1)=AE (AA AB m):=I.cell 1;have c2:(w.alloc (AK #[f,m,k,c] 28)).drew.cell? (p.w,2)=AE (AI p.s):=(h.below hb).row.cell 2;have g1:((m:Int)==0)=false:=by simp;omega
  rw[if_neg H];clear I hb h;generalize DQ w G p {F with S:=Dm F.S f m} n=Dd at*
  generalize(Ez F.S f m).2=er at*
  go_enter_d func67,ntmps67
  go_wp2
  go_region_held3 (λw'=>w'.cell? w.heap.size=AE (AA AB f)/\w'.cell? (w.heap.size,1)=AE (AA AB m)/\w'.cell? (p.w,2)=AE (AI p.s)) (first|with_reducible exact⟨c0,d1,c2⟩|with_reducible exact O)
   (first
    |(go_at_call 63;(with_reducible refine vV.out.mono ?_);rintro e w2 ⟨rfl,J,O⟩))
  have H2:=AO J;clear J O;go_wp2
  go_ret
  exact⟨rfl,H2.out⟩
section
variable{X:Cx}{os:List DA}{m i:Nat}{W W':World}{l:List Cv}
theorem Ir(fm:Bf){first nb k hh sz}(h:Wd X os m W)(hi:os[i]?=AE (Da first nb k hh l sz))(hf:first<=2000000)(hn:nb<=2000000)(c:Nat):
  CallsD AP 67 #[AI X.p.w,AL #[first,nb,k,c]] fm W λe u' w'=>u'=fm/\(e=AH ()/\Wd X (os.set i Dt) m w'):=by
 obtain⟨G,D,A,S,h⟩:=h;obtain⟨O,I⟩:=h.held hi;have O:∀z,I2 (first,nb) z->¬hasB S.fr z:=O;have I:0<nb->S.first<=first/\first+nb<=S.first+S.blocks:=I;have Q:=Jk (S:=S) h.sys.eZ (f:=first) (n:=nb) (by
  rcases A7 nb with H|H
  ·exact .inr H
  ·exact .inl (I H).1) (by
  rcases A7 nb with H|H
  ·exact .inr H
  ·exact .inl (I H).2) (λz U z2=>O z ⟨U,z2⟩)
 have Xq:(if nb=0 then 0 else (Ez S first nb).2)=0:=by
  by_cases H:nb=0
  ·rw[if_pos H]
  ·rw[if_neg H];rcases Jj (s:=S) h.sys.eZ (first:Int) (nb:Int)with⟨s',a',m',ha,hm,h1,he,hg⟩|⟨_,KR⟩
   ·rw[he]
   ·exact absurd ⟨(I a5).1,(I a5).2,λz U z2=>O z ⟨U,z2⟩⟩ (KR first nb rfl rfl a5)
 refine(iL fm (F:=⟨D,A,S⟩) h.sys first nb k c a5 a5).mono ?_;rintro e u' w' ⟨hu,he,G',k1,k2,k3⟩;refine⟨hu,by rw[he,Xq];rfl,G',_,_,_,h.step hi k1 (k2.mono λk hk=>.inl hk) k3 LR trivial (λk hk=>hk.elim) ⟨rfl,rfl⟩ h.alive id h.Dg (λ_ _=>rfl) trivial rfl rfl (λ_ _ hw _=>hw) (λb n hb=>by cases hb) ⟨Q.1,Q.2.1⟩ (λz=>?_) (λz J=>absurd J (DT _ _)) ?_⟩
 ·show hasB (Dm S first nb).fr z↔ _;rw[Q.2.2.1 z];exact⟨λJ=>⟨J,DT _ _⟩,λJ=>J.1⟩
 ·show ED (Dm S first nb).fr+0=ED S.fr+nb;rw[Q.2.2.2];omega
end
theorem ny(u:Bf)(J:Value)(w:World):CallsD AP 36 #[J,AJ AD 0 0] u w λe H w'=>H=u/\(e=AH (AM #[])/\w'=w):=by
 go_enter_d func36,ntmps36
 go_wp2_with fail
 go_loopw [5,8] (λ_ I wr=>I=AA AB 0/\wr=w) (λ_ _ _=>0)
 case atStart=>exact⟨rfl,rfl⟩
 case round=>
  obtain⟨rfl,rfl⟩:=hrel;go_wp2
  refine bodyPost_end (results_none rfl _ _ _) rfl ?_;exact⟨rfl,rfl⟩
theorem Vw(b j:Nat):(b:Addr).add j=(b,j):=by unfold CY;split<;>simp_all
def pkL(out:List Cv)(t:Cv)(k:Nat):List Cv:=out.take k++t::out.drop k
inductive Rf (l:List Cv):Nat->Nat->Int->Int->Prop
 |first {j:Nat} {t:Cv}:l[j]?=AE t->dV l t.a->Rf l j 0 t.a 0
 |next {j n:Nat} {r:Int} {t:Cv}:t∈l->Rf l j n t.a r->0<=t.b->Rf l j (n+1) t.b (Aa.wrap (r+t.c))
section
variable{l:List Cv}
theorem Rk.rf{n x r}(h:Rk l n x r):∃j,j<l.length/\Rf l j n x r:=by
 induction h with
 |first ht hf=>
  obtain⟨j,e⟩:=BC.1 ht;exact⟨j,NY e,.first e hf⟩
 |next ht _ h0 H=>
  obtain⟨j,J,I⟩:=H;exact⟨j,J,.next ht I h0⟩
theorem fR:∀(A B:List Int),A.Nodup->(∀x∈A,x∈B)->A.length<=B.length
 |[],B,_,_=>Aq _
 |a::A,B,hn,hs=>by
  have I:a∈B:=hs a Ax;have J:=List.length_erase_of_mem I;have O:0<B.length:=List.length_pos_of_mem I;have:=fR A (B.erase a) (B3.1 hn).2 λy H=>by
   have:y≠a:=λe=>(B3.1 hn).1 (e▸H);exact(List.mem_erase_of_ne this).2 (hs y (BB _ H))
  simp only[BY];omega
structure Ad3 (l out:List Cv) (i n:Nat):Prop where
 rk:∀u∈out,(∃j m,Rf l j m u.a u.b/\(j<i\/j=i/\m<n))/\u.c=0/\u.d=0/\u.e=0
 up:out.Pairwise λu v=>u.a<v.a
 all:∀j m x r,Rf l j m x r->(j<i\/j=i/\m<n)->∃u∈out,u.a=x
end
def MD(n:Nat):Nat:=9*n+30
def KM:Nat:=450000
def ox(X:Cx)(os:List DA)(l:List Cv)(m:Nat)(e:Ending)(w':World):Prop:=
 (∃(F N:Nat) (out:List Cv) (m':Nat),e=AH (AM #[AL #[F,N,AA AB 2,out.length],()])/\GY F N 2 (Ct X.sz ((2:Nat):Int)) out X.sz/\Dh l/\Nf l out/\m'<=m+KM/\Wd X (os++[Da F N 2 (Ct X.sz ((2:Nat):Int)) out X.sz]) m' w')\/
 (∃er m':Nat,e=AH (AM #[AL #[(),(),(),()],er])/\(er=3/\¬Gt l\/er=6/\¬X.cm\/er=5/\∀z,¬Rm X os z (MD l.length))/\m'<=m+KM/\Wd X os m' w')
theorem sK{X os l m e w'}(h:ox X os l m e w')(I:Gt l)(J:X.cm)(H:∃z,Rm X os z (MD l.length)):
  ∃(F N:Nat) (out:List Cv) (m':Nat),e=AH (AM #[AL #[F,N,AA AB 2,out.length],()])/\GY F N 2 (Ct X.sz ((2:Nat):Int)) out X.sz/\Dh l/\Nf l out/\m'<=m+KM/\Wd X (os++[Da F N 2 (Ct X.sz ((2:Nat):Int)) out X.sz]) m' w':=by
 rcases h with h|⟨er,m',_,h|h|h,_⟩
 ·exact h
 ·exact absurd I h.2
 ·exact absurd J h.2
 ·obtain⟨z,H⟩:=H;exact absurd H (h.2 z)
theorem AO3{X os l m e w'}(h:ox X os l m e w')(I:¬Gt l)(J:X.cm)(H:∃z,Rm X os z (MD l.length)):
  ∃m',e=AH (AM #[AL #[AA AB 0,AA AB 0,AA AB 0,AA AB 0],AA AB (3:Nat)])/\m'<=m+KM/\Wd X os m' w':=by
 rcases h with⟨_,_,_,_,_,_,h0,h,_⟩|⟨er,m',he,h|h|h,h1,h2⟩
 ·exact absurd (h.ZX h0) I
 ·exact⟨m',by rw[he,h.1],h1,h2⟩
 ·exact absurd J h.2
 ·obtain⟨z,H⟩:=H;exact absurd H (h.2 z)
theorem Hu{h c}(hh:2<=h):2*Cr h c<=c+1:=by
 have H:=Nat.div_add_mod c h;have e:2*(c/h)<=h*(c/h):=Ae _ hh;unfold Cr
 split
 ·rename_i h3
  omega
 ·omega
theorem LS{sz k}(H:8<=sz)(I:1<=k/\k<=3):2<=Ct sz k:=by
 unfold Ct;rw[if_neg a5];have:k.toNat=1\/k.toNat=2\/k.toNat=3:=a5;rcases this with e|e|e<;>rw[e]<;>omega
theorem ZQ{X os z c q n}(h:Rm X os z (MD c))(Z:List DA)(E:List (Nat×Nat))(hZ:∀a∈Z,a.ex.2=0\/a.ex∈E)(hE:∀e∈E,e.2<=q)(hk:E.length<=3)(hn:n<=3*q)(hq:2*q<=c+1):∃y,Rm X (os++Z) y n:=by
 rcases A7 n with h0|h0
 ·exact⟨0,λy I h2=>by omega⟩
 obtain⟨d,hd⟩:=ae (n+q);have Kr:1<=d:=a5;have aa:z<=z*d:=Nat.le_mul_of_pos_right z Kr;obtain⟨s,hs⟩:=ae (z*d-z);have H:∀e∈E.map (λe:Nat×Nat=>(e.1+s,e.2)),e.2<=q:=λe he=>by
  obtain⟨e',I,rfl⟩:=Az.1 he;exact hE e' I
 obtain⟨j,hj,Q⟩:=VL (n:=n) (q:=q) (E.map λe=>(e.1+s,e.2)) ((Bu 4).map (z+·)) H (by
  refine List.Pairwise.map _ (λa b Yf=>?_) List.nodup_range;omega) (by rw[Aj,Aj,List.length_range];omega)
 obtain⟨i,hi,rfl⟩:=Az.1 hj;have ab:i<4:=List.mem_range.1 hi;rw[<-hd]at Q;have hm:(z+i)*d=z*d+i*d:=A6 _ _ _;have hid:i*d<=3*d:=Ae _ a5;have Ks:MD c=9*c+30:=rfl;refine⟨z+i*d,λy I h2=>?_⟩;obtain⟨k1,k2⟩:=h y a5 (by rw[Ks];omega);refine⟨k1,λp a ha O=>?_⟩;rcases Ag.1 (Ak ha)with J|J
 ·obtain⟨U,jU⟩:=BC.1 J;exact k2 U a jU O
 ·have h3:a.ex.1<=y/\y<a.ex.1+a.ex.2:=O;rcases hZ a J with h4|h4
  ·omega
  ·refine Q (a.ex.1+s,a.ex.2) (Az.2 ⟨_,h4,rfl⟩) (y+s) (by rw[hm];omega) (by rw[hm];omega) ?_;show a.ex.1+s<=y+s/\y+s<a.ex.1+s+a.ex.2;omega
section
variable{l:List Cv}{k:Nat}{S S':List Cv}
theorem Sm.le(h0:Dh l)(h:Sm l k S)(h':Sm l (k+1) S'):PM S'<=PM S:=by
 have aa:2^(k+1)=2^k+2^k:=by rw[Nat.pow_succ];omega
 have:=GQ (WI S') (WI S) (Pd h'.up) λx U=>by
  obtain⟨u,hu,hb,e⟩:=Ik.1 U;obtain⟨Q,Vc,O⟩:=h'.el u hu;obtain⟨v,H,J⟩:=h.all Q Vc;refine Ik.2 ⟨v,H,λhc=>?_,by rw[J,O,e]⟩;obtain⟨m,hm,I⟩:=h.cl v H hc;rw[J,O]at I;have:=(Rk.back h0 (h'.op u hu hb) I).1;omega
 rwa [KA,KA]at this
theorem XJ(h:S'.Perm S):PM S'=PM S:=h.countP_eq _
end
def I9(X:Cx)(os:List DA)(c er:Nat):Prop:=er=6/\¬X.cm\/er=5/\∀z,¬Rm X os z (MD c)
def E6:List Value:=[(),(),(),(),()]
def oz(X:Cx)(os:List DA)(l S:List Cv)(k m:Nat)(e:Ending)(w':World):Prop:=
 (∃(F N:Nat) (S':List Cv) (m':Nat),e=AH (AM #[AL #[AA AB F,AA AB N,AA AB (3:Nat),AA AB (S'.length:Nat),AA AB (PM S':Nat)],AA AB 0])/\GY F N 3 (Ct X.sz (3:Nat)) S' X.sz/\Sm l (k+1) S'/\PM S'<PM S/\m'<=m+14000/\Wd X (os++[Da F N 3 (Ct X.sz (3:Nat)) S' X.sz]) m' w')\/
 (∃er m':Nat,e=AH (AM #[AL #[(),(),(),(),()],er])/\0<er/\(er=3/\¬Gt l\/I9 X os l.length er)/\Wd X os m' w')
theorem AL0{t}(h:Dc 3 t=true):t.d=0/\t.e=0:=by
 simpa [Dc,Cv.D8]using h
theorem Xz{t}(h:t.d=0/\t.e=0):Dc 3 t=true:=by
 simp[Dc,Cv.D8,h.1,h.2]
theorem Mq{t}:EE t↔Fg t.a/\Fg t.b/\Fg t.c/\Fg t.d/\Fg t.e:=by
 unfold EE Cv.D8;simp
theorem mR(x:Int):Fg (Aa.wrap x):=Fg.of (by rw[BV];omega) (by rw[BV];omega)
theorem ML:Fg 0:=Fg.of a5 a5
theorem se{S}(hS:∀u∈S,EE u/\Dc 3 u=true){t}(H:EE t/\Dc 3 t=true):EE (lenT S t)/\Dc 3 (lenT S t)=true:=by
 unfold lenT
 cases e:LH S t.b with
 |none=>exact H
 |some v=>
  obtain⟨I,_⟩:=Kk e;exact⟨Mq.2 ⟨(Mq.1 H.1).1,(Mq.1 (hS v I).1).2.1,mR _,ML,ML⟩,Xz ⟨rfl,rfl⟩⟩
theorem l9{S:List Cv}(hS:∀u∈S,EE u/\Dc 3 u=true):S.map (FH Od)=S:=by
 have:∀u∈S,FH Od u=u:=λu hu=>by
  obtain⟨H,e⟩:=AL0 (hS u hu).2;rw[oQ]
  cases u
  simp only at H e;subst H e;rfl
 calc S.map (FH Od)=S.map id:=List.map_congr_left λu hu=>this u hu
  _=S:=List.map_id S
section
variable{X:Cx}{m:Nat}{W:World}
theorem sq{pre post:List DA}{gl gw gas gs fa Q ka U ca fb nb kb hb cb op:Nat}{A S:List Cv}
  (gW:GY fa Q ka U A X.sz)(wg:Da fa Q ka U A X.sz∈pre++post)(aG:A.length=ca)(LI:GY fb nb kb hb S X.sz)(SR:Da fb nb kb hb S X.sz∈pre++post)(Lt:S.length=cb)
  (qA:S.Pairwise λu v=>u.a<=v.a)(UL:A.Pairwise λu v=>u.b<=v.b)(SS:∀t∈A,-1<=t.b)(I:∀t∈A,EE (lenT S t)/\Dc 3 (lenT S t)=true)
  (H:3*X.sz+DC DA.gw (pre++FW gl A S 0++post)<=X.rm)
  (hw:Cs gw 23 [AI (AE ⟨X.p.w,0,AD⟩)]∈pre++post)(has:Cs gas 28 [AA AB fa,AA AB Q,AA AB ka,AA AB ca]∈pre++post)(hs:Cs gs 125 [AA AB fb,AA AB nb,AA AB kb,AA AB cb,AA AB op]∈pre++post):
  ou X (pre++FW gl A S 0++post) 88 #[AI (AE ⟨gw,0,AD⟩),AI (AE ⟨gas,0,AD⟩),AI (AE ⟨gs,0,AD⟩),AI (AE ⟨gl,0,AD⟩)] 3 (λl' os'=>l'=A.map (lenT S)/\os'=pre++FW gl A S ca++post)
   (λer os'=>(er=6/\¬X.cm\/er=5/\∀q,¬Rm X (pre++FW gl A S 0++post) q (Cr (Ct X.sz (3:Nat)) ca))/\∃i,os'=pre++FW gl A S i++post) (Q+nb+ca+2) where
 ent:=λargs w=>by kernel_rfl
 call:=λzz m W h hz hn=>by
  have J:∀{a:DA},a∈pre++post->a∈pre++(post++zz):=λ{a} U=>by
   rcases Ag.1 U with hm|hm<;>simp[hm]
  have GZ:DC DA.gw (pre++FW gl A S 0++(post++zz))=DC DA.gw (pre++FW gl A S 0++post):=by
   rw[<-AR,DM,Dq _ hz];rfl
  refine(yz (m:=m) (by rw[<-AR];exact h) gW (J wg) aG LI (J SR) Lt qA UL SS I (by rw[GZ];exact H) a5 (J hw) (J has) (J hs)).mono ?_;rintro e w' (⟨F,N,he,NH,O⟩|⟨er,i,he,De,Hw,O⟩)
  ·rw[<-AR]at O;exact .inl ⟨F,N,_,_,_,he,NH,⟨rfl,rfl⟩,a5,O⟩
  ·rw[<-AR]at O;refine .inr ⟨er,_,_,he,De,⟨?_,i,rfl⟩,a5,O⟩;rcases Hw with h1|⟨h1,h2⟩
   ·exact .inl h1
   ·refine .inr ⟨h1,λq hq=>h2 q ?_⟩;rw[<-AR];exact GF hq hz
theorem WX{os fb nb cb op k l S}(h:Wd X (os++[Da fb nb 3 (Ct X.sz (3:Nat)) S X.sz]) m W)(hf:GY fb nb 3 (Ct X.sz (3:Nat)) S X.sz)(h0:Dh l)(hS:Sm l k S)(hc:S.length=cb)(Lt:cb<=300)(Yb:PM S=op)(De:0<op)
  (aA:8*X.sz+DC DA.gw os<=X.rm)(NF:X.rm<=1000000)(hn:X.N+m+40000<=1000000):
  Calls AP 66 #[AI X.p.w,AL #[fb,nb,AA AB 3,cb,op]] W (oz X os l S k m):=by
 have aX:=(Wd.bounds h).1;obtain⟨hh,Jv⟩:=ae (Ct X.sz (3:Nat));have aK:2<=hh:=by rw[Jv];exact LS aX.1 a5
 obtain⟨fS,zk⟩:=ae (Da fb nb 3 hh S X.sz);rw[<-Jv]at h hf;rw[<-zk]at h;obtain⟨s0,hs0⟩:=ae W.heap.size;obtain⟨W3,Kv⟩:=ae (((W.alloc (AK #[AI X.p.w] 23)).alloc (AK #[fb,nb,AA AB 3,cb,op] 125)).alloc (AK #[(),(),(),(),()] 125));obtain⟨B,hB⟩:∃B:List Value->List DA,∀cs,B cs=[Cs s0 23 [AI X.p.w],Cs (s0+1) 125 [fb,nb,AA AB 3,cb,op],Cs (s0+2) 125 cs]:=⟨_,λ_=>rfl⟩;have Yh:∀cs,Dn (B cs):=λcs q hq=>by rw[hB]at hq;simp at hq;rcases hq with rfl|rfl|rfl<;>exact⟨rfl,rfl⟩
 have Tb:∀(w:World) (o:Obj),(w.alloc o).heap.size=w+1:=λw o=>by simp
 obtain⟨O,NK⟩:∃O:List Value->List DA,∀cs,O cs=os++[fS]++B cs:=⟨_,λ_=>rfl⟩;have h3:Wd X (O E6) m W3:=by
  have U:=h.new ((AS W W).alloc ao (AK #[AI X.p.w] 23)) (heap_alloc_new _ _:Row _ _ 23 [AI X.p.w]) ao;have Q:=U.new ((AS _ _).alloc ao (AK #[fb,nb,AA AB 3,cb,op] 125)) (heap_alloc_new _ _:Row _ _ 125 [fb,nb,AA AB 3,cb,op]) ao;have h3:=Q.new ((AS _ _).alloc ao (AK #[(),(),(),(),()] 125)) (heap_alloc_new _ _:Row _ _ 125 E6) ao;rw[<-Kv]at h3;simp only[Tb,<-hs0,CK,Cb,AR,B8,BI]at h3;rw[NK,hB];simp only[AR,B8,BI];exact h3
 have hnb:2*nb<=cb+1:=by rw[hf.bn,hc];exact Hu aK
 have Fh:cb=l.length:=by rw[<-hc,hS.len]
 have a7:fS.gr=AD:=by rw[zk];rfl
 have a3:fS.ex=(fb,nb):=by rw[zk];rfl
 have cT:∀cs,DC DA.gw (O cs)=DC DA.gw os:=λcs=>by
  rw[NK,DM,Dz,Dq _ (Yh _)];have:DA.gw fS=0:=by unfold DA.gw;rw[a7]
  omega
 have aD:∀cs Z,fS∈O cs++Z:=λcs Z=>by rw[NK];simp
 obtain⟨qh,ba⟩:=ae ((cb+1)/2);have bc:2*qh<=cb+1:=a5;have Ia:∀n,n<=cb->Cr hh n<=qh:=λn hn=>by
  have:=Hu (c:=n) aK;omega
 have MN:∀(cs:List Value) (Z:List DA) (E:List (Nat×Nat)) (n:Nat),(∀a∈Z,a.ex.2=0\/a.ex∈E)->(∀e∈E,e.2<=qh)->E.length<=2->n<=3*qh->(∀z,¬Rm X (O cs++Z) z n)->∀z,¬Rm X os z (MD l.length):=λcs Z E n k1 k2 k3 k4 k5 z hz=>by
  obtain⟨y,hy⟩:=ZQ hz ([fS]++B cs++Z) ((fb,nb)::E) (λa H=>by
   rcases Ag.1 H with H|H
   ·rcases Ag.1 H with H|H
    ·simp at H;subst H;exact .inr (by rw[a3];simp)
    ·exact .inl (Yh _ a H).2
   ·rcases k1 a H with h|h
    ·exact .inl h
    ·exact .inr (by simp[h])) (λe he=>by
   rcases A8.1 he with rfl|he
   ·show nb<=qh;omega
   ·exact k2 e he) (by simp only[BY];omega) k4 (by omega:2*qh<=l.length+1)
  refine k5 y ?_;rw[NK];simpa [AR]using hy
 obtain⟨ul,qB⟩:∃ul:Option Nat->List DA,(ul AD=[])/\∀g,ul (AE g)=[Cs g 28 Z4]:=⟨λu=>match u with|none=>[]|some g=>[Cs g 28 Z4],rfl,λ_=>rfl⟩;have ar:∀u,Dn (ul u):=λu q hq=>by
  cases u with
  |none=>rw[qB.1]at hq;cases hq
  |some g=>rw[qB.2]at hq;simp at hq;subst hq;exact⟨rfl,rfl⟩
 obtain⟨fc,OI⟩:∃fc:List Value,fc=[AA AB fb,AA AB nb,AA AB (3:Nat),AA AB cb]:=⟨_,rfl⟩;obtain⟨AF,ad⟩:∃AF:List Cv->Nat->Nat->Prop,∀A F N,AF A F N↔A.Perm S/\(A.Pairwise λu v=>u.b<=v.b)/\GY F N 3 hh A X.sz:=⟨_,λ_ _ _=>BN⟩;have aI:∀{A F N},AF A F N->A.length=cb/\N<=qh:=λ{A F N} q=>by
  obtain⟨q1,_,q3⟩:=(ad _ _ _).1 q;have e:A.length=cb:=by rw[q1.length_eq,hc]
  exact⟨e,by rw[q3.bn];exact Ia _ a5⟩
 have EU:∀{cs Z M w},Wd X (O cs++Z) M w->Row w s0 23 [AI X.p.w]/\Row w (s0+1) 125 [fb,nb,AA AB 3,cb,op]/\Row w (s0+2) 125 cs:=λ{cs Z M w} q=>
  ⟨q.Eg (by rw[NK,hB];simp),q.Eg (by rw[NK,hB];simp),q.Eg (by rw[NK,hB];simp)⟩
 have SI:∀{cs Z M w} (x0 x1 x2 x3 x4:Value),cs.length=5->Wd X (O cs++Z) M w->Wd X (O [x0,x1,x2,x3,x4]++Z) M (((((w.setCell (s0+2,0) x0).setCell (s0+2,1) x1).setCell (s0+2,2) x2).setCell (s0+2,3) x3).setCell (s0+2,4) x4):=λ{cs Z M w} x0 x1 x2 x3 x4 a0 q=>by
  have e1:∀cs,O cs++Z=(os++[fS]++[Cs s0 23 [AI X.p.w],Cs (s0+1) 125 [fb,nb,AA AB 3,cb,op]])++Cs (s0+2) 125 cs::Z:=λcs=>by rw[NK,hB];simp
  rw[e1]at q⊢;have H:∀cs,((os++[fS]++[Cs s0 23 [AI X.p.w],Cs (s0+1) 125 [fb,nb,AA AB 3,cb,op]])++Cs (s0+2) 125 cs::Z)[(os++[fS]++[Cs s0 23 [AI X.p.w],Cs (s0+1) 125 [fb,nb,AA AB 3,cb,op]]).length]?=AE (Cs (s0+2) 125 cs):=λcs=>by rw[AX ao,Ap];rfl
  have ND:∀cs JX,((os++[fS]++[Cs s0 23 [AI X.p.w],Cs (s0+1) 125 [fb,nb,AA AB 3,cb,op]])++Cs (s0+2) 125 cs::Z).set (os++[fS]++[Cs s0 23 [AI X.p.w],Cs (s0+1) 125 [fb,nb,AA AB 3,cb,op]]).length (Cs (s0+2) 125 JX)=(os++[fS]++[Cs s0 23 [AI X.p.w],Cs (s0+1) 125 [fb,nb,AA AB 3,cb,op]])++Cs (s0+2) 125 JX::Z:=λcs JX=>by rw[As _ _ ao,Ap];rfl
  have k0:=q.store (H _) a6 0 x0;rw[ND]at k0;have k1:=k0.store (H _) a6 1 x1;rw[ND]at k1;have k2:=k1.store (H _) a6 2 x2;rw[ND]at k2;have k3:=k2.store (H _) a6 3 x3;rw[ND]at k3;have k4:=k3.store (H _) a6 4 x4;rw[ND]at k4
  match cs,a0 with
  |[c0,c1,c2,c3,c4],_=>exact k4
 have aE:∀(cs:List Value) (Z:List DA) (M:Nat) (w:World) (u:Bf),Wd X (O cs++Z) M w->CallsD AP 67 #[AI X.p.w,AL #[fb,nb,AA AB 3,cb]] u w λe u' w'=>u'=u/\(e=AH ()/\Row w' (s0+2) 125 cs/\Wd X (os++Z) M w'):=λcs Z M w u q=>by
  have e1:∀f,os++[f]++B cs++Z=os++f::(B cs++Z):=λf=>by simp
  rw[NK,e1]at q;have H:(os++fS::(B cs++Z))[os.length]?=AE fS:=a8;rw[zk]at H;refine(Ir u (by rw[zk]at q;exact q) H hf.fst (by have:=hf.bn;have:=Di hh S.length;omega) cb).mono ?_;rintro e u' w' ⟨k1,k2,k3⟩;have e2:(os++Da fb nb 3 hh S X.sz::(B cs++Z)).set os.length Dt=os++Dt::(B cs++Z):=a8;rw[e2]at k3;refine⟨k1,k2,k3.Eg (by rw[hB];simp),?_⟩;have k4:=k3.cut rfl rfl;rw[<-AR]at k4;exact Wd.Fy _ (Yh _) k4
 obtain⟨CA,ab⟩:∃CA:Option Nat->World->Prop,∀u w,CA u w↔Wd X (O E6++ul u) m w:=⟨_,λ_ _=>BN⟩;obtain⟨CB,nj⟩:∃CB:Nat->Option Nat->World->Prop,∀g u w,CB g u w↔Wd X (O E6++ul u++IA g X.p.w fc Od) m w:=⟨_,λ_ _ _=>BN⟩;obtain⟨CC,qQ⟩:∃CC:Option Nat->Nat->Nat->Nat->Nat->Nat->World->Prop,∀u F N K L er w,CC u F N K L er w↔((er=0/\K=3/\∃A m' J,Dn J/\L=A.length/\AF A F N/\m'<=m+7000/\Wd X (O E6++ul u++(J++[Da F N 3 hh A X.sz])) m' w)\/(0<er/\I9 X os l.length er/\∃m' J,Dn J/\Wd X (O E6++ul u++J) m' w)):=⟨_,λ_ _ _ _ _ _ _=>BN⟩;obtain⟨CD,iA⟩:∃CD:Nat->Nat->Nat->Nat->Nat->Nat->World->Prop,∀I F N K L er w,CD I F N K L er w↔((er=0/\K=3/\∃A m' J,Dn J/\L=A.length/\AF A F N/\m'<=m+7000/\Wd X (O E6++Cs I 28 [F,N,K,L]::(J++[Da F N 3 hh A X.sz])) m' w)\/(0<er/\I9 X os l.length er/\∃m' J,Dn J/\Wd X (O E6++Cs I 28 [F,N,K,L]::J) m' w)):=⟨_,λ_ _ _ _ _ _ _=>BN⟩;obtain⟨X1,aG⟩:∃X1:Nat->World->Prop,∀er w,X1 er w↔0<er/\I9 X os l.length er/\∃m' J,Dn J/\Wd X (O E6++J) m' w:=⟨_,λ_ _=>BN⟩;obtain⟨CE,qP⟩:∃CE:Nat->Nat->Nat->Nat->Nat->Nat->World->Prop,∀I gl F N K L w,CE I gl F N K L w↔K=3/\∃A m' J,Dn J/\L=A.length/\AF A F N/\m'<=m+7000/\Wd X (O E6++Cs I 28 [F,N,K,L]::Cs gl 125 E6::(J++[Da F N 3 hh A X.sz])) m' w:=⟨_,λ_ _ _ _ _ _ _=>BN⟩;obtain⟨CG,xQ⟩:∃CG:Nat->Nat->Nat->Nat->Nat->Nat->Nat->Nat->Nat->Nat->Nat->World->Prop,∀I gl F N K L F2 N2 K2 L2 n w,CG I gl F N K L F2 N2 K2 L2 n w↔K=3/\K2=3/\∃A S' m' J,Dn J/\L=A.length/\AF A F N/\L2=S'.length/\GY F2 N2 3 hh S' X.sz/\(S'.Pairwise λu v=>u.a<=v.a)/\S'.Perm (A.map (lenT S))/\n=A.countP (gO S)/\m'<=m+14000/\
   Wd X (O E6++Cs I 28 [F,N,K,L]::Cs gl 125 [F2,N2,K2,L2,n]::(J++[Da F N 3 hh A X.sz,Da F2 N2 3 hh S' X.sz])) m' w:=⟨_,λ_ _ _ _ _ _ _ _ _ _ _ _=>BN⟩
 obtain⟨X2,av⟩:∃X2:Nat->Nat->Nat->Nat->Nat->World->Prop,∀F N K L er w,X2 F N K L er w↔0<er/\(er=3/\¬Gt l\/I9 X os l.length er)/\K=3/\∃A m' J1 J2,Dn J1/\Dn J2/\AF A F N/\Wd X (O E6++(J1++Da F N 3 hh A X.sz::J2)) m' w:=⟨_,λ_ _ _ _ _ _=>BN⟩;obtain⟨Y2,aF⟩:∃Y2:Nat->Nat->Nat->Nat->Nat->Nat->Nat->Nat->Nat->World->Prop,∀F N K L F2 N2 K2 L2 n w,Y2 F N K L F2 N2 K2 L2 n w↔K=3/\K2=3/\∃A S' m' J,Dn J/\AF A F N/\L2=S'.length/\GY F2 N2 3 hh S' X.sz/\Sm l (k+1) S'/\n=PM S'/\PM S'<PM S/\m'<=m+14000/\
   Wd X (O [F2,N2,K2,L2,n]++(J++[Da F N 3 hh A X.sz,Da F2 N2 3 hh S' X.sz])) m' w:=⟨_,λ_ _ _ _ _ _ _ _ _ _=>BN⟩
 have nK:∀(cs:List Value) (J1 J2:List DA) (A:List Cv) (F N L M:Nat) (w:World) (u:Bf),AF A F N->Wd X (O cs++(J1++Da F N 3 hh A X.sz::J2)) M w->CallsD AP 67 #[AI (AE ⟨X.p.w,0,AD⟩),AL #[AA AB F,AA AB N,AA AB (3:Nat),AA AB L]] u w λe u' w'=>u'=u/\(e=AH (AA AB 0)/\Wd X (O cs++(J1++Dt::J2)) M w'):=λcs J1 J2 A F N L M w u hA q=>by
  have hN:=(aI hA).2;have hF:=((ad _ _ _).1 hA).2.2;rw[<-AR]at q;have H:(O cs++J1++Da F N 3 hh A X.sz::J2)[(O cs++J1).length]?=AE (Da F N 3 hh A X.sz):=a8;refine(Ir u q H hF.fst a5 L).mono ?_;rintro e u' w' ⟨k1,k2,k3⟩;have e2:(O cs++J1++Da F N 3 hh A X.sz::J2).set (O cs++J1).length Dt=O cs++(J1++Dt::J2):=a8;rw[e2]at k3;exact⟨k1,k2,k3⟩
 refine mB hs0 Kv (CA:=CA) (CB:=CB) (CC:=CC) (CD:=CD) (X1:=X1) (CE:=CE) (CF:=λ_ gl _ _ _ _ _ _ _ _ n w=>Row w gl 125 [(),(),(),(),n]) (CG:=CG) (X2:=X2) (Y2:=Y2)
  ⟨?_,?_,?_,?_,?_,?_,?_,?_,?_,?_,?_,?_,?_,?_,?_,?_,?_,?_,?_,?_,?_,?_,?_,?_⟩
 ·
  refine(ab _ _).2 ?_;rw[qB.1,AZ];exact h3
 ·
  intro u w q;exact(ab _ _).2 (((ab _ _).1 q).drewN 1)
 ·
  intro w q;have q:=(ab _ _).1 q;rw[qB.1,AZ]at q;refine(ab _ _).2 ?_;rw[qB.2];exact q.new ((AS w w).alloc ao (AK #[(),(),(),()] 28)) (heap_alloc_new _ _:Row _ _ 28 Z4) ao
 ·
  intro u w q;have k:=EU ((ab _ _).1 q);exact⟨k.1,k.2.1⟩
 ·
  intro u w q;refine(Su (o:=Od) (first:=fb) (nb:=nb) (k:=3) (count:=cb) ((ab _ _).1 q)).mono ?_;rintro e w' ⟨g,he,hw,_⟩;exact⟨g,he,(nj _ _ _).2 (by rw[OI];exact hw)⟩
 ·
  intro g w q;have q:=(nj _ _ _).1 q;rw[qB.1,AZ]at q;refine(nj _ _ _).2 ?_;rw[qB.2];exact Wd.front (q.new ((AS w w).alloc ao (AK #[(),(),(),()] 28)) (heap_alloc_new _ _:Row _ _ 28 Z4) ao)
 ·
  intro g u w q;have q:=(nj _ _ _).1 q;rw[AR]at q;have k:=EU q;exact⟨k.1,k.2.1⟩
 ·
  intro g u w q;have q:=(nj _ _ _).1 q;have GZ:DC DA.gw (O E6++ul u)=DC DA.gw os:=by rw[DM,cT,Dq _ (ar u)];rfl
  have nH:DC DA.gw (O E6++ul u++IA g X.p.w fc Od)=DC DA.gw os:=by rw[DM,GZ,Dq _ (El _ _ _ _)];rfl
  have aa:=Ss (os:=O E6++ul u) (g:=g) (o:=Od) (first:=fb) (nb:=nb) (k:=3) (count:=cb) hf (by rw[<-zk];exact aD _ _) hc cZ (by rw[VS];omega) tK (by rw[GZ];omega) (by rw[VS,<-Jv];omega);rw[VS,<-OI,l9 hf.fit,<-Jv]at aa;refine(Mo (cb:=cb) (o:=o2) (once:=false) aa (λl' os' ⟨U,Q⟩=>by
   rw[U,Q,nH];exact⟨a5,a5⟩) Lt xW NF q a5).mono ?_
  unfold Mj;rw[<-Jv];rintro e w' (⟨F,N,l',s,os',m',he,NH,⟨Hz,FT⟩,Gg,Gk,hm,hw⟩|⟨er,os',m',he,hp,Hw,hw⟩)
  ·subst Hz FT;have hk:Dp false o2 s=s:=rfl;rw[hk]at he NH hw;refine⟨F,N,3,s.length,0,he,(qQ _ _ _ _ _ _ _).2 (.inl ⟨rfl,rfl,s,m',IA g X.p.w fc Od,El _ _ _ _,rfl,(ad _ _ _).2 ⟨Gk.perm.symm,AB1 Gg,NH⟩,a5,?_⟩)⟩;simpa [AR]using hw
  ·have cG:I9 X os l.length er/\os'=O E6++ul u++IA g X.p.w fc Od:=by
    rcases Hw with⟨U,Q⟩|⟨l',⟨U,Q⟩,h3⟩
    ·refine⟨?_,U⟩;rcases Q with Q|⟨Q,h3⟩
     ·exact .inl Q
     ·exact .inr ⟨Q,MN E6 (ul u) [] _ (λa H=>.inl (ar u a H).2) (λe he=>by cases he) a8 (by have:=Ia cb a5;omega) h3⟩
    ·refine⟨?_,U⟩;rcases h3 with h3|⟨h3,F,N,hN,h4⟩
     ·exact .inl h3
     ·subst U Q;have aw:N<=qh:=by rw[hN];exact Ia _ a5
      refine .inr ⟨h3,MN E6 (ul u++IA g X.p.w fc Od++[Da F N 3 hh l' X.sz]) [(F,N)] (3*N) (λa H=>?_) (λe he=>by simp at he;subst he;exact aw) a8 a5 (λz hz=>h4 z (by simpa [AR]using hz))⟩;rcases Ag.1 H with H|H
      ·rcases Ag.1 H with H|H
       ·exact .inl (ar u a H).2
       ·exact .inl (El _ _ _ _ a H).2
      ·simp at H;subst H;exact .inr (by simp;rfl)
   refine⟨0,0,0,0,er,he,(qQ _ _ _ _ _ _ _).2 (.inr ⟨hp,cG.1,m',_,El _ _ _ _,by rw[<-cG.2];exact hw⟩)⟩
 ·
  intro u F N K L er w q;rcases(qQ _ _ _ _ _ _ _).1 q with⟨_,_,A,m',J,_,_,_,_,q⟩|⟨_,_,m',J,_,q⟩
  ·rw[AR]at q;have k:=EU q;exact⟨k.1,k.2.1⟩
  ·rw[AR]at q;have k:=EU q;exact⟨k.1,k.2.1⟩
 ·
  intro I F N K L er w q;have key:∀Z M,Wd X (O E6++ul (AE I)++Z) M w->Row w I 28 [(),(),(),()]/\s0≠I/\s0+1≠I:=λZ M q=>by
   rw[qB.2]at q;have e0:(O E6++[Cs I 28 Z4]++Z)[os.length+1]?=AE (Cs s0 23 [AI X.p.w]):=by rw[NK,hB];simp
   have e1:(O E6++[Cs I 28 Z4]++Z)[os.length+2]?=AE (Cs (s0+1) 125 [fb,nb,AA AB 3,cb,op]):=by rw[NK,hB];simp
   have e2:(O E6++[Cs I 28 Z4]++Z)[os.length+4]?=AE (Cs I 28 Z4):=by rw[NK,hB];simp
   exact⟨q.row e2,q.apart e0 e2 a5 (k:=s0) rfl,q.apart e1 e2 a5 (k:=s0+1) rfl⟩
  rcases(qQ _ _ _ _ _ _ _).1 q with⟨_,_,A,m',J,_,_,_,_,q⟩|⟨_,_,m',J,_,q⟩
  ·exact key _ _ q
  ·exact key _ _ q
 ·
  intro F N K L er w q;have key:∀Z M,Wd X (O E6++ul AD++Z) M w->Wd X (O E6++Cs w 28 [F,N,K,L]::Z) M (w.alloc (AK #[F,N,K,L] 28)):=λZ M q=>by
   rw[qB.1,AZ]at q;have:=Wd.front (q.new ((AS w w).alloc ao (AK #[F,N,K,L] 28)) (heap_alloc_new _ _:Row _ _ 28 [F,N,K,L]) ao);simpa using this
  rcases(qQ _ _ _ _ _ _ _).1 q with⟨U,Q,A,m',J,k1,k2,k3,k4,q⟩|⟨U,Q,m',J,k1,q⟩
  ·exact(iA _ _ _ _ _ _ _).2 (.inl ⟨U,Q,A,m',J,k1,k2,k3,k4,key _ _ q⟩)
  ·exact(iA _ _ _ _ _ _ _).2 (.inr ⟨U,Q,m',J,k1,key _ _ q⟩)
 ·
  intro I F N K L er w q;have key:∀Z M,Wd X (O E6++ul (AE I)++Z) M w->Wd X (O E6++Cs I 28 [F,N,K,L]::Z) M ((((w.setCell I F).setCell (I,1) N).setCell (I,2) K).setCell (I,3) L):=λZ M q=>by
   rw[qB.2]at q;have e1:∀cs,O E6++[Cs I 28 cs]++Z=O E6++Cs I 28 cs::Z:=λcs=>by simp
   rw[e1]at q;have k4:=F4 q (i:=(O E6).length) (R:=I) (cs:=Z4) (by rw[AX ao,Ap];rfl) rfl F N K L;rw[As _ _ ao,Ap]at k4;exact k4
  rcases(qQ _ _ _ _ _ _ _).1 q with⟨U,Q,A,m',J,k1,k2,k3,k4,q⟩|⟨U,Q,m',J,k1,q⟩
  ·exact(iA _ _ _ _ _ _ _).2 (.inl ⟨U,Q,A,m',J,k1,k2,k3,k4,key _ _ q⟩)
  ·exact(iA _ _ _ _ _ _ _).2 (.inr ⟨U,Q,m',J,k1,key _ _ q⟩)
 ·
  intro I F N K L er w q;rcases(iA _ _ _ _ _ _ _).1 q with⟨U,Q,A,m',J,k1,k2,k3,k4,q⟩|⟨U,Q,m',J,k1,q⟩
  ·have k:=EU q;exact⟨k.1,q.Eg a8,k.2.2⟩
  ·have k:=EU q;exact⟨k.1,q.Eg a8,k.2.2⟩
 ·
  intro I F N K L er w q aC;rcases(iA _ _ _ _ _ _ _).1 q with⟨U,_⟩|⟨U,Q,m',J,k1,q⟩
  ·exact absurd U aC
  ·refine(aG _ _).2 ⟨U,Q,m',Cs I 28 [F,N,K,L]::J,λa H=>?_,SI _ _ _ _ _ rfl q⟩;rcases A8.1 H with rfl|H
   ·exact⟨rfl,rfl⟩
   ·exact k1 a H
 ·
  intro er u w q;obtain⟨U,Q,m',J,k1,q⟩:=(aG _ _).1 q;refine(aE _ _ _ _ u q).mono ?_;rintro e u' w' ⟨k2,k3,k4,k5⟩;have k6:=Wd.Fy (b:=[]) J k1 (by rw[AZ];exact k5);rw[AZ]at k6;exact⟨k2,k3,k4,.inr ⟨er,m',rfl,U,.inr Q,k6⟩⟩
 ·
  intro I F N K L w q;rcases(iA _ _ _ _ _ _ _).1 q with⟨_,Q,A,m',J,k1,k2,k3,k4,q⟩|⟨U,_⟩
  ·refine(qP _ _ _ _ _ _ _).2 ⟨Q,A,m',J,k1,k2,k3,k4,?_⟩;have e1:∀Z,O E6++Cs I 28 [F,N,K,L]::Z=(O E6++[Cs I 28 [F,N,K,L]])++Z:=λZ=>by simp
   rw[e1]at q⊢;have:=Wd.front (q.new ((AS w w).alloc ao (AK #[(),(),(),(),()] 125)) (heap_alloc_new _ _:Row _ _ 125 E6) ao);simpa using this
  ·omega
 ·
  intro I gl F N K L w q;obtain⟨_,A,m',J,_,_,_,_,q⟩:=(qP _ _ _ _ _ _ _).1 q;exact(EU q).1
 ·
  intro I gl F N K L w q;obtain⟨U,A,m1,J,k1,k2,k3,k4,qq⟩:=(qP _ _ _ _ _ _ _).1 q;subst U;obtain⟨Tt,N5,aJ⟩:=(ad _ _ _).1 k3;obtain⟨al,a2⟩:=aI k3;obtain⟨pre,Ol⟩:=ae (O E6++[Cs I 28 [AA AB F,AA AB N,AA AB (3:Nat),AA AB L]]);obtain⟨post,D5⟩:=ae (J++[Da F N 3 hh A X.sz]);have a1:FW gl A S 0=[Cs gl 125 E6]:=by unfold FW;simp[Ev,E6]
  have hq:Wd X (pre++FW gl A S 0++post) m1 w:=by
   rw[Ol,D5,a1];simpa [AR]using qq
  have GZ:∀i,DC DA.gw (pre++FW gl A S i++post)=DC DA.gw os:=λi=>by
   have e1:DC DA.gw (FW gl A S i)=0:=rfl;have e2:DC DA.gw post=0:=by rw[D5,Dz,Dq _ k1];rfl
   have e3:DC DA.gw pre=DC DA.gw os:=by rw[Ol,Dz,cT];rfl
   rw[DM,DM,e1,e2,e3];rfl
  have wj:(A.map (lenT S)).length=cb:=by rw[Aj,al]
  have Ta:∀t∈A,-1<=t.b:=λt ht=>by
   by_cases hb:t.b=-1
   ·omega
   ·obtain⟨_,_,_,h9⟩:=hS.pos h0 (Tt.mem_iff.1 ht) hb;omega
  have aa:=sq (X:=X) (pre:=pre) (post:=post) (gl:=gl) (gw:=s0) (gas:=I) (gs:=s0+1) (op:=op) (ca:=cb) aJ (by rw[D5];simp) al hf (by rw[Ol,<-zk];simp only[AR];exact aD _ _) hc (hS.up.imp λ{u v} h=>by omega) N5 Ta (λt ht=>se hf.fit (aJ.fit t ht)) (by rw[GZ];omega) (by rw[Ol,NK,hB];simp) (by rw[Ol,<-al,<-k2];simp) (by rw[Ol,NK,hB];simp);rw[<-Jv]at aa;refine(Mo (cb:=cb) (o:=o1) (once:=false) aa (λl' os' ⟨U,Q⟩=>by
   rw[U,Q,GZ,wj];exact⟨a5,a5⟩) Lt UX NF hq a5).mono ?_
  unfold Mj;rw[<-Jv];have aB:∀i Z M w,Wd X (pre++FW gl A S i++post++Z) M w->Row w gl 125 [(),(),(),(),((A.take i).countP (gO S):Nat)]:=λi Z M w q=>q.Eg (by simp[FW,Ev]);have Oj:∀(i:Nat) Z M w (x0 x1 x2 x3:Value),Wd X (pre++FW gl A S i++post++Z) M w->Wd X (O E6++Cs I 28 [AA AB F,AA AB N,AA AB (3:Nat),AA AB L]::Cs gl 125 [x0,x1,x2,x3,AA AB ((A.take i).countP (gO S):Nat)]::(post++Z)) M ((((w.setCell ⟨gl,0,AD⟩ x0).setCell ⟨gl,1,AD⟩ x1).setCell ⟨gl,2,AD⟩ x2).setCell ⟨gl,3,AD⟩ x3):=λi Z M w x0 x1 x2 x3 q=>by
   have e1:pre++FW gl A S i++post++Z=pre++Cs gl 125 (Ev ((A.take i).countP (gO S)))::(post++Z):=by simp[FW]
   rw[e1]at q;have H:∀cs,(pre++Cs gl 125 cs::(post++Z))[pre.length]?=AE (Cs gl 125 cs):=λcs=>by simp
   have ND:∀cs JX,(pre++Cs gl 125 cs::(post++Z)).set pre.length (Cs gl 125 JX)=pre++Cs gl 125 JX::(post++Z):=λcs JX=>by simp
   have k0:=q.store (H _) a6 0 x0;rw[ND]at k0;have k1:=k0.store (H _) a6 1 x1;rw[ND]at k1;have k2:=k1.store (H _) a6 2 x2;rw[ND]at k2;have k3:=k2.store (H _) a6 3 x3;rw[ND]at k3;have e2:∀cs,pre++Cs gl 125 cs::(post++Z)=O E6++Cs I 28 [AA AB F,AA AB N,AA AB (3:Nat),AA AB L]::Cs gl 125 cs::(post++Z):=λcs=>by rw[Ol];simp
   rw[e2]at k3;exact k3
  rintro e w' (⟨F2,N2,l',s,os',m',he,NH,⟨Hz,FT⟩,Gg,Gk,hm,hw⟩|⟨er,os',m',he,hp,Hw,hw⟩)
  ·subst Hz FT;have hk:Dp false o1 s=s:=rfl;rw[hk]at he NH hw;have Pj:A.take cb=A:=by rw[<-al,By]
   have hr:=aB cb _ _ _ hw;have hs:=Oj cb _ _ _ (AA AB F2) (AA AB N2) (AA AB (3:Nat)) (AA AB (s.length:Nat)) hw;rw[Pj]at hr hs;refine⟨F2,N2,3,s.length,A.countP (gO S),0,he,hr,λ_=>(xQ _ _ _ _ _ _ _ _ _ _ _ _).2 ⟨rfl,rfl,A,s,m',J,k1,k2,k3,rfl,NH,au Gg,Gk.perm.symm,rfl,a5,?_⟩,λh=>absurd rfl h⟩;rw[D5]at hs;simpa [AR]using hs
  ·obtain⟨cG,i,hi⟩:I9 X os l.length er/\∃i,os'=pre++FW gl A S i++post:=by
    have cF:∀i,∀a∈[Cs I 28 [AA AB F,AA AB N,AA AB (3:Nat),AA AB L]]++FW gl A S i++post,a.ex.2=0\/a.ex∈[(F,N)]:=λi a H=>by
     rcases Ag.1 H with H|H
     ·rcases Ag.1 H with H|H
      ·simp at H;subst H;exact .inl rfl
      ·simp[FW]at H;subst H;exact .inl rfl
     ·rw[D5]at H;rcases Ag.1 H with H|H
      ·exact .inl (k1 a H).2
      ·simp at H;subst H;exact .inr (by simp;rfl)
    have aH:∀i,pre++FW gl A S i++post=O E6++([Cs I 28 [AA AB F,AA AB N,AA AB (3:Nat),AA AB L]]++FW gl A S i++post):=λi=>by rw[Ol];simp
    rcases Hw with⟨Q,i,U⟩|⟨l',⟨U,Q⟩,h3⟩
    ·refine⟨?_,i,U⟩;rcases Q with Q|⟨Q,h3⟩
     ·exact .inl Q
     ·refine .inr ⟨Q,MN E6 _ [(F,N)] (Cr hh cb) (cF 0) (λe he=>by simp at he;subst he;exact a2) a8 (by have:=Ia cb a5;omega) (λz hz=>h3 z (by rw[aH];exact hz))⟩
    ·refine⟨?_,cb,Q⟩;rcases h3 with h3|⟨h3,F3,N3,hN,h4⟩
     ·exact .inl h3
     ·subst U Q;have aw:N3<=qh:=by rw[hN,wj];exact Ia _ a5
      refine .inr ⟨h3,MN E6 ([Cs I 28 [AA AB F,AA AB N,AA AB (3:Nat),AA AB L]]++FW gl A S cb++post++[Da F3 N3 3 hh (A.map (lenT S)) X.sz]) [(F,N),(F3,N3)] (3*N3) (λa H=>?_) (λe he=>by simp at he;rcases he with rfl|rfl<;>assumption) a8 a5 (λz hz=>h4 z (by rw[aH];simpa [AR]using hz))⟩;rcases Ag.1 H with H|H
      ·rcases cF cb a H with h|h
       ·exact .inl h
       ·exact .inr (by simp at h;simp[h])
      ·simp at H;subst H;exact .inr (by simp;exact .inr rfl)
   subst hi;have JM:Wd X (pre++FW gl A S i++post++[]) m' w':=by rw[AZ];exact hw
   refine⟨0,0,0,0,_,er,he,aB i _ _ _ JM,λh=>by omega,λaC Ej zA=>?_⟩;have hs:=Oj i _ _ _ (AA AB (0:Nat)) (AA AB (0:Nat)) (AA AB (0:Nat)) (AA AB (0:Nat)) JM;rw[<-zA,AZ,D5]at hs;refine⟨(av _ _ _ _ _ _).2 ⟨hp,.inr cG,rfl,A,m',Cs I 28 [AA AB F,AA AB N,AA AB (3:Nat),AA AB L]::Cs gl 125 [AA AB (0:Nat),AA AB (0:Nat),AA AB (0:Nat),AA AB (0:Nat),AA AB ((A.take i).countP (gO S):Nat)]::J,[],λa H=>?_,(λa H=>by cases H),k3,?_⟩,(EU hs).2.2⟩
   ·rcases A8.1 H with rfl|H
    ·exact⟨rfl,rfl⟩
    ·rcases A8.1 H with rfl|H
     ·exact⟨rfl,rfl⟩
     ·exact k1 a H
   ·have:=SI () () () () () rfl hs;simpa [E6]using this
 ·
  intro I gl F N K L F2 N2 K2 L2 n w q;exact q
 ·
  intro I gl F N K L F2 N2 K2 L2 n w q;obtain⟨_,_,A,S',m',J,_,_,_,_,_,_,_,_,_,q⟩:=(xQ _ _ _ _ _ _ _ _ _ _ _ _).1 q;have k:=EU q;exact⟨⟨q.Eg a8,k.2.1⟩,k.1,k.2.2⟩
 ·
  intro I gl F N K L F2 N2 K2 L2 n w q a9;obtain⟨U,Q,A,S',m',J,k1,k2,k3,k4,k5,k6,k7,k8,k9,qq⟩:=(xQ _ _ _ _ _ _ _ _ _ _ _ _).1 q;subst U Q;have Tt:=((ad _ _ _).1 k3).1;have aw:N2<=100000:=by have:=k5.bn;have:=Di hh S'.length;have:=k5.len;omega
  have e1:∀f,O E6++Cs I 28 [AA AB F,AA AB N,AA AB (3:Nat),AA AB L]::Cs gl 125 [AA AB F2,AA AB N2,AA AB (3:Nat),AA AB L2,AA AB n]::(J++[Da F N 3 hh A X.sz,f])=(O E6++(Cs I 28 [AA AB F,AA AB N,AA AB (3:Nat),AA AB L]::Cs gl 125 [AA AB F2,AA AB N2,AA AB (3:Nat),AA AB L2,AA AB n]::(J++[Da F N 3 hh A X.sz])))++[f]:=λf=>by simp
  rw[e1]at qq;refine(OP qq (GC _ _) k5.fst a5 L2).mono ?_;rintro e w' ⟨he,hw⟩;rw[Gf]at hw;have aa:=SI (cs:=E6) () () () () () rfl (by rw[AR]at hw;exact hw);rw[AR]at hw;refine⟨he,(EU hw).2.2,(av _ _ _ _ _ _).2 ⟨a5,.inl ⟨rfl,λhr=>?_⟩,rfl,A,m',Cs I 28 [AA AB F,AA AB N,AA AB (3:Nat),AA AB L]::Cs gl 125 [AA AB F2,AA AB N2,AA AB (3:Nat),AA AB L2,AA AB n]::J,[Dt],λa H=>?_,λa H=>?_,k3,by simpa [E6]using aa⟩⟩
  ·have wN:=hS.step h0 Tt k6 k7;have aY:=hS.less hr wN a5;have:=hS.count h0 Tt;rw[XJ k7]at aY;omega
  ·rcases A8.1 H with rfl|H
   ·exact⟨rfl,rfl⟩
   ·rcases A8.1 H with rfl|H
    ·exact⟨rfl,rfl⟩
    ·exact k1 a H
  ·simp at H;subst H;exact⟨rfl,rfl⟩
 ·
  intro I gl F N K L F2 N2 K2 L2 n w q a9;obtain⟨U,Q,A,S',m',J,k1,k2,k3,k4,k5,k6,k7,k8,k9,qq⟩:=(xQ _ _ _ _ _ _ _ _ _ _ _ _).1 q;subst U Q;have Tt:=((ad _ _ _).1 k3).1;have wN:=hS.step h0 Tt k6 k7;have Nx:=hS.count h0 Tt;have bb:=XJ k7;have hle:=hS.le h0 wN;refine(aF _ _ _ _ _ _ _ _ _ _).2 ⟨rfl,rfl,A,S',m',Cs I 28 [AA AB F,AA AB N,AA AB (3:Nat),AA AB L]::Cs gl 125 [AA AB F2,AA AB N2,AA AB (3:Nat),AA AB L2,AA AB n]::J,λa H=>?_,k3,k4,k5,wN,a5,a5,k9,?_⟩
  ·rcases A8.1 H with rfl|H
   ·exact⟨rfl,rfl⟩
   ·rcases A8.1 H with rfl|H
    ·exact⟨rfl,rfl⟩
    ·exact k1 a H
  ·have:=SI (AA AB F2) (AA AB N2) (AA AB (3:Nat)) (AA AB L2) (AA AB n) rfl qq;simpa using this
 ·
  intro F N K L er u w q;obtain⟨U,Q,h3,A,m',J1,J2,k1,k2,k3,qq⟩:=(av _ _ _ _ _ _).1 q;subst h3;refine(nK _ _ _ _ _ _ L _ _ u k3 qq).mono ?_;rintro e u' w' ⟨q1,q2,q3⟩;refine⟨q1,q2,λu2=>(aE _ _ _ _ u2 q3).mono ?_⟩;rintro e u' Ej ⟨q4,q5,q6,q7⟩;have qK:Dn (J1++Dt::J2):=λa H=>by
   rcases Ag.1 H with H|H
   ·exact k1 a H
   ·rcases A8.1 H with rfl|H
    ·exact⟨rfl,rfl⟩
    ·exact k2 a H
  have k6:=Wd.Fy (b:=[]) _ qK (by rw[AZ];exact q7);rw[AZ]at k6;exact⟨q4,q5,q6,.inr ⟨er,m',rfl,U,Q,k6⟩⟩
 ·
  intro F N K L F2 N2 K2 L2 n u w q;obtain⟨U,Q,A,S',m',J,k1,k2,k3,k4,k5,k6,k7,k8,qq⟩:=(aF _ _ _ _ _ _ _ _ _ _).1 q;subst U Q;refine(nK _ J [Da F2 N2 3 hh S' X.sz] _ _ _ L _ _ u k2 qq).mono ?_;rintro e u' w' ⟨q1,q2,q3⟩;refine⟨q1,q2,λu2=>(aE _ _ _ _ u2 q3).mono ?_⟩;rintro e u' Ej ⟨q4,q5,q6,q7⟩;have qK:Dn (J++[Dt]):=λa H=>by
   rcases Ag.1 H with H|H
   ·exact k1 a H
   ·simp at H;subst H;exact⟨rfl,rfl⟩
  have k9:=Wd.Fy (a:=os) (b:=[Da F2 N2 3 hh S' X.sz]) _ qK (by simpa [AR]using q7);refine⟨q4,q5,q6,.inl ⟨F2,N2,S',m',by rw[k3,k6],?_,k5,k7,k8,?_⟩⟩
  ·rw[<-Jv];exact k4
  ·rw[<-Jv];exact k9
end
def pz(X:Cx)(os:List DA)(l:List Cv)(m:Nat)(e:Ending)(w':World):Prop:=
 (∃(F N:Nat) (S:List Cv) (m':Nat),e=AH (AM #[AL #[AA AB F,AA AB N,AA AB (3:Nat),AA AB (S.length:Nat),AA AB (PM S:Nat)],AA AB 0])/\GY F N 3 (Ct X.sz (3:Nat)) S X.sz/\Dh l/\Sm l 0 S/\m'<=m+16000/\Wd X (os++[Da F N 3 (Ct X.sz (3:Nat)) S X.sz]) m' w')\/
 (∃er m':Nat,e=AH (AM #[AL #[(),(),(),(),()],er])/\0<er/\(er=3/\¬Dh l\/I9 X os l.length er)/\Wd X os m' w')
theorem tM:Fg (-1):=Fg.of a5 a5
theorem uu{L}(I:∀u∈L,EE u/\Dc 3 u=true){t}(H:EE t):EE (La L t)/\Dc 3 (La L t)=true:=by
 unfold La
 cases e:LH L t.a with
 |some v=>exact I v (Kk e).1
 |none=>exact⟨Mq.2 ⟨(Mq.1 H).1,tM,ML,ML,ML⟩,Xz ⟨rfl,rfl⟩⟩
section
variable{X:Cx}{m:Nat}{W:World}
theorem kE{os fi nb cb en l}(h:Wd X os m W)(hf:GY fi nb 3 (Ct X.sz (3:Nat)) l X.sz)(al:Da fi nb 3 (Ct X.sz (3:Nat)) l X.sz∈os)(hc:l.length=cb)(Lt:cb<=300)(bm:en=l.countP Iz)(a0:∀t∈l,0<=t.a)(b0:∀t∈l,-1<=t.b)
  (aY:8*X.sz+DC DA.gw os<=X.rm)(NF:X.rm<=1000000)(hn:X.N+m+40000<=1000000):
  Calls AP 65 #[AI X.p.w,AL #[fi,nb,AA AB 3,cb],en] W (pz X os l m):=by
 have aX:=(Wd.bounds h).1;obtain⟨hh,Jv⟩:=ae (Ct X.sz (3:Nat));obtain⟨h1,Vf⟩:=ae (Ct X.sz (1:Nat));have bq:2<=hh:=by rw[Jv];exact LS aX.1 a5
 have br:2<=h1:=by rw[Vf];exact LS aX.1 a5
 rw[<-Jv]at hf al;obtain⟨s0,hs0⟩:=ae W.heap.size;obtain⟨W2,G9⟩:=ae ((W.alloc (AK #[fi,nb,AA AB 3,cb] 28)).alloc (AK #[(),(),(),(),()] 125));obtain⟨fc,OI⟩:∃fc:List Value,fc=[AA AB fi,AA AB nb,AA AB (3:Nat),AA AB cb]:=⟨_,rfl⟩;obtain⟨B,hB⟩:∃B:List Value->List DA,∀cs,B cs=[Cs s0 28 fc,Cs (s0+1) 125 cs]:=⟨_,λ_=>rfl⟩;have Yh:∀cs,Dn (B cs):=λcs q hq=>by rw[hB]at hq;simp at hq;rcases hq with rfl|rfl<;>exact⟨rfl,rfl⟩
 have Tb:∀(w:World) (o:Obj),(w.alloc o).heap.size=w+1:=λw o=>by simp
 obtain⟨O1,NK⟩:∃O1:List Value->List DA,∀cs,O1 cs=os++B cs:=⟨_,λ_=>rfl⟩;have h3:Wd X (O1 E6) m W2:=by
  have h1:=h.new ((AS W W).alloc ao (AK #[fi,nb,AA AB 3,cb] 28)) (by rw[OI];exact heap_alloc_new _ _:Row _ _ 28 fc) ao;have h3:=h1.new ((AS _ _).alloc ao (AK #[(),(),(),(),()] 125)) (heap_alloc_new _ _:Row _ _ 125 E6) ao;rw[<-G9]at h3;simp only[Tb,<-hs0,AR,B8,BI]at h3;rw[NK,hB];exact h3
 have cT:∀cs,DC DA.gw (O1 cs)=DC DA.gw os:=λcs=>by rw[NK,DM,Dq _ (Yh _)];rfl
 have a2:∀cs Z,Da fi nb 3 hh l X.sz∈O1 cs++Z:=λcs Z=>by rw[NK];simp[al]
 obtain⟨qh,bt⟩:=ae ((cb+1)/2);have Ia:∀n,n<=cb->Cr hh n<=qh:=λn hn=>by
  have:=Hu (c:=n) bq;omega
 have zu:∀n,n<=cb->Cr h1 n<=qh:=λn hn=>by
  have:=Hu (c:=n) br;omega
 have MN:∀(cs:List Value) (Z:List DA) (E:List (Nat×Nat)) (n:Nat),(∀a∈Z,a.ex.2=0\/a.ex∈E)->(∀e∈E,e.2<=qh)->E.length<=3->n<=3*qh->(∀z,¬Rm X (O1 cs++Z) z n)->∀z,¬Rm X os z (MD l.length):=λcs Z E n k1 U k3 k4 k5 z hz=>by
  obtain⟨y,hy⟩:=ZQ hz (B cs++Z) E (λa Q=>by
   rcases Ag.1 Q with Q|Q
   ·exact .inl (Yh _ a Q).2
   ·exact k1 a Q) U k3 k4 (by omega:2*qh<=l.length+1)
  refine k5 y ?_;rw[NK];simpa [AR]using hy
 obtain⟨EF,xP⟩:∃EF:List Cv->Nat->Nat->Prop,∀E F N,EF E F N↔Els l E/\GY F N 1 h1 E X.sz/\E.length<=cb:=⟨_,λ_ _ _=>BN⟩;obtain⟨LF,uI⟩:∃LF:List Cv->Nat->Nat->Prop,∀A F N,LF A F N↔A.Perm (l.map Qk)/\(A.Pairwise λu v=>u.a<=v.a)/\GY F N 3 hh A X.sz:=⟨_,λ_ _ _=>BN⟩;have aH:∀{E F N},EF E F N->N<=qh:=λ{E F N} q=>by
  obtain⟨_,q2,q3⟩:=(xP _ _ _).1 q;rw[q2.bn];exact zu _ q3
 have a9:∀{A F N},LF A F N->N<=qh/\A.length=cb:=λ{A F N} q=>by
  obtain⟨q1,_,q3⟩:=(uI _ _ _).1 q;have e:A.length=cb:=by rw[q1.length_eq,Aj,hc]
  exact⟨by rw[q3.bn];exact Ia _ a5,e⟩
 have EU:∀{cs Z M w},Wd X (O1 cs++Z) M w->Row w s0 28 [fi,nb,AA AB 3,cb]/\Row w (s0+1) 125 cs:=λ{cs Z M w} q=>
  ⟨by have:Row w s0 28 fc:=q.Eg (by rw[NK,hB];simp);rw[OI]at this;exact this,q.Eg (by rw[NK,hB];simp)⟩
 have SI:∀{cs Z M w} (x0 x1 x2 x3 x4:Value),cs.length=5->Wd X (O1 cs++Z) M w->Wd X (O1 [x0,x1,x2,x3,x4]++Z) M (((((w.setCell (s0+1,0) x0).setCell (s0+1,1) x1).setCell (s0+1,2) x2).setCell (s0+1,3) x3).setCell (s0+1,4) x4):=λ{cs Z M w} x0 x1 x2 x3 x4 bn q=>by
  have e1:∀cs,O1 cs++Z=(os++[Cs s0 28 fc])++Cs (s0+1) 125 cs::Z:=λcs=>by rw[NK,hB];simp
  rw[e1]at q⊢;have Q:∀cs,((os++[Cs s0 28 fc])++Cs (s0+1) 125 cs::Z)[(os++[Cs s0 28 fc]).length]?=AE (Cs (s0+1) 125 cs):=λcs=>by rw[AX ao,Ap];rfl
  have ND:∀cs JX,((os++[Cs s0 28 fc])++Cs (s0+1) 125 cs::Z).set (os++[Cs s0 28 fc]).length (Cs (s0+1) 125 JX)=(os++[Cs s0 28 fc])++Cs (s0+1) 125 JX::Z:=λcs JX=>by rw[As _ _ ao,Ap];rfl
  have k0:=q.store (Q _) a6 0 x0;rw[ND]at k0;have k1:=k0.store (Q _) a6 1 x1;rw[ND]at k1;have U:=k1.store (Q _) a6 2 x2;rw[ND]at U;have k3:=U.store (Q _) a6 3 x3;rw[ND]at k3;have k4:=k3.store (Q _) a6 4 x4;rw[ND]at k4
  match cs,bn with
  |[c0,c1,c2,c3,c4],_=>exact k4
 have SW:∀cs Z M w,Wd X (O1 cs++Z) M w->Wd X (os++Z) M w:=λcs Z M w q=>by
  rw[NK]at q;exact Wd.Fy _ (Yh _) q
 have aD:∀(cs:List Value) (O I:List DA) (E:List Cv) (F N L M:Nat) (w:World) (u:Bf),EF E F N->Wd X (O1 cs++(O++Da F N 1 h1 E X.sz::I)) M w->CallsD AP 67 #[AI (AE ⟨X.p.w,0,AD⟩),AL #[AA AB F,AA AB N,AA AB (1:Nat),AA AB L]] u w λe u' w'=>u'=u/\(e=AH (AA AB 0)/\Wd X (O1 cs++(O++Dt::I)) M w'):=λcs O I E F N L M w u hE q=>by
  have hN:=aH hE;have hF:=((xP _ _ _).1 hE).2.1;rw[<-AR]at q;have Q:(O1 cs++O++Da F N 1 h1 E X.sz::I)[(O1 cs++O).length]?=AE (Da F N 1 h1 E X.sz):=a8;refine(Ir u q Q hF.fst a5 L).mono ?_;rintro e u' w' ⟨k1,U,k3⟩;have e2:(O1 cs++O++Da F N 1 h1 E X.sz::I).set (O1 cs++O).length Dt=O1 cs++(O++Dt::I):=a8;rw[e2]at k3;exact⟨k1,U,k3⟩
 have nJ:∀(cs:List Value) (O I:List DA) (A:List Cv) (F N L M:Nat) (w:World) (u:Bf),LF A F N->Wd X (O1 cs++(O++Da F N 3 hh A X.sz::I)) M w->CallsD AP 67 #[AI (AE ⟨X.p.w,0,AD⟩),AL #[AA AB F,AA AB N,AA AB (3:Nat),AA AB L]] u w λe u' w'=>u'=u/\(e=AH (AA AB 0)/\Wd X (O1 cs++(O++Dt::I)) M w'):=λcs O I A F N L M w u hA q=>by
  have hN:=(a9 hA).1;have hF:=((uI _ _ _).1 hA).2.2;rw[<-AR]at q;have Q:(O1 cs++O++Da F N 3 hh A X.sz::I)[(O1 cs++O).length]?=AE (Da F N 3 hh A X.sz):=a8;refine(Ir u q Q hF.fst a5 L).mono ?_;rintro e u' w' ⟨k1,U,k3⟩;have e2:(O1 cs++O++Da F N 3 hh A X.sz::I).set (O1 cs++O).length Dt=O1 cs++(O++Dt::I):=a8;rw[e2]at k3;exact⟨k1,U,k3⟩
 have M6:∀{J:List DA} {a:DA},a.gr=AD/\a.ex.2=0->Dn J->Dn (a::J):=λ{J a} h1 h2 q hq=>by
  rcases A8.1 hq with rfl|hq
  ·exact h1
  ·exact h2 q hq
 have qL:∀{J K:List DA},Dn J->Dn K->Dn (J++K):=λ{J K} h1 h2 q hq=>by
  rcases Ag.1 hq with hq|hq
  ·exact h1 q hq
  ·exact h2 q hq
 have hex:∀{J:List DA} {E:List (Nat×Nat)},Dn J->∀a∈J,a.ex.2=0\/a.ex∈E:=λ{J E} h a Q=>.inl (h a Q).2;obtain⟨d,hd⟩:=ae (cb-en);have bC:en<=cb:=by rw[bm,<-hc];exact List.countP_le_length
 have bs:=λt ht=>(Mq.1 (hf.fit t ht).1).2.2.1;obtain⟨CC,qQ⟩:∃CC:Nat->Nat->Nat->Nat->Nat->World->Prop,∀F N K L er w,CC F N K L er w↔((er=0/\K=1/\∃E m' J,Dn J/\L=E.length/\EF E F N/\m'<=m+7000/\Wd X (O1 E6++(J++[Da F N 1 h1 E X.sz])) m' w)\/(0<er/\I9 X os l.length er/\∃m' J,Dn J/\Wd X (O1 E6++J) m' w)):=⟨_,λ_ _ _ _ _ _=>BN⟩;obtain⟨CD,iA⟩:∃CD:Nat->Nat->Nat->Nat->Nat->Nat->World->Prop,∀ge F N K L er w,CD ge F N K L er w↔Row w ge 28 [F,N,K,L]/\((er=0/\K=1/\∃E m' O I,Dn O/\Dn I/\L=E.length/\EF E F N/\m'<=m+7000/\Cs ge 28 [F,N,K,L]∈I/\Wd X (O1 E6++(O++Da F N 1 h1 E X.sz::I)) m' w)\/(0<er/\I9 X os l.length er/\∃m' J,Dn J/\Wd X (O1 E6++J) m' w)):=⟨_,λ_ _ _ _ _ _ _=>BN⟩;obtain⟨CF,ba⟩:∃CF:Nat->Nat->Nat->Nat->Nat->Nat->World->Prop,∀g ge F N K L w,CF g ge F N K L w↔K=1/\∃E m' O I,Dn O/\Dn I/\L=E.length/\EF E F N/\E.length=cb/\m'<=m+7000/\Cs ge 28 [F,N,K,L]∈I/\Wd X (O1 E6++(O++Da F N 1 h1 E X.sz::I)++IA g X.p.w fc Oc) m' w:=⟨_,λ_ _ _ _ _ _ _=>BN⟩;obtain⟨CG,xQ⟩:∃CG:Nat->Nat->Nat->Nat->Nat->Nat->Nat->Nat->Nat->Nat->World->Prop,∀ge F N K L F2 N2 K2 L2 er w,CG ge F N K L F2 N2 K2 L2 er w↔K=1/\∃E O I,Dn O/\Dn I/\L=E.length/\EF E F N/\E.length=cb/\Cs ge 28 [F,N,K,L]∈I/\
   ((er=0/\K2=3/\∃A m',L2=A.length/\LF A F2 N2/\m'<=m+14000/\Wd X (O1 E6++(O++Da F N 1 h1 E X.sz::(I++[Da F2 N2 3 hh A X.sz]))) m' w)\/(0<er/\I9 X os l.length er/\∃m',Wd X (O1 E6++(O++Da F N 1 h1 E X.sz::I)) m' w)):=⟨_,λ_ _ _ _ _ _ _ _ _ _ _=>BN⟩
 obtain⟨CH,aA⟩:∃CH:Nat->Nat->Nat->Nat->Nat->Nat->Nat->Nat->Nat->Nat->Nat->World->Prop,∀ge gk F N K L F2 N2 K2 L2 er w,CH ge gk F N K L F2 N2 K2 L2 er w↔K=1/\Row w gk 28 [F2,N2,K2,L2]/\∃E O I,Dn O/\Dn I/\L=E.length/\EF E F N/\E.length=cb/\Cs ge 28 [F,N,K,L]∈I/\
   ((er=0/\K2=3/\∃A m' J3,Dn J3/\L2=A.length/\LF A F2 N2/\m'<=m+14000/\Cs gk 28 [F2,N2,K2,L2]∈J3/\Wd X (O1 E6++(O++Da F N 1 h1 E X.sz::(I++Da F2 N2 3 hh A X.sz::J3))) m' w)\/(0<er/\I9 X os l.length er/\∃m',Wd X (O1 E6++(O++Da F N 1 h1 E X.sz::I)) m' w)):=⟨_,λ_ _ _ _ _ _ _ _ _ _ _ _=>BN⟩
 obtain⟨CI,aJ⟩:∃CI:Nat->Nat->Nat->Nat->Nat->Nat->Nat->Nat->Nat->Nat->Nat->World->Prop,∀ge gk gs F N K L F2 N2 K2 L2 w,CI ge gk gs F N K L F2 N2 K2 L2 w↔K=1/\K2=3/\∃E A m' O I J3,Dn O/\Dn I/\Dn J3/\L=E.length/\EF E F N/\E.length=cb/\L2=A.length/\LF A F2 N2/\m'<=m+14000/\Cs ge 28 [F,N,K,L]∈I/\Cs gk 28 [F2,N2,K2,L2]∈J3/\
   Wd X (O1 E6++(O++Da F N 1 h1 E X.sz::(I++Da F2 N2 3 hh A X.sz::J3))++[Cs gs 125 E6]) m' w:=⟨_,λ_ _ _ _ _ _ _ _ _ _ _ _=>BN⟩
 obtain⟨CJ,aw⟩:∃CJ:Nat->Nat->Nat->Nat->Nat->Nat->Nat->Nat->Nat->Nat->Nat->Nat->Nat->Nat->World->Prop,∀gs F N K L F2 N2 K2 L2 F3 N3 K3 L3 n w,CJ gs F N K L F2 N2 K2 L2 F3 N3 K3 L3 n w↔K=1/\K2=3/\K3=3/\∃E A m' O I J3,Dn O/\Dn I/\Dn J3/\EF E F N/\E.length=cb/\LF A F2 N2/\n=E.countP (NN A)/\L3=(E.map (La A)).length/\GY F3 N3 3 hh (E.map (La A)) X.sz/\m'<=m+16000/\
   Wd X (O1 E6++(O++Da F N 1 h1 E X.sz::(I++Da F2 N2 3 hh A X.sz::(J3++Cs gs 125 [F3,N3,K3,L3,n]::[Da F3 N3 3 hh (E.map (La A)) X.sz])))) m' w:=⟨_,λ_ _ _ _ _ _ _ _ _ _ _ _ _ _ _=>BN⟩
 obtain⟨X1,aE⟩:∃X1:Nat->Nat->Nat->Nat->Nat->World->Prop,∀F N K L er w,X1 F N K L er w↔0<er/\(er=3/\¬Dh l\/I9 X os l.length er)/\K=1/\∃E m' O I,Dn O/\Dn I/\EF E F N/\Wd X (O1 E6++(O++Da F N 1 h1 E X.sz::I)) m' w:=⟨_,λ_ _ _ _ _ _=>BN⟩;obtain⟨X2,aC⟩:∃X2:Nat->Nat->Nat->Nat->Nat->Nat->Nat->Nat->Nat->World->Prop,∀F N K L F2 N2 K2 L2 er w,X2 F N K L F2 N2 K2 L2 er w↔0<er/\(er=3/\¬Dh l\/I9 X os l.length er)/\K=1/\K2=3/\∃E A m' O I J3,Dn O/\Dn I/\Dn J3/\EF E F N/\LF A F2 N2/\Wd X (O1 E6++(O++Da F N 1 h1 E X.sz::(I++Da F2 N2 3 hh A X.sz::J3))) m' w:=⟨_,λ_ _ _ _ _ _ _ _ _ _=>BN⟩;obtain⟨Y2,a3⟩:∃Y2:Nat->Nat->Nat->Nat->Nat->Nat->Nat->Nat->Nat->Nat->Nat->Nat->Nat->World->Prop,∀F N K L F2 N2 K2 L2 F3 N3 K3 L3 n w,Y2 F N K L F2 N2 K2 L2 F3 N3 K3 L3 n w↔K=1/\K2=3/\K3=3/\∃E A S m' O I J3,Dn O/\Dn I/\Dn J3/\EF E F N/\LF A F2 N2/\Dh l/\Sm l 0 S/\n=PM S/\L3=S.length/\GY F3 N3 3 hh S X.sz/\m'<=m+16000/\
   Wd X (O1 [F3,N3,K3,L3,n]++(O++Da F N 1 h1 E X.sz::(I++Da F2 N2 3 hh A X.sz::(J3++[Da F3 N3 3 hh S X.sz])))) m' w:=⟨_,λ_ _ _ _ _ _ _ _ _ _ _ _ _ _=>BN⟩
 refine ai (d:=d) hs0 G9 a5 a5 (CA:=λw=>Wd X (O1 E6) m w) (CB:=λg w=>Wd X (O1 E6++IA g X.p.w fc o1) m w) (CC:=CC) (CD:=CD) (CF:=CF) (CG:=CG) (CH:=CH) (CI:=CI) (CJ:=CJ) (X1:=X1) (X2:=X2) (Y2:=Y2)
  ⟨h3,?_,?_,?_,?_,?_,?_,?_,?_,?_,?_,?_,?_,?_,?_,?_,?_,?_,?_,?_,?_,?_⟩
 ·
  intro w q;exact(EU (Z:=[]) (by rw[AZ];exact q)).1
 ·
  intro w q;refine(Su (o:=o1) (first:=fi) (nb:=nb) (k:=3) (count:=cb) q).mono ?_;rintro e w' ⟨g,he,hw,_⟩;exact⟨g,he,by rw[OI];exact hw⟩
 ·
  intro g w q;have nH:DC DA.gw (O1 E6++IA g X.p.w fc o1)=DC DA.gw os:=by rw[DM,cT,Dq _ (El _ _ _ _)];rfl
  have ab:=Ss (os:=O1 E6) (g:=g) (o:=o1) (first:=fi) (nb:=nb) (k:=3) (count:=cb) hf (by have:=a2 E6 [];rwa [AZ]at this) hc UX (by rw[ld];omega) AF8 (by rw[cT];omega) (by rw[ld,<-Vf];omega);rw[ld,<-OI,<-Vf]at ab;refine(Mo (cb:=cb) (o:=o1) (once:=true) ab (λl' os' ⟨k1,U⟩=>by
   rw[k1,U,nH,Aj];exact⟨a5,a5⟩) Lt UX NF q (by have:=hf.bn;have:=Ia l.length a5;omega)).mono ?_
  unfold Mj;rw[<-Vf];rintro e w' (⟨F,N,l',s,os',m',he,NH,⟨Hz,FT⟩,Gg,Gk,hm,hw⟩|⟨er,os',m',he,hp,Hw,hw⟩)
  ·subst Hz FT;have bk:(Dp true o1 s).length<=cb:=by
    have k1:=SD true o1 s;have U:=Gk.len;rw[Aj]at U;omega
   refine⟨F,N,1,_,0,he,(qQ _ _ _ _ _ _).2 (.inl ⟨rfl,rfl,Dp true o1 s,m',IA g X.p.w fc o1,El _ _ _ _,rfl,(xP _ _ _).2 ⟨AA5 Gg Gk,NH,bk⟩,?_,?_⟩)⟩
   ·have:=hf.bn;have:=Ia l.length a5;omega
   ·simpa [AR]using hw
  ·have cG:I9 X os l.length er/\os'=O1 E6++IA g X.p.w fc o1:=by
    rcases Hw with⟨k1,U⟩|⟨l',⟨k1,U⟩,k3⟩
    ·refine⟨?_,k1⟩;rcases U with U|⟨U,k3⟩
     ·exact .inl U
     ·exact .inr ⟨U,MN E6 [] [] (Cr h1 cb) (λa Q=>by cases Q) (λe he=>by cases he) a8 (by have:=zu cb a5;omega) (by rw[AZ];exact k3)⟩
    ·refine⟨?_,k1⟩;rcases k3 with k3|⟨k3,F,N,hN,k4⟩
     ·exact .inl k3
     ·subst k1 U;have aF:N<=qh:=by rw[hN,Aj];exact zu _ a5
      refine .inr ⟨k3,MN E6 (IA g X.p.w fc o1++[Da F N 1 h1 (l.map (FH o1)) X.sz]) [(F,N)] (3*N) (λa Q=>?_) (λe he=>by simp at he;subst he;exact aF) a8 a5 (λz hz=>k4 z (by simpa [AR]using hz))⟩;rcases Ag.1 Q with Q|Q
      ·exact hex (El _ _ _ _) a Q
      ·simp at Q;subst Q;exact .inr (by simp;rfl)
   exact⟨0,0,0,0,er,he,(qQ _ _ _ _ _ _).2 (.inr ⟨hp,cG.1,m',_,El g X.p.w fc o1,by rw[<-cG.2];exact hw⟩)⟩
 ·
  intro F N K L er w q;have aa:Row (w.alloc (AK #[F,N,K,L] 28)) w 28 [F,N,K,L]:=heap_alloc_new _ _;refine(iA _ _ _ _ _ _ _).2 ⟨aa,?_⟩;rcases(qQ _ _ _ _ _ _).1 q with⟨k1,U,E,m',J,k3,k4,k5,k6,qq⟩|⟨k1,U,m',J,k3,qq⟩
  ·have:=qq.new ((AS w w).alloc ao (AK #[F,N,K,L] 28)) aa ao;refine .inl ⟨k1,U,E,m',J,[Cs w 28 [F,N,K,L]],k3,λa Q=>?_,k4,k5,k6,a8,by simpa [AR]using this⟩;simp at Q;subst Q;exact⟨rfl,rfl⟩
  ·exact .inr ⟨k1,U,m',J,k3,qq.below ((AS w w).alloc ao _)⟩
 ·
  intro ge F N K L er w q;obtain⟨k0,q⟩:=(iA _ _ _ _ _ _ _).1 q;rcases q with⟨_,_,E,m',O,I,_,_,_,_,_,_,qq⟩|⟨_,_,m',J,_,qq⟩
  ·exact⟨⟨(EU qq).1,k0⟩,(EU qq).2⟩
  ·exact⟨⟨(EU qq).1,k0⟩,(EU qq).2⟩
 ·
  intro ge F N K L er w q av;obtain⟨k0,q⟩:=(iA _ _ _ _ _ _ _).1 q;rcases q with⟨k1,_⟩|⟨k1,U,m',J,k3,qq⟩
  ·exact absurd k1 av
  ·have k4:=SI () () () () () rfl qq;refine⟨(EU k4).2,.inr ⟨er,m',rfl,k1,.inr U,?_⟩⟩;have k5:=Wd.Fy (b:=[]) J k3 (by rw[AZ];exact SW _ _ _ _ k4);rwa [AZ]at k5
 ·
  intro ge F N K L w q aB;obtain⟨k0,q⟩:=(iA _ _ _ _ _ _ _).1 q;rcases q with⟨_,U,E,m',O,I,k3,k4,k5,k6,k7,k8,qq⟩|⟨k1,_⟩
  ·exact(aE _ _ _ _ _ _).2 ⟨a5,.inl ⟨rfl,oK ((xP _ _ _).1 k6).1 a5⟩,U,E,m',O,I,k3,k4,k6,SI _ _ _ _ _ rfl qq⟩
  ·omega
 ·
  intro ge F N K L w q aB;obtain⟨k0,q⟩:=(iA _ _ _ _ _ _ _).1 q;rcases q with⟨_,U,E,m',O,I,k3,k4,k5,k6,k7,k8,qq⟩|⟨k1,_⟩
  ·refine(Su (o:=Oc) (first:=fi) (nb:=nb) (k:=3) (count:=cb) qq).mono ?_;rintro e w' ⟨g,he,hw,_⟩;have:=((xP _ _ _).1 k6).2.2;exact⟨g,he,(ba _ _ _ _ _ _ _).2 ⟨U,E,m',O,I,k3,k4,k5,k6,a5,k7,k8,by rw[OI];exact hw⟩⟩
  ·omega
 ·
  intro g ge F N K L w q;obtain⟨k1,E,m1,O,I,U,k3,k4,k5,k6,k7,k8,qq⟩:=(ba _ _ _ _ _ _ _).1 q;have GZ:DC DA.gw (O1 E6++(O++Da F N 1 h1 E X.sz::I))=DC DA.gw os:=by
   rw[DM,cT,DM,EI,Dq _ U,Dq _ k3];rfl
  have nH:DC DA.gw (O1 E6++(O++Da F N 1 h1 E X.sz::I)++IA g X.p.w fc Oc)=DC DA.gw os:=by rw[DM,GZ,Dq _ (El _ _ _ _)];rfl
  have ab:=Ss (os:=O1 E6++(O++Da F N 1 h1 E X.sz::I)) (g:=g) (o:=Oc) (first:=fi) (nb:=nb) (k:=3) (count:=cb) hf (a2 _ _) hc cY (by rw[VR];omega) tJ (by rw[GZ];omega) (by rw[VR,<-Jv];omega);rw[VR,<-OI,<-Jv]at ab;refine(Mo (cb:=cb) (o:=o1) (once:=false) ab (λl' os' ⟨k1,U⟩=>by
   rw[k1,U,nH,Aj];exact⟨a5,a5⟩) Lt UX NF qq (by have:=hf.bn;have:=Ia l.length a5;omega)).mono ?_
  unfold Mj;rw[<-Jv];have hz:∀a∈O++Da F N 1 h1 E X.sz::I,a.ex.2=0\/a.ex∈[(F,N)]:=λa Q=>by
   rcases Ag.1 Q with Q|Q
   ·exact hex U a Q
   ·rcases A8.1 Q with rfl|Q
    ·exact .inr (by simp;rfl)
    ·exact hex k3 a Q
  have a7:=aH k5;rintro e w' (⟨F2,N2,l',s,os',m',he,NH,⟨Hz,FT⟩,Gg,Gk,hm,hw⟩|⟨er,os',m',he,hp,Hw,hw⟩)
  ·subst Hz FT;have hk:Dp false o1 s=s:=rfl;rw[hk]at he NH hw;have MQ:l.map (FH Oc)=l.map Qk:=List.map_congr_left λt _=>oP t;rw[MQ]at Gk;refine⟨F2,N2,3,s.length,0,he,(xQ _ _ _ _ _ _ _ _ _ _ _).2 ⟨k1,E,O,I++IA g X.p.w fc Oc,U,qL k3 (El _ _ _ _),k4,k5,k6,by simp[k8],.inl ⟨rfl,rfl,s,m',rfl,(uI _ _ _).2 ⟨Gk.perm.symm,au Gg,NH⟩,?_,?_⟩⟩⟩
   ·have:=hf.bn;have:=Ia l.length a5;omega
   ·simpa [AR]using hw
  ·have cG:I9 X os l.length er/\os'=O1 E6++(O++Da F N 1 h1 E X.sz::I)++IA g X.p.w fc Oc:=by
    rcases Hw with⟨q1,q2⟩|⟨l',⟨q1,q2⟩,q3⟩
    ·refine⟨?_,q1⟩;rcases q2 with q2|⟨q2,q3⟩
     ·exact .inl q2
     ·exact .inr ⟨q2,MN E6 _ [(F,N)] (Cr hh cb) hz (λe he=>by simp at he;subst he;exact a7) a8 (by have:=Ia cb a5;omega) q3⟩
    ·refine⟨?_,q1⟩;rcases q3 with q3|⟨q3,F2,N2,hN,q4⟩
     ·exact .inl q3
     ·subst q1 q2;have aF:N2<=qh:=by rw[hN,Aj];exact Ia _ a5
      refine .inr ⟨q3,MN E6 (O++Da F N 1 h1 E X.sz::I++IA g X.p.w fc Oc++[Da F2 N2 3 hh (l.map (FH Oc)) X.sz]) [(F,N),(F2,N2)] (3*N2) (λa Q=>?_) (λe he=>by simp at he;rcases he with rfl|rfl<;>assumption) a8 a5 (λz hz=>q4 z (by simpa [AR]using hz))⟩;rcases Ag.1 Q with Q|Q
      ·rcases Ag.1 Q with Q|Q
       ·rcases hz a Q with h|h
        ·exact .inl h
        ·exact .inr (by simp at h;simp[h])
       ·exact hex (El _ _ _ _) a Q
      ·simp at Q;subst Q;exact .inr (by simp;exact .inr rfl)
   exact⟨0,0,0,0,er,he,(xQ _ _ _ _ _ _ _ _ _ _ _).2 ⟨k1,E,O,I++IA g X.p.w fc Oc,U,qL k3 (El _ _ _ _),k4,k5,k6,by simp[k8],.inr ⟨hp,cG.1,m',by have:=hw;rw[cG.2]at this;simpa [AR]using this⟩⟩⟩
 ·
  intro ge F N K L F2 N2 K2 L2 er w q;obtain⟨k1,E,O,I,U,k3,k4,k5,k6,k7,q⟩:=(xQ _ _ _ _ _ _ _ _ _ _ _).1 q;have aa:Row (w.alloc (AK #[F2,N2,K2,L2] 28)) w 28 [F2,N2,K2,L2]:=heap_alloc_new _ _;refine(aA _ _ _ _ _ _ _ _ _ _ _ _).2 ⟨k1,aa,E,O,I,U,k3,k4,k5,k6,k7,?_⟩;rcases q with⟨q1,q2,A,m',q3,q4,q5,qq⟩|⟨q1,q2,m',qq⟩
  ·have:=qq.new ((AS w w).alloc ao (AK #[F2,N2,K2,L2] 28)) aa ao;refine .inl ⟨q1,q2,A,m',[Cs w 28 [F2,N2,K2,L2]],λa Q=>?_,q3,q4,q5,a8,by simpa [AR]using this⟩;simp at Q;subst Q;exact⟨rfl,rfl⟩
  ·exact .inr ⟨q1,q2,m',qq.below ((AS w w).alloc ao _)⟩
 ·
  intro ge gk F N K L F2 N2 K2 L2 er w q;obtain⟨_,k0,E,O,I,_,_,_,_,_,_,q⟩:=(aA _ _ _ _ _ _ _ _ _ _ _ _).1 q;rcases q with⟨_,_,A,m',J3,_,_,_,_,_,qq⟩|⟨_,_,m',qq⟩
  ·exact⟨k0,(EU qq).2⟩
  ·exact⟨k0,(EU qq).2⟩
 ·
  intro ge gk F N K L F2 N2 K2 L2 er w q av;obtain⟨k1,_,E,O,I,U,k3,k4,k5,k6,k7,q⟩:=(aA _ _ _ _ _ _ _ _ _ _ _ _).1 q;rcases q with⟨q1,_⟩|⟨q1,q2,m',qq⟩
  ·exact absurd q1 av
  ·exact(aE _ _ _ _ _ _).2 ⟨q1,.inr q2,k1,E,m',O,I,U,k3,k5,SI _ _ _ _ _ rfl qq⟩
 ·
  intro ge gk F N K L F2 N2 K2 L2 w q;obtain⟨k1,_,E,O,I,U,k3,k4,k5,k6,k7,q⟩:=(aA _ _ _ _ _ _ _ _ _ _ _ _).1 q;rcases q with⟨q1,q2,A,m',J3,q3,q4,q5,q6,q7,qq⟩|⟨q1,_⟩
  ·exact(aJ _ _ _ _ _ _ _ _ _ _ _ _).2 ⟨k1,q2,E,A,m',O,I,J3,U,k3,q3,k4,k5,k6,q4,q5,q6,k7,q7,qq.new ((AS w w).alloc ao (AK #[(),(),(),(),()] 125)) (heap_alloc_new _ _:Row _ _ 125 E6) ao⟩
  ·omega
 ·
  intro ge gk gs F N K L F2 N2 K2 L2 w q;obtain⟨_,_,E,A,m',O,I,J3,_,_,_,_,_,_,_,_,_,k1,U,qq⟩:=(aJ _ _ _ _ _ _ _ _ _ _ _ _).1 q;exact⟨qq.Eg (by simp[k1]),qq.Eg (by simp[U])⟩
 ·
  intro ge gk gs F N K L F2 N2 K2 L2 w q;obtain⟨q1,q2,E,A,m1,O,I,J3,k1,U,k3,k4,k5,k6,k7,k8,k9,Zp,aK,qq⟩:=(aJ _ _ _ _ _ _ _ _ _ _ _ _).1 q;subst q1 q2;obtain⟨ar,aI,bu⟩:=(xP _ _ _).1 k5;obtain⟨Tt,N5,bb⟩:=(uI _ _ _).1 k8;have a7:=aH k5;obtain⟨bB,bA⟩:=a9 k8;obtain⟨P0,ad⟩:=ae (O1 E6++(O++Da F N 1 h1 E X.sz::(I++Da F2 N2 3 hh A X.sz::J3)));rw[<-ad]at qq;obtain⟨H,hH⟩:∃H:Nat->List DA,∀i,H i=[Cs gs 125 (Ev ((E.take i).countP (NN A)))]:=⟨_,λ_=>rfl⟩;have aG:H 0=[Cs gs 125 E6]:=by rw[hH];simp[Ev,E6]
  have bp:H=λi=>[Cs gs 125 (Ev ((E.take i).countP (NN A)))]:=funext hH;have GZ:DC DA.gw (P0++H 0++[])=DC DA.gw os:=by
   rw[AZ,aG,Dz,ad,DM,cT,DM,EI,DM,EI,Dq _ k1,Dq _ U,Dq _ k3];rfl
  have QT:Da F N 1 h1 E X.sz∈P0++[]:=by rw[ad];simp
  have bj:Da F2 N2 3 hh A X.sz∈P0++[]:=by rw[ad];simp
  have bo:=WW (pre:=P0) (post:=[]) (H:=H) (key:=0) (ca:=L) (cb:=L2) (res:=La A) (by rw[bp];exact uo aI.len) (by rw[AZ,aG];exact qq) aI QT k4.symm bb bj k7.symm a5 N5 (ar.up.imp λ{u v} h=>by
   show u.a<=v.a;omega) (λt ht=>by
   show _<t.a;obtain⟨t',mZ,e⟩:=ar.el t ht;have:=a0 t' mZ;omega) (λt ht=>uu bb.fit (aI.fit t ht).1) (by rw[GZ];omega) a5
  refine bo.mono ?_;unfold Mk;rw[<-Jv];have a1:∀i Z M w,Wd X (P0++H i++Z) M w->Row w gs 125 [(),(),(),(),((E.take i).countP (NN A):Nat)]:=λi Z M w q=>q.Eg (by simp[hH,Ev]);have Oj:∀(i:Nat) Z M w (x0 x1 x2 x3:Value),Wd X (P0++H i++Z) M w->Wd X (O1 E6++(O++Da F N 1 h1 E X.sz::(I++Da F2 N2 3 hh A X.sz::(J3++Cs gs 125 [x0,x1,x2,x3,((E.take i).countP (NN A):Nat)]::Z)))) M ((((w.setCell gs x0).setCell (gs,1) x1).setCell (gs,2) x2).setCell (gs,3) x3):=λi Z M w x0 x1 x2 x3 q=>by
   have e1:P0++H i++Z=P0++Cs gs 125 (Ev ((E.take i).countP (NN A)))::Z:=by simp[hH]
   rw[e1]at q;have Q:∀cs,(P0++Cs gs 125 cs::Z)[P0.length]?=AE (Cs gs 125 cs):=λcs=>by simp
   have ND:∀cs JX,(P0++Cs gs 125 cs::Z).set P0.length (Cs gs 125 JX)=P0++Cs gs 125 JX::Z:=λcs JX=>by simp
   have k0:=q.store (Q _) a6 0 x0;rw[ND]at k0;have k1:=k0.store (Q _) a6 1 x1;rw[ND]at k1;have U:=k1.store (Q _) a6 2 x2;rw[ND]at U;have k3:=U.store (Q _) a6 3 x3;rw[ND]at k3;have e2:∀cs,P0++Cs gs 125 cs::Z=O1 E6++(O++Da F N 1 h1 E X.sz::(I++Da F2 N2 3 hh A X.sz::(J3++Cs gs 125 cs::Z))):=λcs=>by rw[ad];simp
   rw[e2]at k3;exact k3
  rintro e w' (⟨F3,N3,he,NH,hw⟩|⟨er,i,he,hp,Hw,hw⟩)
  ·rw[AZ]at hw;have Pj:E.take L=E:=by rw[k4,By]
   have hr:=a1 L _ _ _ hw;have hs:=Oj L _ _ _ (AA AB F3) (AA AB N3) (AA AB (3:Nat)) (AA AB ((E.map (La A)).length:Nat)) hw;rw[Pj]at hr hs;exact⟨F3,N3,3,_,E.countP (NN A),0,he,hr,λ_=>(aw _ _ _ _ _ _ _ _ _ _ _ _ _ _ _).2 ⟨rfl,rfl,rfl,E,A,_,O,I,J3,k1,U,k3,k5,k6,k8,rfl,rfl,NH,a5,hs⟩,λh=>absurd rfl h⟩
  ·have cG:I9 X os l.length er:=by
    rcases Hw with h|⟨h,h2⟩
    ·exact .inl h
    ·refine .inr ⟨h,MN E6 (O++Da F N 1 h1 E X.sz::(I++Da F2 N2 3 hh A X.sz::(J3++[Cs gs 125 E6]))) [(F,N),(F2,N2)] (Cr hh L) (λa Q=>?_) (λe he=>by simp at he;rcases he with rfl|rfl<;>assumption) a8 (by have:=Ia L a5;omega) (λz hz=>h2 z (by rw[AZ,aG,ad];simpa [AR]using hz))⟩;simp only[Ag,A8,List.not_mem_nil,or_false]at Q;rcases Q with Q|rfl|Q|rfl|Q|rfl
     ·exact hex k1 a Q
     ·exact .inr (by simp;exact .inl rfl)
     ·exact hex U a Q
     ·exact .inr (by simp;exact .inr rfl)
     ·exact hex k3 a Q
     ·exact .inl rfl
   have hs:=Oj i _ _ _ (AA AB (0:Nat)) (AA AB (0:Nat)) (AA AB (0:Nat)) (AA AB (0:Nat)) hw;refine⟨0,0,0,0,_,er,he,a1 i _ _ _ hw,λh=>by omega,λav Ej zA=>?_⟩;rw[<-zA]at hs;refine⟨(aC _ _ _ _ _ _ _ _ _ _).2 ⟨hp,.inr cG,rfl,rfl,E,A,m1+N+N2+L+2,O,I,J3++[Cs gs 125 [AA AB (0:Nat),AA AB (0:Nat),AA AB (0:Nat),AA AB (0:Nat),AA AB ((E.take i).countP (NN A):Nat)]],k1,U,qL k3 (λa Q=>by simp at Q;subst Q;exact⟨rfl,rfl⟩),k5,k8,?_⟩,(EU hs).2⟩;have:=SI () () () () () rfl hs;simpa [E6]using this
 ·
  intro gs F N K L F2 N2 K2 L2 F3 N3 K3 L3 n w q;obtain⟨_,_,_,E,A,m',O,I,J3,_,_,_,_,_,_,_,_,_,_,qq⟩:=(aw _ _ _ _ _ _ _ _ _ _ _ _ _ _ _).1 q;exact⟨⟨qq.Eg a8,(EU qq).1⟩,(EU qq).2⟩
 ·
  intro gs F N K L F2 N2 K2 L2 F3 N3 K3 L3 n w q aB;obtain⟨q1,q2,q3,E,A,m',O,I,J3,k1,U,k3,k4,k5,k6,k7,k8,k9,Zp,qq⟩:=(aw _ _ _ _ _ _ _ _ _ _ _ _ _ _ _).1 q;subst q1 q2 q3;have aF:N3<=100000:=by have:=k9.bn;have:=Di hh (E.map (La A)).length;have:=k9.len;omega
  have e1:∀f,O1 E6++(O++Da F N 1 h1 E X.sz::(I++Da F2 N2 3 hh A X.sz::(J3++Cs gs 125 [AA AB F3,AA AB N3,AA AB (3:Nat),AA AB L3,AA AB n]::[f])))=(O1 E6++(O++Da F N 1 h1 E X.sz::(I++Da F2 N2 3 hh A X.sz::(J3++[Cs gs 125 [AA AB F3,AA AB N3,AA AB (3:Nat),AA AB L3,AA AB n]]))))++[f]:=λf=>by simp
  rw[e1]at qq;refine(OP qq (GC _ _) k9.fst a5 L3).mono ?_;rintro e w' ⟨he,hw⟩;rw[Gf]at hw;have GK:=JK ⟨rfl,rfl⟩ hw;have ab:=SI (cs:=E6) () () () () () rfl GK;refine⟨he,(EU GK).2,(aC _ _ _ _ _ _ _ _ _ _).2 ⟨a5,.inl ⟨rfl,λhl=>?_⟩,rfl,rfl,E,A,m',O,I,_,k1,U,qL k3 (λa Q=>by simp at Q;subst Q;exact⟨rfl,rfl⟩),k4,k6,ab⟩⟩;have:=(Ui ((xP _ _ _).1 k4).1 ((uI _ _ _).1 k6).1 a5 a0 b0).1 hl;omega
 ·
  intro gs F N K L F2 N2 K2 L2 F3 N3 K3 L3 n w q aB;obtain⟨q1,q2,q3,E,A,m',O,I,J3,k1,U,k3,k4,k5,k6,k7,k8,k9,Zp,qq⟩:=(aw _ _ _ _ _ _ _ _ _ _ _ _ _ _ _).1 q;subst q1 q2 q3;have ar:=((xP _ _ _).1 k4).1;have Tt:=((uI _ _ _).1 k6).1;have hl:Dh l:=(Ui ar Tt a5 a0 b0).2 a5;refine(a3 _ _ _ _ _ _ _ _ _ _ _ _ _ _).2 ⟨rfl,rfl,rfl,E,A,E.map (La A),m',O,I,J3++[Cs gs 125 [AA AB F3,AA AB N3,AA AB (3:Nat),AA AB L3,AA AB n]],k1,U,qL k3 (λa Q=>by simp at Q;subst Q;exact⟨rfl,rfl⟩),k4,k6,hl,AB0 ar Tt a5 hl bs,by rw[k7];exact iZ Tt a0,k8,k9,Zp,?_⟩;have:=SI (AA AB F3) (AA AB N3) (AA AB (3:Nat)) (AA AB L3) (AA AB n) rfl qq;simpa [AR]using this
 ·
  intro F N K L er u w q;obtain⟨q1,q2,q3,E,m',O,I,k1,U,k3,qq⟩:=(aE _ _ _ _ _ _).1 q;subst q3;refine(aD _ _ _ _ _ _ L _ _ u k3 qq).mono ?_;rintro e u' w' ⟨r1,r2,r3⟩;have r4:=SW _ _ _ _ r3;have k6:=Wd.Fy (a:=os) (b:=[]) (O++Dt::I) (qL k1 (M6 (a:=Dt) ⟨rfl,rfl⟩ U)) (by rw[AZ];exact r4);rw[AZ]at k6;exact⟨r1,r2,(EU r3).2,.inr ⟨er,m',rfl,q1,q2,k6⟩⟩
 ·
  intro F N K L F2 N2 K2 L2 er u w q;obtain⟨q1,q2,q3,q4,E,A,m',O,I,J3,k1,U,k3,k4,k5,qq⟩:=(aC _ _ _ _ _ _ _ _ _ _).1 q;subst q3 q4;have e1:∀f,O1 E6++(O++Da F N 1 h1 E X.sz::(I++f::J3))=O1 E6++((O++Da F N 1 h1 E X.sz::I)++f::J3):=λf=>by simp
  rw[e1]at qq;refine(nJ _ _ _ _ _ _ L2 _ _ u k5 qq).mono ?_;rintro e u' w' ⟨r1,r2,r3⟩;rw[<-e1]at r3;refine⟨r1,r2,λu2=>(aD _ _ _ _ _ _ L _ _ u2 k4 r3).mono ?_⟩;rintro e u' Ej ⟨r4,r5,r6⟩;have r7:=SW _ _ _ _ r6;have k6:=Wd.Fy (a:=os) (b:=[]) (O++Dt::(I++Dt::J3)) (qL k1 (M6 (a:=Dt) ⟨rfl,rfl⟩ (qL U (M6 (a:=Dt) ⟨rfl,rfl⟩ k3)))) (by rw[AZ];exact r7);rw[AZ]at k6;exact⟨r4,r5,(EU r6).2,.inr ⟨er,m',rfl,q1,q2,k6⟩⟩
 ·
  intro F N K L F2 N2 K2 L2 F3 N3 K3 L3 n u w q;obtain⟨q3,q4,q5,E,A,S,m',O,I,J3,k1,U,k3,k4,k5,k6,k7,k8,k9,Zp,aK,qq⟩:=(a3 _ _ _ _ _ _ _ _ _ _ _ _ _ _).1 q;subst q3 q4 q5;have e1:∀f cs,O1 cs++(O++Da F N 1 h1 E X.sz::(I++f::(J3++[Da F3 N3 3 hh S X.sz])))=O1 cs++((O++Da F N 1 h1 E X.sz::I)++f::(J3++[Da F3 N3 3 hh S X.sz])):=λf cs=>by simp
  rw[e1]at qq;refine(nJ _ _ _ _ _ _ L2 _ _ u k5 qq).mono ?_;rintro e u' w' ⟨r1,r2,r3⟩;rw[<-e1]at r3;refine⟨r1,r2,λu2=>(aD _ _ _ _ _ _ L _ _ u2 k4 r3).mono ?_⟩;rintro e u' Ej ⟨r4,r5,r6⟩;have bc:=Wd.Fy (a:=os) (b:=[Da F3 N3 3 hh S X.sz]) (O++Dt::(I++Dt::J3)) (qL k1 (M6 (a:=Dt) ⟨rfl,rfl⟩ (qL U (M6 (a:=Dt) ⟨rfl,rfl⟩ k3)))) (by have:=SW _ _ _ _ r6;simpa [AR]using this);refine⟨r4,r5,(EU r6).2,.inl ⟨F3,N3,S,m',by rw[k9,k8],?_,k6,k7,aK,?_⟩⟩
  ·rw[<-Jv];exact Zp
  ·rw[<-Jv];exact bc
end
def AB2(X:Cx)(os:List DA)(l:List Cv)(e:Ending)(w':World):Prop:=
 (∃(F N:Nat) (out:List Cv) (m':Nat),e=AH (AM #[AL #[AA AB F,AA AB N,AA AB (2:Nat),AA AB (out.length:Nat)],AA AB 0])/\GY F N 2 (Ct X.sz (2:Nat)) out X.sz/\Dh l/\Nf l out/\Wd X (os++[Da F N 2 (Ct X.sz (2:Nat)) out X.sz]) m' w')\/
 (∃er m':Nat,e=AH (AM #[AL #[(),(),(),()],er])/\0<er/\(er=3/\¬Gt l\/I9 X os l.length er)/\Wd X os m' w')
section
variable{X:Cx}{m:Nat}{W:World}
theorem dj{os fi nb cb en l}(h:Wd X os m W)(hf:GY fi nb 3 (Ct X.sz (3:Nat)) l X.sz)(ad:Da fi nb 3 (Ct X.sz (3:Nat)) l X.sz∈os)(hc:l.length=cb)(Lt:cb<=300)(aB:en=l.countP Iz)(a0:∀t∈l,0<=t.a)(b0:∀t∈l,-1<=t.b)
  (aa:8*X.sz+DC DA.gw os<=X.rm)(NF:X.rm<=1000000)(hn:X.N+m+250000<=1000000):
  Calls AP 38 #[AI X.p.w,AL #[fi,nb,AA AB 3,cb],en] W (AB2 X os l):=by
 have ar:=(Wd.bounds h).1;obtain⟨hh,Jv⟩:=ae (Ct X.sz (3:Nat));obtain⟨h2,G8⟩:=ae (Ct X.sz (2:Nat));have aE:2<=hh:=by rw[Jv];exact LS ar.1 a5
 have aF:2<=h2:=by rw[G8];exact LS ar.1 a5
 obtain⟨s0,hs0⟩:=ae W.heap.size;obtain⟨W2,G9⟩:=ae ((W.alloc (AK #[fi,nb,AA AB 3,cb] 28)).alloc (AK #[(),(),(),()] 28));obtain⟨fc,OI⟩:∃fc:List Value,fc=[AA AB fi,AA AB nb,AA AB (3:Nat),AA AB cb]:=⟨_,rfl⟩;obtain⟨B,hB⟩:∃B:List Value->List DA,∀cs,B cs=[Cs s0 28 fc,Cs (s0+1) 28 cs]:=⟨_,λ_=>rfl⟩;have Yh:∀cs,Dn (B cs):=λcs q hq=>by rw[hB]at hq;simp at hq;rcases hq with rfl|rfl<;>exact⟨rfl,rfl⟩
 have Tb:∀(w:World) (o:Obj),(w.alloc o).heap.size=w+1:=λw o=>by simp
 obtain⟨H,NK⟩:∃H:List Value->List DA,∀cs,H cs=os++B cs:=⟨_,λ_=>rfl⟩;have h3:Wd X (H Z4) m W2:=by
  have h1:=h.new ((AS W W).alloc ao (AK #[fi,nb,AA AB 3,cb] 28)) (by rw[OI];exact heap_alloc_new _ _:Row _ _ 28 fc) ao;have h3:=h1.new ((AS _ _).alloc ao (AK #[(),(),(),()] 28)) (heap_alloc_new _ _:Row _ _ 28 Z4) ao;rw[<-G9]at h3;simp only[Tb,<-hs0,AR,B8,BI]at h3;rw[NK,hB];exact h3
 have cT:∀cs,DC DA.gw (H cs)=DC DA.gw os:=λcs=>by rw[NK,DM,Dq _ (Yh _)];rfl
 obtain⟨qh,aG⟩:=ae ((cb+1)/2);have Hw:∀cs er,I9 X (H cs) l.length er->I9 X os l.length er:=λcs er h=>by
  rcases h with h|⟨h,h2⟩
  ·exact .inl h
  ·exact .inr ⟨h,λz hz=>h2 z (by rw[NK];exact GF hz (Yh _))⟩
 have EU:∀{cs Z M w},Wd X (H cs++Z) M w->Row w s0 28 [fi,nb,AA AB 3,cb]/\Row w (s0+1) 28 cs:=λ{cs Z M w} q=>
  ⟨by have:Row w s0 28 fc:=q.Eg (by rw[NK,hB];simp);rw[OI]at this;exact this,q.Eg (by rw[NK,hB];simp)⟩
 have zI:∀{cs Z M w} (x0 x1 x2 x3:Value),cs.length=4->Wd X (H cs++Z) M w->Wd X (H [x0,x1,x2,x3]++Z) M ((((w.setCell (s0+1,0) x0).setCell (s0+1,1) x1).setCell (s0+1,2) x2).setCell (s0+1,3) x3):=λ{cs Z M w} x0 x1 x2 x3 aC q=>by
  have e1:∀cs,H cs++Z=(os++[Cs s0 28 fc])++Cs (s0+1) 28 cs::Z:=λcs=>by rw[NK,hB];simp
  rw[e1]at q⊢;have O:=F4 q (i:=(os++[Cs s0 28 fc]).length) (R:=s0+1) (cs:=cs) (by rw[AX ao,Ap];rfl) aC x0 x1 x2 x3;rw[As _ _ ao,Ap]at O;exact O
 have SW:∀cs Z M w,Wd X (H cs++Z) M w->Wd X (os++Z) M w:=λcs Z M w q=>by
  rw[NK]at q;exact Wd.Fy _ (Yh _) q
 obtain⟨CB,nj⟩:∃CB:Nat->Nat->Nat->Nat->Nat->Nat->World->Prop,∀F N K C op er w,CB F N K C op er w↔((er=0/\K=3/\∃S m',C=S.length/\op=PM S/\Dh l/\Sm l 0 S/\GY F N 3 hh S X.sz/\m'<=m+16000/\Wd X (H Z4++[Da F N 3 hh S X.sz]) m' w)\/(0<er/\(er=3/\¬Gt l\/I9 X os l.length er)/\∃m',Wd X (H Z4++[]) m' w)):=⟨_,λ_ _ _ _ _ _ _=>BN⟩;obtain⟨J,hJ⟩:∃J:Nat->Nat->Nat->Nat->Nat->Nat->Nat->Nat->World->Prop,∀gs F N K C op er q w,J gs F N K C op er q w↔((er=0/\K=3/\q=op+1/\∃S k m',C=S.length/\op=PM S/\Dh l/\Sm l k S/\GY F N 3 hh S X.sz/\(k=0\/2^(k-1)<l.length)/\m'<=m+16000+14000*k/\Wd X (H Z4++[Cs gs 125 [F,N,K,C,op],Da F N 3 hh S X.sz]) m' w)\/
   (0<er/\q=0/\(er=3/\¬Gt l\/I9 X os l.length er)/\∃m',Wd X (H Z4++[Cs gs 125 [F,N,K,C,op]]) m' w)):=⟨_,λ_ _ _ _ _ _ _ _ _=>BN⟩
 obtain⟨G,hG⟩:∃G:Nat->Nat->Nat->Nat->Nat->Nat->Nat->Nat->Nat->Nat->Nat->Nat->Nat->World->Prop,∀gs F N K C op F2 N2 K2 C2 VO er q w,G gs F N K C op F2 N2 K2 C2 VO er q w↔((er=0/\K2=3/\VO+1<q/\∃S k m',C2=S.length/\VO=PM S/\Dh l/\Sm l k S/\GY F2 N2 3 hh S X.sz/\(k=0\/2^(k-1)<l.length)/\m'<=m+16000+14000*k/\Wd X (H Z4++[Cs gs 125 [F,N,K,C,op],Da F2 N2 3 hh S X.sz]) m' w)\/
   (0<er/\0<q/\(er=3/\¬Gt l\/I9 X os l.length er)/\∃m',Wd X (H Z4++[Cs gs 125 [F,N,K,C,op]]) m' w)):=⟨_,λ_ _ _ _ _ _ _ _ _ _ _ _ _ _=>BN⟩
 obtain⟨CE,qP⟩:∃CE:Nat->Nat->Nat->Nat->Nat->Nat->Nat->Nat->Nat->List Value->World->Prop,∀F N K C F2 N2 K2 C2 er cs w,CE F N K C F2 N2 K2 C2 er cs w↔K=3/\∃S gs m',GY F N 3 hh S X.sz/\((er=0/\K2=2/\Dh l/\∃out,C2=out.length/\Nf l out/\GY F2 N2 2 h2 out X.sz/\Wd X (H cs++[gs,Da F N 3 hh S X.sz,Da F2 N2 2 h2 out X.sz]) m' w)\/(0<er/\(F2=0/\N2=0/\K2=0/\C2=0)/\I9 X os l.length er/\Wd X (H cs++[gs,Da F N 3 hh S X.sz]) m' w))/\gs.gr=AD/\gs.ex.2=0:=⟨_,λ_ _ _ _ _ _ _ _ _ _ _=>BN⟩;have av:∀k,(k=0\/2^(k-1)<l.length)->k<=9:=λk hk=>by
  rcases hk with h|h
  ·omega
  ·rcases Am 9 k with h3|h3
   ·have:2^9<=2^(k-1):=Nat.pow_le_pow_right a5 a5;omega
   ·exact h3
 refine ZW hs0 G9 (CA:=λw=>Wd X (H Z4) m w) (CB:=CB) (J:=J) (G:=G) (CE:=CE)
  ⟨h3,?_,?_,?_,?_,?_,?_,?_,?_,?_,?_,?_,?_⟩
 ·
  intro w q;exact(EU (Z:=[]) (by rw[AZ];exact q)).1
 ·
  intro w q;have aA:Da fi nb 3 (Ct X.sz (3:Nat)) l X.sz∈H Z4:=by rw[NK];exact List.mem_append_left _ ad
  refine(kE q hf aA hc Lt aB a0 b0 (by rw[cT];exact aa) NF a5).mono ?_;unfold pz;rw[<-Jv];rintro e w' (⟨F,N,S,m',he,U,I,k3,O,k5⟩|⟨er,m',he,U,I,k3⟩)
  ·exact⟨F,N,3,S.length,PM S,0,he,(nj _ _ _ _ _ _ _).2 (.inl ⟨rfl,rfl,S,m',rfl,rfl,I,k3,U,O,k5⟩)⟩
  ·refine⟨0,0,0,0,0,er,he,(nj _ _ _ _ _ _ _).2 (.inr ⟨U,?_,m',by rw[AZ];exact k3⟩)⟩;rcases I with⟨I,O⟩|I
   ·exact .inl ⟨I,λhr=>O hr.1⟩
   ·exact .inr (Hw _ _ I)
 ·
  intro F N K C op er w q;have ab:Row (w.alloc (AK #[F,N,K,C,op] 125)) w 125 [F,N,K,C,op]:=heap_alloc_new _ _;have Ig:∀Z M,Wd X (H Z4++Z) M w->Wd X (H Z4++(Cs w 125 [F,N,K,C,op]::Z)) M (w.alloc (AK #[F,N,K,C,op] 125)):=λZ M q=>by
   have:=Wd.front (q.new ((AS w w).alloc ao (AK #[F,N,K,C,op] 125)) ab ao);simpa [AR]using this
  rcases(nj _ _ _ _ _ _ _).1 q with⟨U,I,S,m',k3,O,k5,k6,k7,k8,qq⟩|⟨U,I,m',qq⟩
  ·exact⟨op+1,(hJ _ _ _ _ _ _ _ _ _).2 (.inl ⟨U,I,rfl,S,0,m',k3,O,k5,k6,k7,.inl rfl,a5,Ig _ _ qq⟩)⟩
  ·exact⟨0,(hJ _ _ _ _ _ _ _ _ _).2 (.inr ⟨U,rfl,I,m',Ig _ _ qq⟩)⟩
 ·
  intro gs F N K C op er q w qq;rcases(hJ _ _ _ _ _ _ _ _ _).1 qq with⟨_,_,_,S,k,m',_,_,_,_,_,_,_,q1⟩|⟨_,_,_,m',q1⟩
  ·exact⟨q1.Eg a8,(EU q1).2⟩
  ·exact⟨q1.Eg a8,(EU q1).2⟩
 ·
  intro gs F N K C op q w qq De;rcases(hJ _ _ _ _ _ _ _ _ _).1 qq with⟨_,I,kq,S,k,m',k3,O,k5,k6,k7,k8,k9,q1⟩|⟨U,_⟩
  ·have hk:=av k k8;subst I;have e1:∀f:DA,H Z4++[Cs gs 125 [AA AB F,AA AB N,AA AB (3:Nat),AA AB C,AA AB op],f]=(H Z4++[Cs gs 125 [AA AB F,AA AB N,AA AB (3:Nat),AA AB C,AA AB op]])++[f]:=λf=>by simp
   rw[e1,Jv]at q1;have al:DC DA.gw (H Z4++[Cs gs 125 [AA AB F,AA AB N,AA AB (3:Nat),AA AB C,AA AB op]])=DC DA.gw os:=by rw[Dz,cT];rfl
   have hC:C<=300:=by rw[k3,k6.len];omega
   have aD:X.N+m'+40000<=1000000:=by
    have:14000*k<=126000:=a5;omega
   refine(WX q1 (by rw[<-Jv];exact k7) k5 k6 k3.symm hC O.symm De (by rw[al];exact aa) NF aD).mono ?_;unfold oz;rw[<-Jv];rintro e w' (⟨F2,N2,S2,m2,he,r1,Q,r3,r4,r5⟩|⟨er,m2,he,r1,Q,r3⟩)
   ·have hb:m2<=m+16000+14000*(k+1):=by
     rw[Nat.mul_add,Nat.mul_one,<-CK];exact Af r4 (Nat.add_le_add_right k9 14000)
    refine⟨F2,N2,3,S2.length,PM S2,0,he,(hG _ _ _ _ _ _ _ _ _ _ _ _ _ _).2 (.inl ⟨rfl,rfl,a5,S2,k+1,m2,rfl,rfl,k5,Q,r1,.inr (by rw[BQ];exact k6.bound k5 Q r3),hb,by rw[e1];exact r5⟩)⟩
   ·refine⟨0,0,0,0,0,er,he,(hG _ _ _ _ _ _ _ _ _ _ _ _ _ _).2 (.inr ⟨r1,a5,?_,m2,r3⟩)⟩;rcases Q with Q|Q
    ·exact .inl Q
    ·refine .inr (Hw Z4 er ?_);rcases Q with Q|⟨Q,r4⟩
     ·exact .inl Q
     ·exact .inr ⟨Q,λz hz=>r4 z (GF hz λy hy=>by simp at hy;subst hy;exact⟨rfl,rfl⟩)⟩
  ·omega
 ·
  intro gs F N K C op F2 N2 K2 C2 VO er q w qq;rcases(hG _ _ _ _ _ _ _ _ _ _ _ _ _ _).1 qq with⟨_,_,_,S,k,m',_,_,_,_,_,_,_,q1⟩|⟨_,_,_,m',q1⟩
  ·exact q1.Eg a8
  ·exact q1.Eg a8
 ·
  intro gs F N K C op F2 N2 K2 C2 VO er q w qq;have Oj:∀Z M,Wd X (H Z4++Cs gs 125 [F,N,K,C,op]::Z) M w->Wd X (H Z4++Cs gs 125 [F2,N2,K2,C2,VO]::Z) M (((((w.setCell gs F2).setCell (gs,1) N2).setCell (gs,2) K2).setCell (gs,3) C2).setCell (gs,4) VO):=λZ M q=>by
   have ha:∀cs,(H Z4++Cs gs 125 cs::Z)[(H Z4).length]?=AE (Cs gs 125 cs):=λcs=>by simp
   have ND:∀cs JX,(H Z4++Cs gs 125 cs::Z).set (H Z4).length (Cs gs 125 JX)=H Z4++Cs gs 125 JX::Z:=λcs JX=>by simp
   have k0:=q.store (ha _) a6 0 F2;rw[ND]at k0;have U:=k0.store (ha _) a6 1 N2;rw[ND]at U;have I:=U.store (ha _) a6 2 K2;rw[ND]at I;have k3:=I.store (ha _) a6 3 C2;rw[ND]at k3;have O:=k3.store (ha _) a6 4 VO;rw[ND]at O;exact O
  rcases(hG _ _ _ _ _ _ _ _ _ _ _ _ _ _).1 qq with⟨U,I,kq,S,k,m',k3,O,k5,k6,k7,k8,k9,q1⟩|⟨U,kq,I,m',q1⟩
  ·exact⟨VO+1,kq,(hJ _ _ _ _ _ _ _ _ _).2 (.inl ⟨U,I,rfl,S,k,m',k3,O,k5,k6,k7,k8,k9,Oj _ _ q1⟩)⟩
  ·exact⟨0,kq,(hJ _ _ _ _ _ _ _ _ _).2 (.inr ⟨U,rfl,I,m',Oj _ _ q1⟩)⟩
 ·
  intro gs F N K C op er q w qq aw;rcases(hJ _ _ _ _ _ _ _ _ _).1 qq with⟨U,_⟩|⟨U,_,I,m',q1⟩
  ·exact absurd U aw
  ·have O:=zI () () () () rfl q1;exact⟨(EU O).2,.inr ⟨er,m',rfl,U,I,JK ⟨rfl,rfl⟩ (SW _ _ _ _ O)⟩⟩
 ·
  intro gs F N K C q w qq;rcases(hJ _ _ _ _ _ _ _ _ _).1 qq with⟨_,I,kq,S,k,m',k3,O,k5,k6,k7,k8,k9,q1⟩|⟨U,_⟩
  ·have hk:=av k k8;subst I;have hC:C<=300:=by rw[k3,k6.len];omega
   have hN:N<=300:=by have:=k7.bn;have:=Di hh S.length;omega
   have aH:=k6.len;have al:∀f:DA,f.gr=AD->DC DA.gw (H Z4++[Cs gs 125 [AA AB F,AA AB N,AA AB (3:Nat),AA AB C,AA AB (0:Nat)],f])=DC DA.gw os:=λf hf=>by
    rw[DM,cT];have e9:DA.gw f=0:=by unfold DA.gw;rw[hf]
    show DC DA.gw os+(0+(DA.gw f+0))= _;omega
   refine(kD (o:=yp) (count:=C) q1 k7 a8 k3.symm oC (by rw[Zb];omega) y9 (by rw[al _ rfl];omega) a5 (by rw[Zb,<-G8];omega)).mono ?_;rw[Zb];unfold O8;rw[<-G8];have ho:outL (Kz yp) S C=S.map uX:=by
    rw[R3 yp S C a5,k3,By];exact List.map_congr_left λt _=>uf t
   rw[ho];rintro e w' (⟨F2,N2,he,r1,Q⟩|⟨er,he,r1,Q,r3⟩)
   ·refine⟨F2,N2,2,_,0,he,(qP _ _ _ _ _ _ _ _ _ _ _).2 ⟨rfl,S,_,_,k7,.inl ⟨rfl,rfl,k5,S.map uX,rfl,k6.fin O.symm,r1,by rw[AR]at Q;exact Q⟩,rfl,rfl⟩⟩
   ·refine⟨0,0,0,0,er,he,(qP _ _ _ _ _ _ _ _ _ _ _).2 ⟨rfl,S,_,_,k7,.inr ⟨r1,⟨rfl,rfl,rfl,rfl⟩,?_,r3⟩,rfl,rfl⟩⟩;rcases Q with Q|⟨Q,r4⟩
    ·exact .inl Q
    ·refine .inr ⟨Q,λz hz=>?_⟩;have Xf:N<=qh:=by have:=Hu (c:=S.length) aE;have:=k7.bn;omega
     have qF:Cr h2 C<=qh:=by have:=Hu (c:=C) aF;omega
     obtain⟨y,hy⟩:=ZQ hz (B Z4++[Cs gs 125 [AA AB F,AA AB N,AA AB (3:Nat),AA AB C,AA AB (0:Nat)],Da F N 3 hh S X.sz]) [(F,N)] (n:=Cr h2 C) (q:=qh) (λa ha=>by
      rcases Ag.1 ha with ha|ha
      ·exact .inl (Yh _ a ha).2
      ·simp at ha;rcases ha with rfl|rfl
       ·exact .inl rfl
       ·exact .inr (by simp;rfl)) (λe he=>by simp at he;subst he;exact Xf) a8 a5 (by omega:2*qh<=l.length+1)
     exact r4 y (by rw[NK];simpa [AR]using hy)
  ·omega
 ·
  intro F N K C F2 N2 K2 C2 er cs w qq;obtain⟨_,S,gs,m',_,q,_⟩:=(qP _ _ _ _ _ _ _ _ _ _ _).1 qq;rcases q with⟨_,_,_,out,_,_,_,q1⟩|⟨_,_,_,q1⟩
  ·exact(EU q1).2
  ·exact(EU q1).2
 ·
  intro F N K C F2 N2 K2 C2 er w qq;obtain⟨k0,S,gs,m',U,q,k9⟩:=(qP _ _ _ _ _ _ _ _ _ _ _).1 qq;refine(qP _ _ _ _ _ _ _ _ _ _ _).2 ⟨k0,S,gs,m',U,?_,k9⟩;rcases q with⟨I,k3,O,out,k5,k6,k7,q1⟩|⟨I,k3,O,q1⟩
  ·exact .inl ⟨I,k3,O,out,k5,k6,k7,zI _ _ _ _ rfl q1⟩
  ·exact .inr ⟨I,k3,O,zI _ _ _ _ rfl q1⟩
 ·
  intro F N K C F2 N2 K2 C2 er u w qq;obtain⟨k0,S,gs,m',U,q,k9⟩:=(qP _ _ _ _ _ _ _ _ _ _ _).1 qq;have hN:N<=100000:=by have:=U.bn;have:=Di hh S.length;have:=U.len;omega
  subst k0;have MV:∀cs Z,Wd X (H cs++(gs::Da F N 3 hh S X.sz::Z)) m' w->CallsD AP 67 #[AI (AE ⟨X.p.w,0,AD⟩),AL #[AA AB F,AA AB N,AA AB (3:Nat),AA AB C]] u w λe u' w'=>u'=u/\(e=AH (AA AB 0)/\Row w' (s0+1) 28 cs/\Wd X (os++Z) m' w'):=λcs Z q=>by
   have e1:∀f,H cs++(gs::f::Z)=(H cs++[gs])++f::Z:=λf=>by simp
   rw[e1]at q;have ha:((H cs++[gs])++Da F N 3 hh S X.sz::Z)[(H cs++[gs]).length]?=AE (Da F N 3 hh S X.sz):=by
    rw[AX ao,Ap];rfl
   refine(Ir u q ha U.fst a5 C).mono ?_;rintro e u' w' ⟨r1,Q,r3⟩;rw[As _ _ ao,Ap]at r3;have r3:Wd X ((H cs++[gs])++Dt::Z) m' w':=r3;have r4:Wd X (H cs++(gs::Dt::Z)) m' w':=by rw[e1];exact r3
   refine⟨r1,Q,(EU r4).2,?_⟩;have r5:=SW _ _ _ _ r4;exact Wd.Fy (a:=os) (b:=Z) [gs,Dt] (λa ha=>by
    simp at ha;rcases ha with rfl|rfl
    ·exact k9
    ·exact⟨rfl,rfl⟩) (by simpa using r5)
  rcases q with⟨I,k3,O,out,k5,k6,k7,q1⟩|⟨I,k3,O,q1⟩
  ·refine(MV _ _ q1).mono ?_;rintro e u' w' ⟨r1,Q,r3,r4⟩;refine⟨r1,Q,r3,.inl ⟨F2,N2,out,m',by rw[I,k3,k5];rfl,?_,O,k6,?_⟩⟩
   ·rw[<-G8];exact k7
   ·rw[<-G8];exact r4
  ·refine(MV _ [] q1).mono ?_;rintro e u' w' ⟨r1,Q,r3,r4⟩;rw[AZ]at r4;exact⟨r1,Q,r3,.inr ⟨er,m',by rw[k3.1,k3.2.1,k3.2.2.1,k3.2.2.2];rfl,I,.inr O,r4⟩⟩
end
theorem fy(k h c:Nat)(w:World)(hh:2<=h)(G8:h<=254)(hc:c<=9223372036854775807):Calls AP 53 #[AL #[k,h],c] w λe w'=>e=AH (Cr h c:Nat)/\Below w w w':=by
 have I:=AO ((AS w w).alloc ao (AK #[k,h] 105));have hq:Int.tdiv (c:Int) (h:Int)=((c/h:Nat):Int):=rfl;have U:Cp (c:Int) (h:Int)=((c%h:Nat):Int):=rfl;have Gh:¬((h:Int)=0):=a5;have SM:2*(c/h)<=c:=by
  have J:=CU c h;have h2:2*(c/h)<=h*(c/h):=Ae _ hh;rw[B6]at J;omega
 have Q:c%h<h:=Bw _ a5;by_cases hm:0<c%h
 ·have H:Hid (Cr h c=c/h+1):=by unfold Hid Cr;rw[if_pos hm]
  rw[H.out];have O:decide (((c%h:Nat):Int)>0)=true:=by simp;omega
  clear H hh;generalize c/h=q at*
  generalize c%h=m at*
  go_enter func53,ntmps53
  go_wp2
  go_ret
  exact⟨by rfl,I.out⟩
 ·have H:Hid (Cr h c=c/h):=by unfold Hid Cr;rw[if_neg hm]
  rw[H.out];have O:decide (((c%h:Nat):Int)>0)=false:=by simp;omega
  clear H hh;generalize c/h=q at*
  generalize c%h=m at*
  go_enter func53,ntmps53
  go_wp2
  go_ret
  exact⟨rfl,I.out⟩
theorem Zm{w G p F n}(h:Sys w G p F n)(f0 f1 H I:Int)(MW:I<=9223372036854775807)(O:Ct F.D.size H=0\/I<0\/(2<=Ct F.D.size H/\f1≠(Cr (Ct F.D.size H) I.toNat:Nat))):
  Calls AP 46 #[AI p.w,AL #[f0,f1,H,I]] w λe w'=>e=AH (AM #[AI AD,AA AB 1])/\Below w w w':=by
 have ad:=h.size;have ab:=(AS w w).alloc ao (AK #[f0,f1,H,I] 28);have EU:Row (w.alloc (AK #[f0,f1,H,I] 28)) w 28 [f0,f1,H,I]:=heap_alloc_new _ _;have SJ:=Ic (h.below ab) H;have hle:=IN F.D.size H;have Ya:Ct F.D.size H≠0->1<=H/\H<=5:=λhz=>by
  unfold Ct at hz
  split at hz
  ·exact absurd rfl hz
  ·omega
 obtain⟨hh,LU⟩:=ae (Ct F.D.size H);rw[<-LU]at SJ O Ya hle;have IY:hh<=254:=a5;have HS:=AO SJ;have K9:=AO ab;have LK:=AO EU;clear h SJ ab EU LU ad hle;by_cases hz:hh=0
 ·have g0:((hh:Int)==0)=true:=by simp[hz]
  clear O Ya hz;go_enter func46,ntmps46
  go_wp2_with fail
  refine HS.out.mono ?_;rintro e w1 ⟨rfl,DV⟩;have DN:=DV.alloc DV.size (AK #[H,hh] 105);have Xd:Row (w1.alloc (AK #[H,hh] 105)) w1 105 [H,hh]:=heap_alloc_new _ _;have Lw:=LK.out.below DN LK.out.lt;have E1:=AO (K9.out.trans (DN.mono K9.out.size));clear DV DN K9 LK HS;have Q:=AO Xd;have U:=AO Lw;clear Xd Lw;have k0:∀d os,(Ai (redrawn (w1.alloc (AK #[H,hh] 105)) d) os).cell? w1=AE (AA AB H):=Ab (Q.out.cell 0);have k1:∀d os,(Ai (redrawn (w1.alloc (AK #[H,hh] 105)) d) os).cell? (w1,1)=AE (AA AB hh):=Ab (Q.out.cell 1);have k2:∀d os,(Ai (redrawn (w1.alloc (AK #[H,hh] 105)) d) os).cell? (w,1)=AE (AA AB f1):=Ab (U.out.cell 1);have k3:∀d os,(Ai (redrawn (w1.alloc (AK #[H,hh] 105)) d) os).cell? (w,3)=AE (AA AB I):=Ab (U.out.cell 3);go_wp2
  refine Bb a7 a7 ?_
  repeat(any_goals(first|go_big_quiet_step (fail)|quiet_step (fail)))
  refine CV ?_;intro w5 J;obtain⟨⟨dq,osq⟩,J⟩:=J;have Eh:=Bj (w1.alloc (AK #[H,hh] 105)) dq osq;rw[<-J]at Eh;clear J;have EV:=AO (E1.out.trans (Eh.mono E1.out.size));clear Eh k0 k1 k2 k3 Q U E1;go_wp2
  go_ret2
  exact⟨rfl,EV.out⟩
 ·have g0:((hh:Int)==0)=false:=by simp;omega
  by_cases hn:I<0
  ·have g1:decide (I<0)=true:=by simpa using hn
   clear O Ya hz hn;go_enter func46,ntmps46
   go_wp2_with fail
   refine HS.out.mono ?_;rintro e w1 ⟨rfl,DV⟩;have DN:=DV.alloc DV.size (AK #[H,hh] 105);have Xd:Row (w1.alloc (AK #[H,hh] 105)) w1 105 [H,hh]:=heap_alloc_new _ _;have Lw:=LK.out.below DN LK.out.lt;have E1:=AO (K9.out.trans (DN.mono K9.out.size));clear DV DN K9 LK HS;have Q:=AO Xd;have U:=AO Lw;clear Xd Lw;have k0:∀d os,(Ai (redrawn (w1.alloc (AK #[H,hh] 105)) d) os).cell? w1=AE (AA AB H):=Ab (Q.out.cell 0);have k1:∀d os,(Ai (redrawn (w1.alloc (AK #[H,hh] 105)) d) os).cell? (w1,1)=AE (AA AB hh):=Ab (Q.out.cell 1);have k2:∀d os,(Ai (redrawn (w1.alloc (AK #[H,hh] 105)) d) os).cell? (w,1)=AE (AA AB f1):=Ab (U.out.cell 1);have k3:∀d os,(Ai (redrawn (w1.alloc (AK #[H,hh] 105)) d) os).cell? (w,3)=AE (AA AB I):=Ab (U.out.cell 3);go_wp2
   refine Bb a7 a7 ?_
   repeat(any_goals(first|go_big_quiet_step (fail)|quiet_step (fail)))
   refine CV ?_;intro w5 J;obtain⟨⟨dq,osq⟩,J⟩:=J;have Eh:=Bj (w1.alloc (AK #[H,hh] 105)) dq osq;rw[<-J]at Eh;clear J;have EV:=AO (E1.out.trans (Eh.mono E1.out.size));clear Eh k0 k1 k2 k3 Q U E1;go_wp2
   go_ret2
   exact⟨rfl,EV.out⟩
  ·have g1:decide (I<0)=false:=by simp;omega
   obtain⟨h2,aa⟩:2<=hh/\f1≠(Cr hh I.toNat:Nat):=by
    rcases O with h0|h0|h0
    ·exact absurd h0 hz
    ·exact absurd h0 hn
    ·exact h0
   obtain⟨k,hk⟩:∃k:Nat,H=k:=⟨H.toNat,by have:=Ya hz;omega⟩;obtain⟨c,hc⟩:∃c:Nat,I=c:=⟨I.toNat,a5⟩;have Ia:∀W,Calls AP 53 #[AL #[H,hh],I] W λe w'=>e=AH (Cr hh I.toNat:Nat)/\Below W W w':=λW=>by
    subst hk hc;exact fy k hh c W h2 IY a5
   obtain⟨nb,hnb⟩:=ae (Cr hh I.toNat);rw[<-hnb]at Ia aa;have g2:(f1 !=(nb:Int))=true:=by simpa using aa
   have QE:=AO Ia;clear O Ya hz hn Ia aa hk hc hnb;go_enter func46,ntmps46
   go_wp2_with fail
   refine HS.out.mono ?_;rintro e w1 ⟨rfl,DV⟩;have DN:=DV.alloc DV.size (AK #[H,hh] 105);have Xd:Row (w1.alloc (AK #[H,hh] 105)) w1 105 [H,hh]:=heap_alloc_new _ _;have Lw:=LK.out.below DN LK.out.lt;have E1:=AO (K9.out.trans (DN.mono K9.out.size));clear DV DN K9 LK HS;have Q:=AO Xd;have U:=AO Lw;clear Xd Lw;have k0:∀d os,(Ai (redrawn (w1.alloc (AK #[H,hh] 105)) d) os).cell? w1=AE (AA AB H):=Ab (Q.out.cell 0);have k1:∀d os,(Ai (redrawn (w1.alloc (AK #[H,hh] 105)) d) os).cell? (w1,1)=AE (AA AB hh):=Ab (Q.out.cell 1);have k2:∀d os,(Ai (redrawn (w1.alloc (AK #[H,hh] 105)) d) os).cell? (w,1)=AE (AA AB f1):=Ab (U.out.cell 1);have k3:∀d os,(Ai (redrawn (w1.alloc (AK #[H,hh] 105)) d) os).cell? (w,3)=AE (AA AB I):=Ab (U.out.cell 3);have Q1:Hid (∀d os,Calls AP 53 #[AL #[H,hh],I] (Ai (redrawn (w1.alloc (AK #[H,hh] 105)) d) os) λe Ej=>e=AH nb/\∃p:Cq,Ej=Ai (redrawn (w1.alloc (AK #[H,hh] 105)) p.d) p.os):=λd os=>BU (QE.out _);go_wp2
   refine Bb a7 a7 ?_
   repeat(any_goals(first|go_big_quiet_step (with_reducible exact Q1.out _ _)|quiet_step (with_reducible exact Q1.out _ _)))
   refine CV ?_;intro w5 J;obtain⟨⟨dq,osq⟩,J⟩:=J;have Eh:=Bj (w1.alloc (AK #[H,hh] 105)) dq osq;rw[<-J]at Eh;clear J;have EV:=AO (E1.out.trans (Eh.mono E1.out.size));clear Eh Q1 k0 k1 k2 k3 Q U E1;go_wp2
   go_ret2
   exact⟨rfl,EV.out⟩
section
variable{X:Cx}{os:List DA}{m i:Nat}{W W':World}{G:Nat->Prop}{D:St}{A:Ar}{S:Sp}{first nb k hh count:Nat}{l:List Cv}
theorem SE(h:Wd X os m W)(LU:hh=Ct X.sz k)(Gh:0<hh)(hnb:nb=Cr hh count)(I6:count<=100000):
  Calls AP 32 #[AI X.p.w,AL #[first,nb,k,count]] W λe w'=>e=AH true/\Below W W w':=by
 obtain⟨W1,EB⟩:=ae (W.alloc (AK #[first,nb,k,count] 28));have DV:Below W W W1:=by rw[EB];exact(AS _ _).alloc ao _
 have ER:Row W1 W 28 [first,nb,k,count]:=by rw[EB];exact heap_alloc_new _ _
 obtain⟨G,D,A,S,hF⟩:=h;have Q:=hF.below DV;have ab:8<=X.sz:=(Wd.bounds ⟨G,D,A,S,hF⟩).1.1;have qa:Hid (∀w,Below W1 W1 w->Calls AP 19 #[AI X.p.w] w λe w'=>e=AH (AI X.p.d)/\w'=w):=λw hb=>Nm ⟨G,D,A,S,Q.below hb⟩;have V5:Hid (∀w,Below W1 W1 w->Calls AP 42 #[AI X.p.w] w λe w'=>e=AH (AI X.p.s)/\w'=w):=λw hb=>Nl ⟨G,D,A,S,Q.below hb⟩;have vm:Hid (∀w,Below W1.heap.size W1 w->Calls AP 25 #[AA AB 0] w λe w'=>∃a,e=AH (AI (AE ⟨a,0,AD⟩))/\Yp W1 w' a):=λw hb=>by
  refine(K7 0 w a5 a5).mono ?_;rintro e w' ⟨he,ha,DN⟩;exact⟨w,he,hb.trans (DN.mono hb.size),hb.size,ha⟩
 have pS:Hid (∀w a,Yp W1 w a->Calls AP 24 #[AI (AE ⟨X.p.d,0,AD⟩),AI (AE ⟨a,0,AD⟩),AI (AE ⟨X.p.s,0,AD⟩)] w λe w'=>∃wp,e=AH (AI (AE ⟨wp,0,AD⟩))/\Yp W1 w' a/\Row w' wp 87 [ptr X.p.d,ptr a,ptr X.p.s]/\W1.heap.size<=wp/\wp≠a):=λw a I=>by
  refine(Ow X.p.d a X.p.s w).mono ?_;rintro e w' ⟨he,rfl⟩;have Tb:a<w:=I.2.2.lt rfl;exact⟨w.heap.size,he,I.below ((AS _ _).alloc ao _),heap_alloc_new _ _,I.1.size,a5⟩
 have LJ:Hid (∀w a wp,Yp W1 w a->Row w wp 87 [ptr X.p.d,ptr a,ptr X.p.s]->W1<=wp->wp≠a->Calls AP 46 #[AI wp,AL #[first,nb,k,count]] w λe w'=>e=AH (AM #[AI AD,AA AB 7])/\Below W1 W1 w'):=λw a wp I hr hw aa=>by
  obtain⟨G',Zy⟩:=U0 Q.sys I hr ⟨hw,aa⟩;have zm:D.size=X.sz:=hF.size;refine(Sf Zy k hh first nb count (by show hh=Ct D.size k;rw[zm];exact LU) Gh hnb a5 (by show (empty 0).room-(empty 0).used<D.size;rw[zm];exact BH (by show 0-0<8;omega) ab)).mono ?_;rintro e w' ⟨he,hb⟩;exact⟨he,I.1.trans (hb.mono I.1.size)⟩
 have U:Hid (∀w,Below W1 W1 w->w.cell? W=AE (AA AB first)/\w.cell? (W,1)=AE (AA AB nb)/\w.cell? (W,2)=AE (AA AB k)/\w.cell? (W,3)=AE (AA AB count)):=λw hb=>by
  have O:=ER.below hb ER.lt;exact⟨O.cell 0,O.cell 1,O.cell 2,O.cell 3⟩
 have IC:Hid (∀w,Below W1 W1 w->Below W W w):=λw hb=>DV.trans (hb.mono DV.size);have H:Below W1 W1 W1.drew:=Cz (AS _ _);have q0:=U.out _ H;have E0:=AO EB;have ad:=AO hnb;have al:=AO LU;generalize Vk:W.heap.size=s0 at*
 clear EB DV ER hF Q hnb LU;go_enter func32,ntmps32
 go_upto_region 1 with(fail)
 rw[<-E0.out];clear E0;go_region_held3 (λw=>w.cell? ⟨s0,0,AD⟩=AE (AA AB first)/\w.cell? ⟨s0,1,AD⟩=AE (AA AB nb)/\w.cell? ⟨s0,2,AD⟩=AE (AA AB k)/\w.cell? ⟨s0,3,AD⟩=AE (AA AB count)) (first|with_reducible exact q0|with_reducible exact J|with_reducible exact q6|with_reducible exact q7)
  (first
   |(go_at_call 19;(with_reducible refine(qa.out _ (by first|with_reducible exact H|with_reducible exact FU)).mono ?_);rintro e w4 ⟨rfl,rfl⟩)
   |(go_at_call 42;(with_reducible refine(V5.out _ (by first|with_reducible exact H|with_reducible exact FU)).mono ?_);rintro e w4 ⟨rfl,rfl⟩)
   |(go_at_call 25;(with_reducible refine(vm.out _ H).mono ?_);rintro e w5 ⟨a,rfl,h5⟩;have FU:=h5.1;have J:=U.out w5 FU;have q6:=J;have q7:=J)
   |(go_at_call 24;(with_reducible refine(pS.out _ _ h5).mono ?_);rintro e w6 ⟨wp,rfl,h6,JE,gE,tq⟩;have q6:=U.out w6 h6.1)
   |(go_at_call 46;(with_reducible refine(LJ.out _ _ _ h6 JE gE tq).mono ?_);rintro e w7 ⟨rfl,aJ⟩;have q7:=U.out w7 aJ))
 all_goals
  have H9:=AO (IC.out _ aJ);clear aJ q7 q6 J q0 h6 JE gE tq h5 FU H;go_wp2
  go_ret
  exact⟨rfl,by rw[Vk]at*;exact H9.out⟩
end
section
variable{X:Cx}{os:List DA}{m:Nat}{W:World}
theorem Zo{Q f1 H I:Int}(h:Wd X os m W)(MW:I<=9223372036854775807)(U:Ct X.sz H=0\/I<0\/(2<=Ct X.sz H/\f1≠(Cr (Ct X.sz H) I.toNat:Nat))):
  Calls AP 32 #[AI X.p.w,AL #[Q,f1,H,I]] W λe w'=>e=AH false/\Below W W w':=by
 obtain⟨W1,EB⟩:=ae (W.alloc (AK #[Q,f1,H,I] 28));have DV:Below W W W1:=by rw[EB];exact(AS _ _).alloc ao _
 have ER:Row W1 W 28 [Q,f1,H,I]:=by rw[EB];exact heap_alloc_new _ _
 obtain⟨G,D,A,S,hF⟩:=h;have h1:=hF.below DV;have qa:Hid (∀w,Below W1 W1 w->Calls AP 19 #[AI X.p.w] w λe w'=>e=AH (AI X.p.d)/\w'=w):=λw hb=>Nm ⟨G,D,A,S,h1.below hb⟩;have V5:Hid (∀w,Below W1 W1 w->Calls AP 42 #[AI X.p.w] w λe w'=>e=AH (AI X.p.s)/\w'=w):=λw hb=>Nl ⟨G,D,A,S,h1.below hb⟩;have vm:Hid (∀w,Below W1.heap.size W1 w->Calls AP 25 #[AA AB 0] w λe w'=>∃a,e=AH (AI (AE ⟨a,0,AD⟩))/\Yp W1 w' a):=λw hb=>by
  refine(K7 0 w a5 a5).mono ?_;rintro e w' ⟨he,ha,DN⟩;exact⟨w,he,hb.trans (DN.mono hb.size),hb.size,ha⟩
 have pS:Hid (∀w a,Yp W1 w a->Calls AP 24 #[AI (AE ⟨X.p.d,0,AD⟩),AI (AE ⟨a,0,AD⟩),AI (AE ⟨X.p.s,0,AD⟩)] w λe w'=>∃wp,e=AH (AI (AE ⟨wp,0,AD⟩))/\Yp W1 w' a/\Row w' wp 87 [ptr X.p.d,ptr a,ptr X.p.s]/\W1.heap.size<=wp/\wp≠a):=λw a O=>by
  refine(Ow X.p.d a X.p.s w).mono ?_;rintro e w' ⟨he,rfl⟩;have Tb:a<w:=O.2.2.lt rfl;exact⟨w.heap.size,he,O.below ((AS _ _).alloc ao _),heap_alloc_new _ _,O.1.size,a5⟩
 have LJ:Hid (∀w a wp,Yp W1 w a->Row w wp 87 [ptr X.p.d,ptr a,ptr X.p.s]->W1<=wp->wp≠a->Calls AP 46 #[AI wp,AL #[Q,f1,H,I]] w λe w'=>e=AH (AM #[AI AD,AA AB 1])/\Below W1 W1 w'):=λw a wp O hr hw aa=>by
  obtain⟨G',Zy⟩:=U0 h1.sys O hr ⟨hw,aa⟩;have zm:D.size=X.sz:=hF.size;refine(Zm Zy Q f1 H I MW (by show Ct D.size H=0\/I<0\/(2<=Ct D.size H/\f1≠(Cr (Ct D.size H) I.toNat:Nat));rw[zm];exact U)).mono ?_;rintro e w' ⟨he,hb⟩;exact⟨he,O.1.trans (hb.mono O.1.size)⟩
 have Jr:Hid (∀w,Below W1 W1 w->w.cell? W=AE (AA AB Q)/\w.cell? (W,1)=AE (AA AB f1)/\w.cell? (W,2)=AE (AA AB H)/\w.cell? (W,3)=AE (AA AB I)):=λw hb=>by
  have h9:=ER.below hb ER.lt;exact⟨h9.cell 0,h9.cell 1,h9.cell 2,h9.cell 3⟩
 have IC:Hid (∀w,Below W1 W1 w->Below W W w):=λw hb=>DV.trans (hb.mono DV.size);have J:Below W1 W1 W1.drew:=Cz (AS _ _);have q0:=Jr.out _ J;have E0:=AO EB;generalize Vk:W.heap.size=s0 at*
 clear EB DV ER hF h1 U MW;go_enter func32,ntmps32
 go_upto_region 1 with(fail)
 rw[<-E0.out];clear E0;go_region_held3 (λw=>w.cell? ⟨s0,0,AD⟩=AE (AA AB Q)/\w.cell? ⟨s0,1,AD⟩=AE (AA AB f1)/\w.cell? ⟨s0,2,AD⟩=AE (AA AB H)/\w.cell? ⟨s0,3,AD⟩=AE (AA AB I)) (first|with_reducible exact q0|with_reducible exact q5|with_reducible exact q6|with_reducible exact q7)
  (first
   |(go_at_call 19;(with_reducible refine(qa.out _ (by first|with_reducible exact J|with_reducible exact FU)).mono ?_);rintro e w4 ⟨rfl,rfl⟩)
   |(go_at_call 42;(with_reducible refine(V5.out _ (by first|with_reducible exact J|with_reducible exact FU)).mono ?_);rintro e w4 ⟨rfl,rfl⟩)
   |(go_at_call 25;(with_reducible refine(vm.out _ J).mono ?_);rintro e w5 ⟨a,rfl,h5⟩;have FU:=h5.1;have q5:=Jr.out w5 FU;have q6:=q5;have q7:=q5)
   |(go_at_call 24;(with_reducible refine(pS.out _ _ h5).mono ?_);rintro e w6 ⟨wp,rfl,h6,JE,gE,tq⟩;have q6:=Jr.out w6 h6.1)
   |(go_at_call 46;(with_reducible refine(LJ.out _ _ _ h6 JE gE tq).mono ?_);rintro e w7 ⟨rfl,aJ⟩;have q7:=Jr.out w7 aJ))
 all_goals
  have H9:=AO (IC.out _ aJ);clear aJ q7 q6 q5 q0 h6 JE gE tq h5 FU J;go_wp2
  go_ret
  exact⟨rfl,by rw[Vk]at*;exact H9.out⟩
end
theorem Zn(O f1 J I:Int)(w:World):Calls AP 32 #[AI AD,AL #[O,f1,J,I]] w λe w'=>e=AH false/\Below w w w':=by
 obtain⟨W1,EB⟩:=ae (w.alloc (AK #[O,f1,J,I] 28));have DV:Below w w W1:=by rw[EB];exact(AS _ _).alloc ao _
 have ER:Row W1 w 28 [O,f1,J,I]:=by rw[EB];exact heap_alloc_new _ _
 have Jr:Hid (∀u,Below W1 W1 u->u.cell? w=AE (AA AB O)/\u.cell? (w,1)=AE (AA AB f1)/\u.cell? (w,2)=AE (AA AB J)/\u.cell? (w,3)=AE (AA AB I)):=λu hb=>by
  have Q:=ER.below hb ER.lt;exact⟨Q.cell 0,Q.cell 1,Q.cell 2,Q.cell 3⟩
 have qa:Hid (∀u,Calls AP 19 #[AI AD] u λe w'=>e=AH (AI AD)/\w'=u):=λu=>jr u;have V5:Hid (∀u,Calls AP 42 #[AI AD] u λe w'=>e=AH (AI AD)/\w'=u):=λu=>jl u;have vm:Hid (∀u,Calls AP 25 #[()] u λe w'=>∃a:Nat,e=AH (AI a)/\Below u u w'):=λu=>by
  refine(K7 0 u a5 a5).mono ?_;rintro e w' ⟨he,ha,DN⟩;exact⟨u,he,DN⟩
 have pS:Hid (∀u (a:Nat),Calls AP 24 #[AI AD,AI a,AI AD] u λe w'=>e=AH (AI AD)/\w'=u):=λu a=>oB a AD u;have LJ:Hid (∀u,Calls AP 46 #[AI AD,AL #[O,f1,J,I]] u λe w'=>e=AH (AM #[AI AD,AA AB 1])/\Below u u w'):=λu=>iD O f1 J I u;have IC:Hid (∀u,Below W1 W1 u->Below w w u):=λu hb=>DV.trans (hb.mono DV.size);have H:Below W1 W1 W1.drew:=Cz (AS _ _);have q0:=Jr.out _ H;have E0:=AO EB;generalize Vk:w.heap.size=s0 at*
 clear EB DV ER;go_enter func32,ntmps32
 go_upto_region 1 with(fail)
 rw[<-E0.out];clear E0;go_region_held3 (λu=>u.cell? s0=AE (AA AB O)/\u.cell? (s0,1)=AE (AA AB f1)/\u.cell? (s0,2)=AE (AA AB J)/\u.cell? (s0,3)=AE (AA AB I)) (first|with_reducible exact q0|with_reducible exact q5|with_reducible exact q7)
  (first
   |(go_at_call 19;(with_reducible refine(qa.out _).mono ?_);rintro e w4 ⟨rfl,rfl⟩)
   |(go_at_call 42;(with_reducible refine(V5.out _).mono ?_);rintro e w4 ⟨rfl,rfl⟩)
   |(go_at_call 25;(with_reducible refine(vm.out _).mono ?_);rintro e w5 ⟨a,rfl,h5⟩;have U:=H.trans (h5.mono H.size);have q5:=Jr.out w5 U)
   |(go_at_call 24;(with_reducible refine(pS.out _ _).mono ?_);rintro e w6 ⟨rfl,rfl⟩)
   |(go_at_call 46;(with_reducible refine(LJ.out _).mono ?_);rintro e w7 ⟨rfl,h7⟩;have aJ:=U.trans (h7.mono U.size);have q7:=Jr.out w7 aJ))
 all_goals
  have H9:=AO (IC.out _ aJ);clear aJ q7 q5 q0 h7 h5 U H;go_wp2
  go_ret
  exact⟨rfl,by rw[Vk]at*;exact H9.out⟩
section
variable{X:Cx}{os:List DA}{m i:Nat}{W:World}{l:List Cv}
theorem Y3{first nb k hh sz j}(h:Wd X os m W)(hi:os[i]?=AE (Da first nb k hh l sz))(hf:first<=2000000)(hn:nb<=2000000)(hj:j<nb):
  Calls AP 64 #[AI X.p.s,((first+j:Nat):Int),AA AB 1] W λe w'=>e=AH (AA AB 1)/\Wd X os m w':=by
 obtain⟨G,D,A,S,h⟩:=h;have H:=(h.held hi).1 (first+j) ⟨by show first<=first+j;omega,by show first+j<first+nb;omega⟩;obtain⟨Gs,Q,Gn⟩:=h.sys.spc;rcases SQ (s:=S) h.sys.eZ ((first+j:Nat):Int) ((1:Nat):Int)with⟨s',a',m',I,hm,h4,he,hg⟩|⟨he,_⟩
 ·have I:a'=first+j:=a5;subst I;exact absurd (hg.room (first+j) ao a5) H
 ·refine(Xi X.p.s S Gs ((first+j:Nat):Int) ((1:Nat):Int) W Q (Fg.of a5 a5) (Fg.of a5 a5)).mono ?_;rw[he];rintro e w' ⟨h5,U⟩;obtain⟨G',O,J,k3⟩:=Gn _ _ U;exact⟨h5,h.stay (D':=D) (A':=A) ⟨G',O,J,k3⟩ ao h.Lx.2 ⟨rfl,rfl⟩ h.alive id h.Dg (λ_=>rfl) rfl rfl (λ_ _ hw=>hw)⟩
theorem hold_none{first nb k hh sz c:Nat}(h:Wd X os m W)(hi:os[i]?=AE (Da first nb k hh l sz))(hf:first<=2000000)(hn:nb<=2000000):
  Calls AP 37 #[AI X.p.w,AL #[first,nb,k,c]] W λe w'=>e=AH (AJ AD 0 0)/\Wd X os m w':=by
 obtain⟨s0,hs0⟩:=ae W.heap.size;obtain⟨W1,EB⟩:=ae (W.alloc (AK #[first,nb,k,c] 28));obtain⟨fc,OI⟩:∃fc:List Value,fc=[AA AB first,AA AB nb,AA AB k,AA AB c]:=⟨_,rfl⟩;have h1:Wd X (os++[Cs s0 28 fc]) m W1:=by
  have:=h.new ((AS W W).alloc ao (AK #[first,nb,k,c] 28)) (heap_alloc_new _ _:Row _ _ 28 [first,nb,k,c]) ao;rw[<-EB,<-hs0,<-OI]at this;exact this
 obtain⟨A,I⟩:∃A:World->Prop,∀w,A w↔Wd X (os++[Cs s0 28 fc]) m w:=⟨_,λ_=>BN⟩;have V9:Hid (A W1):=(I _).2 h1;have HC:Hid (∀w,A w->w.cell? s0=AE (AA AB first)/\w.cell? (s0,1)=AE (AA AB nb)):=λw q=>by
  have q1:Row w s0 28 fc:=((I _).1 q).row (i:=os.length) a8;rw[OI]at q1;exact⟨q1.cell 0,q1.cell 1⟩
 have HD:Hid (∀w,A w->A w.drew):=λw q=>(I _).2 (((I _).1 q).drewN 1);have HS:Hid (∀w,A w->Calls AP 42 #[AI X.p.w] w λe w'=>e=AH (AI X.p.s)/\w'=w):=λw q=>Nl ((I _).1 q);have HH:Hid (∀w j,A w->j<nb->Calls AP 64 #[AI X.p.s,((first+j:Nat):Int),AA AB 1] w λe w'=>e=AH (AA AB 1)/\A w'):=λw j q hj=>by
  refine(Y3 ((I _).1 q) (Rp hi) hf hn hj).mono ?_;rintro e w' ⟨he,hw⟩;exact⟨he,(I _).2 hw⟩
 have HF:Hid (∀w,A w->Wd X os m w):=λw q=>((I _).1 q).drop rfl rfl;generalize Wd X os m=Dd at*
 generalize X.p.w=pw at*
 generalize X.p.s=ps at*
 have E0:=AO EB;replace hs0:=AO hs0;obtain⟨c0,c1⟩:=HC.out _ V9.out;clear h h1 I EB OI hi;go_enter func37,ntmps37
 go_upto_region 1 with(fail)
 rw[<-E0.out,<-hs0.out];clear E0;go_wp2_with fail
 go_loopw [5,6,9] (λs5 _ s9 wr=>∃j:Nat,s5=AJ AD 0 0/\s9=AA AB j/\j<=nb/\Hid (A wr)) (λ_ _ s9 _=>match s9 with|.int _ z=>nb-z.toNat| _=>0)
 case atStart=>exact⟨0,rfl,rfl,Aq _,V9⟩
 case round=>
  obtain⟨j,h5,h9,hj,HA⟩:=hrel;subst h5 h9;obtain⟨fj,O⟩:=ae (first+j);obtain⟨j1,nD⟩:=ae (j+1);have U:=AO nD;by_cases H:j<nb
  ·have g1:decide (j<nb)=true:=by simpa using H
   have Ku:Aa.wrap ((first:Int)+(j:Int))=(fj:Int):=by rw[BV];omega
   have Ov:Aa.wrap ((j:Int)+1)=(j1:Int):=by rw[BV];omega
   have Q:=AO (HD.out _ HA.out);have q0:=(HC.out _ Q.out).1;have J:=HH.out _ _ Q.out H;rw[<-O]at J;have ab:=AO J;have aa:=AO (HS.out _ Q.out);have KV:=AO H;clear H O nD J;go_wp2_with fail
   go_region_held3 (λw=>w.cell? s0=AE (AA AB first)) (first|with_reducible exact q0|with_reducible exact q5)
    (first
     |(go_at_call 42;(with_reducible refine aa.out.mono ?_);rintro e w4 ⟨rfl,rfl⟩)
     |(go_at_call 64;(with_reducible refine ab.out.mono ?_);rintro e w5 ⟨rfl,h5⟩;have q5:=(HC.out _ h5).1))
   have jJ:=AO h5;clear h5 q5 q0;go_wp2
   go_roundw
   case rel=>exact⟨j1,rfl,rfl,by have:=U.out;have:=KV.out;omega,jJ⟩
   case measure=>
    have:=U.out;have:=KV.out;simp;omega
  ·have g1:decide (j<nb)=false:=by simpa using H
   have HP:=AO (HF.out _ HA.out);clear H O nD;go_wp2
   go_ret
   exact⟨rfl,HP.out⟩
end
theorem fq{n g:Nat}{t W}(hr:Row W g 3 [n])(hn:n<=1000000):
  Calls AP 62 #[DS t,AI g] W λe w'=>
   (e=AH (AA AB 3)/\(t.a<0\/t.b< -1)/\Below W W w')\/
   (e=AH ()/\(0<=t.a/\-1<=t.b)/\DG (λk=>k=g) W w'/\Row w' g 3 [((if Iz t=true then n+1 else n:Nat):Int)]):=by
 obtain⟨W1,Q⟩:=ae (W.alloc (AK #[t.a,t.b,t.c,t.d,t.e] 47));have DV:Below W W W1:=by rw[Q];exact(AS _ _).alloc ao _
 have O:Row W1 g 3 [n]:=hr.below DV hr.lt;have GL:Row W1 W 47 (DE t):=by rw[Q];exact heap_alloc_new _ _
 have Kq:DG (λk=>k=g) W W1:=DG.DB DV _;have U:=AO Q;have OM:=AO DV;have OK:=AO Kq;obtain⟨d0,d1⟩:=GL.q2;have c0:W1.cell? g=AE (AA AB n):=O.cell 0;have f0:=O.free 0;have Dr:Hid (DG (λk=>k=g) W (W1.setCell g ((n+1:Nat):Int))/\Row (W1.setCell g ((n+1:Nat):Int)) g 3 [((n+1:Nat):Int)]):=
  ⟨Kq.set (p:=g) (.inl rfl) _,by simpa using O.set 0 ((n+1:Nat):Int)⟩
 have Ja:=AO O;obtain⟨n1,Pp⟩:=ae (n+1);rw[<-Pp]at Dr;have Ku:Aa.wrap ((n:Int)+1)=(n1:Int):=by rw[BV];omega
 have vP:=AO Pp;generalize hs0:W.heap.size=s0 at*
 clear Q DV O GL Kq hr Pp;generalize Gr:(λ(e:Ending) (w':World)=>(e=AH (AA AB 3)/\(t.a<0\/t.b< -1)/\Below s0 W w')\/
   (e=AH ()/\(0<=t.a/\-1<=t.b)/\DG (λk=>k=g) W w'/\Row w' g 3 [((if Iz t=true then n+1 else n:Nat):Int)]))=Dd
 replace Gr:=AO Gr;have Ur:Hid ((t.a<0\/t.b< -1)->Dd (AH (AA AB 3)) W1):=λh=>by rw[<-Gr.out];exact .inl ⟨rfl,h,OM.out⟩
 have ab:Hid (0<=t.a->-1<=t.b->Iz t=true->Dd (AH ()) (W1.setCell g n1)):=λI H h3=>by
  rw[<-Gr.out];exact .inr ⟨rfl,⟨I,H⟩,by rw[if_pos h3,<-vP.out];exact Dr.out⟩
 have aa:Hid (0<=t.a->-1<=t.b->¬Iz t=true->Dd (AH ()) W1):=λI H h3=>by
  rw[<-Gr.out];exact .inr ⟨rfl,⟨I,H⟩,by rw[if_neg h3];exact⟨OK.out,Ja.out⟩⟩
 clear Dr OK Ja OM Gr;unfold DS;by_cases I:t.a<0
 ·have g1:decide (t.a<0)=true:=by simpa using I
  have J:=AO (Ur.out (.inl I));go_enter func62,ntmps62
  go_upto_region 1 with(fail)
  rw[<-U.out];go_wp2
  exact J.out
 ·have g1:decide (t.a<0)=false:=by simpa using I
  by_cases H:t.b< -1
  ·have g2:decide (t.b< -1)=true:=by simpa using H
   have J:=AO (Ur.out (.inr H));go_enter func62,ntmps62
   go_upto_region 1 with(fail)
   rw[<-U.out];go_wp2
   exact J.out
  ·have g2:decide (t.b< -1)=false:=by simpa using H
   by_cases h3:t.b=-1
   ·have g3:(t.b==-1)=true:=by simpa using h3
    have J:=AO (ab.out a5 a5 (by simpa [Iz]using h3));clear h3;go_enter func62,ntmps62
    go_upto_region 1 with(fail)
    rw[<-U.out];go_wp2
    exact J.out
   ·have g3:(t.b==-1)=false:=by simpa using h3
    have J:=AO (aa.out a5 a5 (by simpa [Iz]using h3));go_enter func62,ntmps62
    go_upto_region 1 with(fail)
    rw[<-U.out];go_wp2
    exact J.out
section
variable{X:Cx}{os:List DA}{m first nb hh count g:Nat}{W:World}{l:List Cv}
def o6(l:List Cv)(i s:Nat):Prop:=s=(l.take i).countP Iz/\i<=l.length/\∀t∈l.take i,0<=t.a/\-1<=t.b
theorem so:DoS X 62 #[AI (AE ⟨g,0,AD⟩)] l (λi s=>o6 l i s/\l.length<=100000) (λs=>os++[Cs g 3 [AA AB (s:Nat)]]) (λ_=>0) (λer z'=>er=3/\¬Dh l/\∃s:Nat,z'=os++[Cs g 3 [AA AB s]]) 0 where
 ent:=λargs w=>by kernel_rfl
 cost:=λ_ _ _=>AQ _
 step:=λi s zz m W t H ⟨⟨O,h2,h3⟩,h4⟩ h hn=>by
  have J:i<l.length:=(BM.1 H).1;have FX:∀cs,(os++[Cs g 3 cs]++zz)[os.length]?=AE (Cs g 3 cs):=λcs=>by simp
  have Km:∀cs JX,(os++[Cs g 3 cs]++zz).set os.length (Cs g 3 JX)=os++[Cs g 3 JX]++zz:=λcs JX=>by simp
  have hs:s<=i:=by rw[O];exact Af List.countP_le_length (by rw[Ac];omega)
  have U:l.take (i+1)=l.take i++[t]:=by rw[Bi,H];rfl
  refine(fq (t:=t) (h.row (FX _)) a5).mono ?_;rintro e w' (⟨he,hw,hb⟩|⟨he,hw,hf,hr⟩)
  ·exact .inr ⟨3,_,he,a5,⟨rfl,λQ=>by
    have k1:=Q.a0 t (Ak H);have k2:=Q.b0 t (Ak H);omega,s,rfl⟩,(h.below hb).mono a5 a5⟩
  ·have q:=h.Nn (FX _) a6 hf hr;rw[Km]at q;refine .inl ⟨_,he,⟨⟨?_,J,?_⟩,h4⟩,q⟩
   ·rw[U,List.countP_append,<-O];by_cases I:Iz t=true
    ·rw[if_pos I];simp[I]
    ·rw[if_neg I];simp[I]
   ·intro u hu;rw[U]at hu;rcases Ag.1 hu with hu|hu
    ·exact h3 u hu
    ·simp at hu;subst hu;exact hw
def V3(X:Cx)(os:List DA)(l:List Cv)(m nb:Nat)(e:Ending)(w':World):Prop:=
 ∃n er:Nat,e=AH (AM #[n,er])/\((er=0/\n=l.countP Iz/\∀t∈l,0<=t.a/\-1<=t.b)\/(er=3/\¬Dh l)\/(er=6/\¬X.cm))/\Wd X os (m+nb+1) w'
theorem jz(h:Wd X os m W)(hf:GY first nb 3 hh l X.sz)(J:Da first nb 3 hh l X.sz∈os)(hc:l.length=count)(H:X.sz+DC DA.gw os<=X.rm)(hn:X.N+m+nb+1<=1000000):
  Calls AP 35 #[AI X.p.w,AL #[first,nb,AA AB 3,count]] W (V3 X os l m nb):=by
 obtain⟨W2,G9⟩:=ae ((W.alloc (AK #[first,nb,AA AB 3,count] 28)).alloc (AK #[()] 3));have DV:Below W W (W.alloc (AK #[first,nb,AA AB 3,count] 28)):=(AS _ _).alloc ao _;have DN:=(AS (W.alloc (AK #[first,nb,AA AB 3,count] 28)).heap.size (W.alloc (AK #[first,nb,AA AB 3,count] 28))).alloc ao (AK #[()] 3);have Lw:Row (W.alloc (AK #[first,nb,AA AB 3,count] 28)) W 28 [first,nb,AA AB 3,count]:=heap_alloc_new _ _;have tV:=Lw.below DN Lw.lt;have I:=(h.below DV).new DN (heap_alloc_new _ _:Row _ _ 3 [()]) ao;rw[<-G9]at I tV;have O:(W.alloc (AK #[first,nb,AA AB 3,count] 28)).heap.size=W+1:=a8;rw[O]at I;obtain⟨s0,hs0⟩:=ae W.heap.size;rw[<-hs0]at I tV;have aa:=AO (bO (count:=count) (s0:=0) (so (X:=X) (os:=os) (g:=s0+1) (l:=l)) ⟨⟨a8,Aq _,λt ht=>by simp at ht⟩,hf.len⟩ rfl I hf (λi s _=>by simp[J]) hc (by rw[Dz];exact H) a5);have Gv:Hid (∀e w',WC X l (λi s=>o6 l i s/\l.length<=100000) (λs=>os++[Cs (s0+1) 3 [s]]) (λ_=>0) (λer U=>er=3/\¬Dh l/\∃s:Nat,U=os++[Cs (s0+1) 3 [s]]) m nb 0 e w'->
   ∃er n:Nat,e=AH er/\Row w' (s0+1) 3 [n]/\V3 X os l m nb (AH (AM #[n,er])) w'):=by
  rintro e w' (⟨s,he,⟨⟨Q,_,h3⟩,_⟩,hw⟩|⟨er,U,he,_,Hw,hw⟩)
  ·refine⟨0,s,he,hw.row (GC _ _),s,0,rfl,.inl ⟨rfl,by rw[Q,By],λt ht=>h3 t (by rw[By];exact ht)⟩,(JK ⟨rfl,rfl⟩ hw).mono (by show m+nb+0<=m+nb+1;omega) a5⟩
  ·rcases Hw with⟨Q,I,s,rfl⟩|⟨Q,I,i,s,_,rfl⟩
   ·exact⟨er,s,he,hw.row (GC _ _),s,er,rfl,.inr (.inl ⟨Q,I⟩),JK ⟨rfl,rfl⟩ hw⟩
   ·exact⟨er,s,he,hw.row (GC _ _),s,er,rfl,.inr (.inr ⟨Q,I⟩),JK ⟨rfl,rfl⟩ hw⟩
 generalize WC X l (λi s=>o6 l i s/\l.length<=100000) (λs=>os++[Cs (s0+1) 3 [s]]) (λ_=>0) (λer U=>er=3/\¬Dh l/\∃s:Nat,U=os++[Cs (s0+1) 3 [s]]) m nb 0=ab at*
 generalize V3 X os l m nb=Dd at*
 have KU:=AO G9;obtain⟨a0,a1,a2,a3⟩:=tV.q4;replace hs0:=AO hs0;clear h hf J hc H hn G9 DV DN Lw tV I O;go_enter func35,ntmps35
 go_upto_region 2 with(fail)
 rw[<-KU.out,<-hs0.out];clear KU;go_wp2_with fail
 refine aa.out.mono ?_;rintro e w3 h3;obtain⟨er,n,rfl,hr,hp⟩:=Gv.out e w3 h3;have c0:w3.cell? (s0+1,0)=AE (AA AB n):=hr.cell 0;have HP:=AO hp;clear h3 hr hp a0 a1 a2 a3;go_wp2
 exact HP.out
end
section
theorem Rx{W}(pv:Value)(x0 x1 x2 x3:Int)(hx:x2≠3):
  Calls AP 13 #[pv,AL #[x0,x1,x2,x3]] W λe w'=>e=AH (AM #[AL #[(),(),(),()],AA AB 1])/\Below W W w':=by
 obtain⟨s0,hs0⟩:=ae W.heap.size;obtain⟨J,O⟩:=ae ((W.alloc (AK #[x0,x1,x2,x3] 28)).alloc (AK #[(),(),(),()] 28));have Tb:∀(w:World) (o:Obj),(w.alloc o).heap.size=w+1:=λw o=>by simp
 have DV:Below W W (W.alloc (AK #[x0,x1,x2,x3] 28)):=(AS _ _).alloc ao _;have DN:Below W W J:=by rw[O];exact DV.alloc DV.size _
 have ER:Row J s0 28 [x0,x1,x2,x3]:=by
  have:Row (W.alloc (AK #[x0,x1,x2,x3] 28)) W 28 [x0,x1,x2,x3]:=heap_alloc_new _ _;rw[O,hs0];exact this.alloc _
 have EA:Row J (s0+1) 28 [(),(),(),()]:=by
  have:Row ((W.alloc (AK #[x0,x1,x2,x3] 28)).alloc (AK #[(),(),(),()] 28)) (W.alloc (AK #[x0,x1,x2,x3] 28)).heap.size 28 [(),(),(),()]:=heap_alloc_new _ _;rw[Tb,<-O,<-hs0]at this;exact this
 have Ji:∀w,Below J J w->(((w.cell? s0=AE (AA AB x0)/\w.cell? (s0,1)=AE (AA AB x1)/\w.cell? (s0,2)=AE (AA AB x2)/\w.cell? (s0,3)=AE (AA AB x3))/\(w.cell? (s0+1,0)=AE (AA AB 0)/\w.cell? (s0+1,1)=AE (AA AB 0)/\w.cell? (s0+1,2)=AE (AA AB 0)/\w.cell? (s0+1,3)=AE (AA AB 0))/\w.frozen? (s0+1,0)=false/\w.frozen? (s0+1,1)=false/\w.frozen? (s0+1,2)=false/\w.frozen? (s0+1,3)=false)/\
   Row ((((w.setCell (s0+1,0) ()).setCell (s0+1,1) ()).setCell (s0+1,2) ()).setCell (s0+1,3) ()) (s0+1) 28 [(),(),(),()]/\Below W.heap.size W ((((w.setCell (s0+1,0) ()).setCell (s0+1,1) ()).setCell (s0+1,2) ()).setCell (s0+1,3) ())):=λw hb=>by
  have I:=ER.below hb ER.lt;have H:=EA.below hb EA.lt;have k3:=(((H.set 0 ()).set 1 ()).set 2 ()).set 3 ();have k4:Below W W w:=DN.trans (hb.mono DN.size);refine⟨⟨⟨I.cell 0,I.cell 1,I.cell 2,I.cell 3⟩,⟨H.cell 0,H.cell 1,H.cell 2,H.cell 3⟩,H.free 0,H.free 1,H.free 2,H.free 3⟩,k3,?_⟩;exact(((k4.setCell (by show _<=s0+1;omega) _).setCell (by show _<=s0+1;omega) _).setCell (by show _<=s0+1;omega) _).setCell (by show _<=s0+1;omega) _
 have HE:=AO Ji;have KU:=AO O;have Qe:=AO hs0;clear Ji DV DN ER EA Tb O hs0;obtain⟨⟨⟨a0,a1,a2,a3⟩,⟨z0,z1,z2,z3⟩,f0,f1,f2,f3⟩,U⟩:=HE.out J (AS _ _);have g1:(x2 !=3)=true:=by simpa using hx
 go_enter_defers func13,ntmps13
 go_upto_region 1 with(fail)
 rw[<-KU.out,<-Qe.out];clear KU;obtain⟨Dx,xL⟩:=U;have Q:=AO Dx;have bK:=AO xL;clear Dx xL;go_wp2
 have k0:=Q.out.cell 0;have I:=Q.out.cell 1;have H:=Q.out.cell 2;have k3:=Q.out.cell 3;simp only[AW,AV]at k0 I H k3;exact⟨AM #[AL #[(),(),(),()],AA AB 1],by simp[results,Tryz.results13,go_sem,k0,I,H,k3],rfl,bK.out⟩
theorem Ry{W:World}(pv:Value)(x0 x1 x3:Int)(Lt:∀u,Below W W u->Calls AP 32 #[pv,AL #[x0,x1,AA AB 3,x3]] u λe w'=>e=AH false/\Below u u w'):
  Calls AP 13 #[pv,AL #[x0,x1,AA AB 3,x3]] W λe w'=>e=AH (AM #[AL #[(),(),(),()],AA AB 1])/\Below W W w':=by
 obtain⟨s0,hs0⟩:=ae W.heap.size;obtain⟨J,Q⟩:=ae ((W.alloc (AK #[x0,x1,AA AB 3,x3] 28)).alloc (AK #[(),(),(),()] 28));have Tb:∀(w:World) (o:Obj),(w.alloc o).heap.size=w+1:=λw o=>by simp
 have DV:Below W W (W.alloc (AK #[x0,x1,AA AB 3,x3] 28)):=(AS _ _).alloc ao _;have DN:Below W W J:=by rw[Q];exact DV.alloc DV.size _
 have ER:Row J s0 28 [x0,x1,AA AB 3,x3]:=by
  have:Row (W.alloc (AK #[x0,x1,AA AB 3,x3] 28)) W 28 [x0,x1,AA AB 3,x3]:=heap_alloc_new _ _;rw[Q,hs0];exact this.alloc _
 have EA:Row J (s0+1) 28 [(),(),(),()]:=by
  have:Row ((W.alloc (AK #[x0,x1,AA AB 3,x3] 28)).alloc (AK #[(),(),(),()] 28)) (W.alloc (AK #[x0,x1,AA AB 3,x3] 28)).heap.size 28 [(),(),(),()]:=heap_alloc_new _ _;rw[Tb,<-Q,<-hs0]at this;exact this
 have Ji:∀w,Below J J w->(((w.cell? s0=AE (AA AB x0)/\w.cell? (s0,1)=AE (AA AB x1)/\w.cell? (s0,2)=AE (AA AB 3)/\w.cell? (s0,3)=AE (AA AB x3))/\(w.cell? (s0+1,0)=AE (AA AB 0)/\w.cell? (s0+1,1)=AE (AA AB 0)/\w.cell? (s0+1,2)=AE (AA AB 0)/\w.cell? (s0+1,3)=AE (AA AB 0))/\w.frozen? (s0+1,0)=false/\w.frozen? (s0+1,1)=false/\w.frozen? (s0+1,2)=false/\w.frozen? (s0+1,3)=false)/\
   Row ((((w.setCell (s0+1,0) ()).setCell (s0+1,1) ()).setCell (s0+1,2) ()).setCell (s0+1,3) ()) (s0+1) 28 [(),(),(),()]/\Below W.heap.size W ((((w.setCell (s0+1,0) ()).setCell (s0+1,1) ()).setCell (s0+1,2) ()).setCell (s0+1,3) ())):=λw hb=>by
  have I:=ER.below hb ER.lt;have H:=EA.below hb EA.lt;have k3:=(((H.set 0 ()).set 1 ()).set 2 ()).set 3 ();have k4:Below W W w:=DN.trans (hb.mono DN.size);refine⟨⟨⟨I.cell 0,I.cell 1,I.cell 2,I.cell 3⟩,⟨H.cell 0,H.cell 1,H.cell 2,H.cell 3⟩,H.free 0,H.free 1,H.free 2,H.free 3⟩,k3,?_⟩;exact(((k4.setCell (by show _<=s0+1;omega) _).setCell (by show _<=s0+1;omega) _).setCell (by show _<=s0+1;omega) _).setCell (by show _<=s0+1;omega) _
 have HE:=AO Ji;have KU:=AO Q;have O:=AO (Lt J DN);have Qe:=AO hs0;clear Ji DV DN ER EA Tb Q hs0;obtain⟨⟨⟨a0,a1,a2,a3⟩,_,_,_,_,_⟩,_⟩:=HE.out J (AS _ _);clear Lt;go_enter_defers func13,ntmps13
 go_upto_region 1 with(fail)
 rw[<-KU.out,<-Qe.out];clear KU;go_wp2_with fail
 refine O.out.mono ?_;rintro e w3 ⟨rfl,D9⟩;clear a0 a1 a2 a3;obtain⟨⟨⟨a0,a1,a2,a3⟩,⟨z0,z1,z2,z3⟩,f0,f1,f2,f3⟩,aa⟩:=HE.out w3 D9;clear D9 O;obtain⟨Dx,xL⟩:=aa;have U:=AO Dx;have bK:=AO xL;clear Dx xL;go_wp2
 have k0:=U.out.cell 0;have I:=U.out.cell 1;have H:=U.out.cell 2;have k3:=U.out.cell 3;simp only[AW,AV]at k0 I H k3;exact⟨AM #[AL #[(),(),(),()],AA AB 1],by simp[results,Tryz.results13,go_sem,k0,I,H,k3],rfl,bK.out⟩
end
structure TWk (s0 pw pa pd f n c:Nat) (W2:World) (Dd:Ending->World->Prop) (A:World->Prop) (LA:Nat->Nat->World->Prop) (RK:Nat->Nat->Nat->Nat->Nat->List Value->World->Prop) (lf sz:Nat):Prop where
 h0:A W2
 rA:∀w,A w->Row w s0 28 [f,n,AA AB 3,c]/\Row w (s0+1) 28 [(),(),(),()]
 bA:∀w w',A w->Below w w w'->A w'
 can:∀w,A w->Calls AP 32 #[AI pw,AL #[f,n,AA AB 3,c]] w λe w'=>e=AH true/\Below w w w'
 arn:∀w,A w->Calls AP 21 #[AI pw] w λe w'=>e=AH (AI pa)/\w'=w
 left:∀w,A w->Calls AP 33 #[AI pa] w λe w'=>e=AH lf/\w'=w
 dev:∀w,A w->Calls AP 19 #[AI pw] w λe w'=>e=AH (AI pd)/\w'=w
 size:∀w,A w->Calls AP 34 #[AI pd] w λe w'=>e=AH sz/\w'=w
 szb:sz<=256
 room:lf<8*sz->∀w,A w->Row ((((w.setCell (s0+1,0) ()).setCell (s0+1,1) ()).setCell (s0+1,2) ()).setCell (s0+1,3) ()) (s0+1) 28 [(),(),(),()]/\Dd (AH (AM #[AL #[(),(),(),()],AA AB 7])) ((((w.setCell (s0+1,0) ()).setCell (s0+1,1) ()).setCell (s0+1,2) ()).setCell (s0+1,3) ())
 last:¬lf<8*sz->∀w,A w->Calls AP 35 #[AI pw,AL #[f,n,AA AB 3,c]] w λe w'=>∃en er:Nat,e=AH (AM #[en,er])/\LA en er w'
 rL:∀en er w,LA en er w->Row w s0 28 [f,n,AA AB 3,c]/\Row w (s0+1) 28 [(),(),(),()]
 eL:∀en er w,LA en er w->er≠0->Row ((((w.setCell (s0+1,0) ()).setCell (s0+1,1) ()).setCell (s0+1,2) ()).setCell (s0+1,3) ()) (s0+1) 28 [(),(),(),()]/\Dd (AH (AM #[AL #[(),(),(),()],er])) ((((w.setCell (s0+1,0) ()).setCell (s0+1,1) ()).setCell (s0+1,2) ()).setCell (s0+1,3) ())
 hold:∀en w,LA en 0 w->Calls AP 37 #[AI pw,AL #[f,n,AA AB 3,c]] w λe w'=>e=AH (AJ AD 0 0)/\LA en 0 w'
 rks:∀(en:Nat) w,LA en 0 w->Calls AP 38 #[AI pw,AL #[f,n,AA AB 3,c],en] w λe w'=>∃F N K L er:Nat,e=AH (AM #[AL #[F,N,K,L],er])/\RK F N K L er [(),(),(),()] w'
 rR:∀F N K L er cs w,RK F N K L er cs w->Row w (s0+1) 28 cs
 sR:∀(F N K L er:Nat) w,RK F N K L er [(),(),(),()] w->RK F N K L er [F,N,K,L] ((((w.setCell (s0+1,0) F).setCell (s0+1,1) N).setCell (s0+1,2) K).setCell (s0+1,3) L)
 pR:∀(F N K L er:Nat) w,RK F N K L er [F,N,K,L] w->Dd (AH (AM #[AL #[F,N,K,L],er])) w
theorem Wb{W:World}{s0 pw pa pd f n c:Nat}{W2 Dd A LA RK lf sz}
  (hs0:s0=W)(G9:W2=(W.alloc (AK #[f,n,AA AB 3,c] 28)).alloc (AK #[(),(),(),()] 28))(hW:TWk s0 pw pa pd f n c W2 Dd A LA RK lf sz):
  Calls AP 13 #[AI pw,AL #[f,n,AA AB 3,c]] W Dd:=by
 have I:=AO hW;have Qe:=AO hs0;have KU:=AO G9;have ab:=hW.szb;have HC:=AO (hW.can _ hW.h0);have RP:=AO hW.h0;have hmul:Aa.wrap (8*(sz:Int))=((8*sz:Nat):Int):=by rw[BV];omega
 obtain⟨aa,zH⟩:=ae (8*sz);rw[<-zH]at hmul;have PF:=AO zH;obtain⟨O,H⟩:=hW.rA _ hW.h0;obtain⟨a0,a1,a2,a3⟩:=O.q4;obtain⟨z0,z1,z2,z3⟩:=H.q4;obtain⟨f0,f1,f2,f3⟩:=H.r4;clear O H;clear hW hs0 G9 zH;go_enter_defers func13,ntmps13
 go_upto_region 1 with(fail)
 rw[<-KU.out,<-Qe.out];clear KU;go_wp2_with fail
 refine HC.out.mono ?_;rintro e w3 ⟨rfl,D9⟩;have HA:=AO (I.out.bA _ _ RP.out D9);clear D9 RP HC;clear a0 a1 a2 a3 z0 z1 z2 z3 f0 f1 f2 f3;have H1:=AO (I.out.arn _ HA.out);have H2:=AO (I.out.left _ HA.out);have H3:=AO (I.out.dev _ HA.out);have H4:=AO (I.out.size _ HA.out);go_wp2_with fail
 refine H1.out.mono ?_;rintro e w4 ⟨rfl,rfl⟩;go_wp2_with fail
 refine H2.out.mono ?_;rintro e w4 ⟨rfl,rfl⟩;go_wp2_with fail
 refine H3.out.mono ?_;rintro e w4 ⟨rfl,rfl⟩;go_wp2_with fail
 refine H4.out.mono ?_;rintro e w4 ⟨rfl,rfl⟩;clear H1 H2 H3 H4;obtain⟨O,H⟩:=I.out.rA _ HA.out;obtain⟨a0,a1,a2,a3⟩:=O.q4;obtain⟨z0,z1,z2,z3⟩:=H.q4;obtain⟨f0,f1,f2,f3⟩:=H.r4;clear O H;by_cases J:lf<aa
 ·have g1:decide (lf<aa)=true:=by simpa using J
  obtain⟨U,Z2⟩:=I.out.room (by rw[<-PF.out];exact J) _ HA.out;have ES:=AO U;have HP:=AO Z2;clear U Z2 J;go_wp2
  have k0:=ES.out.cell 0;have k1:=ES.out.cell 1;have k2:=ES.out.cell 2;have k3:=ES.out.cell 3;simp only[AW,AV]at k0 k1 k2 k3;exact⟨AM #[AL #[(),(),(),()],AA AB 7],by simp[results,Tryz.results13,go_sem,k0,k1,k2,k3],HP.out⟩
 ·have g1:decide (lf<aa)=false:=by simpa using J
  have HL:=AO (I.out.last (by rw[<-PF.out];exact J) _ HA.out);clear J HA z0 z1 z2 z3 f0 f1 f2 f3;go_wp2_with fail
  refine HL.out.mono ?_;rintro e w5 ⟨en,er,rfl,h5⟩;have Q:=AO h5;clear h5 HL a0 a1 a2 a3;obtain⟨O,H⟩:=I.out.rL _ _ _ Q.out;obtain⟨a0,a1,a2,a3⟩:=O.q4;obtain⟨z0,z1,z2,z3⟩:=H.q4;obtain⟨f0,f1,f2,f3⟩:=H.r4;clear O H;by_cases he:er=0
  ·subst he;simp only[Int.ofNat_zero];have HH:=AO (I.out.hold _ _ Q.out);clear Q z0 z1 z2 z3 f0 f1 f2 f3;go_wp2_with fail
   refine HH.out.mono ?_;rintro e w6 ⟨rfl,h6⟩;have HK:=AO (I.out.rks _ _ h6);clear HH a0 a1 a2 a3;obtain⟨O,H⟩:=I.out.rL _ _ _ h6;obtain⟨a0,a1,a2,a3⟩:=O.q4;obtain⟨z0,z1,z2,z3⟩:=H.q4;obtain⟨f0,f1,f2,f3⟩:=H.r4;clear O H;clear h6 z0 z1 z2 z3 f0 f1 f2 f3;go_wp2_with fail
   refine HK.out.mono ?_;rintro e w7 ⟨F,N,K,L,er,rfl,h7⟩;have H:=I.out.rR _ _ _ _ _ _ _ h7;have H9:=AO (I.out.sR _ _ _ _ _ _ h7);obtain⟨z0,z1,z2,z3⟩:=H.q4;obtain⟨f0,f1,f2,f3⟩:=H.r4;clear h7 H HK a0 a1 a2 a3;go_wp2
   refine Ay (f:=36) (args:=#[AI pw,AJ AD 0 0]) a8 (by simp[go_sem]) ?_;refine(ny _ _ _).mono ?_;rintro e u' w9 ⟨rfl,rfl,rfl⟩;have U:=I.out.rR _ _ _ _ _ _ _ H9.out;have Z2:=I.out.pR _ _ _ _ _ _ H9.out;have k0:=U.cell 0;have k1:=U.cell 1;have k2:=U.cell 2;have k3:=U.cell 3;simp only[AW,AV]at k0 k1 k2 k3;exact⟨AM #[AL #[F,N,K,L],er],by simp[results,Tryz.results13,go_sem,k0,k1,k2,k3],Z2⟩
  ·have ad:¬(er:Int)=0:=a5;obtain⟨U,Z2⟩:=I.out.eL _ _ _ Q.out he;have ES:=AO U;have HP:=AO Z2;clear U Z2 he Q;go_wp2
   have k0:=ES.out.cell 0;have k1:=ES.out.cell 1;have k2:=ES.out.cell 2;have k3:=ES.out.cell 3;simp only[AW,AV]at k0 k1 k2 k3;exact⟨AM #[AL #[(),(),(),()],er],by simp[results,Tryz.results13,go_sem,k0,k1,k2,k3],HP.out⟩
section
variable{X:Cx}{os:List DA}{m:Nat}{W:World}
theorem Wd.AO4{N}(h:Wd X os m W)(H:X.n<=N)(e:N+m<=1000000):Wd {X with N:=N} os m W:=by
 obtain⟨G,D,A,S,hw⟩:=h;exact⟨G,D,A,S,{hw with Lx:=⟨H,e⟩}⟩
theorem Wd.nN(h:Wd X os m W):X.n<=X.N:=by
 obtain⟨G,D,A,S,hw⟩:=h;exact hw.Lx.1
def PZ(s0:Nat)(fc cs:List Value):List DA:=[Cs s0 28 fc,Cs (s0+1) 28 cs]
theorem OZ(s0:Nat)(fc cs:List Value):Dn (PZ s0 fc cs):=λq e=>by
 simp[PZ]at e;rcases e with rfl|rfl<;>exact⟨rfl,rfl⟩
theorem bX{F N c:Nat}(h:Wd X os m W):Wd X (os++PZ W [F,N,AA AB 3,c] Z4) m ((W.alloc (AK #[F,N,AA AB 3,c] 28)).alloc (AK #[(),(),(),()] 28)):=by
 have H:∀(w:World) (o:Obj),(w.alloc o).heap.size=w+1:=λw o=>by simp
 have e:=h.new ((AS W W).alloc ao (AK #[F,N,AA AB 3,c] 28)) (heap_alloc_new _ _:Row _ _ 28 [F,N,AA AB 3,c]) ao;have h3:=e.new ((AS _ _).alloc ao (AK #[(),(),(),()] 28)) (heap_alloc_new _ _:Row _ _ 28 Z4) ao;simp only[H,AR,B8,BI]at h3;exact h3
theorem ME{s0 fc cs Z}(h:Wd X (os++PZ s0 fc cs++Z) m W):Row W s0 28 fc/\Row W (s0+1) 28 cs:=
 ⟨h.Eg (by simp[PZ]),h.Eg (by simp[PZ])⟩
theorem Ms{s0 fc cs Z}(e:cs.length=4)(x0 x1 x2 x3:Value)(h:Wd X (os++PZ s0 fc cs++Z) m W):Wd X (os++PZ s0 fc [x0,x1,x2,x3]++Z) m ((((W.setCell (s0+1,0) x0).setCell (s0+1,1) x1).setCell (s0+1,2) x2).setCell (s0+1,3) x3):=by
 have I:∀cs,os++PZ s0 fc cs++Z=(os++[Cs s0 28 fc])++Cs (s0+1) 28 cs::Z:=λcs=>by simp[PZ]
 rw[I]at h⊢;have H:=F4 h (i:=(os++[Cs s0 28 fc]).length) (R:=s0+1) (cs:=cs) (by rw[AX ao,Ap];rfl) e x0 x1 x2 x3;rw[As _ _ ao,Ap]at H;exact H
theorem VE{s0 fc cs Z}(h:Wd X (os++PZ s0 fc cs++Z) m W):Wd X (os++Z) m W:=Wd.Fy _ (OZ _ _ _) h
theorem lI{s0 fc cs}(h:Wd X (os++PZ s0 fc cs) m W):Wd X os m W:=by
 have:=VE (Z:=[]) (by rw[AZ];exact h);rwa [AZ]at this
theorem jw{F N c l}(h:Wd X os m W)(hf:GY F N 3 (Ct X.sz ((3:Nat):Int)) l X.sz)(hm:Da F N 3 (Ct X.sz ((3:Nat):Int)) l X.sz∈os)(hc:l.length=c)(hl:c<=300)(aa:8*X.sz+DC DA.gw os<=X.rm)(NF:X.rm<=1000000)(hn:X.N+m+KM<=1000000):
  Calls AP 13 #[AI X.p.w,AL #[F,N,AA AB 3,c]] W (ox X os l m):=by
 have aI:KM=450000:=rfl;have aB:=h.nN;obtain⟨ZN,aG⟩:∃ZN,ZN+m+KM=1000000:=⟨1000000-(m+KM),a5⟩;obtain⟨Y,hY⟩:∃Y:Cx,Y={X with N:=ZN}:=⟨_,rfl⟩;have ad:Y.N=ZN:=by rw[hY]
 have ar:X.n<=ZN:=a5;have av:ZN+m<=1000000:=a5;have xM:Y.p=X.p:=by rw[hY]
 have J:Y.sz=X.sz:=by rw[hY]
 have ab:Y.rm=X.rm:=by rw[hY]
 have ao:Y.cm=X.cm:=by rw[hY]
 have aD:∀os z n,Rm Y os z n↔Rm X os z n:=λos z n=>by rw[hY];exact BN
 have hy:Wd Y os m W:=by rw[hY];exact h.AO4 ar av
 have Gn:∀os' m' w,Wd Y os' m' w->m'<=m+KM/\Wd X os' m' w:=λos' m' w q=>by
  have hb:=(Wd.bounds q).2;rw[ad]at hb;have q2:=q.ye (N:=X.N) (by rw[hY];exact aB) (by rw[ad];omega);refine⟨a5,?_⟩;rw[hY]at q2;exact q2
 have aH:N<=300:=by have:=hf.bn;have:=Di (Ct X.sz ((3:Nat):Int)) l.length;omega
 obtain⟨s0,hs0⟩:=ae W.heap.size;obtain⟨fc,OI⟩:∃fc:List Value,fc=[AA AB F,AA AB N,AA AB (3:Nat),AA AB c]:=⟨_,rfl⟩;have h2:Wd Y (os++PZ s0 fc Z4) m ((W.alloc (AK #[F,N,AA AB 3,c] 28)).alloc (AK #[(),(),(),()] 28)):=by
  rw[hs0,OI];exact bX hy
 have GZ:∀cs,DC DA.gw (os++PZ s0 fc cs)=DC DA.gw os:=λcs=>by rw[DM,Dq _ (OZ _ _ _)];rfl
 have al:∀cs,Da F N 3 (Ct Y.sz ((3:Nat):Int)) l Y.sz∈os++PZ s0 fc cs:=λcs=>by rw[J];exact List.mem_append_left _ hm
 have Gl:GY F N 3 (Ct Y.sz ((3:Nat):Int)) l Y.sz:=by rw[J];exact hf
 have cG:∀cs er,I9 Y (os++PZ s0 fc cs) l.length er->er=6/\¬X.cm\/er=5/\∀z,¬Rm X os z (MD l.length):=λcs er q=>by
  rcases q with⟨q1,q2⟩|⟨q1,q2⟩
  ·exact .inl ⟨q1,by rw[<-ao];exact q2⟩
  ·exact .inr ⟨q1,λz hz=>q2 z ((aD _ _ _).2 (GF hz (OZ _ _ _)))⟩
 have hr:∀{m w},Wd Y (os++PZ s0 fc Z4) m w->Row w s0 28 [F,N,AA AB 3,c]/\Row w (s0+1) 28 [(),(),(),()]:=λ{m w} q=>by
  have:=ME (Z:=[]) (by rw[AZ];exact q);rw[OI]at this;exact this
 have aw:∀{cs m w} (x0 x1 x2 x3:Value),cs.length=4->Wd Y (os++PZ s0 fc cs) m w->Wd Y (os++PZ s0 fc [x0,x1,x2,x3]) m ((((w.setCell (s0+1,0) x0).setCell (s0+1,1) x1).setCell (s0+1,2) x2).setCell (s0+1,3) x3):=λ{cs m w} x0 x1 x2 x3 aC q=>by
  have:=Ms (Z:=[]) aC x0 x1 x2 x3 (by rw[AZ];exact q);rwa [AZ]at this
 obtain⟨LA,U⟩:∃LA:Nat->Nat->World->Prop,∀en er w,LA en er w↔((er=0/\en=l.countP Iz/\∀t∈l,0<=t.a/\-1<=t.b)\/(er=3/\¬Dh l)\/(er=6/\¬Y.cm))/\Wd Y (os++PZ s0 fc Z4) (m+N+1) w:=⟨_,λ_ _ _=>BN⟩;obtain⟨RK,O⟩:∃RK:Nat->Nat->Nat->Nat->Nat->List Value->World->Prop,∀F2 N2 K L er cs w,RK F2 N2 K L er cs w↔((er=0/\K=2/\∃out m',L=out.length/\GY F2 N2 2 (Ct Y.sz (2:Nat)) out Y.sz/\Dh l/\Nf l out/\Wd Y (os++PZ s0 fc cs++[Da F2 N2 2 (Ct Y.sz (2:Nat)) out Y.sz]) m' w)\/
   (0<er/\(F2=0/\N2=0/\K=0/\L=0)/\(er=3/\¬Gt l\/(er=6/\¬X.cm\/er=5/\∀z,¬Rm X os z (MD l.length)))/\∃m',Wd Y (os++PZ s0 fc cs++[]) m' w)):=⟨_,λ_ _ _ _ _ _ _=>BN⟩
 refine Wb (pw:=X.p.w) (pa:=X.p.a) (pd:=X.p.d) (lf:=X.rm-DC DA.gw os) (sz:=X.sz) hs0 rfl (A:=λw=>Wd Y (os++PZ s0 fc Z4) m w) (LA:=LA) (RK:=RK)
  ⟨h2,?_,?_,?_,?_,?_,?_,?_,?_,?_,?_,?_,?_,?_,?_,?_,?_,?_⟩
 ·intro w q;exact hr q
 ·intro w w' q hb;exact q.below hb
 ·intro w q;rw[<-xM];have aE:2<=Ct Y.sz ((3:Nat):Int):=LS (k:=((3:Nat):Int)) (Wd.bounds hy).1.1 a5;exact SE q rfl (BH Nat.zero_lt_two aE) (by rw[Gl.bn,hc]) a5
 ·intro w q;rw[<-xM];exact L6 q
 ·intro w q;have:=RB q;rw[GZ,ab,xM]at this;exact this
 ·intro w q;rw[<-xM];exact Nm q
 ·intro w q;have:=OQ q;rw[J,xM]at this;exact this
 ·have:=(Wd.bounds hy).1.2;rwa [J]at this
 ·intro aF;omega
 ·intro _ w q;rw[<-xM];refine(jz q Gl (al _) hc (by rw[GZ,J,ab];omega) (by rw[ad];omega)).mono ?_;rintro e w' ⟨n,er,he,H,I⟩;exact⟨n,er,he,(U _ _ _).2 ⟨H,I⟩⟩
 ·intro en er w q;exact hr ((U _ _ _).1 q).2
 ·intro en er w q aA;obtain⟨H,I⟩:=(U _ _ _).1 q;have k3:=aw () () () () rfl I;refine⟨(hr k3).2,?_⟩;obtain⟨k4,k5⟩:=Gn _ _ _ (lI k3);refine .inr ⟨er,_,rfl,?_,k4,k5⟩;rcases H with⟨H,_⟩|⟨H,k6⟩|⟨H,k6⟩
  ·exact absurd H aA
  ·exact .inl ⟨H,λhr=>k6 hr.1⟩
  ·exact .inr (.inl ⟨H,by rw[<-ao];exact k6⟩)
 ·intro en w q;obtain⟨H,I⟩:=(U _ _ _).1 q;obtain⟨i,hi⟩:=BC.1 (al Z4);rw[<-xM];refine(hold_none (k:=3) (c:=c) I hi hf.fst a5).mono ?_;rintro e w' ⟨he,hw⟩;exact⟨he,(U _ _ _).2 ⟨H,hw⟩⟩
 ·intro en w q;obtain⟨H,I⟩:=(U _ _ _).1 q;rcases H with⟨_,k3,k4⟩|⟨H,_⟩|⟨H,_⟩
  ·rw[<-xM];refine(dj I Gl (al _) hc hl k3 (λt ht=>(k4 t ht).1) (λt ht=>(k4 t ht).2) (by rw[GZ,J,ab];exact aa) (by rw[ab];exact NF) (by rw[ad];omega)).mono ?_;rintro e w' (⟨F2,N2,out,m',he,r1,Q,r3,r4⟩|⟨er,m',he,r1,Q,r3⟩)
   ·exact⟨F2,N2,2,out.length,0,he,(O _ _ _ _ _ _ _).2 (.inl ⟨rfl,rfl,out,m',rfl,r1,Q,r3,r4⟩)⟩
   ·refine⟨0,0,0,0,er,he,(O _ _ _ _ _ _ _).2 (.inr ⟨r1,⟨rfl,rfl,rfl,rfl⟩,?_,m',by rw[AZ];exact r3⟩)⟩;rcases Q with Q|Q
    ·exact .inl Q
    ·exact .inr (cG _ _ Q)
  ·omega
  ·omega
 ·intro F2 N2 K L er cs w q;rcases(O _ _ _ _ _ _ _).1 q with⟨_,_,out,m',_,_,_,_,k⟩|⟨_,_,_,m',k⟩
  ·exact(ME k).2
  ·exact(ME k).2
 ·intro F2 N2 K L er w q;rcases(O _ _ _ _ _ _ _).1 q with⟨H,I,out,m',k3,k4,k5,k6,k⟩|⟨H,I,k3,m',k⟩
  ·exact(O _ _ _ _ _ _ _).2 (.inl ⟨H,I,out,m',k3,k4,k5,k6,Ms rfl _ _ _ _ k⟩)
  ·exact(O _ _ _ _ _ _ _).2 (.inr ⟨H,I,k3,m',Ms rfl _ _ _ _ k⟩)
 ·intro F2 N2 K L er w q;rcases(O _ _ _ _ _ _ _).1 q with⟨H,I,out,m',k3,k4,k5,k6,k⟩|⟨H,I,k3,m',k⟩
  ·obtain⟨r1,Q⟩:=Gn _ _ _ (VE k);rw[J]at k4 Q;exact .inl ⟨F2,N2,out,m',by rw[H,I,k3];rfl,k4,k5,k6,r1,Q⟩
  ·obtain⟨r1,Q⟩:=Gn _ _ _ (VE k);rw[AZ]at Q;exact .inr ⟨er,m',by rw[I.1,I.2.1,I.2.2.1,I.2.2.2];rfl,k3,r1,Q⟩
theorem AD7(I f1 J H:Int)(w:World):Calls AP 13 #[AI AD,AL #[I,f1,J,H]] w λe w'=>e=AH (AM #[AL #[(),(),(),()],AA AB 1])/\Below w w w':=by
 by_cases h:J=3
 ·subst h;exact Ry _ I f1 H λu _=>Zn I f1 3 H u
 ·exact Rx _ I f1 J H h
theorem qo(h:Wd X os m W)(O f1 I H:Int)(U:H<=9223372036854775807)(J:I≠3\/H<0\/(2<=Ct X.sz I/\f1≠(Cr (Ct X.sz I) H.toNat:Nat))):Calls AP 13 #[AI X.p.w,AL #[O,f1,I,H]] W λe w'=>e=AH (AM #[AL #[(),(),(),()],AA AB 1])/\Below W W w':=by
 by_cases Q:I=3
 ·subst Q;exact Ry _ O f1 H λu hb=>Zo (h.below hb) U (.inr (J.resolve_left λh=>h rfl))
 ·exact Rx _ O f1 I H Q
theorem p6{F N c:Nat}(h:Wd X os m W)(U:N=Cr (Ct X.sz ((3:Nat):Int)) c)(hc:c<=300)(H:X.rm-DC DA.gw os<8*X.sz):Calls AP 13 #[AI X.p.w,AL #[F,N,AA AB 3,c]] W λe w'=>e=AH (AM #[AL #[(),(),(),()],AA AB 7])/\Below W W w':=by
 obtain⟨s0,hs0⟩:=ae W.heap.size;obtain⟨fc,O⟩:∃fc:List Value,fc=[AA AB F,AA AB N,AA AB (3:Nat),AA AB c]:=⟨_,rfl⟩;have h2:Wd X (os++PZ s0 fc Z4) m ((W.alloc (AK #[F,N,AA AB 3,c] 28)).alloc (AK #[(),(),(),()] 28)):=by
  rw[hs0,O];exact bX h
 have DN:Below W W ((W.alloc (AK #[F,N,AA AB 3,c] 28)).alloc (AK #[(),(),(),()] 28)):=
  ((AS W.heap.size W).alloc ao _).alloc a8 _
 have GZ:DC DA.gw (os++PZ s0 fc Z4)=DC DA.gw os:=by rw[DM,Dq _ (OZ _ _ _)];rfl
 have I:=(Wd.bounds h).1;have Q:∀{m w},Wd X (os++PZ s0 fc Z4) m w->Row w s0 28 [F,N,AA AB 3,c]/\Row w (s0+1) 28 [(),(),(),()]:=λ{m w} q=>by
  have:=ME (Z:=[]) (by rw[AZ];exact q);rw[O]at this;exact this
 refine Wb (pw:=X.p.w) (pa:=X.p.a) (pd:=X.p.d) (lf:=X.rm-DC DA.gw os) (sz:=X.sz) hs0 rfl (A:=λw=>Wd X (os++PZ s0 fc Z4) m w/\Below W W w) (LA:=λ_ _ _=>False) (RK:=λ_ _ _ _ _ _ _=>False)
  ⟨⟨h2,DN⟩,λw q=>Q q.1,λw w' q hb=>⟨q.1.below hb,q.2.trans (hb.mono q.2.size)⟩,λw q=>SE q.1 rfl (BH Nat.zero_lt_two (LS (k:=((3:Nat):Int)) I.1 a5)) U a5,λw q=>L6 q.1,λw q=>by have:=RB q.1;rw[GZ]at this;exact this,λw q=>Nm q.1,λw q=>OQ q.1,I.2,λ_ w q=>?_,λJ=>absurd H J,λ_ _ _ q=>q.elim,λ_ _ _ q=>q.elim,λ_ _ q=>q.elim,λ_ _ q=>q.elim,λ_ _ _ _ _ _ _ q=>q.elim,λ_ _ _ _ _ _ q=>q.elim,λ_ _ _ _ _ _ q=>q.elim⟩
 have k3:=Ms (Z:=[]) rfl () () () () (by rw[AZ];exact q.1);refine⟨(ME k3).2,rfl,?_⟩;have hle:W<=s0+1:=a5;exact(((q.2.setCell hle _).setCell hle _).setCell hle _).setCell hle _
end
theorem AF1{X b os}(hS:X.S0=Hi 0 b)(E:List (Nat×Nat)){q n}(I:∀e∈E,e.2<=q)(H:∀a∈os,a.ex.2=0\/a.ex∈E)(hb:E.length*(n+q)+n<=b):∃z,Rm X os z n:=sI hS E I rfl H hb
def l5:List Cv:=[⟨5,-1,2,0,0⟩]
theorem AF6:∀u∈l5,EE u:=λu hu=>by
 simp[l5]at hu;subst hu;intro x e;simp[Cv.D8]at e;rcases e with rfl|rfl|rfl|rfl|rfl<;>exact Fg.of a6 a6
theorem fu:Gt l5:=by
 have H:pq l5 λ_=>5:=⟨λi j hi e _=>by simp[l5]at hi e;omega,λ_ _=>by decide,λi t h=>by
  have:=NY h;simp[l5]at this;subst this;simp[l5]at h;rw[<-h],λi t h=>by
  have:=NY h;simp[l5]at this;subst this;simp[l5]at h;exact .inl (by rw[<-h])⟩
 exact H.ZX
theorem ZR{W b n l}(h:Row W b 47 (EK l))(e:l.length=n)(hm:n<=1000)(J:∀u∈l,EE u):Lb W W b n l:=by
 have I:W.ownsRow 0 47 5 (AJ b n n) n (EK l):=⟨by rw[Kw,e],.inr ⟨b,n,(EK l).toArray,rfl,Aq _,h,AQ _,by unfold maxLen;omega,by simp[Kw,e],by
  have:=Kw l;simp;exact Ao a5⟩⟩
 obtain⟨A,c,he,H,_⟩:=Rz I J;injection he with O U Q
 subst O;exact H
theorem xe(w:World):Calls AP 10 #[] w λe w'=>e=AH true/\Below w w w':=by
 have HW:=AO (Yz 9 a5 w);go_enter func10,ntmps10
 go_wp2_with fail
 refine HW.out.mono ?_;rintro e w1 ⟨p,G,rfl,hs,hG,hb⟩;obtain⟨X,Q⟩:=ae (cxL w p 90 10 6000 True 0);have h1:Wd X [] 0 w1:=by rw[Q];exact oO hs hG hb a5 a5
 have O:=h1.new ((AS w1 w1).alloc ao (AK #[AA AB 5,AA AB (-1),AA AB 2,(),()] 47)) (heap_alloc_new _ _:Row _ _ 47 (EK l5)) ao;have O:Wd X [Cs w1 47 (EK l5)] 0 (w1.alloc (AK #[AA AB 5,AA AB (-1),AA AB 2,(),()] 47)):=O;have H:Hid (X.p=p/\X.sz=10/\X.rm=90/\X.S0=Hi 0 6000/\X.cm/\X.N=0/\X.w0=w):=by rw[Q];exact⟨rfl,rfl,rfl,rfl,trivial,rfl,rfl⟩
 have HL:Hid (Calls AP 12 #[AI p.w,AA AB 3,AJ w1 1 1] (w1.alloc (AK #[AA AB 5,AA AB (-1),AA AB 2,(),()] 47)) λe w'=>
   ∃F N:Nat,e=AH (AM #[AL #[F,N,AA AB 3,AA AB 1],()])/\GY F N 3 (Ct X.sz ((3:Nat):Int)) l5 X.sz/\Wd X [Cs w1.heap.size 47 (EK l5),Da F N 3 (Ct X.sz ((3:Nat):Int)) l5 X.sz] (0+N) w'):=by
  have:=yO (k:=3) (n:=1) (c:=1) (A:=AE w1) O H.out.2.2.2.2.1 a5 (λz m' W' q=>ZR (q.row (i:=0) a8) rfl a5 AF6) a6 a6 (by rw[H.out.2.1,H.out.2.2.1];show 10+0<=90;omega) (by rw[H.out.2.2.2.2.2.1];show 0+0+1+1<=1000000;omega) (AF1 H.out.2.2.2.1 [] (q:=0) (λe he=>(by cases he)) (λa I=>.inl (by simp at I;subst I;rfl)) (by have h:=Di (Ct X.sz ((3:Nat):Int)) l5.length;have e:l5.length=1:=rfl;rw[e]at h⊢;exact Af (show 0* _+ _<=1 by rw[CS,BL];exact h) a5));rw[H.out.1]at this;exact this
 clear hs hG hb HW h1 O Q;go_wp2_with fail
 refine HL.out.mono ?_;rintro e w2 ⟨F,N,rfl,U,GK⟩;have J:Hid (∀W,Below w2 w2 W->Calls AP 13 #[AI p.w,AL #[F,N,AA AB 3,AA AB 1]] W λe w'=>
   ∃F' N':Nat,e=AH (AM #[AL #[F',N',AA AB 2,AA AB 1],()])/\Below w.heap.size w w'):=λW hb=>by
  have hN:N<=1:=by rw[U.bn];exact Di _ _
  have h9:=jw (GK.below hb) U (BB _ Ax) (c:=1) rfl a5 (by rw[H.out.2.1,H.out.2.2.1];show 8*10+0<=90;omega) (by rw[H.out.2.2.1];omega) (by rw[H.out.2.2.2.2.2.1];unfold KM;omega);rw[H.out.1]at h9;refine h9.mono ?_;rintro e w' hr;obtain⟨F',N',out,m',he,_,_,ho,_,hw⟩:=sK hr fu H.out.2.2.2.2.1 (AF1 H.out.2.2.2.1 [(F,N)] (q:=1) (λe he=>by simp at he;subst he;exact hN) (λa I=>by
   simp at I;rcases I with rfl|rfl
   ·exact .inl rfl
   ·exact .inr (by simp[Da])) (by have e:l5.length=1:=rfl;simp[MD,e]))
  have Q0:=hw.Tw;rw[H.out.2.2.2.2.2.2]at Q0;have hlen:out.length=1:=ho.len;rw[hlen]at he;exact⟨F',N',he,Q0⟩
 have TX:=GK.size;clear HL U GK H TX;go_wp2_with fail
 refine(J.out _ ((AS _ _).alloc ao _)).mono ?_;rintro e w4 ⟨F',N',rfl,IX⟩;have Qi:=AO (IX.alloc IX.size (AK #[F',N',AA AB 2,AA AB 1] 28));clear IX J;go_wp2
 go_ret
 exact⟨rfl,Qi.out⟩
section
variable{X:Cx}{os:List DA}{m:Nat}{W:World}
def Tl(bs:Nat->Nat):Nat->Nat
 |0=>0
 |i+1=>Tl bs i+bs i
theorem xZ{rb n c:Nat}{bs}(h:Wd X os m W)(hS:X.S0=Hi 0 6000)(GZ:DC DA.gw os=0)(Q:DC DA.xw os=Tl bs n)(hn:n<=10)(ab:∀i,i<n->bs i<=6000/\W.cell? (rb,i*4+1)=AE (AA AB (bs i:Nat)))(I:0<n->rb<W):
  Calls AP 15 #[AI X.p.w,AJ rb n c] W λe w'=>e=AH true/\Wd X os m w':=by
 have hle:Tl bs n<=6000:=by
  obtain⟨G,D,A,S,hF⟩:=id h;have H:=hF.sum;rw[hS,UG]at H;omega
 have Xl:∀i j,i<=j->Tl bs i<=Tl bs j:=λi j Il=>by
  induction j with
  |zero=>rw[show i=0 by omega];exact AQ _
  |succ j ih=>
   rcases Am i (j+1)with H|H
   ·exact Af (ih a5) (Nat.le_add_right _ _)
   ·rw[show i=j+1 by omega];exact AQ _
 have jk:=AO (L6 h);have ad:Hid (Calls AP 22 #[AI X.p.a] W λe w'=>e=AH ()/\w'=W):=by
  have:=qj h;rw[GZ]at this;exact this
 have V5:=AO (Nl h);have Th:Hid (Calls AP 43 #[AI X.p.s] W λe w'=>e=AH ((6000-Tl bs n:Nat):Int)/\Wd X os m w'):=by
  have:=jx h;rw[hS,UG,Q]at this;exact this
 have ar:=AO ab;have dQ:=AO I;have ao:=AO Xl;have jY:=AO hle;clear h hS GZ Q ab Xl hle I;go_enter func15,ntmps15
 go_wp2_with fail
 go_loopw [5,6] (λsv iv wr=>∃i:Nat,i<=n/\iv=AA AB (i:Int)/\sv=AA AB (Tl bs i:Nat)/\wr=W) (λ_ iv _=>n-(BF iv).toNat)
 case atStart=>exact⟨0,Aq _,rfl,rfl,rfl⟩
 case round=>
  obtain⟨i,hi,rfl,rfl,rfl⟩:=hrel;by_cases aa:i<n
  ·have g0:decide ((i:Int)<(n:Int))=true:=by simpa using aa
   have FM:(0:Int)<=(i:Int):=a5;have cS:(i:Int)<(n:Int):=a5;obtain⟨hb,q1⟩:=ar.out i aa;have I:=dQ.out a5;have Gg:=ao.out i n hi;have Gk:=jY.out;obtain⟨s,O⟩:=ae (Tl bs i);obtain⟨b,J⟩:=ae (bs i);obtain⟨t,ht⟩:=ae (s+b);have HT:Hid (Tl bs (i+1)=t):=by unfold Hid;rw[ht,O,J];rfl
   rw[<-J]at q1 hb;rw[<-O]at Gg⊢;have s1:(s:Int)+(b:Int)=(t:Int):=a5;have wL:t<=20000:=a5;clear O J ht Gg Gk;go_wp2
   go_roundw
   case rel=>exact⟨i+1,a5,by go_num,by rw[HT.out],by trivial⟩
   case measure=>simp[BF];omega
  ·obtain rfl:i=n:=a5;have g0:decide ((i:Int)<(i:Int))=false:=a8;have Gk:=jY.out;obtain⟨s,O⟩:=ae (Tl bs i);obtain⟨d,hd⟩:=ae (6000-s);rw[<-O]at Th Gk⊢;rw[<-hd]at Th;have s1:(6000:Int)-(s:Int)=(d:Int):=a5;clear O hd;go_wp2_with fail
   refine jk.out.mono ?_;rintro e w1 ⟨rfl,rfl⟩;go_wp2_with fail
   refine ad.out.mono ?_;rintro e w1 ⟨rfl,rfl⟩;go_wp2_with fail
   refine V5.out.mono ?_;rintro e w1 ⟨rfl,rfl⟩;go_wp2_with fail
   refine Th.out.mono ?_;rintro e w1 ⟨rfl,H⟩;have H1:=AO H;have V9:=AO (L6 H);obtain⟨q,hq,U⟩:=qp H;have al:=AO U;have YO:=AO (qn H);have gq:decide ((q:Int)<=(X.rm:Int))=true:=by simpa using hq
   have av:decide (q<=X.rm)=true:=by simpa using hq
   clear H U hq;go_wp2_with fail
   refine V9.out.mono ?_;rintro e w2 ⟨rfl,rfl⟩;go_wp2_with fail
   refine al.out.mono ?_;rintro e w2 ⟨rfl,rfl⟩;go_wp2_with fail
   refine V9.out.mono ?_;rintro e w2 ⟨rfl,rfl⟩;go_wp2_with fail
   refine YO.out.mono ?_;rintro e w2 ⟨rfl,rfl⟩;go_wp2
   go_ret
   exact⟨rfl,H1.out⟩
end
section
variable{X:Cx}{os:List DA}{m i:Nat}{W W':World}{l:List Cv}{v:Value}
theorem Wd.AY5(hw:Wd X os m W)(hb:Below W W W'){n}(H:W'.ownsRow W 47 5 v n (EK l))(Q:l.length=n):Wd X (os++[Uz X v l]) m W':=by
 subst Q;have J:W'.ownsRow X.w0.heap.size 47 5 v l.length (EK l):=fM H hw.size;have I:=hw.grow.Of (i:=os.length) (a:=Dt) (a':=Uz X v l) (W':=W') (R:=λ_=>False) (VT os) (DG.DB hb _) (λk e=>e.elim) Y8 J (λk e=>by
  obtain⟨cs,O⟩:=Y9 (X:=X) (v:=v) (l:=l) J e;refine⟨.inr ?_,O.lt⟩;obtain⟨_,⟨h4,_⟩|⟨gl,c,c2,h4,h5,_⟩⟩:=H
  ·have e:v.ownBlock=AE k:=e;rw[h4]at e;cases e
  ·have e:v.ownBlock=AE k:=e;rw[h4]at e;have e:gl=k:=by injection e
   omega) rfl rfl (λ_ _=>trivial)
 rw[GP]at I;exact I
end
def Iw(L:List Nat)(q:Nat):Nat:=(L.take q).sum
theorem Pc(L:List Nat):Iw L 0=0:=by unfold Iw;simp
theorem JR(L:List Nat){q}(e:q<L.length):Iw L (q+1)=Iw L q+L.getD q 0:=by
 unfold Iw;rw[Bi,AT,AU e,List.sum_append];simp
theorem sN(L:List Nat):∀{q r},q<=r->Iw L q<=Iw L r:=by
 intro q r h
 induction r with
 |zero=>obtain rfl:q=0:=a5;exact AQ _
 |succ r ih=>
  rcases Am q (r+1)with I|I
  ·have:=ih a5;rcases Am r L.length with H|H
   ·rw[JR L H];omega
   ·have e:Iw L (r+1)=Iw L r:=by
     unfold Iw;rw[Ao a5,Ao a5]
    omega
  ·obtain rfl:q=r+1:=a5;exact AQ _
structure CI (p s:Nat) (L:List Nat) (i k:Nat) (out:List Cv):Prop where
 len:out.length=Iw L i+k
 a:∀(j:Nat) (t:Cv),out[j]?=AE t->t.a=(Xa p s j:Nat)
 b:∀(j:Nat) (t:Cv),out[j]?=AE t->(t.b=-1/\∃q,j+1=Iw L q)\/(t.b=(Xa p s (j+1):Nat)/\(j+1<out.length\/k<L.getD i 0))
 w:∀t∈out,t.d=0/\t.e=0/\Fg t.c
section
variable{p s i k:Nat}{L:List Nat}{out:List Cv}
theorem CI.zero:CI p s L 0 0 []:=⟨by rw[Pc];rfl,λj t h=>by simp at h,λj t h=>by simp at h,λt h=>(by cases h)⟩
theorem Wm{j t u}(h:(out++[t])[j]?=AE u):(j<out.length/\out[j]?=AE u)\/(j=out.length/\u=t):=by
 rcases Am j out.length with e|e
 ·rw[Al e]at h;exact .inl ⟨e,h⟩
 ·rw[AX e]at h;have H:j-out.length<[t].length:=NY h;simp at H;have:j=out.length:=a5;subst this;rw[Ap]at h;simp at h;exact .inr ⟨rfl,h.symm⟩
theorem CI.push(h:CI p s L i k out)(hi:i<L.length)(O:k<L.getD i 0){t:Cv}(J:t.a=(Xa p s out.length:Nat))(hb:t.b=if k+1<L.getD i 0 then ((Xa p s (out.length+1):Nat):Int)else -1)(hw:t.d=0/\t.e=0/\Fg t.c):CI p s L i (k+1) (out++[t]):=by
 refine⟨by rw[AY,h.len];rfl,λj u hu=>?_,λj u hu=>?_,λu hu=>?_⟩
 ·rcases Wm hu with⟨_,e⟩|⟨rfl,rfl⟩
  ·exact h.a j u e
  ·exact J
 ·rcases Wm hu with⟨hj,e⟩|⟨rfl,rfl⟩
  ·rcases h.b j u e with H|⟨H,_⟩
   ·exact .inl H
   ·exact .inr ⟨H,.inl (by rw[AY];show j+1<out.length+1;omega)⟩
  ·rw[hb];by_cases I:k+1<L.getD i 0
   ·rw[if_pos I];exact .inr ⟨rfl,.inr I⟩
   ·rw[if_neg I];refine .inl ⟨rfl,i+1,?_⟩;rw[JR L hi,h.len];omega
 ·rcases Ag.1 hu with e|e
  ·exact h.w u e
  ·simp at e;subst e;exact hw
theorem CI.next(h:CI p s L i k out)(hi:i<L.length)(I:k=L.getD i 0):CI p s L (i+1) 0 out:=
 ⟨by rw[JR L hi,h.len,I];rfl,h.a,λj t H=>by
  rcases h.b j t H with e|⟨e,J⟩
  ·exact .inl e
  ·exact .inr ⟨e,J.elim .inl λh3=>by omega⟩,h.w⟩
theorem CI.chn(h:CI p s L L.length 0 out)(hp:jQ p)(J:0<s)(I:s<p)(O:out.length<p):pq out λj=>(Xa p s j:Nat):=
 ⟨λi j hi Q e=>tL hp J I a5 a5 a5,λi _=>by omega,h.a,λi t H=>by
  rcases h.b i t H with⟨h2,_⟩|⟨h2,h3⟩
  ·exact .inl h2
  ·refine .inr ⟨h3.elim id λh4=>?_,h2⟩;rw[AT,BG ao]at h4;exact absurd h4 a8⟩
theorem Zu{n}(h:0<p):Xa p s n<p:=Bw _ h
end
def p7(zs:List Nat):List Nat:=zs.map λz=>z%60
theorem bR(e:List Nat):(p7 e).length=e.length:=by unfold p7;simp
theorem kJ(e:List Nat)(i:Nat)(hi:i<e.length):(p7 e).getD i 0=e.getD i 0%60:=by
 unfold p7;rw[AT,Bd,AT,AU hi];rfl
theorem bg(H:List Nat):∀q,Iw (p7 H) q<=59*q
 |0=>by rw[Pc];omega
 |q+1=>by
  have I:=bg H q;rcases Am q (p7 H).length with h|h
  ·have J:=bR H;rw[JR _ h,kJ H q a5];omega
  ·have e:Iw (p7 H) (q+1)=Iw (p7 H) q:=by
    unfold Iw;rw[Ao a5,Ao a5]
   omega
def AO0(w:World)(L:List Nat)(e:Ending)(w':World):Prop:=
 ∃(A:Option Addr) (c p s:Nat) (out:List Cv),e=AH (AJ A out.length c)/\w'.ownsRow w 47 5 (AJ A out.length c) out.length (EK out)/\CI p s L L.length 0 out/\jQ p/\0<s/\s<p/\p<=241/\out.length<p/\Below w w w'
theorem AA8{w A0 A2}{e c0 n2 c2 by_:Nat}{zs ws}(hz:Reads .u8 w w A0 e zs)(hw:OC w w A2 n2 ws)(cO:e<=4)(uD:by_<=65535):
  Calls AP 18 #[AJ A0 e c0,.int .u16 by_,AJ A2 n2 c2] w (AO0 w (p7 zs)):=by
 obtain⟨L,hL⟩:=ae (p7 zs);have a9:zs.length=e:=hz.1;have NB:Hid (L.length=e):=by unfold Hid;rw[hL,bR];exact a9
 have HZ:Hid (∀W,Below w.heap.size w W->∀i,i<e->∃b off v r:Nat,A0=AE ⟨b,off,AD⟩/\W.cell? ⟨b,off+i,AD⟩=AE (.int .u8 (v:Int))/\Cp (v:Int) 60=(r:Int)/\r<60/\r=L.getD i 0):=λW hb i hi=>by
  obtain⟨b,off,v,hA,_,hc,_,hv⟩:=((hz.GS hb).mono hb.size).at_ hi;refine⟨b,off,v,v%60,hA,hc,rfl,Bw _ a5,?_⟩;rw[hL,kJ zs i a5,<-hv.out]
 have HW:Hid (∀W,Below w.heap.size w W->∀i,i<n2->∃b off u,A2=AE ⟨b,off,AD⟩/\W.cell? ⟨b,off+i,AD⟩=AE (AA AB u)/\Fg u):=λW hb i hi=>by
  obtain⟨b,off,u,hA,_,hc,hu,_⟩:=(hw.GS hb).at_ hi;exact⟨b,off,u,hA,hc,hu⟩
 have bA:Hid (∀q,Iw L q<=59*q):=by unfold Hid;rw[hL];exact bg zs
 rw[<-hL];generalize Gr:AO0 w L=Dd;replace Gr:=AO Gr;clear hz hw hL a9;go_enter func18,ntmps18
 go_wp2_with fail
 go_loop [7,8] (λav iv=>∃i a:Nat,i<=e/\a<=236/\av=AA AB (a:Int)/\iv=AA AB (i:Int)/\Hid (a=Iw L i)) (λ_ iv=>e-(BF iv).toNat)
 case atStart=>exact⟨0,0,Aq _,a5,rfl,rfl,(Pc L).symm⟩
 case round=>
  obtain⟨i,a,hi,ha,rfl,rfl,HA⟩:=hrel;by_cases aG:i<e
  ·obtain⟨b,off,v,r,rfl,hc,hr,bG,ar⟩:=HZ.out w (AS _ _) i aG;have g0:decide ((i:Int)<(e:Int))=true:=by simp;omega
   have i0:(0:Int)<=(i:Int):=a5;have i1:(i:Int)<(e:Int):=a5;obtain⟨a2,QV⟩:=ae (a+r);have Ku:(a:Int)+(r:Int)=(a2:Int):=a5;have QM:Aa.wrap (r:Int)=(r:Int):=Ah _ a5;have V8:Hid (a2=Iw L (i+1)):=by unfold Hid;rw[JR L (by have:=NB.out;omega),<-HA.out,<-ar];exact QV
   have br:a2<=236:=by have:=bA.out (i+1);rw[<-V8.out]at this;omega
   clear QV ar;go_wp2
   go_round
   case rel=>exact⟨i+1,a2,a5,br,by go_num,by go_num,V8.out⟩
   case measure=>simp[BF];omega
  ·obtain rfl:i=e:=a5;have g0:decide ((i:Int)<(i:Int))=false:=a8;obtain⟨a1,aK⟩:=ae (a+1);have Ku:(a:Int)+1=(a1:Int):=a5;have V9:=AO aK;have bq:a1<=237:=a5;clear aK;go_wp2_with fail
   go_loop [9,10] (λpv bv=>∃(p:Nat) (pb:Bool),pv=AA AB (p:Int)/\bv=.bool pb/\p<=241/\a1<=p/\Hid (pb=true->jQ p/\a1<p)/\Hid (pb=false->p=a1\/¬jQ p)) (λpv _=>241-(BF pv).toNat)
   case atStart=>exact⟨a1,false,rfl,rfl,a5,AQ _,λh=>(by cases h),λ_=>.inl rfl⟩
   case round=>
    obtain⟨p,pb,rfl,rfl,hp,b5,HT,HF⟩:=hrel
    cases pb
    ·have bo:p<241:=by
      rcases Am p 241 with h|h
      ·exact h
      ·obtain rfl:p=241:=a5;rcases HF.out rfl with h1|h1
       ·omega
       ·exact absurd tH h1
     obtain⟨O,a3⟩:=ae (p+1);have Ov:(p:Int)+1=(O:Int):=a5;have Ur:=AO a3;have a0:O<=241:=a5;clear a3 HT HF;go_wp2_with fail
     go_loop [10,11] (λbv kv=>∃(k:Nat) (pb:Bool),bv=.bool pb/\kv=AA AB (k:Int)/\2<=k/\k<=1000/\Hid (pb=true->∀j,2<=j->j<k->O%j≠0)/\Hid (pb=false->¬jQ O)) (λ_ kv=>1000-(BF kv).toNat)
     case atStart=>exact⟨2,true,rfl,rfl,a5,a5,λ_ j h1 h2=>by omega,λh=>(by cases h)⟩
     case round=>
      obtain⟨k,pb,rfl,rfl,hk,b4,HT,HF⟩:=hrel;by_cases bp:k<O
      ·have gk:decide ((k:Int)<(O:Int))=true:=by simp;omega
       cases pb
       ·have RA:=AO (HF.out rfl);clear HT HF;go_wp2
        go_round
        case rel=>exact⟨O,false,rfl,rfl,a5,by have:=Ur.out;omega,λh=>(by cases h),λ_=>.inr RA.out⟩
        case measure=>have:=Ur.out;simp[BF];omega
       ·obtain⟨r,hr⟩:=ae (O%k);have Q:Cp (O:Int) (k:Int)=(r:Int):=by rw[hr];rfl
        have WJ:¬((k:Int)=0):=a5;have b3:r<=241:=by rw[hr];exact Af (Nat.mod_le _ _) a0
        by_cases EU:r=0
        ·have ge:((r:Int) !=0)=false:=by simp[EU]
         have RA:Hid (¬jQ O):=λh=>h k hk bp (by rw[<-hr];exact EU);clear HT HF hr EU;go_wp2
         go_round
         case rel=>exact⟨k+1,false,rfl,by go_num,a5,a5,λh=>(by cases h),λ_=>RA.out⟩
         case measure=>simp[BF];omega
        ·have ge:((r:Int) !=0)=true:=by simp;omega
         have bu:Hid (∀j,2<=j->j<k+1->O%j≠0):=λj h1 h2=>by
          rcases Am j k with h|h
          ·exact HT.out rfl j h1 h
          ·obtain rfl:j=k:=a5;rw[<-hr];exact EU
         clear HT HF hr EU;go_wp2
         go_round
         case rel=>exact⟨k+1,true,rfl,by go_num,a5,a5,λ_=>bu.out,λh=>(by cases h)⟩
         case measure=>simp[BF];omega
      ·have gk:decide ((k:Int)<(O:Int))=false:=by simp;omega
       have HX:Hid (pb=true->jQ O/\a1<O):=λh=>⟨λj h1 h2=>HT.out h j h1 a5,by have:=Ur.out;omega⟩;have HY:Hid (pb=false->O=a1\/¬jQ O):=λh=>.inr (HF.out h);clear HT HF;go_wp2
       go_round
       case rel=>exact⟨O,pb,rfl,rfl,a0,by have:=Ur.out;omega,HX.out,HY.out⟩
       case measure=>have:=Ur.out;simp[BF];omega
    ·obtain⟨bj,bE⟩:=HT.out rfl;have bs:=HA.out;have bC:=AO bj;obtain⟨p9,Z2⟩:=ae (p-1);obtain⟨r9,Dx⟩:=ae (by_%p9);obtain⟨s,hs⟩:=ae (1+r9);have bI:r9<p9:=by rw[Dx];exact Bw _ a5
     have b0:(p:Int)-1=(p9:Int):=a5;have bJ:Cp (by_:Int) (p9:Int)=(r9:Int):=by rw[Dx];rfl
     have bF:¬((p9:Int)=0):=a5;have bW:1+(r9:Int)=(s:Int):=a5;have bn:Aa.wrap (by_:Int)=(by_:Int):=Ah _ a5;have HS:Hid (0<s/\s<p):=⟨a5,a5⟩;have JC:Hid (Iw L i+1<p):=by have:=V9.out;unfold Hid;omega
     have Gk:s<=241:=a5;have bo:2<=p:=a5;have Z3:¬((p:Int)=0):=a5;have bD:Hid (Iw L i<=236):=by have:=HA.out;unfold Hid;omega
     clear HT HF bj bE Z2 Dx hs bs HA V9 ha bq Ku;go_wp2_with fail
     generalize i=e at*
     clear b0 bJ bF bW bn bI;go_loopw [13,14,15] (λov nv iv wr=>∃(i n c:Nat) (A:Option Addr) (out:List Cv),i<=e/\ov=AJ A n c/\nv=AA AB (n:Int)/\iv=AA AB (i:Int)/\Hid (Below w.heap.size w wr)/\Hid (wr.ownsRow w.heap.size 47 5 (AJ A n c) n (EK out))/\Hid (CI p s L i 0 out)/\Hid (out.length=n)) (λ_ _ iv _=>e-(BF iv).toNat)
     case atStart=>exact⟨0,0,0,AD,[],Aq _,rfl,rfl,rfl,AS _ _,XF _ _ _,CI.zero,rfl⟩
     case round=>
      obtain⟨i,n,c,A,out,hi,rfl,rfl,rfl,J,JB,aI,I⟩:=hrel;by_cases aG:i<e
      ·obtain⟨b,off,v,r,rfl,hc,hr,bG,ar⟩:=HZ.out wr J.out i aG;have g0:decide ((i:Int)<(e:Int))=true:=by simp;omega
       have i0:(0:Int)<=(i:Int):=a5;have i1:(i:Int)<(e:Int):=a5;have QM:Aa.wrap (r:Int)=(r:Int):=Ah _ a5;have Yl:=AO ar;have bt:Hid (Iw L i+r<=236):=by
        have h1:=JR L (show i<L.length by have:=NB.out;omega);have h2:=sN L (show i+1<=e by omega);have:=bD.out;rw[<-ar]at h1;unfold Hid;omega
       clear ar;go_wp2_with fail
       clear hc hr i1 QM;go_loopw [13,14,17] (λov nv kv wr=>∃(k n c:Nat) (A:Option Addr) (out:List Cv),k<=r/\ov=AJ A n c/\nv=AA AB (n:Int)/\kv=AA AB (k:Int)/\Hid (Below w.heap.size w wr)/\Hid (wr.ownsRow w.heap.size 47 5 (AJ A n c) n (EK out))/\Hid (CI p s L i k out)/\Hid (out.length=n)) (λ_ _ kv _=>r-(BF kv).toNat)
       case atStart=>exact⟨0,n,c,A,out,Aq _,rfl,rfl,rfl,J.out,JB.out,aI.out,I.out⟩
       case round=>
        clear J JB aI I;obtain⟨k,n,c,A,out,hk,rfl,rfl,rfl,J,JB,aw,I⟩:=hrel;by_cases aD:k<r
        ·have gk:decide ((k:Int)<(r:Int))=true:=by simp;omega
         have hnb:n<=236:=by have h1:=aw.out.len;have:=I.out;have:=bt.out;omega
         obtain⟨n1,Pp⟩:=ae (n+1);obtain⟨m2,a7⟩:=ae (n+2);obtain⟨u,hu⟩:=ae (n1*s);obtain⟨u2,Ph⟩:=ae (m2*s);obtain⟨d,hd⟩:=ae (u%p);obtain⟨U,nQ⟩:=ae (u2%p);obtain⟨k1,tw⟩:=ae (k+1);have aE:(n:Int)+1=(n1:Int):=a5;have ba:(n:Int)+2=(m2:Int):=a5;have b6:(k:Int)+1=(k1:Int):=a5;have aC:(n1:Int)*(s:Int)=(u:Int):=by rw[hu];exact(Be _ _).symm
         have aX:(m2:Int)*(s:Int)=(u2:Int):=by rw[Ph];exact(Be _ _).symm
         have ub:u<=100000:=by rw[hu];exact Af (Nat.mul_le_mul (show n1<=240 by omega) Gk) a6
         have b1:u2<=100000:=by rw[Ph];exact Af (Nat.mul_le_mul (show m2<=240 by omega) Gk) a6
         have aB:Cp (u:Int) (p:Int)=(d:Int):=by rw[hd];rfl
         have aJ:Cp (u2:Int) (p:Int)=(U:Int):=by rw[nQ];rfl
         have HD:Hid ((d:Int)=(Xa p s n:Nat)):=by unfold Hid Xa;rw[hd,hu,Pp]
         have bc:Hid ((U:Int)=(Xa p s (n+1):Nat)):=by unfold Hid Xa;rw[nQ,Ph,a7]
         have aY:=(AS wr wr).alloc ao (AK #[d,AA AB (-1),AA AB 1,(),()] 47);have FK:Row (wr.alloc (AK #[d,AA AB (-1),AA AB 1,(),()] 47)) wr 47 [d,AA AB (-1),AA AB 1,(),()]:=heap_alloc_new _ _;obtain⟨xb,M4⟩:=ae wr.heap.size;have aF:Hid (wr<=xb):=Nat.le_of_eq M4.symm;rw[<-M4]at FK;have xp:=AO aY;have Gb:=AO FK;have bb:=AO M4;have jD:=AO tw;clear hu Ph hd nQ Pp a7 aY FK M4 tw;go_upto_region 26 with(fail)
         rw[<-bb.out];clear bb;generalize wr.alloc (AK #[d,AA AB (-1),AA AB 1,(),()] 47)=w3 at*
         by_cases hb:k1<r
         ·by_cases NI:n<n2
          ·have gb:decide ((k1:Int)<(r:Int))=true:=decide_eq_true (Int.ofNat_lt.2 hb);have gc:decide ((n:Int)<(n2:Int))=true:=decide_eq_true (Int.ofNat_lt.2 NI);clear aE aC aB;have f1:=Gb.out.free 1;have e1:w3.cell? (xb,1)=AE (AA AB (-1)):=Gb.out.cell 1;have jC:=AO (xp.out.setCell (p:=(xb,1)) aF.out U);have JU:=Gb.out.set 1 U;have QC:Hid (Row (w3.setCell (xb,1) U) xb 47 [d,U,AA AB 1,(),()]):=JU;clear JU;go_upto_region 28 with(fail)
           generalize w3.setCell (xb,1) U=w4 at*
           clear f1 e1;obtain⟨b2,bL,wt,rfl,NI,aA⟩:=HW.out w4 (J.out.trans (jC.out.mono J.out.size)) n a5;have bm:(0:Int)<=(n:Int):=a5;have bk:(n:Int)<(n2:Int):=a5;have ab:=AO aA;have f2:=QC.out.free 2;have e2:w4.cell? (xb,2)=AE (AA AB 1):=QC.out.cell 2;have P9:=AO (jC.out.setCell (p:=(xb,2)) aF.out wt);have I5:=QC.out.set 2 wt;have IB:Hid (Row (w4.setCell (xb,2) wt) xb 47 (DE ⟨d,(U:Int),wt,0,0⟩)):=I5;clear I5 aA;go_upto_region 30 with(fail)
           generalize w4.setCell (xb,2) wt=w5 at*
           clear f2 e2 NI;obtain⟨t,Q⟩:∃t:Cv,t=⟨d,(U:Int),wt,0,0⟩:=⟨_,rfl⟩;have qb:Hid (CI p s L i (k+1) (out++[t])):=by
            rw[Q];exact aw.out.push (by have:=NB.out;omega) (by rw[<-Yl.out];exact aD) (by rw[I.out];exact HD.out) (by rw[I.out,<-Yl.out];rw[if_pos (by have:=jD.out;omega)];exact bc.out) ⟨rfl,rfl,ab.out⟩
           rw[<-Q]at IB;obtain⟨t0,t1,t2,t3,t4⟩:=IB.out.q5;have Zw:=P9.out.alloc P9.out.size (AK #[t.a,t.b,t.c,t.d,t.e] 47);have JE:Row (w5.alloc (AK #[t.a,t.b,t.c,t.d,t.e] 47)) w5 47 (DE t):=heap_alloc_new _ _;have bH:=AO (JT JB.out Zw);have H:=AO (J.out.trans (Zw.mono J.out.size));have Q9:=AO JE;clear Zw JE Q jC P9 QC IB xp Gb;go_wp2_with (with_reducible refine EO 104 ?_)
           unfold Hid;refine Fv rfl _ _ rfl bH.out rfl w5 rfl t (λj y hj=>?_) a5 H.out.size ?_
           ·rw[<-hj,Vw];exact Q9.out.cell j
           intro v' W9 D7 Ls Vb;obtain⟨g9,aa,rfl⟩:=Joins.ownsRow_form D7 a5;have bK:Hid (Below w w W9):=H.out.trans (Ls.below H.out.size λq hq=>(bH.out.lt q hq).1);have ad:=AO D7;have al:Hid ((out++[t]).length=n+1):=by unfold Hid;rw[AY,I.out];rfl
           clear D7 Ls Vb t0 t1 t2 t3 t4 bH H Q9;go_wp2
           go_roundw
           case rel=>exact⟨k+1,n+1,aa,_,_,a5,rfl,by go_num,by go_num,bK.out,ad.out,qb.out,al.out⟩
           case measure=>simp[BF];omega
          ·have gb:decide ((k1:Int)<(r:Int))=true:=decide_eq_true (Int.ofNat_lt.2 hb);have gc:decide ((n:Int)<(n2:Int))=false:=decide_eq_false λh=>NI (Int.ofNat_lt.1 h);clear aE aC aB;have f1:=Gb.out.free 1;have e1:w3.cell? (xb,1)=AE (AA AB (-1)):=Gb.out.cell 1;have jC:=AO (xp.out.setCell (p:=(xb,1)) aF.out U);have JU:=Gb.out.set 1 U;have QC:Hid (Row (w3.setCell (xb,1) U) xb 47 [d,U,AA AB 1,(),()]):=JU;clear JU;go_upto_region 28 with(fail)
           generalize w3.setCell (xb,1) U=w4 at*
           clear f1 e1;have ab:Hid (Fg 1):=Fg.of a5 a5;have P9:=jC;have IB:Hid (Row w4 xb 47 (DE ⟨d,(U:Int),1,0,0⟩)):=QC.out;go_upto_region 30 with(fail)
           generalize w4=w5 at*
           obtain⟨t,Q⟩:∃t:Cv,t=⟨d,(U:Int),1,0,0⟩:=⟨_,rfl⟩;have qb:Hid (CI p s L i (k+1) (out++[t])):=by
            rw[Q];exact aw.out.push (by have:=NB.out;omega) (by rw[<-Yl.out];exact aD) (by rw[I.out];exact HD.out) (by rw[I.out,<-Yl.out];rw[if_pos (by have:=jD.out;omega)];exact bc.out) ⟨rfl,rfl,ab.out⟩
           rw[<-Q]at IB;obtain⟨t0,t1,t2,t3,t4⟩:=IB.out.q5;have Zw:=P9.out.alloc P9.out.size (AK #[t.a,t.b,t.c,t.d,t.e] 47);have JE:Row (w5.alloc (AK #[t.a,t.b,t.c,t.d,t.e] 47)) w5 47 (DE t):=heap_alloc_new _ _;have bH:=AO (JT JB.out Zw);have H:=AO (J.out.trans (Zw.mono J.out.size));have Q9:=AO JE;clear Zw JE Q jC P9 QC IB xp Gb;go_wp2_with (with_reducible refine EO 104 ?_)
           unfold Hid;refine Fv rfl _ _ rfl bH.out rfl w5 rfl t (λj y hj=>?_) a5 H.out.size ?_
           ·rw[<-hj,Vw];exact Q9.out.cell j
           intro v' W9 D7 Ls Vb;obtain⟨g9,aa,rfl⟩:=Joins.ownsRow_form D7 a5;have bK:Hid (Below w w W9):=H.out.trans (Ls.below H.out.size λq hq=>(bH.out.lt q hq).1);have ad:=AO D7;have al:Hid ((out++[t]).length=n+1):=by unfold Hid;rw[AY,I.out];rfl
           clear D7 Ls Vb t0 t1 t2 t3 t4 bH H Q9;go_wp2
           go_roundw
           case rel=>exact⟨k+1,n+1,aa,_,_,a5,rfl,by go_num,by go_num,bK.out,ad.out,qb.out,al.out⟩
           case measure=>simp[BF];omega
         ·by_cases NI:n<n2
          ·have gb:decide ((k1:Int)<(r:Int))=false:=decide_eq_false λh=>hb (Int.ofNat_lt.1 h);have gc:decide ((n:Int)<(n2:Int))=true:=decide_eq_true (Int.ofNat_lt.2 NI);clear aE aC aB ba aX aJ;have jC:=xp;have QC:=Gb;go_upto_region 28 with(fail)
           generalize w3=w4 at*
           obtain⟨b2,bL,wt,rfl,NI,aA⟩:=HW.out w4 (J.out.trans (jC.out.mono J.out.size)) n a5;have bm:(0:Int)<=(n:Int):=a5;have bk:(n:Int)<(n2:Int):=a5;have ab:=AO aA;have f2:=QC.out.free 2;have e2:w4.cell? (xb,2)=AE (AA AB 1):=QC.out.cell 2;have P9:=AO (jC.out.setCell (p:=(xb,2)) aF.out wt);have I5:=QC.out.set 2 wt;have IB:Hid (Row (w4.setCell (xb,2) wt) xb 47 (DE ⟨d,(-1),wt,0,0⟩)):=I5;clear I5 aA;go_upto_region 30 with(fail)
           generalize w4.setCell (xb,2) wt=w5 at*
           clear f2 e2 NI;obtain⟨t,Q⟩:∃t:Cv,t=⟨d,(-1),wt,0,0⟩:=⟨_,rfl⟩;have qb:Hid (CI p s L i (k+1) (out++[t])):=by
            rw[Q];exact aw.out.push (by have:=NB.out;omega) (by rw[<-Yl.out];exact aD) (by rw[I.out];exact HD.out) (by rw[I.out,<-Yl.out];rw[if_neg (by have:=jD.out;omega)]) ⟨rfl,rfl,ab.out⟩
           rw[<-Q]at IB;obtain⟨t0,t1,t2,t3,t4⟩:=IB.out.q5;have Zw:=P9.out.alloc P9.out.size (AK #[t.a,t.b,t.c,t.d,t.e] 47);have JE:Row (w5.alloc (AK #[t.a,t.b,t.c,t.d,t.e] 47)) w5 47 (DE t):=heap_alloc_new _ _;have bH:=AO (JT JB.out Zw);have H:=AO (J.out.trans (Zw.mono J.out.size));have Q9:=AO JE;clear Zw JE Q jC P9 QC IB xp Gb;go_wp2_with (with_reducible refine EO 104 ?_)
           unfold Hid;refine Fv rfl _ _ rfl bH.out rfl w5 rfl t (λj y hj=>?_) a5 H.out.size ?_
           ·rw[<-hj,Vw];exact Q9.out.cell j
           intro v' W9 D7 Ls Vb;obtain⟨g9,aa,rfl⟩:=Joins.ownsRow_form D7 a5;have bK:Hid (Below w w W9):=H.out.trans (Ls.below H.out.size λq hq=>(bH.out.lt q hq).1);have ad:=AO D7;have al:Hid ((out++[t]).length=n+1):=by unfold Hid;rw[AY,I.out];rfl
           clear D7 Ls Vb t0 t1 t2 t3 t4 bH H Q9;go_wp2
           go_roundw
           case rel=>exact⟨k+1,n+1,aa,_,_,a5,rfl,by go_num,by go_num,bK.out,ad.out,qb.out,al.out⟩
           case measure=>simp[BF];omega
          ·have gb:decide ((k1:Int)<(r:Int))=false:=decide_eq_false λh=>hb (Int.ofNat_lt.1 h);have gc:decide ((n:Int)<(n2:Int))=false:=decide_eq_false λh=>NI (Int.ofNat_lt.1 h);clear aE aC aB ba aX aJ;have jC:=xp;have QC:=Gb;go_upto_region 28 with(fail)
           generalize w3=w4 at*
           have ab:Hid (Fg 1):=Fg.of a5 a5;have P9:=jC;have IB:Hid (Row w4 xb 47 (DE ⟨d,(-1),1,0,0⟩)):=QC.out;go_upto_region 30 with(fail)
           generalize w4=w5 at*
           obtain⟨t,Q⟩:∃t:Cv,t=⟨d,(-1),1,0,0⟩:=⟨_,rfl⟩;have qb:Hid (CI p s L i (k+1) (out++[t])):=by
            rw[Q];exact aw.out.push (by have:=NB.out;omega) (by rw[<-Yl.out];exact aD) (by rw[I.out];exact HD.out) (by rw[I.out,<-Yl.out];rw[if_neg (by have:=jD.out;omega)]) ⟨rfl,rfl,ab.out⟩
           rw[<-Q]at IB;obtain⟨t0,t1,t2,t3,t4⟩:=IB.out.q5;have Zw:=P9.out.alloc P9.out.size (AK #[t.a,t.b,t.c,t.d,t.e] 47);have JE:Row (w5.alloc (AK #[t.a,t.b,t.c,t.d,t.e] 47)) w5 47 (DE t):=heap_alloc_new _ _;have bH:=AO (JT JB.out Zw);have H:=AO (J.out.trans (Zw.mono J.out.size));have Q9:=AO JE;clear Zw JE Q jC P9 QC IB xp Gb;go_wp2_with (with_reducible refine EO 104 ?_)
           unfold Hid;refine Fv rfl _ _ rfl bH.out rfl w5 rfl t (λj y hj=>?_) a5 H.out.size ?_
           ·rw[<-hj,Vw];exact Q9.out.cell j
           intro v' W9 D7 Ls Vb;obtain⟨g9,aa,rfl⟩:=Joins.ownsRow_form D7 a5;have bK:Hid (Below w w W9):=H.out.trans (Ls.below H.out.size λq hq=>(bH.out.lt q hq).1);have ad:=AO D7;have al:Hid ((out++[t]).length=n+1):=by unfold Hid;rw[AY,I.out];rfl
           clear D7 Ls Vb t0 t1 t2 t3 t4 bH H Q9;go_wp2
           go_roundw
           case rel=>exact⟨k+1,n+1,aa,_,_,a5,rfl,by go_num,by go_num,bK.out,ad.out,qb.out,al.out⟩
           case measure=>simp[BF];omega
        ·obtain rfl:k=r:=a5;have gk:decide ((k:Int)<(k:Int))=false:=a8;have bB:Hid (CI p s L (i+1) 0 out):=aw.out.next (by have:=NB.out;omega) Yl.out;go_wp2
         go_roundw
         case rel=>exact⟨i+1,n,c,A,out,a5,rfl,rfl,by go_num,J.out,JB.out,bB.out,I.out⟩
         case measure=>simp[BF];omega
      ·obtain rfl:i=e:=a5;have g0:decide ((i:Int)<(i:Int))=false:=a8;have HF:Hid (Dd (AH (AJ A n c)) wr):=by
        rw[<-Gr.out,<-I.out];have ho:=JB.out;have aH:=aI.out;rw[<-I.out]at ho;have hl:=aH.len;rw[<-NB.out]at aH;exact⟨A,c,p,s,out,rfl,ho,aH,bC.out,HS.out.1,HS.out.2,hp,by have:=JC.out;omega,J.out⟩
       go_wp2
       exact HF.out
theorem Sh:∀(l:List Cv) (i:Nat) (v:Int),i<l.length->(EK l).set (i*5+1) v=EK (l.set i {l.getD i Cu with b:=v})
 |[],i,v,h=>by simp at h
 |e::l,0,v,_=>by simp[EK,DE]
 |e::l,i+1,v,h=>by
  have H:=Sh l i v (by simpa using h);have I:EK (e::l)=DE e++EK l:=rfl;have h5:(DE e).length=5:=rfl;rw[Bz];have J:EK (e::l.set i {(e::l).getD (i+1) Cu with b:=v})=DE e++EK (l.set i {l.getD i Cu with b:=v}):=rfl;rw[I,J,<-H];rw[As _ _ (by rw[h5];omega),h5];rw[show (i+1)*5+1-5=i*5+1 by omega]
theorem wC{w:World}{base g n cap:Nat}{l}(h:w.ownsRow base 47 5 (AJ g n cap) n (EK l)){i}(hi:i<l.length)(v:Int):
  (w.setCell (g,i*5+1) v).ownsRow base 47 5 (AJ g n cap) n (EK (l.set i {l.getD i Cu with b:=v})):=by
 have e:=(World.ownsRow.stored h (i*5+1) v).1;rw[Sh l i v hi]at e;exact e
theorem CI.ok{p s L out}(h:CI p s L L.length 0 out)(hp:0<p)(uM:p<=241):∀t∈out,EE t/\Dc 3 t=true/\Fg t.b/\Fg t.a:=λt O=>by
 obtain⟨j,Q⟩:=BC.1 O;have h1:=h.a j t Q;have e:=h.b j t Q;obtain⟨hd,he,U⟩:=h.w t O;have l1:=Zu (s:=s) (n:=j) hp;have l2:=Zu (s:=s) (n:=j+1) hp;have I:Fg t.a:=Fg.of a5 a5;have H:Fg t.b:=by
  rcases e with⟨e,_⟩|⟨e,_⟩
  ·exact Fg.of a5 a5
  ·exact Fg.of a5 a5
 refine⟨λx J=>?_,?_,H,I⟩
 ·simp[Cv.D8]at J;rcases J with rfl|rfl|rfl|rfl|rfl
  ·exact I
  ·exact H
  ·exact U
  ·rw[hd];exact Fg.of a6 a6
  ·rw[he];exact Fg.of a6 a6
 ·simp[Dc,Cv.D8,hd,he]
theorem lQ(z q:Nat):Iw [z] q=0\/Iw [z] q=z:=by
 unfold Iw
 cases q with
 |zero=>exact .inl rfl
 |succ q=>exact .inr a8
theorem AZ3{p s z k out}(h:CI p s [z] 1 0 out)(J:0<p)(O:p<=241)(hz:0<z)(U:k<z):out.length=z/\(out.getD k Cu).a=((Xa p s k:Nat):Int)/\
  (∀t∈out.set (z-1) {out.getD (z-1) Cu with b:=((Xa p s k:Nat):Int)},EE t/\Dc 3 t=true)/\¬Gt (out.set (z-1) {out.getD (z-1) Cu with b:=((Xa p s k:Nat):Int)}):=by
 have hlen:out.length=z:=by rw[h.len];simp[Iw]
 have I:∀j,j<z->out[j]?=AE (out.getD j Cu):=λj hj=>by rw[AT,AU a5];rfl
 have aa:=Zu (s:=s) (n:=k) J;refine⟨hlen,h.a k _ (I k U),λt H=>?_,?_⟩
 ·rcases List.mem_or_eq_of_mem_set H with hm|rfl
  ·exact⟨(h.ok J O t hm).1,(h.ok J O t hm).2.1⟩
  ·obtain⟨o1,o2,o3,o4⟩:=h.ok J O _ (Ak (I (z-1) a5));obtain⟨hd,he,hc⟩:=h.w _ (Ak (I (z-1) a5));refine⟨λx Q=>?_,?_⟩
   ·simp only[Cv.D8,A8,List.not_mem_nil,or_false]at Q;rcases Q with rfl|rfl|rfl|rfl|rfl
    ·exact o4
    ·exact Fg.of a5 a5
    ·exact hc
    ·exact o1 _ (by simp[Cv.D8])
    ·exact o1 _ (by simp[Cv.D8])
   ·simp only[Dc,Cv.D8,List.drop,List.all_cons,List.all_nil,hd,he];rfl
 ·refine YC (id:=λj=>((Xa p s j:Nat):Int)) (n:=z) (k:=k) (λi _=>by omega) (by rw[Bk,hlen]) hz U (λi t H=>?_) (λi t H=>?_)
  ·by_cases hi:i=z-1
   ·subst hi;rw[List.getElem?_set_self a5]at H;injection H with H
    rw[<-H];have:=h.a _ _ (I (z-1) a5);exact this
   ·rw[List.getElem?_set_ne a5]at H;exact h.a i t H
  ·by_cases hi:i=z-1
   ·subst hi;rw[List.getElem?_set_self a5]at H;injection H with H
    rw[<-H,if_neg a5]
   ·rw[List.getElem?_set_ne a5]at H;have ab:=NY H;rw[if_pos a5];rcases h.b i t H with⟨_,q,hq⟩|⟨h2,_⟩
    ·rcases lQ z q with e|e<;>omega
    ·exact h2
end Go.Proofs.YthfnbpjegjbbiaaGreat
