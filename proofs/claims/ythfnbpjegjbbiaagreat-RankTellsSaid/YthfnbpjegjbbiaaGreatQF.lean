/- What the laws stand on. -/
import Derived.Test.YthfnbpjegjbbiaaGreatQE
namespace Go.Proofs.YthfnbpjegjbbiaaGreat
set_option linter.unusedVariables false
set_option linter.unusedSimpArgs false
set_option maxRecDepth 100000
set_option maxHeartbeats 8000000
open Go.ChangeShapes Go.WideShapes Go.ChangeAt Go.RowKit
open Go.Joins Go.Deep
open Go.ChangeShapes Go.WideShapes Go.ChangeAt Go.RowKit Go.Maps
open Go.ChangeMaps (setBlock heap_setBlock_same heap_setBlock_other)
open Go.Value renaming pointer → AI
open Go.Value renaming int → AA
open Go.IntKind renaming i64 → AB
open Option renaming some → AE
open Option renaming none → AD
open Lib renaming hid → AG
open Go.Ending renaming returned → AH
open Go.Value renaming slice → AJ
open Go.Obj renaming cells → AK
open Go.Value renaming agg → AL
open Go.Value renaming tuple → AM
open Go.Lib renaming hid → AO
open Go.Proofs.Tryz renaming prog → AP, underlying101 → Ad, underlying116 → Be, results139 → Cc
open Nat renaming le_refl → AQ, mul_le_mul_right → Af, le_trans → Ag, lt_or_ge → Ak, zero_le → Ao, sub_self → As, add_mul → A7, eq_zero_or_pos → BB, one_mul → BH, zero_add → BM, lt_of_lt_of_le → BN, add_sub_cancel → BV, div_le_self → BX, min_eq_left → Bi, add_assoc → B8, mod_lt → CM, mul_comm → CS, lt_trichotomy → CW, zero_mul → CY, min → CZ, reduceAdd → Cd, div_mul_le_self → Cf, lt_of_le_of_lt → Cg, mul_one → Cm, add_sub_cancel_left → Cq
open List renaming append_assoc → AR, getD_eq_getElem?_getD → AT, getElem?_eq_getElem → AU, getElem?_cons_succ → AV, getElem?_append_right → AW, getElem?_cons_zero → AX, append_nil → AY, length_take → AZ, length_append → Aa, mem_of_getElem? → Ae, mem_append → Ah, length_map → Ai, getElem?_append_left → Aj, set_append_right → Ap, length_drop → Aq, getElem?_take → At, mem_map → Av, getElem?_set → Aw, mem_iff_getElem? → Ax, take_of_length_le → Ay, mem_cons_self → Az, mem_cons → A8, replicate → BC, mem_cons_of_mem → BD, getElem?_eq_none → BG, getElem?_eq_some_iff → BI, nil_append → BL, getElem_of_mem → BP, take_append_drop → BS, length_cons → BW, getElem?_drop → Bc, filter_append → Bd, length_set → Bg, pairwise_iff_getElem → Bh, take_add_one → Bj, getElem?_map → Bk, range → Bo, mem_singleton → Bp, take_zero → Bs, drop_eq_getElem_cons → Bv, mem_of_mem_take → Bw, take_length → B6, set_cons_succ → B7, nodup_cons → CK, mem_filter → CL, take_take → CN, getElem_mem → CO, cons_append → CQ, take_append_of_le_length → Ca, findIdx_le_length → Ck, map_append → Cn, drop_zero → Cr, drop_drop → Cs
open Go.RowKit.Below renaming refl → AS, trans → CR, size → CU, mono → CV
open Go.IntKind renaming i64 → Ab, wrap_i64 → BQ
open Go renaming cell_regrown → Ac, leaves_cons → A6, bodyPost_ret → BA, FrameMode → Bf, wp_region_quiet_below → By, run_underlying → Bz, below_regrown → B0
open Go.IntWalk renaming i64_in → Al
open Go.Sort renaming grow → An
open Go.RowKit renaming intOf → BF
open Iff renaming rfl → BO
open Go.Result renaming andThen → BU
open Int renaming toNat_natCast → BY, natCast_mul → Br, lt_trichotomy → Co
open Go.Value renaming int → BZ, ownBlock → Bq
open Go.Calls renaming regrown_of → Ba
open Go.Builtin renaming zeroCells → Bb
open Go.World.ownsRow renaming frozenAt → Bl, stored → Ct
open Go.Addr renaming add_lit → Bm, add → Cj
open Go.Ending renaming returned → Bn
open And renaming intro → Bt
open Go.Sem renaming run → Bu
open Go.Instr renaming index → CX
open Classical renaming byContradiction → Cb
open List.Perm renaming append_left → Ce, refl → Ci
open Go.Lit renaming int → Cp
open Go.Proofs.Tryz
open Nat.le renaming refl → ar
def Mi(X:Cx)(k:Nat)(o:Cy)(once:Bool)(Good:List Cy->List DD->Prop)(Jt:Nat->List DD->Prop)(m ct cb:Nat)(e:Ending)(w':World):Prop:=
 (∃(F N:Nat) (l' s:List Cy) (os':List DD) (m':Nat),e=AH (AM #[AL #[F,N,k,((Dt once o s).length:Nat)],()])/\Gh F N k (Cw X.sz k) (Dt once o s) X.sz/\Good l' os'/\ND o s/\Cl o l' s/\m'<=m+ct+20*cb/\Wd X (os'++[De F N k (Cw X.sz k) (Dt once o s) X.sz]) m' w')\/
 (∃(er:Nat) (os':List DD) (m':Nat),e=AH (AM #[AL #[(),(),(),()],er])/\0<er/\
  (Jt er os'\/∃l',Good l' os'/\(er=6/\¬X.cm\/er=5/\∃F N,N=Cu (Cw X.sz k) l'.length/\∀z,¬Rm X (os'++[De F N k (Cw X.sz k) l' X.sz]) z (3*N)))/\Wd X os' m' w')
theorem eY{nb j cb}(I:j=0\/2^(j-1)<nb)(O:nb<=cb)(J:cb<=300):2*nb*(1+j)<=20*cb:=by
 have e:j<=9:=by
  rcases I with h|h
  ·omega
  ·rcases Ak 9 j with h3|h3
   ·have:2^9<=2^(j-1):=Nat.pow_le_pow_right a5 a5;omega
   ·exact h3
 have h4:2*nb*(1+j)<=2*nb*10:=Nat.mul_le_mul_left _ a5;omega
section
variable{X:Cx}{os:List DD}{m:Nat}{W:World}
theorem Mn{fS k ct cb ad Good Jt o}{once:Bool}(hS:oz X os fS ad k Good Jt ct)(nO:∀l' os',Good l' os'->5*X.sz+DF DD.gw os'<=X.rm/\l'.length<=cb)(M5:cb<=300)(Yf:Fm o)(NG:X.rm<=1000000)
  (h:Wd X os m W)(hn:X.N+m+ct+43*cb+10<=1000000):
  Calls AP 84 #[AI X.p.w,.func (.func fS) #[] ad,AL #[o.a,o.b,o.c,o.d,o.e],once] W (Mi X k o once Good Jt m ct cb):=by
 obtain⟨W2,I8⟩:=ae ((W.alloc (AK #[o.a,o.b,o.c,o.d,o.e] 132)).alloc (AK #[(),(),(),()] 28));have h1:=h.new ((AS W W).alloc ar (AK #[o.a,o.b,o.c,o.d,o.e] 132)) (heap_alloc_new _ _:Row _ _ 132 (DH o)) ar;have h2:=h1.new ((AS _ _).alloc ar (AK #[(),(),(),()] 28)) (heap_alloc_new _ _:Row _ _ 28 Z4) ar;rw[<-I8]at h2;have av:∀(w:World) (o:Obj),(w.alloc o).heap.size=w+1:=λw o=>by simp
 simp only[av,AR,CQ,BL]at h2;obtain⟨s0,hs0⟩:=ae W.heap.size;rw[<-hs0]at h2;obtain⟨zz,Td⟩:∃zz:List Value->List DD,∀cs,zz cs=[Cv s0 132 (DH o),Cv (s0+1) 28 cs]:=⟨_,λ_=>rfl⟩;have Yh:∀cs,Dr (zz cs):=λcs q hq=>by rw[Td]at hq;simp at hq;rcases hq with rfl|rfl<;>exact⟨rfl,rfl⟩
 have Fa:∀(os' tail:List DD) cs,(os'++zz cs++tail)[os'.length]?=AE (Cv s0 132 (DH o)):=λos' tail cs=>by rw[Td];simp
 have FJ:∀(os' tail:List DD) cs,(os'++zz cs++tail)[os'.length+1]?=AE (Cv (s0+1) 28 cs):=λos' tail cs=>by rw[Td];simp
 have mX:∀(os' tail:List DD) cs JU,(os'++zz cs++tail).set (os'.length+1) (Cv (s0+1) 28 JU)=os'++zz JU++tail:=λos' tail cs JU=>by rw[Td,Td];simp
 have aw:Wd X (os++zz Z4) m W2:=by rw[Td];exact h2
 obtain⟨PB,ab⟩:∃PB:Nat->List Value->World->Prop,∀er cs w,PB er cs w↔∃os' m' tail,Dr tail/\0<er/\(Jt er os'\/∃l',Good l' os'/\(er=6/\¬X.cm\/er=5/\∃F N,N=Cu (Cw X.sz k) l'.length/\∀z,¬Rm X (os'++[De F N k (Cw X.sz k) l' X.sz]) z (3*N)))/\Wd X (os'++zz cs++tail) m' w:=⟨_,λ_ _ _=>BO⟩;obtain⟨PA,aq⟩:∃PA:Nat->Nat->Nat->World->Prop,∀F N C w,PA F N C w↔∃l' os' m',C=l'.length/\Gh F N k (Cw X.sz k) l' X.sz/\Good l' os'/\m'<=m+ct/\Wd X (os'++zz Z4++[De F N k (Cw X.sz k) l' X.sz]) m' w:=⟨_,λ_ _ _ _=>BO⟩;obtain⟨an,uE⟩:∃an:Nat->Nat->Nat->Nat->World->Prop,∀F N C g w,an F N C g w↔∃l' os' m',C=l'.length/\Gh F N k (Cw X.sz k) l' X.sz/\Good l' os'/\m'<=m+ct/\Wd X (os'++zz Z4++[De F N k (Cw X.sz k) l' X.sz,Cv g 28 [F,N,k,C]]) m' w:=⟨_,λ_ _ _ _ _=>BO⟩;obtain⟨PD,hU⟩:∃PD:Nat->Nat->Nat->List Value->World->Prop,∀F N C cs w,PD F N C cs w↔∃l' s os' m' tail,Dr tail/\C=(Dt once o s).length/\Gh F N k (Cw X.sz k) (Dt once o s) X.sz/\Good l' os'/\ND o s/\Cl o l' s/\m'<=m+ct+20*cb/\Wd X (os'++zz cs++(tail++[De F N k (Cw X.sz k) (Dt once o s) X.sz])) m' w:=⟨_,λ_ _ _ _ _=>BO⟩;obtain⟨PG,ao⟩:∃PG:Nat->Nat->Nat->Nat->Nat->World->Prop,∀er F N C g w,PG er F N C g w↔∃l' os' m',0<er/\Gh F N k (Cw X.sz k) l' X.sz/\Good l' os'/\(er=6/\¬X.cm\/er=5/\∃F N,N=Cu (Cw X.sz k) l'.length/\∀z,¬Rm X (os'++[De F N k (Cw X.sz k) l' X.sz]) z (3*N))/\Wd X (os'++zz Z4++[De F N k (Cw X.sz k) l' X.sz,Cv g 28 [F,N,k,C]]) m' w:=⟨_,λ_ _ _ _ _ _=>BO⟩;obtain⟨al,uD⟩:∃al:Nat->Nat->Nat->Nat->Nat->Nat->World->Prop,∀er F N C g g2 w,al er F N C g g2 w↔∃l' os' m',0<er/\Gh F N k (Cw X.sz k) l' X.sz/\Good l' os'/\(er=6/\¬X.cm\/er=5/\∃F N,N=Cu (Cw X.sz k) l'.length/\∀z,¬Rm X (os'++[De F N k (Cw X.sz k) l' X.sz]) z (3*N))/\Wd X (os'++zz Z4++[De F N k (Cw X.sz k) l' X.sz,Cv g 28 [F,N,k,C],Cv g2 28 Z4]) m' w:=⟨_,λ_ _ _ _ _ _ _=>BO⟩;have aC:Hid (Calls AP fS ad W2 λe w'=>(∃F N C:Nat,e=AH (AM #[AL #[F,N,k,C],()])/\PA F N C w')\/(∃er:Nat,e=AH (AM #[AL #[(),(),(),()],er])/\0<er/\PB er Z4 w')):=by
  refine(hS.call (zz Z4) m W2 aw (Yh _) a5).mono ?_;rintro e w' (⟨F,N,l',os',m',he,NI,Th,hm,hw⟩|⟨er,os',m',he,Di,KW,hm,hw⟩)
  ·exact .inl ⟨F,N,_,he,(aq _ _ _ _).2 ⟨l',os',m',rfl,NI,Th,hm,hw⟩⟩
  ·exact .inr ⟨er,he,Di,(ab _ _ _).2 ⟨os',m',[],(λq hq=>by cases hq),Di,.inl KW,by rw[AY];exact hw⟩⟩
 have a8:=hS.ent;have a6:Hid (∀F N C:Nat,∀w,PA F N C w->an F N C w (w.alloc (AK #[F,N,k,C] 28))):=λF N C w q=>by
  obtain⟨l',os',m',Q,J,I,O,U⟩:=(aq _ _ _ _).1 q;have:=U.new ((AS w w).alloc ar (AK #[F,N,k,C] 28)) (heap_alloc_new _ _:Row _ _ 28 [F,N,k,C]) ar;refine(uE _ _ _ _ _).2 ⟨l',os',m',Q,J,I,O,?_⟩;simpa [AR]using this
 have jn:Hid (∀F N C g w,an F N C g w->Row w s0 132 (DH o)/\Row w g 28 [F,N,k,C]):=λF N C g w q=>by
  obtain⟨l',os',m',Q,J,I,O,U⟩:=(uE _ _ _ _ _).1 q;exact⟨U.row (Fa _ _ _),U.row (i:=os'.length+3) (by rw[Td];simp)⟩
 have aB:Hid (∀F N C g w,an F N C g w->Calls AP 108 #[AI X.p.w,AL #[F,N,k,C],AL #[o.a,o.b,o.c,o.d,o.e],once] w λe w'=>
   (∃F2 N2 C2:Nat,e=AH (AM #[AL #[F2,N2,k,C2],()])/\PD F2 N2 C2 Z4 w')\/(∃er:Nat,e=AH (AM #[AL #[(),(),(),()],er])/\0<er/\PG er F N C g w')):=λF N C g w q=>by
  obtain⟨l',os',m',Q,J,I,O,U⟩:=(uE _ _ _ _ _).1 q;obtain⟨g1,g2⟩:=nO l' os' I;have hnb:N<=cb:=by have:=Dl (Cw X.sz k) l'.length;have:=J.bn;omega
  have Gu:DF DD.gw (os'++zz Z4++[De F N k (Cw X.sz k) l' X.sz,Cv g 28 [F,N,k,C]])=DF DD.gw os':=by
   rw[DP,DP,D5 _ (Yh _)];rfl
  have hi:(os'++zz Z4++[De F N k (Cw X.sz k) l' X.sz,Cv g 28 [F,N,k,C]])[os'.length+2]?=AE (De F N k (Cw X.sz k) l' X.sz):=by rw[Td];simp
  have Kq:(os'++zz Z4++[De F N k (Cw X.sz k) l' X.sz,Cv g 28 [F,N,k,C]]).set (os'.length+2) Dw=os'++zz Z4++[Dw,Cv g 28 [F,N,k,C]]:=by rw[Td];simp
  refine(qy (count:=C) (once:=once) U hi J Q.symm Yf (by rw[Gu];omega) NG a5 a5).mono ?_;rintro e w' (⟨F2,N2,C2,l2,m2,j,he,⟨s,Gp,G9,rfl⟩,NI,hC,hj,a7,hw⟩|⟨er,he,IB,m2,hw⟩)
  ·rw[Kq]at hw;refine .inl ⟨F2,N2,C2,he,(hU _ _ _ _ _).2 ⟨l',s,os',m2,[Dw,Cv g 28 [F,N,k,C]],λq hq=>?_,hC,NI,I,Gp,G9,?_,by simpa [AR]using hw⟩⟩
   ·simp at hq;rcases hq with rfl|rfl<;>exact⟨rfl,rfl⟩
   ·have:=eY hj hnb M5;omega
  ·have Di:0<er/\∃au:Nat,er=(au:Int):=by rcases IB with⟨h,_⟩|⟨h,_⟩<;>exact⟨a5,er.toNat,a5⟩
   obtain⟨Di,au,rfl⟩:=Di;refine .inr ⟨au,he,a5,(ao _ _ _ _ _ _).2 ⟨l',os',m2,a5,J,I,?_,hw⟩⟩;rcases IB with⟨h5,hno⟩|⟨h6,Fy⟩
   ·refine .inr ⟨a5,F,N,J.bn,λz hz=>hno z ?_⟩;have:=GL (GL hz (Yh Z4)) (z2:=[Cv g 28 [F,N,k,C]]) (λq hq=>by simp at hq;subst hq;exact⟨rfl,rfl⟩);intro y az ay;obtain⟨k1,k2⟩:=this y az ay;refine⟨k1,λi a ha=>?_⟩;have wU:a∈os'++[De F N k (Cw X.sz k) l' X.sz]++zz Z4++[Cv g 28 [F,N,k,C]]:=by
     have:=Ae ha;simp only[Ah,A8,List.not_mem_nil,or_false]at this⊢;rcases this with(h|h)|h|h
     ·exact .inl (.inl (.inl h))
     ·exact .inl (.inr h)
     ·exact .inl (.inl (.inr h))
     ·exact .inr h
    obtain⟨i',zf⟩:=Ax.1 wU;exact k2 i' a zf
   ·exact .inl ⟨a5,Fy⟩
 have aD:Hid (∀er F N C g w,PG er F N C g w->al er F N C g w (w.alloc (AK #[(),(),(),()] 28))):=λer F N C g w q=>by
  obtain⟨l',os',m',Q,J,I,O,U⟩:=(ao _ _ _ _ _ _).1 q;have:=U.new ((AS w w).alloc ar (AK #[(),(),(),()] 28)) (heap_alloc_new _ _:Row _ _ 28 Z4) ar;refine(uD _ _ _ _ _ _ _).2 ⟨l',os',m',Q,J,I,O,?_⟩;simpa [AR]using this
 have YS:Hid (∀er F N C g g2 w,al er F N C g g2 w->Row w g 28 [F,N,k,C]):=λer F N C g g2 w q=>by
  obtain⟨l',os',m',Q,J,I,O,U⟩:=(uD _ _ _ _ _ _ _).1 q;exact U.row (i:=os'.length+3) (by rw[Td];simp)
 have QF:Hid (∀er F N C g g2 w,al er F N C g g2 w->Calls AP 67 #[AI X.p.w,AL #[F,N,k,C]] w λe w'=>e=AH ()/\PB er Z4 w'/\Row w' g2 28 Z4):=λer F N C g g2 w q=>by
  obtain⟨l',os',m',Q,J,I,O,U⟩:=(uD _ _ _ _ _ _ _).1 q;obtain⟨g1,g3⟩:=nO l' os' I;have hnb:N<=cb:=by have:=Dl (Cw X.sz k) l'.length;have:=J.bn;omega
  have hi:(os'++zz Z4++[De F N k (Cw X.sz k) l' X.sz,Cv g 28 [F,N,k,C],Cv g2 28 Z4])[os'.length+2]?=AE (De F N k (Cw X.sz k) l' X.sz):=by rw[Td];simp
  refine(OM U hi J.fst a5 C).mono ?_;rintro e w' ⟨he,hw⟩;have Kq:(os'++zz Z4++[De F N k (Cw X.sz k) l' X.sz,Cv g 28 [F,N,k,C],Cv g2 28 Z4]).set (os'.length+2) Dw=os'++zz Z4++[Dw,Cv g 28 [F,N,k,C],Cv g2 28 Z4]:=by rw[Td];simp
  rw[Kq]at hw;exact⟨he,(ab _ _ _).2 ⟨os',m',_,λq hq=>by simp at hq;rcases hq with rfl|rfl|rfl<;>exact⟨rfl,rfl⟩,Q,.inr ⟨l',I,O⟩,hw⟩,hw.row (i:=os'.length+4) (by rw[Td];simp)⟩
 have ax:Hid (∀er cs w,PB er cs w->Row w (s0+1) 28 cs):=λer cs w q=>by
  obtain⟨os',m',tail,Q,J,I,O⟩:=(ab _ _ _).1 q;exact O.row (FJ _ _ _)
 have qg:Hid (∀er cs w w',PB er cs w->Below w w w'->PB er cs w'):=λer cs w w' q hb=>by
  obtain⟨os',m',tail,Q,J,I,O⟩:=(ab _ _ _).1 q;exact(ab _ _ _).2 ⟨os',m',tail,Q,J,I,O.below hb⟩
 have yC:Hid (∀er w,PB er Z4 w->Row ((((w.setCell (s0+1,0) ()).setCell (s0+1,1) ()).setCell (s0+1,2) ()).setCell (s0+1,3) ()) (s0+1) 28 Z4/\Mi X k o once Good Jt m ct cb (AH (AM #[AL #[(),(),(),()],er])) ((((w.setCell (s0+1,0) ()).setCell (s0+1,1) ()).setCell (s0+1,2) ()).setCell (s0+1,3) ())):=λer w q=>by
  obtain⟨os',m',tail,Q,J,I,O⟩:=(ab _ _ _).1 q;have k4:=GD O (FJ _ _ _) rfl () () () ();rw[mX]at k4;refine⟨k4.row (FJ _ _ _),.inr ⟨er,os',m',rfl,J,I,?_⟩⟩;have k5:=Wd.GB (b:=[]) tail Q (by rw[AY];exact k4);rw[AY]at k5;have k6:=Wd.GB (b:=[]) (zz [(),(),(),()]) (Yh _) (by rw[AY];exact k5);rwa [AY]at k6
 have aR:Hid (∀F N C cs w,PD F N C cs w->Row w (s0+1) 28 cs):=λF N C cs w q=>by
  obtain⟨l',s,os',m',tail,Q,J,I,O,U,q6,q7,q8⟩:=(hU _ _ _ _ _).1 q;exact q8.row (FJ _ _ _)
 have aS:Hid (∀F N C cs w w',PD F N C cs w->Below w w w'->PD F N C cs w'):=λF N C cs w w' q hb=>by
  obtain⟨l',s,os',m',tail,Q,J,I,O,U,q6,q7,q8⟩:=(hU _ _ _ _ _).1 q;exact(hU _ _ _ _ _).2 ⟨l',s,os',m',tail,Q,J,I,O,U,q6,q7,q8.below hb⟩
 have aE:Hid (∀F N C:Nat,∀w,PD F N C Z4 w->Row ((((w.setCell (s0+1,0) F).setCell (s0+1,1) N).setCell (s0+1,2) k).setCell (s0+1,3) C) (s0+1) 28 [F,N,k,C]/\Mi X k o once Good Jt m ct cb (AH (AM #[AL #[F,N,k,C],()])) ((((w.setCell (s0+1,0) F).setCell (s0+1,1) N).setCell (s0+1,2) k).setCell (s0+1,3) C)):=λF N C w q=>by
  obtain⟨l',s,os',m',tail,Q,rfl,I,O,U,q6,q7,q8⟩:=(hU _ _ _ _ _).1 q;have k4:=GD q8 (FJ _ _ _) rfl F N k ((Dt once o s).length:Nat);rw[mX]at k4;refine⟨k4.row (FJ _ _ _),.inl ⟨F,N,l',s,os',m',rfl,I,O,U,q6,q7,?_⟩⟩;rw[<-AR]at k4;exact Wd.GB _ (Yh _) (Wd.GB tail Q k4)
 have Lv:=AO I8;replace hs0:=AO hs0;generalize Mi X k o once Good Jt m ct cb=Dh at*
 generalize X.p.w=pw at*
 clear aq ab uE hU ao uD h1 h2 aw h hS nO hn NG Yf M5 I8 av Td Yh Fa FJ mX;go_enter func84,ntmps84
 go_upto_region 1 with(fail)
 rw[<-Lv.out,<-hs0.out];clear Lv;go_wp2_with fail
 refine aC.out.mono ?_;rintro e w3 (⟨F,N,C,rfl,h3⟩|⟨er,rfl,Di,h3⟩)
 ·have H4:=AO (a6.out _ _ _ _ h3);clear h3;go_upto_region 2 with(fail)
  generalize w3.alloc (AK #[F,N,k,C] 28)=w4 at*
  generalize w3.heap.size=g1 at*
  obtain⟨p1,p2⟩:=jn.out _ _ _ _ _ H4.out;obtain⟨a0,a1,a2,a3⟩:=p2.q4;obtain⟨b0,b1,b2,b3,b4⟩:=p1.q5;clear p1 p2;go_wp2_with fail
  refine(AO (aB.out _ _ _ _ _ H4.out)).out.mono ?_;rintro e w5 (⟨F2,N2,C2,rfl,h5⟩|⟨er,rfl,Di,h5⟩)
  ·have H6:=AO (aS.out _ _ _ _ _ _ h5 ((AS w5 w5).alloc ar (AK #[F2,N2,k,C2] 28)));have MM:Row (w5.alloc (AK #[F2,N2,k,C2] 28)) w5 28 [F2,N2,k,C2]:=heap_alloc_new _ _;clear h5 a0 a1 a2 a3 b0 b1 b2 b3 b4;go_upto_region 5 with(fail)
   generalize w5.alloc (AK #[F2,N2,k,C2] 28)=w6 at*
   generalize w5.heap.size=g2 at*
   have p3:=aR.out _ _ _ _ _ H6.out;obtain⟨d0,d1,d2,d3⟩:=MM.q4;obtain⟨z0,z1,z2,z3⟩:=p3.q4;obtain⟨f0,f1,f2,f3⟩:=p3.r4;obtain⟨EG,hp⟩:=aE.out _ _ _ _ H6.out;have Eg:=AO EG;have HP:=AO hp;clear p3 MM EG hp;go_wp2
   have r0:=Eg.out.cell 0;have r1:=Eg.out.cell 1;have r2:=Eg.out.cell 2;have r3:=Eg.out.cell 3;simp only[AX,AV]at r0 r1 r2 r3;refine BA (v:=AM #[AL #[F2,N2,k,C2],()]) (by simp[results,Tryz.results84,go_sem,r0,r1,r2,r3]) rfl ?_;exact HP.out
  ·have aA:¬(er:Int)=0:=a5;have H6:=AO (aD.out _ _ _ _ _ _ h5);clear h5 a0 a1 a2 a3 b0 b1 b2 b3 b4 Di;go_upto_region 5 with(fail)
   generalize w5.alloc (AK #[(),(),(),()] 28)=w6 at*
   generalize w5.heap.size=g2 at*
   have p3:=YS.out _ _ _ _ _ _ _ H6.out;obtain⟨a0,a1,a2,a3⟩:=p3.q4;clear p3;go_wp2_with fail
   refine(AO (QF.out _ _ _ _ _ _ _ H6.out)).out.mono ?_;rintro e w7 ⟨rfl,h7,tV⟩;have p3:=ax.out _ _ _ h7;obtain⟨d0,d1,d2,d3⟩:=tV.q4;obtain⟨z0,z1,z2,z3⟩:=p3.q4;obtain⟨f0,f1,f2,f3⟩:=p3.r4;obtain⟨EG,hp⟩:=yC.out _ _ h7;have Eg:=AO EG;have HP:=AO hp;clear p3 tV EG hp h7 a0 a1 a2 a3;go_wp2
   have r0:=Eg.out.cell 0;have r1:=Eg.out.cell 1;have r2:=Eg.out.cell 2;have r3:=Eg.out.cell 3;simp only[Z4,AX,AV]at r0 r1 r2 r3;refine BA (v:=AM #[AL #[(),(),(),()],er]) (by simp[results,Tryz.results84,go_sem,r0,r1,r2,r3]) rfl ?_;exact HP.out
 ·have aA:¬(er:Int)=0:=a5;have H4:=AO (qg.out _ _ _ _ h3 ((AS w3 w3).alloc ar (AK #[(),(),(),()] 28)));clear h3 Di;go_upto_region 2 with(fail)
  generalize w3.alloc (AK #[(),(),(),()] 28)=w4 at*
  generalize w3.heap.size=g1 at*
  have p3:=ax.out _ _ _ H4.out;obtain⟨z0,z1,z2,z3⟩:=p3.q4;obtain⟨f0,f1,f2,f3⟩:=p3.r4;obtain⟨EG,hp⟩:=yC.out _ _ H4.out;have Eg:=AO EG;have HP:=AO hp;clear p3 EG hp;go_wp2
  have r0:=Eg.out.cell 0;have r1:=Eg.out.cell 1;have r2:=Eg.out.cell 2;have r3:=Eg.out.cell 3;simp only[Z4,AX,AV]at r0 r1 r2 r3;refine BA (v:=AM #[AL #[(),(),(),()],er]) (by simp[results,Tryz.results84,go_sem,r0,r1,r2,r3]) rfl ?_;exact HP.out
end
theorem iM(fm:Bf){w}{G}{p}{F}{n}(h:Sys w G p F n)(f m k c:Nat)(hf:f<=100000000)(hm:m<=100000000):
  CallsD AP 67 #[AI p.w,AL #[f,m,k,c]] fm w λe u' w'=>u'=fm/\(e=AH (if m=0 then 0 else (E5 F.S f m).2:Nat)/\DU w G p {F with S:=Dq F.S f m} n w'):=by
 have hb:=(AS w w).alloc ar (AK #[f,m,k,c] 28);have J:Row (w.alloc (AK #[f,m,k,c] 28)) w 28 [f,m,k,c]:=heap_alloc_new _ _;by_cases I:m=0
 ·subst I;have c1:(w.alloc (AK #[AA AB f,AA AB (0:Nat),AA AB k,AA AB c] 28)).cell? ⟨w.heap.size,1,AD⟩=AE (AA AB (0:Nat)):=J.cell 1;have HP:Hid (DU w G p {F with S:=Dq F.S f 0} n (w.alloc (AK #[AA AB f,AA AB (0:Nat),AA AB k,AA AB c] 28))):=DU.DE h hb;clear J hb h;generalize DU w G p {F with S:=Dq F.S f 0} n=Dh at*
  go_enter_d func67,ntmps67
  go_wp2
  go_ret
  exact⟨rfl,HP.out⟩
 ·have HB:=AO hb;have vO:Hid (Calls AP 63 #[AI p.s,f,m] (w.alloc (AK #[f,m,k,c] 28)).drew λe w'=>e=AH ((E5 F.S f m).2:Nat)/\DU w G p {F with S:=Dq F.S f m} n w'/\(w'.cell? w=AE (AA AB f)/\w'.cell? (w,1)=AE (AA AB m)/\w'.cell? (p.w,2)=AE (AI p.s))):=by
   have e:Dq F.S f m=(E5 F.S f m).1:=by unfold Dq;rw[if_neg I]
   rw[e];exact(Wl (h.below (DC hb)) f m hf hm).mono λe w' ⟨h1,O⟩=>by
    have U:=O.row (J.drewN 1) (λhg=>by have:=h.lt hg;omega);exact⟨h1,O.behind (DC hb),U.cell 0,U.cell 1,O.cell.2.2⟩
  have c0:(w.alloc (AK #[AA AB f,AA AB m,AA AB k,AA AB c] 28)).drew.cell? ⟨w.heap.size,0,AD⟩=AE (AA AB f):=J.cell 0;have c1:(w.alloc (AK #[AA AB f,AA AB m,AA AB k,AA AB c] 28)).cell? ⟨w.heap.size,1,AD⟩=AE (AA AB m):=J.cell 1;have d1:(w.alloc (AK #[f,m,k,c] 28)).drew.cell? (w,1)=AE (AA AB m):=J.cell 1;have c2:(w.alloc (AK #[f,m,k,c] 28)).drew.cell? (p.w,2)=AE (AI p.s):=(h.below hb).row.cell 2;have g1:((m:Int)==0)=false:=by simp;omega
  rw[if_neg I];clear J hb h;generalize DU w G p {F with S:=Dq F.S f m} n=Dh at*
  generalize(E5 F.S f m).2=er at*
  go_enter_d func67,ntmps67
  go_wp2
  go_region_held3 (λw'=>w'.cell? w.heap.size=AE (AA AB f)/\w'.cell? (w.heap.size,1)=AE (AA AB m)/\w'.cell? (p.w,2)=AE (AI p.s)) (first|with_reducible exact⟨c0,d1,c2⟩|with_reducible exact Q)
   (first
    |(go_at_call 63;(with_reducible refine vO.out.mono ?_);rintro e w2 ⟨rfl,O,Q⟩))
  have H2:=AO O;clear O Q;go_wp2
  go_ret
  exact⟨rfl,H2.out⟩
section
variable{X:Cx}{os:List DD}{m i:Nat}{W W':World}{l:List Cy}
theorem Is(fm:Bf){first nb k hh sz}(h:Wd X os m W)(hi:os[i]?=AE (De first nb k hh l sz))(hf:first<=2000000)(hn:nb<=2000000)(c:Nat):
  CallsD AP 67 #[AI X.p.w,AL #[first,nb,k,c]] fm W λe u' w'=>u'=fm/\(e=AH ()/\Wd X (os.set i Dw) m w'):=by
 obtain⟨G,D,A,S,h⟩:=h;obtain⟨Q,J⟩:=h.held hi;have Q:∀z,I7 (first,nb) z->¬hasB S.fr z:=Q;have J:0<nb->S.first<=first/\first+nb<=S.first+S.blocks:=J;have U:=Jk (S:=S) h.sys.eZ (f:=first) (n:=nb) (by
  rcases BB nb with I|I
  ·exact .inr I
  ·exact .inl (J I).1) (by
  rcases BB nb with I|I
  ·exact .inr I
  ·exact .inl (J I).2) (λz z1 z2=>Q z ⟨z1,z2⟩)
 have Xt:(if nb=0 then 0 else (E5 S first nb).2)=0:=by
  by_cases I:nb=0
  ·rw[if_pos I]
  ·rw[if_neg I];rcases Jj (s:=S) h.sys.eZ (first:Int) (nb:Int)with⟨s',a',m',ha,hm,h1,he,hg⟩|⟨_,KW⟩
   ·rw[he]
   ·exact absurd ⟨(J a5).1,(J a5).2,λz z1 z2=>Q z ⟨z1,z2⟩⟩ (KW first nb rfl rfl a5)
 refine(iM fm (F:=⟨D,A,S⟩) h.sys first nb k c a5 a5).mono ?_;rintro e u' w' ⟨hu,he,G',k1,k2,k3⟩;refine⟨hu,by rw[he,Xt];rfl,G',_,_,_,h.step hi k1 (k2.mono λk hk=>.inl hk) k3 LS trivial (λk hk=>hk.elim) ⟨rfl,rfl⟩ h.alive id h.Dp (λ_ _=>rfl) trivial rfl rfl (λ_ _ hw _=>hw) (λb n hb=>by cases hb) ⟨U.1,U.2.1⟩ (λz=>?_) (λz O=>absurd O (DX _ _)) ?_⟩
 ·show hasB (Dq S first nb).fr z↔ _;rw[U.2.2.1 z];exact⟨λO=>⟨O,DX _ _⟩,λO=>O.1⟩
 ·show EI (Dq S first nb).fr+0=EI S.fr+nb;rw[U.2.2.2];omega
end
theorem oB(u:Bf)(O:Value)(w:World):CallsD AP 36 #[O,AJ AD 0 0] u w λe I w'=>I=u/\(e=AH (AM #[])/\w'=w):=by
 go_enter_d func36,ntmps36
 go_wp2_with fail
 go_loopw [5,8] (λ_ J wr=>J=AA AB 0/\wr=w) (λ_ _ _=>0)
 case atStart=>exact⟨rfl,rfl⟩
 case round=>
  obtain⟨rfl,rfl⟩:=hrel;go_wp2
  refine bodyPost_end (results_none rfl _ _ _) rfl ?_;exact⟨rfl,rfl⟩
def U3(l:List Cy)(x r:Int):Prop:=(∃(i:Nat) (t:Cy),r=i/\l[i]?=AE t/\t.a=x/\∀(j:Nat) (u:Cy),j<i->l[j]?=AE u->u.a≠x)\/(r=-1/\∀u∈l,u.a≠x)
theorem UK{w A n c l}(x:Int)(U:El w w.heap.size A n l)(hn:n<=1000000):Calls AP 41 #[AJ A n c,AA AB x] w λe w'=>∃r,e=AH (AA AB r)/\U3 l x r/\w'=w:=by
 have HL:=AO U;have Gg:Hid (l.length=n):=U.1;clear U;go_enter func41,ntmps41
 go_wp2
 go_loop [5] (λO=>∃i:Nat,i<=n/\O=AA AB (i:Int)/\Hid (∀(j:Nat) (u:Cy),j<i->l[j]?=AE u->u.a≠x)) (λO=>n-(BF O).toNat)
 case atStart=>exact⟨0,Ao _,rfl,λj u J=>absurd J a5⟩
 case round=>
  obtain⟨i,hi,rfl,HJ⟩:=hrel;by_cases Q:i<n
  ·obtain⟨b,off,t,rfl,_,q0,q1,q2,q3,q4,_,ht⟩:=HL.out.at_ Q;have g0:decide ((i:Int)<(n:Int))=true:=by simp;omega
   have i0:(0:Int)<=(i:Int):=a5;have i1:(i:Int)<(n:Int):=a5;by_cases I:t.a=x
   ·have HF:Hid (U3 l x i):=.inl ⟨i,t,rfl,ht.out,I,HJ.out⟩;have g1:(t.a==x)=true:=by simp[I]
    generalize t.a=ta at*
    clear I;go_wp2
    go_ret
    exact⟨_,rfl,HF.out,rfl⟩
   ·have xy:Hid (∀(j:Nat) (u:Cy),j<i+1->l[j]?=AE u->u.a≠x):=λj u J hu=>by
     rcases Ak j i with h|h
     ·exact HJ.out j u h hu
     ·obtain rfl:j=i:=a5;rw[ht.out]at hu;injection hu with hu
      rw[<-hu];exact I
    have g1:(t.a==x)=false:=by simp[I]
    generalize t.a=ta at*
    clear I;go_wp2
    go_round
    case rel=>exact⟨i+1,a5,by go_num,xy.out⟩
    case measure=>simp[BF];omega
  ·obtain rfl:i=n:=a5;have g0:decide ((i:Int)<(i:Int))=false:=a8;have HF:Hid (U3 l x (-1)):=.inr ⟨rfl,λu hu=>by
    obtain⟨j,J⟩:=Ax.1 hu;refine HJ.out j u ?_ J;rcases Ak j l.length with h|h
    ·have:=Gg.out;omega
    ·rw[BG h]at J;cases J⟩
   go_wp2
   go_ret
   exact⟨_,rfl,HF.out,rfl⟩
def LC(l:List Cy)(i:Nat)(t:Cy):Prop:=0<=t.a/\-1<=t.b/\(∀(j:Nat) (u:Cy),j<i->l[j]?=AE u->u.a≠t.a)/\(0<=t.b->∃u∈l,u.a=t.b)/\∀(k:Nat) (u:Cy),k<i->l[k]?=AE u->0<=t.b->u.b≠t.b
theorem UP{l}:DR l↔∀(i:Nat) (t:Cy),l[i]?=AE t->LC l i t:=by
 refine⟨λh i t I=>⟨h.a0 t (Ae I),h.b0 t (Ae I),λj u O hu e=>?_,h.sc t (Ae I),λk u U hu Q e=>?_⟩,λh=>⟨λt I=>?_,λt I=>?_,λi j t u hi O e=>?_,λt I Q=>?_,λi j t u hi O e Q=>?_⟩⟩
 ·have:=h.nd j i u t hu I e;omega
 ·have:=h.ij k i u t hu I e a5;omega
 ·obtain⟨i,hi⟩:=Ax.1 I;exact(h i t hi).1
 ·obtain⟨i,hi⟩:=Ax.1 I;exact(h i t hi).2.1
 ·rcases CW i j with J|J|J
  ·exact absurd e ((h j u O).2.2.1 i t J hi)
  ·exact J
  ·exact absurd e.symm ((h i t hi).2.2.1 j u J O)
 ·obtain⟨i,hi⟩:=Ax.1 I;exact(h i t hi).2.2.2.1 Q
 ·rcases CW i j with J|J|J
  ·exact absurd e ((h j u O).2.2.2.2 i t J hi a5)
  ·exact J
  ·exact absurd e.symm ((h i t hi).2.2.2.2 j u J O Q)
theorem ZR{w A n c l}(hl:El w w A n l)(hn:n<=1000000):Calls AP 39 #[AJ A n c] w λe w'=>∃b:Bool,e=AH b/\(b=true↔DR l)/\∃q,w'=w.drewN q:=by
 have HL:=AO hl;have Gg:Hid (l.length=n):=hl.1;have T6:Hid (∀q x,Calls AP 41 #[AJ A n c,AA AB x] (w.drewN q) λe w'=>∃r,e=AH (AA AB r)/\U3 l x r/\w'=w.drewN q):=λq x=>UK x (hl.drewN q) hn;have Ly:Hid (∀(i:Nat) (t:Cy),l[i]?=AE t->¬LC l i t->(false=true↔DR l)):=λi t ht h=>⟨λh=>(by cases h),λJ=>absurd (UP.1 J i t ht) h⟩;clear hl;go_enter func39,ntmps39
 go_wp2
 go_loopw [3] (λiv wr=>∃i:Nat,i<=n/\iv=AA AB (i:Int)/\(∃q,wr=w.drewN q)/\Hid (∀(j:Nat) (t:Cy),j<i->l[j]?=AE t->LC l j t)) (λiv _=>n-(BF iv).toNat)
 case atStart=>exact⟨0,Ao _,rfl,⟨0,rfl⟩,λj u I=>absurd I a5⟩
 case round=>
  obtain⟨i,hi,rfl,⟨q,rfl⟩,HJ⟩:=hrel;by_cases ad:i<n
  ·obtain⟨b,off,t,rfl,_,q0,q1,q2,q3,q4,_,ht⟩:=HL.out.at_ ad;have g0:decide ((i:Int)<(n:Int))=true:=by simp;omega
   have i0:(0:Int)<=(i:Int):=a5;have i1:(i:Int)<(n:Int):=a5;have HT:=ht;have HN:Hid (¬LC l i t->(false=true↔DR l)):=Ly.out i t ht.out;obtain⟨ta,tb,tc,td,te⟩:=t;simp only at q0 q1 q2 q3 q4;have c0:∀q,(w.drewN q).cell? (b,off+i*5)=AE (AA AB ta):=λ_=>q0;have c1:∀q,(w.drewN q).cell? (b,off+i*5+1)=AE (AA AB tb):=λ_=>q1;clear q2 q3 q4 ht;by_cases Q:ta<0
   ·have g1:decide (ta<0)=true:=by simpa using Q
    have O:=AO (HN.out λh=>by have:=h.1;simp only at this;omega);clear Q;go_wp2
    go_ret
    exact⟨false,rfl,O.out,q,rfl⟩
   have g1:decide (ta<0)=false:=by simpa using Q
   by_cases hb:tb< -1
   ·have g2:decide (tb< -1)=true:=by simpa using hb
    have O:=AO (HN.out λh=>by have:=h.2.1;simp only at this;omega);clear Q hb;go_wp2
    go_ret
    exact⟨false,rfl,O.out,q,rfl⟩
   have g2:decide (tb< -1)=false:=by simpa using hb
   go_wp2_with fail
   refine(T6.out q ta).mono ?_;rintro e w2 ⟨r,rfl,hr,rfl⟩;by_cases gF:r=(i:Int)
   rotate_left
   ·have g3:(r !=(i:Int))=true:=by simpa using gF
    have O:=AO (HN.out λh=>by
     rcases hr with⟨j,u,rfl,I,e,hm⟩|⟨_,hno⟩
     ·rcases CW j i with h1|h1|h1
      ·exact h.2.2.1 j u h1 I e
      ·exact gF (by rw[h1])
      ·exact hm i _ h1 HT.out rfl
     ·exact hno _ (Ae HT.out) rfl)
    clear Q hb hr gF;go_wp2
    go_ret
    exact⟨false,rfl,O.out,q,rfl⟩
   have g3:(r !=(i:Int))=false:=by simpa using gF
   have WG:Hid (∀(j:Nat) (u:Cy),j<i->l[j]?=AE u->u.a≠ta):=λj u I hu=>by
    rcases hr with⟨j2,u2,e2,Xo,e,hm⟩|⟨e2,_⟩
    ·exact hm j u a5 hu
    ·omega
   clear hr;by_cases J:tb≥0
   ·have g4:decide (tb≥0)=true:=by simpa using J
    go_wp2_with fail
    refine(T6.out q tb).mono ?_;rintro e w2 ⟨r2,rfl,EC,rfl⟩;by_cases Ec:r2<0
    ·have g5:decide (r2<0)=true:=by simpa using Ec
     have O:=AO (HN.out λh=>by
      rcases EC with⟨j,u,rfl,_⟩|⟨_,hno⟩
      ·omega
      ·obtain⟨u,hu,e⟩:=h.2.2.2.1 J;exact hno u hu e)
     clear Q hb gF J EC Ec;go_wp2
     go_ret
     exact⟨false,rfl,O.out,q,rfl⟩
    have g5:decide (r2<0)=false:=by simpa using Ec
    have WX:Hid (∃u∈l,u.a=tb):=by
     rcases EC with⟨j,u,_,I,e,_⟩|⟨e2,_⟩
     ·exact⟨u,Ae I,e⟩
     ·omega
    have QG:Hid (0<=ta/\-1<=tb):=⟨a5,a5⟩;clear Q hb gF EC Ec;go_wp2_with fail
    go_loopw [4] (λkv wr=>∃k:Nat,k<=i/\kv=AA AB (k:Int)/\(∃q,wr=w.drewN q)/\Hid (∀(j:Nat) (u:Cy),j<k->l[j]?=AE u->u.b≠tb)) (λkv _=>i-(BF kv).toNat)
    case atStart=>exact⟨0,Ao _,rfl,⟨q,rfl⟩,λj u I=>absurd I a5⟩
    case round=>
     obtain⟨k,hk,rfl,⟨q9,rfl⟩,HK⟩:=hrel;by_cases ab:k<i
     ·obtain⟨b',SD,U,QW,_,s0,s1,s2,s3,s4,_,Yc⟩:=HL.out.at_ (show k<n by omega);injection QW with QW
      injection QW with Dg DT
      subst Dg DT;have d1:∀q,(w.drewN q).cell? (b,off+k*5+1)=AE (AA AB U.b):=λ_=>s1;have gk:decide ((k:Int)<(i:Int))=true:=by simp;omega
      have k0:(0:Int)<=(k:Int):=a5;have k1:(k:Int)<(n:Int):=a5;by_cases he:tb=U.b
      ·have ge:(tb==U.b)=true:=by simp[he]
       have O:=AO (HN.out λh=>h.2.2.2.2 k U ab Yc.out J he.symm);generalize U.b=ub at*
       clear he s0 s1 s2 s3 s4;go_wp2
       go_quiet (fail)
       go_wp2
       go_ret
       exact⟨false,rfl,O.out,_,World.drewN_drewN _ _ _⟩
      ·have ge:(tb==U.b)=false:=by simp[he]
       have YR:Hid (∀(j:Nat) (u:Cy),j<k+1->l[j]?=AE u->u.b≠tb):=λj u I hu=>by
        rcases Ak j k with h|h
        ·exact HK.out j u h hu
        ·obtain rfl:j=k:=a5;rw[Yc.out]at hu;injection hu with hu
         rw[<-hu];exact λe=>he e.symm
       generalize U.b=ub at*
       clear he s0 s1 s2 s3 s4;go_wp2
       go_quiet (fail)
       go_wp2
       go_roundw
       case rel=>exact⟨k+1,a5,by go_num,⟨_,by first|rfl|exact World.drewN_drewN _ _ _⟩,YR.out⟩
       case measure=>simp[BF];omega
     ·obtain rfl:k=i:=a5;have gk:decide ((k:Int)<(k:Int))=false:=a8;have xy:Hid (∀(j:Nat) (t:Cy),j<k+1->l[j]?=AE t->LC l j t):=λj u I hu=>by
       rcases Ak j k with h|h
       ·exact HJ.out j u h hu
       ·obtain rfl:j=k:=a5;rw[HT.out]at hu;injection hu with hu
        rw[<-hu];exact⟨QG.out.1,QG.out.2,WG.out,λ_=>WX.out,λk u hk hu _=>HK.out k u hk hu⟩
      go_wp2
      go_roundw
      case rel=>exact⟨k+1,a5,by go_num,⟨_,rfl⟩,xy.out⟩
      case measure=>simp[BF];omega
   ·have g4:decide (tb≥0)=false:=by simpa using J
    have xy:Hid (∀(j:Nat) (t:Cy),j<i+1->l[j]?=AE t->LC l j t):=λj u I hu=>by
     rcases Ak j i with h|h
     ·exact HJ.out j u h hu
     ·obtain rfl:j=i:=a5;rw[HT.out]at hu;injection hu with hu
      rw[<-hu];exact⟨by show 0<=ta;omega,by show -1<=tb;omega,WG.out,λh=>absurd h J,λk u hk hu h=>absurd h J⟩
    clear Q hb gF;go_wp2_with fail
    go_loopw [4] (λkv wr=>∃k:Nat,k<=i/\kv=AA AB (k:Int)/\∃q,wr=w.drewN q) (λkv _=>i-(BF kv).toNat)
    case atStart=>exact⟨0,Ao _,rfl,q,rfl⟩
    case round=>
     obtain⟨k,hk,rfl,q9,rfl⟩:=hrel;by_cases ab:k<i
     ·have gk:decide ((k:Int)<(i:Int))=true:=by simp;omega
      go_wp2
      go_quiet (fail)
      go_wp2
      go_roundw
      case rel=>exact⟨k+1,a5,by go_num,_,rfl⟩
      case measure=>simp[BF];omega
     ·obtain rfl:k=i:=a5;have gk:decide ((k:Int)<(k:Int))=false:=a8;go_wp2
      go_roundw
      case rel=>exact⟨k+1,a5,by go_num,⟨_,rfl⟩,xy.out⟩
      case measure=>simp[BF];omega
  ·obtain rfl:i=n:=a5;have g0:decide ((i:Int)<(i:Int))=false:=a8;have HF:Hid (true=true↔DR l):=⟨λ_=>UP.2 λj t I=>HJ.out j t (by
    rcases Ak j l.length with h|h
    ·have:=Gg.out;omega
    ·rw[BG h]at I;cases I) I,λ_=>rfl⟩
   go_wp2
   go_ret
   exact .inr ⟨rfl,HF.out.1 (by trivial),q,rfl⟩
theorem AB1(b j:Nat):(b:Addr).add j=(b,j):=by unfold Cj;split<;>simp_all
def JX(out:List Cy)(t:Cy)(k:Nat):List Cy:=out.take k++t::out.drop k
theorem VW(out:List Cy)(t:Cy){k}(e:k<=out.length):(JX out t k).length=out.length+1:=by
 unfold JX;rw[Aa,BW,AZ,Aq];omega
theorem yf(out:List Cy)(t:Cy){k}(I:k<=out.length):(JX out t k).getD k Cz=t:=by
 unfold JX;have e:(out.take k).length=k:=by rw[AZ];omega
 rw[AT,AW a5,e,As];rfl
theorem sQ(out:List Cy)(t:Cy){p}(hp:p<out.length):(JX out t (p+1)).getD p Cz=out.getD p Cz:=by
 unfold JX;have e:(out.take (p+1)).length=p+1:=by rw[AZ];omega
 rw[AT,Aj a5,At,if_pos a5,AT]
theorem sP(out:List Cy)(t:Cy):JX out t out.length=out++[t]:=by unfold JX;simp
theorem lU(out:List Cy)(t:Cy){p}(hp:p<out.length):((JX out t (p+1)).set (p+1) (out.getD p Cz)).set p t=JX out t p:=by
 apply List.ext_getElem?;intro q;have l1:(out.take (p+1)).length=p+1:=by rw[AZ];omega
 have e:(out.take p).length=p:=by rw[AZ];omega
 have hlen:=VW out t (show p+1<=out.length by omega);have hu:out[p]?=AE (out.getD p Cz):=by rw[AT,AU hp];rfl
 rw[Aw,Aw,Bg,hlen];unfold JX;rcases CW q p with h|h|h
 ·rw[if_neg a5,if_neg a5,Aj a5,Aj a5,At,if_pos a5,At,if_pos a5]
 ·subst h;rw[if_pos rfl,if_pos a5,AW a5,e,As];rfl
 ·rw[if_neg a5];by_cases I:q=p+1
  ·subst I;rw[if_pos rfl,if_pos a5,AW a5,e,show p+1-p=0+1 by omega,AV,Bc,Nat.add_zero,hu]
  ·rw[if_neg a5,AW a5,AW a5,l1,e];obtain⟨r,rfl⟩:∃r,q=p+2+r:=⟨q-(p+2),a5⟩;rw[show p+2+r-(p+1)=r+1 by omega,show p+2+r-p=r+1+1 by omega,AV,AV,Bc,Bc]
   congr 1
   omega
def ak(w:World)(base m:Nat)(out:List Cy)(t:Cy)(e:Ending)(w':World):Prop:=
 ∃A c p,e=AH (AJ A (m+1) c)/\w'.ownsRow base 47 5 (AJ A (m+1) c) (m+1) (EB (JX out t p))/\p<=m/\(∀u∈out.drop p,t.a<u.a)/\(∀q u,q+1=p->out[q]?=AE u->u.a<=t.a)/\Below base w w'
theorem ez{w:World}{base m c A out}(t:Cy)(h:w.ownsRow base 47 5 (AJ A m c) m (EB out))(hm:out.length=m)(hn:m<=100000)(I1:base<=w):
  Calls AP 40 #[AJ A m c,AL #[t.a,t.b,t.c,t.d,t.e]] w (ak w base m out t):=by
 obtain⟨W1,EJ⟩:=ae (w.alloc (AK #[t.a,t.b,t.c,t.d,t.e] 47));have Dg:Below w w W1:=by rw[EJ];exact(AS _ _).alloc ar _
 have Et:Row W1 w 47 (DH t):=by rw[EJ];exact heap_alloc_new _ _
 have qK:=Gm h Dg;have xJ:Below base w W1:=Dg.mono I1;have DT:Below W1 W1 (W1.alloc (AK #[t.a,t.b,t.c,t.d,t.e] 47)):=(AS _ _).alloc ar _;have EC:Row (W1.alloc (AK #[t.a,t.b,t.c,t.d,t.e] 47)) W1 47 (DH t):=heap_alloc_new _ _;have dO:=AO (Gm qK DT);have Fg:=AO (xJ.trans (DT.mono (Ag I1 Dg.size)));have O8:=AO EC;obtain⟨q0,q1,q2,q3,q4⟩:=Et.q5;have HM:=AO hm;have aq:Hid (∀q,(AJ A m c).ownBlock=AE q->base<=q):=λq hq=>(h.lt q hq).1;have yC:=AO (Ag I1 Fg.out.size);have FQ:=AO EJ;generalize GP:ak w base m out t=Dh;replace GP:=AO GP;clear h I1 EJ Dg Et qK xJ DT EC hm;go_enter func40,ntmps40
 go_upto_region 1 with(fail)
 rw[<-FQ.out];clear FQ;generalize w.heap.size=tb at*
 go_wp2_with (with_reducible refine EW 10 ?_)
 unfold Hid;refine Le rfl _ _ rfl dO.out rfl W1 rfl t (λj y hj=>?_) a5 yC.out ?_
 ·rw[<-hj,AB1];exact O8.out.cell j
 intro v' W9 ER Vq gC;obtain⟨g,cap,rfl⟩:=Joins.ownsRow_form ER a5;have ao:Below base w W9:=Fg.out.trans (Vq.below yC.out λk hk=>aq.out k hk);have hg:base<=g:=(ER.lt g rfl).1;have HG:=AO hg;have av:=AO ao;have al:Hid (W9.ownsRow base 47 5 (AJ g (m+1) cap) (m+1) (EB (JX out t m))):=by
  have:=HM.out;subst this;rw[sP];exact ER
 clear ER Vq gC ao hg q0 q1 q2 q3 q4 dO Fg O8 yC aq;obtain⟨U,OF⟩:=ae (m+1);rw[<-OF]at al⊢;have dQ:=AO OF;have ab:(U:Int)-1=(m:Int):=a5;clear OF;go_wp2_with fail
 go_loopw [5] (λkv wr=>∃k:Nat,k<=m/\kv=AA AB (k:Int)/\Hid (Below base w wr)/\Hid (wr.ownsRow base 47 5 (AJ g U cap) U (EB (JX out t k)))/\Hid (∀u∈out.drop k,t.a<u.a)) (λkv _=>(BF kv).toNat)
 case atStart=>exact⟨m,AQ _,(by first|rfl|go_num),av.out,al.out,λu hu=>by rw[List.drop_of_length_le (by rw[HM.out];exact AQ _)]at hu;cases hu⟩
 case round=>
  obtain⟨k,hk,rfl,Tn,e,I⟩:=hrel;clear av al ab;by_cases Vn:k=0
  ·have gk:decide ((k:Int)>0)=false:=by simp;omega
   have aw:decide (0<k)=false:=by simp;omega
   have HF:Hid (∀q,Dh (AH (AJ g U cap)) (wr.drewN q)):=λq=>by
    rw[<-GP.out,dQ.out];have ho:=e.out;rw[dQ.out]at ho;exact⟨_,_,k,rfl,Gm ho (DA (AS _ _) q),hk,I.out,λq u hq=>by omega,DA Tn.out q⟩
   clear e Tn I Vn;go_wp2
   go_quiet (fail)
   go_wp2
   exact HF.out _
  ·obtain⟨p,qL⟩:∃p,k=p+1:=⟨k-1,a5⟩;have Ye:out.length=m:=HM.out;obtain⟨u,hu⟩:=ae (out.getD p Cz);have Zt:out[p]?=AE u:=by rw[hu,AT,AU (show p<out.length by omega)];rfl
   have pH:=AO Zt;have hlen:=VW out t (show k<=out.length by omega);have O:(JX out t k).getD p Cz=u:=by rw[hu,qL];exact sQ out t a5
   have Q:=yf out t (show k<=out.length by omega);have pI:Hid (((JX out t k).set k u).set p t=JX out t p):=by rw[hu,qL];exact lU out t a5
   have c0:wr.cell? (g,p*5)=AE (AA AB u.a):=Dk e.out (show p<(JX out t k).length by omega) (j:=0) (by rw[O];rfl);have c1:wr.cell? (g,p*5+1)=AE (AA AB u.b):=Dk e.out (show p<(JX out t k).length by omega) (j:=1) (by rw[O];rfl);have c2:wr.cell? (g,p*5+2)=AE (AA AB u.c):=Dk e.out (show p<(JX out t k).length by omega) (j:=2) (by rw[O];rfl);have c3:wr.cell? (g,p*5+3)=AE (AA AB u.d):=Dk e.out (show p<(JX out t k).length by omega) (j:=3) (by rw[O];rfl);have c4:wr.cell? (g,p*5+4)=AE (AA AB u.e):=Dk e.out (show p<(JX out t k).length by omega) (j:=4) (by rw[O];rfl);have d0:wr.cell? (g,k*5)=AE (AA AB t.a):=Dk e.out (show k<(JX out t k).length by omega) (j:=0) (by rw[Q];rfl);have d1:wr.cell? (g,k*5+1)=AE (AA AB t.b):=Dk e.out (show k<(JX out t k).length by omega) (j:=1) (by rw[Q];rfl);have d2:wr.cell? (g,k*5+2)=AE (AA AB t.c):=Dk e.out (show k<(JX out t k).length by omega) (j:=2) (by rw[Q];rfl);have d3:wr.cell? (g,k*5+3)=AE (AA AB t.d):=Dk e.out (show k<(JX out t k).length by omega) (j:=3) (by rw[Q];rfl);have d4:wr.cell? (g,k*5+4)=AE (AA AB t.e):=Dk e.out (show k<(JX out t k).length by omega) (j:=4) (by rw[Q];rfl);have e0:∀q,(wr.drewN q).cell? (g,p*5)=AE (AA AB u.a):=λ_=>c0;have e1:∀q,(wr.drewN q).cell? (g,k*5)=AE (AA AB t.a):=λ_=>d0;have gk:decide ((k:Int)>0)=true:=by simp;omega
   have aw:decide (0<k)=true:=by simp;omega
   have ab:(k:Int)-1=(p:Int):=a5;have p0:(0:Int)<=(p:Int):=a5;have p1:(p:Int)<(U:Int):=by have:=dQ.out;omega
   have k0:(0:Int)<=(k:Int):=a5;have k1:(k:Int)<(U:Int):=by have:=dQ.out;omega
   have RC:Ab.wrap (p:Int)=(p:Int):=by rw[BQ];omega
   by_cases hle:u.a>t.a
   rotate_left
   ·have ge:decide (u.a>t.a)=false:=by simpa using hle
    have HF:Hid (∀q,Dh (AH (AJ g U cap)) (wr.drewN q)):=λq=>by
     rw[<-GP.out,dQ.out];have ho:=e.out;rw[dQ.out]at ho;refine⟨_,_,k,rfl,Gm ho (DA (AS _ _) q),hk,I.out,λq2 y hq hy=>?_,DA Tn.out q⟩;obtain rfl:q2=p:=a5;rw[pH.out]at hy;injection hy with hy
     rw[<-hy];omega
    clear e Tn I Vn hle c0 c1 c2 c3 c4 d0 d1 d2 d3 d4 qL hu Zt hlen O Q pI Ye;go_wp2
    go_quiet (fail)
    go_wp2
    exact HF.out _
   ·have ge:decide (u.a>t.a)=true:=by simpa using hle
    have ax:Hid (∀y∈out.drop p,t.a<y.a):=λy hy=>by
     have hd:out.drop p=u::out.drop (p+1):=by
      rw[Bv (show p<out.length by omega)];have:=Zt;rw[AU (show p<out.length by omega)]at this;injection this with this
      rw[this]
     rw[hd]at hy;rcases A8.1 hy with rfl|hy
     ·exact hle
     ·exact I.out y (by rw[qL];exact hy)
    have au:Hid (k<(JX out t k).length/\p<(JX out t k).length):=⟨a5,a5⟩;have aA:=AO qL;have KC:Hid (∀W:World,W.ownsRow base 47 5 (AJ g U cap) U (EB (JX out t k))->W.cell? (g,p*5)=AE (AA AB u.a)/\W.cell? (g,p*5+1)=AE (AA AB u.b)/\W.cell? (g,p*5+2)=AE (AA AB u.c)/\W.cell? (g,p*5+3)=AE (AA AB u.d)/\W.cell? (g,p*5+4)=AE (AA AB u.e)/\W.cell? (g,k*5)=AE (AA AB t.a)/\W.cell? (g,k*5+1)=AE (AA AB t.b)/\W.cell? (g,k*5+2)=AE (AA AB t.c)/\W.cell? (g,k*5+3)=AE (AA AB t.d)/\W.cell? (g,k*5+4)=AE (AA AB t.e)):=λW h=>⟨Dk h (show p<(JX out t k).length by omega) (j:=0) (by rw[O];rfl),Dk h (show p<(JX out t k).length by omega) (j:=1) (by rw[O];rfl),Dk h (show p<(JX out t k).length by omega) (j:=2) (by rw[O];rfl),Dk h (show p<(JX out t k).length by omega) (j:=3) (by rw[O];rfl),Dk h (show p<(JX out t k).length by omega) (j:=4) (by rw[O];rfl),Dk h (show k<(JX out t k).length by omega) (j:=0) (by rw[Q];rfl),Dk h (show k<(JX out t k).length by omega) (j:=1) (by rw[Q];rfl),Dk h (show k<(JX out t k).length by omega) (j:=2) (by rw[Q];rfl),Dk h (show k<(JX out t k).length by omega) (j:=3) (by rw[Q];rfl),Dk h (show k<(JX out t k).length by omega) (j:=4) (by rw[Q];rfl)⟩;have HQ:Hid (∀q,Below base w (wr.drewN q)/\(wr.drewN q).ownsRow base 47 5 (AJ g U cap) U (EB (JX out t k))):=λq=>⟨DA Tn.out q,Gm e.out (DA (AS _ _) q)⟩;clear Tn e I Vn hle qL hu Zt hlen O Q Ye;go_wp2
    go_quiet (fail)
    have Fg:=AO (HQ.out nq).1;have dO:=AO (HQ.out nq).2;clear HQ c0 c1 c2 c3 c4 d0 d1 d2 d3 d4 e0 e1;generalize wr.drewN nq=w2 at*
    obtain⟨c0,c1,c2,c3,c4,d0,d1,d2,d3,d4⟩:=KC.out _ dO.out;have ED:=(AS w2 w2).alloc ar (AK #[t.a,t.b,t.c,t.d,t.e] 47);have FT:Row (w2.alloc (AK #[t.a,t.b,t.c,t.d,t.e] 47)) w2 47 (DH t):=heap_alloc_new _ _;have qa:=AO (Gm dO.out ED);have Ei:=AO (Fg.out.trans (ED.mono (by have:=(dO.out.lt g rfl);omega)));have IG:=AO FT;have az:Hid (w2≠g):=by have:=(dO.out.lt g rfl).2;unfold Hid;omega
    clear ED FT Fg dO;go_upto_region 6 with(fail)
    generalize w2.alloc (AK #[t.a,t.b,t.c,t.d,t.e] 47)=w3 at*
    generalize w2.heap.size=xb at*
    clear c0 c1 c2 c3 c4 d0 d1 d2 d3 d4;obtain⟨c0,c1,c2,c3,c4,d0,d1,d2,d3,d4⟩:=KC.out _ qa.out;have f0:=Bl qa.out (k*5);have f1:=Bl qa.out (k*5+1);have f2:=Bl qa.out (k*5+2);have f3:=Bl qa.out (k*5+3);have f4:=Bl qa.out (k*5+4);have an:=R6 qa.out au.out.1 u;have IE:=LZ Ei.out HG.out (k*5) u.a u.b u.c u.d u.e;have PU:DJ (λq=>q=g) w3 (((((w3.setCell (g,k*5) u.a).setCell (g,k*5+1) u.b).setCell (g,k*5+2) u.c).setCell (g,k*5+3) u.d).setCell (g,k*5+4) u.e):=(((((DJ.refl (λq=>q=g) w3).set (p:=(g,k*5)) (.inl rfl) _).set (p:=(g,k*5+1)) (.inl rfl) _).set (p:=(g,k*5+2)) (.inl rfl) _).set (p:=(g,k*5+3)) (.inl rfl) _).set (p:=(g,k*5+4)) (.inl rfl) _;have Jv:=PU.row IG.out az.out;have J:=AO an;have PL:=AO IE;have dM:=AO Jv;clear an IE PU Jv qa Ei IG;go_upto_region 7 with(fail)
    generalize(((((w3.setCell (g,k*5) u.a).setCell (g,k*5+1) u.b).setCell (g,k*5+2) u.c).setCell (g,k*5+3) u.d).setCell (g,k*5+4) u.e)=w4 at*
    clear c0 c1 c2 c3 c4 d0 d1 d2 d3 d4 f0 f1 f2 f3 f4;obtain⟨b0,b1,b2,b3,b4⟩:=dM.out.q5;obtain⟨v,hv⟩:=ae (((JX out t k).set k u).getD p Cz);have Gi:p<((JX out t k).set k u).length:=by rw[Bg];exact au.out.2
    have d0:w4.cell? (g,p*5)=AE (AA AB v.a):=Dk J.out Gi (j:=0) (by rw[<-hv];rfl);have d1:w4.cell? (g,p*5+1)=AE (AA AB v.b):=Dk J.out Gi (j:=1) (by rw[<-hv];rfl);have d2:w4.cell? (g,p*5+2)=AE (AA AB v.c):=Dk J.out Gi (j:=2) (by rw[<-hv];rfl);have d3:w4.cell? (g,p*5+3)=AE (AA AB v.d):=Dk J.out Gi (j:=3) (by rw[<-hv];rfl);have d4:w4.cell? (g,p*5+4)=AE (AA AB v.e):=Dk J.out Gi (j:=4) (by rw[<-hv];rfl);have f0:=Bl J.out (p*5);have f1:=Bl J.out (p*5+1);have f2:=Bl J.out (p*5+2);have f3:=Bl J.out (p*5+3);have f4:=Bl J.out (p*5+4);have ad:=R6 J.out Gi t;rw[pI.out]at ad;have ay:=AO ad;have EV:=AO (LZ PL.out HG.out (p*5) t.a t.b t.c t.d t.e);clear ad hv Gi J PL dM;go_wp2
    go_roundw
    case rel=>exact⟨p,a5,(by first|rfl|go_num),EV.out,ay.out,ax.out⟩
    case measure=>simp[BF];omega
inductive Rf (l:List Cy):Nat->Nat->Int->Int->Prop
 |first {j:Nat} {t:Cy}:l[j]?=AE t->dU l t.a->Rf l j 0 t.a 0
 |next {j n:Nat} {r:Int} {t:Cy}:t∈l->Rf l j n t.a r->0<=t.b->Rf l j (n+1) t.b (Ab.wrap (r+t.c))
section
variable{l:List Cy}
theorem Rf.rk{j n x r}(h:Rf l j n x r):Rk l n x r:=by
 induction h with
 |first ht hf=>exact .first (Ae ht) hf
 |next ht _ h0 ih=>exact .next ht ih h0
theorem Rk.rf{n x r}(h:Rk l n x r):∃j,j<l.length/\Rf l j n x r:=by
 induction h with
 |first ht hf=>
  obtain⟨j,e⟩:=Ax.1 ht;exact⟨j,I4 e,.first e hf⟩
 |next ht _ h0 I=>
  obtain⟨j,O,J⟩:=I;exact⟨j,O,.next ht J h0⟩
theorem Rf.lp(h:DR l):∀{n m j k} {x y r s},Rf l j n x r->Rf l k m y s->x=y->j=k/\n=m/\r=s:=by
 intro n
 induction n with
 |zero=>
  intro m j k x y r s J I e
  cases J with
  |first ht hf=>
   cases I with
   |first hu _=>exact⟨h.nd _ _ _ _ ht hu e,rfl,rfl⟩
   |next hu _ _=>exact absurd e.symm (hf _ hu)
 |succ n ih=>
  intro m j k x y r s J I e
  cases J with
  |next ht hr h0=>
   cases I with
   |first hu hf=>exact absurd e (hf _ ht)
   |next hu EC h02=>
    have:=h.ZO ht hu e h0;subst this;obtain⟨U,Q,O⟩:=ih hr EC rfl;subst U Q O;exact⟨rfl,rfl,rfl⟩
theorem Rf.only(h:DR l){n m j k}{x r s}(I:Rf l j n x r)(e:Rf l k m x s):j=k/\n=m/\r=s:=Rf.lp h I e rfl
theorem Rf.mem(h:DR l){j n}{x r}(e:Rf l j n x r):∃t∈l,t.a=x:=e.rk.mem h
theorem Rf.same(h:DR l):∀{n j} {x y r s},Rf l j n x r->Rf l j n y s->x=y/\r=s:=by
 intro n
 induction n with
 |zero=>
  intro j x y r s I e
  cases I with
  |first ht hf=>
   cases e with
   |first hu _=>rw[ht]at hu;injection hu with hu;subst hu;exact⟨rfl,rfl⟩
 |succ n ih=>
  intro j x y r s I e
  cases I with
  |next ht hr h0=>
   cases e with
   |next hu EC h02=>
    obtain⟨O,J⟩:=ih hr EC;have:=h.kj ht hu O;subst this J;exact⟨rfl,rfl⟩
theorem Rf.origin{j n x r}(h:Rf l j n x r):∃t,l[j]?=AE t/\dU l t.a:=by
 induction h with
 |first ht hf=>exact⟨_,ht,hf⟩
 |next _ _ _ ih=>exact ih
theorem Rf.ahead{j m x r}(h:Rf l j m x r):∀n,n<=m->∃y s,Rf l j n y s:=by
 induction h with
 |first ht hf=>
  intro n e;obtain rfl:n=0:=a5;exact⟨_,_,.first ht hf⟩
 |next ht hr h0 ih=>
  intro n e
  rename_i m' _ _
  rcases Ak n (m'+1)with I|I
  ·exact ih n a5
  ·obtain rfl:n=m'+1:=a5;exact⟨_,_,.next ht hr h0⟩
theorem Mv:∀(A B:List Int),A.Nodup->(∀x∈A,x∈B)->A.length<=B.length
 |[],B,_,_=>Ao _
 |a::A,B,hn,hs=>by
  have J:a∈B:=hs a Az;have O:=List.length_erase_of_mem J;have Q:0<B.length:=List.length_pos_of_mem J;have:=Mv A (B.erase a) (CK.1 hn).2 λy I=>by
   have:y≠a:=λe=>(CK.1 hn).1 (e▸I);exact(List.mem_erase_of_ne this).2 (hs y (BD _ I))
  simp only[BW];omega
theorem Rf.way(h:DR l){j n}{x r}(J:Rf l j n x r):∃A:List Int,A.length=n+1/\A.Nodup/\∀y∈A,∃k s,k<=n/\Rf l j k y s:=by
 induction J with
 |@first t ht hf=>exact⟨[t.a],rfl,a8,λy e=>by simp at e;subst e;exact⟨0,0,AQ _,.first ht hf⟩⟩
 |@next n r t ht hr h0 O=>
  obtain⟨A,J,U,h3⟩:=O;refine⟨t.b::A,by simp[J],CK.2 ⟨λhm=>?_,U⟩,λy e=>?_⟩
  ·obtain⟨k,s,Q,I⟩:=h3 _ hm;have:=(Rf.only h I (.next ht hr h0)).2.1;omega
  ·rcases A8.1 e with rfl|e
   ·exact⟨n+1,_,AQ _,.next ht hr h0⟩
   ·obtain⟨k,s,Q,I⟩:=h3 y e;exact⟨k,s,a5,I⟩
theorem Rf.lt(h:DR l){j n}{x r}(Q:Rf l j n x r):n<l.length:=by
 obtain⟨A,U,h3,h4⟩:=Q.way h;have:=Mv A (l.map (·.a)) h3 λy I=>by
  obtain⟨k,s,_,O⟩:=h4 y I;obtain⟨t,J,e⟩:=O.mem h;exact Av.2 ⟨t,J,e⟩
 rw[Ai]at this;omega
theorem Rf.i64{j n x r}(h:Rf l j n x r):Gj r:=by
 cases h with
 |first=>exact Gj.of a5 a5
 |next=>exact Gj.of (by rw[BQ];omega) (by rw[BQ];omega)
structure LG (l out:List Cy) (i n:Nat):Prop where
 rk:∀u∈out,(∃j m,Rf l j m u.a u.b/\(j<i\/j=i/\m<n))/\u.c=0/\u.d=0/\u.e=0
 up:out.Pairwise λu v=>u.a<v.a
 all:∀j m x r,Rf l j m x r->(j<i\/j=i/\m<n)->∃u∈out,u.a=x
theorem LG.zero:LG l [] 0 0:=⟨λu hu=>(by cases hu),.nil,λj m x r _ h=>by omega⟩
theorem LG.len(Q:DR l){out}{i n}(h:LG l out i n):out.length<=l.length:=by
 have:=Mv (out.map (·.a)) (l.map (·.a)) (Je h.up) λx I=>by
  obtain⟨u,hu,rfl⟩:=Av.1 I;obtain⟨⟨j,m,O,_⟩,_⟩:=h.rk u hu;obtain⟨t,J,e⟩:=O.mem Q;exact Av.2 ⟨t,J,e⟩
 rw[Ai,Ai]at this;exact this
theorem LG.fits(h0:DR l)(U:∀t∈l,D7 t){out}{i n}(h:LG l out i n):∀u∈out,D7 u:=λu hu=>by
 obtain⟨⟨j,m,O,_⟩,h1,h2,h3⟩:=h.rk u hu;obtain⟨t,Q,e⟩:=O.mem h0;have ha:=U t Q t.a (by simp[Cy.EE]);intro x J;have I:Gj 0:=Gj.of a5 a5;simp[Cy.EE]at J;rcases J with rfl|rfl|rfl|rfl|rfl
 ·rw[<-e];exact ha
 ·exact O.i64
 ·rw[h1];exact I
 ·rw[h2];exact I
 ·rw[h3];exact I
theorem LG.put(h0:DR l){out}{i n p}{x s}(h:LG l out i n)(hr:Rf l i n x s)(hp:p<=out.length)(hd:∀u∈out.drop p,x<u.a)(hb:∀q u,q+1=p->out[q]?=AE u->u.a<=x):LG l (JX out ⟨x,s,0,0,0⟩ p) i (n+1):=by
 have I:∀u,u∈JX out ⟨x,s,0,0,0⟩ p↔u=⟨x,s,0,0,0⟩\/u∈out:=λu=>by
  have:u∈out↔u∈out.take p\/u∈out.drop p:=by rw[<-Ah,BS]
  unfold JX;rw[Ah,A8,this];constructor
  ·rintro(h|h|h)
   ·exact .inr (.inl h)
   ·exact .inl h
   ·exact .inr (.inr h)
  ·rintro(h|h|h)
   ·exact .inr (.inl h)
   ·exact .inl h
   ·exact .inr (.inr h)
 have ab:∀u∈out,u.a≠x:=λu hu e=>by
  obtain⟨⟨j,m,U,O⟩,_⟩:=h.rk u hu;rw[e]at U;obtain⟨e1,e2,_⟩:=Rf.only h0 U hr;omega
 have Of:∀u∈out.take p,u.a<x:=λu hu=>by
  have hle:u.a<=x:=by
   obtain⟨q,J⟩:=Ax.1 hu;have RE:=I4 J;rw[AZ]at RE;rw[At,if_pos a5]at J;have Q:=AU (show p-1<out.length by omega);have h1:=hb (p-1) _ a5 Q;rcases Ak q (p-1)with h2|h2
   ·have h3:=Bh.1 h.up q (p-1) a5 a5 h2;rw[AU (show q<out.length by omega)]at J;injection J with J
    rw[J]at h3;omega
   ·obtain rfl:q=p-1:=a5;rw[Q]at J;injection J with J
    rw[<-J];exact h1
  have:=ab u (Bw hu);omega
 refine⟨λu hu=>?_,?_,λj m y r hy O=>?_⟩
 ·rcases(I u).1 hu with rfl|hu
  ·exact⟨⟨i,n,hr,.inr ⟨rfl,Nat.lt_succ_self _⟩⟩,rfl,rfl,rfl⟩
  ·obtain⟨⟨j,m,U,O⟩,hc⟩:=h.rk u hu;exact⟨⟨j,m,U,a5⟩,hc⟩
 ·unfold JX;have h1:(out.take p).Pairwise λu v=>u.a<v.a:=h.up.sublist (List.take_sublist _ _);have h2:(out.drop p).Pairwise λu v=>u.a<v.a:=h.up.sublist (List.drop_sublist _ _);rw[List.pairwise_append];refine⟨h1,List.pairwise_cons.2 ⟨λu hu=>hd u hu,h2⟩,λu hu v Q=>?_⟩;have h3:=Of u hu;rcases A8.1 Q with rfl|Q
  ·exact h3
  ·have:=hd v Q;omega
 ·rcases Ak m n with h3|h3
  ·obtain⟨u,hu,e⟩:=h.all j m y r hy a5;exact⟨u,(I u).2 (.inr hu),e⟩
  ·rcases O with h4|⟨rfl,h4⟩
   ·obtain⟨u,hu,e⟩:=h.all j m y r hy (.inl h4);exact⟨u,(I u).2 (.inr hu),e⟩
   ·obtain rfl:m=n:=a5;obtain⟨e,_⟩:=Rf.same h0 hy hr;exact⟨_,(I _).2 (.inl rfl),e.symm⟩
theorem LG.skip{out i n}(h:LG l out i n)(e:∀x r,¬Rf l i n x r):LG l out (i+1) 0:=
 ⟨λu hu=>by
  obtain⟨⟨j,m,hj,I⟩,hc⟩:=h.rk u hu;exact⟨⟨j,m,hj,a5⟩,hc⟩,h.up,λj m x r O I=>h.all j m x r O (by
  rcases Ak j i with Q|Q
  ·exact .inl Q
  ·obtain rfl:j=i:=a5;rcases Ak m n with J|J
   ·exact .inr ⟨rfl,J⟩
   ·obtain⟨y,s,U⟩:=O.ahead n J;exact absurd U (e y s))⟩
theorem iL(I:DR l){i n}{s r}{t}(J:t∈l)(O:Rf l i n t.a s)(hf:U3 l t.b r):(∃(q:Nat) (u:Cy),r=q/\l[q]?=AE u/\Rf l i (n+1) u.a (Ab.wrap (s+t.c)))\/(r=-1/\∀x y,¬Rf l i (n+1) x y):=by
 rcases hf with⟨q,u,e,hq,hu,_⟩|⟨e,hno⟩
 ·refine .inl ⟨q,u,e,hq,?_⟩;rw[hu];exact .next J O (by rw[<-hu];exact I.a0 u (Ae hq))
 ·refine .inr ⟨e,λx y Q=>?_⟩
  cases Q with
  |@next _ r2 t2 Tf EC h02=>
   obtain⟨e1,_⟩:=Rf.same I EC O;have:=I.kj Tf J e1;subst this;obtain⟨u,hu,U⟩:=I.sc t2 Tf h02;exact hno u hu U
theorem LG.done(O:DR l){out}(h:LG l out l.length 0):(out.length=l.length->Gx l out)/\(out.length≠l.length->¬GJ l):=by
 refine⟨λJ=>⟨λu hu=>?_,h.up,J⟩,λJ ⟨_,hr⟩=>J ?_⟩
 ·obtain⟨⟨j,m,I,_⟩,hc⟩:=h.rk u hu;exact⟨⟨m,I.rk⟩,hc⟩
 ·have h1:=h.len O;have h2:=Mv (l.map (·.a)) (out.map (·.a)) (Bh.2 λi j hi I Ii e=>by
   rw[Ai]at hi I;rw[List.getElem_map,List.getElem_map]at e;have:=O.nd i j _ _ (AU hi) (AU I) e;omega) λx Q=>by
   obtain⟨t,U,rfl⟩:=Av.1 Q;obtain⟨n,r,hk⟩:=hr t U;obtain⟨j,I,hf⟩:=hk.rf;obtain⟨u,hu,e⟩:=h.all j n _ _ hf (.inl I);exact Av.2 ⟨u,hu,e⟩
  rw[Ai,Ai]at h2;omega
end
def MA(n:Nat):Nat:=9*n+30
def KR:Nat:=450000
def o6(X:Cx)(os:List DD)(l:List Cy)(m:Nat)(e:Ending)(w':World):Prop:=
 (∃(F N:Nat) (out:List Cy) (m':Nat),e=AH (AM #[AL #[F,N,AA AB 2,out.length],()])/\Gh F N 2 (Cw X.sz ((2:Nat):Int)) out X.sz/\DR l/\Gx l out/\m'<=m+KR/\Wd X (os++[De F N 2 (Cw X.sz ((2:Nat):Int)) out X.sz]) m' w')\/
 (∃er m':Nat,e=AH (AM #[AL #[(),(),(),()],er])/\(er=3/\¬GJ l\/er=6/\¬X.cm\/er=5/\∀z,¬Rm X os z (MA l.length))/\m'<=m+KR/\Wd X os m' w')
theorem sL{X os l m e w'}(h:o6 X os l m e w')(J:GJ l)(O:X.cm)(I:∃z,Rm X os z (MA l.length)):
  ∃(F N:Nat) (out:List Cy) (m':Nat),e=AH (AM #[AL #[F,N,AA AB 2,out.length],()])/\Gh F N 2 (Cw X.sz ((2:Nat):Int)) out X.sz/\DR l/\Gx l out/\m'<=m+KR/\Wd X (os++[De F N 2 (Cw X.sz ((2:Nat):Int)) out X.sz]) m' w':=by
 rcases h with h|⟨er,m',_,h|h|h,_⟩
 ·exact h
 ·exact absurd J h.2
 ·exact absurd O h.2
 ·obtain⟨z,I⟩:=I;exact absurd I (h.2 z)
theorem AN8{X os l m e w'}(h:o6 X os l m e w')(J:¬GJ l)(O:X.cm)(I:∃z,Rm X os z (MA l.length)):
  ∃m',e=AH (AM #[AL #[AA AB 0,AA AB 0,AA AB 0,AA AB 0],AA AB (3:Nat)])/\m'<=m+KR/\Wd X os m' w':=by
 rcases h with⟨_,_,_,_,_,_,h0,h,_⟩|⟨er,m',he,h|h|h,h1,h2⟩
 ·exact absurd (h.ZY h0) J
 ·exact⟨m',by rw[he,h.1],h1,h2⟩
 ·exact absurd O h.2
 ·obtain⟨z,I⟩:=I;exact absurd I (h.2 z)
theorem IA{h c}(hh:2<=h):2*Cu h c<=c+1:=by
 have I:=Nat.div_add_mod c h;have e:2*(c/h)<=h*(c/h):=Af _ hh;unfold Cu
 split
 ·rename_i h3
  omega
 ·omega
theorem M4{sz k}(I:8<=sz)(J:1<=k/\k<=3):2<=Cw sz k:=by
 unfold Cw;rw[if_neg a5];have:k.toNat=1\/k.toNat=2\/k.toNat=3:=a5;rcases this with e|e|e<;>rw[e]<;>omega
theorem ZQ{X os z c q n}(h:Rm X os z (MA c))(Z:List DD)(E:List (Nat×Nat))(hZ:∀a∈Z,a.ex.2=0\/a.ex∈E)(hE:∀e∈E,e.2<=q)(hk:E.length<=3)(hn:n<=3*q)(hq:2*q<=c+1):∃y,Rm X (os++Z) y n:=by
 rcases BB n with h0|h0
 ·exact⟨0,λy J h2=>by omega⟩
 obtain⟨d,hd⟩:=ae (n+q);have Lr:1<=d:=a5;have ab:z<=z*d:=Nat.le_mul_of_pos_right z Lr;obtain⟨s,hs⟩:=ae (z*d-z);have I:∀e∈E.map (λe:Nat×Nat=>(e.1+s,e.2)),e.2<=q:=λe he=>by
  obtain⟨e',J,rfl⟩:=Av.1 he;exact hE e' J
 obtain⟨j,hj,U⟩:=VX (n:=n) (q:=q) (E.map λe=>(e.1+s,e.2)) ((Bo 4).map (z+·)) I (by
  refine List.Pairwise.map _ (λa b aD=>?_) List.nodup_range;omega) (by rw[Ai,Ai,List.length_range];omega)
 obtain⟨i,hi,rfl⟩:=Av.1 hj;have ad:i<4:=List.mem_range.1 hi;rw[<-hd]at U;have hm:(z+i)*d=z*d+i*d:=A7 _ _ _;have hid:i*d<=3*d:=Af _ a5;have Kw:MA c=9*c+30:=rfl;refine⟨z+i*d,λy J h2=>?_⟩;obtain⟨k1,k2⟩:=h y a5 (by rw[Kw];omega);refine⟨k1,λp a ha Q=>?_⟩;rcases Ah.1 (Ae ha)with O|O
 ·obtain⟨p',jT⟩:=Ax.1 O;exact k2 p' a jT Q
 ·have h3:a.ex.1<=y/\y<a.ex.1+a.ex.2:=Q;rcases hZ a O with h4|h4
  ·omega
  ·refine U (a.ex.1+s,a.ex.2) (Av.2 ⟨_,h4,rfl⟩) (y+s) (by rw[hm];omega) (by rw[hm];omega) ?_;show a.ex.1+s<=y+s/\y+s<a.ex.1+s+a.ex.2;omega
section
variable{l:List Cy}{k:Nat}{S S':List Cy}
theorem Sm.le(h0:DR l)(h:Sm l k S)(h':Sm l (k+1) S'):PO S'<=PO S:=by
 have ab:2^(k+1)=2^k+2^k:=by rw[Nat.pow_succ];omega
 have:=GZ (WQ S') (WQ S) (Ph h'.up) λx hx=>by
  obtain⟨u,hu,hb,e⟩:=Im.1 hx;obtain⟨U,Tf,Q⟩:=h'.el u hu;obtain⟨v,I,O⟩:=h.all U Tf;refine Im.2 ⟨v,I,λhc=>?_,by rw[O,Q,e]⟩;obtain⟨m,hm,J⟩:=h.cl v I hc;rw[O,Q]at J;have:=(Rk.back h0 (h'.op u hu hb) J).1;omega
 rwa [KE,KE]at this
theorem XN(h:S'.Perm S):PO S'=PO S:=h.countP_eq _
end
def JF(X:Cx)(os:List DD)(c er:Nat):Prop:=er=6/\¬X.cm\/er=5/\∀z,¬Rm X os z (MA c)
def E8:List Value:=[(),(),(),(),()]
def o7(X:Cx)(os:List DD)(l S:List Cy)(k m:Nat)(e:Ending)(w':World):Prop:=
 (∃(F N:Nat) (S':List Cy) (m':Nat),e=AH (AM #[AL #[AA AB F,AA AB N,AA AB (3:Nat),AA AB (S'.length:Nat),AA AB (PO S':Nat)],AA AB 0])/\Gh F N 3 (Cw X.sz (3:Nat)) S' X.sz/\Sm l (k+1) S'/\PO S'<PO S/\m'<=m+14000/\Wd X (os++[De F N 3 (Cw X.sz (3:Nat)) S' X.sz]) m' w')\/
 (∃er m':Nat,e=AH (AM #[AL #[(),(),(),(),()],er])/\0<er/\(er=3/\¬GJ l\/JF X os l.length er)/\Wd X os m' w')
theorem AK6{t}(h:Db 3 t=true):t.d=0/\t.e=0:=by
 simpa [Db,Cy.EE]using h
theorem X5{t}(h:t.d=0/\t.e=0):Db 3 t=true:=by
 simp[Db,Cy.EE,h.1,h.2]
theorem Mp{t}:D7 t↔Gj t.a/\Gj t.b/\Gj t.c/\Gj t.d/\Gj t.e:=by
 unfold D7 Cy.EE;simp
theorem mW(x:Int):Gj (Ab.wrap x):=Gj.of (by rw[BQ];omega) (by rw[BQ];omega)
theorem MJ:Gj 0:=Gj.of a5 a5
theorem sj{S}(hS:∀u∈S,D7 u/\Db 3 u=true){t}(I:D7 t/\Db 3 t=true):D7 (lenT S t)/\Db 3 (lenT S t)=true:=by
 unfold lenT
 cases e:LK S t.b with
 |none=>exact I
 |some v=>
  obtain⟨J,_⟩:=Ko e;exact⟨Mp.2 ⟨(Mp.1 I.1).1,(Mp.1 (hS v J).1).2.1,mW _,MJ,MJ⟩,X5 ⟨rfl,rfl⟩⟩
theorem mD{S:List Cy}(hS:∀u∈S,D7 u/\Db 3 u=true):S.map (FM OZ)=S:=by
 have:∀u∈S,FM OZ u=u:=λu hu=>by
  obtain⟨I,e⟩:=AK6 (hS u hu).2;rw[oU]
  cases u
  simp only at I e;subst I e;rfl
 calc S.map (FM OZ)=S.map id:=List.map_congr_left λu hu=>this u hu
  _=S:=List.map_id S
section
variable{X:Cx}{m:Nat}{W:World}
theorem sw{pre post:List DD}{gl gw gas gs fa U ka ha ca fb nb kb hb cb op:Nat}{A S:List Cy}
  (gW:Gh fa U ka ha A X.sz)(wU:De fa U ka ha A X.sz∈pre++post)(Z9:A.length=ca)(LL:Gh fb nb kb hb S X.sz)(SX:De fb nb kb hb S X.sz∈pre++post)(M5:S.length=cb)
  (qF:S.Pairwise λu v=>u.a<=v.a)(UU:A.Pairwise λu v=>u.b<=v.b)(SY:∀t∈A,-1<=t.b)(J:∀t∈A,D7 (lenT S t)/\Db 3 (lenT S t)=true)
  (I:3*X.sz+DF DD.gw (pre++FY gl A S 0++post)<=X.rm)
  (hw:Cv gw 23 [AI (AE ⟨X.p.w,0,AD⟩)]∈pre++post)(has:Cv gas 28 [AA AB fa,AA AB U,AA AB ka,AA AB ca]∈pre++post)(hs:Cv gs 125 [AA AB fb,AA AB nb,AA AB kb,AA AB cb,AA AB op]∈pre++post):
  oz X (pre++FY gl A S 0++post) 88 #[AI (AE ⟨gw,0,AD⟩),AI (AE ⟨gas,0,AD⟩),AI (AE ⟨gs,0,AD⟩),AI (AE ⟨gl,0,AD⟩)] 3 (λl' os'=>l'=A.map (lenT S)/\os'=pre++FY gl A S ca++post)
   (λer os'=>(er=6/\¬X.cm\/er=5/\∀q,¬Rm X (pre++FY gl A S 0++post) q (Cu (Cw X.sz (3:Nat)) ca))/\∃i,os'=pre++FY gl A S i++post) (U+nb+ca+2) where
 ent:=λargs w=>by kernel_rfl
 call:=λzz m W h hz hn=>by
  have O:∀{a:DD},a∈pre++post->a∈pre++(post++zz):=λ{a} ha=>by
   rcases Ah.1 ha with hm|hm<;>simp[hm]
  have Gu:DF DD.gw (pre++FY gl A S 0++(post++zz))=DF DD.gw (pre++FY gl A S 0++post):=by
   rw[<-AR,DP,D5 _ hz];rfl
  refine(yu (m:=m) (by rw[<-AR];exact h) gW (O wU) Z9 LL (O SX) M5 qF UU SY J (by rw[Gu];exact I) a5 (O hw) (O has) (O hs)).mono ?_;rintro e w' (⟨F,N,he,NI,Q⟩|⟨er,i,he,Di,IB,Q⟩)
  ·rw[<-AR]at Q;exact .inl ⟨F,N,_,_,_,he,NI,⟨rfl,rfl⟩,a5,Q⟩
  ·rw[<-AR]at Q;refine .inr ⟨er,_,_,he,Di,⟨?_,i,rfl⟩,a5,Q⟩;rcases IB with h1|⟨h1,h2⟩
   ·exact .inl h1
   ·refine .inr ⟨h1,λq hq=>h2 q ?_⟩;rw[<-AR];exact GL hq hz
theorem Wf{os fb nb cb op k l S}(h:Wd X (os++[De fb nb 3 (Cw X.sz (3:Nat)) S X.sz]) m W)(hf:Gh fb nb 3 (Cw X.sz (3:Nat)) S X.sz)(h0:DR l)(hS:Sm l k S)(hc:S.length=cb)(M5:cb<=300)(Yd:PO S=op)(Di:0<op)
  (au:8*X.sz+DF DD.gw os<=X.rm)(NG:X.rm<=1000000)(hn:X.N+m+40000<=1000000):
  Calls AP 66 #[AI X.p.w,AL #[fb,nb,AA AB 3,cb,op]] W (o7 X os l S k m):=by
 have aR:=(Wd.bounds h).1;obtain⟨hh,Jw⟩:=ae (Cw X.sz (3:Nat));have aE:2<=hh:=by rw[Jw];exact M4 aR.1 a5
 obtain⟨fS,zh⟩:=ae (De fb nb 3 hh S X.sz);rw[<-Jw]at h hf;rw[<-zh]at h;obtain⟨s0,hs0⟩:=ae W.heap.size;obtain⟨W3,Ky⟩:=ae (((W.alloc (AK #[AI X.p.w] 23)).alloc (AK #[fb,nb,AA AB 3,cb,op] 125)).alloc (AK #[(),(),(),(),()] 125));obtain⟨B,hB⟩:∃B:List Value->List DD,∀cs,B cs=[Cv s0 23 [AI X.p.w],Cv (s0+1) 125 [fb,nb,AA AB 3,cb,op],Cv (s0+2) 125 cs]:=⟨_,λ_=>rfl⟩;have Yj:∀cs,Dr (B cs):=λcs q hq=>by rw[hB]at hq;simp at hq;rcases hq with rfl|rfl|rfl<;>exact⟨rfl,rfl⟩
 have aC:∀(w:World) (o:Obj),(w.alloc o).heap.size=w+1:=λw o=>by simp
 obtain⟨Q,NK⟩:∃Q:List Value->List DD,∀cs,Q cs=os++[fS]++B cs:=⟨_,λ_=>rfl⟩;have h3:Wd X (Q E8) m W3:=by
  have h1:=h.new ((AS W W).alloc ar (AK #[AI X.p.w] 23)) (heap_alloc_new _ _:Row _ _ 23 [AI X.p.w]) ar;have U:=h1.new ((AS _ _).alloc ar (AK #[fb,nb,AA AB 3,cb,op] 125)) (heap_alloc_new _ _:Row _ _ 125 [fb,nb,AA AB 3,cb,op]) ar;have h3:=U.new ((AS _ _).alloc ar (AK #[(),(),(),(),()] 125)) (heap_alloc_new _ _:Row _ _ 125 E8) ar;rw[<-Ky]at h3;simp only[aC,<-hs0,B8,Cd,AR,CQ,BL]at h3;rw[NK,hB];simp only[AR,CQ,BL];exact h3
 have hnb:2*nb<=cb+1:=by rw[hf.bn,hc];exact IA aE
 have Fl:cb=l.length:=by rw[<-hc,hS.len]
 have a7:fS.gr=AD:=by rw[zh];rfl
 have a3:fS.ex=(fb,nb):=by rw[zh];rfl
 have cO:∀cs,DF DD.gw (Q cs)=DF DD.gw os:=λcs=>by
  rw[NK,DP,D9,D5 _ (Yj _)];have:DD.gw fS=0:=by unfold DD.gw;rw[a7]
  omega
 have ax:∀cs Z,fS∈Q cs++Z:=λcs Z=>by rw[NK];simp
 obtain⟨qh,ba⟩:=ae ((cb+1)/2);have bc:2*qh<=cb+1:=a5;have I0:∀n,n<=cb->Cu hh n<=qh:=λn hn=>by
  have:=IA (c:=n) aE;omega
 have ML:∀(cs:List Value) (Z:List DD) (E:List (Nat×Nat)) (n:Nat),(∀a∈Z,a.ex.2=0\/a.ex∈E)->(∀e∈E,e.2<=qh)->E.length<=2->n<=3*qh->(∀z,¬Rm X (Q cs++Z) z n)->∀z,¬Rm X os z (MA l.length):=λcs Z E n k1 k2 k3 k4 k5 z hz=>by
  obtain⟨y,hy⟩:=ZQ hz ([fS]++B cs++Z) ((fb,nb)::E) (λa I=>by
   rcases Ah.1 I with I|I
   ·rcases Ah.1 I with I|I
    ·simp at I;subst I;exact .inr (by rw[a3];simp)
    ·exact .inl (Yj _ a I).2
   ·rcases k1 a I with h|h
    ·exact .inl h
    ·exact .inr (by simp[h])) (λe he=>by
   rcases A8.1 he with rfl|he
   ·show nb<=qh;omega
   ·exact k2 e he) (by simp only[BW];omega) k4 (by omega:2*qh<=l.length+1)
  refine k5 y ?_;rw[NK];simpa [AR]using hy
 obtain⟨ul,qG⟩:∃ul:Option Nat->List DD,(ul AD=[])/\∀g,ul (AE g)=[Cv g 28 Z4]:=⟨λu=>match u with|none=>[]|some g=>[Cv g 28 Z4],rfl,λ_=>rfl⟩;have ao:∀u,Dr (ul u):=λu q hq=>by
  cases u with
  |none=>rw[qG.1]at hq;cases hq
  |some g=>rw[qG.2]at hq;simp at hq;subst hq;exact⟨rfl,rfl⟩
 obtain⟨fc,Pu⟩:∃fc:List Value,fc=[AA AB fb,AA AB nb,AA AB (3:Nat),AA AB cb]:=⟨_,rfl⟩;obtain⟨AF,al⟩:∃AF:List Cy->Nat->Nat->Prop,∀A F N,AF A F N↔A.Perm S/\(A.Pairwise λu v=>u.b<=v.b)/\Gh F N 3 hh A X.sz:=⟨_,λ_ _ _=>BO⟩;have aB:∀{A F N},AF A F N->A.length=cb/\N<=qh:=λ{A F N} q=>by
  obtain⟨q1,_,q3⟩:=(al _ _ _).1 q;have e:A.length=cb:=by rw[q1.length_eq,hc]
  exact⟨e,by rw[q3.bn];exact I0 _ a5⟩
 have Ec:∀{cs Z M w},Wd X (Q cs++Z) M w->Row w s0 23 [AI X.p.w]/\Row w (s0+1) 125 [fb,nb,AA AB 3,cb,op]/\Row w (s0+2) 125 cs:=λ{cs Z M w} q=>
  ⟨q.Ek (by rw[NK,hB];simp),q.Ek (by rw[NK,hB];simp),q.Ek (by rw[NK,hB];simp)⟩
 have SR:∀{cs Z M w} (x0 x1 x2 x3 x4:Value),cs.length=5->Wd X (Q cs++Z) M w->Wd X (Q [x0,x1,x2,x3,x4]++Z) M (((((w.setCell (s0+2,0) x0).setCell (s0+2,1) x1).setCell (s0+2,2) x2).setCell (s0+2,3) x3).setCell (s0+2,4) x4):=λ{cs Z M w} x0 x1 x2 x3 x4 a0 q=>by
  have e1:∀cs,Q cs++Z=(os++[fS]++[Cv s0 23 [AI X.p.w],Cv (s0+1) 125 [fb,nb,AA AB 3,cb,op]])++Cv (s0+2) 125 cs::Z:=λcs=>by rw[NK,hB];simp
  rw[e1]at q⊢;have I:∀cs,((os++[fS]++[Cv s0 23 [AI X.p.w],Cv (s0+1) 125 [fb,nb,AA AB 3,cb,op]])++Cv (s0+2) 125 cs::Z)[(os++[fS]++[Cv s0 23 [AI X.p.w],Cv (s0+1) 125 [fb,nb,AA AB 3,cb,op]]).length]?=AE (Cv (s0+2) 125 cs):=λcs=>by rw[AW ar,As];rfl
  have NF:∀cs JU,((os++[fS]++[Cv s0 23 [AI X.p.w],Cv (s0+1) 125 [fb,nb,AA AB 3,cb,op]])++Cv (s0+2) 125 cs::Z).set (os++[fS]++[Cv s0 23 [AI X.p.w],Cv (s0+1) 125 [fb,nb,AA AB 3,cb,op]]).length (Cv (s0+2) 125 JU)=(os++[fS]++[Cv s0 23 [AI X.p.w],Cv (s0+1) 125 [fb,nb,AA AB 3,cb,op]])++Cv (s0+2) 125 JU::Z:=λcs JU=>by rw[Ap _ _ ar,As];rfl
  have k0:=q.store (I _) a6 0 x0;rw[NF]at k0;have k1:=k0.store (I _) a6 1 x1;rw[NF]at k1;have k2:=k1.store (I _) a6 2 x2;rw[NF]at k2;have k3:=k2.store (I _) a6 3 x3;rw[NF]at k3;have k4:=k3.store (I _) a6 4 x4;rw[NF]at k4
  match cs,a0 with
  |[c0,c1,c2,c3,c4],_=>exact k4
 have Z7:∀(cs:List Value) (Z:List DD) (M:Nat) (w:World) (u:Bf),Wd X (Q cs++Z) M w->CallsD AP 67 #[AI X.p.w,AL #[fb,nb,AA AB 3,cb]] u w λe u' w'=>u'=u/\(e=AH ()/\Row w' (s0+2) 125 cs/\Wd X (os++Z) M w'):=λcs Z M w u q=>by
  have e1:∀f,os++[f]++B cs++Z=os++f::(B cs++Z):=λf=>by simp
  rw[NK,e1]at q;have I:(os++fS::(B cs++Z))[os.length]?=AE fS:=a8;rw[zh]at I;refine(Is u (by rw[zh]at q;exact q) I hf.fst (by have:=hf.bn;have:=Dl hh S.length;omega) cb).mono ?_;rintro e u' w' ⟨k1,k2,k3⟩;have e2:(os++De fb nb 3 hh S X.sz::(B cs++Z)).set os.length Dw=os++Dw::(B cs++Z):=a8;rw[e2]at k3;refine⟨k1,k2,k3.Ek (by rw[hB];simp),?_⟩;have k4:=k3.cut rfl rfl;rw[<-AR]at k4;exact Wd.GB _ (Yj _) k4
 obtain⟨CA,ad⟩:∃CA:Option Nat->World->Prop,∀u w,CA u w↔Wd X (Q E8++ul u) m w:=⟨_,λ_ _=>BO⟩;obtain⟨CB,ny⟩:∃CB:Nat->Option Nat->World->Prop,∀g u w,CB g u w↔Wd X (Q E8++ul u++IC g X.p.w fc OZ) m w:=⟨_,λ_ _ _=>BO⟩;obtain⟨CC,qU⟩:∃CC:Option Nat->Nat->Nat->Nat->Nat->Nat->World->Prop,∀u F N K L er w,CC u F N K L er w↔((er=0/\K=3/\∃A m' J,Dr J/\L=A.length/\AF A F N/\m'<=m+7000/\Wd X (Q E8++ul u++(J++[De F N 3 hh A X.sz])) m' w)\/(0<er/\JF X os l.length er/\∃m' J,Dr J/\Wd X (Q E8++ul u++J) m' w)):=⟨_,λ_ _ _ _ _ _ _=>BO⟩;obtain⟨CD,iB⟩:∃CD:Nat->Nat->Nat->Nat->Nat->Nat->World->Prop,∀O F N K L er w,CD O F N K L er w↔((er=0/\K=3/\∃A m' J,Dr J/\L=A.length/\AF A F N/\m'<=m+7000/\Wd X (Q E8++Cv O 28 [F,N,K,L]::(J++[De F N 3 hh A X.sz])) m' w)\/(0<er/\JF X os l.length er/\∃m' J,Dr J/\Wd X (Q E8++Cv O 28 [F,N,K,L]::J) m' w)):=⟨_,λ_ _ _ _ _ _ _=>BO⟩;obtain⟨X1,az⟩:∃X1:Nat->World->Prop,∀er w,X1 er w↔0<er/\JF X os l.length er/\∃m' J,Dr J/\Wd X (Q E8++J) m' w:=⟨_,λ_ _=>BO⟩;obtain⟨CE,qT⟩:∃CE:Nat->Nat->Nat->Nat->Nat->Nat->World->Prop,∀O gl F N K L w,CE O gl F N K L w↔K=3/\∃A m' J,Dr J/\L=A.length/\AF A F N/\m'<=m+7000/\Wd X (Q E8++Cv O 28 [F,N,K,L]::Cv gl 125 E8::(J++[De F N 3 hh A X.sz])) m' w:=⟨_,λ_ _ _ _ _ _ _=>BO⟩;obtain⟨CG,xF⟩:∃CG:Nat->Nat->Nat->Nat->Nat->Nat->Nat->Nat->Nat->Nat->Nat->World->Prop,∀O gl F N K L F2 N2 K2 L2 n w,CG O gl F N K L F2 N2 K2 L2 n w↔K=3/\K2=3/\∃A S' m' J,Dr J/\L=A.length/\AF A F N/\L2=S'.length/\Gh F2 N2 3 hh S' X.sz/\(S'.Pairwise λu v=>u.a<=v.a)/\S'.Perm (A.map (lenT S))/\n=A.countP (gO S)/\m'<=m+14000/\
   Wd X (Q E8++Cv O 28 [F,N,K,L]::Cv gl 125 [F2,N2,K2,L2,n]::(J++[De F N 3 hh A X.sz,De F2 N2 3 hh S' X.sz])) m' w:=⟨_,λ_ _ _ _ _ _ _ _ _ _ _ _=>BO⟩
 obtain⟨X2,z8⟩:∃X2:Nat->Nat->Nat->Nat->Nat->World->Prop,∀F N K L er w,X2 F N K L er w↔0<er/\(er=3/\¬GJ l\/JF X os l.length er)/\K=3/\∃A m' J1 J2,Dr J1/\Dr J2/\AF A F N/\Wd X (Q E8++(J1++De F N 3 hh A X.sz::J2)) m' w:=⟨_,λ_ _ _ _ _ _=>BO⟩;obtain⟨Y2,ay⟩:∃Y2:Nat->Nat->Nat->Nat->Nat->Nat->Nat->Nat->Nat->World->Prop,∀F N K L F2 N2 K2 L2 n w,Y2 F N K L F2 N2 K2 L2 n w↔K=3/\K2=3/\∃A S' m' J,Dr J/\AF A F N/\L2=S'.length/\Gh F2 N2 3 hh S' X.sz/\Sm l (k+1) S'/\n=PO S'/\PO S'<PO S/\m'<=m+14000/\
   Wd X (Q [F2,N2,K2,L2,n]++(J++[De F N 3 hh A X.sz,De F2 N2 3 hh S' X.sz])) m' w:=⟨_,λ_ _ _ _ _ _ _ _ _ _=>BO⟩
 have nQ:∀(cs:List Value) (J1 J2:List DD) (A:List Cy) (F N L M:Nat) (w:World) (u:Bf),AF A F N->Wd X (Q cs++(J1++De F N 3 hh A X.sz::J2)) M w->CallsD AP 67 #[AI (AE ⟨X.p.w,0,AD⟩),AL #[AA AB F,AA AB N,AA AB (3:Nat),AA AB L]] u w λe u' w'=>u'=u/\(e=AH (AA AB 0)/\Wd X (Q cs++(J1++Dw::J2)) M w'):=λcs J1 J2 A F N L M w u hA q=>by
  have hN:=(aB hA).2;have hF:=((al _ _ _).1 hA).2.2;rw[<-AR]at q;have I:(Q cs++J1++De F N 3 hh A X.sz::J2)[(Q cs++J1).length]?=AE (De F N 3 hh A X.sz):=a8;refine(Is u q I hF.fst a5 L).mono ?_;rintro e u' w' ⟨k1,k2,k3⟩;have e2:(Q cs++J1++De F N 3 hh A X.sz::J2).set (Q cs++J1).length Dw=Q cs++(J1++Dw::J2):=a8;rw[e2]at k3;exact⟨k1,k2,k3⟩
 refine mF hs0 Ky (CA:=CA) (CB:=CB) (CC:=CC) (CD:=CD) (X1:=X1) (CE:=CE) (CF:=λ_ gl _ _ _ _ _ _ _ _ n w=>Row w gl 125 [(),(),(),(),n]) (CG:=CG) (X2:=X2) (Y2:=Y2)
  ⟨?_,?_,?_,?_,?_,?_,?_,?_,?_,?_,?_,?_,?_,?_,?_,?_,?_,?_,?_,?_,?_,?_,?_,?_⟩
 ·
  refine(ad _ _).2 ?_;rw[qG.1,AY];exact h3
 ·
  intro u w q;exact(ad _ _).2 (((ad _ _).1 q).drewN 1)
 ·
  intro w q;have q:=(ad _ _).1 q;rw[qG.1,AY]at q;refine(ad _ _).2 ?_;rw[qG.2];exact q.new ((AS w w).alloc ar (AK #[(),(),(),()] 28)) (heap_alloc_new _ _:Row _ _ 28 Z4) ar
 ·
  intro u w q;have k:=Ec ((ad _ _).1 q);exact⟨k.1,k.2.1⟩
 ·
  intro u w q;refine(S8 (o:=OZ) (first:=fb) (nb:=nb) (k:=3) (count:=cb) ((ad _ _).1 q)).mono ?_;rintro e w' ⟨g,he,hw,_⟩;exact⟨g,he,(ny _ _ _).2 (by rw[Pu];exact hw)⟩
 ·
  intro g w q;have q:=(ny _ _ _).1 q;rw[qG.1,AY]at q;refine(ny _ _ _).2 ?_;rw[qG.2];exact Wd.front (q.new ((AS w w).alloc ar (AK #[(),(),(),()] 28)) (heap_alloc_new _ _:Row _ _ 28 Z4) ar)
 ·
  intro g u w q;have q:=(ny _ _ _).1 q;rw[AR]at q;have k:=Ec q;exact⟨k.1,k.2.1⟩
 ·
  intro g u w q;have q:=(ny _ _ _).1 q;have Gu:DF DD.gw (Q E8++ul u)=DF DD.gw os:=by rw[DP,cO,D5 _ (ao u)];rfl
  have nM:DF DD.gw (Q E8++ul u++IC g X.p.w fc OZ)=DF DD.gw os:=by rw[DP,Gu,D5 _ (En _ _ _ _)];rfl
  have ab:=S7 (os:=Q E8++ul u) (g:=g) (o:=OZ) (first:=fb) (nb:=nb) (k:=3) (count:=cb) hf (by rw[<-zh];exact ax _ _) hc cU (by rw[Vd];omega) tK (by rw[Gu];omega) (by rw[Vd,<-Jw];omega);rw[Vd,<-Pu,mD hf.fit,<-Jw]at ab;refine(Mn (cb:=cb) (o:=o2) (once:=false) ab (λl' os' ⟨h1,U⟩=>by
   rw[h1,U,nM];exact⟨a5,a5⟩) M5 xN NG q a5).mono ?_
  unfold Mi;rw[<-Jw];rintro e w' (⟨F,N,l',s,os',m',he,NI,⟨IQ,Ff⟩,Gp,G9,hm,hw⟩|⟨er,os',m',he,hp,IB,hw⟩)
  ·subst IQ Ff;have hk:Dt false o2 s=s:=rfl;rw[hk]at he NI hw;refine⟨F,N,3,s.length,0,he,(qU _ _ _ _ _ _ _).2 (.inl ⟨rfl,rfl,s,m',IC g X.p.w fc OZ,En _ _ _ _,rfl,(al _ _ _).2 ⟨G9.perm.symm,AB0 Gp,NI⟩,a5,?_⟩)⟩;simpa [AR]using hw
  ·have cB:JF X os l.length er/\os'=Q E8++ul u++IC g X.p.w fc OZ:=by
    rcases IB with⟨h1,U⟩|⟨l',⟨h1,U⟩,h3⟩
    ·refine⟨?_,h1⟩;rcases U with U|⟨U,h3⟩
     ·exact .inl U
     ·exact .inr ⟨U,ML E8 (ul u) [] _ (λa I=>.inl (ao u a I).2) (λe he=>by cases he) a8 (by have:=I0 cb a5;omega) h3⟩
    ·refine⟨?_,h1⟩;rcases h3 with h3|⟨h3,F,N,hN,h4⟩
     ·exact .inl h3
     ·subst h1 U;have aq:N<=qh:=by rw[hN];exact I0 _ a5
      refine .inr ⟨h3,ML E8 (ul u++IC g X.p.w fc OZ++[De F N 3 hh l' X.sz]) [(F,N)] (3*N) (λa I=>?_) (λe he=>by simp at he;subst he;exact aq) a8 a5 (λz hz=>h4 z (by simpa [AR]using hz))⟩;rcases Ah.1 I with I|I
      ·rcases Ah.1 I with I|I
       ·exact .inl (ao u a I).2
       ·exact .inl (En _ _ _ _ a I).2
      ·simp at I;subst I;exact .inr (by simp;rfl)
   refine⟨0,0,0,0,er,he,(qU _ _ _ _ _ _ _).2 (.inr ⟨hp,cB.1,m',_,En _ _ _ _,by rw[<-cB.2];exact hw⟩)⟩
 ·
  intro u F N K L er w q;rcases(qU _ _ _ _ _ _ _).1 q with⟨_,_,A,m',J,_,_,_,_,q⟩|⟨_,_,m',J,_,q⟩
  ·rw[AR]at q;have k:=Ec q;exact⟨k.1,k.2.1⟩
  ·rw[AR]at q;have k:=Ec q;exact⟨k.1,k.2.1⟩
 ·
  intro O F N K L er w q;have key:∀Z M,Wd X (Q E8++ul (AE O)++Z) M w->Row w O 28 [(),(),(),()]/\s0≠O/\s0+1≠O:=λZ M q=>by
   rw[qG.2]at q;have e0:(Q E8++[Cv O 28 Z4]++Z)[os.length+1]?=AE (Cv s0 23 [AI X.p.w]):=by rw[NK,hB];simp
   have e1:(Q E8++[Cv O 28 Z4]++Z)[os.length+2]?=AE (Cv (s0+1) 125 [fb,nb,AA AB 3,cb,op]):=by rw[NK,hB];simp
   have e2:(Q E8++[Cv O 28 Z4]++Z)[os.length+4]?=AE (Cv O 28 Z4):=by rw[NK,hB];simp
   exact⟨q.row e2,q.apart e0 e2 a5 (k:=s0) rfl,q.apart e1 e2 a5 (k:=s0+1) rfl⟩
  rcases(qU _ _ _ _ _ _ _).1 q with⟨_,_,A,m',J,_,_,_,_,q⟩|⟨_,_,m',J,_,q⟩
  ·exact key _ _ q
  ·exact key _ _ q
 ·
  intro F N K L er w q;have key:∀Z M,Wd X (Q E8++ul AD++Z) M w->Wd X (Q E8++Cv w 28 [F,N,K,L]::Z) M (w.alloc (AK #[F,N,K,L] 28)):=λZ M q=>by
   rw[qG.1,AY]at q;have:=Wd.front (q.new ((AS w w).alloc ar (AK #[F,N,K,L] 28)) (heap_alloc_new _ _:Row _ _ 28 [F,N,K,L]) ar);simpa using this
  rcases(qU _ _ _ _ _ _ _).1 q with⟨h1,U,A,m',J,k1,k2,k3,k4,q⟩|⟨h1,U,m',J,k1,q⟩
  ·exact(iB _ _ _ _ _ _ _).2 (.inl ⟨h1,U,A,m',J,k1,k2,k3,k4,key _ _ q⟩)
  ·exact(iB _ _ _ _ _ _ _).2 (.inr ⟨h1,U,m',J,k1,key _ _ q⟩)
 ·
  intro O F N K L er w q;have key:∀Z M,Wd X (Q E8++ul (AE O)++Z) M w->Wd X (Q E8++Cv O 28 [F,N,K,L]::Z) M ((((w.setCell O F).setCell (O,1) N).setCell (O,2) K).setCell (O,3) L):=λZ M q=>by
   rw[qG.2]at q;have e1:∀cs,Q E8++[Cv O 28 cs]++Z=Q E8++Cv O 28 cs::Z:=λcs=>by simp
   rw[e1]at q;have k4:=GD q (i:=(Q E8).length) (R:=O) (cs:=Z4) (by rw[AW ar,As];rfl) rfl F N K L;rw[Ap _ _ ar,As]at k4;exact k4
  rcases(qU _ _ _ _ _ _ _).1 q with⟨h1,U,A,m',J,k1,k2,k3,k4,q⟩|⟨h1,U,m',J,k1,q⟩
  ·exact(iB _ _ _ _ _ _ _).2 (.inl ⟨h1,U,A,m',J,k1,k2,k3,k4,key _ _ q⟩)
  ·exact(iB _ _ _ _ _ _ _).2 (.inr ⟨h1,U,m',J,k1,key _ _ q⟩)
 ·
  intro O F N K L er w q;rcases(iB _ _ _ _ _ _ _).1 q with⟨h1,U,A,m',J,k1,k2,k3,k4,q⟩|⟨h1,U,m',J,k1,q⟩
  ·have k:=Ec q;exact⟨k.1,q.Ek a8,k.2.2⟩
  ·have k:=Ec q;exact⟨k.1,q.Ek a8,k.2.2⟩
 ·
  intro O F N K L er w q aw;rcases(iB _ _ _ _ _ _ _).1 q with⟨h1,_⟩|⟨h1,U,m',J,k1,q⟩
  ·exact absurd h1 aw
  ·refine(az _ _).2 ⟨h1,U,m',Cv O 28 [F,N,K,L]::J,λa I=>?_,SR _ _ _ _ _ rfl q⟩;rcases A8.1 I with rfl|I
   ·exact⟨rfl,rfl⟩
   ·exact k1 a I
 ·
  intro er u w q;obtain⟨h1,U,m',J,k1,q⟩:=(az _ _).1 q;refine(Z7 _ _ _ _ u q).mono ?_;rintro e u' w' ⟨k2,k3,k4,k5⟩;have k6:=Wd.GB (b:=[]) J k1 (by rw[AY];exact k5);rw[AY]at k6;exact⟨k2,k3,k4,.inr ⟨er,m',rfl,h1,.inr U,k6⟩⟩
 ·
  intro O F N K L w q;rcases(iB _ _ _ _ _ _ _).1 q with⟨_,U,A,m',J,k1,k2,k3,k4,q⟩|⟨h1,_⟩
  ·refine(qT _ _ _ _ _ _ _).2 ⟨U,A,m',J,k1,k2,k3,k4,?_⟩;have e1:∀Z,Q E8++Cv O 28 [F,N,K,L]::Z=(Q E8++[Cv O 28 [F,N,K,L]])++Z:=λZ=>by simp
   rw[e1]at q⊢;have:=Wd.front (q.new ((AS w w).alloc ar (AK #[(),(),(),(),()] 125)) (heap_alloc_new _ _:Row _ _ 125 E8) ar);simpa using this
  ·omega
 ·
  intro O gl F N K L w q;obtain⟨_,A,m',J,_,_,_,_,q⟩:=(qT _ _ _ _ _ _ _).1 q;exact(Ec q).1
 ·
  intro O gl F N K L w q;obtain⟨h1,A,m1,J,k1,k2,k3,k4,qq⟩:=(qT _ _ _ _ _ _ _).1 q;subst h1;obtain⟨Tz,Ny,aD⟩:=(al _ _ _).1 k3;obtain⟨an,a2⟩:=aB k3;obtain⟨pre,Oh⟩:=ae (Q E8++[Cv O 28 [AA AB F,AA AB N,AA AB (3:Nat),AA AB L]]);obtain⟨post,EA⟩:=ae (J++[De F N 3 hh A X.sz]);have a1:FY gl A S 0=[Cv gl 125 E8]:=by unfold FY;simp[E1,E8]
  have hq:Wd X (pre++FY gl A S 0++post) m1 w:=by
   rw[Oh,EA,a1];simpa [AR]using qq
  have Gu:∀i,DF DD.gw (pre++FY gl A S i++post)=DF DD.gw os:=λi=>by
   have e1:DF DD.gw (FY gl A S i)=0:=rfl;have e2:DF DD.gw post=0:=by rw[EA,D9,D5 _ k1];rfl
   have e3:DF DD.gw pre=DF DD.gw os:=by rw[Oh,D9,cO];rfl
   rw[DP,DP,e1,e2,e3];rfl
  have wW:(A.map (lenT S)).length=cb:=by rw[Ai,an]
  have Ti:∀t∈A,-1<=t.b:=λt ht=>by
   by_cases hb:t.b=-1
   ·omega
   ·obtain⟨_,_,_,h9⟩:=hS.pos h0 (Tz.mem_iff.1 ht) hb;omega
  have ab:=sw (X:=X) (pre:=pre) (post:=post) (gl:=gl) (gw:=s0) (gas:=O) (gs:=s0+1) (op:=op) (ca:=cb) aD (by rw[EA];simp) an hf (by rw[Oh,<-zh];simp only[AR];exact ax _ _) hc (hS.up.imp λ{u v} h=>by omega) Ny Ti (λt ht=>sj hf.fit (aD.fit t ht)) (by rw[Gu];omega) (by rw[Oh,NK,hB];simp) (by rw[Oh,<-an,<-k2];simp) (by rw[Oh,NK,hB];simp);rw[<-Jw]at ab;refine(Mn (cb:=cb) (o:=o1) (once:=false) ab (λl' os' ⟨h1,U⟩=>by
   rw[h1,U,Gu,wW];exact⟨a5,a5⟩) M5 Ug NG hq a5).mono ?_
  unfold Mi;rw[<-Jw];have av:∀i Z M w,Wd X (pre++FY gl A S i++post++Z) M w->Row w gl 125 [(),(),(),(),((A.take i).countP (gO S):Nat)]:=λi Z M w q=>q.Ek (by simp[FY,E1]);have Og:∀(i:Nat) Z M w (x0 x1 x2 x3:Value),Wd X (pre++FY gl A S i++post++Z) M w->Wd X (Q E8++Cv O 28 [AA AB F,AA AB N,AA AB (3:Nat),AA AB L]::Cv gl 125 [x0,x1,x2,x3,AA AB ((A.take i).countP (gO S):Nat)]::(post++Z)) M ((((w.setCell ⟨gl,0,AD⟩ x0).setCell ⟨gl,1,AD⟩ x1).setCell ⟨gl,2,AD⟩ x2).setCell ⟨gl,3,AD⟩ x3):=λi Z M w x0 x1 x2 x3 q=>by
   have e1:pre++FY gl A S i++post++Z=pre++Cv gl 125 (E1 ((A.take i).countP (gO S)))::(post++Z):=by simp[FY]
   rw[e1]at q;have I:∀cs,(pre++Cv gl 125 cs::(post++Z))[pre.length]?=AE (Cv gl 125 cs):=λcs=>by simp
   have NF:∀cs JU,(pre++Cv gl 125 cs::(post++Z)).set pre.length (Cv gl 125 JU)=pre++Cv gl 125 JU::(post++Z):=λcs JU=>by simp
   have k0:=q.store (I _) a6 0 x0;rw[NF]at k0;have k1:=k0.store (I _) a6 1 x1;rw[NF]at k1;have k2:=k1.store (I _) a6 2 x2;rw[NF]at k2;have k3:=k2.store (I _) a6 3 x3;rw[NF]at k3;have e2:∀cs,pre++Cv gl 125 cs::(post++Z)=Q E8++Cv O 28 [AA AB F,AA AB N,AA AB (3:Nat),AA AB L]::Cv gl 125 cs::(post++Z):=λcs=>by rw[Oh];simp
   rw[e2]at k3;exact k3
  rintro e w' (⟨F2,N2,l',s,os',m',he,NI,⟨IQ,Ff⟩,Gp,G9,hm,hw⟩|⟨er,os',m',he,hp,IB,hw⟩)
  ·subst IQ Ff;have hk:Dt false o1 s=s:=rfl;rw[hk]at he NI hw;have Of:A.take cb=A:=by rw[<-an,B6]
   have hr:=av cb _ _ _ hw;have hs:=Og cb _ _ _ (AA AB F2) (AA AB N2) (AA AB (3:Nat)) (AA AB (s.length:Nat)) hw;rw[Of]at hr hs;refine⟨F2,N2,3,s.length,A.countP (gO S),0,he,hr,λ_=>(xF _ _ _ _ _ _ _ _ _ _ _ _).2 ⟨rfl,rfl,A,s,m',J,k1,k2,k3,rfl,NI,ag Gp,G9.perm.symm,rfl,a5,?_⟩,λh=>absurd rfl h⟩;rw[EA]at hs;simpa [AR]using hs
  ·obtain⟨cB,i,hi⟩:JF X os l.length er/\∃i,os'=pre++FY gl A S i++post:=by
    have cA:∀i,∀a∈[Cv O 28 [AA AB F,AA AB N,AA AB (3:Nat),AA AB L]]++FY gl A S i++post,a.ex.2=0\/a.ex∈[(F,N)]:=λi a I=>by
     rcases Ah.1 I with I|I
     ·rcases Ah.1 I with I|I
      ·simp at I;subst I;exact .inl rfl
      ·simp[FY]at I;subst I;exact .inl rfl
     ·rw[EA]at I;rcases Ah.1 I with I|I
      ·exact .inl (k1 a I).2
      ·simp at I;subst I;exact .inr (by simp;rfl)
    have aA:∀i,pre++FY gl A S i++post=Q E8++([Cv O 28 [AA AB F,AA AB N,AA AB (3:Nat),AA AB L]]++FY gl A S i++post):=λi=>by rw[Oh];simp
    rcases IB with⟨U,i,h1⟩|⟨l',⟨h1,U⟩,h3⟩
    ·refine⟨?_,i,h1⟩;rcases U with U|⟨U,h3⟩
     ·exact .inl U
     ·refine .inr ⟨U,ML E8 _ [(F,N)] (Cu hh cb) (cA 0) (λe he=>by simp at he;subst he;exact a2) a8 (by have:=I0 cb a5;omega) (λz hz=>h3 z (by rw[aA];exact hz))⟩
    ·refine⟨?_,cb,U⟩;rcases h3 with h3|⟨h3,F3,N3,hN,h4⟩
     ·exact .inl h3
     ·subst h1 U;have aq:N3<=qh:=by rw[hN,wW];exact I0 _ a5
      refine .inr ⟨h3,ML E8 ([Cv O 28 [AA AB F,AA AB N,AA AB (3:Nat),AA AB L]]++FY gl A S cb++post++[De F3 N3 3 hh (A.map (lenT S)) X.sz]) [(F,N),(F3,N3)] (3*N3) (λa I=>?_) (λe he=>by simp at he;rcases he with rfl|rfl<;>assumption) a8 a5 (λz hz=>h4 z (by rw[aA];simpa [AR]using hz))⟩;rcases Ah.1 I with I|I
      ·rcases cA cb a I with h|h
       ·exact .inl h
       ·exact .inr (by simp at h;simp[h])
      ·simp at I;subst I;exact .inr (by simp;exact .inr rfl)
   subst hi;have JS:Wd X (pre++FY gl A S i++post++[]) m' w':=by rw[AY];exact hw
   refine⟨0,0,0,0,_,er,he,av i _ _ _ JS,λh=>by omega,λaw Eo y8=>?_⟩;have hs:=Og i _ _ _ (AA AB (0:Nat)) (AA AB (0:Nat)) (AA AB (0:Nat)) (AA AB (0:Nat)) JS;rw[<-y8,AY,EA]at hs;refine⟨(z8 _ _ _ _ _ _).2 ⟨hp,.inr cB,rfl,A,m',Cv O 28 [AA AB F,AA AB N,AA AB (3:Nat),AA AB L]::Cv gl 125 [AA AB (0:Nat),AA AB (0:Nat),AA AB (0:Nat),AA AB (0:Nat),AA AB ((A.take i).countP (gO S):Nat)]::J,[],λa I=>?_,(λa I=>by cases I),k3,?_⟩,(Ec hs).2.2⟩
   ·rcases A8.1 I with rfl|I
    ·exact⟨rfl,rfl⟩
    ·rcases A8.1 I with rfl|I
     ·exact⟨rfl,rfl⟩
     ·exact k1 a I
   ·have:=SR () () () () () rfl hs;simpa [E8]using this
 ·
  intro O gl F N K L F2 N2 K2 L2 n w q;exact q
 ·
  intro O gl F N K L F2 N2 K2 L2 n w q;obtain⟨_,_,A,S',m',J,_,_,_,_,_,_,_,_,_,q⟩:=(xF _ _ _ _ _ _ _ _ _ _ _ _).1 q;have k:=Ec q;exact⟨⟨q.Ek a8,k.2.1⟩,k.1,k.2.2⟩
 ·
  intro O gl F N K L F2 N2 K2 L2 n w q a9;obtain⟨h1,U,A,S',m',J,k1,k2,k3,k4,k5,k6,k7,k8,k9,qq⟩:=(xF _ _ _ _ _ _ _ _ _ _ _ _).1 q;subst h1 U;have Tz:=((al _ _ _).1 k3).1;have aq:N2<=100000:=by have:=k5.bn;have:=Dl hh S'.length;have:=k5.len;omega
  have e1:∀f,Q E8++Cv O 28 [AA AB F,AA AB N,AA AB (3:Nat),AA AB L]::Cv gl 125 [AA AB F2,AA AB N2,AA AB (3:Nat),AA AB L2,AA AB n]::(J++[De F N 3 hh A X.sz,f])=(Q E8++(Cv O 28 [AA AB F,AA AB N,AA AB (3:Nat),AA AB L]::Cv gl 125 [AA AB F2,AA AB N2,AA AB (3:Nat),AA AB L2,AA AB n]::(J++[De F N 3 hh A X.sz])))++[f]:=λf=>by simp
  rw[e1]at qq;refine(OM qq (GI _ _) k5.fst a5 L2).mono ?_;rintro e w' ⟨he,hw⟩;rw[Gn]at hw;have ab:=SR (cs:=E8) () () () () () rfl (by rw[AR]at hw;exact hw);rw[AR]at hw;refine⟨he,(Ec hw).2.2,(z8 _ _ _ _ _ _).2 ⟨a5,.inl ⟨rfl,λhr=>?_⟩,rfl,A,m',Cv O 28 [AA AB F,AA AB N,AA AB (3:Nat),AA AB L]::Cv gl 125 [AA AB F2,AA AB N2,AA AB (3:Nat),AA AB L2,AA AB n]::J,[Dw],λa I=>?_,λa I=>?_,k3,by simpa [E8]using ab⟩⟩
  ·have wG:=hS.step h0 Tz k6 k7;have aS:=hS.less hr wG a5;have:=hS.count h0 Tz;rw[XN k7]at aS;omega
  ·rcases A8.1 I with rfl|I
   ·exact⟨rfl,rfl⟩
   ·rcases A8.1 I with rfl|I
    ·exact⟨rfl,rfl⟩
    ·exact k1 a I
  ·simp at I;subst I;exact⟨rfl,rfl⟩
 ·
  intro O gl F N K L F2 N2 K2 L2 n w q a9;obtain⟨h1,U,A,S',m',J,k1,k2,k3,k4,k5,k6,k7,k8,k9,qq⟩:=(xF _ _ _ _ _ _ _ _ _ _ _ _).1 q;subst h1 U;have Tz:=((al _ _ _).1 k3).1;have wG:=hS.step h0 Tz k6 k7;have Nu:=hS.count h0 Tz;have bb:=XN k7;have hle:=hS.le h0 wG;refine(ay _ _ _ _ _ _ _ _ _ _).2 ⟨rfl,rfl,A,S',m',Cv O 28 [AA AB F,AA AB N,AA AB (3:Nat),AA AB L]::Cv gl 125 [AA AB F2,AA AB N2,AA AB (3:Nat),AA AB L2,AA AB n]::J,λa I=>?_,k3,k4,k5,wG,a5,a5,k9,?_⟩
  ·rcases A8.1 I with rfl|I
   ·exact⟨rfl,rfl⟩
   ·rcases A8.1 I with rfl|I
    ·exact⟨rfl,rfl⟩
    ·exact k1 a I
  ·have:=SR (AA AB F2) (AA AB N2) (AA AB (3:Nat)) (AA AB L2) (AA AB n) rfl qq;simpa using this
 ·
  intro F N K L er u w q;obtain⟨h1,U,h3,A,m',J1,J2,k1,k2,k3,qq⟩:=(z8 _ _ _ _ _ _).1 q;subst h3;refine(nQ _ _ _ _ _ _ L _ _ u k3 qq).mono ?_;rintro e u' w' ⟨q1,q2,q3⟩;refine⟨q1,q2,λu2=>(Z7 _ _ _ _ u2 q3).mono ?_⟩;rintro e u' Eo ⟨q4,q5,q6,q7⟩;have QW:Dr (J1++Dw::J2):=λa I=>by
   rcases Ah.1 I with I|I
   ·exact k1 a I
   ·rcases A8.1 I with rfl|I
    ·exact⟨rfl,rfl⟩
    ·exact k2 a I
  have k6:=Wd.GB (b:=[]) _ QW (by rw[AY];exact q7);rw[AY]at k6;exact⟨q4,q5,q6,.inr ⟨er,m',rfl,h1,U,k6⟩⟩
 ·
  intro F N K L F2 N2 K2 L2 n u w q;obtain⟨h1,U,A,S',m',J,k1,k2,k3,k4,k5,k6,k7,k8,qq⟩:=(ay _ _ _ _ _ _ _ _ _ _).1 q;subst h1 U;refine(nQ _ J [De F2 N2 3 hh S' X.sz] _ _ _ L _ _ u k2 qq).mono ?_;rintro e u' w' ⟨q1,q2,q3⟩;refine⟨q1,q2,λu2=>(Z7 _ _ _ _ u2 q3).mono ?_⟩;rintro e u' Eo ⟨q4,q5,q6,q7⟩;have QW:Dr (J++[Dw]):=λa I=>by
   rcases Ah.1 I with I|I
   ·exact k1 a I
   ·simp at I;subst I;exact⟨rfl,rfl⟩
  have k9:=Wd.GB (a:=os) (b:=[De F2 N2 3 hh S' X.sz]) _ QW (by simpa [AR]using q7);refine⟨q4,q5,q6,.inl ⟨F2,N2,S',m',by rw[k3,k6],?_,k5,k7,k8,?_⟩⟩
  ·rw[<-Jw];exact k4
  ·rw[<-Jw];exact k9
end
def qA(X:Cx)(os:List DD)(l:List Cy)(m:Nat)(e:Ending)(w':World):Prop:=
 (∃(F N:Nat) (S:List Cy) (m':Nat),e=AH (AM #[AL #[AA AB F,AA AB N,AA AB (3:Nat),AA AB (S.length:Nat),AA AB (PO S:Nat)],AA AB 0])/\Gh F N 3 (Cw X.sz (3:Nat)) S X.sz/\DR l/\Sm l 0 S/\m'<=m+16000/\Wd X (os++[De F N 3 (Cw X.sz (3:Nat)) S X.sz]) m' w')\/
 (∃er m':Nat,e=AH (AM #[AL #[(),(),(),(),()],er])/\0<er/\(er=3/\¬DR l\/JF X os l.length er)/\Wd X os m' w')
theorem tL:Gj (-1):=Gj.of a5 a5
theorem um{L}(J:∀u∈L,D7 u/\Db 3 u=true){t}(I:D7 t):D7 (La L t)/\Db 3 (La L t)=true:=by
 unfold La
 cases e:LK L t.a with
 |some v=>exact J v (Ko e).1
 |none=>exact⟨Mp.2 ⟨(Mp.1 I).1,tL,MJ,MJ,MJ⟩,X5 ⟨rfl,rfl⟩⟩
section
variable{X:Cx}{m:Nat}{W:World}
theorem kF{os fi nb cb en l}(h:Wd X os m W)(hf:Gh fi nb 3 (Cw X.sz (3:Nat)) l X.sz)(an:De fi nb 3 (Cw X.sz (3:Nat)) l X.sz∈os)(hc:l.length=cb)(M5:cb<=300)(bm:en=l.countP I2)(a0:∀t∈l,0<=t.a)(b0:∀t∈l,-1<=t.b)
  (aS:8*X.sz+DF DD.gw os<=X.rm)(NG:X.rm<=1000000)(hn:X.N+m+40000<=1000000):
  Calls AP 65 #[AI X.p.w,AL #[fi,nb,AA AB 3,cb],en] W (qA X os l m):=by
 have aR:=(Wd.bounds h).1;obtain⟨hh,Jw⟩:=ae (Cw X.sz (3:Nat));obtain⟨h1,Vo⟩:=ae (Cw X.sz (1:Nat));have bq:2<=hh:=by rw[Jw];exact M4 aR.1 a5
 have bs:2<=h1:=by rw[Vo];exact M4 aR.1 a5
 rw[<-Jw]at hf an;obtain⟨s0,hs0⟩:=ae W.heap.size;obtain⟨W2,I8⟩:=ae ((W.alloc (AK #[fi,nb,AA AB 3,cb] 28)).alloc (AK #[(),(),(),(),()] 125));obtain⟨fc,Pu⟩:∃fc:List Value,fc=[AA AB fi,AA AB nb,AA AB (3:Nat),AA AB cb]:=⟨_,rfl⟩;obtain⟨B,hB⟩:∃B:List Value->List DD,∀cs,B cs=[Cv s0 28 fc,Cv (s0+1) 125 cs]:=⟨_,λ_=>rfl⟩;have Yj:∀cs,Dr (B cs):=λcs q hq=>by rw[hB]at hq;simp at hq;rcases hq with rfl|rfl<;>exact⟨rfl,rfl⟩
 have aC:∀(w:World) (o:Obj),(w.alloc o).heap.size=w+1:=λw o=>by simp
 obtain⟨O1,NK⟩:∃O1:List Value->List DD,∀cs,O1 cs=os++B cs:=⟨_,λ_=>rfl⟩;have h3:Wd X (O1 E8) m W2:=by
  have h1:=h.new ((AS W W).alloc ar (AK #[fi,nb,AA AB 3,cb] 28)) (by rw[Pu];exact heap_alloc_new _ _:Row _ _ 28 fc) ar;have h3:=h1.new ((AS _ _).alloc ar (AK #[(),(),(),(),()] 125)) (heap_alloc_new _ _:Row _ _ 125 E8) ar;rw[<-I8]at h3;simp only[aC,<-hs0,AR,CQ,BL]at h3;rw[NK,hB];exact h3
 have cO:∀cs,DF DD.gw (O1 cs)=DF DD.gw os:=λcs=>by rw[NK,DP,D5 _ (Yj _)];rfl
 have a2:∀cs Z,De fi nb 3 hh l X.sz∈O1 cs++Z:=λcs Z=>by rw[NK];simp[an]
 obtain⟨qh,bu⟩:=ae ((cb+1)/2);have I0:∀n,n<=cb->Cu hh n<=qh:=λn hn=>by
  have:=IA (c:=n) bq;omega
 have zn:∀n,n<=cb->Cu h1 n<=qh:=λn hn=>by
  have:=IA (c:=n) bs;omega
 have ML:∀(cs:List Value) (Z:List DD) (E:List (Nat×Nat)) (n:Nat),(∀a∈Z,a.ex.2=0\/a.ex∈E)->(∀e∈E,e.2<=qh)->E.length<=3->n<=3*qh->(∀z,¬Rm X (O1 cs++Z) z n)->∀z,¬Rm X os z (MA l.length):=λcs Z E n k1 U k3 k4 k5 z hz=>by
  obtain⟨y,hy⟩:=ZQ hz (B cs++Z) E (λa Q=>by
   rcases Ah.1 Q with Q|Q
   ·exact .inl (Yj _ a Q).2
   ·exact k1 a Q) U k3 k4 (by omega:2*qh<=l.length+1)
  refine k5 y ?_;rw[NK];simpa [AR]using hy
 obtain⟨EF,xE⟩:∃EF:List Cy->Nat->Nat->Prop,∀E F N,EF E F N↔Els l E/\Gh F N 1 h1 E X.sz/\E.length<=cb:=⟨_,λ_ _ _=>BO⟩;obtain⟨LF,uF⟩:∃LF:List Cy->Nat->Nat->Prop,∀A F N,LF A F N↔A.Perm (l.map Qi)/\(A.Pairwise λu v=>u.a<=v.a)/\Gh F N 3 hh A X.sz:=⟨_,λ_ _ _=>BO⟩;have aA:∀{E F N},EF E F N->N<=qh:=λ{E F N} q=>by
  obtain⟨_,q2,q3⟩:=(xE _ _ _).1 q;rw[q2.bn];exact zn _ q3
 have a9:∀{A F N},LF A F N->N<=qh/\A.length=cb:=λ{A F N} q=>by
  obtain⟨q1,_,q3⟩:=(uF _ _ _).1 q;have e:A.length=cb:=by rw[q1.length_eq,Ai,hc]
  exact⟨by rw[q3.bn];exact I0 _ a5,e⟩
 have Ec:∀{cs Z M w},Wd X (O1 cs++Z) M w->Row w s0 28 [fi,nb,AA AB 3,cb]/\Row w (s0+1) 125 cs:=λ{cs Z M w} q=>
  ⟨by have:Row w s0 28 fc:=q.Ek (by rw[NK,hB];simp);rw[Pu]at this;exact this,q.Ek (by rw[NK,hB];simp)⟩
 have SR:∀{cs Z M w} (x0 x1 x2 x3 x4:Value),cs.length=5->Wd X (O1 cs++Z) M w->Wd X (O1 [x0,x1,x2,x3,x4]++Z) M (((((w.setCell (s0+1,0) x0).setCell (s0+1,1) x1).setCell (s0+1,2) x2).setCell (s0+1,3) x3).setCell (s0+1,4) x4):=λ{cs Z M w} x0 x1 x2 x3 x4 bn q=>by
  have e1:∀cs,O1 cs++Z=(os++[Cv s0 28 fc])++Cv (s0+1) 125 cs::Z:=λcs=>by rw[NK,hB];simp
  rw[e1]at q⊢;have Q:∀cs,((os++[Cv s0 28 fc])++Cv (s0+1) 125 cs::Z)[(os++[Cv s0 28 fc]).length]?=AE (Cv (s0+1) 125 cs):=λcs=>by rw[AW ar,As];rfl
  have NF:∀cs JU,((os++[Cv s0 28 fc])++Cv (s0+1) 125 cs::Z).set (os++[Cv s0 28 fc]).length (Cv (s0+1) 125 JU)=(os++[Cv s0 28 fc])++Cv (s0+1) 125 JU::Z:=λcs JU=>by rw[Ap _ _ ar,As];rfl
  have k0:=q.store (Q _) a6 0 x0;rw[NF]at k0;have k1:=k0.store (Q _) a6 1 x1;rw[NF]at k1;have U:=k1.store (Q _) a6 2 x2;rw[NF]at U;have k3:=U.store (Q _) a6 3 x3;rw[NF]at k3;have k4:=k3.store (Q _) a6 4 x4;rw[NF]at k4
  match cs,bn with
  |[c0,c1,c2,c3,c4],_=>exact k4
 have Sc:∀cs Z M w,Wd X (O1 cs++Z) M w->Wd X (os++Z) M w:=λcs Z M w q=>by
  rw[NK]at q;exact Wd.GB _ (Yj _) q
 have Z6:∀(cs:List Value) (O I:List DD) (E:List Cy) (F N L M:Nat) (w:World) (u:Bf),EF E F N->Wd X (O1 cs++(O++De F N 1 h1 E X.sz::I)) M w->CallsD AP 67 #[AI (AE ⟨X.p.w,0,AD⟩),AL #[AA AB F,AA AB N,AA AB (1:Nat),AA AB L]] u w λe u' w'=>u'=u/\(e=AH (AA AB 0)/\Wd X (O1 cs++(O++Dw::I)) M w'):=λcs O I E F N L M w u hE q=>by
  have hN:=aA hE;have hF:=((xE _ _ _).1 hE).2.1;rw[<-AR]at q;have Q:(O1 cs++O++De F N 1 h1 E X.sz::I)[(O1 cs++O).length]?=AE (De F N 1 h1 E X.sz):=a8;refine(Is u q Q hF.fst a5 L).mono ?_;rintro e u' w' ⟨k1,U,k3⟩;have e2:(O1 cs++O++De F N 1 h1 E X.sz::I).set (O1 cs++O).length Dw=O1 cs++(O++Dw::I):=a8;rw[e2]at k3;exact⟨k1,U,k3⟩
 have nP:∀(cs:List Value) (O I:List DD) (A:List Cy) (F N L M:Nat) (w:World) (u:Bf),LF A F N->Wd X (O1 cs++(O++De F N 3 hh A X.sz::I)) M w->CallsD AP 67 #[AI (AE ⟨X.p.w,0,AD⟩),AL #[AA AB F,AA AB N,AA AB (3:Nat),AA AB L]] u w λe u' w'=>u'=u/\(e=AH (AA AB 0)/\Wd X (O1 cs++(O++Dw::I)) M w'):=λcs O I A F N L M w u hA q=>by
  have hN:=(a9 hA).1;have hF:=((uF _ _ _).1 hA).2.2;rw[<-AR]at q;have Q:(O1 cs++O++De F N 3 hh A X.sz::I)[(O1 cs++O).length]?=AE (De F N 3 hh A X.sz):=a8;refine(Is u q Q hF.fst a5 L).mono ?_;rintro e u' w' ⟨k1,U,k3⟩;have e2:(O1 cs++O++De F N 3 hh A X.sz::I).set (O1 cs++O).length Dw=O1 cs++(O++Dw::I):=a8;rw[e2]at k3;exact⟨k1,U,k3⟩
 have M6:∀{J:List DD} {a:DD},a.gr=AD/\a.ex.2=0->Dr J->Dr (a::J):=λ{J a} h1 h2 q hq=>by
  rcases A8.1 hq with rfl|hq
  ·exact h1
  ·exact h2 q hq
 have qO:∀{J K:List DD},Dr J->Dr K->Dr (J++K):=λ{J K} h1 h2 q hq=>by
  rcases Ah.1 hq with hq|hq
  ·exact h1 q hq
  ·exact h2 q hq
 have hex:∀{J:List DD} {E:List (Nat×Nat)},Dr J->∀a∈J,a.ex.2=0\/a.ex∈E:=λ{J E} h a Q=>.inl (h a Q).2;obtain⟨d,hd⟩:=ae (cb-en);have bD:en<=cb:=by rw[bm,<-hc];exact List.countP_le_length
 have bt:=λt ht=>(Mp.1 (hf.fit t ht).1).2.2.1;obtain⟨CC,qU⟩:∃CC:Nat->Nat->Nat->Nat->Nat->World->Prop,∀F N K L er w,CC F N K L er w↔((er=0/\K=1/\∃E m' J,Dr J/\L=E.length/\EF E F N/\m'<=m+7000/\Wd X (O1 E8++(J++[De F N 1 h1 E X.sz])) m' w)\/(0<er/\JF X os l.length er/\∃m' J,Dr J/\Wd X (O1 E8++J) m' w)):=⟨_,λ_ _ _ _ _ _=>BO⟩;obtain⟨CD,iB⟩:∃CD:Nat->Nat->Nat->Nat->Nat->Nat->World->Prop,∀ge F N K L er w,CD ge F N K L er w↔Row w ge 28 [F,N,K,L]/\((er=0/\K=1/\∃E m' O I,Dr O/\Dr I/\L=E.length/\EF E F N/\m'<=m+7000/\Cv ge 28 [F,N,K,L]∈I/\Wd X (O1 E8++(O++De F N 1 h1 E X.sz::I)) m' w)\/(0<er/\JF X os l.length er/\∃m' J,Dr J/\Wd X (O1 E8++J) m' w)):=⟨_,λ_ _ _ _ _ _ _=>BO⟩;obtain⟨CF,ba⟩:∃CF:Nat->Nat->Nat->Nat->Nat->Nat->World->Prop,∀g ge F N K L w,CF g ge F N K L w↔K=1/\∃E m' O I,Dr O/\Dr I/\L=E.length/\EF E F N/\E.length=cb/\m'<=m+7000/\Cv ge 28 [F,N,K,L]∈I/\Wd X (O1 E8++(O++De F N 1 h1 E X.sz::I)++IC g X.p.w fc OY) m' w:=⟨_,λ_ _ _ _ _ _ _=>BO⟩;obtain⟨CG,xF⟩:∃CG:Nat->Nat->Nat->Nat->Nat->Nat->Nat->Nat->Nat->Nat->World->Prop,∀ge F N K L F2 N2 K2 L2 er w,CG ge F N K L F2 N2 K2 L2 er w↔K=1/\∃E O I,Dr O/\Dr I/\L=E.length/\EF E F N/\E.length=cb/\Cv ge 28 [F,N,K,L]∈I/\
   ((er=0/\K2=3/\∃A m',L2=A.length/\LF A F2 N2/\m'<=m+14000/\Wd X (O1 E8++(O++De F N 1 h1 E X.sz::(I++[De F2 N2 3 hh A X.sz]))) m' w)\/(0<er/\JF X os l.length er/\∃m',Wd X (O1 E8++(O++De F N 1 h1 E X.sz::I)) m' w)):=⟨_,λ_ _ _ _ _ _ _ _ _ _ _=>BO⟩
 obtain⟨CH,av⟩:∃CH:Nat->Nat->Nat->Nat->Nat->Nat->Nat->Nat->Nat->Nat->Nat->World->Prop,∀ge gk F N K L F2 N2 K2 L2 er w,CH ge gk F N K L F2 N2 K2 L2 er w↔K=1/\Row w gk 28 [F2,N2,K2,L2]/\∃E O I,Dr O/\Dr I/\L=E.length/\EF E F N/\E.length=cb/\Cv ge 28 [F,N,K,L]∈I/\
   ((er=0/\K2=3/\∃A m' J3,Dr J3/\L2=A.length/\LF A F2 N2/\m'<=m+14000/\Cv gk 28 [F2,N2,K2,L2]∈J3/\Wd X (O1 E8++(O++De F N 1 h1 E X.sz::(I++De F2 N2 3 hh A X.sz::J3))) m' w)\/(0<er/\JF X os l.length er/\∃m',Wd X (O1 E8++(O++De F N 1 h1 E X.sz::I)) m' w)):=⟨_,λ_ _ _ _ _ _ _ _ _ _ _ _=>BO⟩
 obtain⟨CI,aD⟩:∃CI:Nat->Nat->Nat->Nat->Nat->Nat->Nat->Nat->Nat->Nat->Nat->World->Prop,∀ge gk gs F N K L F2 N2 K2 L2 w,CI ge gk gs F N K L F2 N2 K2 L2 w↔K=1/\K2=3/\∃E A m' O I J3,Dr O/\Dr I/\Dr J3/\L=E.length/\EF E F N/\E.length=cb/\L2=A.length/\LF A F2 N2/\m'<=m+14000/\Cv ge 28 [F,N,K,L]∈I/\Cv gk 28 [F2,N2,K2,L2]∈J3/\
   Wd X (O1 E8++(O++De F N 1 h1 E X.sz::(I++De F2 N2 3 hh A X.sz::J3))++[Cv gs 125 E8]) m' w:=⟨_,λ_ _ _ _ _ _ _ _ _ _ _ _=>BO⟩
 obtain⟨CJ,au⟩:∃CJ:Nat->Nat->Nat->Nat->Nat->Nat->Nat->Nat->Nat->Nat->Nat->Nat->Nat->Nat->World->Prop,∀gs F N K L F2 N2 K2 L2 F3 N3 K3 L3 n w,CJ gs F N K L F2 N2 K2 L2 F3 N3 K3 L3 n w↔K=1/\K2=3/\K3=3/\∃E A m' O I J3,Dr O/\Dr I/\Dr J3/\EF E F N/\E.length=cb/\LF A F2 N2/\n=E.countP (NN A)/\L3=(E.map (La A)).length/\Gh F3 N3 3 hh (E.map (La A)) X.sz/\m'<=m+16000/\
   Wd X (O1 E8++(O++De F N 1 h1 E X.sz::(I++De F2 N2 3 hh A X.sz::(J3++Cv gs 125 [F3,N3,K3,L3,n]::[De F3 N3 3 hh (E.map (La A)) X.sz])))) m' w:=⟨_,λ_ _ _ _ _ _ _ _ _ _ _ _ _ _ _=>BO⟩
 obtain⟨X1,ax⟩:∃X1:Nat->Nat->Nat->Nat->Nat->World->Prop,∀F N K L er w,X1 F N K L er w↔0<er/\(er=3/\¬DR l\/JF X os l.length er)/\K=1/\∃E m' O I,Dr O/\Dr I/\EF E F N/\Wd X (O1 E8++(O++De F N 1 h1 E X.sz::I)) m' w:=⟨_,λ_ _ _ _ _ _=>BO⟩;obtain⟨X2,z8⟩:∃X2:Nat->Nat->Nat->Nat->Nat->Nat->Nat->Nat->Nat->World->Prop,∀F N K L F2 N2 K2 L2 er w,X2 F N K L F2 N2 K2 L2 er w↔0<er/\(er=3/\¬DR l\/JF X os l.length er)/\K=1/\K2=3/\∃E A m' O I J3,Dr O/\Dr I/\Dr J3/\EF E F N/\LF A F2 N2/\Wd X (O1 E8++(O++De F N 1 h1 E X.sz::(I++De F2 N2 3 hh A X.sz::J3))) m' w:=⟨_,λ_ _ _ _ _ _ _ _ _ _=>BO⟩;obtain⟨Y2,a3⟩:∃Y2:Nat->Nat->Nat->Nat->Nat->Nat->Nat->Nat->Nat->Nat->Nat->Nat->Nat->World->Prop,∀F N K L F2 N2 K2 L2 F3 N3 K3 L3 n w,Y2 F N K L F2 N2 K2 L2 F3 N3 K3 L3 n w↔K=1/\K2=3/\K3=3/\∃E A S m' O I J3,Dr O/\Dr I/\Dr J3/\EF E F N/\LF A F2 N2/\DR l/\Sm l 0 S/\n=PO S/\L3=S.length/\Gh F3 N3 3 hh S X.sz/\m'<=m+16000/\
   Wd X (O1 [F3,N3,K3,L3,n]++(O++De F N 1 h1 E X.sz::(I++De F2 N2 3 hh A X.sz::(J3++[De F3 N3 3 hh S X.sz])))) m' w:=⟨_,λ_ _ _ _ _ _ _ _ _ _ _ _ _ _=>BO⟩
 refine aX (d:=d) hs0 I8 a5 a5 (CA:=λw=>Wd X (O1 E8) m w) (CB:=λg w=>Wd X (O1 E8++IC g X.p.w fc o1) m w) (CC:=CC) (CD:=CD) (CF:=CF) (CG:=CG) (CH:=CH) (CI:=CI) (CJ:=CJ) (X1:=X1) (X2:=X2) (Y2:=Y2)
  ⟨h3,?_,?_,?_,?_,?_,?_,?_,?_,?_,?_,?_,?_,?_,?_,?_,?_,?_,?_,?_,?_,?_⟩
 ·
  intro w q;exact(Ec (Z:=[]) (by rw[AY];exact q)).1
 ·
  intro w q;refine(S8 (o:=o1) (first:=fi) (nb:=nb) (k:=3) (count:=cb) q).mono ?_;rintro e w' ⟨g,he,hw,_⟩;exact⟨g,he,by rw[Pu];exact hw⟩
 ·
  intro g w q;have nM:DF DD.gw (O1 E8++IC g X.p.w fc o1)=DF DD.gw os:=by rw[DP,cO,D5 _ (En _ _ _ _)];rfl
  have ad:=S7 (os:=O1 E8) (g:=g) (o:=o1) (first:=fi) (nb:=nb) (k:=3) (count:=cb) hf (by have:=a2 E8 [];rwa [AY]at this) hc Ug (by rw[lz];omega) AF5 (by rw[cO];omega) (by rw[lz,<-Vo];omega);rw[lz,<-Pu,<-Vo]at ad;refine(Mn (cb:=cb) (o:=o1) (once:=true) ad (λl' os' ⟨k1,U⟩=>by
   rw[k1,U,nM,Ai];exact⟨a5,a5⟩) M5 Ug NG q (by have:=hf.bn;have:=I0 l.length a5;omega)).mono ?_
  unfold Mi;rw[<-Vo];rintro e w' (⟨F,N,l',s,os',m',he,NI,⟨IQ,Ff⟩,Gp,G9,hm,hw⟩|⟨er,os',m',he,hp,IB,hw⟩)
  ·subst IQ Ff;have bk:(Dt true o1 s).length<=cb:=by
    have k1:=SM true o1 s;have U:=G9.len;rw[Ai]at U;omega
   refine⟨F,N,1,_,0,he,(qU _ _ _ _ _ _).2 (.inl ⟨rfl,rfl,Dt true o1 s,m',IC g X.p.w fc o1,En _ _ _ _,rfl,(xE _ _ _).2 ⟨AA5 Gp G9,NI,bk⟩,?_,?_⟩)⟩
   ·have:=hf.bn;have:=I0 l.length a5;omega
   ·simpa [AR]using hw
  ·have cB:JF X os l.length er/\os'=O1 E8++IC g X.p.w fc o1:=by
    rcases IB with⟨k1,U⟩|⟨l',⟨k1,U⟩,k3⟩
    ·refine⟨?_,k1⟩;rcases U with U|⟨U,k3⟩
     ·exact .inl U
     ·exact .inr ⟨U,ML E8 [] [] (Cu h1 cb) (λa Q=>by cases Q) (λe he=>by cases he) a8 (by have:=zn cb a5;omega) (by rw[AY];exact k3)⟩
    ·refine⟨?_,k1⟩;rcases k3 with k3|⟨k3,F,N,hN,k4⟩
     ·exact .inl k3
     ·subst k1 U;have ay:N<=qh:=by rw[hN,Ai];exact zn _ a5
      refine .inr ⟨k3,ML E8 (IC g X.p.w fc o1++[De F N 1 h1 (l.map (FM o1)) X.sz]) [(F,N)] (3*N) (λa Q=>?_) (λe he=>by simp at he;subst he;exact ay) a8 a5 (λz hz=>k4 z (by simpa [AR]using hz))⟩;rcases Ah.1 Q with Q|Q
      ·exact hex (En _ _ _ _) a Q
      ·simp at Q;subst Q;exact .inr (by simp;rfl)
   exact⟨0,0,0,0,er,he,(qU _ _ _ _ _ _).2 (.inr ⟨hp,cB.1,m',_,En g X.p.w fc o1,by rw[<-cB.2];exact hw⟩)⟩
 ·
  intro F N K L er w q;have ab:Row (w.alloc (AK #[F,N,K,L] 28)) w 28 [F,N,K,L]:=heap_alloc_new _ _;refine(iB _ _ _ _ _ _ _).2 ⟨ab,?_⟩;rcases(qU _ _ _ _ _ _).1 q with⟨k1,U,E,m',J,k3,k4,k5,k6,qq⟩|⟨k1,U,m',J,k3,qq⟩
  ·have:=qq.new ((AS w w).alloc ar (AK #[F,N,K,L] 28)) ab ar;refine .inl ⟨k1,U,E,m',J,[Cv w 28 [F,N,K,L]],k3,λa Q=>?_,k4,k5,k6,a8,by simpa [AR]using this⟩;simp at Q;subst Q;exact⟨rfl,rfl⟩
  ·exact .inr ⟨k1,U,m',J,k3,qq.below ((AS w w).alloc ar _)⟩
 ·
  intro ge F N K L er w q;obtain⟨k0,q⟩:=(iB _ _ _ _ _ _ _).1 q;rcases q with⟨_,_,E,m',O,I,_,_,_,_,_,_,qq⟩|⟨_,_,m',J,_,qq⟩
  ·exact⟨⟨(Ec qq).1,k0⟩,(Ec qq).2⟩
  ·exact⟨⟨(Ec qq).1,k0⟩,(Ec qq).2⟩
 ·
  intro ge F N K L er w q aq;obtain⟨k0,q⟩:=(iB _ _ _ _ _ _ _).1 q;rcases q with⟨k1,_⟩|⟨k1,U,m',J,k3,qq⟩
  ·exact absurd k1 aq
  ·have k4:=SR () () () () () rfl qq;refine⟨(Ec k4).2,.inr ⟨er,m',rfl,k1,.inr U,?_⟩⟩;have k5:=Wd.GB (b:=[]) J k3 (by rw[AY];exact Sc _ _ _ _ k4);rwa [AY]at k5
 ·
  intro ge F N K L w q aw;obtain⟨k0,q⟩:=(iB _ _ _ _ _ _ _).1 q;rcases q with⟨_,U,E,m',O,I,k3,k4,k5,k6,k7,k8,qq⟩|⟨k1,_⟩
  ·exact(ax _ _ _ _ _ _).2 ⟨a5,.inl ⟨rfl,oO ((xE _ _ _).1 k6).1 a5⟩,U,E,m',O,I,k3,k4,k6,SR _ _ _ _ _ rfl qq⟩
  ·omega
 ·
  intro ge F N K L w q aw;obtain⟨k0,q⟩:=(iB _ _ _ _ _ _ _).1 q;rcases q with⟨_,U,E,m',O,I,k3,k4,k5,k6,k7,k8,qq⟩|⟨k1,_⟩
  ·refine(S8 (o:=OY) (first:=fi) (nb:=nb) (k:=3) (count:=cb) qq).mono ?_;rintro e w' ⟨g,he,hw,_⟩;have:=((xE _ _ _).1 k6).2.2;exact⟨g,he,(ba _ _ _ _ _ _ _).2 ⟨U,E,m',O,I,k3,k4,k5,k6,a5,k7,k8,by rw[Pu];exact hw⟩⟩
  ·omega
 ·
  intro g ge F N K L w q;obtain⟨k1,E,m1,O,I,U,k3,k4,k5,k6,k7,k8,qq⟩:=(ba _ _ _ _ _ _ _).1 q;have Gu:DF DD.gw (O1 E8++(O++De F N 1 h1 E X.sz::I))=DF DD.gw os:=by
   rw[DP,cO,DP,EL,D5 _ U,D5 _ k3];rfl
  have nM:DF DD.gw (O1 E8++(O++De F N 1 h1 E X.sz::I)++IC g X.p.w fc OY)=DF DD.gw os:=by rw[DP,Gu,D5 _ (En _ _ _ _)];rfl
  have ad:=S7 (os:=O1 E8++(O++De F N 1 h1 E X.sz::I)) (g:=g) (o:=OY) (first:=fi) (nb:=nb) (k:=3) (count:=cb) hf (a2 _ _) hc cT (by rw[Vc];omega) tJ (by rw[Gu];omega) (by rw[Vc,<-Jw];omega);rw[Vc,<-Pu,<-Jw]at ad;refine(Mn (cb:=cb) (o:=o1) (once:=false) ad (λl' os' ⟨k1,U⟩=>by
   rw[k1,U,nM,Ai];exact⟨a5,a5⟩) M5 Ug NG qq (by have:=hf.bn;have:=I0 l.length a5;omega)).mono ?_
  unfold Mi;rw[<-Jw];have hz:∀a∈O++De F N 1 h1 E X.sz::I,a.ex.2=0\/a.ex∈[(F,N)]:=λa Q=>by
   rcases Ah.1 Q with Q|Q
   ·exact hex U a Q
   ·rcases A8.1 Q with rfl|Q
    ·exact .inr (by simp;rfl)
    ·exact hex k3 a Q
  have a7:=aA k5;rintro e w' (⟨F2,N2,l',s,os',m',he,NI,⟨IQ,Ff⟩,Gp,G9,hm,hw⟩|⟨er,os',m',he,hp,IB,hw⟩)
  ·subst IQ Ff;have hk:Dt false o1 s=s:=rfl;rw[hk]at he NI hw;have MO:l.map (FM OY)=l.map Qi:=List.map_congr_left λt _=>oT t;rw[MO]at G9;refine⟨F2,N2,3,s.length,0,he,(xF _ _ _ _ _ _ _ _ _ _ _).2 ⟨k1,E,O,I++IC g X.p.w fc OY,U,qO k3 (En _ _ _ _),k4,k5,k6,by simp[k8],.inl ⟨rfl,rfl,s,m',rfl,(uF _ _ _).2 ⟨G9.perm.symm,ag Gp,NI⟩,?_,?_⟩⟩⟩
   ·have:=hf.bn;have:=I0 l.length a5;omega
   ·simpa [AR]using hw
  ·have cB:JF X os l.length er/\os'=O1 E8++(O++De F N 1 h1 E X.sz::I)++IC g X.p.w fc OY:=by
    rcases IB with⟨q1,q2⟩|⟨l',⟨q1,q2⟩,q3⟩
    ·refine⟨?_,q1⟩;rcases q2 with q2|⟨q2,q3⟩
     ·exact .inl q2
     ·exact .inr ⟨q2,ML E8 _ [(F,N)] (Cu hh cb) hz (λe he=>by simp at he;subst he;exact a7) a8 (by have:=I0 cb a5;omega) q3⟩
    ·refine⟨?_,q1⟩;rcases q3 with q3|⟨q3,F2,N2,hN,q4⟩
     ·exact .inl q3
     ·subst q1 q2;have ay:N2<=qh:=by rw[hN,Ai];exact I0 _ a5
      refine .inr ⟨q3,ML E8 (O++De F N 1 h1 E X.sz::I++IC g X.p.w fc OY++[De F2 N2 3 hh (l.map (FM OY)) X.sz]) [(F,N),(F2,N2)] (3*N2) (λa Q=>?_) (λe he=>by simp at he;rcases he with rfl|rfl<;>assumption) a8 a5 (λz hz=>q4 z (by simpa [AR]using hz))⟩;rcases Ah.1 Q with Q|Q
      ·rcases Ah.1 Q with Q|Q
       ·rcases hz a Q with h|h
        ·exact .inl h
        ·exact .inr (by simp at h;simp[h])
       ·exact hex (En _ _ _ _) a Q
      ·simp at Q;subst Q;exact .inr (by simp;exact .inr rfl)
   exact⟨0,0,0,0,er,he,(xF _ _ _ _ _ _ _ _ _ _ _).2 ⟨k1,E,O,I++IC g X.p.w fc OY,U,qO k3 (En _ _ _ _),k4,k5,k6,by simp[k8],.inr ⟨hp,cB.1,m',by have:=hw;rw[cB.2]at this;simpa [AR]using this⟩⟩⟩
 ·
  intro ge F N K L F2 N2 K2 L2 er w q;obtain⟨k1,E,O,I,U,k3,k4,k5,k6,k7,q⟩:=(xF _ _ _ _ _ _ _ _ _ _ _).1 q;have ab:Row (w.alloc (AK #[F2,N2,K2,L2] 28)) w 28 [F2,N2,K2,L2]:=heap_alloc_new _ _;refine(av _ _ _ _ _ _ _ _ _ _ _ _).2 ⟨k1,ab,E,O,I,U,k3,k4,k5,k6,k7,?_⟩;rcases q with⟨q1,q2,A,m',q3,q4,q5,qq⟩|⟨q1,q2,m',qq⟩
  ·have:=qq.new ((AS w w).alloc ar (AK #[F2,N2,K2,L2] 28)) ab ar;refine .inl ⟨q1,q2,A,m',[Cv w 28 [F2,N2,K2,L2]],λa Q=>?_,q3,q4,q5,a8,by simpa [AR]using this⟩;simp at Q;subst Q;exact⟨rfl,rfl⟩
  ·exact .inr ⟨q1,q2,m',qq.below ((AS w w).alloc ar _)⟩
 ·
  intro ge gk F N K L F2 N2 K2 L2 er w q;obtain⟨_,k0,E,O,I,_,_,_,_,_,_,q⟩:=(av _ _ _ _ _ _ _ _ _ _ _ _).1 q;rcases q with⟨_,_,A,m',J3,_,_,_,_,_,qq⟩|⟨_,_,m',qq⟩
  ·exact⟨k0,(Ec qq).2⟩
  ·exact⟨k0,(Ec qq).2⟩
 ·
  intro ge gk F N K L F2 N2 K2 L2 er w q aq;obtain⟨k1,_,E,O,I,U,k3,k4,k5,k6,k7,q⟩:=(av _ _ _ _ _ _ _ _ _ _ _ _).1 q;rcases q with⟨q1,_⟩|⟨q1,q2,m',qq⟩
  ·exact absurd q1 aq
  ·exact(ax _ _ _ _ _ _).2 ⟨q1,.inr q2,k1,E,m',O,I,U,k3,k5,SR _ _ _ _ _ rfl qq⟩
 ·
  intro ge gk F N K L F2 N2 K2 L2 w q;obtain⟨k1,_,E,O,I,U,k3,k4,k5,k6,k7,q⟩:=(av _ _ _ _ _ _ _ _ _ _ _ _).1 q;rcases q with⟨q1,q2,A,m',J3,q3,q4,q5,q6,q7,qq⟩|⟨q1,_⟩
  ·exact(aD _ _ _ _ _ _ _ _ _ _ _ _).2 ⟨k1,q2,E,A,m',O,I,J3,U,k3,q3,k4,k5,k6,q4,q5,q6,k7,q7,qq.new ((AS w w).alloc ar (AK #[(),(),(),(),()] 125)) (heap_alloc_new _ _:Row _ _ 125 E8) ar⟩
  ·omega
 ·
  intro ge gk gs F N K L F2 N2 K2 L2 w q;obtain⟨_,_,E,A,m',O,I,J3,_,_,_,_,_,_,_,_,_,k1,U,qq⟩:=(aD _ _ _ _ _ _ _ _ _ _ _ _).1 q;exact⟨qq.Ek (by simp[k1]),qq.Ek (by simp[U])⟩
 ·
  intro ge gk gs F N K L F2 N2 K2 L2 w q;obtain⟨q1,q2,E,A,m1,O,I,J3,k1,U,k3,k4,k5,k6,k7,k8,k9,bw,aE,qq⟩:=(aD _ _ _ _ _ _ _ _ _ _ _ _).1 q;subst q1 q2;obtain⟨ao,aB,bA⟩:=(xE _ _ _).1 k5;obtain⟨Tz,Ny,bb⟩:=(uF _ _ _).1 k8;have a7:=aA k5;obtain⟨bC,bB⟩:=a9 k8;obtain⟨P0,al⟩:=ae (O1 E8++(O++De F N 1 h1 E X.sz::(I++De F2 N2 3 hh A X.sz::J3)));rw[<-al]at qq;obtain⟨H,hH⟩:∃H:Nat->List DD,∀i,H i=[Cv gs 125 (E1 ((E.take i).countP (NN A)))]:=⟨_,λ_=>rfl⟩;have az:H 0=[Cv gs 125 E8]:=by rw[hH];simp[E1,E8]
  have bp:H=λi=>[Cv gs 125 (E1 ((E.take i).countP (NN A)))]:=funext hH;have Gu:DF DD.gw (P0++H 0++[])=DF DD.gw os:=by
   rw[AY,az,D9,al,DP,cO,DP,EL,DP,EL,D5 _ k1,D5 _ U,D5 _ k3];rfl
  have OF:De F N 1 h1 E X.sz∈P0++[]:=by rw[al];simp
  have bj:De F2 N2 3 hh A X.sz∈P0++[]:=by rw[al];simp
  have bo:=We (pre:=P0) (post:=[]) (H:=H) (key:=0) (ca:=L) (cb:=L2) (res:=La A) (by rw[bp];exact uh aB.len) (by rw[AY,az];exact qq) aB OF k4.symm bb bj k7.symm a5 Ny (ao.up.imp λ{u v} h=>by
   show u.a<=v.a;omega) (λt ht=>by
   show _<t.a;obtain⟨t',Yc,e⟩:=ao.el t ht;have:=a0 t' Yc;omega) (λt ht=>um bb.fit (aB.fit t ht).1) (by rw[Gu];omega) a5
  refine bo.mono ?_;unfold Mj;rw[<-Jw];have a1:∀i Z M w,Wd X (P0++H i++Z) M w->Row w gs 125 [(),(),(),(),((E.take i).countP (NN A):Nat)]:=λi Z M w q=>q.Ek (by simp[hH,E1]);have Og:∀(i:Nat) Z M w (x0 x1 x2 x3:Value),Wd X (P0++H i++Z) M w->Wd X (O1 E8++(O++De F N 1 h1 E X.sz::(I++De F2 N2 3 hh A X.sz::(J3++Cv gs 125 [x0,x1,x2,x3,((E.take i).countP (NN A):Nat)]::Z)))) M ((((w.setCell gs x0).setCell (gs,1) x1).setCell (gs,2) x2).setCell (gs,3) x3):=λi Z M w x0 x1 x2 x3 q=>by
   have e1:P0++H i++Z=P0++Cv gs 125 (E1 ((E.take i).countP (NN A)))::Z:=by simp[hH]
   rw[e1]at q;have Q:∀cs,(P0++Cv gs 125 cs::Z)[P0.length]?=AE (Cv gs 125 cs):=λcs=>by simp
   have NF:∀cs JU,(P0++Cv gs 125 cs::Z).set P0.length (Cv gs 125 JU)=P0++Cv gs 125 JU::Z:=λcs JU=>by simp
   have k0:=q.store (Q _) a6 0 x0;rw[NF]at k0;have k1:=k0.store (Q _) a6 1 x1;rw[NF]at k1;have U:=k1.store (Q _) a6 2 x2;rw[NF]at U;have k3:=U.store (Q _) a6 3 x3;rw[NF]at k3;have e2:∀cs,P0++Cv gs 125 cs::Z=O1 E8++(O++De F N 1 h1 E X.sz::(I++De F2 N2 3 hh A X.sz::(J3++Cv gs 125 cs::Z))):=λcs=>by rw[al];simp
   rw[e2]at k3;exact k3
  rintro e w' (⟨F3,N3,he,NI,hw⟩|⟨er,i,he,hp,IB,hw⟩)
  ·rw[AY]at hw;have Of:E.take L=E:=by rw[k4,B6]
   have hr:=a1 L _ _ _ hw;have hs:=Og L _ _ _ (AA AB F3) (AA AB N3) (AA AB (3:Nat)) (AA AB ((E.map (La A)).length:Nat)) hw;rw[Of]at hr hs;exact⟨F3,N3,3,_,E.countP (NN A),0,he,hr,λ_=>(au _ _ _ _ _ _ _ _ _ _ _ _ _ _ _).2 ⟨rfl,rfl,rfl,E,A,_,O,I,J3,k1,U,k3,k5,k6,k8,rfl,rfl,NI,a5,hs⟩,λh=>absurd rfl h⟩
  ·have cB:JF X os l.length er:=by
    rcases IB with h|⟨h,h2⟩
    ·exact .inl h
    ·refine .inr ⟨h,ML E8 (O++De F N 1 h1 E X.sz::(I++De F2 N2 3 hh A X.sz::(J3++[Cv gs 125 E8]))) [(F,N),(F2,N2)] (Cu hh L) (λa Q=>?_) (λe he=>by simp at he;rcases he with rfl|rfl<;>assumption) a8 (by have:=I0 L a5;omega) (λz hz=>h2 z (by rw[AY,az,al];simpa [AR]using hz))⟩;simp only[Ah,A8,List.not_mem_nil,or_false]at Q;rcases Q with Q|rfl|Q|rfl|Q|rfl
     ·exact hex k1 a Q
     ·exact .inr (by simp;exact .inl rfl)
     ·exact hex U a Q
     ·exact .inr (by simp;exact .inr rfl)
     ·exact hex k3 a Q
     ·exact .inl rfl
   have hs:=Og i _ _ _ (AA AB (0:Nat)) (AA AB (0:Nat)) (AA AB (0:Nat)) (AA AB (0:Nat)) hw;refine⟨0,0,0,0,_,er,he,a1 i _ _ _ hw,λh=>by omega,λaq Eo y8=>?_⟩;rw[<-y8]at hs;refine⟨(z8 _ _ _ _ _ _ _ _ _ _).2 ⟨hp,.inr cB,rfl,rfl,E,A,m1+N+N2+L+2,O,I,J3++[Cv gs 125 [AA AB (0:Nat),AA AB (0:Nat),AA AB (0:Nat),AA AB (0:Nat),AA AB ((E.take i).countP (NN A):Nat)]],k1,U,qO k3 (λa Q=>by simp at Q;subst Q;exact⟨rfl,rfl⟩),k5,k8,?_⟩,(Ec hs).2⟩;have:=SR () () () () () rfl hs;simpa [E8]using this
 ·
  intro gs F N K L F2 N2 K2 L2 F3 N3 K3 L3 n w q;obtain⟨_,_,_,E,A,m',O,I,J3,_,_,_,_,_,_,_,_,_,_,qq⟩:=(au _ _ _ _ _ _ _ _ _ _ _ _ _ _ _).1 q;exact⟨⟨qq.Ek a8,(Ec qq).1⟩,(Ec qq).2⟩
 ·
  intro gs F N K L F2 N2 K2 L2 F3 N3 K3 L3 n w q aw;obtain⟨q1,q2,q3,E,A,m',O,I,J3,k1,U,k3,k4,k5,k6,k7,k8,k9,bw,qq⟩:=(au _ _ _ _ _ _ _ _ _ _ _ _ _ _ _).1 q;subst q1 q2 q3;have ay:N3<=100000:=by have:=k9.bn;have:=Dl hh (E.map (La A)).length;have:=k9.len;omega
  have e1:∀f,O1 E8++(O++De F N 1 h1 E X.sz::(I++De F2 N2 3 hh A X.sz::(J3++Cv gs 125 [AA AB F3,AA AB N3,AA AB (3:Nat),AA AB L3,AA AB n]::[f])))=(O1 E8++(O++De F N 1 h1 E X.sz::(I++De F2 N2 3 hh A X.sz::(J3++[Cv gs 125 [AA AB F3,AA AB N3,AA AB (3:Nat),AA AB L3,AA AB n]]))))++[f]:=λf=>by simp
  rw[e1]at qq;refine(OM qq (GI _ _) k9.fst a5 L3).mono ?_;rintro e w' ⟨he,hw⟩;rw[Gn]at hw;have GS:=JQ ⟨rfl,rfl⟩ hw;have ad:=SR (cs:=E8) () () () () () rfl GS;refine⟨he,(Ec GS).2,(z8 _ _ _ _ _ _ _ _ _ _).2 ⟨a5,.inl ⟨rfl,λhl=>?_⟩,rfl,rfl,E,A,m',O,I,_,k1,U,qO k3 (λa Q=>by simp at Q;subst Q;exact⟨rfl,rfl⟩),k4,k6,ad⟩⟩;have:=(Uu ((xE _ _ _).1 k4).1 ((uF _ _ _).1 k6).1 a5 a0 b0).1 hl;omega
 ·
  intro gs F N K L F2 N2 K2 L2 F3 N3 K3 L3 n w q aw;obtain⟨q1,q2,q3,E,A,m',O,I,J3,k1,U,k3,k4,k5,k6,k7,k8,k9,bw,qq⟩:=(au _ _ _ _ _ _ _ _ _ _ _ _ _ _ _).1 q;subst q1 q2 q3;have ao:=((xE _ _ _).1 k4).1;have Tz:=((uF _ _ _).1 k6).1;have hl:DR l:=(Uu ao Tz a5 a0 b0).2 a5;refine(a3 _ _ _ _ _ _ _ _ _ _ _ _ _ _).2 ⟨rfl,rfl,rfl,E,A,E.map (La A),m',O,I,J3++[Cv gs 125 [AA AB F3,AA AB N3,AA AB (3:Nat),AA AB L3,AA AB n]],k1,U,qO k3 (λa Q=>by simp at Q;subst Q;exact⟨rfl,rfl⟩),k4,k6,hl,AA9 ao Tz a5 hl bt,by rw[k7];exact iq Tz a0,k8,k9,bw,?_⟩;have:=SR (AA AB F3) (AA AB N3) (AA AB (3:Nat)) (AA AB L3) (AA AB n) rfl qq;simpa [AR]using this
 ·
  intro F N K L er u w q;obtain⟨q1,q2,q3,E,m',O,I,k1,U,k3,qq⟩:=(ax _ _ _ _ _ _).1 q;subst q3;refine(Z6 _ _ _ _ _ _ L _ _ u k3 qq).mono ?_;rintro e u' w' ⟨r1,r2,r3⟩;have r4:=Sc _ _ _ _ r3;have k6:=Wd.GB (a:=os) (b:=[]) (O++Dw::I) (qO k1 (M6 (a:=Dw) ⟨rfl,rfl⟩ U)) (by rw[AY];exact r4);rw[AY]at k6;exact⟨r1,r2,(Ec r3).2,.inr ⟨er,m',rfl,q1,q2,k6⟩⟩
 ·
  intro F N K L F2 N2 K2 L2 er u w q;obtain⟨q1,q2,q3,q4,E,A,m',O,I,J3,k1,U,k3,k4,k5,qq⟩:=(z8 _ _ _ _ _ _ _ _ _ _).1 q;subst q3 q4;have e1:∀f,O1 E8++(O++De F N 1 h1 E X.sz::(I++f::J3))=O1 E8++((O++De F N 1 h1 E X.sz::I)++f::J3):=λf=>by simp
  rw[e1]at qq;refine(nP _ _ _ _ _ _ L2 _ _ u k5 qq).mono ?_;rintro e u' w' ⟨r1,r2,r3⟩;rw[<-e1]at r3;refine⟨r1,r2,λu2=>(Z6 _ _ _ _ _ _ L _ _ u2 k4 r3).mono ?_⟩;rintro e u' Eo ⟨r4,r5,r6⟩;have r7:=Sc _ _ _ _ r6;have k6:=Wd.GB (a:=os) (b:=[]) (O++Dw::(I++Dw::J3)) (qO k1 (M6 (a:=Dw) ⟨rfl,rfl⟩ (qO U (M6 (a:=Dw) ⟨rfl,rfl⟩ k3)))) (by rw[AY];exact r7);rw[AY]at k6;exact⟨r4,r5,(Ec r6).2,.inr ⟨er,m',rfl,q1,q2,k6⟩⟩
 ·
  intro F N K L F2 N2 K2 L2 F3 N3 K3 L3 n u w q;obtain⟨q3,q4,q5,E,A,S,m',O,I,J3,k1,U,k3,k4,k5,k6,k7,k8,k9,bw,aE,qq⟩:=(a3 _ _ _ _ _ _ _ _ _ _ _ _ _ _).1 q;subst q3 q4 q5;have e1:∀f cs,O1 cs++(O++De F N 1 h1 E X.sz::(I++f::(J3++[De F3 N3 3 hh S X.sz])))=O1 cs++((O++De F N 1 h1 E X.sz::I)++f::(J3++[De F3 N3 3 hh S X.sz])):=λf cs=>by simp
  rw[e1]at qq;refine(nP _ _ _ _ _ _ L2 _ _ u k5 qq).mono ?_;rintro e u' w' ⟨r1,r2,r3⟩;rw[<-e1]at r3;refine⟨r1,r2,λu2=>(Z6 _ _ _ _ _ _ L _ _ u2 k4 r3).mono ?_⟩;rintro e u' Eo ⟨r4,r5,r6⟩;have bc:=Wd.GB (a:=os) (b:=[De F3 N3 3 hh S X.sz]) (O++Dw::(I++Dw::J3)) (qO k1 (M6 (a:=Dw) ⟨rfl,rfl⟩ (qO U (M6 (a:=Dw) ⟨rfl,rfl⟩ k3)))) (by have:=Sc _ _ _ _ r6;simpa [AR]using this);refine⟨r4,r5,(Ec r6).2,.inl ⟨F3,N3,S,m',by rw[k9,k8],?_,k6,k7,aE,?_⟩⟩
  ·rw[<-Jw];exact bw
  ·rw[<-Jw];exact bc
end
def AB2(X:Cx)(os:List DD)(l:List Cy)(e:Ending)(w':World):Prop:=
 (∃(F N:Nat) (out:List Cy) (m':Nat),e=AH (AM #[AL #[AA AB F,AA AB N,AA AB (2:Nat),AA AB (out.length:Nat)],AA AB 0])/\Gh F N 2 (Cw X.sz (2:Nat)) out X.sz/\DR l/\Gx l out/\Wd X (os++[De F N 2 (Cw X.sz (2:Nat)) out X.sz]) m' w')\/
 (∃er m':Nat,e=AH (AM #[AL #[(),(),(),()],er])/\0<er/\(er=3/\¬GJ l\/JF X os l.length er)/\Wd X os m' w')
section
variable{X:Cx}{m:Nat}{W:World}
theorem dh{os fi nb cb en l}(h:Wd X os m W)(hf:Gh fi nb 3 (Cw X.sz (3:Nat)) l X.sz)(al:De fi nb 3 (Cw X.sz (3:Nat)) l X.sz∈os)(hc:l.length=cb)(M5:cb<=300)(aw:en=l.countP I2)(a0:∀t∈l,0<=t.a)(b0:∀t∈l,-1<=t.b)
  (ab:8*X.sz+DF DD.gw os<=X.rm)(NG:X.rm<=1000000)(hn:X.N+m+250000<=1000000):
  Calls AP 38 #[AI X.p.w,AL #[fi,nb,AA AB 3,cb],en] W (AB2 X os l):=by
 have ao:=(Wd.bounds h).1;obtain⟨hh,Jw⟩:=ae (Cw X.sz (3:Nat));obtain⟨h2,Hq⟩:=ae (Cw X.sz (2:Nat));have az:2<=hh:=by rw[Jw];exact M4 ao.1 a5
 have aA:2<=h2:=by rw[Hq];exact M4 ao.1 a5
 obtain⟨s0,hs0⟩:=ae W.heap.size;obtain⟨W2,I8⟩:=ae ((W.alloc (AK #[fi,nb,AA AB 3,cb] 28)).alloc (AK #[(),(),(),()] 28));obtain⟨fc,Pu⟩:∃fc:List Value,fc=[AA AB fi,AA AB nb,AA AB (3:Nat),AA AB cb]:=⟨_,rfl⟩;obtain⟨B,hB⟩:∃B:List Value->List DD,∀cs,B cs=[Cv s0 28 fc,Cv (s0+1) 28 cs]:=⟨_,λ_=>rfl⟩;have Yj:∀cs,Dr (B cs):=λcs q hq=>by rw[hB]at hq;simp at hq;rcases hq with rfl|rfl<;>exact⟨rfl,rfl⟩
 have aC:∀(w:World) (o:Obj),(w.alloc o).heap.size=w+1:=λw o=>by simp
 obtain⟨I,NK⟩:∃I:List Value->List DD,∀cs,I cs=os++B cs:=⟨_,λ_=>rfl⟩;have h3:Wd X (I Z4) m W2:=by
  have h1:=h.new ((AS W W).alloc ar (AK #[fi,nb,AA AB 3,cb] 28)) (by rw[Pu];exact heap_alloc_new _ _:Row _ _ 28 fc) ar;have h3:=h1.new ((AS _ _).alloc ar (AK #[(),(),(),()] 28)) (heap_alloc_new _ _:Row _ _ 28 Z4) ar;rw[<-I8]at h3;simp only[aC,<-hs0,AR,CQ,BL]at h3;rw[NK,hB];exact h3
 have cO:∀cs,DF DD.gw (I cs)=DF DD.gw os:=λcs=>by rw[NK,DP,D5 _ (Yj _)];rfl
 obtain⟨qh,aB⟩:=ae ((cb+1)/2);have IB:∀cs er,JF X (I cs) l.length er->JF X os l.length er:=λcs er h=>by
  rcases h with h|⟨h,h2⟩
  ·exact .inl h
  ·exact .inr ⟨h,λz hz=>h2 z (by rw[NK];exact GL hz (Yj _))⟩
 have Ec:∀{cs Z M w},Wd X (I cs++Z) M w->Row w s0 28 [fi,nb,AA AB 3,cb]/\Row w (s0+1) 28 cs:=λ{cs Z M w} q=>
  ⟨by have:Row w s0 28 fc:=q.Ek (by rw[NK,hB];simp);rw[Pu]at this;exact this,q.Ek (by rw[NK,hB];simp)⟩
 have zG:∀{cs Z M w} (x0 x1 x2 x3:Value),cs.length=4->Wd X (I cs++Z) M w->Wd X (I [x0,x1,x2,x3]++Z) M ((((w.setCell (s0+1,0) x0).setCell (s0+1,1) x1).setCell (s0+1,2) x2).setCell (s0+1,3) x3):=λ{cs Z M w} x0 x1 x2 x3 ax q=>by
  have e1:∀cs,I cs++Z=(os++[Cv s0 28 fc])++Cv (s0+1) 28 cs::Z:=λcs=>by rw[NK,hB];simp
  rw[e1]at q⊢;have Q:=GD q (i:=(os++[Cv s0 28 fc]).length) (R:=s0+1) (cs:=cs) (by rw[AW ar,As];rfl) ax x0 x1 x2 x3;rw[Ap _ _ ar,As]at Q;exact Q
 have Sc:∀cs Z M w,Wd X (I cs++Z) M w->Wd X (os++Z) M w:=λcs Z M w q=>by
  rw[NK]at q;exact Wd.GB _ (Yj _) q
 obtain⟨CB,ny⟩:∃CB:Nat->Nat->Nat->Nat->Nat->Nat->World->Prop,∀F N K C op er w,CB F N K C op er w↔((er=0/\K=3/\∃S m',C=S.length/\op=PO S/\DR l/\Sm l 0 S/\Gh F N 3 hh S X.sz/\m'<=m+16000/\Wd X (I Z4++[De F N 3 hh S X.sz]) m' w)\/(0<er/\(er=3/\¬GJ l\/JF X os l.length er)/\∃m',Wd X (I Z4++[]) m' w)):=⟨_,λ_ _ _ _ _ _ _=>BO⟩;obtain⟨J,hJ⟩:∃J:Nat->Nat->Nat->Nat->Nat->Nat->Nat->Nat->World->Prop,∀gs F N K C op er q w,J gs F N K C op er q w↔((er=0/\K=3/\q=op+1/\∃S k m',C=S.length/\op=PO S/\DR l/\Sm l k S/\Gh F N 3 hh S X.sz/\(k=0\/2^(k-1)<l.length)/\m'<=m+16000+14000*k/\Wd X (I Z4++[Cv gs 125 [F,N,K,C,op],De F N 3 hh S X.sz]) m' w)\/
   (0<er/\q=0/\(er=3/\¬GJ l\/JF X os l.length er)/\∃m',Wd X (I Z4++[Cv gs 125 [F,N,K,C,op]]) m' w)):=⟨_,λ_ _ _ _ _ _ _ _ _=>BO⟩
 obtain⟨G,hG⟩:∃G:Nat->Nat->Nat->Nat->Nat->Nat->Nat->Nat->Nat->Nat->Nat->Nat->Nat->World->Prop,∀gs F N K C op F2 N2 K2 C2 Va er q w,G gs F N K C op F2 N2 K2 C2 Va er q w↔((er=0/\K2=3/\Va+1<q/\∃S k m',C2=S.length/\Va=PO S/\DR l/\Sm l k S/\Gh F2 N2 3 hh S X.sz/\(k=0\/2^(k-1)<l.length)/\m'<=m+16000+14000*k/\Wd X (I Z4++[Cv gs 125 [F,N,K,C,op],De F2 N2 3 hh S X.sz]) m' w)\/
   (0<er/\0<q/\(er=3/\¬GJ l\/JF X os l.length er)/\∃m',Wd X (I Z4++[Cv gs 125 [F,N,K,C,op]]) m' w)):=⟨_,λ_ _ _ _ _ _ _ _ _ _ _ _ _ _=>BO⟩
 obtain⟨CE,qT⟩:∃CE:Nat->Nat->Nat->Nat->Nat->Nat->Nat->Nat->Nat->List Value->World->Prop,∀F N K C F2 N2 K2 C2 er cs w,CE F N K C F2 N2 K2 C2 er cs w↔K=3/\∃S gs m',Gh F N 3 hh S X.sz/\((er=0/\K2=2/\DR l/\∃out,C2=out.length/\Gx l out/\Gh F2 N2 2 h2 out X.sz/\Wd X (I cs++[gs,De F N 3 hh S X.sz,De F2 N2 2 h2 out X.sz]) m' w)\/(0<er/\(F2=0/\N2=0/\K2=0/\C2=0)/\JF X os l.length er/\Wd X (I cs++[gs,De F N 3 hh S X.sz]) m' w))/\gs.gr=AD/\gs.ex.2=0:=⟨_,λ_ _ _ _ _ _ _ _ _ _ _=>BO⟩;have aq:∀k,(k=0\/2^(k-1)<l.length)->k<=9:=λk hk=>by
  rcases hk with h|h
  ·omega
  ·rcases Ak 9 k with h3|h3
   ·have:2^9<=2^(k-1):=Nat.pow_le_pow_right a5 a5;omega
   ·exact h3
 refine ZX hs0 I8 (CA:=λw=>Wd X (I Z4) m w) (CB:=CB) (J:=J) (G:=G) (CE:=CE)
  ⟨h3,?_,?_,?_,?_,?_,?_,?_,?_,?_,?_,?_,?_⟩
 ·
  intro w q;exact(Ec (Z:=[]) (by rw[AY];exact q)).1
 ·
  intro w q;have av:De fi nb 3 (Cw X.sz (3:Nat)) l X.sz∈I Z4:=by rw[NK];exact List.mem_append_left _ al
  refine(kF q hf av hc M5 aw a0 b0 (by rw[cO];exact ab) NG a5).mono ?_;unfold qA;rw[<-Jw];rintro e w' (⟨F,N,S,m',he,k1,O,k3,Q,k5⟩|⟨er,m',he,k1,O,k3⟩)
  ·exact⟨F,N,3,S.length,PO S,0,he,(ny _ _ _ _ _ _ _).2 (.inl ⟨rfl,rfl,S,m',rfl,rfl,O,k3,k1,Q,k5⟩)⟩
  ·refine⟨0,0,0,0,0,er,he,(ny _ _ _ _ _ _ _).2 (.inr ⟨k1,?_,m',by rw[AY];exact k3⟩)⟩;rcases O with⟨O,Q⟩|O
   ·exact .inl ⟨O,λhr=>Q hr.1⟩
   ·exact .inr (IB _ _ O)
 ·
  intro F N K C op er w q;have ad:Row (w.alloc (AK #[F,N,K,C,op] 125)) w 125 [F,N,K,C,op]:=heap_alloc_new _ _;have Ih:∀Z M,Wd X (I Z4++Z) M w->Wd X (I Z4++(Cv w 125 [F,N,K,C,op]::Z)) M (w.alloc (AK #[F,N,K,C,op] 125)):=λZ M q=>by
   have:=Wd.front (q.new ((AS w w).alloc ar (AK #[F,N,K,C,op] 125)) ad ar);simpa [AR]using this
  rcases(ny _ _ _ _ _ _ _).1 q with⟨k1,O,S,m',k3,Q,k5,k6,k7,k8,qq⟩|⟨k1,O,m',qq⟩
  ·exact⟨op+1,(hJ _ _ _ _ _ _ _ _ _).2 (.inl ⟨k1,O,rfl,S,0,m',k3,Q,k5,k6,k7,.inl rfl,a5,Ih _ _ qq⟩)⟩
  ·exact⟨0,(hJ _ _ _ _ _ _ _ _ _).2 (.inr ⟨k1,rfl,O,m',Ih _ _ qq⟩)⟩
 ·
  intro gs F N K C op er q w qq;rcases(hJ _ _ _ _ _ _ _ _ _).1 qq with⟨_,_,_,S,k,m',_,_,_,_,_,_,_,q1⟩|⟨_,_,_,m',q1⟩
  ·exact⟨q1.Ek a8,(Ec q1).2⟩
  ·exact⟨q1.Ek a8,(Ec q1).2⟩
 ·
  intro gs F N K C op q w qq Di;rcases(hJ _ _ _ _ _ _ _ _ _).1 qq with⟨_,O,kq,S,k,m',k3,Q,k5,k6,k7,k8,k9,q1⟩|⟨k1,_⟩
  ·have hk:=aq k k8;subst O;have e1:∀f:DD,I Z4++[Cv gs 125 [AA AB F,AA AB N,AA AB (3:Nat),AA AB C,AA AB op],f]=(I Z4++[Cv gs 125 [AA AB F,AA AB N,AA AB (3:Nat),AA AB C,AA AB op]])++[f]:=λf=>by simp
   rw[e1,Jw]at q1;have an:DF DD.gw (I Z4++[Cv gs 125 [AA AB F,AA AB N,AA AB (3:Nat),AA AB C,AA AB op]])=DF DD.gw os:=by rw[D9,cO];rfl
   have hC:C<=300:=by rw[k3,k6.len];omega
   have ay:X.N+m'+40000<=1000000:=by
    have:14000*k<=126000:=a5;omega
   refine(Wf q1 (by rw[<-Jw];exact k7) k5 k6 k3.symm hC Q.symm Di (by rw[an];exact ab) NG ay).mono ?_;unfold o7;rw[<-Jw];rintro e w' (⟨F2,N2,S2,m2,he,r1,U,r3,r4,r5⟩|⟨er,m2,he,r1,U,r3⟩)
   ·have hb:m2<=m+16000+14000*(k+1):=by
     rw[Nat.mul_add,Cm,<-B8];exact Ag r4 (Nat.add_le_add_right k9 14000)
    refine⟨F2,N2,3,S2.length,PO S2,0,he,(hG _ _ _ _ _ _ _ _ _ _ _ _ _ _).2 (.inl ⟨rfl,rfl,a5,S2,k+1,m2,rfl,rfl,k5,U,r1,.inr (by rw[BV];exact k6.bound k5 U r3),hb,by rw[e1];exact r5⟩)⟩
   ·refine⟨0,0,0,0,0,er,he,(hG _ _ _ _ _ _ _ _ _ _ _ _ _ _).2 (.inr ⟨r1,a5,?_,m2,r3⟩)⟩;rcases U with U|U
    ·exact .inl U
    ·refine .inr (IB Z4 er ?_);rcases U with U|⟨U,r4⟩
     ·exact .inl U
     ·exact .inr ⟨U,λz hz=>r4 z (GL hz λy hy=>by simp at hy;subst hy;exact⟨rfl,rfl⟩)⟩
  ·omega
 ·
  intro gs F N K C op F2 N2 K2 C2 Va er q w qq;rcases(hG _ _ _ _ _ _ _ _ _ _ _ _ _ _).1 qq with⟨_,_,_,S,k,m',_,_,_,_,_,_,_,q1⟩|⟨_,_,_,m',q1⟩
  ·exact q1.Ek a8
  ·exact q1.Ek a8
 ·
  intro gs F N K C op F2 N2 K2 C2 Va er q w qq;have Og:∀Z M,Wd X (I Z4++Cv gs 125 [F,N,K,C,op]::Z) M w->Wd X (I Z4++Cv gs 125 [F2,N2,K2,C2,Va]::Z) M (((((w.setCell gs F2).setCell (gs,1) N2).setCell (gs,2) K2).setCell (gs,3) C2).setCell (gs,4) Va):=λZ M q=>by
   have ha:∀cs,(I Z4++Cv gs 125 cs::Z)[(I Z4).length]?=AE (Cv gs 125 cs):=λcs=>by simp
   have NF:∀cs JU,(I Z4++Cv gs 125 cs::Z).set (I Z4).length (Cv gs 125 JU)=I Z4++Cv gs 125 JU::Z:=λcs JU=>by simp
   have k0:=q.store (ha _) a6 0 F2;rw[NF]at k0;have k1:=k0.store (ha _) a6 1 N2;rw[NF]at k1;have O:=k1.store (ha _) a6 2 K2;rw[NF]at O;have k3:=O.store (ha _) a6 3 C2;rw[NF]at k3;have Q:=k3.store (ha _) a6 4 Va;rw[NF]at Q;exact Q
  rcases(hG _ _ _ _ _ _ _ _ _ _ _ _ _ _).1 qq with⟨k1,O,kq,S,k,m',k3,Q,k5,k6,k7,k8,k9,q1⟩|⟨k1,kq,O,m',q1⟩
  ·exact⟨Va+1,kq,(hJ _ _ _ _ _ _ _ _ _).2 (.inl ⟨k1,O,rfl,S,k,m',k3,Q,k5,k6,k7,k8,k9,Og _ _ q1⟩)⟩
  ·exact⟨0,kq,(hJ _ _ _ _ _ _ _ _ _).2 (.inr ⟨k1,rfl,O,m',Og _ _ q1⟩)⟩
 ·
  intro gs F N K C op er q w qq au;rcases(hJ _ _ _ _ _ _ _ _ _).1 qq with⟨k1,_⟩|⟨k1,_,O,m',q1⟩
  ·exact absurd k1 au
  ·have Q:=zG () () () () rfl q1;exact⟨(Ec Q).2,.inr ⟨er,m',rfl,k1,O,JQ ⟨rfl,rfl⟩ (Sc _ _ _ _ Q)⟩⟩
 ·
  intro gs F N K C q w qq;rcases(hJ _ _ _ _ _ _ _ _ _).1 qq with⟨_,O,kq,S,k,m',k3,Q,k5,k6,k7,k8,k9,q1⟩|⟨k1,_⟩
  ·have hk:=aq k k8;subst O;have hC:C<=300:=by rw[k3,k6.len];omega
   have hN:N<=300:=by have:=k7.bn;have:=Dl hh S.length;omega
   have aD:=k6.len;have an:∀f:DD,f.gr=AD->DF DD.gw (I Z4++[Cv gs 125 [AA AB F,AA AB N,AA AB (3:Nat),AA AB C,AA AB (0:Nat)],f])=DF DD.gw os:=λf hf=>by
    rw[DP,cO];have e9:DD.gw f=0:=by unfold DD.gw;rw[hf]
    show DF DD.gw os+(0+(DD.gw f+0))= _;omega
   refine(kE (o:=ym) (count:=C) q1 k7 a8 k3.symm oF (by rw[Zb];omega) y7 (by rw[an _ rfl];omega) a5 (by rw[Zb,<-Hq];omega)).mono ?_;rw[Zb];unfold O5;rw[<-Hq];have ho:outL (K7 ym) S C=S.map uT:=by
    rw[SB ym S C a5,k3,B6];exact List.map_congr_left λt _=>uW t
   rw[ho];rintro e w' (⟨F2,N2,he,r1,U⟩|⟨er,he,r1,U,r3⟩)
   ·refine⟨F2,N2,2,_,0,he,(qT _ _ _ _ _ _ _ _ _ _ _).2 ⟨rfl,S,_,_,k7,.inl ⟨rfl,rfl,k5,S.map uT,rfl,k6.fin Q.symm,r1,by rw[AR]at U;exact U⟩,rfl,rfl⟩⟩
   ·refine⟨0,0,0,0,er,he,(qT _ _ _ _ _ _ _ _ _ _ _).2 ⟨rfl,S,_,_,k7,.inr ⟨r1,⟨rfl,rfl,rfl,rfl⟩,?_,r3⟩,rfl,rfl⟩⟩;rcases U with U|⟨U,r4⟩
    ·exact .inl U
    ·refine .inr ⟨U,λz hz=>?_⟩;have Xg:N<=qh:=by have:=IA (c:=S.length) az;have:=k7.bn;omega
     have qJ:Cu h2 C<=qh:=by have:=IA (c:=C) aA;omega
     obtain⟨y,hy⟩:=ZQ hz (B Z4++[Cv gs 125 [AA AB F,AA AB N,AA AB (3:Nat),AA AB C,AA AB (0:Nat)],De F N 3 hh S X.sz]) [(F,N)] (n:=Cu h2 C) (q:=qh) (λa ha=>by
      rcases Ah.1 ha with ha|ha
      ·exact .inl (Yj _ a ha).2
      ·simp at ha;rcases ha with rfl|rfl
       ·exact .inl rfl
       ·exact .inr (by simp;rfl)) (λe he=>by simp at he;subst he;exact Xg) a8 a5 (by omega:2*qh<=l.length+1)
     exact r4 y (by rw[NK];simpa [AR]using hy)
  ·omega
 ·
  intro F N K C F2 N2 K2 C2 er cs w qq;obtain⟨_,S,gs,m',_,q,_⟩:=(qT _ _ _ _ _ _ _ _ _ _ _).1 qq;rcases q with⟨_,_,_,out,_,_,_,q1⟩|⟨_,_,_,q1⟩
  ·exact(Ec q1).2
  ·exact(Ec q1).2
 ·
  intro F N K C F2 N2 K2 C2 er w qq;obtain⟨k0,S,gs,m',k1,q,k9⟩:=(qT _ _ _ _ _ _ _ _ _ _ _).1 qq;refine(qT _ _ _ _ _ _ _ _ _ _ _).2 ⟨k0,S,gs,m',k1,?_,k9⟩;rcases q with⟨O,k3,Q,out,k5,k6,k7,q1⟩|⟨O,k3,Q,q1⟩
  ·exact .inl ⟨O,k3,Q,out,k5,k6,k7,zG _ _ _ _ rfl q1⟩
  ·exact .inr ⟨O,k3,Q,zG _ _ _ _ rfl q1⟩
 ·
  intro F N K C F2 N2 K2 C2 er u w qq;obtain⟨k0,S,gs,m',k1,q,k9⟩:=(qT _ _ _ _ _ _ _ _ _ _ _).1 qq;have hN:N<=100000:=by have:=k1.bn;have:=Dl hh S.length;have:=k1.len;omega
  subst k0;have MS:∀cs Z,Wd X (I cs++(gs::De F N 3 hh S X.sz::Z)) m' w->CallsD AP 67 #[AI (AE ⟨X.p.w,0,AD⟩),AL #[AA AB F,AA AB N,AA AB (3:Nat),AA AB C]] u w λe u' w'=>u'=u/\(e=AH (AA AB 0)/\Row w' (s0+1) 28 cs/\Wd X (os++Z) m' w'):=λcs Z q=>by
   have e1:∀f,I cs++(gs::f::Z)=(I cs++[gs])++f::Z:=λf=>by simp
   rw[e1]at q;have ha:((I cs++[gs])++De F N 3 hh S X.sz::Z)[(I cs++[gs]).length]?=AE (De F N 3 hh S X.sz):=by
    rw[AW ar,As];rfl
   refine(Is u q ha k1.fst a5 C).mono ?_;rintro e u' w' ⟨r1,U,r3⟩;rw[Ap _ _ ar,As]at r3;have r3:Wd X ((I cs++[gs])++Dw::Z) m' w':=r3;have r4:Wd X (I cs++(gs::Dw::Z)) m' w':=by rw[e1];exact r3
   refine⟨r1,U,(Ec r4).2,?_⟩;have r5:=Sc _ _ _ _ r4;exact Wd.GB (a:=os) (b:=Z) [gs,Dw] (λa ha=>by
    simp at ha;rcases ha with rfl|rfl
    ·exact k9
    ·exact⟨rfl,rfl⟩) (by simpa using r5)
  rcases q with⟨O,k3,Q,out,k5,k6,k7,q1⟩|⟨O,k3,Q,q1⟩
  ·refine(MS _ _ q1).mono ?_;rintro e u' w' ⟨r1,U,r3,r4⟩;refine⟨r1,U,r3,.inl ⟨F2,N2,out,m',by rw[O,k3,k5];rfl,?_,Q,k6,?_⟩⟩
   ·rw[<-Hq];exact k7
   ·rw[<-Hq];exact r4
  ·refine(MS _ [] q1).mono ?_;rintro e u' w' ⟨r1,U,r3,r4⟩;rw[AY]at r4;exact⟨r1,U,r3,.inr ⟨er,m',by rw[k3.1,k3.2.1,k3.2.2.1,k3.2.2.2];rfl,O,.inr Q,r4⟩⟩
end
section
variable{X:Cx}{os:List DD}{m i:Nat}{W W':World}{G:Nat->Prop}{D:St}{A:Ar}{S:Sp}{first nb k hh count:Nat}{l:List Cy}
theorem Zm(h:Wd X os m W)(Lu:hh=Cw X.sz k)(Gt:0<hh)(hnb:nb=Cu hh count)(JC:count<=100000):
  Calls AP 32 #[AI X.p.w,AL #[first,nb,k,count]] W λe w'=>e=AH true/\Below W W w':=by
 obtain⟨W1,EJ⟩:=ae (W.alloc (AK #[first,nb,k,count] 28));have Dg:Below W W W1:=by rw[EJ];exact(AS _ _).alloc ar _
 have Et:Row W1 W 28 [first,nb,k,count]:=by rw[EJ];exact heap_alloc_new _ _
 obtain⟨G,D,A,S,hF⟩:=h;have h1:=hF.below Dg;have ad:8<=X.sz:=(Wd.bounds ⟨G,D,A,S,hF⟩).1.1;have ao:Hid (∀w,Below W1 W1 w->Calls AP 19 #[AI X.p.w] w λe w'=>e=AH (AI X.p.d)/\w'=w):=λw hb=>RZ ⟨G,D,A,S,h1.below hb⟩;have an:Hid (∀w,Below W1 W1 w->Calls AP 42 #[AI X.p.w] w λe w'=>e=AH (AI X.p.s)/\w'=w):=λw hb=>PX ⟨G,D,A,S,h1.below hb⟩;have aq:Hid (∀w,Below W1.heap.size W1 w->Calls AP 25 #[AA AB 0] w λe w'=>∃a,e=AH (AI (AE ⟨a,0,AD⟩))/\jo W1 w' a):=λw hb=>by
  refine(QB 0 w a5 a5).mono ?_;rintro e w' ⟨he,ha,DT⟩;exact⟨w,he,hb.trans (DT.mono hb.size),hb.size,ha⟩
 have al:Hid (∀w a,jo W1 w a->Calls AP 24 #[AI (AE ⟨X.p.d,0,AD⟩),AI (AE ⟨a,0,AD⟩),AI (AE ⟨X.p.s,0,AD⟩)] w λe w'=>∃wp,e=AH (AI (AE ⟨wp,0,AD⟩))/\jo W1 w' a/\Row w' wp 87 [ptr X.p.d,ptr a,ptr X.p.s]/\W1.heap.size<=wp/\wp≠a):=λw a J=>by
  refine(Sq X.p.d a X.p.s w).mono ?_;rintro e w' ⟨he,rfl⟩;have aC:a<w:=J.2.2.lt rfl;exact⟨w.heap.size,he,J.below ((AS _ _).alloc ar _),heap_alloc_new _ _,J.1.size,a5⟩
 have Lx:Hid (∀w a wp,jo W1 w a->Row w wp 87 [ptr X.p.d,ptr a,ptr X.p.s]->W1<=wp->wp≠a->Calls AP 46 #[AI wp,AL #[first,nb,k,count]] w λe w'=>e=AH (AM #[AI AD,AA AB 7])/\Below W1 W1 w'):=λw a wp J hr hw ab=>by
  obtain⟨G',mh⟩:=bN h1.sys J hr ⟨hw,ab⟩;have Q:D.size=X.sz:=hF.size;refine(So mh k hh first nb count (by show hh=Cw D.size k;rw[Q];exact Lu) Gt hnb a5 (by show (empty 0).room-(empty 0).used<D.size;rw[Q];exact BN (by show 0-0<8;omega) ad)).mono ?_;rintro e w' ⟨he,hb⟩;exact⟨he,J.1.trans (hb.mono J.1.size)⟩
 have PF:Hid (∀w,Below W1 W1 w->w.cell? W=AE (AA AB first)/\w.cell? (W,1)=AE (AA AB nb)/\w.cell? (W,2)=AE (AA AB k)/\w.cell? (W,3)=AE (AA AB count)):=λw hb=>by
  have h9:=Et.below hb Et.lt;exact⟨h9.cell 0,h9.cell 1,h9.cell 2,h9.cell 3⟩
 have I5:Hid (∀w,Below W1 W1 w->Below W W w):=λw hb=>Dg.trans (hb.mono Dg.size);have I:Below W1 W1 W1.drew:=DC (AS _ _);have q0:=PF.out _ I;have FQ:=AO EJ;have au:=AO hnb;have av:=AO Lu;generalize aE:W.heap.size=s0 at*
 clear EJ Dg Et hF h1 hnb Lu;go_enter func32,ntmps32
 go_upto_region 1 with(fail)
 rw[<-FQ.out];clear FQ;go_region_held3 (λw=>w.cell? ⟨s0,0,AD⟩=AE (AA AB first)/\w.cell? ⟨s0,1,AD⟩=AE (AA AB nb)/\w.cell? ⟨s0,2,AD⟩=AE (AA AB k)/\w.cell? ⟨s0,3,AD⟩=AE (AA AB count)) (first|with_reducible exact q0|with_reducible exact U|with_reducible exact q6|with_reducible exact q7)
  (first
   |(go_at_call 19;(with_reducible refine(ao.out _ (by first|with_reducible exact I|with_reducible exact Fx)).mono ?_);rintro e w4 ⟨rfl,rfl⟩)
   |(go_at_call 42;(with_reducible refine(an.out _ (by first|with_reducible exact I|with_reducible exact Fx)).mono ?_);rintro e w4 ⟨rfl,rfl⟩)
   |(go_at_call 25;(with_reducible refine(aq.out _ I).mono ?_);rintro e w5 ⟨a,rfl,h5⟩;have Fx:=h5.1;have U:=PF.out w5 Fx;have q6:=U;have q7:=U)
   |(go_at_call 24;(with_reducible refine(al.out _ _ h5).mono ?_);rintro e w6 ⟨wp,rfl,h6,MM,qE,O⟩;have q6:=PF.out w6 h6.1)
   |(go_at_call 46;(with_reducible refine(Lx.out _ _ _ h6 MM qE O).mono ?_);rintro e w7 ⟨rfl,zo⟩;have q7:=PF.out w7 zo))
 all_goals
  have H9:=AO (I5.out _ zo);clear zo q7 q6 U q0 h6 MM qE O h5 Fx I;go_wp2
  go_ret
  exact⟨rfl,by rw[aE]at*;exact H9.out⟩
end
section
variable{X:Cx}{os:List DD}{m i:Nat}{W:World}{l:List Cy}
theorem Y1{first nb k hh sz j}(h:Wd X os m W)(hi:os[i]?=AE (De first nb k hh l sz))(hf:first<=2000000)(hn:nb<=2000000)(hj:j<nb):
  Calls AP 64 #[AI X.p.s,((first+j:Nat):Int),AA AB 1] W λe w'=>e=AH (AA AB 1)/\Wd X os m w':=by
 obtain⟨G,D,A,S,h⟩:=h;have I:=(h.held hi).1 (first+j) ⟨by show first<=first+j;omega,by show first+j<first+nb;omega⟩;obtain⟨Gs,U,Ib⟩:=h.sys.spc;rcases SW (s:=S) h.sys.eZ ((first+j:Nat):Int) ((1:Nat):Int)with⟨s',a',m',J,hm,h4,he,hg⟩|⟨he,_⟩
 ·have J:a'=first+j:=a5;subst J;exact absurd (hg.room (first+j) ar a5) I
 ·refine(Xj X.p.s S Gs ((first+j:Nat):Int) ((1:Nat):Int) W U (Gj.of a5 a5) (Gj.of a5 a5)).mono ?_;rw[he];rintro e w' ⟨h5,h6⟩;obtain⟨G',Q,O,k3⟩:=Ib _ _ h6;exact⟨h5,h.stay (D':=D) (A':=A) ⟨G',Q,O,k3⟩ ar h.M8.2 ⟨rfl,rfl⟩ h.alive id h.Dp (λ_=>rfl) rfl rfl (λ_ _ hw=>hw)⟩
theorem hold_none{first nb k hh sz c:Nat}(h:Wd X os m W)(hi:os[i]?=AE (De first nb k hh l sz))(hf:first<=2000000)(hn:nb<=2000000):
  Calls AP 37 #[AI X.p.w,AL #[first,nb,k,c]] W λe w'=>e=AH (AJ AD 0 0)/\Wd X os m w':=by
 obtain⟨s0,hs0⟩:=ae W.heap.size;obtain⟨W1,EJ⟩:=ae (W.alloc (AK #[first,nb,k,c] 28));obtain⟨fc,Pu⟩:∃fc:List Value,fc=[AA AB first,AA AB nb,AA AB k,AA AB c]:=⟨_,rfl⟩;have h1:Wd X (os++[Cv s0 28 fc]) m W1:=by
  have:=h.new ((AS W W).alloc ar (AK #[first,nb,k,c] 28)) (heap_alloc_new _ _:Row _ _ 28 [first,nb,k,c]) ar;rw[<-EJ,<-hs0,<-Pu]at this;exact this
 obtain⟨A,J⟩:∃A:World->Prop,∀w,A w↔Wd X (os++[Cv s0 28 fc]) m w:=⟨_,λ_=>BO⟩;have WG:Hid (A W1):=(J _).2 h1;have HC:Hid (∀w,A w->w.cell? s0=AE (AA AB first)/\w.cell? (s0,1)=AE (AA AB nb)):=λw q=>by
  have q1:Row w s0 28 fc:=((J _).1 q).row (i:=os.length) a8;rw[Pu]at q1;exact⟨q1.cell 0,q1.cell 1⟩
 have HD:Hid (∀w,A w->A w.drew):=λw q=>(J _).2 (((J _).1 q).drewN 1);have HS:Hid (∀w,A w->Calls AP 42 #[AI X.p.w] w λe w'=>e=AH (AI X.p.s)/\w'=w):=λw q=>PX ((J _).1 q);have HH:Hid (∀w j,A w->j<nb->Calls AP 64 #[AI X.p.s,((first+j:Nat):Int),AA AB 1] w λe w'=>e=AH (AA AB 1)/\A w'):=λw j q hj=>by
  refine(Y1 ((J _).1 q) (Ru hi) hf hn hj).mono ?_;rintro e w' ⟨he,hw⟩;exact⟨he,(J _).2 hw⟩
 have HF:Hid (∀w,A w->Wd X os m w):=λw q=>((J _).1 q).drop rfl rfl;generalize Wd X os m=Dh at*
 generalize X.p.w=pw at*
 generalize X.p.s=ps at*
 have FQ:=AO EJ;replace hs0:=AO hs0;obtain⟨c0,c1⟩:=HC.out _ WG.out;clear h h1 J EJ Pu hi;go_enter func37,ntmps37
 go_upto_region 1 with(fail)
 rw[<-FQ.out,<-hs0.out];clear FQ;go_wp2_with fail
 go_loopw [5,6,9] (λs5 _ s9 wr=>∃j:Nat,s5=AJ AD 0 0/\s9=AA AB j/\j<=nb/\Hid (A wr)) (λ_ _ s9 _=>match s9 with|.int _ z=>nb-z.toNat| _=>0)
 case atStart=>exact⟨0,rfl,rfl,Ao _,WG⟩
 case round=>
  obtain⟨j,h5,h9,hj,HA⟩:=hrel;subst h5 h9;obtain⟨fj,Q⟩:=ae (first+j);obtain⟨j1,nI⟩:=ae (j+1);have ab:=AO nI;by_cases I:j<nb
  ·have g1:decide (j<nb)=true:=by simpa using I
   have MX:Ab.wrap ((first:Int)+(j:Int))=(fj:Int):=by rw[BQ];omega
   have QX:Ab.wrap ((j:Int)+1)=(j1:Int):=by rw[BQ];omega
   have U:=AO (HD.out _ HA.out);have q0:=(HC.out _ U.out).1;have O:=HH.out _ _ U.out I;rw[<-Q]at O;have al:=AO O;have ad:=AO (HS.out _ U.out);have KM:=AO I;clear I Q nI O;go_wp2_with fail
   go_region_held3 (λw=>w.cell? s0=AE (AA AB first)) (first|with_reducible exact q0|with_reducible exact q5)
    (first
     |(go_at_call 42;(with_reducible refine ad.out.mono ?_);rintro e w4 ⟨rfl,rfl⟩)
     |(go_at_call 64;(with_reducible refine al.out.mono ?_);rintro e w5 ⟨rfl,h5⟩;have q5:=(HC.out _ h5).1))
   have jJ:=AO h5;clear h5 q5 q0;go_wp2
   go_roundw
   case rel=>exact⟨j1,rfl,rfl,by have:=ab.out;have:=KM.out;omega,jJ⟩
   case measure=>
    have:=ab.out;have:=KM.out;simp;omega
  ·have g1:decide (j<nb)=false:=by simpa using I
   have HP:=AO (HF.out _ HA.out);clear I Q nI;go_wp2
   go_ret
   exact⟨rfl,HP.out⟩
end
theorem fk{n g:Nat}{t W}(hr:Row W g 3 [n])(hn:n<=1000000):
  Calls AP 62 #[DW t,AI g] W λe w'=>
   (e=AH (AA AB 3)/\(t.a<0\/t.b< -1)/\Below W W w')\/
   (e=AH ()/\(0<=t.a/\-1<=t.b)/\DJ (λk=>k=g) W w'/\Row w' g 3 [((if I2 t=true then n+1 else n:Nat):Int)]):=by
 obtain⟨W1,EJ⟩:=ae (W.alloc (AK #[t.a,t.b,t.c,t.d,t.e] 47));have Dg:Below W W W1:=by rw[EJ];exact(AS _ _).alloc ar _
 have Q:Row W1 g 3 [n]:=hr.below Dg hr.lt;have GU:Row W1 W 47 (DH t):=by rw[EJ];exact heap_alloc_new _ _
 have Kv:DJ (λk=>k=g) W W1:=DJ.DE Dg _;have U:=AO EJ;have NQ:=AO Dg;have Qg:=AO Kv;obtain⟨d0,d1⟩:=GU.q2;have c0:W1.cell? g=AE (AA AB n):=Q.cell 0;have f0:=Q.free 0;have Du:Hid (DJ (λk=>k=g) W (W1.setCell g ((n+1:Nat):Int))/\Row (W1.setCell g ((n+1:Nat):Int)) g 3 [((n+1:Nat):Int)]):=
  ⟨Kv.set (p:=g) (.inl rfl) _,by simpa using Q.set 0 ((n+1:Nat):Int)⟩
 have Ka:=AO Q;obtain⟨n1,RF⟩:=ae (n+1);rw[<-RF]at Du;have MX:Ab.wrap ((n:Int)+1)=(n1:Int):=by rw[BQ];omega
 have vK:=AO RF;generalize hs0:W.heap.size=s0 at*
 clear EJ Dg Q GU Kv hr RF;generalize GP:(λ(e:Ending) (w':World)=>(e=AH (AA AB 3)/\(t.a<0\/t.b< -1)/\Below s0 W w')\/
   (e=AH ()/\(0<=t.a/\-1<=t.b)/\DJ (λk=>k=g) W w'/\Row w' g 3 [((if I2 t=true then n+1 else n:Nat):Int)]))=Dh
 replace GP:=AO GP;have dN:Hid ((t.a<0\/t.b< -1)->Dh (AH (AA AB 3)) W1):=λh=>by rw[<-GP.out];exact .inl ⟨rfl,h,NQ.out⟩
 have ad:Hid (0<=t.a->-1<=t.b->I2 t=true->Dh (AH ()) (W1.setCell g n1)):=λJ I h3=>by
  rw[<-GP.out];exact .inr ⟨rfl,⟨J,I⟩,by rw[if_pos h3,<-vK.out];exact Du.out⟩
 have ab:Hid (0<=t.a->-1<=t.b->¬I2 t=true->Dh (AH ()) W1):=λJ I h3=>by
  rw[<-GP.out];exact .inr ⟨rfl,⟨J,I⟩,by rw[if_neg h3];exact⟨Qg.out,Ka.out⟩⟩
 clear Du Qg Ka NQ GP;unfold DW;by_cases J:t.a<0
 ·have g1:decide (t.a<0)=true:=by simpa using J
  have O:=AO (dN.out (.inl J));go_enter func62,ntmps62
  go_upto_region 1 with(fail)
  rw[<-U.out];go_wp2
  exact O.out
 ·have g1:decide (t.a<0)=false:=by simpa using J
  by_cases I:t.b< -1
  ·have g2:decide (t.b< -1)=true:=by simpa using I
   have O:=AO (dN.out (.inr I));go_enter func62,ntmps62
   go_upto_region 1 with(fail)
   rw[<-U.out];go_wp2
   exact O.out
  ·have g2:decide (t.b< -1)=false:=by simpa using I
   by_cases h3:t.b=-1
   ·have g3:(t.b==-1)=true:=by simpa using h3
    have O:=AO (ad.out a5 a5 (by simpa [I2]using h3));clear h3;go_enter func62,ntmps62
    go_upto_region 1 with(fail)
    rw[<-U.out];go_wp2
    exact O.out
   ·have g3:(t.b==-1)=false:=by simpa using h3
    have O:=AO (ab.out a5 a5 (by simpa [I2]using h3));go_enter func62,ntmps62
    go_upto_region 1 with(fail)
    rw[<-U.out];go_wp2
    exact O.out
section
variable{X:Cx}{os:List DD}{m first nb hh count g:Nat}{W:World}{l:List Cy}
def o9(l:List Cy)(i s:Nat):Prop:=s=(l.take i).countP I2/\i<=l.length/\∀t∈l.take i,0<=t.a/\-1<=t.b
theorem su:DoS X 62 #[AI (AE ⟨g,0,AD⟩)] l (λi s=>o9 l i s/\l.length<=100000) (λs=>os++[Cv g 3 [AA AB (s:Nat)]]) (λ_=>0) (λer z'=>er=3/\¬DR l/\∃s:Nat,z'=os++[Cv g 3 [AA AB s]]) 0 where
 ent:=λargs w=>by kernel_rfl
 cost:=λ_ _ _=>AQ _
 step:=λi s zz m W t I ⟨⟨Q,h2,h3⟩,h4⟩ h hn=>by
  have O:i<l.length:=(BI.1 I).1;have Eu:∀cs,(os++[Cv g 3 cs]++zz)[os.length]?=AE (Cv g 3 cs):=λcs=>by simp
  have Kq:∀cs JU,(os++[Cv g 3 cs]++zz).set os.length (Cv g 3 JU)=os++[Cv g 3 JU]++zz:=λcs JU=>by simp
  have hs:s<=i:=by rw[Q];exact Ag List.countP_le_length (by rw[AZ];omega)
  have Of:l.take (i+1)=l.take i++[t]:=by rw[Bj,I];rfl
  refine(fk (t:=t) (h.row (Eu _)) a5).mono ?_;rintro e w' (⟨he,hw,hb⟩|⟨he,hw,hf,hr⟩)
  ·exact .inr ⟨3,_,he,a5,⟨rfl,λU=>by
    have k1:=U.a0 t (Ae I);have k2:=U.b0 t (Ae I);omega,s,rfl⟩,(h.below hb).mono a5 a5⟩
  ·have q:=h.KN (Eu _) a6 hf hr;rw[Kq]at q;refine .inl ⟨_,he,⟨⟨?_,O,?_⟩,h4⟩,q⟩
   ·rw[Of,List.countP_append,<-Q];by_cases J:I2 t=true
    ·rw[if_pos J];simp[J]
    ·rw[if_neg J];simp[J]
   ·intro u hu;rw[Of]at hu;rcases Ah.1 hu with hu|hu
    ·exact h3 u hu
    ·simp at hu;subst hu;exact hw
def WB(X:Cx)(os:List DD)(l:List Cy)(m nb:Nat)(e:Ending)(w':World):Prop:=
 ∃n er:Nat,e=AH (AM #[n,er])/\((er=0/\n=l.countP I2/\∀t∈l,0<=t.a/\-1<=t.b)\/(er=3/\¬DR l)\/(er=6/\¬X.cm))/\Wd X os (m+nb+1) w'
theorem j3(h:Wd X os m W)(hf:Gh first nb 3 hh l X.sz)(O:De first nb 3 hh l X.sz∈os)(hc:l.length=count)(I:X.sz+DF DD.gw os<=X.rm)(hn:X.N+m+nb+1<=1000000):
  Calls AP 35 #[AI X.p.w,AL #[first,nb,AA AB 3,count]] W (WB X os l m nb):=by
 obtain⟨W2,I8⟩:=ae ((W.alloc (AK #[first,nb,AA AB 3,count] 28)).alloc (AK #[()] 3));have Dg:Below W W (W.alloc (AK #[first,nb,AA AB 3,count] 28)):=(AS _ _).alloc ar _;have DT:=(AS (W.alloc (AK #[first,nb,AA AB 3,count] 28)).heap.size (W.alloc (AK #[first,nb,AA AB 3,count] 28))).alloc ar (AK #[()] 3);have Po:Row (W.alloc (AK #[first,nb,AA AB 3,count] 28)) W 28 [first,nb,AA AB 3,count]:=heap_alloc_new _ _;have tU:=Po.below DT Po.lt;have J:=(h.below Dg).new DT (heap_alloc_new _ _:Row _ _ 3 [()]) ar;rw[<-I8]at J tU;have Q:(W.alloc (AK #[first,nb,AA AB 3,count] 28)).heap.size=W+1:=a8;rw[Q]at J;obtain⟨s0,hs0⟩:=ae W.heap.size;rw[<-hs0]at J tU;have ab:=AO (bI (count:=count) (s0:=0) (su (X:=X) (os:=os) (g:=s0+1) (l:=l)) ⟨⟨a8,Ao _,λt ht=>by simp at ht⟩,hf.len⟩ rfl J hf (λi s _=>by simp[O]) hc (by rw[D9];exact I) a5);have G7:Hid (∀e w',WJ X l (λi s=>o9 l i s/\l.length<=100000) (λs=>os++[Cv (s0+1) 3 [s]]) (λ_=>0) (λer z'=>er=3/\¬DR l/\∃s:Nat,z'=os++[Cv (s0+1) 3 [s]]) m nb 0 e w'->
   ∃er n:Nat,e=AH er/\Row w' (s0+1) 3 [n]/\WB X os l m nb (AH (AM #[n,er])) w'):=by
  rintro e w' (⟨s,he,⟨⟨U,_,h3⟩,_⟩,hw⟩|⟨er,z',he,_,IB,hw⟩)
  ·refine⟨0,s,he,hw.row (GI _ _),s,0,rfl,.inl ⟨rfl,by rw[U,B6],λt ht=>h3 t (by rw[B6];exact ht)⟩,(JQ ⟨rfl,rfl⟩ hw).mono (by show m+nb+0<=m+nb+1;omega) a5⟩
  ·rcases IB with⟨U,J,s,rfl⟩|⟨U,J,i,s,_,rfl⟩
   ·exact⟨er,s,he,hw.row (GI _ _),s,er,rfl,.inr (.inl ⟨U,J⟩),JQ ⟨rfl,rfl⟩ hw⟩
   ·exact⟨er,s,he,hw.row (GI _ _),s,er,rfl,.inr (.inr ⟨U,J⟩),JQ ⟨rfl,rfl⟩ hw⟩
 generalize WJ X l (λi s=>o9 l i s/\l.length<=100000) (λs=>os++[Cv (s0+1) 3 [s]]) (λ_=>0) (λer z'=>er=3/\¬DR l/\∃s:Nat,z'=os++[Cv (s0+1) 3 [s]]) m nb 0=ad at*
 generalize WB X os l m nb=Dh at*
 have Lv:=AO I8;obtain⟨a0,a1,a2,a3⟩:=tU.q4;replace hs0:=AO hs0;clear h hf O hc I hn I8 Dg DT Po tU J Q;go_enter func35,ntmps35
 go_upto_region 2 with(fail)
 rw[<-Lv.out,<-hs0.out];clear Lv;go_wp2_with fail
 refine ab.out.mono ?_;rintro e w3 h3;obtain⟨er,n,rfl,hr,hp⟩:=G7.out e w3 h3;have c0:w3.cell? (s0+1,0)=AE (AA AB n):=hr.cell 0;have HP:=AO hp;clear h3 hr hp a0 a1 a2 a3;go_wp2
 exact HP.out
end
structure TWk (s0 pw pa pd f n c:Nat) (W2:World) (Dh:Ending->World->Prop) (A:World->Prop) (LA:Nat->Nat->World->Prop) (RK:Nat->Nat->Nat->Nat->Nat->List Value->World->Prop) (lf sz:Nat):Prop where
 h0:A W2
 rA:∀w,A w->Row w s0 28 [f,n,AA AB 3,c]/\Row w (s0+1) 28 [(),(),(),()]
 bA:∀w w',A w->Below w w w'->A w'
 can:∀w,A w->Calls AP 32 #[AI pw,AL #[f,n,AA AB 3,c]] w λe w'=>e=AH true/\Below w w w'
 arn:∀w,A w->Calls AP 21 #[AI pw] w λe w'=>e=AH (AI pa)/\w'=w
 left:∀w,A w->Calls AP 33 #[AI pa] w λe w'=>e=AH lf/\w'=w
 dev:∀w,A w->Calls AP 19 #[AI pw] w λe w'=>e=AH (AI pd)/\w'=w
 size:∀w,A w->Calls AP 34 #[AI pd] w λe w'=>e=AH sz/\w'=w
 szb:sz<=256
 room:lf<8*sz->∀w,A w->Row ((((w.setCell (s0+1,0) ()).setCell (s0+1,1) ()).setCell (s0+1,2) ()).setCell (s0+1,3) ()) (s0+1) 28 [(),(),(),()]/\Dh (AH (AM #[AL #[(),(),(),()],AA AB 7])) ((((w.setCell (s0+1,0) ()).setCell (s0+1,1) ()).setCell (s0+1,2) ()).setCell (s0+1,3) ())
 last:¬lf<8*sz->∀w,A w->Calls AP 35 #[AI pw,AL #[f,n,AA AB 3,c]] w λe w'=>∃en er:Nat,e=AH (AM #[en,er])/\LA en er w'
 rL:∀en er w,LA en er w->Row w s0 28 [f,n,AA AB 3,c]/\Row w (s0+1) 28 [(),(),(),()]
 eL:∀en er w,LA en er w->er≠0->Row ((((w.setCell (s0+1,0) ()).setCell (s0+1,1) ()).setCell (s0+1,2) ()).setCell (s0+1,3) ()) (s0+1) 28 [(),(),(),()]/\Dh (AH (AM #[AL #[(),(),(),()],er])) ((((w.setCell (s0+1,0) ()).setCell (s0+1,1) ()).setCell (s0+1,2) ()).setCell (s0+1,3) ())
 hold:∀en w,LA en 0 w->Calls AP 37 #[AI pw,AL #[f,n,AA AB 3,c]] w λe w'=>e=AH (AJ AD 0 0)/\LA en 0 w'
 rks:∀(en:Nat) w,LA en 0 w->Calls AP 38 #[AI pw,AL #[f,n,AA AB 3,c],en] w λe w'=>∃F N K L er:Nat,e=AH (AM #[AL #[F,N,K,L],er])/\RK F N K L er [(),(),(),()] w'
 rR:∀F N K L er cs w,RK F N K L er cs w->Row w (s0+1) 28 cs
 sR:∀(F N K L er:Nat) w,RK F N K L er [(),(),(),()] w->RK F N K L er [F,N,K,L] ((((w.setCell (s0+1,0) F).setCell (s0+1,1) N).setCell (s0+1,2) K).setCell (s0+1,3) L)
 pR:∀(F N K L er:Nat) w,RK F N K L er [F,N,K,L] w->Dh (AH (AM #[AL #[F,N,K,L],er])) w
theorem kJ{W:World}{s0 pw pa pd f n c:Nat}{W2 Dh A LA RK lf sz}
  (hs0:s0=W)(I8:W2=(W.alloc (AK #[f,n,AA AB 3,c] 28)).alloc (AK #[(),(),(),()] 28))(hW:TWk s0 pw pa pd f n c W2 Dh A LA RK lf sz):
  Calls AP 13 #[AI pw,AL #[f,n,AA AB 3,c]] W Dh:=by
 have J:=AO hW;have Tl:=AO hs0;have Lv:=AO I8;have ad:=hW.szb;have HC:=AO (hW.can _ hW.h0);have QG:=AO hW.h0;have hmul:Ab.wrap (8*(sz:Int))=((8*sz:Nat):Int):=by rw[BQ];omega
 obtain⟨ab,zF⟩:=ae (8*sz);rw[<-zF]at hmul;have O7:=AO zF;obtain⟨Q,I⟩:=hW.rA _ hW.h0;obtain⟨a0,a1,a2,a3⟩:=Q.q4;obtain⟨z0,z1,z2,z3⟩:=I.q4;obtain⟨f0,f1,f2,f3⟩:=I.r4;clear Q I;clear hW hs0 I8 zF;go_enter_defers func13,ntmps13
 go_upto_region 1 with(fail)
 rw[<-Lv.out,<-Tl.out];clear Lv;go_wp2_with fail
 refine HC.out.mono ?_;rintro e w3 ⟨rfl,ED⟩;have HA:=AO (J.out.bA _ _ QG.out ED);clear ED QG HC;clear a0 a1 a2 a3 z0 z1 z2 z3 f0 f1 f2 f3;have H1:=AO (J.out.arn _ HA.out);have H2:=AO (J.out.left _ HA.out);have H3:=AO (J.out.dev _ HA.out);have H4:=AO (J.out.size _ HA.out);go_wp2_with fail
 refine H1.out.mono ?_;rintro e w4 ⟨rfl,rfl⟩;go_wp2_with fail
 refine H2.out.mono ?_;rintro e w4 ⟨rfl,rfl⟩;go_wp2_with fail
 refine H3.out.mono ?_;rintro e w4 ⟨rfl,rfl⟩;go_wp2_with fail
 refine H4.out.mono ?_;rintro e w4 ⟨rfl,rfl⟩;clear H1 H2 H3 H4;obtain⟨Q,I⟩:=J.out.rA _ HA.out;obtain⟨a0,a1,a2,a3⟩:=Q.q4;obtain⟨z0,z1,z2,z3⟩:=I.q4;obtain⟨f0,f1,f2,f3⟩:=I.r4;clear Q I;by_cases O:lf<ab
 ·have g1:decide (lf<ab)=true:=by simpa using O
  obtain⟨EG,gJ⟩:=J.out.room (by rw[<-O7.out];exact O) _ HA.out;have Eg:=AO EG;have HP:=AO gJ;clear EG gJ O;go_wp2
  have k0:=Eg.out.cell 0;have k1:=Eg.out.cell 1;have k2:=Eg.out.cell 2;have k3:=Eg.out.cell 3;simp only[AX,AV]at k0 k1 k2 k3;exact⟨AM #[AL #[(),(),(),()],AA AB 7],by simp[results,Tryz.results13,go_sem,k0,k1,k2,k3],HP.out⟩
 ·have g1:decide (lf<ab)=false:=by simpa using O
  have HL:=AO (J.out.last (by rw[<-O7.out];exact O) _ HA.out);clear O HA z0 z1 z2 z3 f0 f1 f2 f3;go_wp2_with fail
  refine HL.out.mono ?_;rintro e w5 ⟨en,er,rfl,h5⟩;have U:=AO h5;clear h5 HL a0 a1 a2 a3;obtain⟨Q,I⟩:=J.out.rL _ _ _ U.out;obtain⟨a0,a1,a2,a3⟩:=Q.q4;obtain⟨z0,z1,z2,z3⟩:=I.q4;obtain⟨f0,f1,f2,f3⟩:=I.r4;clear Q I;by_cases he:er=0
  ·subst he;simp only[Int.ofNat_zero];have HH:=AO (J.out.hold _ _ U.out);clear U z0 z1 z2 z3 f0 f1 f2 f3;go_wp2_with fail
   refine HH.out.mono ?_;rintro e w6 ⟨rfl,h6⟩;have HK:=AO (J.out.rks _ _ h6);clear HH a0 a1 a2 a3;obtain⟨Q,I⟩:=J.out.rL _ _ _ h6;obtain⟨a0,a1,a2,a3⟩:=Q.q4;obtain⟨z0,z1,z2,z3⟩:=I.q4;obtain⟨f0,f1,f2,f3⟩:=I.r4;clear Q I;clear h6 z0 z1 z2 z3 f0 f1 f2 f3;go_wp2_with fail
   refine HK.out.mono ?_;rintro e w7 ⟨F,N,K,L,er,rfl,h7⟩;have I:=J.out.rR _ _ _ _ _ _ _ h7;have H9:=AO (J.out.sR _ _ _ _ _ _ h7);obtain⟨z0,z1,z2,z3⟩:=I.q4;obtain⟨f0,f1,f2,f3⟩:=I.r4;clear h7 I HK a0 a1 a2 a3;go_wp2
   refine A6 (f:=36) (args:=#[AI pw,AJ AD 0 0]) a8 (by simp[go_sem]) ?_;refine(oB _ _ _).mono ?_;rintro e u' w9 ⟨rfl,rfl,rfl⟩;have EG:=J.out.rR _ _ _ _ _ _ _ H9.out;have gJ:=J.out.pR _ _ _ _ _ _ H9.out;have k0:=EG.cell 0;have k1:=EG.cell 1;have k2:=EG.cell 2;have k3:=EG.cell 3;simp only[AX,AV]at k0 k1 k2 k3;exact⟨AM #[AL #[F,N,K,L],er],by simp[results,Tryz.results13,go_sem,k0,k1,k2,k3],gJ⟩
  ·have al:¬(er:Int)=0:=a5;obtain⟨EG,gJ⟩:=J.out.eL _ _ _ U.out he;have Eg:=AO EG;have HP:=AO gJ;clear EG gJ he U;go_wp2
   have k0:=Eg.out.cell 0;have k1:=Eg.out.cell 1;have k2:=Eg.out.cell 2;have k3:=Eg.out.cell 3;simp only[AX,AV]at k0 k1 k2 k3;exact⟨AM #[AL #[(),(),(),()],er],by simp[results,Tryz.results13,go_sem,k0,k1,k2,k3],HP.out⟩
section
variable{X:Cx}{os:List DD}{m:Nat}{W:World}
theorem Wd.AN9{N}(h:Wd X os m W)(I:X.n<=N)(e:N+m<=1000000):Wd {X with N:=N} os m W:=by
 obtain⟨G,D,A,S,hw⟩:=h;exact⟨G,D,A,S,{hw with M8:=⟨I,e⟩}⟩
theorem Wd.nN(h:Wd X os m W):X.n<=X.N:=by
 obtain⟨G,D,A,S,hw⟩:=h;exact hw.M8.1
def R2(s0:Nat)(fc cs:List Value):List DD:=[Cv s0 28 fc,Cv (s0+1) 28 cs]
theorem R1(s0:Nat)(fc cs:List Value):Dr (R2 s0 fc cs):=λq e=>by
 simp[R2]at e;rcases e with rfl|rfl<;>exact⟨rfl,rfl⟩
theorem sM{F N c:Nat}(h:Wd X os m W):Wd X (os++R2 W [F,N,AA AB 3,c] Z4) m ((W.alloc (AK #[F,N,AA AB 3,c] 28)).alloc (AK #[(),(),(),()] 28)):=by
 have I:∀(w:World) (o:Obj),(w.alloc o).heap.size=w+1:=λw o=>by simp
 have e:=h.new ((AS W W).alloc ar (AK #[F,N,AA AB 3,c] 28)) (heap_alloc_new _ _:Row _ _ 28 [F,N,AA AB 3,c]) ar;have h3:=e.new ((AS _ _).alloc ar (AK #[(),(),(),()] 28)) (heap_alloc_new _ _:Row _ _ 28 Z4) ar;simp only[I,AR,CQ,BL]at h3;exact h3
theorem Rz{s0 fc cs Z}(h:Wd X (os++R2 s0 fc cs++Z) m W):Row W s0 28 fc/\Row W (s0+1) 28 cs:=
 ⟨h.Ek (by simp[R2]),h.Ek (by simp[R2])⟩
theorem Pe{s0 fc cs Z}(e:cs.length=4)(x0 x1 x2 x3:Value)(h:Wd X (os++R2 s0 fc cs++Z) m W):Wd X (os++R2 s0 fc [x0,x1,x2,x3]++Z) m ((((W.setCell (s0+1,0) x0).setCell (s0+1,1) x1).setCell (s0+1,2) x2).setCell (s0+1,3) x3):=by
 have J:∀cs,os++R2 s0 fc cs++Z=(os++[Cv s0 28 fc])++Cv (s0+1) 28 cs::Z:=λcs=>by simp[R2]
 rw[J]at h⊢;have I:=GD h (i:=(os++[Cv s0 28 fc]).length) (R:=s0+1) (cs:=cs) (by rw[AW ar,As];rfl) e x0 x1 x2 x3;rw[Ap _ _ ar,As]at I;exact I
theorem VO{s0 fc cs Z}(h:Wd X (os++R2 s0 fc cs++Z) m W):Wd X (os++Z) m W:=Wd.GB _ (R1 _ _ _) h
theorem lK{s0 fc cs}(h:Wd X (os++R2 s0 fc cs) m W):Wd X os m W:=by
 have:=VO (Z:=[]) (by rw[AY];exact h);rwa [AY]at this
theorem jx{F N c l}(h:Wd X os m W)(hf:Gh F N 3 (Cw X.sz ((3:Nat):Int)) l X.sz)(hm:De F N 3 (Cw X.sz ((3:Nat):Int)) l X.sz∈os)(hc:l.length=c)(hl:c<=300)(ab:8*X.sz+DF DD.gw os<=X.rm)(NG:X.rm<=1000000)(hn:X.N+m+KR<=1000000):
  Calls AP 13 #[AI X.p.w,AL #[F,N,AA AB 3,c]] W (o6 X os l m):=by
 have aD:KR=450000:=rfl;have aw:=h.nN;obtain⟨ZN,aB⟩:∃ZN,ZN+m+KR=1000000:=⟨1000000-(m+KR),a5⟩;obtain⟨Y,hY⟩:∃Y:Cx,Y={X with N:=ZN}:=⟨_,rfl⟩;have al:Y.N=ZN:=by rw[hY]
 have aq:X.n<=ZN:=a5;have ar:ZN+m<=1000000:=a5;have wu:Y.p=X.p:=by rw[hY]
 have z7:Y.sz=X.sz:=by rw[hY]
 have ad:Y.rm=X.rm:=by rw[hY]
 have ao:Y.cm=X.cm:=by rw[hY]
 have ay:∀os z n,Rm Y os z n↔Rm X os z n:=λos z n=>by rw[hY];exact BO
 have hy:Wd Y os m W:=by rw[hY];exact h.AN9 aq ar
 have Ib:∀os' m' w,Wd Y os' m' w->m'<=m+KR/\Wd X os' m' w:=λos' m' w q=>by
  have hb:=(Wd.bounds q).2;rw[al]at hb;have q2:=q.ya (N:=X.N) (by rw[hY];exact aw) (by rw[al];omega);refine⟨a5,?_⟩;rw[hY]at q2;exact q2
 have aC:N<=300:=by have:=hf.bn;have:=Dl (Cw X.sz ((3:Nat):Int)) l.length;omega
 obtain⟨s0,hs0⟩:=ae W.heap.size;obtain⟨fc,Pu⟩:∃fc:List Value,fc=[AA AB F,AA AB N,AA AB (3:Nat),AA AB c]:=⟨_,rfl⟩;have h2:Wd Y (os++R2 s0 fc Z4) m ((W.alloc (AK #[F,N,AA AB 3,c] 28)).alloc (AK #[(),(),(),()] 28)):=by
  rw[hs0,Pu];exact sM hy
 have Gu:∀cs,DF DD.gw (os++R2 s0 fc cs)=DF DD.gw os:=λcs=>by rw[DP,D5 _ (R1 _ _ _)];rfl
 have an:∀cs,De F N 3 (Cw Y.sz ((3:Nat):Int)) l Y.sz∈os++R2 s0 fc cs:=λcs=>by rw[z7];exact List.mem_append_left _ hm
 have Gv:Gh F N 3 (Cw Y.sz ((3:Nat):Int)) l Y.sz:=by rw[z7];exact hf
 have cB:∀cs er,JF Y (os++R2 s0 fc cs) l.length er->er=6/\¬X.cm\/er=5/\∀z,¬Rm X os z (MA l.length):=λcs er q=>by
  rcases q with⟨q1,q2⟩|⟨q1,q2⟩
  ·exact .inl ⟨q1,by rw[<-ao];exact q2⟩
  ·exact .inr ⟨q1,λz hz=>q2 z ((ay _ _ _).2 (GL hz (R1 _ _ _)))⟩
 have hr:∀{m w},Wd Y (os++R2 s0 fc Z4) m w->Row w s0 28 [F,N,AA AB 3,c]/\Row w (s0+1) 28 [(),(),(),()]:=λ{m w} q=>by
  have:=Rz (Z:=[]) (by rw[AY];exact q);rw[Pu]at this;exact this
 have au:∀{cs m w} (x0 x1 x2 x3:Value),cs.length=4->Wd Y (os++R2 s0 fc cs) m w->Wd Y (os++R2 s0 fc [x0,x1,x2,x3]) m ((((w.setCell (s0+1,0) x0).setCell (s0+1,1) x1).setCell (s0+1,2) x2).setCell (s0+1,3) x3):=λ{cs m w} x0 x1 x2 x3 ax q=>by
  have:=Pe (Z:=[]) ax x0 x1 x2 x3 (by rw[AY];exact q);rwa [AY]at this
 obtain⟨LA,U⟩:∃LA:Nat->Nat->World->Prop,∀en er w,LA en er w↔((er=0/\en=l.countP I2/\∀t∈l,0<=t.a/\-1<=t.b)\/(er=3/\¬DR l)\/(er=6/\¬Y.cm))/\Wd Y (os++R2 s0 fc Z4) (m+N+1) w:=⟨_,λ_ _ _=>BO⟩;obtain⟨RK,O⟩:∃RK:Nat->Nat->Nat->Nat->Nat->List Value->World->Prop,∀F2 N2 K L er cs w,RK F2 N2 K L er cs w↔((er=0/\K=2/\∃out m',L=out.length/\Gh F2 N2 2 (Cw Y.sz (2:Nat)) out Y.sz/\DR l/\Gx l out/\Wd Y (os++R2 s0 fc cs++[De F2 N2 2 (Cw Y.sz (2:Nat)) out Y.sz]) m' w)\/
   (0<er/\(F2=0/\N2=0/\K=0/\L=0)/\(er=3/\¬GJ l\/(er=6/\¬X.cm\/er=5/\∀z,¬Rm X os z (MA l.length)))/\∃m',Wd Y (os++R2 s0 fc cs++[]) m' w)):=⟨_,λ_ _ _ _ _ _ _=>BO⟩
 refine kJ (pw:=X.p.w) (pa:=X.p.a) (pd:=X.p.d) (lf:=X.rm-DF DD.gw os) (sz:=X.sz) hs0 rfl (A:=λw=>Wd Y (os++R2 s0 fc Z4) m w) (LA:=LA) (RK:=RK)
  ⟨h2,?_,?_,?_,?_,?_,?_,?_,?_,?_,?_,?_,?_,?_,?_,?_,?_,?_⟩
 ·intro w q;exact hr q
 ·intro w w' q hb;exact q.below hb
 ·intro w q;rw[<-wu];have az:2<=Cw Y.sz ((3:Nat):Int):=M4 (k:=((3:Nat):Int)) (Wd.bounds hy).1.1 a5;exact Zm q rfl (BN Nat.zero_lt_two az) (by rw[Gv.bn,hc]) a5
 ·intro w q;rw[<-wu];exact Nk q
 ·intro w q;have:=U7 q;rw[Gu,ad,wu]at this;exact this
 ·intro w q;rw[<-wu];exact RZ q
 ·intro w q;have:=RY q;rw[z7,wu]at this;exact this
 ·have:=(Wd.bounds hy).1.2;rwa [z7]at this
 ·intro aA;omega
 ·intro _ w q;rw[<-wu];refine(j3 q Gv (an _) hc (by rw[Gu,z7,ad];omega) (by rw[al];omega)).mono ?_;rintro e w' ⟨n,er,he,I,J⟩;exact⟨n,er,he,(U _ _ _).2 ⟨I,J⟩⟩
 ·intro en er w q;exact hr ((U _ _ _).1 q).2
 ·intro en er w q av;obtain⟨I,J⟩:=(U _ _ _).1 q;have k3:=au () () () () rfl J;refine⟨(hr k3).2,?_⟩;obtain⟨k4,k5⟩:=Ib _ _ _ (lK k3);refine .inr ⟨er,_,rfl,?_,k4,k5⟩;rcases I with⟨I,_⟩|⟨I,k6⟩|⟨I,k6⟩
  ·exact absurd I av
  ·exact .inl ⟨I,λhr=>k6 hr.1⟩
  ·exact .inr (.inl ⟨I,by rw[<-ao];exact k6⟩)
 ·intro en w q;obtain⟨I,J⟩:=(U _ _ _).1 q;obtain⟨i,hi⟩:=Ax.1 (an Z4);rw[<-wu];refine(hold_none (k:=3) (c:=c) J hi hf.fst a5).mono ?_;rintro e w' ⟨he,hw⟩;exact⟨he,(U _ _ _).2 ⟨I,hw⟩⟩
 ·intro en w q;obtain⟨I,J⟩:=(U _ _ _).1 q;rcases I with⟨_,k3,k4⟩|⟨I,_⟩|⟨I,_⟩
  ·rw[<-wu];refine(dh J Gv (an _) hc hl k3 (λt ht=>(k4 t ht).1) (λt ht=>(k4 t ht).2) (by rw[Gu,z7,ad];exact ab) (by rw[ad];exact NG) (by rw[al];omega)).mono ?_;rintro e w' (⟨F2,N2,out,m',he,r1,Q,r3,r4⟩|⟨er,m',he,r1,Q,r3⟩)
   ·exact⟨F2,N2,2,out.length,0,he,(O _ _ _ _ _ _ _).2 (.inl ⟨rfl,rfl,out,m',rfl,r1,Q,r3,r4⟩)⟩
   ·refine⟨0,0,0,0,er,he,(O _ _ _ _ _ _ _).2 (.inr ⟨r1,⟨rfl,rfl,rfl,rfl⟩,?_,m',by rw[AY];exact r3⟩)⟩;rcases Q with Q|Q
    ·exact .inl Q
    ·exact .inr (cB _ _ Q)
  ·omega
  ·omega
 ·intro F2 N2 K L er cs w q;rcases(O _ _ _ _ _ _ _).1 q with⟨_,_,out,m',_,_,_,_,k⟩|⟨_,_,_,m',k⟩
  ·exact(Rz k).2
  ·exact(Rz k).2
 ·intro F2 N2 K L er w q;rcases(O _ _ _ _ _ _ _).1 q with⟨I,J,out,m',k3,k4,k5,k6,k⟩|⟨I,J,k3,m',k⟩
  ·exact(O _ _ _ _ _ _ _).2 (.inl ⟨I,J,out,m',k3,k4,k5,k6,Pe rfl _ _ _ _ k⟩)
  ·exact(O _ _ _ _ _ _ _).2 (.inr ⟨I,J,k3,m',Pe rfl _ _ _ _ k⟩)
 ·intro F2 N2 K L er w q;rcases(O _ _ _ _ _ _ _).1 q with⟨I,J,out,m',k3,k4,k5,k6,k⟩|⟨I,J,k3,m',k⟩
  ·obtain⟨r1,Q⟩:=Ib _ _ _ (VO k);rw[z7]at k4 Q;exact .inl ⟨F2,N2,out,m',by rw[I,J,k3];rfl,k4,k5,k6,r1,Q⟩
  ·obtain⟨r1,Q⟩:=Ib _ _ _ (VO k);rw[AY]at Q;exact .inr ⟨er,m',by rw[J.1,J.2.1,J.2.2.1,J.2.2.2];rfl,k3,r1,Q⟩
end
theorem AE8{X b os}(hS:X.S0=Hs 0 b)(E:List (Nat×Nat)){q n}(J:∀e∈E,e.2<=q)(I:∀a∈os,a.ex.2=0\/a.ex∈E)(hb:E.length*(n+q)+n<=b):∃z,Rm X os z n:=sK hS E J rfl I hb
def l5:List Cy:=[⟨5,-1,2,0,0⟩]
theorem AF3:∀u∈l5,D7 u:=λu hu=>by
 simp[l5]at hu;subst hu;intro x e;simp[Cy.EE]at e;rcases e with rfl|rfl|rfl|rfl|rfl<;>exact Gj.of a6 a6
theorem fq:GJ l5:=by
 have I:yE l5 λ_=>5:=⟨λi j hi e _=>by simp[l5]at hi e;omega,λ_ _=>by decide,λi t h=>by
  have:=I4 h;simp[l5]at this;subst this;simp[l5]at h;rw[<-h],λi t h=>by
  have:=I4 h;simp[l5]at this;subst this;simp[l5]at h;exact .inl (by rw[<-h])⟩
 exact I.ZY
theorem ZS{W b n l}(h:Row W b 47 (EB l))(e:l.length=n)(hm:n<=1000)(O:∀u∈l,D7 u):El W W b n l:=by
 have J:W.ownsRow 0 47 5 (AJ b n n) n (EB l):=⟨by rw[Kz,e],.inr ⟨b,n,(EB l).toArray,rfl,Ao _,h,AQ _,by unfold maxLen;omega,by simp[Kz,e],by
  have:=Kz l;simp;exact Ay a5⟩⟩
 obtain⟨A,c,he,I,_⟩:=R7 J O;injection he with Q e2 U
 subst Q;exact I
theorem xS(w:World):Calls AP 10 #[] w λe w'=>e=AH true/\Below w w w':=by
 have HW:=AO (Yy 9 a5 w);go_enter func10,ntmps10
 go_wp2_with fail
 refine HW.out.mono ?_;rintro e w1 ⟨p,G,rfl,hs,hG,hb⟩;obtain⟨X,U⟩:=ae (cxL w p 90 10 6000 True 0);have h1:Wd X [] 0 w1:=by rw[U];exact oS hs hG hb a5 a5
 have Q:=h1.new ((AS w1 w1).alloc ar (AK #[AA AB 5,AA AB (-1),AA AB 2,(),()] 47)) (heap_alloc_new _ _:Row _ _ 47 (EB l5)) ar;have Q:Wd X [Cv w1 47 (EB l5)] 0 (w1.alloc (AK #[AA AB 5,AA AB (-1),AA AB 2,(),()] 47)):=Q;have I:Hid (X.p=p/\X.sz=10/\X.rm=90/\X.S0=Hs 0 6000/\X.cm/\X.N=0/\X.w0=w):=by rw[U];exact⟨rfl,rfl,rfl,rfl,trivial,rfl,rfl⟩
 have HL:Hid (Calls AP 12 #[AI p.w,AA AB 3,AJ w1 1 1] (w1.alloc (AK #[AA AB 5,AA AB (-1),AA AB 2,(),()] 47)) λe w'=>
   ∃F N:Nat,e=AH (AM #[AL #[F,N,AA AB 3,AA AB 1],()])/\Gh F N 3 (Cw X.sz ((3:Nat):Int)) l5 X.sz/\Wd X [Cv w1.heap.size 47 (EB l5),De F N 3 (Cw X.sz ((3:Nat):Int)) l5 X.sz] (0+N) w'):=by
  have:=yI (k:=3) (n:=1) (c:=1) (A:=AE w1) Q I.out.2.2.2.2.1 a5 (λz m' W' q=>ZS (q.row (i:=0) a8) rfl a5 AF3) a6 a6 (by rw[I.out.2.1,I.out.2.2.1];show 10+0<=90;omega) (by rw[I.out.2.2.2.2.2.1];show 0+0+1+1<=1000000;omega) (AE8 I.out.2.2.2.1 [] (q:=0) (λe he=>(by cases he)) (λa J=>.inl (by simp at J;subst J;rfl)) (by have h:=Dl (Cw X.sz ((3:Nat):Int)) l5.length;have e:l5.length=1:=rfl;rw[e]at h⊢;exact Ag (show 0* _+ _<=1 by rw[CY,BM];exact h) a5));rw[I.out.1]at this;exact this
 clear hs hG hb HW h1 Q U;go_wp2_with fail
 refine HL.out.mono ?_;rintro e w2 ⟨F,N,rfl,NI,GS⟩;have O:Hid (∀W,Below w2 w2 W->Calls AP 13 #[AI p.w,AL #[F,N,AA AB 3,AA AB 1]] W λe w'=>
   ∃F' N':Nat,e=AH (AM #[AL #[F',N',AA AB 2,AA AB 1],()])/\Below w.heap.size w w'):=λW hb=>by
  have hN:N<=1:=by rw[NI.bn];exact Dl _ _
  have h9:=jx (GS.below hb) NI (BD _ Az) (c:=1) rfl a5 (by rw[I.out.2.1,I.out.2.2.1];show 8*10+0<=90;omega) (by rw[I.out.2.2.1];omega) (by rw[I.out.2.2.2.2.2.1];unfold KR;omega);rw[I.out.1]at h9;refine h9.mono ?_;rintro e w' hr;obtain⟨F',N',out,m',he,_,_,ho,_,hw⟩:=sL hr fq I.out.2.2.2.2.1 (AE8 I.out.2.2.2.1 [(F,N)] (q:=1) (λe he=>by simp at he;subst he;exact hN) (λa J=>by
   simp at J;rcases J with rfl|rfl
   ·exact .inl rfl
   ·exact .inr (by simp[De])) (by have e:l5.length=1:=rfl;simp[MA,e]))
  have Qy:=hw.WV;rw[I.out.2.2.2.2.2.2]at Qy;have hlen:out.length=1:=ho.len;rw[hlen]at he;exact⟨F',N',he,Qy⟩
 have Te:=GS.size;clear HL NI GS I Te;go_wp2_with fail
 refine(O.out _ ((AS _ _).alloc ar _)).mono ?_;rintro e w4 ⟨F',N',rfl,IE⟩;have PL:=AO (IE.alloc IE.size (AK #[F',N',AA AB 2,AA AB 1] 28));clear IE O;go_wp2
 go_ret
 exact⟨rfl,PL.out⟩
def AL3(w:World)(l:List Cy)(e:Ending)(w':World):Prop:=
 ∃(A:Option Addr) (m c:Nat) (out:List Cy) (ok:Bool),e=AH (AM #[AJ A m c,ok])/\w'.ownsRow w 47 5 (AJ A m c) m (EB out)/\(∀u∈out,D7 u)/\(ok=true->DR l/\Gx l out)/\(ok=false->¬GJ l)/\Below w w w'
theorem yX{w A n c l}(hl:El w w A n l)(hn:n<=100000):Calls AP 14 #[AJ A n c] w (AL3 w l):=by
 have HL:=AO hl;have Gg:Hid (l.length=n):=hl.1;have az:Hid (∀t∈l,D7 t):=hl.2.1;have an:=AO (ZR (c:=c) hl a5);have T6:Hid (∀W x,Below w.heap.size w W->Calls AP 41 #[AJ A n c,AA AB x] W λe w'=>∃r,e=AH (AA AB r)/\U3 l x r/\w'=W):=λW x hb=>UK x ((hl.GQ hb).mono hb.size) a5;generalize GP:AL3 w l=Dh;replace GP:=AO GP;clear hl;go_enter func14,ntmps14
 go_wp2_with fail
 refine an.out.mono ?_;rintro e w1 ⟨b,rfl,hb,q,rfl⟩
 cases b
 ·have HF:Hid (Dh (AH (AM #[AJ AD 0 0,false])) (w.drewN q)):=by
   rw[<-GP.out];exact⟨AD,0,0,[],false,rfl,R8 _ _ _,λu hu=>(by cases hu),λh=>(by cases h),λ_ h=>(by cases hb.2 h.1),DA (AS _ _) q⟩
  clear hb;go_wp2
  exact HF.out
 have H0:=AO (hb.1 rfl);have NQ:Hid (Below w w (w.drewN q)):=DA (AS _ _) q;generalize w.drewN q=w1 at*
 clear hb an;go_wp2_with fail
 go_loopw [4,5] (λov iv wr=>∃(i m I:Nat) (A2:Option Addr) (out:List Cy),i<=n/\ov=AJ A2 m I/\iv=AA AB (i:Int)/\Hid (Below w.heap.size w wr)/\Hid (wr.ownsRow w.heap.size 47 5 (AJ A2 m I) m (EB out))/\Hid (LG l out i 0)/\Hid (out.length=m)) (λ_ iv _=>n-(BF iv).toNat)
 case atStart=>exact⟨0,0,0,AD,[],Ao _,rfl,rfl,NQ.out,R8 _ _ _,LG.zero,rfl⟩
 case round=>
  obtain⟨i,m,I,A2,out,hi,rfl,rfl,J,HO,HI,HM⟩:=hrel;clear NQ;by_cases ae:i<n
  ·obtain⟨b,off,t,rfl,_,q0,q1,q2,q3,q4,_,ht⟩:=((HL.out.GQ J.out).mono J.out.size).at_ ae;have g0:decide ((i:Int)<(n:Int))=true:=by simp;omega
   have i0:(0:Int)<=(i:Int):=a5;have i1:(i:Int)<(n:Int):=a5;have HT:=ht;obtain⟨ta,tb,tc,td,te⟩:=t;simp only at q0;have au:Hid (∀q,(wr.drewN q).cell? (b,off+i*5)=AE (AA AB ta)):=λ_=>q0;have aq:Hid (∀k,k<n->∃u:Cy,(∀q,(wr.drewN q).cell? (b,off+k*5+1)=AE (AA AB u.b))/\l[k]?=AE u):=λk hk=>by
    obtain⟨b',SD,u,U,_,_,s1,_,_,_,_,hu⟩:=((HL.out.GQ J.out).mono J.out.size).at_ hk;injection U with U
    injection U with h1 h2
    subst h1 h2;exact⟨u,λ_=>s1,hu.out⟩
   clear q0 q1 q2 q3 q4 ht;go_wp2_with fail
   generalize wr=wo at*
   go_loopw [6,7] (λfv kv wr=>∃(k:Nat) (fb:Bool),k<=n/\fv=.bool fb/\kv=AA AB (k:Int)/\(∃q,wr=wo.drewN q)/\Hid (fb=true↔∀(j:Nat) (u:Cy),j<k->l[j]?=AE u->u.b≠ta)) (λ_ kv _=>n-(BF kv).toNat)
   case atStart=>exact⟨0,true,Ao _,rfl,rfl,⟨0,rfl⟩,λ_ j u hj=>absurd hj a5,λ_=>rfl⟩
   case round=>
    obtain⟨k,fb,hk,rfl,rfl,⟨q,rfl⟩,HK⟩:=hrel;by_cases jV:k<n
    ·obtain⟨u,aB,Q⟩:=aq.out k jV;have gk:decide ((k:Int)<(n:Int))=true:=by simp;omega
     have k0:(0:Int)<=(k:Int):=a5;have k1:(k:Int)<(n:Int):=a5;have c0:=au.out
     cases fb
     ·have YR:Hid (false=true↔∀(j:Nat) (u:Cy),j<k+1->l[j]?=AE u->u.b≠ta):=⟨λh=>(by cases h),λh=>HK.out.2 λj u hj hu=>h j u a5 hu⟩;clear Q HK;go_wp2
      go_quiet (fail)
      go_wp2
      go_roundw
      case rel=>exact⟨k+1,false,a5,rfl,by go_num,⟨_,by first|rfl|exact World.drewN_drewN _ _ _⟩,YR.out⟩
      case measure=>simp[BF];omega
     ·by_cases he:u.b=ta
      ·have ge:(u.b !=ta)=false:=by simp[he]
       have YR:Hid (false=true↔∀(j:Nat) (u:Cy),j<k+1->l[j]?=AE u->u.b≠ta):=⟨λh=>(by cases h),λh=>absurd he (h k u a5 Q)⟩;generalize u.b=ub at*
       clear Q HK he;go_wp2
       go_quiet (fail)
       go_wp2
       go_roundw
       case rel=>exact⟨k+1,false,a5,rfl,by go_num,⟨_,by first|rfl|exact World.drewN_drewN _ _ _⟩,YR.out⟩
       case measure=>simp[BF];omega
      ·have ge:(u.b !=ta)=true:=by simp[he]
       have YR:Hid (true=true↔∀(j:Nat) (u:Cy),j<k+1->l[j]?=AE u->u.b≠ta):=⟨λ_ j y hj hy=>by
        rcases Ak j k with h|h
        ·exact HK.out.1 rfl j y h hy
        ·obtain rfl:j=k:=a5;rw[Q]at hy;injection hy with hy
         rw[<-hy];exact he,λ_=>rfl⟩
       generalize u.b=ub at*
       clear Q HK he;go_wp2
       go_quiet (fail)
       go_wp2
       go_roundw
       case rel=>exact⟨k+1,true,a5,rfl,by go_num,⟨_,by first|rfl|exact World.drewN_drewN _ _ _⟩,λ_=>YR.out.1 (by trivial),λ_=>rfl⟩
       case measure=>simp[BF];omega
    ·obtain rfl:k=n:=a5;have gk:decide ((k:Int)<(k:Int))=false:=a8;have QF:Hid (fb=true↔dU l ta):=HK.out.trans ⟨λh u hu=>by
      obtain⟨j,hj⟩:=Ax.1 hu;exact h j u (by have:=I4 hj;have:=Gg.out;omega) hj,λh j u _ hu=>h u (Ae hu)⟩
     have Fg:Hid (Below w w (wo.drewN q)):=DA J.out q;have dO:Hid ((wo.drewN q).ownsRow w 47 5 (AJ A2 m I) m (EB out)):=Gm HO.out (DA (AS _ _) q);generalize wo.drewN q=w2 at*
     clear HK au aq J HO
     cases fb
     ·have qc:Hid (LG l out (i+1) 0):=HI.out.skip λx r hx=>by
       obtain⟨t,ht,hf⟩:=hx.origin;rw[HT.out]at ht;injection ht with ht
       rw[<-ht]at hf;exact(by cases QF.out.2 hf)
      clear QF;go_wp2_with fail
      refine wp_loop_rounds 1 ?_;rw[rounds_succ];go_wp2_with fail
      go_roundw
      case rel=>exact⟨i+1,m,I,A2,out,a5,rfl,by go_num,Fg.out,dO.out,qc.out,HM.out⟩
      case measure=>simp[BF];omega
     ·have NP:Hid (Rf l i 0 ta 0):=.first HT.out (QF.out.1 rfl);clear QF;go_wp2_with fail
      go_loopw [4,8,9,10] (λov sv av nv wr=>∃(nn m I:Nat) (A2:Option Addr) (out:List Cy) (sum at_:Int),ov=AJ A2 m I/\sv=AA AB sum/\av=AA AB at_/\nv=AA AB (nn:Int)/\Hid (Below w.heap.size w wr)/\Hid (wr.ownsRow w.heap.size 47 5 (AJ A2 m I) m (EB out))/\Hid (LG l out i nn)/\Hid (out.length=m)/\((∃(q:Nat) (u:Cy),at_=q/\q<k/\nn<k/\Hid (l[q]?=AE u)/\Hid (Rf l i nn u.a sum))\/(at_=-1/\nn<=k/\Hid (∀x r,¬Rf l i nn x r)))) (λ_ _ av nv _=>k+1-(BF nv).toNat)
      case atStart=>exact⟨0,m,I,A2,out,0,i,rfl,rfl,rfl,rfl,Fg.out,dO.out,HI.out,HM.out,.inl ⟨i,⟨ta,tb,tc,td,te⟩,rfl,ae,a5,HT.out,NP.out⟩⟩
      case round=>
       obtain⟨nn,m,I,A2,out,sum,at_,rfl,rfl,rfl,rfl,J,HO,HI,HM,aA⟩:=hrel;clear Fg dO NP;rcases aA with⟨q,u,rfl,hq,jU,hu,hr⟩|⟨rfl,jU,hno⟩
       ·obtain⟨b',SD,u',U,_,q0,q1,q2,q3,q4,_,ab⟩:=((HL.out.GQ J.out).mono J.out.size).at_ hq;injection U with U
        injection U with h1 h2
        subst h1 h2;have:u'=u:=by have:=hu.out;rw[ab.out]at this;injection this
        subst this;have HU:=hu;have HR:=hr;have ga:decide ((q:Int)≥0)=true:=a8;have a0:(0:Int)<=(q:Int):=a5;have a1:(q:Int)<(k:Int):=a5;have bB:Hid (Calls AP 40 #[AJ A2 m I,AL #[u'.a,sum,(),(),()]] wr (ak wr w m out ⟨u'.a,sum,0,0,0⟩)):=
         ez ⟨u'.a,sum,0,0,0⟩ HO.out HM.out (by have:=HI.out.len H0.out;have:=Gg.out;have:=HM.out;omega) J.out.size
        have ao:Hid (∀W,Below w w W->W.cell? (b,off+q*5+2)=AE (AA AB u'.c)/\W.cell? (b,off+q*5+1)=AE (AA AB u'.b)):=λW hb=>by
         obtain⟨b',SD,u2,U,_,s0,s1,s2,s3,s4,_,RD⟩:=((HL.out.GQ hb).mono hb.size).at_ hq;injection U with U
         injection U with h1 h2
         subst h1 h2;have:u2=u':=by have:=HU.out;rw[RD.out]at this;injection this
         subst this;exact⟨s2,s1⟩
        clear q1 q2 q3 q4 ab hu hr;go_wp2_with fail
        refine bB.out.mono ?_;rintro e w5 ⟨A5,c5,p,rfl,ad,hp,hd,al,Fx⟩;have EV:=AO (J.out.trans (Fx.mono ar));have aw:=AO ad;have ay:=AO (HI.out.put H0.out HR.out (by rw[HM.out];exact hp) hd al);have ax:Hid ((JX out ⟨u'.a,sum,0,0,0⟩ p).length=m+1):=by unfold Hid;rw[VW out _ (by rw[HM.out];exact hp),HM.out]
        obtain⟨z2,z1⟩:=ao.out w5 EV.out;clear ad hp hd al Fx bB q0 ao J HO HI;go_wp2_with fail
        refine(T6.out w5 u'.b EV.out).mono ?_;rintro e w6 ⟨r,rfl,hr,rfl⟩;have RO:=AO (iL H0.out (Ae HU.out) HR.out hr);have KM:Hid (∀x y,Rf l i (nn+1) x y->nn+1<k):=λx y hx=>by have:=hx.lt H0.out;have:=Gg.out;omega
        clear hr z1 z2;go_wp2_with fail
        go_roundw
        case rel=>
         refine⟨nn+1,m+1,c5,A5,_,_,r,rfl,rfl,rfl,by go_num,EV.out,aw.out,ay.out,ax.out,?_⟩;rcases RO.out with⟨q2,u2,e2,h2,h3⟩|⟨e2,h3⟩
         ·exact .inl ⟨q2,u2,e2,by have:=I4 h2;have:=Gg.out;omega,KM.out _ _ h3,h2,by rw[<-IntWalk.i64_left];exact h3⟩
         ·exact .inr ⟨e2,a5,h3⟩
        case measure=>simp[BF];omega
       ·have ga:decide ((-1:Int)≥0)=false:=a8;have qc:Hid (LG l out (i+1) 0):=HI.out.skip hno.out;clear hno;go_wp2_with fail
        go_roundw
        case rel=>exact⟨i+1,m,I,A2,out,a5,rfl,by go_num,J.out,HO.out,qc.out,HM.out⟩
        case measure=>simp[BF];omega
  ·obtain rfl:i=n:=a5;have g0:decide ((i:Int)<(i:Int))=false:=a8;have hd:=LG.done H0.out (out:=out) (by rw[Gg.out];exact HI.out);have O:=HI.out.fits H0.out az.out;by_cases Ye:m=i
   ·have gm:((m:Int)==(i:Int))=true:=by simp[Ye]
    have HF:Hid (Dh (AH (AM #[AJ A2 m I,true])) wr):=by
     rw[<-GP.out];exact⟨A2,m,I,out,true,rfl,HO.out,O,λ_=>⟨H0.out,hd.1 (by rw[HM.out,Gg.out];exact Ye)⟩,λh=>(by cases h),J.out⟩
    clear hd O Ye;go_wp2
    exact HF.out
   ·have gm:((m:Int)==(i:Int))=false:=by simp;omega
    have HF:Hid (Dh (AH (AM #[AJ A2 m I,false])) wr):=by
     rw[<-GP.out];exact⟨A2,m,I,out,false,rfl,HO.out,O,λh=>(by cases h),λ_=>hd.2 (by rw[HM.out,Gg.out];exact Ye),J.out⟩
    clear hd O Ye;go_wp2
    exact HF.out
section
variable{X:Cx}{os:List DD}{m:Nat}{W:World}
def Tr(bs:Nat->Nat):Nat->Nat
 |0=>0
 |i+1=>Tr bs i+bs i
theorem xQ{rb n c:Nat}{bs}(h:Wd X os m W)(hS:X.S0=Hs 0 6000)(Gu:DF DD.gw os=0)(U:DF DD.xw os=Tr bs n)(hn:n<=10)(al:∀i,i<n->bs i<=6000/\W.cell? (rb,i*4+1)=AE (AA AB (bs i:Nat)))(J:0<n->rb<W):
  Calls AP 15 #[AI X.p.w,AJ rb n c] W λe w'=>e=AH true/\Wd X os m w':=by
 have hle:Tr bs n<=6000:=by
  obtain⟨G,D,A,S,hF⟩:=id h;have I:=hF.sum;rw[hS,UO]at I;omega
 have Xm:∀i j,i<=j->Tr bs i<=Tr bs j:=λi j Ii=>by
  induction j with
  |zero=>rw[show i=0 by omega];exact AQ _
  |succ j ih=>
   rcases Ak i (j+1)with I|I
   ·exact Ag (ih a5) (Nat.le_add_right _ _)
   ·rw[show i=j+1 by omega];exact AQ _
 have jn:=AO (Nk h);have ao:Hid (Calls AP 22 #[AI X.p.a] W λe w'=>e=AH ()/\w'=W):=by
  have:=qo h;rw[Gu]at this;exact this
 have an:=AO (PX h);have QF:Hid (Calls AP 43 #[AI X.p.s] W λe w'=>e=AH ((6000-Tr bs n:Nat):Int)/\Wd X os m w'):=by
  have:=jy h;rw[hS,UO,U]at this;exact this
 have yC:=AO al;have dL:=AO J;have ar:=AO Xm;have jg:=AO hle;clear h hS Gu U al Xm hle J;go_enter func15,ntmps15
 go_wp2_with fail
 go_loopw [5,6] (λsv iv wr=>∃i:Nat,i<=n/\iv=AA AB (i:Int)/\sv=AA AB (Tr bs i:Nat)/\wr=W) (λ_ iv _=>n-(BF iv).toNat)
 case atStart=>exact⟨0,Ao _,rfl,rfl,rfl⟩
 case round=>
  obtain⟨i,hi,rfl,rfl,rfl⟩:=hrel;by_cases ad:i<n
  ·have g0:decide ((i:Int)<(n:Int))=true:=by simpa using ad
   have FW:(0:Int)<=(i:Int):=a5;have cN:(i:Int)<(n:Int):=a5;obtain⟨hb,q1⟩:=yC.out i ad;have J:=dL.out a5;have Gp:=ar.out i n hi;have G9:=jg.out;obtain⟨s,Q⟩:=ae (Tr bs i);obtain⟨b,O⟩:=ae (bs i);obtain⟨t,ht⟩:=ae (s+b);have HT:Hid (Tr bs (i+1)=t):=by unfold Hid;rw[ht,Q,O];rfl
   rw[<-O]at q1 hb;rw[<-Q]at Gp⊢;have s1:(s:Int)+(b:Int)=(t:Int):=a5;have wD:t<=20000:=a5;clear Q O ht Gp G9;go_wp2
   go_roundw
   case rel=>exact⟨i+1,a5,by go_num,by rw[HT.out],by trivial⟩
   case measure=>simp[BF];omega
  ·obtain rfl:i=n:=a5;have g0:decide ((i:Int)<(i:Int))=false:=a8;have G9:=jg.out;obtain⟨s,Q⟩:=ae (Tr bs i);obtain⟨d,hd⟩:=ae (6000-s);rw[<-Q]at QF G9⊢;rw[<-hd]at QF;have s1:(6000:Int)-(s:Int)=(d:Int):=a5;clear Q hd;go_wp2_with fail
   refine jn.out.mono ?_;rintro e w1 ⟨rfl,rfl⟩;go_wp2_with fail
   refine ao.out.mono ?_;rintro e w1 ⟨rfl,rfl⟩;go_wp2_with fail
   refine an.out.mono ?_;rintro e w1 ⟨rfl,rfl⟩;go_wp2_with fail
   refine QF.out.mono ?_;rintro e w1 ⟨rfl,I⟩;have H1:=AO I;have WG:=AO (Nk I);obtain⟨q,hq,ab⟩:=qt I;have aq:=AO ab;have YQ:=AO (qs I);have gq:decide ((q:Int)<=(X.rm:Int))=true:=by simpa using hq
   have au:decide (q<=X.rm)=true:=by simpa using hq
   clear I ab hq;go_wp2_with fail
   refine WG.out.mono ?_;rintro e w2 ⟨rfl,rfl⟩;go_wp2_with fail
   refine aq.out.mono ?_;rintro e w2 ⟨rfl,rfl⟩;go_wp2_with fail
   refine WG.out.mono ?_;rintro e w2 ⟨rfl,rfl⟩;go_wp2_with fail
   refine YQ.out.mono ?_;rintro e w2 ⟨rfl,rfl⟩;go_wp2
   go_ret
   exact⟨rfl,H1.out⟩
end
section
variable{X:Cx}{os:List DD}{m i:Nat}{W W':World}{l:List Cy}{v:Value}
theorem Wd.AX4(hw:Wd X os m W)(hb:Below W W W'){n}(I:W'.ownsRow W 47 5 v n (EB l))(U:l.length=n):Wd X (os++[VC X v l]) m W':=by
 subst U;have O:W'.ownsRow X.w0.heap.size 47 5 v l.length (EB l):=fM I hw.size;have J:=hw.grow.Qp (i:=os.length) (a:=Dw) (a':=VC X v l) (W':=W') (R:=λ_=>False) (Ve os) (DJ.DE hb _) (λk e=>e.elim) Y7 O (λk e=>by
  obtain⟨cs,Q⟩:=Y8 (X:=X) (v:=v) (l:=l) O e;refine⟨.inr ?_,Q.lt⟩;obtain⟨_,⟨h4,_⟩|⟨gl,c,c2,h4,h5,_⟩⟩:=I
  ·have e:v.ownBlock=AE k:=e;rw[h4]at e;cases e
  ·have e:v.ownBlock=AE k:=e;rw[h4]at e;have e:gl=k:=by injection e
   omega) rfl rfl (λ_ _=>trivial)
 rw[GY]at J;exact J
end
theorem AD7{n:Nat}(h:n<=1000000):wrap64 (n:Int)=(n:Int):=IntWalk.wrap64_in _ ⟨a5,a5⟩
def dw(n v i:Nat):Nat:=(n-1-i+v)%n
theorem kI{n v i}(hi:i<n):dw n v i=if v%n<=i then n-1-i+v%n else v%n-1-i:=by
 have e:v%n<n:=CM _ a5;unfold dw;rw[<-Nat.add_mod_mod]
 split
 ·rw[Nat.mod_eq_of_lt a5]
 ·rw[Nat.mod_eq_sub_mod a5,Nat.mod_eq_of_lt a5];omega
theorem Re{n v i}(hi:i<n):dw n v i<n:=CM _ a5
theorem VA{n v i}(hi:i<n):dw n v (dw n v i)=i:=by
 have e:v%n<n:=CM _ a5;rw[kI (Re hi),kI hi]
 split
 ·split<;>omega
 ·split<;>omega
def JB(l:List Cy)(v k:Nat):List Cy:=(Bo k).map λi=>l.getD (dw l.length v i) Cz
theorem Ie(l:List Cy)(v k:Nat):(JB l v k).length=k:=by simp[JB]
theorem vc(l:List Cy)(v k:Nat):JB l v (k+1)=JB l v k++[l.getD (dw l.length v k) Cz]:=by
 simp[JB,List.range_succ]
theorem PZ{l v i}(hi:i<l.length):(JB l v l.length)[i]?=l[dw l.length v i]?:=by
 have h:=Re (v:=v) hi;simp[JB,hi,AU h]
theorem QJ{l v i}(hi:i<l.length):l[i]?=(JB l v l.length)[dw l.length v i]?:=by
 rw[PZ (Re hi),VA hi]
theorem Hj{l v}(t:Cy):t∈l↔t∈JB l v l.length:=by
 constructor
 ·intro h;obtain⟨i,hi⟩:=Ax.1 h;rw[QJ (I4 hi)]at hi;exact Ae hi
 ·intro h;obtain⟨i,hi⟩:=Ax.1 h;have:=I4 hi;rw[Ie]at this;rw[PZ this]at hi;exact Ae hi
theorem bM{n v i j}(hi:i<n)(e:j<n)(h:dw n v i=dw n v j):i=j:=by
 rw[<-VA (v:=v) hi,h,VA e]
theorem OP{l v}:DR l↔DR (JB l v l.length):=
  ⟨λh=>h.KN (f:=dw l.length v) (Ie _ _ _) (λi hi=>⟨Re hi,PZ hi⟩) (λi j hi I e=>bM hi I e) (λt J=>(Hj t).1 J),
   λh=>h.KN (f:=dw l.length v) (Ie _ _ _).symm (λi hi=>by
     rw[Ie]at hi⊢;exact⟨Re hi,QJ hi⟩) (λi j hi I e=>by
     rw[Ie]at hi I;exact bM hi I e) (λt J=>(Hj t).2 J)⟩
theorem yJ{l out v}(h:Gx l out):Gx (JB l v l.length) out:=h.KN (Ie _ _ _) (λt=>Hj t)
theorem qB{l v}:GJ l↔GJ (JB l v l.length):=
  ⟨λ⟨J,h2⟩=>⟨OP.1 J,λt e=>by
    obtain⟨n,r,I⟩:=h2 t ((Hj t).2 e);exact⟨n,r,I.KN λt=>Hj t⟩⟩,
   λ⟨J,h2⟩=>⟨OP.2 J,λt e=>by
    obtain⟨n,r,I⟩:=h2 t ((Hj t).1 e);exact⟨n,r,I.KN λt=>(Hj t).symm⟩⟩⟩
end Go.Proofs.YthfnbpjegjbbiaaGreat
