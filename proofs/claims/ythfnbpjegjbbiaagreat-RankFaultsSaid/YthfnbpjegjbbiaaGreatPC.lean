/- What the laws stand on. -/
import Derived.Test.YthfnbpjegjbbiaaGreatPB
namespace Go.Proofs.YthfnbpjegjbbiaaGreat
set_option linter.unusedVariables false
set_option maxRecDepth 100000
set_option maxHeartbeats 8000000
open Go.ChangeShapes Go.WideShapes Go.ChangeAt Go.RowKit
open Go.Joins Go.Deep
open Go.ChangeShapes Go.WideShapes Go.ChangeAt Go.RowKit Go.Maps
open Go.ChangeMaps (setBlock heap_setBlock_same heap_setBlock_other)
open Go.Value renaming pointer → AI
open Go.Value renaming int → AA
open Go.IntKind renaming i64 → AB
open Option renaming some → AE
open Option renaming none → AD
open Lib renaming hid → AG
open Go.Ending renaming returned → AH
open Go.Value renaming slice → AJ
open Go.Obj renaming cells → AK
open Go.Value renaming agg → AL
open Go.Value renaming tuple → AM
open Go.Lib renaming hid → AO
open Go.Proofs.Tryz renaming prog → AP, underlying101 → Ad, underlying116 → Bc, results139 → Ca
open Nat renaming le_refl → AQ, mul_le_mul_right → Ae, le_trans → Af, lt_or_ge → Am, sub_self → Ap, zero_le → Aq, add_mul → A6, eq_zero_or_pos → A7, one_mul → BD, lt_of_lt_of_le → BH, zero_add → BL, add_sub_cancel → BQ, div_le_self → BW, min_eq_left → Bh, mod_lt → Bw, mul_comm → B6, add_assoc → CK, zero_mul → CS, div_mul_le_self → CU, min → CW, reduceAdd → Cb, lt_of_le_of_lt → Ce, add_sub_cancel_left → Cm
open List renaming append_assoc → AR, getD_eq_getElem?_getD → AT, getElem?_eq_getElem → AU, getElem?_cons_succ → AV, getElem?_cons_zero → AW, getElem?_append_right → AX, length_append → AY, append_nil → AZ, length_take → Ac, mem_append → Ag, length_map → Aj, mem_of_getElem? → Ak, getElem?_append_left → Al, length_drop → An, take_of_length_le → Ao, set_append_right → As, getElem?_take → At, getElem?_set → Av, mem_cons_self → Ax, mem_map → Az, mem_cons → A8, replicate → BA, mem_cons_of_mem → BB, mem_iff_getElem? → BC, getElem?_eq_none → BG, nil_append → BI, getElem?_eq_some_iff → BM, getElem_of_mem → BO, take_append_drop → BS, length_cons → BY, filter_append → Ba, getElem?_map → Bd, take_add_one → Bi, length_set → Bk, mem_singleton → Bn, mem_of_mem_take → Bo, getElem_mem → Bs, take_zero → Bt, range → Bu, take_length → By, set_cons_succ → Bz, pairwise_iff_getElem → B0, nodup_cons → B3, mem_filter → B4, take_take → B7, cons_append → B8, getElem?_drop → CL, drop_eq_getElem_cons → CQ, take_append_of_le_length → CX, findIdx_le_length → Cg, map_append → Cj, drop_zero → Cn, drop_drop → Co
open Go.RowKit.Below renaming refl → AS, trans → CM, size → CN, mono → CO
open Go.IntKind renaming i64 → Aa, wrap_i64 → BV
open Go renaming cell_regrown → Ab, bodyPost_ret → Aw, leaves_cons → Ay, wp_region_quiet_below → Bb, FrameMode → Bf, below_regrown → Bj, run_underlying → Bv, wpQuiet_nil → CV, block_lt_of_cell → Ci, Regrown → Cq
open Go.IntWalk renaming i64_in → Ah
open Go.Sort renaming grow → Ai
open Go.RowKit renaming intOf → BF
open Iff renaming rfl → BN
open Go.Result renaming andThen → BP
open Go.Calls renaming regrown_of → BU
open Int renaming toNat_natCast → BX, natCast_mul → Be, lt_trichotomy → Ck, tmod → Cp
open Go.Builtin renaming zeroCells → BZ
open Go.Value renaming int → Bg, ownBlock → Bp
open Go.Addr renaming add_lit → Bl, add → CY
open Go.Ending renaming returned → Bm
open And renaming intro → Bq
open Go.Sem renaming run → Br
open Go.Instr renaming index → CR
open Classical renaming byContradiction → CZ
open List.Perm renaming append_left → Cc, refl → Cf
open Go.Lit renaming int → Cd
open Go.Proofs.Tryz
open Nat.le renaming refl → ao
theorem Sn{s r}(e:s.down=false/\s.fb=false)(H:r=true)(h:(begin s r).1≠0):(begin s r).1=6/\(begin s r).2.Dg=s.Dg/\((begin s r).2.down=false/\(begin s r).2.fb=false)/\¬Calm s:=by
 unfold begin at h⊢;rw[if_neg (by simp[e.1]),if_neg (by simp[H]),if_neg (by simp[e.2])]at h⊢;dsimp only at h⊢
 split at h
 ·rename_i h1;rw[if_pos h1];exact⟨rfl,rfl,⟨e.1,e.2⟩,λI=>by rw[I.2.2]at h1;cases h1.1⟩
 ·exact absurd rfl h
theorem Sl{s i l}(I:s.down=false/\s.fb=false)(hi:right s i=true)(H:l.length=s.size)(h:(write s i l).1≠0):(write s i l).1=6/\(write s i l).2.Dg=s.Dg/\((write s i l).2.down=false/\(write s i l).2.fb=false)/\¬Calm s:=by
 have e:(right s i&&decide (l.length=s.size))=true:=by simp[hi,H]
 unfold write at h⊢;dsimp only at h⊢;by_cases hb:(begin s (right s i&&decide (l.length=s.size))).1=0
 ·rw[if_pos hb]at h;exact absurd rfl h
 ·rw[if_neg hb]at h⊢;exact Sn I e h
theorem iM{s i}(e:s.down=false/\s.fb=false)(hi:right s i=true)(h:(read s i).1≠0):(read s i).1=6/\(read s i).2.Dg=s.Dg/\((read s i).2.down=false/\(read s i).2.fb=false)/\¬Calm s:=Sn e hi h
def I1(p:Wp)(x:Nat)(t:Wt)(sz:Nat):DA:=⟨λk=>k=x\/k=t.b\/k=t.g,λW=>O7 W x p t sz,AE (t.b,sz),(t.first,t.blocks),λD=>D.size=sz->Ii D t⟩
def Yu(p:Wp)(x:Nat)(t:Wt):DA:=⟨λk=>k=x\/k=t.b,λW=>Nb W x p t,AD,(0,0),λ_=>True⟩
def Uu(p:Wp)(x:Nat)(t:Wt)(sz:Nat):DA:=⟨λk=>k=x\/k=t.b,λW=>Nb W x p t,AD,(DY t,Cr t.h t.l.length),λD=>D.size=sz->EM D (DY t) t.k t.h t.l (Cr t.h t.l.length)⟩
def Da(first nb k h:Nat)(l:List Cv)(sz:Nat):DA:=⟨λ_=>False,λ_=>True,AD,(first,nb),λD=>D.size=sz->EM D first k h l nb⟩
structure GY (first nb k h:Nat) (l:List Cv) (sz:Nat):Prop where
 kk:0<k/\k<=5
 hh:0<h/\h*k<=sz-2/\h<=254
 Pm:h=Ct sz k
 bn:nb=Cr h l.length
 len:l.length<=100000
 fst:first<=2000000
 fit:∀u∈l,EE u/\Dc k u=true
def Eu(p:Wp)(x:Nat)(r:Rt)(sz:Nat)(l:List Cv):DA:=⟨λk=>k=x\/k=r.b\/k=r.g,λW=>∃ws,Gu W x p r sz ws/\(r.pos%r.h≠0->ws.take (min r.h (r.count-r.pos/r.h*r.h)*r.k)=JI r.h r.k l (r.pos/r.h)),AE (r.b,sz),(0,0),λ_=>True⟩
def Nr(p:Wp)(x:Nat)(r:Rt):DA:=⟨λk=>k=x\/k=r.b,λW=>Um W x p r,AD,(0,0),λ_=>True⟩
def xU(b g M:Nat):DA:=⟨λk=>k=b\/k=g,λW=>Row W b 119 [AJ g M M]/\∃ws:List Nat,ws.length=M/\Row W g 120 (ws.map vw),AE (b,M),(0,0),λ_=>True⟩
def Fw(b g M k:Nat)(l:List Cv):DA:=⟨λk=>k=b\/k=g,λW=>Row W b 119 [AJ g M M]/\∃ws:List Nat,ws.length=M/\Row W g 120 (ws.map vw)/\ws.take (l.length*k)=EL k l,AE (b,M),(0,0),λ_=>True⟩
section
variable{p:Wp}{x sz:Nat}{t:Wt}{r:Rt}{l:List Cv}
theorem Ef{W W' g T cs}(h:Row W g T cs)(e:W'.heap[g]?=W.heap[g]?):Row W' g T cs:=e.trans h
theorem PX{D D' first k h m l e}(I:EM D first k h l m)(H:D'.size=D.size)(J:∀z:Nat,I2 e z->D'.now z=D.now z)(he:e.1=first/\m<=e.2):EM D' first k h l m:=λj O=>by
 rw[J (first+j) ⟨a5,a5⟩,H];exact I j O
theorem Yw(I:Ep t sz):(I1 p x t sz).Ok:=
  ⟨λW W' ⟨ws,hm,hh⟩ hk=>⟨ws,⟨Ef hm.row (hk _ (.inl rfl)),Ef hm.buf (hk _ (.inr (.inl rfl))),Ef hm.words (hk _ (.inr (.inr rfl))),hm.len,hm.u64⟩,hh⟩,
   λD D' h J Q O=>PX (e:=(t.first,t.blocks)) (h (J▸O)) J Q ⟨rfl,by
     have H:=Db (h:=t.h) I.h.1 I.bound.2;rw[<-I.blocks.1]at H;have U:t.l.length/t.h<=Cr t.h t.l.length:=by unfold Cr;split<;>omega
     exact Af U H⟩,
   λb n h=>by injection h with h;injection h with H _;exact .inr (.inl H.symm)⟩
theorem jo:(Yu p x t).Ok:=⟨λW W' ⟨e,h2⟩ hk=>⟨Ef e (hk _ (.inl rfl)),Ef h2 (hk _ (.inr rfl))⟩,λ_ _ _ _ _=>trivial,λ_ _ h=>by cases h⟩
theorem yN:(Uu p x t sz).Ok:=⟨λW W' ⟨O,h2⟩ hk=>⟨Ef O (hk _ (.inl rfl)),Ef h2 (hk _ (.inr rfl))⟩,λD D' h H J I=>PX (e:=(DY t,Cr t.h t.l.length)) (h (H▸I)) H J ⟨rfl,AQ _⟩,λ_ _ h=>by cases h⟩
theorem aV{first nb k h}:(Da first nb k h l sz).Ok:=⟨λ_ _ _ _=>trivial,λD D' h H J I=>PX (e:=(first,nb)) (h (H▸I)) H J ⟨rfl,AQ _⟩,λ_ _ h=>by cases h⟩
theorem lM:(Eu p x r sz l).Ok:=⟨λW W' ⟨ws,hm,hh⟩ hk=>⟨ws,⟨Ef hm.row (hk _ (.inl rfl)),Ef hm.buf (hk _ (.inr (.inl rfl))),Ef hm.words (hk _ (.inr (.inr rfl))),hm.len,hm.u64⟩,hh⟩,λ_ _ _ _ _=>trivial,λb n h=>by injection h with h;injection h with e _;exact .inr (.inl e.symm)⟩
theorem yb:(Nr p x r).Ok:=⟨λW W' ⟨e,h2⟩ hk=>⟨Ef e (hk _ (.inl rfl)),Ef h2 (hk _ (.inr rfl))⟩,λ_ _ _ _ _=>trivial,λ_ _ h=>by cases h⟩
theorem AA2{b g M}:(xU b g M).Ok:=⟨λW W' ⟨e,ws,h2,h4⟩ hk=>⟨Ef e (hk _ (.inl rfl)),ws,h2,Ef h4 (hk _ (.inr rfl))⟩,λ_ _ _ _ _=>trivial,λ_ _ h=>by injection h with h;injection h with e _;exact .inl e.symm⟩
theorem Uy{b g M k}:(Fw b g M k l).Ok:=⟨λW W' ⟨e,ws,h2,h4,h5⟩ hk=>⟨Ef e (hk _ (.inl rfl)),ws,h2,Ef h4 (hk _ (.inr rfl)),h5⟩,λ_ _ _ _ _=>trivial,λ_ _ h=>by injection h with h;injection h with e _;exact .inl e.symm⟩
end
section
variable{X:Cx}{os:List DA}{m i:Nat}{W W':World}{G:Nat->Prop}{D:St}{A:Ar}{S:Sp}{a:DA}{x:Nat}{t:Wt}{r:Rt}{l:List Cv}
theorem KI.inR(h:KI X os m W G D A S)(hi:os[i]?=AE a)(H:0<a.ex.2):((a.ex.1+a.ex.2:Nat):Int)<=D.blocks:=by
 have e:=h.exs i a hi (a.ex.1+a.ex.2-1) ⟨a5,a5⟩;have I:=(h.s0.2.2.has e).2;have h3:=h.range;rw[h.blocks];omega
theorem KI.yM(h:KI X os m W G D A S)(hi:os[i]?=AE (I1 X.p x t X.sz)):YI G x t:=⟨((h.mem i _ hi).2 x (.inl rfl)).2.2,((h.mem i _ hi).2 t.b (.inr (.inl rfl))).2.2,((h.mem i _ hi).2 t.g (.inr (.inr rfl))).2.2⟩
theorem rj{sz tu}(e:Ep t sz)(H:t.l.length<t.bound):Ep (t.snoc tu) sz:=⟨e.k,e.h,e.sz,⟨e.bound.1,by rw[Kf];exact H⟩,e.blocks,e.first⟩
theorem IJ{A b n}(e:Sound A)(h:wordsAt A.st b=AE n):(release A b n).used+n=A.used:=by
 have:=Rv e h;show A.used-n+n=A.used;omega
theorem Jk{S}(h:S.ok){f n}(J:S.first<=f\/n=0)(O:f+n<=S.first+S.blocks\/n=0)(e:∀z,f<=z->z<f+n->¬hasB S.fr z):
  (Dm S f n).first=S.first/\(Dm S f n).blocks=S.blocks/\(∀z,hasB (Dm S f n).fr z↔hasB S.fr z\/(f<=z/\z<f+n))/\ED (Dm S f n).fr=ED S.fr+n:=by
 unfold Dm;by_cases I:n=0
 ·subst I;rw[if_pos rfl];exact⟨rfl,rfl,λz=>⟨.inl,λH=>H.elim id λH=>by omega⟩,rfl⟩
 ·rw[if_neg I];rcases Jj h (f:Int) (n:Int)with⟨s',a,m,ha,hm,h1,he,hg⟩|⟨_,KR⟩
  ·obtain rfl:a=f:=a5;obtain rfl:m=n:=a5;rw[he];exact⟨hg.first,hg.blocks,hg.has,hg.sum⟩
  ·exact absurd ⟨a5,a5,e⟩ (KR f n rfl rfl a5)
theorem KI.held(h:KI X os m W G D A S)(hi:os[i]?=AE a):(∀z,I2 a.ex z->¬hasB S.fr z)/\(0<a.ex.2->S.first<=a.ex.1/\a.ex.1+a.ex.2<=S.first+S.blocks):=by
 refine⟨λz e hf=>((h.free z).1 hf).2 i a hi e,λQ=>?_⟩;have I:=h.exs i a hi a.ex.1 ⟨a5,a5⟩;have H:=h.exs i a hi (a.ex.1+a.ex.2-1) ⟨a5,a5⟩;have O:=h.s0.2.2.has I;have J:=h.s0.2.2.has H;rw[h.sp.1,h.sp.2];omega
theorem RW(h:Wd X os m W)(hi:os[i]?=AE (I1 X.p x t X.sz))(U:Ep t X.sz)(hn:X.N+m<1000000){tu}(hf:Dc t.k tu=true)(Kp:t.l.length<t.bound):
  Calls AP 30 #[AI x,AL #[tu.a,tu.b,tu.c,tu.d,tu.e]] W λe w'=>
   (e=AH ()/\Wd X (os.set i (I1 X.p x (t.snoc tu) X.sz)) (m+((t.l.length+1)/t.h-t.l.length/t.h)) w')\/
   (e=AH (AA AB 6)/\¬X.cm/\Wd X (os.set i (Yu X.p x (t.snoc tu))) (m+1) w'):=by
 obtain⟨G,D,A,S,h⟩:=h;obtain⟨ws,hm,hh⟩:=h.mem i _ hi|>.1;obtain⟨l1,l2,l3⟩:=hm.lt;have ho:=h.yM hi;have ab:wordsAt A.st t.b=AE D.size:=by rw[h.size];exact h.st i _ t.b X.sz hi rfl
 have Lm:wordsAt A.st t.b=AE X.sz:=h.st i _ t.b X.sz hi rfl;have Z6:=rj (tu:=tu) U Kp;have Ia:0<t.blocks:=by rw[U.blocks.1];exact En U.h.1 a5
 have NG:((t.first+t.blocks:Nat):Int)<=D.blocks:=h.inR hi Ia;have Oo:0<(t.snoc tu).l.length:=by rw[Kf];omega
 have J:=h.size;have mb:Ii D t:=(h.Te i _ hi) h.size;refine(qi (F:=⟨D,A,S⟩) h.sys (by show Ep t D.size;rw[J];exact U) (by show Lu W x X.p t D.size ws;rw[J];exact hm) (by have:=h.Lx;omega) ho ab hh tu hf Kp).mono ?_;rintro e w' (⟨ad,_⟩|⟨_,ar,_⟩|⟨_,_,⟨O,rfl,G',k1,k2,k3,Q⟩|⟨O,JM,rfl,G',k1,k2,k3,Q⟩|⟨O,JM,rfl,G',k1,k2,k3,Q⟩⟩)
 ·rw[hf]at ad;cases ad
 ·omega
 ·refine .inl ⟨rfl,?_⟩;rw[Md U.h.1 O,Ap,Nat.add_zero];have JV:O7 w' x X.p (t.snoc tu) X.sz:=by rw[<-J];exact k2
  obtain⟨E7,aa,_⟩:=id JV;obtain⟨q1,q2,q3⟩:=aa.lt;refine⟨G',D,A,S,h.step hi k1 (k3.mono λk H=>H.elim .inl λH=>H.elim (λe=>.inr (.inl e)) λe=>.inr (.inr (.inr e))) Q (Yw Z6) JV (λk H=>⟨.inl H,?_,?_⟩) ⟨rfl,rfl⟩ h.alive id h.Dg (λ_ _=>rfl) (λ_=>Yt U.h.1 mb O) rfl rfl (λ_ _ hw _=>hw) (λb n hb=>by injection hb with hb;injection hb with h1 h2;subst h1 h2;exact Lm) ⟨rfl,rfl⟩ (λz=>⟨λI=>⟨.inl I,(h.held hi).1 z|>λhx mV=>hx mV I⟩,λI=>I.1.elim id λhx=>absurd hx I.2⟩) (λz I=>.inl I) rfl⟩
  ·exact H.elim (λe=>by rw[e];exact q1) λH=>H.elim (λe=>by rw[e];exact q2) λe=>by rw[e];exact q3
  ·exact λhg=>(Q k hg).elim ((h.mem i _ hi).2 k H).2.2 λhl=>by have:=((h.mem i _ hi).2 k H).1;omega
 ·refine .inl ⟨rfl,?_⟩;rw[QW U.h.1 O,show t.l.length/t.h+1-t.l.length/t.h=1 by omega];have QM:Na D (write D (DX (t.snoc tu):Nat) (DU D.size (t.snoc tu))).2 1:=QF JM;have ao:(write D (DX (t.snoc tu):Nat) (DU D.size (t.snoc tu))).2.size=X.sz:=QM.size.trans J;have JV:O7 w' x X.p (t.snoc tu) X.sz:=by rw[<-ao];exact k2
  obtain⟨E7,aa,_⟩:=id JV;obtain⟨q1,q2,q3⟩:=aa.lt;have tv:=VW (D:=D) (by rw[J];exact Z6) Oo;refine⟨G',_,A,S,h.step hi k1 (k3.mono λk H=>H.elim .inl λH=>H.elim (λe=>.inr (.inl e)) λe=>.inr (.inr (.inr e))) Q (Yw Z6) JV (λk H=>⟨.inl H,?_,?_⟩) ⟨QM.size,QM.blocks⟩ (QM.alive h.alive) QM.calm (by rw[QM.Dg];have:=h.Dg;omega) (λz I=>(Pe JM).2.1 _ λe=>I ?_) (λ_=>Yq U.h.1 mb O JM) rfl rfl (λ_ _ hw _=>hw) (λb n hb=>by injection hb with hb;injection hb with h1 h2;subst h1 h2;exact Lm) ⟨rfl,rfl⟩ (λz=>⟨λI=>⟨.inl I,(h.held hi).1 z|>λhx mV=>hx mV I⟩,λI=>I.1.elim id λhx=>absurd hx I.2⟩) (λz I=>.inl I) rfl⟩
  ·exact H.elim (λe=>by rw[e];exact q1) λH=>H.elim (λe=>by rw[e];exact q2) λe=>by rw[e];exact q3
  ·exact λhg=>(Q k hg).elim ((h.mem i _ hi).2 k H).2.2 λhl=>by have:=((h.mem i _ hi).2 k H).1;omega
  ·have e':z=DX (t.snoc tu):=a5;rw[e'];exact tv
 ·obtain⟨f1,f2,f3,f4⟩:=Sl h.alive (SC (by rw[J];exact Z6) Oo NG) (XX (by rw[J];exact Z6) Oo) JM;obtain⟨al,wD,ae⟩:=XM JM;refine .inr ⟨by rw[f1],λhc=>f4 (h.calm hc),?_⟩;have OH:(Dm S (t.first+0) (t.blocks-0)).first=S.first/\(Dm S (t.first+0) (t.blocks-0)).blocks=S.blocks/\(∀z,hasB (Dm S (t.first+0) (t.blocks-0)).fr z↔hasB S.fr z\/(t.first+0<=z/\z<t.first+0+(t.blocks-0)))/\ED (Dm S (t.first+0) (t.blocks-0)).fr=ED S.fr+(t.blocks-0):=Jk h.sys.eZ (f:=t.first+0) (n:=t.blocks-0) (.inl ((h.held hi).2 Ia).1) (.inl ((h.held hi).2 Ia).2) (λz z1 z2=>(h.held hi).1 z ⟨z1,z2⟩);refine⟨G',_,_,_,h.step hi k1 (k3.mono λk H=>H.elim .inl λH=>H.elim (λe=>.inr (.inl e)) λH=>H.elim (λe=>.inr (.inr (.inr e))) λe=>.inr (.inr (.inl e))) Q jo k2 (λk H=>⟨.inl (H.elim .inl λH=>.inr (.inl H)),?_,?_⟩) ⟨wD,ae⟩ f3 (λhc=>absurd hc f4) (by rw[f2];have:=h.Dg;omega) (λz _=>al z) trivial rfl ?_ (λb n hw hb=>E4 _ _ _ _ hw λe=>hb (.inr (.inl e))) (λb n hb=>by cases hb) ⟨OH.1,OH.2.1⟩ (λz=>?_) (λz I=>absurd I (DT _ _)) ?_⟩
  ·exact H.elim (λe=>by rw[e];exact k2.1.lt) λe=>by rw[e];exact k2.2.lt
  ·refine λhg=>(Q k hg).elim ((h.mem i _ hi).2 k (H.elim .inl λH=>.inr (.inl H))).2.2 λhl=>?_;rcases H with rfl|rfl
   ·omega
   ·have:(t.snoc tu).b=t.b:=rfl;omega
  ·have hu:=IJ h.sys.sound (b:=t.b) (n:=(write D (DX (t.snoc tu):Nat) (DU D.size (t.snoc tu))).2.size) (by rw[wD];exact ab);rw[wD,J]at hu;show (release A t.b (write D (DX (t.snoc tu):Nat) (DU D.size (t.snoc tu))).2.size).used+X.sz=A.used+0;rw[wD,J];omega
  ·show hasB (Dm S (t.first+0) (t.blocks-0)).fr z↔ _;rw[OH.2.2.1 z];exact⟨λI=>⟨I,DT _ _⟩,λI=>I.1⟩
  ·show ED (Dm S (t.first+0) (t.blocks-0)).fr+0=ED S.fr+t.blocks;rw[OH.2.2.2];omega
end
section
variable{X:Cx}{os:List DA}{m i:Nat}{W W':World}{G:Nat->Prop}{D:St}{A:Ar}{S:Sp}{a:DA}{x:Nat}{t:Wt}{r:Rt}{l:List Cv}
theorem U4{D t}(H:EM D t.first t.k t.h t.l (Cr t.h t.l.length)):EM D (DY t) t.k t.h t.l (Cr t.h t.l.length):=by
 unfold DY;by_cases e:t.l.length=0
 ·rw[if_pos e,e,Du];intro j I;omega
 ·rw[if_neg e];exact H
theorem oE{t sz}(H:Ep t sz):Cr t.h t.l.length<=t.blocks/\∀z,I2 (DY t,Cr t.h t.l.length) z↔t.first<=z/\z<t.first+Cr t.h t.l.length:=by
 refine⟨by rw[H.blocks.1];exact Db H.h.1 H.bound.2,λz=>?_⟩;unfold I2 DY;by_cases e:t.l.length=0
 ·rw[if_pos e,e,Du];simp only;omega
 ·rw[if_neg e]
theorem KI.xV(h:KI X os m W G D A S)(hi:os[i]?=AE (I1 X.p x t X.sz)){n}(Q:n<=t.blocks):
  (Dm S (t.first+n) (t.blocks-n)).first=S.first/\(Dm S (t.first+n) (t.blocks-n)).blocks=S.blocks/\(∀z,hasB (Dm S (t.first+n) (t.blocks-n)).fr z↔hasB S.fr z\/(t.first+n<=z/\z<t.first+t.blocks))/\ED (Dm S (t.first+n) (t.blocks-n)).fr=ED S.fr+(t.blocks-n):=by
 obtain⟨J,H⟩:=h.held hi;have H:0<t.blocks->S.first<=t.first/\t.first+t.blocks<=S.first+S.blocks:=H;have I:=Jk (S:=S) h.sys.eZ (f:=t.first+n) (n:=t.blocks-n) (by
  rcases A7 (t.blocks-n)with e|e
  ·exact .inr e
  ·have:=H a5;exact .inl a5) (by
  rcases A7 (t.blocks-n)with e|e
  ·exact .inr e
  ·have:=H a5;exact .inl a5) (λz O z2=>J z ⟨by show t.first<=z;omega,by show z<t.first+t.blocks;omega⟩)
 rw[show t.first+n+(t.blocks-n)=t.first+t.blocks by omega]at I;exact I
theorem KI.shut(h:KI X os m W G D A S)(hi:os[i]?=AE (I1 X.p x t X.sz)){t'}(ht:t'.b=t.b){G'}{D'}{m'}(k1:Sys W' G' X.p ⟨D',release A t.b X.sz,Dm S (t.first+0) (t.blocks-0)⟩ (X.n+m'))(O:Nb W' x X.p t')(k3:DG (λk=>G k\/k=x\/k=t.g\/k=t.b) W W')(U:∀k,G' k->G k\/W<=k)
  (hD:D'.size=D.size/\D'.blocks=D.blocks)(alive:D'.down=false/\D'.fb=false)(calm:Calm D->Calm D')(Dg:D'.Dg<=((X.C+m':Nat):Int))(now:∀z:Nat,D'.now z=D.now z)(Lx:X.N+m'<=1000000:=by first|exact(KI.Lx a9).2|omega):Wd X (os.set i (Yu X.p x t')) m' W':=by
 have Lm:wordsAt A.st t.b=AE X.sz:=h.st i _ t.b X.sz hi rfl;have J:=h.xV hi (Aq _);refine⟨G',_,_,_,h.step hi k1 (k3.mono λk H=>H.elim .inl λH=>H.elim (λe=>.inr (.inl e)) λH=>H.elim (λe=>.inr (.inr (.inr e))) λe=>.inr (.inr (.inl e))) U jo O (λk H=>?_) hD alive calm Dg (λz _=>now z) trivial rfl ?_ (λb n hw hb=>E4 _ _ _ _ hw λe=>hb (.inr (.inl e))) (λb n hb=>by cases hb) ⟨J.1,J.2.1⟩ (λz=>?_) (λz I=>absurd I (DT _ _)) ?_⟩
 ·have Q:(I1 X.p x t X.sz).K k:=H.elim .inl λH=>.inr (.inl (H.trans ht));refine⟨.inl Q,H.elim (λe=>by rw[e];exact O.1.lt) λe=>by rw[e];exact O.2.lt,λhg=>(U k hg).elim ((h.mem i _ hi).2 k Q).2.2 λhl=>?_⟩;have:=((h.mem i _ hi).2 k Q).1;omega
 ·have hu:=IJ h.sys.sound Lm;show (release A t.b X.sz).used+X.sz=A.used+0;exact hu
 ·rw[J.2.2.1 z];exact⟨λI=>⟨I,DT _ _⟩,λI=>I.1⟩
 ·show ED (Dm S (t.first+0) (t.blocks-0)).fr+0=ED S.fr+t.blocks;rw[J.2.2.2];omega
theorem KI.xX(h:KI X os m W G D A S)(hi:os[i]?=AE (I1 X.p x t X.sz))(DK:Ep t X.sz){G'}{D'}{m'}(k1:Sys W' G' X.p ⟨D',release A t.b X.sz,Dm S (t.first+Cr t.h t.l.length) (t.blocks-Cr t.h t.l.length)⟩ (X.n+m'))(O:Nb W' x X.p t)(k3:DG (λk=>G k\/k=x\/k=t.g\/k=t.b) W W')(k4:∀k,G' k->G k\/W<=k)
  (hD:D'.size=D.size/\D'.blocks=D.blocks)(alive:D'.down=false/\D'.fb=false)(calm:Calm D->Calm D')(Dg:D'.Dg<=((X.C+m':Nat):Int))(now:∀z:Nat,¬I2 (t.first,t.blocks) z->D'.now z=D.now z)(hs:EM D' t.first t.k t.h t.l (Cr t.h t.l.length))(Lx:X.N+m'<=1000000:=by first|exact(KI.Lx a9).2|omega):Wd X (os.set i (Uu X.p x t X.sz)) m' W':=by
 have Lm:wordsAt A.st t.b=AE X.sz:=h.st i _ t.b X.sz hi rfl;obtain⟨hn,NG⟩:=oE DK;have J:=h.xV hi hn;have MU:=(h.held hi).1;refine⟨G',_,_,_,h.step hi k1 (k3.mono λk I=>I.elim .inl λI=>I.elim (λe=>.inr (.inl e)) λI=>I.elim (λe=>.inr (.inr (.inr e))) λe=>.inr (.inr (.inl e))) k4 yN O (λk I=>?_) hD alive calm Dg now (λ_=>U4 hs) rfl ?_ (λb n hw hb=>E4 _ _ _ _ hw λe=>hb (.inr (.inl e))) (λb n hb=>by cases hb) ⟨J.1,J.2.1⟩ (λz=>?_) (λz H=>?_) ?_⟩
 ·have U:(I1 X.p x t X.sz).K k:=I.elim .inl λI=>.inr (.inl I);refine⟨.inl U,I.elim (λe=>by rw[e];exact O.1.lt) λe=>by rw[e];exact O.2.lt,λhg=>(k4 k hg).elim ((h.mem i _ hi).2 k U).2.2 λhl=>?_⟩;have:=((h.mem i _ hi).2 k U).1;omega
 ·have hu:=IJ h.sys.sound Lm;show (release A t.b X.sz).used+X.sz=A.used+0;exact hu
 ·rw[J.2.2.1 z];have Q:I2 (Uu X.p x t X.sz).ex z↔t.first<=z/\z<t.first+Cr t.h t.l.length:=NG z;have h2:I2 (I1 X.p x t X.sz).ex z↔t.first<=z/\z<t.first+t.blocks:=BN;have h3:=MU z;rw[Q,h2];rw[h2]at h3;refine⟨λH=>?_,λ⟨H,hno⟩=>?_⟩
  ·rcases H with H|H
   ·exact⟨.inl H,λhx=>h3 ⟨hx.1,a5⟩ H⟩
   ·exact⟨.inr ⟨a5,H.2⟩,a5⟩
  ·rcases H with H|H
   ·exact .inl H
   ·exact .inr ⟨a5,H.2⟩
 ·have Q:I2 (Uu X.p x t X.sz).ex z↔t.first<=z/\z<t.first+Cr t.h t.l.length:=NG z;rw[Q]at H;exact .inl ⟨H.1,by show z<t.first+t.blocks;omega⟩
 ·show ED (Dm S (t.first+Cr t.h t.l.length) (t.blocks-Cr t.h t.l.length)).fr+Cr t.h t.l.length=ED S.fr+t.blocks;rw[J.2.2.2];omega
theorem OR(h:Wd X os m W)(hi:os[i]?=AE (I1 X.p x t X.sz))(DK:Ep t X.sz)(hn:X.N+m<1000000):
  Calls AP 31 #[AI x] W λe w'=>
   (e=AH (AM #[KD (DY t) (Cr t.h t.l.length) t.k t.l.length,()])/\Wd X (os.set i (Uu X.p x t X.sz)) (m+(Cr t.h t.l.length-t.l.length/t.h)) w')\/
   (e=AH (AM #[KD 0 0 0 0,AA AB 6])/\¬X.cm/\Wd X (os.set i (Yu X.p x t)) (m+1) w'):=by
 obtain⟨G,D,A,S,h⟩:=h;have hm:=(h.mem i _ hi).1;have ho:=h.yM hi;have H:=h.size;have ad:wordsAt A.st t.b=AE D.size:=by rw[h.size];exact h.st i _ t.b X.sz hi rfl
 have mb:Ii D t:=(h.Te i _ hi) h.size;have gN:Ep t D.size:=by rw[H];exact DK
 refine(Y6 (F:=⟨D,A,S⟩) h.sys (by have:=h.Lx;omega) gN (by show O7 W x X.p t D.size;rw[H];exact hm) ho ad).mono ?_;rintro e w' (⟨I,rfl,G',k1,k2,k3,k4⟩|⟨I,U,rfl,G',k1,k2,k3,k4⟩|⟨I,U,rfl,G',k1,k2,k3,k4⟩)
 ·refine .inl ⟨rfl,?_⟩;rw[KH I,Ap,Nat.add_zero];have J:Sys w' G' X.p ⟨D,release A t.b D.size,Dm S (t.first+Cr t.h t.l.length) (t.blocks-Cr t.h t.l.length)⟩ (X.n+m):=k1;rw[H]at J;exact h.xX hi DK J k2 k3 k4 ⟨rfl,rfl⟩ h.alive id h.Dg (λ_ _=>rfl) (WQ mb I)
 ·refine .inl ⟨rfl,?_⟩;have Oo:0<t.l.length:=by
   rcases A7 t.l.length with O|O
   ·rw[O]at I;simp at I
   ·exact O
  have Q:Na D (write D (DX t:Nat) (DU D.size t)).2 1:=QF U;have tv:=VW (D:=D) gN Oo;have J:Sys w' G' X.p ⟨(write D (DX t:Nat) (DU D.size t)).2,release A t.b (write D (DX t:Nat) (DU D.size t)).2.size,Dm S (t.first+Cr t.h t.l.length) (t.blocks-Cr t.h t.l.length)⟩ (X.n+m+1):=k1;rw[Q.size,H]at J;rw[H]at Q U;have DV:Cr t.h t.l.length-t.l.length/t.h=1:=by unfold Cr;rw[if_pos a5];omega
  rw[DV];exact h.xX hi DK J k2 k3 k4 ⟨Q.size,Q.blocks⟩ (Q.alive h.alive) Q.calm (by rw[Q.Dg];have:=h.Dg;omega) (λz hz=>(Pe U).2.1 _ λe=>hz (by
   have e':z=DX t:=a5;rw[e'];exact tv)) (by
   have:=Ut DK.h.1 mb I (by rw[H];exact U);rw[H]at this;exact this)
 ·have Oo:0<t.l.length:=by
   rcases A7 t.l.length with O|O
   ·rw[O]at I;simp at I
   ·exact O
  have Ia:0<t.blocks:=by rw[DK.blocks.1];exact En DK.h.1 (by have:=DK.bound.2;omega)
  have NG:((t.first+t.blocks:Nat):Int)<=D.blocks:=h.inR hi Ia;obtain⟨f1,f2,f3,f4⟩:=Sl h.alive (SC gN Oo NG) (XX gN Oo) U;obtain⟨ab,wD,aa⟩:=XM U;refine .inr ⟨by rw[f1],λhc=>f4 (h.calm hc),?_⟩;have J:Sys w' G' X.p ⟨(write D (DX t:Nat) (DU D.size t)).2,release A t.b (write D (DX t:Nat) (DU D.size t)).2.size,Dm S (t.first+0) (t.blocks-0)⟩ (X.n+m+1):=k1;have ae:(write D (DX t:Nat) (DU D.size t)).2.size=D.size:=wD;rw[ae,H]at J;rw[H]at ab wD aa f2 f3;exact h.shut hi rfl J k2 k3 k4 ⟨wD.trans H.symm,aa⟩ f3 (λhc=>absurd hc f4) (by rw[f2];have:=h.Dg;omega) (λz=>ab z)
theorem Uw(h:Wd X os m W)(hi:os[i]?=AE (I1 X.p x t X.sz))(J:Ep t X.sz)(u:Bf):
  CallsD AP 29 #[AI x] u W λe O w'=>O=u/\(e=AH (AM #[])/\Wd X (os.set i (Yu X.p x t)) m w'):=by
 obtain⟨G,D,A,S,h⟩:=h;obtain⟨ws,hm,hh⟩:=(h.mem i _ hi).1;have Q:=h.yM hi;have H:=h.size;have I:wordsAt A.st t.b=AE D.size:=by rw[h.size];exact h.st i _ t.b X.sz hi rfl
 refine(dg u (F:=⟨D,A,S⟩) h.sys hm.row hm.buf (by have:=J.sz;omega) Q.x I hm.apart.1 J.first J.blocks.2).mono ?_;rintro e O w' ⟨rfl,rfl,he⟩;refine⟨rfl,rfl,?_⟩;have hx:=he.row hm.row Q.x hm.apart.1;obtain⟨G',k1,k2,k3,k4⟩:=he;have U:Sys w' G' X.p ⟨D,release A t.b D.size,Dm S (t.first+0) (t.blocks-0)⟩ (X.n+m):=k1;rw[H]at U;exact h.shut hi rfl U ⟨hx,k4⟩ (k2.mono λk hk=>hk.elim .inl λe=>.inr (.inr (.inr e))) k3 ⟨rfl,rfl⟩ h.alive id h.Dg (λ_=>rfl)
theorem E8(H:Nb W x X.p t)(u:Bf):CallsD AP 29 #[AI x] u W λe I w'=>I=u/\(e=AH (AM #[])/\w'=W):=RV u H.1 H.2
def Rm(X:Cx)(os:List DA)(k n:Nat):Prop:=∀z,k<=z->z<k+n->hasB X.S0.fr z/\∀(i:Nat) (a:DA),os[i]?=AE a->¬I2 a.ex z
theorem ON(h:Wd X os m W)(k bound:Nat)(Xn:0<Ct X.sz k)(hb:bound<=100000)(ab:X.sz+DC DA.gw os<=X.rm):
  Calls AP 28 #[AI X.p.w,k,bound] W λe w'=>
   (e=AH (AM #[AI AD,AA AB 5])/\(∀q,¬Rm X os q (Cr (Ct X.sz k) bound))/\Wd X os m w')\/
   (∃x t,e=AH (AM #[AI (AE ⟨x,0,AD⟩),()])/\t.k=k/\t.h=Ct X.sz k/\t.bound=bound/\t.l=[]/\Ep t X.sz/\Wd X (os++[I1 X.p x t X.sz]) m w'):=by
 obtain⟨G,D,A,S,h⟩:=h;have J:=h.size;have wH:Mh ⟨D,A,S⟩ (k:Int) (bound:Int):=⟨by show Ct D.size k≠0;rw[J];omega,a5,a5⟩;have hu:=h.used;have MN:=h.room;have mq:D.size<=A.room-A.used:=by rw[J,MN,hu];omega
 refine(de (F:=⟨D,A,S⟩) h.sys (k:Int) (bound:Int) h.Tw).mono ?_;rintro e w' (⟨er,he,hw,hs⟩|⟨x,t,S1,G1,he,_,_,Pj,wL,ad,wK,wJ,hq,k4,U,k7,k8,x1,x2,x3⟩)
 ·rcases hw with⟨_,O⟩|⟨_,_,hlt⟩|⟨rfl,_,_,De,O⟩
  ·exact absurd wH O
  ·exact absurd mq (by show ¬D.size<=A.room-A.used;have:A.room-A.used<D.size:=hlt;omega)
  ·refine .inl ⟨he,λq hr=>O q λz z1 z2=>?_,?_⟩
   ·have EA:=hr z z1 (by
     have e2:Cr (Ct D.size (k:Int)) (bound:Int).toNat=Cr (Ct X.sz k) bound:=by rw[J,BX]
     have aa:z<q+Cr (Ct D.size (k:Int)) (bound:Int).toNat:=z2;rw[e2]at aa;exact aa)
    exact(h.free z).2 EA
   ·obtain⟨G',h1,h2,h3⟩:=hs;have PS:=h.grow;have gP:(os++[Dt])[os.length]?=AE Dt:=by rw[AX ao,Ap];rfl
    have I:=PS.step gP h1 (h2.mono λk Q=>.inl Q) h3 LR trivial (λk Q=>Q.elim) ⟨rfl,rfl⟩ h.alive id h.Dg (λ_ _=>rfl) trivial rfl rfl (λ_ _ hw _=>hw) (λ_ _ hb=>by cases hb) ⟨rfl,rfl⟩ (λz=>⟨λH=>⟨.inl H,DT _ _⟩,λH=>H.1.elim id λhx=>absurd hx (DT _ _)⟩) (λz H=>.inl H) rfl;rw[As _ _ ao,Ap]at I;exact Wd.drop ⟨_,_,_,_,I⟩ rfl rfl
 ·have ae:t.k=k:=a5;have qK:t.bound=bound:=a5;have Jv:t.h=Ct X.sz k:=by rw[ad];show Ct D.size k= _;rw[J]
  have DK:Ep t X.sz:=by rw[<-J];exact U.ok
  refine .inr ⟨x,t,he,ae,Jv,qK,wK,DK,?_⟩;have PS:=h.grow;have gP:(os++[Dt])[os.length]?=AE Dt:=by rw[AX ao,Ap];rfl
  have hex:∀z,I2 (t.first,t.blocks) z->hasB S.fr z:=λz H=>by
   rcases wJ with⟨h0,_,_⟩|⟨_,gF,_⟩
   ·unfold I2 at H;simp only at H;omega
   ·exact gF.room z H.1 H.2
  obtain⟨ws,hm,_⟩:=id U.mem;obtain⟨q1,q2,q3⟩:=hm.lt;have I:=PS.step (a':=I1 X.p x t X.sz) (D':=D) (A':=FG A t.b D.size) (S':=S1) gP k4 (k7.mono λk Q=>.inl Q) k8 (Yw DK) (by show O7 w' x X.p t X.sz;rw[<-J];exact U.mem) (λk Q=>?_) ⟨rfl,rfl⟩ h.alive id h.Dg (λ_ _=>rfl) (λ_=>U.stand) rfl (by show A.used+D.size+0=A.used+X.sz;omega) (λb n hw _=>Jd _ _ _ _ _ hw) (λb n hb=>by injection hb with hb;injection hb with h1 h2;subst h1 h2;rw[<-J];exact U.st) (by
    rcases wJ with⟨_,_,e⟩|⟨_,gF,_⟩
    ·rw[e];exact⟨rfl,rfl⟩
    ·exact⟨gF.first,gF.blocks⟩) (λz=>?_) (λz H=>.inr (hex z H)) ?_
  ·rw[As _ _ ao,Ap]at I;exact⟨_,_,_,_,I⟩
  ·exact Q.elim (λe=>by rw[e];exact⟨.inr x1,q1,U.out.x⟩) λQ=>Q.elim (λe=>by rw[e];exact⟨.inr x2,q2,U.out.b⟩) λe=>by rw[e];exact⟨.inr x3,q3,U.out.g⟩
  ·rcases wJ with⟨h0,h1,e⟩|⟨_,gF,_⟩
   ·rw[e];have O:¬I2 (I1 X.p x t X.sz).ex z:=λH=>by have H:I2 (t.first,t.blocks) z:=H;unfold I2 at H;simp only at H;omega
    exact⟨λH=>⟨.inl H,O⟩,λH=>H.1.elim id λhx=>absurd hx (DT _ _)⟩
   ·rw[gF.has z];exact⟨λH=>⟨.inl H.1,H.2⟩,λH=>⟨H.1.elim id λhx=>absurd hx (DT _ _),H.2⟩⟩
  ·have:=dy wJ;show ED S1.fr+t.blocks=ED S.fr+0;omega
end
section
variable{X:Cx}{os:List DA}{m i:Nat}{W W':World}{G:Nat->Prop}{D:St}{A:Ar}{S:Sp}{a:DA}{x:Nat}{t:Wt}{r:Rt}{l:List Cv}
theorem VT(os:List DA):(os++[Dt])[os.length]?=AE Dt:=by rw[AX ao,Ap];rfl
theorem GP(os:List DA)(a b:DA):(os++[a]).set os.length b=os++[b]:=by rw[As _ _ ao,Ap];rfl
theorem IG(os:List DA){i}{a}(h:os[i]?=AE a)(b:DA):(os.set i b)[i]?=AE b:=by
 rw[Av,if_pos rfl,if_pos];rcases Am i os.length with e|e
 ·exact e
 ·rw[BG e]at h;cases h
theorem Fa{os:List DA}{i j a b}(h:os[j]?=AE a)(e:i≠j):(os.set i b)[j]?=AE a:=by rw[Av,if_neg e];exact h
theorem Rp{os}{j:Nat}{a b:DA}(h:os[j]?=AE a):(os++[b])[j]?=AE a:=by
 rw[Al]
 ·exact h
 ·rcases Am j os.length with e|e
  ·exact e
  ·rw[BG e]at h;cases h
structure qS (r:Rt) (sz:Nat) (l:List Cv):Prop where
 ok:JA r sz
 cnt:l.length=r.count
 fit:∀u∈l,EE u/\Dc r.k u=true
def Src(os:List DA)(sz:Nat)(first k h:Nat)(l:List Cv):Prop:=∃(j:Nat) (f:DA),os[j]?=AE f/\(∀D:St,D.size=sz->f.dA D->EM D first k h l (Cr h l.length))/\(0<l.length->f.ex.1<=first/\first+Cr h l.length<=f.ex.1+f.ex.2)
theorem Src.set{sz first k h}(O:Src os sz first k h l){i}{a b}(hi:os[i]?=AE a)(H:a.dA=b.dA/\a.ex=b.ex):Src (os.set i b) sz first k h l:=by
 obtain⟨j,f,e,I,h3⟩:=O;by_cases J:i=j
 ·subst J;rw[hi]at e;injection e with e;subst e
  exact⟨i,b,IG os hi b,by rw[<-H.1];exact I,by rw[<-H.2];exact h3⟩
 ·exact⟨j,f,Fa e J,I,h3⟩
theorem Src.snoc{sz first k h}(e:Src os sz first k h l)(b:DA):Src (os++[b]) sz first k h l:=by
 obtain⟨j,f,I,H,h3⟩:=e;exact⟨j,f,Rp I,H,h3⟩
theorem Mp(h:Wd X os m W)(first nb k hh count:Nat)(l:List Cv)(Q:hh=Ct X.sz k)(Gh:0<hh)(hnb:nb=Cr hh count)(I6:count<=100000)(SV:first<=2000000)(aa:X.sz+DC DA.gw os<=X.rm):
  Calls AP 46 #[AI (AE ⟨X.p.w,0,AD⟩),AL #[first,nb,k,count]] W λe w'=>∃x b g,e=AH (AM #[AI (AE ⟨x,0,AD⟩),()])/\JA ⟨k,hh,first,nb,count,0,b,g⟩ X.sz/\Wd X (os++[Eu X.p x ⟨k,hh,first,nb,count,0,b,g⟩ X.sz l]) m w':=by
 obtain⟨G,D,A,S,h⟩:=h;have H:=h.size;have hu:=h.used;have MN:=h.room;have J:8<=X.sz/\X.sz<=256:=by rw[<-H];exact h.sys.size
 obtain⟨k',tw,JV,ab,gT⟩:=Ko (size:=X.sz) (width:=(k:Int)) (by rw[<-Q];omega);obtain rfl:k=k':=a5;refine(n9 (F:=⟨D,A,S⟩) h.sys k hh first nb count (by show hh=Ct D.size k;rw[H];exact Q) Gh hnb a5 (by show D.size<=A.room-A.used;rw[H,MN,hu];omega)).mono ?_;rintro e w' ⟨x,b,g,he,n1,U,n3,G',k1,⟨ws,k2⟩,k3,k4,k5⟩;have hle:=IN X.sz (k:Int);have DK:JA ⟨k,hh,first,nb,count,0,b,g⟩ X.sz:=⟨⟨JV,ab⟩,⟨Gh,by rw[Q];exact gT,by show hh<=254;rw[Q];omega⟩,J,⟨by show count<= _;omega,Aq _⟩,SV⟩;have U:W<=b:=U;refine⟨x,b,g,he,DK,?_⟩;have PS:=h.grow;have hq:∀q∈A.st,q.1≠b:=λq hq e=>by have:=(h.sys.buf hq).1.lt;omega
 obtain⟨q1,q2,q3⟩:=k2.lt;have I:=PS.step (a':=Eu X.p x ⟨k,hh,first,nb,count,0,b,g⟩ X.sz l) (D':=D) (A':=FG A b D.size) (S':=S) (VT os) k1 (k4.mono λk O=>.inl O) k5 lM ⟨ws,by rw[<-H];exact k2,λh0=>by simp at h0⟩ (λk O=>?_) ⟨rfl,rfl⟩ h.alive id h.Dg (λ_ _=>rfl) trivial rfl (by show A.used+D.size+0=A.used+X.sz;omega) (λb n hw _=>Jd _ _ _ _ _ hw) (λb' n hb=>by injection hb with hb;injection hb with h1 h2;subst h1 h2;rw[<-H];exact J5 _ _ _ hq) ⟨rfl,rfl⟩ (λz=>⟨λJ=>⟨.inl J,DT _ _⟩,λJ=>J.1.elim id λhx=>absurd hx (DT _ _)⟩) (λz J=>absurd J (DT _ _)) rfl
 ·rw[GP]at I;exact⟨_,_,_,_,I⟩
 ·exact O.elim (λe=>by rw[e];exact⟨.inr n1,q1,k3.x⟩) λO=>O.elim (λe=>by rw[e];exact⟨.inr U,q2,k3.b⟩) λe=>by rw[e];exact⟨.inr n3,q3,k3.g⟩
theorem KI.yc{l}(h:KI X os m W G D A S)(hi:os[i]?=AE (Eu X.p x r X.sz l)):OD G x r:=⟨((h.mem i _ hi).2 x (.inl rfl)).2.2,((h.mem i _ hi).2 r.b (.inr (.inl rfl))).2.2,((h.mem i _ hi).2 r.g (.inr (.inr rfl))).2.2⟩
theorem KI.lB(h:KI X os m W G D A S)(hi:os[i]?=AE (Eu X.p x r X.sz l)){G'}{D'}{m'}(U:Sys W' G' X.p ⟨D',release A r.b X.sz,S⟩ (X.n+m'))(J:Um W' x X.p r)(k3:DG (λk=>G k\/k=r.b\/k=r.g) W W')(Q:∀k,G' k->G k\/W<=k)
  (hD:D'.size=D.size/\D'.blocks=D.blocks)(alive:D'.down=false/\D'.fb=false)(calm:Calm D->Calm D')(Dg:D'.Dg<=((X.C+m':Nat):Int))(now:∀z:Nat,D'.now z=D.now z)(Lx:X.N+m'<=1000000:=by first|exact(KI.Lx a9).2|omega):Wd X (os.set i (Nr X.p x r)) m' W':=by
 have Lm:wordsAt A.st r.b=AE X.sz:=h.st i _ r.b X.sz hi rfl;refine⟨G',_,_,_,h.step hi U (k3.mono λk H=>H.elim .inl λH=>H.elim (λe=>.inr (.inr (.inl e))) λe=>.inr (.inr (.inr e))) Q yb J (λk H=>?_) hD alive calm Dg (λz _=>now z) trivial rfl ?_ (λb n hw hb=>E4 _ _ _ _ hw λe=>hb (.inr (.inl e))) (λb n hb=>by cases hb) ⟨rfl,rfl⟩ (λz=>⟨λI=>⟨.inl I,DT _ _⟩,λI=>I.1.elim id λhx=>absurd hx (DT _ _)⟩) (λz I=>absurd I (DT _ _)) rfl⟩
 ·have O:(Eu X.p x r X.sz l).K k:=H.elim .inl λH=>.inr (.inl H);refine⟨.inl O,H.elim (λe=>by rw[e];exact J.1.lt) λe=>by rw[e];exact J.2.lt,λhg=>(Q k hg).elim ((h.mem i _ hi).2 k O).2.2 λhl=>?_⟩;have:=((h.mem i _ hi).2 k O).1;omega
 ·have hu:=IJ h.sys.sound Lm;show (release A r.b X.sz).used+X.sz=A.used+0;exact hu
theorem lR{h i}(hh:0<h)(e:(i+1)%h≠0):(i+1)/h=i/h:=Md hh e
theorem OO(h:Wd X os m W)(hi:os[i]?=AE (Eu X.p x r X.sz l))(J:qS r X.sz l)(hn:X.N+m<1000000)(De:r.pos<r.count)(EY:Src os X.sz r.first r.k r.h l){t}(ht:l[r.pos]?=AE t):
  Calls AP 48 #[AI x] W λe w'=>
   (e=AH (AM #[AL #[t.a,t.b,t.c,t.d,t.e],true,()])/\Wd X (os.set i (Eu X.p x {r with pos:=r.pos+1} X.sz l)) (m+(Cr r.h (r.pos+1)-Cr r.h r.pos)) w')\/
   (e=AH (AM #[AL #[(),(),(),(),()],false,AA AB 6])/\¬X.cm/\Wd X (os.set i (Nr X.p x r)) (m+1) w'):=by
 obtain⟨G,D,A,S,h⟩:=h;obtain⟨ws,hm,SY⟩:=(h.mem i _ hi).1;have ho:=h.yc hi;have H:=h.size;have Lm:wordsAt A.st r.b=AE X.sz:=h.st i _ r.b X.sz hi rfl;have GL:JA r D.size:=by rw[H];exact J.ok
 have aa:Gu W x X.p r D.size ws:=by rw[H];exact hm
 obtain⟨j,f,hj,Kq,Gl⟩:=EY;have ab:=Kq D H (h.Te j f hj);have Oo:0<l.length:=by rw[J.cnt];omega
 have M6:=En J.ok.h.1 Oo;obtain⟨ao,mV⟩:=Gl Oo;have ae:r.pos/r.h<Cr r.h l.length:=by
  have h1:=LZ (h:=r.h) (c:=l.length) J.ok.h.1;apply Nat.lt_of_mul_lt_mul_right (a:=r.h);have h2:=CU r.pos r.h;rw[J.cnt]at h1⊢;exact Ce h2 (BH De h1)
 have gH:=h.inR hj a5;have zK:right D ((r.first+r.pos/r.h:Nat):Int)=true:=by
  clear SY ab;generalize r.pos/r.h=qq at*
  unfold right;simp;omega
 have Q:=J.fit t (Ak ht);have al:Cr r.h (r.pos+1)-Cr r.h r.pos=if r.pos%r.h=0 then 1 else 0:=by
  rw[Qb J.ok.h.1];split<;>omega
 have IP:∀w',(∀D' m',Na D D' m'->(∀z,D'.now z=D.now z)->(m'=if r.pos%r.h=0 then 1 else 0)->(∃E7,KT W G X.p ⟨D',A,S⟩ (X.n+(m+m')) x {r with pos:=r.pos+1} E7 w'/\E7.take (min r.h (r.count-r.pos/r.h*r.h)*r.k)=JI r.h r.k l (r.pos/r.h))->Wd X (os.set i (Eu X.p x {r with pos:=r.pos+1} X.sz l)) (m+(Cr r.h (r.pos+1)-Cr r.h r.pos)) w'):=λw' D' m' QM tf QT ⟨E7,⟨G',k1,O,k3,k4⟩,k5⟩=>by
  rw[al,<-QT];have ar:m'<=1:=by rw[QT];split<;>omega
  obtain⟨q1,q2,q3⟩:=O.lt;have YY:Gu w' x X.p {r with pos:=r.pos+1} X.sz E7:=by
   have e:D'.size=X.sz:=QM.size.trans H;have O:Gu w' x X.p {r with pos:=r.pos+1} D'.size E7:=O;rw[e]at O;exact O
  refine⟨G',D',A,S,h.step hi k1 (k3.mono λk U=>U.elim .inl λU=>U.elim (λe=>.inr (.inr (.inr e))) λe=>.inr (.inl e)) k4 lM ⟨E7,YY,λh0=>?_⟩ (λk U=>?_) ⟨QM.size,QM.blocks⟩ (QM.alive h.alive) QM.calm (by rw[QM.Dg];have:=h.Dg;omega) (λz _=>tf z) trivial rfl rfl (λ_ _ hw _=>hw) (λb n hb=>by injection hb with hb;injection hb with h1 h2;subst h1 h2;exact Lm) ⟨rfl,rfl⟩ (λz=>⟨λhz=>⟨.inl hz,DT _ _⟩,λhz=>hz.1.elim id λhx=>absurd hx (DT _ _)⟩) (λz hz=>absurd hz (DT _ _)) rfl⟩
  ·show E7.take (min r.h (r.count-(r.pos+1)/r.h*r.h)*r.k)=JI r.h r.k l ((r.pos+1)/r.h);rw[lR J.ok.h.1 h0];exact k5
  ·have MS:(Eu X.p x r X.sz l).K k:=U;refine⟨.inl MS,U.elim (λe=>by rw[e];exact q1) λU=>U.elim (λe=>by rw[e];exact q2) λe=>by rw[e];exact q3,λhg=>(k4 k hg).elim ((h.mem i _ hi).2 k MS).2.2 λhl=>?_⟩;have:=((h.mem i _ hi).2 k MS).1;omega
 by_cases IV:r.pos%r.h=0
 ·by_cases he:(read D ((r.first+r.pos/r.h:Nat):Int)).1=0
  ·refine(aP (F:=⟨D,A,S⟩) h.sys (by have:=h.Lx;omega) GL aa ho J.cnt De (λ_=>⟨he,?_⟩) (λh0=>absurd IV h0) ht Q.1 Q.2).mono ?_
   ·exact ab _ ae
   ·rintro e w' ⟨I,E7,k1,O⟩;refine .inl ⟨I,IP w' (read D ((r.first+r.pos/r.h:Nat):Int)).2 1 (Yv he) (λz=>(Jg _ _ _).1) (by rw[if_pos IV]) ⟨E7,?_,O⟩⟩;have e2:cA D r=(read D ((r.first+r.pos/r.h:Nat):Int)).2:=by unfold cA;rw[if_pos IV]
    rw[<-e2];exact k1
  ·obtain⟨f1,f2,f3,f4⟩:=iM h.alive zK he;refine(iF (F:=⟨D,A,S⟩) h.sys (by have:=h.Lx;omega) GL aa ho (by show wordsAt A.st r.b=AE D.size;rw[H];exact Lm) De IV he).mono ?_;rintro e w' ⟨I,G',k1,O,k3,k4⟩;refine .inr ⟨by rw[I];show _= _;rw[show (read ({D:=D,A:=A,S:=S}:Fs).D ((r.first+r.pos/r.h:Nat):Int)).1=6 from f1],λhc=>f4 (h.calm hc),?_⟩;obtain⟨_,n2,n3⟩:=Jg D ((r.first+r.pos/r.h:Nat):Int) 0;have Tq:Sys w' G' X.p ⟨(read D ((r.first+r.pos/r.h:Nat):Int)).2,release A r.b (read D ((r.first+r.pos/r.h:Nat):Int)).2.size,S⟩ (X.n+m+1):=k1;rw[n2,H]at Tq;exact h.lB hi Tq O k3 k4 ⟨n2,n3⟩ f3 (λhc=>absurd hc f4) (by rw[f2];have:=h.Dg;omega) (λz=>(Jg _ _ _).1)
 ·refine(UW (F:=⟨D,A,S⟩) h.sys GL aa ho De IV).mono ?_;rintro e w' ⟨I,k1⟩;have hb:=SY IV;have ad:=Vr (t:=t) J.ok.k.2 J.ok.h.1 De J.cnt hb ht Q.1 Q.2;rw[ad]at I;refine .inl ⟨I,IP w' D 0 (Na.refl D) (λ_=>rfl) (by rw[if_neg IV]) ⟨ws,k1,hb⟩⟩
theorem L5(h:Wd X os m W)(hi:os[i]?=AE (Eu X.p x r X.sz l))(J:JA r X.sz)(I:r.pos=r.count):
  Calls AP 48 #[AI x] W λe w'=>e=AH (AM #[AL #[(),(),(),(),()],false,()])/\Wd X os m w':=by
 obtain⟨ws,hm,_⟩:=h.at_ hi;exact(iG J hm I).mono λ_ _ ⟨H,h2⟩=>⟨H,h.below h2⟩
theorem T3(h:Wd X os m W)(hi:os[i]?=AE (Eu X.p x r X.sz l)):
  Calls AP 47 #[AI x] W λe w'=>e=AH (AM #[])/\Wd X (os.set i (Nr X.p x r)) m w':=by
 obtain⟨G,D,A,S,h⟩:=h;obtain⟨ws,hm,_⟩:=(h.mem i _ hi).1;have H:=h.size;have Lm:wordsAt A.st r.b=AE X.sz:=h.st i _ r.b X.sz hi rfl;refine(Rw (F:=⟨D,A,S⟩) h.sys (by show Gu W x X.p r D.size ws;rw[H];exact hm) (h.yc hi) (by show wordsAt A.st r.b=AE D.size;rw[H];exact Lm)).mono ?_;rintro e w' ⟨he,G',Q,O,k3,J⟩;have I:Sys w' G' X.p ⟨D,release A r.b D.size,S⟩ (X.n+m):=Q;rw[H]at I;exact⟨he,h.lB hi I O (k3.mono λk U=>U.elim .inl λe=>.inr (.inl e)) J ⟨rfl,rfl⟩ h.alive id h.Dg λ_=>rfl⟩
theorem Ij(u:Bf)(h:Wd X os m W)(hi:os[i]?=AE (Eu X.p x r X.sz l)):
  CallsD AP 47 #[AI x] u W λe I w'=>I=u/\(e=AH (AM #[])/\Wd X (os.set i (Nr X.p x r)) m w'):=by
 obtain⟨G,D,A,S,h⟩:=h;obtain⟨ws,hm,_⟩:=(h.mem i _ hi).1;have H:=h.size;have Lm:wordsAt A.st r.b=AE X.sz:=h.st i _ r.b X.sz hi rfl;refine(ZV u (F:=⟨D,A,S⟩) h.sys (by show Gu W x X.p r D.size ws;rw[H];exact hm) (h.yc hi) (by show wordsAt A.st r.b=AE D.size;rw[H];exact Lm)).mono ?_;rintro e I w' ⟨hu,he,G',U,Q,k3,O⟩;have J:Sys w' G' X.p ⟨D,release A r.b D.size,S⟩ (X.n+m):=U;rw[H]at J;exact⟨hu,he,h.lB hi J Q (k3.mono λk hk=>hk.elim .inl λe=>.inr (.inl e)) O ⟨rfl,rfl⟩ h.alive id h.Dg λ_=>rfl⟩
theorem ZC{w G p F n}(h:Sys w G p F n)(M:Nat)(hm:M<=F.A.room-F.A.used)(h8:M<=100000000):Calls AP 54 #[AI (AE ⟨p.a,0,AD⟩),M] w λe w'=>∃b g,e=AH (AM #[AI (AE ⟨b,0,AD⟩),()])/\
  (∃G',Sys w' G' p {F with A:=FG F.A b M} n/\DG G w w'/\(∀k,G' k->G k\/w<=k)/\¬G' b/\¬G' g)/\Row w' b 119 [AJ g M M]/\Row w' g 120 ((BA M 0).map vw)/\w<=b/\w<=g:=by
 obtain⟨Ga,O,J,_⟩:=h.arn;refine(US p.a F.A Ga M w O hm a5).mono ?_;rintro e w' ⟨b,g,I,he,U,H,h3,h4,h5,Q⟩;refine⟨b,g,he,J w' b g M ⟨I,U,H,h3,h4,h5,Q⟩,H,?_,h4,h5⟩;rw[List.map_replicate];exact h3
theorem WZ(h:Wd X os m W)(M:Nat)(J:M+DC DA.gw os<=X.rm)(h8:M<=1000000):
  Calls AP 54 #[AI (AE ⟨X.p.a,0,AD⟩),M] W λe w'=>∃b g,e=AH (AM #[AI (AE ⟨b,0,AD⟩),()])/\Wd X (os++[xU b g M]) m w':=by
 obtain⟨G,D,A,S,h⟩:=h;have hu:=h.used;have MN:=h.room;refine(ZC (F:=⟨D,A,S⟩) h.sys M (by show M<=A.room-A.used;rw[MN,hu];omega) a5).mono ?_;rintro e w' ⟨b,g,he,⟨G',k1,k2,k3,k4,k5⟩,r1,U,n1,n2⟩;refine⟨b,g,he,?_⟩;have O:∀q∈A.st,q.1≠b:=λq O e=>by have:=(h.sys.buf O).1.lt;omega
 have H:=h.grow.step (a':=xU b g M) (D':=D) (A':=FG A b M) (S':=S) (VT os) k1 (k2.mono λk Q=>.inl Q) k3 AA2 ⟨r1,_,a8,U⟩ (λk Q=>Q.elim (λe=>by rw[e];exact⟨.inr n1,r1.lt,k4⟩) λe=>by rw[e];exact⟨.inr n2,U.lt,k5⟩) ⟨rfl,rfl⟩ h.alive id h.Dg (λ_ _=>rfl) trivial rfl (by show A.used+M+0=A.used+M;omega) (λb n hw _=>Jd _ _ _ _ _ hw) (λb' n hb=>by injection hb with hb;injection hb with h1 h2;subst h1 h2;exact J5 _ _ _ O) ⟨rfl,rfl⟩ (λz=>⟨λI=>⟨.inl I,DT _ _⟩,λI=>I.1.elim id λhx=>absurd hx (DT _ _)⟩) (λz I=>absurd I (DT _ _)) rfl;rw[GP]at H;exact⟨_,_,_,_,H⟩
end
theorem Wz(fm:Bf)(p:Nat)(s:Ar)(G:Nat->Prop)(b n:Nat)(w:World)(h:Jz w G p s)(hb:LD w b)(O:wordsAt s.st b=AE n):
  CallsD AP 70 #[AI p,AI b] fm w λe u' w'=>u'=fm/\(e=AH true/\Jz w' G p (release s b n)/\Row w' b 119 [AJ AD 0 0]/\DG (λk=>G k\/k=b) w w'):=by
 have hw:=h.words O;have Vi:=h.Pf hb;have NJ:=λq H=>Bq (h.buf (q:=q) H) (h.Pf (h.buf H));obtain⟨h0,⟨m,U,I,qO⟩,hp,hG,_⟩:=id h;rcases I with⟨rfl,I⟩|⟨bm,rfl,hm,Ta⟩
 ·rw[I]at O;cases O
 have c3:w.cell? (p,3)=AE (.map (AE bm)):=U.cell 3;have nC:(Instr.lookup 95 (.map (AE bm)) (AI b) true).run AP w=.ok (AM #[n,true]) w:=by
  have:=Wv w hm hb λq H=>(NJ q H).1;rw[O]at this;exact this
 have ab:bm≠p:=λe=>hm.EG U e.symm;have HM:=AO hm;have HR:=AO U;have H0:=AO h0;have yA:=AO O;obtain⟨u,hu⟩:=al (s.used-n);have aa:(s.used:Int)-(n:Int)=(u:Int):=a5;have g1:(-9223372036854775808:Int)<=(u:Int):=a5;have g2:(u:Int)<=9223372036854775807:=a5;have HU:=AO hu;clear hu U hm h h0 O hw;go_enter_d func70,ntmps70
 go_wp2_with (with_reducible refine bT ?_)
 unfold Hid;refine RS _ rfl _ _ rfl bm b n s.st rfl rfl HM.out hb (λq H=>(NJ q H).1) yA.out ?_;intro w2 Q FT;have Gl:DG (λk=>k=bm) w w2:=(DG.refl _ w).grown FT λk J=>.inl (by injection J with J;exact J.symm);have EA:=Gl.row HR.out (HM.out.EG HR.out);obtain⟨v,hv⟩:=hb;have DN:=Gl.row hv (HM.out.EG hv);have k1:w2.cell? (p,1)=AE (AA AB (s.used:Int)):=EA.cell 1;have f1:=EA.free 1;have fb:=DN.free 0;have kb:w2.cell? b=AE v:=DN.cell 0;have qJ:b≠p:=λe=>Vi (e▸hp);have zR:p≠b:=λe=>qJ e.symm;have Ji:Jz ((w2.setCell (p,1) u).setCell b (AJ AD 0 0)) G p (release s b n)/\Row ((w2.setCell (p,1) u).setCell b (AJ AD 0 0)) b 119 [AJ AD 0 0]/\
   DG (λk=>G k\/k=b) w ((w2.setCell (p,1) u).setCell b (AJ AD 0 0)):=by
  have FK:Row ((w2.setCell (p,1) u).setCell b (AJ AD 0 0)) p 97 (Ee (release s b n) (AE bm)):=by
   have e:Ee (release s b n) (AE bm)=(Ee s (AE bm)).set 1 u:=by rw[<-HU.out];rfl
   rw[e];exact(EA.set 1 _).Ey (λe=>qJ e.symm) _
  have JU:Row ((w2.setCell ⟨p,1,AD⟩ (AA AB (u:Int))).setCell ⟨b,0,AD⟩ (AJ AD 0 0)) b 119 [AJ AD 0 0]:=(DN.Ey (p:=⟨p,1,AD⟩) qJ _).set 0 _;have Qy:DG (λk=>G k\/k=b) w ((w2.setCell (p,1) u).setCell b (AJ AD 0 0)):=((Gl.mono λk J=>.inl (J▸Ta)).set (p:=(p,1)) (.inl (.inl hp)) _).set (p:=b) (.inl (.inr rfl)) _;refine⟨⟨NU H0.out yA.out,⟨AE bm,FK,.inr ⟨bm,rfl,Q.same ?_,Ta⟩,qO⟩,hp,λk J=>BH (hG k J) Qy.size,λq H=>?_⟩,JU,Qy⟩
  ·rw[heap_setCell_other _ ⟨b,0,AD⟩ _ _ (show bm≠b from λe=>Vi (e▸Ta)),heap_setCell_other _ ⟨p,1,AD⟩ _ _ (show bm≠p from ab)]
  ·have jT:=NJ q (Iq _ _ _ H);by_cases e:q.1=b
   ·rw[e];exact⟨_,JU⟩
   ·exact jT.1.Ey Qy λh=>h.elim jT.2 e
 have Dr:=AO Ji;clear Ji Q FT Gl EA DN hv c3 nC NJ;go_wp2
 go_ret
 exact⟨rfl,Dr.out⟩
section
variable{X:Cx}{os:List DA}{m i:Nat}{W W':World}{G:Nat->Prop}{D:St}{A:Ar}{S:Sp}{a:DA}{x:Nat}{l:List Cv}
theorem Ql(H:Bf){w}{G}{p}{F}{n}(h:Sys w G p F n){b m}(hb:wordsAt F.A.st b=AE m):
  CallsD AP 70 #[AI p.a,AI b] H w λe I w'=>I=H/\(e=AH true/\FV w G b p {F with A:=release F.A b m} n w'):=by
 obtain⟨SY,Vi⟩:=h.buf (Ip _ _ _ hb);obtain⟨Ga,U,_,hrel⟩:=h.arn;refine(Wz H p.a F.A Ga b m w U SY hb).mono ?_;rintro e I w' ⟨hu,he,h1,h2,h3⟩;obtain⟨O,J⟩:=hrel w' b m h1 h3 Vi;exact⟨hu,he,G,O,J,λk Q=>.inl Q,h2⟩
theorem L4(J:Bf){b g M}(h:Wd X os m W)(hi:os[i]?=AE a)(hK:∀k,a.K k↔k=b\/k=g)(U:a.gr=AE (b,M))(Q:a.ex.2=0):
  CallsD AP 70 #[AI X.p.a,AI b] J W λe O w'=>O=J/\(e=AH true/\Wd X (os.set i Dt) m w'):=by
 obtain⟨G,D,A,S,h⟩:=h;have Lm:wordsAt A.st b=AE M:=h.st i _ b M hi U;refine(Ql J (F:=⟨D,A,S⟩) h.sys Lm).mono ?_;rintro e O w' ⟨hu,he,G',k1,k2,k3,k4⟩;have Pn:∀z,¬I2 a.ex z:=λz H=>by unfold I2 at H;omega
 have GZ:a.gw=M:=by unfold DA.gw;rw[U]
 refine⟨hu,he,G',_,_,_,h.step hi k1 (k2.mono λk I=>I.elim .inl λe=>.inr ((hK k).2 (.inl e))) k3 LR trivial (λk I=>I.elim) ⟨rfl,rfl⟩ h.alive id h.Dg (λ_ _=>rfl) trivial rfl ?_ (λb' n hw hb=>E4 _ _ _ _ hw λe=>hb ((hK b').2 (.inl e))) (λb n hb=>by cases hb) ⟨rfl,rfl⟩ (λz=>⟨λH=>⟨.inl H,DT _ _⟩,λH=>H.1.elim id λQ=>absurd Q (Pn z)⟩) (λz H=>absurd H (DT _ _)) (by show ED S.fr+0=ED S.fr+a.ex.2;omega)⟩;have hu:=IJ h.sys.sound Lm;show (release A b M).used+a.gw=A.used+0;rw[GZ];exact hu
theorem OP{first nb k hh sz}(h:Wd X os m W)(hi:os[i]?=AE (Da first nb k hh l sz))(hf:first<=2000000)(hn:nb<=2000000)(c:Nat):
  Calls AP 67 #[AI X.p.w,AL #[first,nb,k,c]] W λe w'=>e=AH ()/\Wd X (os.set i Dt) m w':=by
 obtain⟨G,D,A,S,h⟩:=h;obtain⟨O,I⟩:=h.held hi;have O:∀z,I2 (first,nb) z->¬hasB S.fr z:=O;have I:0<nb->S.first<=first/\first+nb<=S.first+S.blocks:=I;have Q:=Jk (S:=S) h.sys.eZ (f:=first) (n:=nb) (by
  rcases A7 nb with H|H
  ·exact .inr H
  ·exact .inl (I H).1) (by
  rcases A7 nb with H|H
  ·exact .inr H
  ·exact .inl (I H).2) (λz U z2=>O z ⟨U,z2⟩)
 have Xq:(if nb=0 then 0 else (Ez S first nb).2)=0:=by
  by_cases H:nb=0
  ·rw[if_pos H]
  ·rw[if_neg H];rcases Jj (s:=S) h.sys.eZ (first:Int) (nb:Int)with⟨s',a',m',ha,hm,h1,he,hg⟩|⟨_,KR⟩
   ·rw[he]
   ·exact absurd ⟨(I a5).1,(I a5).2,λz U z2=>O z ⟨U,z2⟩⟩ (KR first nb rfl rfl a5)
 refine(Ua (F:=⟨D,A,S⟩) h.sys first nb k c a5 a5).mono ?_;rintro e w' ⟨he,G',k1,k2,k3⟩;refine⟨by rw[he,Xq];rfl,G',_,_,_,h.step hi k1 (k2.mono λk hk=>.inl hk) k3 LR trivial (λk hk=>hk.elim) ⟨rfl,rfl⟩ h.alive id h.Dg (λ_ _=>rfl) trivial rfl rfl (λ_ _ hw _=>hw) (λb n hb=>by cases hb) ⟨Q.1,Q.2.1⟩ (λz=>?_) (λz J=>absurd J (DT _ _)) ?_⟩
 ·show hasB (Dm S first nb).fr z↔ _;rw[Q.2.2.1 z];exact⟨λJ=>⟨J,DT _ _⟩,λJ=>J.1⟩
 ·show ED (Dm S first nb).fr+0=ED S.fr+nb;rw[Q.2.2.2];omega
theorem Nm(h:Wd X os m W):Calls AP 19 #[AI X.p.w] W λe w'=>e=AH (AI X.p.d)/\w'=W:=by
 obtain⟨G,D,A,S,h⟩:=h;exact jt h.sys.row
theorem L6(h:Wd X os m W):Calls AP 21 #[AI X.p.w] W λe w'=>e=AH (AI X.p.a)/\w'=W:=by
 obtain⟨G,D,A,S,h⟩:=h;exact kF h.sys.row
theorem Nl(h:Wd X os m W):Calls AP 42 #[AI X.p.w] W λe w'=>e=AH (AI X.p.s)/\w'=W:=by
 obtain⟨G,D,A,S,h⟩:=h;exact jn h.sys.row
theorem OQ(h:Wd X os m W):Calls AP 34 #[AI X.p.d] W λe w'=>e=AH X.sz/\w'=W:=by
 obtain⟨G,D,A,S,h⟩:=h;have:=h.sys.Hs;rw[show ({D:=D,A:=A,S:=S}:Fs).D.size=X.sz from h.size]at this;exact this
theorem RB(h:Wd X os m W):Calls AP 33 #[AI X.p.a] W λe w'=>e=AH ((X.rm-DC DA.gw os:Nat):Int)/\w'=W:=by
 obtain⟨G,D,A,S,h⟩:=h;have:=h.sys.XS;rw[show ({D:=D,A:=A,S:=S}:Fs).A.room=X.rm from h.room,show ({D:=D,A:=A,S:=S}:Fs).A.used=DC DA.gw os from h.used]at this;exact this
theorem j3(h:Wd X os m W)(k:Nat):Calls AP 72 #[AI X.p.w,k] W λe w'=>e=AH (Ct X.sz k:Nat)/\w'=W:=by
 obtain⟨G,D,A,S,h⟩:=h;have:=cL h.sys (k:Int);rw[show ({D:=D,A:=A,S:=S}:Fs).D.size=X.sz from h.size]at this;exact this
end
section
variable{X:Cx}{os a b z:List DA}{m i j n:Nat}{W W':World}{G:Nat->Prop}{D:St}{A:Ar}{S:Sp}{x v:DA}
theorem FO(e:z.length=n):(a++z++b)[a.length+n+j]?=b[j]?:=by
 rw[AX (by rw[AY];omega),AY,e,show a.length+n+j-(a.length+n)=j by omega]
theorem GG(e:z.length=n):(a++z++b).set (a.length+n+j) v=a++z++b.set j v:=by
 rw[List.set_append,if_neg (by rw[AY];omega),AY,e,show a.length+n+j-(a.length+n)=j by omega]
theorem mM(e:j<z.length):(a++z++b)[a.length+j]?=z[j]?:=by
 rw[Al (by rw[AY];omega),AX a5,show a.length+j-a.length=j by omega]
theorem SF(e:j<z.length):(a++z++b).set (a.length+j) v=a++z.set j v++b:=by
 rw[List.set_append,if_pos (by rw[AY];omega),List.set_append,if_neg a5,show a.length+j-a.length=j by omega]
def ovr(n j:Nat):Nat:=if j<n then j else j+1
theorem bh{n i j}(h:ovr n i=ovr n j):i=j:=by unfold ovr at h;split at h<;>split at h<;>omega
theorem KO(e:(a++b)[j]?=AE v):(a++x::b)[ovr a.length j]?=AE v:=by
 unfold ovr
 split
 ·next h=>rw[Al h]at e⊢;exact e
 ·next h=>
  rw[AX a5]at e;rw[AX a5,show j+1-a.length=(j-a.length)+1 by omega,AV];exact e
theorem yl(e:(a++x::b)[j]?=AE v):v=x\/∃i:Nat,(a++b)[i]?=AE v:=by
 rcases Am j a.length with h|h
 ·rw[Al h]at e;exact .inr ⟨j,by rw[Al h];exact e⟩
 ·rw[AX h]at e;obtain⟨k,H⟩:=al (j-a.length);rw[H]at e
  cases k with
  |zero=>exact .inl (by rw[AW]at e;exact(Option.some.inj e).symm)
  |succ k=>exact .inr ⟨a.length+k,by rw[AX a5,show a.length+k-a.length=k by omega];rwa [AV]at e⟩
theorem DM{α}(f:α->Nat)(l k:List α):DC f (l++k)=DC f l+DC f k:=by unfold DC;rw[Cj,List.sum_append]
theorem EI{α}(f:α->Nat)(q:α)(k:List α):DC f (q::k)=f q+DC f k:=by unfold DC;rw[List.map_cons,List.sum_cons]
theorem KI.cut (h : KI X (a ++ x :: b) m W G D A S) (J : x.gr = AD) (hx : x.ex.2 = 0) : KI X (a ++ b) m W G D A S := by
  have GZ : x.gw = 0 := by unfold DA.gw; rw [J]
  have aa : x.xw = 0 := hx;have hu := h.used;have hs := h.sum;rw [DM, EI] at hu hs
  exact { sys := h.sys, Lx := h.Lx, base := h.base, Tw := h.Tw, size := h.size, blocks := h.blocks, alive := h.alive, calm := h.calm, Dg := h.Dg, room := h.room, s0 := h.s0, sp := h.sp, range := h.range
          used := by rw [DM]; omega
          sum := by rw [DM]; omega
          ok := λj c H => h.ok _ c (KO H)
          st := λj c p q H J => h.st _ c p q (KO H) J
          mem := λj c H => h.mem _ c (KO H)
          Te := λj c H => h.Te _ c (KO H)
          apart := λj j2 c c2 H Q I => h.apart _ _ c c2 (KO H) (KO Q) λe => I (bh e)
          exa := λj j2 c c2 H Q I => h.exa _ _ c c2 (KO H) (KO Q) λe => I (bh e)
          exs := λj c H => h.exs _ c (KO H)
          free := λz => by
            rw [h.free z];refine ⟨λ⟨O, h2⟩ => ⟨O, λj c H => h2 _ c (KO H)⟩, λ⟨O, h2⟩ => ⟨O, λj c H U => ?_⟩⟩;rcases yl H with e | ⟨i, hi⟩
            · rw [e] at U; unfold I2 at U; omega
            · exact h2 i c hi U }
theorem Wd.cut(h:Wd X (a++x::b) m W)(H:x.gr=AD)(e:x.ex.2=0):Wd X (a++b) m W:=by
 obtain⟨G,D,A,S,h⟩:=h;exact⟨G,D,A,S,h.cut H e⟩
def Dn(l:List DA):Prop:=∀q∈l,q.gr=AD/\q.ex.2=0
theorem Wd.Fy:∀(z:List DA) (_:Dn z) (_:Wd X (a++z++b) m W),Wd X (a++b) m W
 |[],_,h=>by rwa [AZ]at h
 |q::z,hb,h=>by
  have e:=hb q Ax;have I:Wd X (a++q::(z++b)) m W:=by simpa using h
  have H:=I.cut e.1 e.2;exact Wd.Fy z (λu hu=>hb u (BB _ hu)) (by rw[AR];exact H)
theorem GF{z2 z n}(h:Rm X os z n)(U:Dn z2):Rm X (os++z2) z n:=λy h1 h2=>by
 obtain⟨O,J⟩:=h y h1 h2;refine⟨O,λj a hj H=>?_⟩;rcases Ag.1 (Ak hj)with hm|hm
 ·obtain⟨Q,I,e⟩:=BO hm;exact J Q a (by rw[AU I,e]) H
 ·have h4:=(U a hm).2;unfold I2 at H;rw[h4]at H;omega
theorem Dq:∀(l:List DA) (_:Dn l),DC DA.gw l=0
 |[],_=>rfl
 |a::l,h=>by
  rw[EI,Dq l λq e=>h q (BB _ e)];have H:=(h a Ax).1;unfold DA.gw;rw[H]
theorem WV{p x t sz}(h:Wd X os m W){j}(hi:os[j]?=AE (Uu p x t sz)):Wd X (os.set j (Da (DY t) (Cr t.h t.l.length) t.k t.h t.l sz)) m W:=
 h.jq hi aV (λ_=>trivial) (λ_ e=>e.elim) rfl rfl (λ_ hd=>hd)
end
theorem VU(w:World):Calls AP 49 #[AA AB (-1)] w λe w'=>e=AH (AL #[false,()])/\Below w w w':=by
 go_enter func49,ntmps49
 go_wp2
 refine Aw (v:=AL #[false,()]) (by simp[results,Tryz.results49,go_sem]) rfl ?_;exact⟨rfl,(AS _ w).alloc ao _⟩
theorem U8(p:Nat)(s:St)(n:Nat)(G:Nat->Prop)(w:World)(h:LC w G p s n):
  Calls AP 20 #[AI p,AA AB (-1)] w λe w'=>e=AH (AM #[])/\LC w' G p {s with tb:=false,tn:=0} n/\DG (λk=>k=p) w w':=by
 obtain⟨bl,bf,v,nl,J,_⟩:=id h.2;have H:Fits {s with tb:=false,tn:=0} n:=⟨h.1.size,h.1.blocks,h.1.fn,⟨by show (0:Int)<=0;omega,by show (0:Int)<=1000000;omega⟩,h.1.Dg,h.1.small,h.1.Dk,h.1.fl⟩;have hd:=AO h;clear h;have hb:=VU w;go_enter func20,ntmps20
 go_wp2_with fail
 refine hb.mono ?_;rintro e w1 ⟨rfl,DV⟩;have I:=J.below DV J.lt;have U:=AO (hd.out.below DV);obtain⟨-,-,-,-,-,-,-,c5,c6⟩:=I.q9;obtain⟨-,-,-,-,-,-,-,f5,f6⟩:=I.r9;have Q:=AO (DG.DB DV (λk=>k=p));have O:=AO I;clear DV I hb;go_wp2
 go_end0
 exact⟨rfl,U.out.Nn O.out ((O.out.Gz (s':={s with tb:=false}) 7 _ rfl).Gz (s':={s with tb:=false,tn:=0}) 8 _ rfl) (KE (KE (DG.refl _ _) _ _) _ _) H ao rfl rfl,KE (KE Q.out _ _) _ _⟩
section
variable{X:Cx}{os:List DA}{m i:Nat}{W W' w0 w w':World}{G:Nat->Prop}{D D':St}{A A':Ar}{S S1:Sp}{p:Wp}{t:Wt}{l:List Cv}
theorem KI.stay{m' n'}(h:KI X os m W G D A S)(O:DQ W G X.p ⟨D',A',S⟩ n' W')(Q:n'<=X.n+m')(h6:X.N+m'<=1000000)
  (hD:D'.size=D.size/\D'.blocks=D.blocks)(alive:D'.down=false/\D'.fb=false)(calm:Calm D->Calm D')(Dg:D'.Dg<=((X.C+m':Nat):Int))(now:∀z:Nat,D'.now z=D.now z)
  (room:A'.room=A.room)(used:A'.used=A.used)(st:∀b n,wordsAt A.st b=AE n->wordsAt A'.st b=AE n):Wd X os m' W':=by
 obtain⟨G',J,I,k3⟩:=O.mono Q (by have:=h.Lx;omega);refine Wd.drop (a:=Dt) ⟨G',D',A',S,?_⟩ rfl rfl;have U:=h.grow.step (i:=os.length) (a:=Dt) (a':=Dt) a8 J (I.mono λk H=>.inl H) k3 LR trivial (λk H=>H.elim) hD alive calm Dg (λz _=>now z) trivial room (by show A'.used+0=A.used+0;omega) (λb n hb _=>st b n hb) (λb n hb=>by cases hb) ⟨rfl,rfl⟩ (λz=>⟨λe=>⟨.inl e,DT 0 z⟩,λe=>e.1.elim id λh=>absurd h (DT 0 z)⟩) (λz e=>absurd e (DT 0 z)) (by show _+0= _+0;rfl) h6;simpa using U
theorem Wd.ye{N}(h:Wd X os m W)(e:X.n<=N)(H:N<=X.N):Wd {X with N:=N} os m W:=by
 obtain⟨G,D,A,S,hw⟩:=h;exact⟨G,D,A,S,{hw with Lx:=⟨e,by have:=hw.Lx;show N+m<=1000000;omega⟩}⟩
theorem jx(h:Wd X os m W):Calls AP 43 #[AI X.p.s] W λe w'=>e=AH ((ED X.S0.fr-DC DA.xw os:Nat):Int)/\Wd X os m w':=by
 obtain⟨G,D,A,S,hw⟩:=id h;obtain⟨I,H,_⟩:=hw.sys.spc;have J:=hw.sum;refine(n8 X.p.s S I W H).mono λe w' ⟨he,hb⟩=>⟨he.trans ?_,h.below hb⟩;rw[show ED S.fr=ED X.S0.fr-DC DA.xw os by omega]
theorem qj(h:Wd X os m W):Calls AP 22 #[AI X.p.a] W λe w'=>e=AH ((DC DA.gw os:Nat):Int)/\w'=W:=by
 obtain⟨G,D,A,S,hw⟩:=h;have:=hw.sys.kG;rw[show ({D:=D,A:=A,S:=S}:Fs).A.used=DC DA.gw os from hw.used]at this;exact this
theorem qp(h:Wd X os m W):∃q:Nat,q<=X.rm/\Calls AP 44 #[AI X.p.a] W λe w'=>e=AH q/\w'=W:=by
 obtain⟨G,D,A,S,hw⟩:=h;exact⟨A.Fx,by rw[<-hw.room];exact hw.sys.sound.Fx.2,hw.sys.lS⟩
theorem qn(h:Wd X os m W):Calls AP 45 #[AI X.p.a] W λe w'=>e=AH X.rm/\w'=W:=by
 obtain⟨G,D,A,S,hw⟩:=h;obtain⟨Q,U,O,H,hd,I,_⟩:=hw.sys;obtain⟨J,⟨mm,H,_⟩,_⟩:=id I;have:=TJ X.p.a A mm W H;rw[hw.room]at this;exact this
theorem KI.flip{cm}(h:KI X os m W G D A S)(Q:DQ W G X.p ⟨D',A,S⟩ (X.n+m) W')(J:D'.size=D.size/\D'.blocks=D.blocks)(alive:D'.down=false/\D'.fb=false)(hc:cm->Calm D')(Dg:D'.Dg=D.Dg)(now:∀z:Nat,D'.now z=D.now z):Wd {X with cm:=cm} os m W':=by
 obtain⟨G',O,H,k3⟩:=Q;have hz:=H.size;have I:=h.Tw.size
 exact⟨G',D',A,S,{
  sys:=O
  Lx:=h.Lx
  base:=λk e=>(k3 k e).elim (h.base k) λU=>by show X.w0.heap.size<=k;omega
  Tw:=h.Tw.trans (H.below I h.base)
  size:=J.1.trans h.size
  blocks:=J.2.trans h.blocks
  alive:=alive
  calm:=hc
  Dg:=by rw[Dg];exact h.Dg
  room:=h.room
  used:=h.used
  ok:=h.ok
  st:=h.st
  mem:=λj b hb=>⟨(h.ok j b hb).okA W W' (h.mem j b hb).1 λk e=>H.block k ((h.mem j b hb).2 k e).1 ((h.mem j b hb).2 k e).2.2,λk e=>by
   obtain⟨h1,h2,h3⟩:=(h.mem j b hb).2 k e;exact⟨a5,h2,λhg=>(k3 k hg).elim h3 λU=>by omega⟩⟩
  Te:=λj b hb=>(h.ok j b hb).okD D D' (h.Te j b hb) J.1 λz _=>now z
  apart:=h.apart
  exa:=h.exa
  exs:=h.exs
  s0:=h.s0
  sp:=h.sp
  free:=h.free
  sum:=h.sum
  range:=h.range}⟩
theorem AE0(h:Wd X os m W)(n:Nat)(hn:n<=1000000):Calls AP 20 #[AI X.p.d,n] W λe w'=>e=AH (AM #[])/\Wd {X with cm:=False} os m w':=by
 obtain⟨G,D,A,S,hw⟩:=h;obtain⟨I,hd,U⟩:=hw.sys.dev;refine(U9 X.p.d D (X.n+m) I n W hd a5 a5).mono ?_;rintro e w' ⟨he,Q,O⟩;have J:=U _ _ _ ⟨I,Q,O.mono λk H=>by rw[H];exact hd.Of,λk H=>.inl H⟩;exact⟨he,hw.flip J ⟨rfl,rfl⟩ hw.alive (λhf=>hf.elim) rfl λ_=>rfl⟩
theorem AO2(h:Wd X os m W):Calls AP 20 #[AI X.p.d,AA AB (-1)] W λe w'=>e=AH (AM #[])/\Wd {X with cm:=True} os m w':=by
 obtain⟨G,D,A,S,hw⟩:=h;obtain⟨I,hd,U⟩:=hw.sys.dev;refine(U8 X.p.d D (X.n+m) I W hd).mono ?_;rintro e w' ⟨he,Q,O⟩;have J:=U _ _ _ ⟨I,Q,O.mono λk H=>by rw[H];exact hd.Of,λk H=>.inl H⟩;exact⟨he,hw.flip J ⟨rfl,rfl⟩ hw.alive (λ_=>⟨hw.alive.1,hw.alive.2,rfl⟩) rfl λ_=>rfl⟩
end
def Uz(X:Cx)(v:Value)(l:List Cv):DA:=⟨λb=>v.ownBlock=AE b,λW=>W.ownsRow X.w0.heap.size 47 5 v l.length (EK l),AD,(0,0),λ_=>True⟩
section
variable{X:Cx}{os:List DA}{m i:Nat}{W W':World}{l l':List Cv}{v v':Value}
theorem Y8:(Uz X v l).Ok:=⟨λW W' H e=>Fq H λk he=>e k he,λ_ _ _ _ _=>trivial,λ_ _ h=>by cases h⟩
theorem Y9(h:(Uz X v l).A W){b}(hb:v.ownBlock=AE b):∃cs,Row W b 47 cs:=by
 obtain⟨h3,⟨h4,_⟩|⟨gl,c,c2,h4,h5,e,_⟩⟩:=h
 ·rw[h4]at hb;cases hb
 ·rw[h4]at hb;have hb:gl=b:=by injection hb
  subst hb;exact⟨_,e⟩
theorem Wd.AE4(hw:Wd X os m W)(hi:os[i]?=AE (Uz X v l))(hf:DG (λb=>v.ownBlock=AE b) W W')(H:W'.ownsRow X.w0.heap.size 47 5 v' l'.length (EK l'))
  (hb:∀b,v'.ownBlock=AE b->v.ownBlock=AE b\/W<=b):Wd X (os.set i (Uz X v' l')) m W':=by
 have J:=hw.at_ hi;refine hw.Of hi hf (λb hb=>⟨hb,λu I=>?_⟩) Y8 H (λb DN=>⟨hb b DN,?_⟩) rfl rfl (λ_ _=>trivial)
 ·obtain⟨cs,e⟩:=Y9 J hb;exact absurd (e.typed I) a6
 ·obtain⟨cs,e⟩:=Y9 (X:=X) (v:=v') (l:=l') H DN;exact e.lt
theorem Wd.AO5(hw:Wd X os m W):Wd X (os++[Uz X (AJ AD 0 0) []]) m W:=by
 have H:=hw.grow.Of (i:=os.length) (a:=Dt) (a':=Uz X (AJ AD 0 0) []) (R:=λ_=>False) (VT os) (DG.refl _ _) (λk e=>e.elim) Y8 (XF _ _ _) (λk e=>by cases e) rfl rfl (λ_ _=>trivial);rw[GP]at H;exact H
theorem Wd.AX4(hw:Wd X os m W)(hi:os[i]?=AE (Uz X v l))(I:∀u∈l,EE u):∃A c,v=AJ A l.length c/\Lb W W A l.length l/\c<=maxLen:=by
 obtain⟨A,c,H,e,_,h3,_⟩:=Rz (hw.at_ hi) I;exact⟨A,c,H,e,h3⟩
end
structure LP where
 X:Cx
 os:List DA
 m:Nat
 x:Nat
 rt:Rt
 l:List Cv
structure LP.Ok (P:LP):Prop where
 ok:JA P.rt P.X.sz
 cnt:P.l.length=P.rt.count
 fit:∀u∈P.l,EE u/\Dc P.rt.k u=true
 src:Src P.os P.X.sz P.rt.first P.rt.k P.rt.h P.l
 cm:P.X.cm
 n:P.X.N+P.m+Cr P.rt.h P.l.length+1<=1000000
 len:P.l.length<=100000
def LP.at_(P:LP)(i:Nat):Rt:={P.rt with pos:=i}
def LP.J(P:LP)(i:Nat)(v:Value)(W:World):Prop:=Wd P.X (P.os++[Eu P.X.p P.x (P.at_ i) P.X.sz P.l]++[Uz P.X v (P.l.take i)]) (P.m+Cr P.rt.h i) W
def LP.J1(P:LP)(i:Nat)(v:Value)(W:World):Prop:=Wd P.X (P.os++[Eu P.X.p P.x (P.at_ (i+1)) P.X.sz P.l]++[Uz P.X v (P.l.take i)]) (P.m+Cr P.rt.h (i+1)) W
section
variable{P:LP}{W W':World}{i:Nat}{v v':Value}
theorem LP.atR(P:LP)(r:Rt)(v:Value)(l:List Cv):(P.os++[Eu P.X.p P.x r P.X.sz P.l]++[Uz P.X v l])[P.os.length]?=AE (Eu P.X.p P.x r P.X.sz P.l):=a8
theorem LP.Qm(P:LP)(a b:DA)(c:DA):(P.os++[a]++[c]).set P.os.length b=P.os++[b]++[c]:=a8
theorem LP.atL(P:LP)(a b:DA):(P.os++[a]++[b])[P.os.length+1]?=AE b:=a8
theorem LP.AO8(P:LP)(a b c:DA):(P.os++[a]++[c]).set (P.os.length+1) b=P.os++[a]++[b]:=a8
theorem LP.J.below(h:P.J i v W)(hb:Below W W W'):P.J i v W':=Wd.below h hb
theorem LP.J1.below(h:P.J1 i v W)(hb:Below W W W'):P.J1 i v W':=Wd.below h hb
theorem LP.next(H:P.Ok)(h:P.J i v W)(hi:i<P.l.length):
  Calls AP 48 #[AI P.x] W λe w'=>∃t:Cv,e=AH (AM #[AL #[t.a,t.b,t.c,t.d,t.e],true,()])/\P.l[i]?=AE t/\P.J1 i v w':=by
 have hh:=H.ok.h.1;have hle:=Db (h:=P.rt.h) (c:=i+1) (c':=P.l.length) hh a5;have U:=Db (h:=P.rt.h) (c:=i) (c':=i+1) hh a5;have J:P.l[i]?=AE P.l[i]:=AU hi;have O:Src (P.os++[Eu P.X.p P.x (P.at_ i) P.X.sz P.l]++[Uz P.X v (P.l.take i)]) P.X.sz P.rt.first P.rt.k P.rt.h P.l:=(H.src.snoc _).snoc _;have Q:qS (P.at_ i) P.X.sz P.l:=⟨⟨H.ok.k,H.ok.h,H.ok.sz,⟨H.ok.count.1,by show i<=P.rt.count;have:=H.cnt;omega⟩,H.ok.first⟩,H.cnt,H.fit⟩;have hn:=H.n;refine(OO h (P.atR _ _ _) Q a5 (by show i<P.rt.count;have:=H.cnt;omega) O J).mono ?_;rintro e w' (⟨he,hw⟩|⟨_,I,_⟩)
 ·refine⟨P.l[i],he,J,?_⟩;rw[P.Qm]at hw;unfold LP.J1;rw[show P.m+Cr P.rt.h (i+1)=P.m+Cr P.rt.h i+(Cr (P.at_ i).h ((P.at_ i).pos+1)-Cr (P.at_ i).h (P.at_ i).pos)by show _=P.m+Cr P.rt.h i+(Cr P.rt.h (i+1)-Cr P.rt.h i);omega];exact hw
 ·exact absurd H.cm I
theorem LP.end_(H:P.Ok)(h:P.J P.l.length v W):
  Calls AP 48 #[AI P.x] W λe w'=>e=AH (AM #[AL #[(),(),(),(),()],false,()])/\P.J P.l.length v w':=
 L5 h (P.atR _ _ _) ⟨H.ok.k,H.ok.h,H.ok.sz,⟨H.ok.count.1,by show P.l.length<=P.rt.count;have:=H.cnt;omega⟩,H.ok.first⟩ H.cnt
theorem LP.push(h:P.J1 i v W){t}(H:P.l[i]?=AE t)(hf:DG (λk=>v.ownBlock=AE k) W W')(O:W'.ownsRow P.X.w0.heap.size 47 5 v' (i+1) (EK (P.l.take i++[t])))(J:v'.ownBlock=v.ownBlock\/v'.ownBlock=AE W.heap.size):P.J (i+1) v' W':=by
 have hi:i<P.l.length:=by
  rcases Am i P.l.length with e|e
  ·exact e
  ·rw[BG e]at H;cases H
 have Q:P.l.take (i+1)=P.l.take i++[t]:=by rw[Bi,H];rfl
 have e:=Wd.AE4 (v':=v') (l':=P.l.take (i+1)) h (P.atL _ _) hf (by rw[Q,AY,Ac,Bh a5];exact O) (λb hb=>by
  rcases J with I|I
  ·exact .inl (I▸hb)
  ·rw[I]at hb;injection hb with hb;exact .inr a5)
 rw[P.AO8]at e;exact e
theorem LP.own(h:P.J1 i v W)(hi:i<=P.l.length):W.ownsRow P.X.w0.heap.size 47 5 v i (EK (P.l.take i)):=by
 have:=Wd.at_ h (P.atL _ _);have e:W.ownsRow P.X.w0.heap.size 47 5 v (P.l.take i).length (EK (P.l.take i)):=this;rwa [Ac,Bh hi]at e
theorem LP.close(u:Bf)(h:P.J P.l.length v W):
  CallsD AP 47 #[AI P.x] u W λe H w'=>H=u/\(e=AH (AM #[])/\Wd P.X (P.os++[Uz P.X v P.l]) (P.m+Cr P.rt.h P.l.length) w'):=by
 refine(Ij u h (P.atR _ _ _)).mono ?_;rintro e H w' ⟨hu,he,hw⟩;rw[P.Qm,By]at hw;refine⟨hu,he,?_⟩;have I:Wd P.X (P.os++Nr P.X.p P.x (P.at_ P.l.length)::[Uz P.X v P.l]) (P.m+Cr P.rt.h P.l.length) w':=by simpa using hw
 exact I.cut rfl rfl
end
section
variable{X:Cx}{os:List DA}{m i:Nat}{W:World}{l:List Cv}
theorem AO1{first nb k hh}(h:Wd X os m W)(hi:os[i]?=AE (Da first nb k hh l X.sz))(hf:GY first nb k hh l X.sz)(Fu:X.cm)(aa:X.sz<=X.rm-DC DA.gw os)(hn:X.N+m+nb+1<=1000000){c}(hc:l.length=c):
  Calls AP 16 #[AI X.p.w,AL #[first,nb,k,c]] W λe w'=>∃v,e=AH (AM #[v,()])/\Wd X (os++[Uz X v l]) (m+nb) w':=by
 subst hc;have EU:Row (W.alloc (AK #[first,nb,k,l.length] 28)) W 28 [first,nb,k,l.length]:=heap_alloc_new _ _;have h0:Wd X os m (W.alloc (AK #[first,nb,k,l.length] 28)):=h.below ((AS _ _).alloc ao _);have av:=h.bounds.1;have LJ:=AO (Mp h0 first nb k hh l.length l hf.Pm hf.hh.1 hf.bn hf.len hf.fst a5);have QA:Hid (Src os X.sz first k hh l):=⟨i,_,hi,λD hD hs=>by rw[<-hf.bn];exact hs hD,λ_=>⟨AQ _,by rw[<-hf.bn];exact AQ _⟩⟩;have Lk:Hid (∀x b g W1,JA ⟨k,hh,first,nb,l.length,0,b,g⟩ X.sz->Wd X (os++[Eu X.p x ⟨k,hh,first,nb,l.length,0,b,g⟩ X.sz l]) m W1->
   LP.Ok ⟨X,os,m,x,⟨k,hh,first,nb,l.length,0,b,g⟩,l⟩/\LP.J ⟨X,os,m,x,⟨k,hh,first,nb,l.length,0,b,g⟩,l⟩ 0 (AJ AD 0 0) W1/\X.w0.heap.size<=W1.heap.size):=λx b g W1 k1 k2=>by
  refine⟨⟨k1,rfl,hf.fit,QA.out,Fu,by show X.N+m+Cr hh l.length+1<=1000000;rw[<-hf.bn];exact hn,hf.len⟩,?_,k2.size⟩;have:=k2.AO5;show Wd X _ (m+Cr hh 0) W1;rw[Du];exact this
 have aB:Hid (nb=Cr hh l.length):=hf.bn;have hlen:=hf.len;have c0:=EU.cell 0;have c1:=EU.cell 1;have c2:=EU.cell 2;have c3:=EU.cell 3;simp only[AW,AV]at c0 c1 c2 c3;clear h hi hf Fu aa hn EU h0 av QA;generalize Gr:(λ(e:Ending) (w':World)=>∃v,e=AH (AM #[v,()])/\Wd X (os++[Uz X v l]) (m+nb) w')=Dd at*
 replace Gr:=AO Gr;go_enter_defers func16,ntmps16
 go_wp2_with fail
 refine LJ.out.mono ?_;rintro e w1 ⟨x,b,g,rfl,DK,Nv⟩;obtain⟨hP,hJ,aF⟩:=Lk.out x b g w1 DK Nv;have HP:=AO hP;have aC:=AO hJ;clear DK Nv hP hJ Lk LJ c0 c1 c2 c3;have IC:Hid (∀v w',Wd X (os++[Uz X v l]) (m+Cr hh l.length) w'->Dd (AH (AM #[v,()])) w'):=λv w' hw=>by
  rw[<-Gr.out];exact⟨v,rfl,by rw[aB.out];exact hw⟩
 have I:Hid ((⟨X,os,m,x,⟨k,hh,first,nb,l.length,0,b,g⟩,l⟩:LP).x=x/\(⟨X,os,m,x,⟨k,hh,first,nb,l.length,0,b,g⟩,l⟩:LP).l=l/\(⟨X,os,m,x,⟨k,hh,first,nb,l.length,0,b,g⟩,l⟩:LP).X=X/\(⟨X,os,m,x,⟨k,hh,first,nb,l.length,0,b,g⟩,l⟩:LP).os=os/\(⟨X,os,m,x,⟨k,hh,first,nb,l.length,0,b,g⟩,l⟩:LP).m=m/\(⟨X,os,m,x,⟨k,hh,first,nb,l.length,0,b,g⟩,l⟩:LP).rt.h=hh):=⟨rfl,rfl,rfl,rfl,rfl,rfl⟩;generalize hP:(⟨X,os,m,x,⟨k,hh,first,nb,l.length,0,b,g⟩,l⟩:LP)=P at*
 clear hP;have Tf:Hid (∀i v W,P.J i v W->i<l.length->Calls AP 48 #[AI x] W λe w'=>∃t:Cv,e=AH (AM #[AL #[t.a,t.b,t.c,t.d,t.e],true,()])/\l[i]?=AE t/\P.J1 i v w'):=λi v W h hi=>by
  have:=LP.next HP.out h (by rw[I.out.2.1];exact hi);rw[I.out.1,I.out.2.1]at this;exact this
 have pU:Hid (∀v W,P.J l.length v W->Calls AP 48 #[AI x] W λe w'=>e=AH (AM #[AL #[(),(),(),(),()],false,()])/\P.J l.length v w'):=λv W h=>by
  have:=LP.end_ (P:=P) (v:=v) (W:=W) HP.out (by rw[I.out.2.1];exact h);rw[I.out.1,I.out.2.1]at this;exact this
 have GJ:Hid (∀u v W,P.J l.length v W->CallsD AP 47 #[AI x] u W λe u' w'=>u'=u/\(e=AH (AM #[])/\Wd X (os++[Uz X v l]) (m+Cr hh l.length) w')):=λu v W h=>by
  obtain⟨q1,U,q3,q4,q5,q6⟩:=I.out;have:=LP.close (P:=P) (v:=v) (W:=W) u (by rw[U];exact h);rw[q1,U,q3,q4,q5,q6]at this;exact this
 have bG:Hid (∀i v W,P.J1 i v W->i<=l.length->W.ownsRow X.w0.heap.size 47 5 v i (EK (l.take i))/\X.w0.heap.size<=W):=λi v W h hi=>by
  obtain⟨q1,U,q3,q4,q5,q6⟩:=I.out;have h1:=LP.own (P:=P) h (by rw[U];exact hi);have h2:=Wd.size h;rw[q3]at h1 h2;rw[U]at h1;exact⟨h1,h2⟩
 have jX:Hid (∀i v v' W W' t,P.J1 i v W->l[i]?=AE t->DG (λk=>v.ownBlock=AE k) W W'->W'.ownsRow X.w0.heap.size 47 5 v' (i+1) (EK (l.take i++[t]))->(v'.ownBlock=v.ownBlock\/v'.ownBlock=AE W)->P.J (i+1) v' W'):=λi v v' W W' t h ht hf ho hv=>by
  obtain⟨q1,U,q3,q4,q5,q6⟩:=I.out;exact LP.push h (by rw[U];exact ht) hf (by rw[U,q3];exact ho) hv
 clear I HP;go_wp2_with fail
 go_loopw [8] (λiv wr=>∃i:Nat,i<=l.length/\sliceLen iv=i/\Hid (P.J i iv wr)) (λiv _=>l.length-sliceLen iv)
 case atStart=>exact⟨0,Aq _,rfl,aC.out⟩
 case round=>
  obtain⟨i,hi,Oj,RO⟩:=hrel;have aA:=AO Oj;clear Oj;by_cases aw:i<l.length
  ·have al:=AO (Tf.out _ _ _ RO.out aw);clear RO;go_wp2_with fail
   refine al.out.mono ?_;rintro e H ⟨t,rfl,ht,FX⟩;have aE:=AO FX;have HT:=AO ht;clear FX ht al;obtain⟨ta,tb,Q,O,J⟩:=t;have JO:Hid (Below H H ((H.alloc (AK #[ta,tb,Q,O,J] 47)).alloc (AK #[ta,tb,Q,O,J] 47))):=((AS H H).alloc ao _).alloc ((AS H H).alloc ao _).size _;have vh:=AO (aE.out.below JO.out);have ab:Row ((H.alloc (AK #[ta,tb,Q,O,J] 47)).alloc (AK #[ta,tb,Q,O,J] 47)) (H.alloc (AK #[ta,tb,Q,O,J] 47)).heap.size 47 (DE ⟨ta,tb,Q,O,J⟩):=heap_alloc_new _ _;rw[show (H.alloc (AK #[ta,tb,Q,O,J] 47)).heap.size=H.heap.size+1 by simp]at ab;have JZ:=AO ab;clear ab;go_wp2_with (with_reducible refine EO 37 ?_)
   unfold Hid;obtain⟨wT,Lj⟩:=bG.out _ _ _ vh.out a5;refine Fv rfl _ _ rfl wT rfl ⟨H.heap.size+1,0,AD⟩ rfl ⟨ta,tb,Q,O,J⟩ (λj u hj=>?_) a5 ?_ ?_
   ·rw[<-hj];rw[iu];exact JZ.out.cell j
   ·exact Lj
   intro v' W D7 Ls Vb;have aD:=AO (jX.out _ _ _ _ _ _ vh.out HT.out Ls D7 Vb);have ae:=AO (lW D7);clear wT Lj D7 Ls Vb;go_wp2
   go_roundw
   case rel=>exact⟨i+1,a5,ae.out,aD.out⟩
   case measure=>have:=ae.out;have:=aA.out;simp;omega
  ·obtain rfl:i=l.length:=a5;have ad:=AO (pU.out _ _ RO.out);clear RO;go_wp2_with fail
   refine ad.out.mono ?_;rintro e H ⟨rfl,ar⟩;have vh:=AO (LP.J.below ar ((AS H H).alloc ao (AK #[(),(),(),(),()] 47)));clear ar ad;go_wp2
   refine Ay (f:=47) (args:=#[AI x]) a8 (by simp[go_sem]) ?_;refine(GJ.out _ _ _ vh.out).mono ?_;rintro e u' Ej ⟨rfl,rfl,hw⟩;exact⟨_,by simp[results,Tryz.results16,go_sem],IC.out _ _ hw⟩
end
def plF(n rm b:Nat):Fs:=⟨fresh n b,empty rm,Hi 0 b⟩
section
variable{w0 w:World}{G:Nat->Prop}{p:Wp}{n rm b k m c:Nat}{A:Option Addr}{l:List Cv}
theorem cK(e:0<k/\k<=5)(H:8<=n/\n<=256):0<Ct n k/\Ct n k*k<=n-2/\Ct n k<=254:=by
 unfold Ct;rw[if_neg a5,BX];have J:k<=n-2:=a5;have I:=(Nat.le_div_iff_mul_le e.1).2 (show 1*k<=n-2 by omega);have h3:=CU (n-2) k;have h4:=BW (n-2) k;exact⟨a5,h3,a5⟩
end
structure YP where
 X:Cx
 os:List DA
 m:Nat
 x:Nat
 t:Wt
 R:Nat
 l:List Cv
structure YP.Ok (P:YP):Prop where
 ok:Ep P.t P.X.sz
 bd:P.t.bound=P.l.length
 nil:P.t.l=[]
 fit:∀u∈P.l,EE u/\Dc P.t.k u=true
 cm:P.X.cm
 n:P.X.N+P.m+P.l.length+1<=1000000
def YP.z(P:YP)(cs:List Value):List DA:=P.os++[Cs P.R 28 cs]
def Z4:List Value:=[(),(),(),()]
def YP.J(P:YP)(i:Nat)(W:World):Prop:=Wd P.X (P.z Z4++[I1 P.X.p P.x (tk P.t P.l i) P.X.sz]) (P.m+i/P.t.h) W
def YP.C(P:YP)(cs:List Value)(W:World):Prop:=Wd P.X (P.z cs++[Uu P.X.p P.x (tk P.t P.l P.l.length) P.X.sz]) (P.m+Cr P.t.h P.l.length) W
section
variable{P:YP}{W W':World}{i:Nat}
theorem YP.jW(P:YP)(cs:List Value)(a:DA):(P.z cs++[a])[P.os.length+1]?=AE a:=by simp[YP.z]
theorem YP.Tm(P:YP)(cs:List Value)(a b:DA):(P.z cs++[a]).set (P.os.length+1) b=P.z cs++[b]:=by simp[YP.z]
theorem YP.atR(P:YP)(cs:List Value)(a:DA):(P.z cs++[a])[P.os.length]?=AE (Cs P.R 28 cs):=by simp[YP.z]
theorem YP.Qm(P:YP)(cs JX:List Value)(a:DA):(P.z cs++[a]).set P.os.length (Cs P.R 28 JX)=P.z JX++[a]:=by simp[YP.z]
theorem YP.AE5(e:P.Ok)(hi:i<=P.l.length):Ep (tk P.t P.l i) P.X.sz:=
 ⟨e.ok.k,e.ok.h,e.ok.sz,⟨e.ok.bound.1,by rw[Re hi];show i<=P.t.bound;rw[e.bd];exact hi⟩,e.ok.blocks,e.ok.first⟩
theorem YP.J.below(h:P.J i W)(hb:Below W W W'):P.J i W':=Wd.below h hb
theorem YP.put(H:P.Ok)(h:P.J i W){tu}(J:P.l[i]?=AE tu)(hi:i<P.l.length):
  Calls AP 30 #[AI P.x,AL #[tu.a,tu.b,tu.c,tu.d,tu.e]] W λe w'=>e=AH ()/\P.J (i+1) w':=by
 have U:=BW i P.t.h;have Q:=H.n;refine(RW h (P.jW _ _) (YP.AE5 H (Nat.le_of_lt hi)) a5 (tu:=tu) (H.fit tu (Ak J)).2 (by rw[Re (Nat.le_of_lt hi)];show i<P.t.bound;rw[H.bd];exact hi)).mono ?_;rintro e w' (⟨he,hw⟩|⟨_,I,_⟩)
 ·refine⟨he,?_⟩;rw[P.Tm,rP J,Re (Nat.le_of_lt hi)]at hw;have O:i/P.t.h<=(i+1)/P.t.h:=Nat.div_le_div_right a5;unfold YP.J;rw[show P.m+(i+1)/P.t.h=P.m+i/P.t.h+((i+1)/(tk P.t P.l i).h-i/(tk P.t P.l i).h)by show _=P.m+i/P.t.h+((i+1)/P.t.h-i/P.t.h);omega];exact hw
 ·exact absurd H.cm I
theorem YP.close(I:P.Ok)(h:P.J P.l.length W):
  Calls AP 31 #[AI P.x] W λe w'=>e=AH (AM #[AL #[(DY (tk P.t P.l P.l.length):Nat),(Cr P.t.h P.l.length:Nat),P.t.k,P.l.length],()])/\P.C Z4 w':=by
 have O:=BW P.l.length P.t.h;have J:=I.n;refine(OR h (P.jW _ _) (YP.AE5 I ao) a5).mono ?_;rintro e w' (⟨he,hw⟩|⟨_,H,_⟩)
 ·rw[Re ao]at he hw;rw[P.Tm]at hw;refine⟨he,?_⟩;have hb:P.l.length/P.t.h<=Cr P.t.h P.l.length:=by unfold Cr;split<;>omega
  unfold YP.C;rw[show P.m+Cr P.t.h P.l.length=P.m+P.l.length/P.t.h+(Cr (tk P.t P.l P.l.length).h P.l.length-P.l.length/(tk P.t P.l P.l.length).h)by show _=P.m+P.l.length/P.t.h+(Cr P.t.h P.l.length-P.l.length/P.t.h);omega];exact hw
 ·exact absurd I.cm H
theorem YP.store(h:P.C Z4 W)(x1 x2 x3 x4:Value):P.C [x1,x2,x3,x4] ((((W.setCell P.R x1).setCell (P.R,1) x2).setCell (P.R,2) x3).setCell (P.R,3) x4):=by
 have H:=Wd.store h (P.atR _ _) a6 0 x1;rw[P.Qm]at H;have e:=H.store (P.atR _ _) a6 1 x2;rw[P.Qm]at e;have h3:=e.store (P.atR _ _) a6 2 x3;rw[P.Qm]at h3;have h4:=h3.store (P.atR _ _) a6 3 x4;rw[P.Qm]at h4;exact h4
theorem YP.C.shut{cs}(h:P.C cs W):Nb W P.x P.X.p (tk P.t P.l P.l.length):=Wd.at_ h (P.jW _ _)
theorem YP.C.AP0{cs}(h:P.C cs W):Row W P.R 28 cs:=Wd.row h (P.atR _ _)
theorem YP.C.fin{cs}(h:P.C cs W):Wd P.X (P.os++[Da (DY (tk P.t P.l P.l.length)) (Cr P.t.h P.l.length) P.t.k P.t.h P.l P.X.sz]) (P.m+Cr P.t.h P.l.length) W:=by
 have H:=WV h (P.jW _ _);rw[P.Tm,Re ao]at H;have e:(tk P.t P.l P.l.length).l=P.l:=By;rw[e]at H;have H:Wd P.X (P.z cs++[Da (DY (tk P.t P.l P.l.length)) (Cr P.t.h P.l.length) P.t.k P.t.h P.l P.X.sz]) (P.m+Cr P.t.h P.l.length) W:=H;have I:Wd P.X (P.os++Cs P.R 28 cs::[Da (DY (tk P.t P.l P.l.length)) (Cr P.t.h P.l.length) P.t.k P.t.h P.l P.X.sz]) (P.m+Cr P.t.h P.l.length) W:=by simpa [YP.z]using H
 exact I.cut rfl rfl
theorem YP.fok(e:P.Ok)(hh:P.t.h=Ct P.X.sz P.t.k)(H:P.l.length<=100000):GY (DY (tk P.t P.l P.l.length)) (Cr P.t.h P.l.length) P.t.k P.t.h P.l P.X.sz:=
 ⟨e.ok.k,e.ok.h,hh,rfl,H,by have:=e.ok.first;unfold DY;split<;>first|omega|exact this,e.fit⟩
end
section
variable{X:Cx}{os:List DA}{m:Nat}{W:World}{l:List Cv}
theorem yO{k n c A}(h:Wd X os m W)(Fu:X.cm)(hk:0<k/\k<=5)(H:∀z m' W',Wd X (os++z) m' W'->Lb W' W' A n l)(hlen:l.length<=1000)(O:∀u∈l,Dc k u=true)(I:X.sz+DC DA.gw os<=X.rm)(hn:X.N+m+l.length+1<=1000000)(hz:∃z,Rm X os z (Cr (Ct X.sz k) l.length)):
  Calls AP 12 #[AI X.p.w,k,AJ A n c] W λe w'=>∃first nb:Nat,e=AH (AM #[AL #[first,nb,k,n],()])/\GY first nb k (Ct X.sz k) l X.sz/\Wd X (os++[Da first nb k (Ct X.sz k) l X.sz]) (m+nb) w':=by
 have zM:=H [] m W (by rw[AZ];exact h);have Z9:=zM.1;have Xj:=zM.2.1;have hh:=cK hk h.bounds.1;have ad:Below W W (W.alloc (AK #[(),(),(),()] 28)):=(AS _ _).alloc ao _;have EU:Row (W.alloc (AK #[(),(),(),()] 28)) W 28 Z4:=heap_alloc_new _ _;have h0:=h.new ad EU ao;have GZ:DC DA.gw (os++[Cs W 28 Z4])=DC DA.gw os:=Dz _ _ _;have Ty:=AO (ON h0 k n hh.1 a5 (by rw[GZ];exact I));have Nh:Hid (¬∀q,¬Rm X (os++[Cs W 28 Z4]) q (Cr (Ct X.sz k) n)):=λU=>by
  obtain⟨z,hz⟩:=hz;rw[Z9]at hz;refine U z (GF hz λq hq=>?_);simp at hq;subst hq;exact⟨rfl,rfl⟩
 have Lk:Hid (∀x t W1,t.k=k->t.h=Ct X.sz k->t.bound=n->t.l=[]->Ep t X.sz->Wd X (os++[Cs W 28 Z4]++[I1 X.p x t X.sz]) m W1->
   ∃P:YP,(P.x=x/\P.l=l/\P.R=W.heap.size)/\P.Ok/\P.J 0 W1/\(∀i W',P.J i W'->Lb W' W'.heap.size A n l)/\(∀cs W',P.C cs W'->Nb W' x X.p (tk t l l.length))/\P.t=t/\
    (∀cs W',P.C cs W'->GY (DY (tk t l l.length)) (Cr (Ct X.sz k) n) k (Ct X.sz k) l X.sz/\Wd X (os++[Da (DY (tk t l l.length)) (Cr (Ct X.sz k) n) k (Ct X.sz k) l X.sz]) (m+Cr (Ct X.sz k) n) W')):=λx t W1 e1 e2 e3 e4 e5 hw=>by
  have hP:YP.Ok ⟨X,os,m,x,t,W,l⟩:=⟨e5,by rw[e3];exact Z9.symm,e4,λu hu=>⟨Xj u hu,by show Dc t.k u=true;rw[e1];exact O u hu⟩,Fu,hn⟩;refine⟨⟨X,os,m,x,t,W,l⟩,⟨rfl,rfl,rfl⟩,hP,?_,λi W' hj=>?_,λcs W' hc=>hc.shut,rfl,λcs W' hc=>?_⟩
  ·have e:tk t l 0=t:=by unfold tk;rw[Bt,<-e4]
   show Wd X (os++[Cs W.heap.size 28 Z4]++[I1 X.p x (tk t l 0) X.sz]) (m+0/t.h) W1;rw[e,Nat.zero_div];exact hw
  ·have hj:Wd X (os++[Cs W 28 Z4]++[I1 X.p x (tk t l i) X.sz]) (m+i/t.h) W':=hj;rw[AR]at hj;exact H _ _ _ hj
  ·have f1:=YP.fok hP (by show t.h=Ct X.sz t.k;rw[e1];exact e2) (by show l.length<=100000;omega);have Q:=hc.fin;have f1:GY (DY (tk t l l.length)) (Cr t.h l.length) t.k t.h l X.sz:=f1;have Q:Wd X (os++[Da (DY (tk t l l.length)) (Cr t.h l.length) t.k t.h l X.sz]) (m+Cr t.h l.length) W':=Q;generalize DY (tk t l l.length)=fo at f1 Q⊢;rw[e1,e2,Z9]at f1 Q;exact⟨f1,Q⟩
 have PO:n<=1000:=a5;have NB:=AO Z9;clear h Fu hk H hlen O I hn hz zM Xj hh ad EU h0 GZ Z9;generalize Gr:(λ(e:Ending) (w':World)=>∃first nb:Nat,e=AH (AM #[AL #[first,nb,k,n],()])/\GY first nb k (Ct X.sz k) l X.sz/\Wd X (os++[Da first nb k (Ct X.sz k) l X.sz]) (m+nb) w')=Dd at*
 replace Gr:=AO Gr;go_enter_defers func12,ntmps12
 go_wp2_with fail
 refine Ty.out.mono ?_;rintro e w1 (⟨_,U,_⟩|⟨x,t,rfl,e1,e2,e3,e4,e5,Nv⟩)
 ·exact(Nh.out U).elim
 obtain⟨P,⟨hx,hl,hR⟩,hP,hj,H,ab,ht,IP⟩:=Lk.out x t w1 e1 e2 e3 e4 e5 Nv;have vN:Hid (∀i W tu,P.J i W->l[i]?=AE tu->i<n->Calls AP 30 #[AI x,AL #[tu.a,tu.b,tu.c,tu.d,tu.e]] W λe w'=>e=AH ()/\P.J (i+1) w'):=λi W tu J h2 h3=>by
  have:=YP.put hP J (by rw[hl];exact h2) (by rw[hl,NB.out];exact h3);rw[hx]at this;exact this
 have GJ:Hid (∀W,P.J n W->Calls AP 31 #[AI x] W λe w'=>e=AH (AM #[AL #[(DY (tk t l l.length):Nat),(Cr (Ct X.sz k) n:Nat),k,n],()])/\P.C Z4 w'):=λW J=>by
  have:=YP.close hP (W:=W) (by rw[hl,NB.out];exact J);rw[hx,ht,e2,e1,hl]at this;generalize DY (tk t l l.length)=fo at this⊢;rw[NB.out]at this;exact this
 have aw:Hid (∀W' x1 x2 x3 x4,P.C Z4 W'->P.C [x1,x2,x3,x4] ((((W'.setCell W x1).setCell (W,1) x2).setCell (W,2) x3).setCell (W,3) x4)):=λW' x1 x2 x3 x4 J=>by
  have:=YP.store J x1 x2 x3 x4;rw[hR]at this;exact this
 have JZ:Hid (∀cs W',P.C cs W'->Row W' W 28 cs):=λcs W' J=>by
  have:=J.AP0;rw[hR]at this;exact this
 have HJ:=AO hj;have LJ:=AO H;have ar:=AO ab;have IC:Hid (∀cs W',P.C cs W'->Dd (AH (AM #[AL #[(DY (tk t l l.length):Nat),(Cr (Ct X.sz k) n:Nat),k,n],()])) W'):=λcs W' J=>by
  obtain⟨f1,Q⟩:=IP cs W' J;rw[<-Gr.out];exact⟨_,_,rfl,f1,Q⟩
 generalize DY (tk t l l.length)=first at*
 generalize Cr (Ct X.sz k) n=nb at*
 clear hx hl hR hP hj H ab ht IP Nv e1 e2 e3 e4 e5 Lk Nh Ty;go_wp2_with fail
 go_loopw [28] (λiv wr=>∃i:Nat,i<=n/\iv=AA AB (i:Int)/\Hid (P.J i wr)) (λiv _=>n-(BF iv).toNat)
 case atStart=>exact⟨0,Aq _,rfl,HJ.out⟩
 case round=>
  obtain⟨i,hi,rfl,RO⟩:=hrel;by_cases aa:i<n
  ·obtain⟨bb,off,tu,rfl,Ia,q0,q1,q2,q3,q4,_,al⟩:=(LJ.out _ _ RO.out).at_ aa;have FM:(0:Int)<=(i:Int):=a5;have cS:(i:Int)<(n:Int):=a5;have g0:decide ((i:Int)<(n:Int))=true:=by simpa using aa
   have Ur:=AO (vN.out i _ tu (RO.out.below ((AS wr wr).alloc ao (AK #[tu.a,tu.b,tu.c,tu.d,tu.e] 47))) al.out aa);obtain⟨ta,tb,tc,td,te⟩:=tu;simp only at q0 q1 q2 q3 q4 Ur;go_wp2_with fail
   refine Ur.out.mono ?_;rintro e w5 ⟨rfl,FX⟩;have aA:=AO FX;clear FX Ur q0 q1 q2 q3 q4 RO;go_wp2
   go_roundw
   case rel=>exact⟨i+1,a5,by go_num,aA.out⟩
   case measure=>simp[BF];omega
  ·obtain rfl:i=n:=a5;have g0:decide ((i:Int)<(i:Int))=false:=a8;have ae:=AO (GJ.out _ RO.out);clear RO;go_wp2_with fail
   refine ae.out.mono ?_;rintro e w5 ⟨rfl,h5⟩;have IB:=AO (JZ.out _ _ h5);have H9:=AO (aw.out _ first nb k i h5);have ES:=AO (JZ.out _ _ H9.out);obtain⟨z0,z1,z2,z3⟩:=IB.out.q4;obtain⟨f0,f1,Q,f3⟩:=IB.out.r4;have av:Hid (∀u,CallsD AP 29 #[AI x] u ((((w5.setCell W first).setCell (W,1) nb).setCell (W,2) k).setCell (W,3) i) λe u' w'=>u'=u/\(e=AH (AM #[])/\w'=((((w5.setCell W first).setCell (W,1) nb).setCell (W,2) k).setCell (W,3) i))):=λu=>E8 (ar.out _ _ H9.out) u;clear h5 ae;go_wp2
   refine Ay (f:=29) (args:=#[AI x]) a8 (by simp[go_sem]) ?_;refine(av.out _).mono ?_;rintro e u' Ej ⟨rfl,rfl,rfl⟩;have r0:=ES.out.cell 0;have r1:=ES.out.cell 1;have r2:=ES.out.cell 2;have r3:=ES.out.cell 3;simp only[AW,AV]at r0 r1 r2 r3;exact⟨AM #[AL #[first,nb,k,i],()],by simp[results,Tryz.results12,go_sem,r0,r1,r2,r3],IC.out _ _ H9.out⟩
end
theorem VL{n q:Nat}:∀(E:List (Nat×Nat)) (J:List Nat),(∀e∈E,e.2<=q)->J.Nodup->E.length<J.length->∃j∈J,∀e∈E,∀z,j*(n+q)<=z->z<j*(n+q)+n->¬I2 e z
 |[],J,_,_,hl=>by
  obtain⟨j,O⟩:=List.exists_mem_of_length_pos (show 0<J.length from hl);exact⟨j,O,λe he=>by cases he⟩
 |e::E,J,hq,hd,hl=>by
  by_cases hex:∃H∈J,∃z,H*(n+q)<=z/\z<H*(n+q)+n/\I2 e z
  ·obtain⟨H,UM,z0,h1,h2,h3⟩:=hex;have hlen:(J.erase H).length=J.length-1:=List.length_erase_of_mem UM;obtain⟨j,O,MV⟩:=VL (n:=n) (q:=q) E (J.erase H) (λe he=>hq e (BB _ he)) (hd.erase H) (by simp at hl;omega);have aa:j≠H:=λe=>by
    subst e;exact(List.Nodup.not_mem_erase hd) O
   refine⟨j,List.mem_of_mem_erase O,λe' I z U Q k3=>?_⟩;rcases A8.1 I with rfl|I
   ·have ab:=hq e' Ax;unfold I2 at h3 k3;rcases Nat.lt_or_gt_of_ne aa with h|h
    ·have:(j+1)*(n+q)<=H*(n+q):=Ae _ a5;rw[A6,BD]at this;omega
    ·have:(H+1)*(n+q)<=j*(n+q):=Ae _ a5;rw[A6,BD]at this;omega
   ·exact MV e' I z U Q k3
  ·obtain⟨j,O,MV⟩:=VL (n:=n) (q:=q) E J (λe he=>hq e (BB _ he)) hd (by simp at hl;omega);refine⟨j,O,λe' I z U Q k3=>?_⟩;rcases A8.1 I with rfl|I
   ·exact hex ⟨j,O,z,U,Q,k3⟩
   ·exact MV e' I z U Q k3
theorem sI{X b os}(hS:X.S0=Hi 0 b){n q c}(E:List (Nat×Nat))(U:∀e∈E,e.2<=q)(hc:E.length=c)(H:∀a∈os,a.ex.2=0\/a.ex∈E)(hb:c*(n+q)+n<=b):∃z,Rm X os z n:=by
 obtain⟨j,O,MV⟩:=VL (n:=n) (q:=q) E (Bu (c+1)) U List.nodup_range (by rw[List.length_range];omega);have I:j<=c:=by have:=List.mem_range.1 O;omega
 have hm:j*(n+q)<=c*(n+q):=Ae _ I;refine⟨j*(n+q),λz h1 h2=>⟨?_,λi a Q=>?_⟩⟩
 ·rw[hS];exact Zf (m:=b) (n:=b) ao z a5 a5
 ·rcases H a (Ak Q)with h|h
  ·intro J;have h3:a.ex.1<=z/\z<a.ex.1+a.ex.2:=J;omega
  ·exact MV _ h z h1 h2
def cxL(W1:World)(p:Wp)(rm sz b:Nat)(cm:Prop)(N:Nat):Cx:=⟨W1,p,Hi 0 b,rm,sz,b,cm,N,0,0⟩
section
variable{W1 w W:World}{p:Wp}{rm sz b m N:Nat}{cm:Prop}{os:List DA}{G:Nat->Prop}
theorem oO(J:Sys w G p (plF sz rm b) 0)(Q:∀k,G k->W1<=k)(hb:Below W1 W1 w)(H:b<=1000000)(O:N<=1000000):Wd (cxL W1 p rm sz b True N) [] 0 w:=by
 refine⟨G,fresh sz b,empty rm,Hi 0 b,{
  sys:=J
  Lx:=⟨Aq _,O⟩
  base:=Q
  Tw:=hb
  size:=rfl
  blocks:=rfl
  alive:=⟨rfl,rfl⟩
  calm:=λ_=>aO _ _
  Dg:=by show (0:Int)<=((0+0:Nat):Int);omega
  room:=rfl
  used:=rfl
  ok:=λj a e=>by simp at e
  st:=λj a b' n' e=>by simp at e
  mem:=λj a e=>by simp at e
  Te:=λj a e=>by simp at e
  apart:=λj I a U e=>by simp at e
  exa:=λj I a U e=>by simp at e
  exs:=λj a e=>by simp at e
  s0:=XN a5 H
  sp:=⟨rfl,rfl⟩
  free:=λz=>⟨λh=>⟨h,λj a e=>by simp at e⟩,λh=>h.1⟩
  sum:=rfl
  range:=by show ((0+b:Nat):Int)<=b;omega}⟩
end
theorem Yz(b:Nat)(hb:b<=100)(w:World):Calls AP 9 #[b] w λe w'=>
  ∃p G,e=AH (AI p.w)/\Sys w' G p (plF 10 (10*b) 6000) 0/\(∀k,G k->w<=k)/\Below w w w':=by
 have HN:=AO (sU 10 6000 w a5 ⟨a5,a5⟩);obtain⟨u,hu⟩:=ae (10*b);rw[<-hu];have hmul:(10:Int)*(b:Int)=(u:Int):=a5;have vm:Hid (∀W,Calls AP 25 #[u] W λe w'=>e=AH (AI W)/\Jz w' (λk=>k=W) W (empty u)/\Below W W w'):=λW=>by
  have:=K7 (u:Int) W a5 a5;rwa [BX]at this
 have aa:Hid (∀W,Calls AP 26 #[AA AB 0,AA AB 6000] W λe w'=>∃p G,e=AH (AI (AE ⟨p,0,AD⟩))/\JY w' G p (Hi 0 6000)/\(∀k,G k->W.heap.size<=k)/\Below W.heap.size W w'):=λW=>eX 0 6000 W a5 a5;have pS:Hid (∀W d a s,Calls AP 24 #[AI (AE ⟨d,0,AD⟩),AI (AE ⟨a,0,AD⟩),AI (AE ⟨s,0,AD⟩)] W λe w'=>e=AH (AI (AE ⟨W.heap.size,0,AD⟩))/\w'=W.alloc (AK #[ptr d,ptr a,ptr s] 87)):=λW d a s=>Ow d a s W;have al:u<=1000:=a5;clear hu hb;go_enter func9,ntmps9
 go_wp2_with fail
 refine HN.out.mono ?_;rintro e w1 ⟨d,Gd,rfl,hd,TZ,DV⟩;have HD:=AO hd;have ab:=AO TZ;have OM:=AO DV;clear hd TZ DV HN;go_wp2_with fail
 refine(vm.out _).mono ?_;rintro e w2 ⟨rfl,ha,DN⟩;have HA:=AO ha;have E1:=AO DN;clear ha DN;go_wp2_with fail
 refine(aa.out _).mono ?_;rintro e w3 ⟨s,Gs,rfl,hs,qI,D9⟩;have HS:=AO hs;have I:=AO qI;have Ei:=AO D9;clear hs qI D9;go_wp2_with fail
 refine(pS.out _ _ _ _).mono ?_;rintro e J ⟨rfl,Q⟩;have H:Sys J (λk=>k=w3\/Gd k\/k=w1\/Gs k) ⟨w3,d,w1,s⟩ (plF 10 u 6000) 0:=by
  rw[Q];exact yR HD.out E1.out HA.out (λk O=>by rw[O];exact AQ _) rfl Ei.out HS.out (λk O=>I.out k O)
 have U:=AO H;have qc:Hid (Below w w J):=by
  have q1:=OM.out;have q2:=q1.trans (E1.out.mono q1.size);have q3:=q2.trans (Ei.out.mono q2.size);have q4:Below w w J:=by rw[Q];exact q3.alloc q3.size _
  exact q4
 have ad:Hid (∀k,(k=w3.heap.size\/Gd k\/k=w1.heap.size\/Gs k)->w.heap.size<=k):=by
  have z1:=OM.out.size;have z2:=E1.out.size;have z3:=Ei.out.size;rintro k (rfl|h|rfl|h)
  ·omega
  ·exact ab.out k h
  ·omega
  ·have:=I.out k h;omega
 clear H Q;go_wp2
 go_ret
 exact⟨⟨w3,d,w1,s⟩,_,rfl,U.out,ad.out,qc.out⟩
section
variable{X:Cx}{os:List DA}{m i:Nat}{W W':World}{x:Nat}{r:Rt}{l:List Cv}
theorem U5{first nb k h sz}(hm:Da first nb k h l sz∈os)(e:nb=Cr h l.length):Src os sz first k h l:=by
 obtain⟨j,H⟩:=BC.1 hm;exact⟨j,_,H,λD I hd=>by rw[<-e];exact hd I,λ_=>⟨AQ _,by show first+Cr h l.length<=first+nb;rw[e];exact AQ _⟩⟩
theorem VD{z2 z n}(h:Rm X os z n)(U:∀a∈z2,a.ex.2=0):Rm X (os++z2) z n:=λy h1 h2=>by
 obtain⟨O,J⟩:=h y h1 h2;refine⟨O,λj a hj H=>?_⟩;rcases Ag.1 (Ak hj)with hm|hm
 ·obtain⟨Q,I,e⟩:=BO hm;exact J Q a (by rw[AU I,e]) H
 ·have h4:=U a hm;unfold I2 at H;rw[h4]at H;omega
def rat(r:Rt)(j:Nat):Rt:={r with pos:=j}
def az(X:Cx)(x:Nat)(r:Rt)(l:List Cv)(a:DA):Prop:=∃j,a=Eu X.p x (rat r j) X.sz l\/a=Nr X.p x (rat r j)
structure xk (X:Cx) (r:Rt) (l:List Cv):Prop where
 ok:JA r X.sz
 cnt:l.length=r.count
 fit:∀u∈l,EE u/\Dc r.k u=true
 bn:r.blocks=Cr r.h l.length
theorem xk.vt(h:xk X r l){j}(e:j<=l.length):qS (rat r j) X.sz l:=⟨⟨h.ok.k,h.ok.h,h.ok.sz,⟨h.ok.count.1,by show j<=r.count;rw[<-h.cnt];exact e⟩,h.ok.first⟩,h.cnt,h.fit⟩
theorem VI{j}(h:Wd X os (m+Cr r.h j) W)(hi:os[i]?=AE (Eu X.p x (rat r j) X.sz l))(hF:xk X r l)(O:Src os X.sz r.first r.k r.h l)(H:j<l.length)(Q:X.N+m+Cr r.h l.length+1<=1000000):
  Calls AP 48 #[AI x] W λe w'=>
   (∃t,l[j]?=AE t/\e=AH (AM #[DS t,true,()])/\Wd X (os.set i (Eu X.p x (rat r (j+1)) X.sz l)) (m+Cr r.h (j+1)) w')\/
   (e=AH (AM #[DS Cu,false,AA AB 6])/\¬X.cm/\Wd X (os.set i (Nr X.p x (rat r j))) (m+Cr r.h l.length+1) w'):=by
 obtain⟨t,J⟩:∃t,l[j]?=AE t:=⟨_,AU H⟩;have b1:Cr r.h j<=Cr r.h (j+1):=Db hF.ok.h.1 (Nat.le_succ j);have b2:Cr r.h (j+1)<=Cr r.h l.length:=Db hF.ok.h.1 H;refine(OO h hi (hF.vt (Nat.le_of_lt H)) a5 (by show j<r.count;rw[<-hF.cnt];exact H) O (t:=t) J).mono ?_;rintro e w' (⟨he,hw⟩|⟨he,I,hw⟩)
 ·refine .inl ⟨t,J,he,?_⟩;have hw:Wd X (os.set i (Eu X.p x (rat r (j+1)) X.sz l)) (m+Cr r.h j+(Cr r.h (j+1)-Cr r.h j)) w':=hw;rwa [show m+Cr r.h j+(Cr r.h (j+1)-Cr r.h j)=m+Cr r.h (j+1)by omega]at hw
 ·exact .inr ⟨he,I,hw.mono a5 a5⟩
theorem ZS{j}(h:Wd X os m W)(hi:os[i]?=AE (Eu X.p x (rat r j) X.sz l))(hF:xk X r l)(H:j=l.length):
  Calls AP 48 #[AI x] W λe w'=>e=AH (AM #[DS Cu,false,()])/\Wd X os m w':=
 L5 h hi (hF.vt (Nat.le_of_eq H)).ok (by show j=r.count;rw[<-hF.cnt];exact H)
theorem MF(u:Bf){a}(h:Wd X os m W)(hi:os[i]?=AE a)(O:az X x r l a):
  CallsD AP 47 #[AI x] u W λe H w'=>H=u/\(e=AH (AM #[])/\∃j,Wd X (os.set i (Nr X.p x (rat r j))) m w'):=by
 obtain⟨j,rfl|rfl⟩:=O
 ·refine(Ij u h hi).mono ?_;rintro e H w' ⟨J,I,h3⟩;exact⟨J,I,j,h3⟩
 ·refine(Lg u (h.at_ hi)).mono ?_;rintro e H w' ⟨J,I,h3⟩;refine⟨J,I,j,?_⟩;have Q:os.set i (Nr X.p x (rat r j))=os:=by
   apply List.ext_getElem?;intro q;rw[Av]
   split
   ·rename_i hq
    subst hq
    split
    ·exact hi.symm
    ·rename_i hl
     rw[BG a5]
   ·rfl
  rw[Q];subst h3;exact h
end
noncomputable def Hg (P:Nat->Prop):Nat:=@dite Nat (∃n,P n/\∀m,P m->n<=m) (Classical.propDecidable _) (λh=>h.choose) (λ_=>0)
theorem Fe{P:Nat->Prop}{n:Nat}(h:P n):P (Hg P)/\Hg P<=n:=by
 have hex:∀k m,m<=k->P m->∃n,P n/\∀m,P m->n<=m:=λk=>by
  induction k with
  |zero=>intro m hm h;exact⟨m,h,λq _=>by omega⟩
  |succ k ih=>
   intro m hm h;by_cases J:∃q,q<m/\P q
   ·obtain⟨q,O,I⟩:=J;exact ih q a5 I
   ·exact⟨m,h,λq O=>Nat.not_lt.1 λI=>J ⟨q,I,O⟩⟩
 have H:=hex n n ao h;have e:Hg P=H.choose:=by unfold Hg;rw[dif_pos H]
 rw[e];exact⟨H.choose_spec.1,H.choose_spec.2 n h⟩
def outL(I8:Nat->Cv->Option Cv)(l:List Cv):Nat->List Cv
 |0=>[]
 |i+1=>outL I8 l i++(match l[i]?with
  |some t=>(I8 i t).toList
  |none=>[])
theorem XI(e:Nat->Cv->Option Cv)(l:List Cv):∀i,(outL e l i).length<=i
 |0=>AQ _
 |i+1=>by
  have h:=XI e l i;simp only[outL,AY];rcases l[i]?with _|t
  ·simp;omega
  ·simp only;rcases e i t with _|u<;>simp<;>omega
theorem XH{I8 l u}:∀{i},u∈outL I8 l i->∃(j:Nat) (t:Cv),l[j]?=AE t/\I8 j t=AE u
 |0,h=>by cases h
 |i+1,h=>by
  simp only[outL,Ag]at h;rcases h with h|h
  ·exact XH h
  ·rcases hl:l[i]?with _|t
   ·rw[hl]at h;cases h
   ·rw[hl]at h;exact⟨i,t,hl,by simpa using h⟩
theorem fO{I8 l i t}(h:l[i]?=AE t):outL I8 l (i+1)=outL I8 l i++(I8 i t).toList:=by simp[outL,h]
structure AB4 (X:Cx) (pre:List DA) (fH:Nat) (caps:Array Value) (l:List Cv) (I8:Nat->Cv->Option Cv) (H:Nat->List DA) (nh:Nat):Prop where
 ent:∀args w,Br AP (callFunc fH args) w=.ok (.enter fH args) w
 len:∀j,(H j).length=nh
 how:∀j zz m W t,l[j]?=AE t->Wd X (pre++H j++zz) m W->Calls AP fH (#[DS t]++caps) W λe w'=>∃t' b,e=AH (AM #[DS t',.bool b])/\I8 j t=(if b then AE t' else AD)/\Wd X (pre++H (j+1)++zz) m w'
structure CP where
 X:Cx
 pre:List DA
 H:Nat->List DA
 nh:Nat
 mid:List DA
 l:List Cv
 I8:Nat->Cv->Option Cv
 r:Rt
 x:Nat
 fH:Nat
 caps:Array Value
structure CP.Ok (P:CP):Prop where
 how:AB4 P.X P.pre P.fH P.caps P.l P.I8 P.H P.nh
 rd:xk P.X P.r P.l
 src:∀j a zz,Src (P.pre++P.H j++P.mid++[a]++zz) P.X.sz P.r.first P.r.k P.r.h P.l
def CP.Z(P:CP)(j:Nat)(a:DA):List DA:=P.pre++P.H j++P.mid++[a]
def CP.rd(P:CP)(i:Nat):DA:=Eu P.X.p P.x (rat P.r i) P.X.sz P.l
def CP.np(P:CP):Nat:=P.pre.length+P.nh+P.mid.length
def CP.vF(P:CP):List Value:=[.func (.func 48) #[AI P.x] #[],.func (.func P.fH) #[] P.caps]
def CP.bx(P:CP)(b1 b2:Nat)(cs:List Value):List DA:=[Cs b1 175 P.vF,Cs b2 47 cs]
def Z5:List Value:=[(),(),(),(),()]
def CP.A(P:CP)(zz:List DA)(m i:Nat)(W:World):Prop:=Wd P.X (P.Z i (P.rd i)++zz) (m+Cr P.r.h i) W
def CP.B(P:CP)(zz:List DA)(m i:Nat)(W:World):Prop:=Wd P.X (P.Z i (P.rd (i+1))++zz) (m+Cr P.r.h (i+1)) W
def CP.N(P:CP)(zz:List DA)(m i:Nat)(W:World):Prop:=Wd P.X (P.Z i (Nr P.X.p P.x (rat P.r i))++zz) (m+Cr P.r.h P.l.length+1) W
section
variable{P:CP}{W W':World}{i m:Nat}{zz:List DA}
theorem CP.at_(e:P.Ok)(a:DA):(P.Z i a++zz)[P.np]?=AE a:=by
 unfold CP.Z CP.np;rw[AR,AX (by simp[e.how.len];omega),show P.pre.length+P.nh+P.mid.length-(P.pre++P.H i++P.mid).length=0 by simp[e.how.len];omega];rfl
theorem CP.AE9(H:P.Ok)(a b:DA):(P.Z i a++zz).set P.np b=P.Z i b++zz:=by
 unfold CP.Z CP.np;have e:P.pre.length+P.nh+P.mid.length=(P.pre++P.H i++P.mid).length:=by simp[H.how.len];omega
 rw[e];simp
theorem CP.A.next(H:P.Ok)(h:P.A zz m i W)(hi:i<P.l.length)(O:P.X.N+m+Cr P.r.h P.l.length+1<=1000000):
  Calls AP 48 #[AI P.x] W λe w'=>
   (∃t,P.l[i]?=AE t/\e=AH (AM #[DS t,true,()])/\P.B zz m i w')\/(e=AH (AM #[DS Cu,false,AA AB 6])/\¬P.X.cm/\P.N zz m i w'):=by
 refine(VI h (CP.at_ H _) H.rd (H.src i _ zz) hi O).mono ?_;rintro e w' (⟨t,J,he,hw⟩|⟨he,I,hw⟩)
 ·rw[CP.AE9 H]at hw;exact .inl ⟨t,J,he,hw⟩
 ·rw[CP.AE9 H]at hw;exact .inr ⟨he,I,hw⟩
theorem CP.A.end_(H:P.Ok)(h:P.A zz m i W)(hi:i=P.l.length):
  Calls AP 48 #[AI P.x] W λe w'=>e=AH (AM #[DS Cu,false,()])/\P.A zz m i w':=
 ZS h (CP.at_ H _) H.rd hi
theorem CP.B.how(O:P.Ok)(h:P.B zz m i W){t}(I:P.l[i]?=AE t):
  Calls AP P.fH (#[DS t]++P.caps) W λe w'=>∃H b,e=AH (AM #[DS H,.bool b])/\P.I8 i t=(if b then AE H else AD)/\P.A zz m (i+1) w':=by
 have Q:Wd P.X (P.pre++P.H i++(P.mid++[P.rd (i+1)]++zz)) (m+Cr P.r.h (i+1)) W:=by
  unfold CP.B CP.Z at h;simpa [AR]using h
 refine(O.how.how i _ _ W t I Q).mono ?_;rintro e w' ⟨H,b,he,J,hw⟩;refine⟨H,b,he,J,?_⟩;unfold CP.A CP.Z;simpa [AR]using hw
theorem CP.A.below(h:P.A zz m i W)(hb:Below W W W'):P.A zz m i W':=Wd.below h hb
theorem CP.B.below(h:P.B zz m i W)(hb:Below W W W'):P.B zz m i W':=Wd.below h hb
theorem CP.N.below(h:P.N zz m i W)(hb:Below W W W'):P.N zz m i W':=Wd.below h hb
theorem CP.Ti(e:P.Ok)(a:DA):(P.Z i a).length=P.np+1:=by simp[CP.Z,CP.np,e.how.len];omega
theorem NX{Y zz n b1 b2}{P:CP}{cs}(e:Y.length=n):(Y++(zz++P.bx b1 b2 cs))[n+zz.length]?=AE (Cs b1 175 P.vF)/\(Y++(zz++P.bx b1 b2 cs))[n+zz.length+1]?=AE (Cs b2 47 cs):=by
 subst e;constructor
 ·rw[<-AR,AX a8,AY,Ap];rfl
 ·rw[<-AR,AX (by rw[AY];omega),AY,show Y.length+zz.length+1-(Y.length+zz.length)=1 by omega];rfl
theorem S8{Y zz n b1 b2}{P:CP}{cs JX}(e:Y.length=n):(Y++(zz++P.bx b1 b2 cs)).set (n+zz.length+1) (Cs b2 47 JX)=Y++(zz++P.bx b1 b2 JX):=by
 subst e;rw[<-AR,<-AY,As _ _ a5,show (Y++zz).length+1-(Y++zz).length=1 by omega,AR];rfl
theorem oZ{X Y zz b1 b2 M}{P:CP}{cs}(h:Wd X (Y++(zz++P.bx b1 b2 cs)) M W):Wd X (Y++zz) M W:=by
 have I:Wd X (Y++zz++P.bx b1 b2 cs++[]) M W:=by simpa [AR]using h
 have H:=Wd.Fy _ (λq e=>by simp[CP.bx]at e;rcases e with rfl|rfl<;>exact⟨rfl,rfl⟩) I;simpa using H
theorem YF{X Y zz n b1 b2 M}{P:CP}{cs}(e:Y.length=n)(H:cs.length=5)(h:Wd X (Y++(zz++P.bx b1 b2 cs)) M W)(x0 x1 x2 x3 x4:Value):
  Wd X (Y++(zz++P.bx b1 b2 [x0,x1,x2,x3,x4])) M (((((W.setCell b2 x0).setCell (b2,1) x1).setCell (b2,2) x2).setCell (b2,3) x3).setCell (b2,4) x4):=by
 have O:=Wd.store h (NX e).2 a6 0 x0;rw[S8 e]at O;have J:=O.store (NX e).2 a6 1 x1;rw[S8 e]at J;have I:=J.store (NX e).2 a6 2 x2;rw[S8 e]at I;have h3:=I.store (NX e).2 a6 3 x3;rw[S8 e]at h3;have h4:=h3.store (NX e).2 a6 4 x4;rw[S8 e]at h4
 match cs,H with
 |[c0,c1,c2,c3,c4],_=>exact h4
end
def CP.Res(P:CP)(zz:List DA)(m i:Nat)(e:Ending)(w':World):Prop:=
 (∃t i',e=AH (AM #[DS t,true,()])/\i<i'/\i'<=P.l.length/\outL P.I8 P.l i'=outL P.I8 P.l i++[t]/\P.A zz m i' w')\/
 (e=AH (AM #[DS Cu,false,()])/\outL P.I8 P.l i=outL P.I8 P.l P.l.length/\P.A zz m P.l.length w')\/
 (∃i',e=AH (AM #[DS Cu,false,AA AB 6])/\¬P.X.cm/\P.N zz m i' w')
theorem iR{P:CP}{W i m zz}(hP:P.Ok)(h:P.A zz m i W)(hi:i<=P.l.length)(hn:P.X.N+m+Cr P.r.h P.l.length+1<=1000000):
  Calls AP 114 #[.agg P.vF.toArray] W (P.Res zz m i):=by
 obtain⟨fH,aa⟩:=ae P.fH;obtain⟨H,nT⟩:=ae P.caps;obtain⟨x,hx⟩:=ae P.x;obtain⟨n,Z9⟩:=ae P.l.length;obtain⟨W2,G9⟩:=ae ((W.alloc (AK #[.func (.func 48) #[AI x] #[],.func (.func fH) #[] H] 175)).alloc (AK #[(),(),(),(),()] 47));have zB:P.vF=[.func (.func 48) #[AI x] #[],.func (.func fH) #[] H]:=by rw[aa,nT,hx];rfl
 have DV:Below W W (W.alloc (AK #[.func (.func 48) #[AI x] #[],.func (.func fH) #[] H] 175)):=(AS _ _).alloc ao _;have ER:Row (W.alloc (AK #[.func (.func 48) #[AI x] #[],.func (.func fH) #[] H] 175)) W 175 P.vF:=by rw[zB];exact heap_alloc_new _ _
 have h1:=Wd.new h DV ER ao;have DN:=(AS (W.alloc (AK #[.func (.func 48) #[AI x] #[],.func (.func fH) #[] H] 175)).heap.size (W.alloc (AK #[.func (.func 48) #[AI x] #[],.func (.func fH) #[] H] 175))).alloc ao (AK #[(),(),(),(),()] 47);have U:=h1.new DN (heap_alloc_new _ _:Row _ _ 47 Z5) ao;rw[<-G9]at U;have Js:(W.alloc (AK #[.func (.func 48) #[AI x] #[],.func (.func fH) #[] H] 175)).heap.size=W+1:=a8;rw[Js]at U;have RP:Hid (P.A (zz++P.bx W (W+1) Z5) m i W2):=by
  unfold Hid CP.A;simpa [AR,CP.bx]using U
 have aY:=hP.how.ent;rw[<-aa]at aY;have Tf:Hid (∀i w,i<n->P.A (zz++P.bx W (W+1) Z5) m i w->Calls AP 48 #[AI x] w λe w'=>
   (∃t,P.l[i]?=AE t/\e=AH (AM #[DS t,true,()])/\P.B (zz++P.bx W.heap.size (W.heap.size+1) Z5) m i w')\/(e=AH (AM #[DS Cu,false,AA AB 6])/\¬P.X.cm/\P.N (zz++P.bx W.heap.size (W.heap.size+1) Z5) m i w')):=λi w hi h=>by rw[hx];exact h.next hP (by rw[<-Z9];exact hi) hn
 have aH:Hid (∀w,P.A (zz++P.bx W (W+1) Z5) m n w->Calls AP 48 #[AI x] w λe w'=>e=AH (AM #[DS Cu,false,()])/\P.A (zz++P.bx W (W+1) Z5) m n w'):=λw h=>by rw[hx];exact h.end_ hP Z9
 have aJ:Hid (∀i w t,P.l[i]?=AE t->P.B (zz++P.bx W.heap.size (W.heap.size+1) Z5) m i w->Calls AP fH (#[DS t]++H) w λe w'=>∃I b,e=AH (AM #[DS I,.bool b])/\P.I8 i t=(if b then AE I else AD)/\P.A (zz++P.bx W.heap.size (W.heap.size+1) Z5) m (i+1) w'):=λi w t ht h=>by rw[aa,nT];exact h.how hP ht
 have pI:Hid (∀i w,P.A (zz++P.bx W (W+1) Z5) m i w->Row w W 175 [.func (.func 48) #[AI x] #[],.func (.func fH) #[] H]/\Row w (W+1) 47 Z5):=λi w h=>by
  have q:=NX (Y:=P.Z i (P.rd i)) (zz:=zz) (b1:=W) (b2:=W+1) (P:=P) (cs:=Z5) (CP.Ti hP _);have q1:=Wd.row h q.1;have q2:=Wd.row h q.2;rw[zB]at q1;exact⟨q1,q2⟩
 have dQ:Hid (∀i w,P.B (zz++P.bx W (W+1) Z5) m i w->Row w W 175 [.func (.func 48) #[AI x] #[],.func (.func fH) #[] H]):=λi w h=>by
  have q:=NX (Y:=P.Z i (P.rd (i+1))) (zz:=zz) (b1:=W) (b2:=W+1) (P:=P) (cs:=Z5) (CP.Ti hP _);have q1:=Wd.row h q.1;rw[zB]at q1;exact q1
 have aG:Hid (∀i w,P.N (zz++P.bx W (W+1) Z5) m i w->Row w (W+1) 47 Z5):=λi w h=>by
  have q:=NX (Y:=P.Z i (Nr P.X.p P.x (rat P.r i))) (zz:=zz) (b1:=W) (b2:=W+1) (P:=P) (cs:=Z5) (CP.Ti hP _);exact Wd.row h q.2
 have av:Hid (∀i w x0 x1 x2 x3 x4,P.A (zz++P.bx W.heap.size (W.heap.size+1) Z5) m i w->Row (((((w.setCell ⟨W.heap.size+1,0,AD⟩ x0).setCell ⟨W.heap.size+1,1,AD⟩ x1).setCell ⟨W.heap.size+1,2,AD⟩ x2).setCell ⟨W.heap.size+1,3,AD⟩ x3).setCell ⟨W.heap.size+1,4,AD⟩ x4) (W.heap.size+1) 47 [x0,x1,x2,x3,x4]/\P.A zz m i (((((w.setCell ⟨W.heap.size+1,0,AD⟩ x0).setCell ⟨W.heap.size+1,1,AD⟩ x1).setCell ⟨W.heap.size+1,2,AD⟩ x2).setCell ⟨W.heap.size+1,3,AD⟩ x3).setCell ⟨W.heap.size+1,4,AD⟩ x4)):=λi w x0 x1 x2 x3 x4 h=>by
  have q:=YF (CP.Ti hP (P.rd i)) rfl h x0 x1 x2 x3 x4;exact⟨q.row (NX (CP.Ti hP _)).2,oZ q⟩
 have aF:Hid (∀i w x0 x1 x2 x3 x4,P.N (zz++P.bx W.heap.size (W.heap.size+1) Z5) m i w->Row (((((w.setCell ⟨W.heap.size+1,0,AD⟩ x0).setCell ⟨W.heap.size+1,1,AD⟩ x1).setCell ⟨W.heap.size+1,2,AD⟩ x2).setCell ⟨W.heap.size+1,3,AD⟩ x3).setCell ⟨W.heap.size+1,4,AD⟩ x4) (W.heap.size+1) 47 [x0,x1,x2,x3,x4]/\P.N zz m i (((((w.setCell ⟨W.heap.size+1,0,AD⟩ x0).setCell ⟨W.heap.size+1,1,AD⟩ x1).setCell ⟨W.heap.size+1,2,AD⟩ x2).setCell ⟨W.heap.size+1,3,AD⟩ x3).setCell ⟨W.heap.size+1,4,AD⟩ x4)):=λi w x0 x1 x2 x3 x4 h=>by
  have q:=YF (CP.Ti hP (Nr P.X.p P.x (rat P.r i))) rfl h x0 x1 x2 x3 x4;exact⟨q.row (NX (CP.Ti hP _)).2,oZ q⟩
 have aB:Hid (∀i w w',P.A (zz++P.bx W (W+1) Z5) m i w->Below w w w'->P.A (zz++P.bx W (W+1) Z5) m i w'):=λi w w' h hb=>h.below hb;have qc:Hid (∀i w w',P.B (zz++P.bx W (W+1) Z5) m i w->Below w w w'->P.B (zz++P.bx W (W+1) Z5) m i w'):=λi w w' h hb=>h.below hb;have aK:Hid (∀i w w',P.N (zz++P.bx W (W+1) Z5) m i w->Below w w w'->P.N (zz++P.bx W (W+1) Z5) m i w'):=λi w w' h hb=>h.below hb;have YT:Hid (∀Q t w,i<Q->Q<=n->outL P.I8 P.l Q=outL P.I8 P.l i++[t]->P.A zz m Q w->P.Res zz m i (AH (AM #[DS t,true,()])) w):=λQ t w k1 k2 k3 k4=>.inl ⟨t,Q,rfl,k1,by rw[<-Z9];exact k2,k3,k4⟩;have PI:Hid (∀w,outL P.I8 P.l n=outL P.I8 P.l i->P.A zz m n w->P.Res zz m i (AH (AM #[DS Cu,false,()])) w):=λw k1 k2=>.inr (.inl ⟨rfl,by rw[<-k1,Z9],by rw[<-Z9];exact k2⟩);have pV:Hid (∀Q w,¬P.X.cm->P.N zz m Q w->P.Res zz m i (AH (AM #[DS Cu,false,AA AB 6])) w):=λQ w k1 k2=>.inr (.inr ⟨Q,rfl,k1,k2⟩);have Gv:Hid (∀Q t,P.l[Q]?=AE t->outL P.I8 P.l (Q+1)=outL P.I8 P.l Q++(P.I8 Q t).toList):=λQ t ht=>fO ht;have aE:i<=n:=by rw[Z9];exact hi
 rw[zB];generalize P.Res zz m i=Dd at*
 generalize P.A (zz++P.bx W.heap.size (W.heap.size+1) Z5) m=A at*
 generalize P.B (zz++P.bx W.heap.size (W.heap.size+1) Z5) m=B at*
 generalize P.N (zz++P.bx W.heap.size (W.heap.size+1) Z5) m=N at*
 generalize P.A zz m=A9 at*
 generalize P.N zz m=N9 at*
 generalize P.I8=I8 at*
 generalize P.l=l at*
 generalize outL I8 l=OL at*
 generalize P.X.cm=cm at*
 have KU:=AO G9;have HZ:Hid (W2.heap.size=W.heap.size+2):=by unfold Hid;rw[G9];simp
 clear zB DV ER h1 DN U Js G9 h hP hn aa nT hx Z9 hi;go_enter func114,ntmps114
 go_wp2_with fail
 rw[<-KU.out];obtain⟨J,hJ⟩:∃J:Nat->World->Prop,∀q w,J q w↔∃k,i<=k/\k<=n/\q=n-k/\OL k=OL i/\A k w:=⟨_,λ_ _=>BN⟩;have yF:=AO hJ;clear hJ KU;generalize hs0:W.heap.size=s0 at*
 go_loopw [3,4] (λ_ _ wr=>∃q:Nat,Hid (J q wr)) (λ_ _ wr=>Hg λq=>J q wr)
 case atStart=>exact⟨n-i,(yF.out _ _).2 ⟨i,AQ _,aE,rfl,rfl,RP.out⟩⟩
 case round=>
  obtain⟨q,hq⟩:=hrel;obtain⟨k,k1,k2,k3,k4,k5⟩:=(yF.out _ _).1 (Fe (P:=λq=>J q wr) hq.out).1;have aI:=AO k3;have ab:=AO k4;have aA:=AO k5;have Ja:=AO (pI.out k wr k5);clear hq k3 k4 k5;have c0:wr.cell? s0=AE (.func (.func 48) #[AI x] #[]):=Ja.out.1.cell 0;by_cases aD:k<n
  ·have vP:=AO (Tf.out k wr aD aA.out);go_wp2_with fail
   refine vP.out.mono ?_;rintro e w2 (⟨t,ht,rfl,U⟩|⟨rfl,ar,U⟩)
   ·have HT:=AO ht;have Ei:=AO (qc.out k w2 _ U ((AS w2 w2).alloc ao (AK #[t.a,t.b,t.c,t.d,t.e] 47)));have GL:Row (w2.alloc (AK #[t.a,t.b,t.c,t.d,t.e] 47)) w2 47 [t.a,t.b,t.c,t.d,t.e]:=heap_alloc_new _ _;have IE:=AO GL;clear U GL ht c0;unfold DS;go_upto_region 4 with(fail)
    generalize w2.alloc (AK #[t.a,t.b,t.c,t.d,t.e] 47)=w3 at*
    generalize w2.heap.size=bt at*
    have HH:=AO (aJ.out k w3 t HT.out Ei.out);unfold DS at HH;have Gb:=AO (dQ.out k w3 Ei.out);obtain⟨d0,d1,d2,d3,d4⟩:=IE.out.q5;have c1:w3.cell? (s0,1)=AE (.func (.func fH) #[] H):=Gb.out.cell 1;go_wp2_with fail
    refine HH.out.mono ?_;rintro e w4 ⟨I,b,rfl,hc,h4⟩;have ad:=Gv.out k t HT.out;rw[hc]at ad;have al:=AO ad;have jJ:=AO (aB.out (k+1) w4 _ h4 ((AS w4 w4).alloc ao (AK #[I.a,I.b,I.c,I.d,I.e] 47)));have GL:Row (w4.alloc (AK #[I.a,I.b,I.c,I.d,I.e] 47)) w4 47 [I.a,I.b,I.c,I.d,I.e]:=heap_alloc_new _ _;have aX:=AO GL;clear h4 GL ad hc d0 d1 d2 d3 d4 c1;rcases b with _| _
    ·go_wp2
     go_roundw
     case rel=>exact⟨n-(k+1),(yF.out _ _).2 ⟨k+1,a5,a5,rfl,by rw[al.out,ab.out];simp,jJ.out⟩⟩
     case measure=>
      refine Ce (Fe (P:=λq=>J q _) (n:=n-(k+1)) ((yF.out _ _).2 ⟨k+1,a5,a5,rfl,by rw[al.out,ab.out];simp,jJ.out⟩)).2 ?_;rw[aI.out];omega
    ·go_upto_region 5 with(fail)
     generalize w4.alloc (AK #[I.a,I.b,I.c,I.d,I.e] 47)=w5 at*
     generalize w4.heap.size=bu at*
     obtain⟨d0,d1,d2,d3,d4⟩:=aX.out.q5;have IB:=AO (pI.out (k+1) w5 jJ.out);obtain⟨z0,z1,z2,z3,z4⟩:=IB.out.2.q5;obtain⟨f0,f1,f2,f3,f4⟩:=IB.out.2.r5;have O:=AO (av.out (k+1) w5 I.a I.b I.c I.d I.e jJ.out);go_wp2
     have r0:=O.out.1.cell 0;have r1:=O.out.1.cell 1;have r2:=O.out.1.cell 2;have r3:=O.out.1.cell 3;have r4:=O.out.1.cell 4;simp only[AW,AV]at r0 r1 r2 r3 r4;refine Aw (v:=AM #[DS I,true,()]) (by unfold DS;simp[results,Tryz.results114,go_sem,r0,r1,r2,r3,r4]) rfl ?_;exact YT.out (k+1) I _ a5 a5 (by rw[al.out,ab.out];rfl) O.out.2
   ·have Nh:=AO ar;have aw:=AO (aK.out k w2 _ U ((AS w2 w2).alloc ao (AK #[(),(),(),(),()] 47)));clear U ar c0;unfold DS Cu;go_upto_region 2 with(fail)
    generalize w2.alloc (AK #[(),(),(),(),()] 47)=w3 at*
    generalize w2.heap.size=bu at*
    have IB:=AO (aG.out k w3 aw.out);obtain⟨z0,z1,z2,z3,z4⟩:=IB.out.q5;obtain⟨f0,f1,f2,f3,f4⟩:=IB.out.r5;have O:=AO (aF.out k w3 () () () () () aw.out);go_wp2
    have r0:=O.out.1.cell 0;have r1:=O.out.1.cell 1;have r2:=O.out.1.cell 2;have r3:=O.out.1.cell 3;have r4:=O.out.1.cell 4;simp only[AW,AV]at r0 r1 r2 r3 r4;refine Aw (v:=AM #[DS Cu,false,AA AB 6]) (by unfold DS Cu;simp[results,Tryz.results114,go_sem,r0,r1,r2,r3,r4]) rfl ?_;exact pV.out k _ Nh.out O.out.2
  ·obtain rfl:k=n:=a5;have vP:=AO (aH.out wr aA.out);go_wp2_with fail
   refine vP.out.mono ?_;rintro e w2 ⟨rfl,U⟩;have aC:=AO (aB.out k w2 _ U ((AS w2 w2).alloc ao (AK #[(),(),(),(),()] 47)));clear U c0;unfold DS Cu;go_upto_region 2 with(fail)
   generalize w2.alloc (AK #[(),(),(),(),()] 47)=w3 at*
   generalize w2.heap.size=bu at*
   have IB:=AO (pI.out k w3 aC.out);obtain⟨z0,z1,z2,z3,z4⟩:=IB.out.2.q5;obtain⟨f0,f1,f2,f3,f4⟩:=IB.out.2.r5;have O:=AO (av.out k w3 () () () () () aC.out);go_wp2
   have r0:=O.out.1.cell 0;have r1:=O.out.1.cell 1;have r2:=O.out.1.cell 2;have r3:=O.out.1.cell 3;have r4:=O.out.1.cell 4;simp only[AW,AV]at r0 r1 r2 r3 r4;refine Aw (v:=AM #[DS Cu,false,()]) (by unfold DS Cu;simp[results,Tryz.results114,go_sem,r0,r1,r2,r3,r4]) rfl ?_;exact PI.out _ ab.out O.out.2
theorem Wn{A}{n c first nb k count:Nat}{l W}(ho:W.ownsRow 0 100 2 (AJ A n c) n (Cw l))(hn:n<=1000000)(hb:∀i,i<n->(DZ l i).1+(DZ l i).2<=3000000)(hf:first<=3000000/\nb<=3000000)(O:∀i,i<n->∀z,(DZ l i).1<=z->z<(DZ l i).1+(DZ l i).2->¬(first<=z/\z<first+nb)):
  Calls AP 144 #[AJ A n c,AL #[first,nb,k,count]] W λe w'=>e=AH (AJ AD 0 0)/\Below W W w':=by
 obtain⟨W1,EB⟩:=ae (W.alloc (AK #[first,nb,k,count] 28));have DV:Below W W W1:=by rw[EB];exact(AS _ _).alloc ao _
 have ER:Row W1 W 28 [first,nb,k,count]:=by rw[EB];exact heap_alloc_new _ _
 have Jr:Hid (∀w,Below W1 W1 w->w.cell? W=AE (AA AB first)/\w.cell? (W,1)=AE (AA AB nb)):=λw hb=>by
  have h9:=ER.below hb ER.lt;exact⟨h9.cell 0,h9.cell 1⟩
 have HX:Hid (∀w i,Below W1.heap.size W1 w->i<n->∃g,A=AE ⟨g,0,AD⟩/\g<w.heap.size/\w.cell? ⟨g,i*2,AD⟩=AE (AA AB (DZ l i).1)/\w.cell? ⟨g,i*2+1,AD⟩=AE (AA AB (DZ l i).2)):=λw i hb hi=>by
  exact IK (Dw ho (DV.trans (hb.mono DV.size))) hi
 have IC:Hid (∀w,Below W1 W1 w->Below W W w):=λw hb=>DV.trans (hb.mono DV.size);have HB:=AO hb;have Nh:=AO O;have E0:=AO EB;generalize Vk:W.heap.size=s0 at*
 clear EB DV ER hb O ho;go_enter func144,ntmps144
 go_upto_region 1 with(fail)
 rw[<-E0.out];clear E0;go_wp2_with fail
 go_loopw [5,12] (λlv iv wr=>lv=AJ AD 0 0/\∃i:Nat,i<=n/\iv=AA AB (i:Int)/\Hid (Below W1.heap.size W1 wr)) (λ_ iv _=>n-(BF iv).toNat)
 case atStart=>exact⟨rfl,0,Aq _,rfl,AS _ _⟩
 case round=>
  obtain⟨rfl,i,hi,rfl,U⟩:=hrel;by_cases H:i<n
  ·have g0:decide ((i:Int)<(n:Int))=true:=by simpa using H
   have FM:(0:Int)<=(i:Int):=a5;have cS:(i:Int)<(n:Int):=a5;obtain⟨g,rfl,hg,q0,q1⟩:=HX.out wr i U.out H;have hs:=HB.out i H;have hq:=Nh.out i H;generalize(DZ l i).1=x1 at*
   generalize(DZ l i).2=x2 at*
   obtain⟨w3,Q⟩:=ae (wr.alloc (AK #[x1,x2] 100));have D9:Below wr wr w3:=by rw[Q];exact(AS _ _).alloc ao _
   have FK:Row w3 wr 100 [x1,x2]:=by rw[Q];exact heap_alloc_new _ _
   have Ei:=AO (U.out.trans (D9.mono U.out.size));have Qi:=AO (Ei.out.trans (Cy (AS W1.heap.size w3) 1));rw[show w3.drewN 1=w3.drew from rfl]at Qi;have⟨c0,c1⟩:=Jr.out _ Qi.out;have c2:w3.drew.cell? ⟨wr.heap.size,0,AD⟩=AE (AA AB x1):=FK.cell 0;have c3:w3.drew.cell? ⟨wr.heap.size,1,AD⟩=AE (AA AB x2):=FK.cell 1;obtain⟨u,hu⟩:=ae (x1+x2);obtain⟨v,hv⟩:=ae (first+nb);obtain⟨I,hh⟩:=ae (max x1 first);obtain⟨J,aa⟩:=ae (min u v);have ab:¬I<J:=λhc=>hq I a5 a5 ⟨a5,a5⟩;have s1:(x1:Int)+(x2:Int)=(u:Int):=a5;have s2:(first:Int)+(nb:Int)=(v:Int):=a5;have m1:(if x1<first then (first:Int)else (x1:Int))=(I:Int):=by split<;>omega
   have m2:(if v<u then (v:Int)else (u:Int))=(J:Int):=by split<;>omega
   have g9:decide ((I:Int)<(J:Int))=false:=by simp;omega
   have w1:Aa.wrap (u:Int)=(u:Int):=Ah _ a5;have w2:Aa.wrap (v:Int)=(v:Int):=Ah _ a5;have Jy:=AO Q;clear Q D9 FK hs hq hu hv hh aa;go_upto_region 5 with(fail)
   rw[<-Jy.out];go_region_held3 (λw=>w.cell? s0=AE (AA AB first)/\w.cell? (s0,1)=AE (AA AB nb)/\w.cell? wr.heap.size=AE (AA AB x1)/\w.cell? (wr.heap.size,1)=AE (AA AB x2)) (with_reducible exact⟨c0,c1,c2,c3⟩) (fail)
   all_goals
    clear c0 c1 c2 c3 s1 s2 m1 m2 w1 w2;go_wp2
    go_roundw
    case rel=>exact⟨rfl,i+1,a5,by go_num,Qi.out⟩
    case measure=>simp[BF];omega
  ·obtain rfl:i=n:=a5;have g0:decide ((i:Int)<(i:Int))=false:=a8;go_wp2
   go_ret
   exact⟨rfl,IC.out _ U.out⟩
section
variable{X:Cx}{os:List DA}{m:Nat}{W:World}
theorem Y5(h:Wd X os m W):Calls AP 145 #[AI X.p.s] W λe w'=>∃A n c l,e=AH (AJ A n c)/\w'.ownsRow 0 100 2 (AJ A n c) n (Cw l)/\n<=1000000/\
  (∀i,i<n->(DZ l i).1+(DZ l i).2<=3000000)/\(∀i,i<n->∀z,(DZ l i).1<=z->z<(DZ l i).1+(DZ l i).2->∀(j:Nat) (a:DA),os[j]?=AE a->¬I2 a.ex z)/\Below W W w':=by
 obtain⟨G,D,A,S,hF⟩:=h;obtain⟨Gd,Ga,Gs,hr,hd,ha,Q,_⟩:=hF.sys;have J:S.ok:=Q.1;refine(X6 X.p.s S Gs W Q).mono ?_;rintro e w' ⟨v',rfl,ho,hb⟩;have H:w'.ownsRow 0 100 2 v' S.fr.length (Cw S.fr):=by
  obtain⟨O,I⟩:=ho;refine⟨O,?_⟩;rcases I with I|⟨g,cap,cur,rfl,hg,r⟩
  ·exact .inl I
  ·exact .inr ⟨g,cap,cur,rfl,Aq _,r⟩
 obtain⟨A',c,rfl,_,_,_⟩:=DI H;refine⟨A',_,c,S.fr,rfl,H,J.len,λi hi=>?_,λi hi z O I j a hj U=>?_,hb⟩
 ·have:=(J.2.2.getD hi).2.2;have:=J.1;have:=J.2.1;omega
 ·exact((hF.free z).1 ⟨DZ S.fr i,RH hi,O,I⟩).2 j a hj U
def dM(os:List DA)(W:World)(rb nr:Nat):Prop:=∀i,i<nr->∃f n k c:Nat,(W.cell? (rb,i*4)=AE (AA AB f)/\W.cell? (rb,i*4+1)=AE (AA AB n)/\W.cell? (rb,i*4+2)=AE (AA AB k)/\W.cell? (rb,i*4+3)=AE (AA AB c))/\f<=3000000/\n<=3000000/\(n=0\/∃(j:Nat) (a:DA),os[j]?=AE a/\a.ex=(f,n))
theorem dm{k rb nr cr c0:Nat}(h:Wd X os m W)(Xn:0<Ct X.sz k)(hc:c0<=100000)(I:X.sz+DC DA.gw os<=X.rm)(O:0<nr/\nr<=10)(H:rb<W)(Jw:W.cell? (rb,3)=AE (AA AB c0))(aa:dM os W rb nr):
  Calls AP 132 #[AI X.p.w,k,AJ rb nr cr] W λe w'=>
   (e=AH (AM #[AI AD,AA AB 5])/\(∀q,¬Rm X os q (Cr (Ct X.sz k) c0))/\Wd X os m w')\/
   (∃x t,e=AH (AM #[AI (AE ⟨x,0,AD⟩),()])/\t.k=k/\t.h=Ct X.sz k/\t.bound=c0/\t.l=[]/\Ep t X.sz/\Wd X (os++[I1 X.p x t X.sz]) m w'):=by
 have V5:Hid (∀w,Below W W w->Calls AP 42 #[AI X.p.w] w λe w'=>e=AH (AI X.p.s)/\w'=w):=λw hb=>Nl (h.below hb);have aD:Hid (∀w,Below W W w->Calls AP 145 #[AI X.p.s] w λe w'=>∃A n c l,e=AH (AJ A n c)/\w'.ownsRow 0 100 2 (AJ A n c) n (Cw l)/\n<=1000000/\
  (∀i,i<n->(DZ l i).1+(DZ l i).2<=3000000)/\(∀i,i<n->∀z,(DZ l i).1<=z->z<(DZ l i).1+(DZ l i).2->∀(j:Nat) (a:DA),os[j]?=AE a->¬I2 a.ex z)/\Below w.heap.size w w'):=λw hb=>Y5 (h.below hb)
 have Ty:Hid (∀w,Below W W w->Calls AP 28 #[AI X.p.w,k,c0] w λe w'=>
   (e=AH (AM #[AI AD,AA AB 5])/\(∀q,¬Rm X os q (Cr (Ct X.sz k) c0))/\Wd X os m w')\/
   (∃x t,e=AH (AM #[AI (AE ⟨x,0,AD⟩),AA AB 0])/\t.k=k/\t.h=Ct X.sz k/\t.bound=c0/\t.l=[]/\Ep t X.sz/\Wd X (os++[I1 X.p x t X.sz]) m w')):=λw hb=>ON (h.below hb) k c0 Xn hc I
 have LJ:Hid (∀w,Below W W w->dM os w rb nr):=λw hb i hi=>by
  obtain⟨f,n,k,c,⟨h0,h1,h2,h3⟩,hr⟩:=aa i hi;exact⟨f,n,k,c,⟨(hb.cell H).trans h0,(hb.cell H).trans h1,(hb.cell H).trans h2,(hb.cell H).trans h3⟩,hr⟩
 have aE:Hid (∀w,Below W W w->w.cell? (rb,3)=AE (AA AB c0)):=λw hb=>(hb.cell H).trans Jw;have dQ:=AO H;have vO:=AO O;have aI:nr<=10:=O.2;have Lr:(if 100000000<c0 then (100000000:Int)else (c0:Int))=(c0:Int):=by rw[if_neg a5]
 clear h Xn I H Jw aa O;generalize Gr:(λ(e:Ending) (w':World)=>(e=AH (AM #[AI AD,AA AB 5])/\(∀q,¬Rm X os q (Cr (Ct X.sz k) c0))/\Wd X os m w')\/
   (∃x t,e=AH (AM #[AI (AE ⟨x,0,AD⟩),AA AB 0])/\t.k=k/\t.h=Ct X.sz k/\t.bound=c0/\t.l=[]/\Ep t X.sz/\Wd X (os++[I1 X.p x t X.sz]) m w'))=Dd at*
 replace Gr:=AO Gr;go_enter_defers func132,ntmps132
 go_wp2_with fail
 go_loopw [14] (λiv wr=>∃i:Nat,i<=nr/\iv=AA AB (i:Int)/\Hid (Below W.heap.size W wr)) (λiv _=>nr-(BF iv).toNat)
 case atStart=>exact⟨0,Aq _,rfl,AS _ _⟩
 case round=>
  obtain⟨i,hi,rfl,U⟩:=hrel;by_cases ad:i<nr
  ·have g0:decide ((i:Int)<(nr:Int))=true:=by simpa using ad
   have FM:(0:Int)<=(i:Int):=a5;have cS:(i:Int)<(nr:Int):=a5;obtain⟨f,n,J,c2,⟨q0,q1,q2,q3⟩,Kq,Gl,ab⟩:=LJ.out wr U.out i ad;have aG:rb<wr:=by have:=dQ.out;have:=U.out.size;omega
   obtain⟨w3,UJ⟩:=ae (wr.alloc (AK #[f,n,J,c2] 28));have D9:Below wr wr w3:=by rw[UJ];exact(AS _ _).alloc ao _
   have FK:Row w3 wr 28 [f,n,J,c2]:=by rw[UJ];exact heap_alloc_new _ _
   have Ei:=AO (U.out.trans (D9.mono U.out.size));have Qi:=AO (Ei.out.trans ((Cy (AS w3 w3) 1).mono Ei.out.size));rw[show w3.drewN 1=w3.drew from rfl]at Qi;have jG:Hid (∀w,Below w3 w3 w->w.cell? wr=AE (AA AB f)/\w.cell? (wr,1)=AE (AA AB n)/\w.cell? (wr,2)=AE (AA AB J)/\w.cell? (wr,3)=AE (AA AB c2)):=λw hb=>by
    have Q:=FK.below hb FK.lt;exact⟨Q.cell 0,Q.cell 1,Q.cell 2,Q.cell 3⟩
   have c0:=jG.out w3.drew (Cy (AS w3 w3) 1);have aC:Hid (∀(A:Option Addr) (N c:Nat) (l:List Ex) (w:World),w.ownsRow 0 100 2 (AJ A N c) N (Cw l)->N<=1000000->(∀i,i<N->(DZ l i).1+(DZ l i).2<=3000000)->(∀i,i<N->∀z,(DZ l i).1<=z->z<(DZ l i).1+(DZ l i).2->∀(j:Nat) (a:DA),os[j]?=AE a->¬I2 a.ex z)->
     Calls AP 144 #[AJ A N c,AL #[f,n,J,c2]] w λe w'=>e=AH (AJ AD 0 0)/\Below w.heap.size w w'):=λA N c l w h1 h2 h3 h4=>by
    refine Wn h1 h2 h3 ⟨Kq,Gl⟩ λi hi z k1 J ⟨k3,k4⟩=>?_;rcases ab with h0|⟨j,a,hj,ha⟩
    ·omega
    ·exact h4 i hi z k1 J j a hj (by rw[ha];exact⟨k3,k4⟩)
   have Jy:=AO UJ;clear UJ D9 FK ab;go_upto_region 4 with(fail)
   rw[<-Jy.out];go_region_held3 (λw=>w.cell? wr.heap.size=AE (AA AB f)/\w.cell? (wr.heap.size,1)=AE (AA AB n)/\w.cell? (wr.heap.size,2)=AE (AA AB J)/\w.cell? (wr.heap.size,3)=AE (AA AB c2)) (first|with_reducible exact c0|with_reducible exact q5|with_reducible exact q6)
    (first
     |(go_at_call 42;(with_reducible refine(V5.out _ Qi.out).mono ?_);rintro e w4 ⟨rfl,rfl⟩)
     |(go_at_call 145;(with_reducible refine(aD.out _ Qi.out).mono ?_);rintro e w5 ⟨A5,n5,aH,l5,rfl,aB,aA,aw,av,ar⟩;have FU:Below w3.heap.size w3 w5:=(Cy (AS w3.heap.size w3) 1).trans ar;have q5:=jG.out w5 FU)
     |(go_at_call 144;(with_reducible refine(aC.out _ _ _ _ _ aB aA aw av).mono ?_);rintro e w6 ⟨rfl,al⟩;have RF:Below w3.heap.size w3 w6:=FU.trans (al.mono FU.size);have q6:=jG.out w6 RF))
   all_goals
    have JO:=AO (Ei.out.trans (RF.mono Ei.out.size));clear c0 q5 q6 aB aA aw av ar al FU RF;go_wp2_with fail
    go_loopw [24] (λjv wq=>jv=AA AB 0/\Hid (Below W.heap.size W wq)) (λ_ _=>0)
    case atStart=>exact⟨rfl,JO.out⟩
    case round=>
     obtain⟨rfl,aF⟩:=hrel;go_wp2
     go_roundw
     case rel=>exact⟨i+1,a5,by go_num,aF.out⟩
     case measure=>simp[BF];omega
  ·obtain rfl:i=nr:=a5;have g0:decide ((i:Int)<(i:Int))=false:=a8;have q3:=aE.out wr U.out;have aG:rb<wr:=by have:=dQ.out;have:=U.out.size;omega
   have De:(0:Int)<(i:Int):=by have:=vO.out;omega
   have HW:=AO (Ty.out wr U.out);go_wp2_with fail
   refine HW.out.mono ?_;rintro e w9 Q;rw[<-Gr.out]at Q;rcases Q with⟨rfl,hno,hw⟩|⟨x,t,rfl,e1,e2,e3,e4,e5,hw⟩
   ·have H9:=AO (show Dd (AH (AM #[AI AD,AA AB 5])) w9 by rw[<-Gr.out];exact .inl ⟨rfl,hno,hw⟩);clear hno hw;go_wp2
    exact⟨AM #[AI AD,AA AB 5],by simp[results,Tryz.results132,go_sem],H9.out⟩
   ·have H9:=AO (show Dd (AH (AM #[AI x,()])) w9 by rw[<-Gr.out];exact .inr ⟨x,t,rfl,e1,e2,e3,e4,e5,hw⟩);clear hw e1 e2 e3 e4 e5;go_wp2
    exact⟨AM #[AI x,()],by simp[results,Tryz.results132,go_sem],H9.out⟩
end
def ot(fN:Nat)(vF:Value)(J:Nat->World->Prop)(Jm:Cv->Nat->World->Prop)(E:World->Prop)(Er:Nat->World->Prop):Prop:=
 ∀n w,J n w->Calls AP fN #[vF] w λe w'=>
  (∃t n',e=AH (AM #[DS t,true,()])/\n'<n/\Jm t n' w')\/
  (e=AH (AM #[DS Cu,false,()])/\E w')\/(∃er:Nat,e=AH (AM #[DS Cu,false,er])/\0<er/\Er er w')
def xh(fP:Nat)(vT:Value)(J:Nat->World->Prop)(Jm:Cv->Nat->World->Prop)(Er:Nat->World->Prop):Prop:=
 ∀t n w,Jm t n w->Calls AP fP #[vT,DS t] w λe w'=>(e=AH ()/\J n w')\/(∃er:Nat,e=AH er/\0<er/\Er er w')
theorem gA{fN fP n:Nat}{vF vT J Jm E Er W}
  (eN:∀args w,Br AP (callFunc fN args) w=.ok (.enter fN args) w)(eP:∀args w,Br AP (callFunc fP args) w=.ok (.enter fP args) w)
  (hN:ot fN vF J Jm E Er)(hP:xh fP vT J Jm Er)
  (O:∀t n w w',Jm t n w->Below w w w'->Jm t n w')(bE:∀w w',E w->Below w w w'->E w')(Q:∀er w w',Er er w->Below w w w'->Er er w')
  (h:J n W):Calls AP 133 #[.func (.func fN) #[vF] #[],.func (.func fP) #[vT] #[]] W λe w'=>(e=AH ()/\E w')\/(∃er:Nat,e=AH er/\0<er/\Er er w'):=by
 have HN:=AO hN;have HP:=AO hP;have BJ:=AO O;have BE:=AO bE;have BR:=AO Q;have H:=AO h;clear hN hP O bE Q h;go_enter func133,ntmps133
 go_wp2_with fail
 go_loopw [4] (λ_ wr=>∃k:Nat,Hid (J k wr)) (λ_ wr=>Hg λk=>J k wr)
 case atStart=>exact⟨n,H⟩
 case round=>
  obtain⟨k,hJ⟩:=hrel;have HJ:Hid (J (Hg λk=>J k wr) wr):=(Fe (P:=λk=>J k wr) hJ.out).1;have yB:=AO (HN.out _ wr HJ.out);clear hJ;go_wp2_with fail
  refine yB.out.mono ?_;rintro e w2 (⟨t,n',rfl,wX,I⟩|⟨rfl,I⟩|⟨er,rfl,De,I⟩)
  ·have KV:=AO wX;have Jy:=AO (BJ.out t n' _ _ I ((AS w2 w2).alloc ao (AK #[t.a,t.b,t.c,t.d,t.e] 47)));have GL:Row (w2.alloc (AK #[t.a,t.b,t.c,t.d,t.e] 47)) w2 47 [t.a,t.b,t.c,t.d,t.e]:=heap_alloc_new _ _;have IE:=AO GL;clear I GL wX;unfold DS;go_upto_region 4 with(fail)
   generalize w2.alloc (AK #[t.a,t.b,t.c,t.d,t.e] 47)=w3 at*
   generalize w2.heap.size=bt at*
   have U:=AO (HP.out t n' w3 Jy.out);unfold DS at U;obtain⟨d0,d1,d2,d3,d4⟩:=IE.out.q5;go_wp2_with fail
   refine U.out.mono ?_;rintro e w4 (⟨rfl,h4⟩|⟨er,rfl,De,h4⟩)
   ·have H4:=AO h4;clear h4;go_wp2
    go_roundw
    case rel=>exact⟨n',H4⟩
    case measure=>exact Ce (Fe (P:=λk=>J k w4) H4.out).2 KV.out
   ·have H4:=AO h4;have aa:¬(er:Int)=0:=a5;have T0:=AO De;clear h4 De;go_wp2
    go_ret
    exact .inr ⟨er,rfl,T0.out,H4.out⟩
  ·have H2:=AO I;clear I;unfold DS Cu;go_wp2
   go_ret
   exact .inl ⟨rfl,BE.out _ _ H2.out ((AS _ _).alloc ao _)⟩
  ·have H2:=AO I;have aa:¬(er:Int)=0:=a5;have T0:=AO De;clear I De;unfold DS Cu;go_wp2
   go_ret
   exact .inr ⟨er,rfl,T0.out,BR.out _ _ _ H2.out ((AS _ _).alloc ao _)⟩
structure u7 (X:Cx) (fN:Nat) (vF:Value) {σ:Type} (P:σ->Prop) (Z:σ->List DA) (O:σ->List Cv) (mu c:σ->Nat) (nz:Nat) (Ze:List DA->Prop) (Out:List Cv) (Fin:Prop) (Ju:Nat->Prop) (bd ct k:Nat):Prop where
 ent:∀args w,Br AP (callFunc fN args) w=.ok (.enter fN args) w
 len:∀s,(Z s).length=nz
 out:∀s,P s->(O s).length<=bd/\∀u∈O s,EE u/\Dc k u=true
 cost:∀s,P s->c s<=ct
 zok:∀s,P s->Ze (Z s)
 next:∀s zz m W,P s->Wd X (Z s++zz) (m+c s) W->X.N+m+ct+1<=1000000->Calls AP fN #[vF] W λe w'=>
  (∃t s',e=AH (AM #[DS t,true,()])/\P s'/\mu s'<mu s/\O s'=O s++[t]/\Wd X (Z s'++zz) (m+c s') w')\/
  (∃z',e=AH (AM #[DS Cu,false,()])/\O s=Out/\Fin/\z'.length=nz/\Ze z'/\Wd X (z'++zz) (m+ct) w')\/
  (∃(er:Nat) (z':List DA),e=AH (AM #[DS Cu,false,er])/\0<er/\(Ju er\/er=6/\¬X.cm)/\z'.length=nz/\Ze z'/\Wd X (z'++zz) (m+ct+1) w')
structure KP where
 X:Cx
 nz:Nat
 Ze:List DA->Prop
 Out:List Cv
 Fin:Prop
 Ju:Nat->Prop
 bd:Nat
 ct:Nat
 m:Nat
 x:Nat
 t:Wt
 R:Nat
structure KP.Ok (P:KP):Prop where
 ok:Ep P.t P.X.sz
 bd:P.t.bound=P.bd
 nil:P.t.l=[]
 n:P.X.N+P.m+P.ct+P.bd+2<=1000000
def KP.tl(P:KP)(l:List Cv):Wt:={P.t with l:=l}
def KP.Z(P:KP)(z:List DA)(cs:List Value)(a:DA):List DA:=z++[Cs P.R 28 cs,a]
def KP.Why(P:KP)(er:Nat):Prop:=P.Ju er\/er=6/\¬P.X.cm
def KP.J{σ:Type}(P:KP)(Q:σ->Prop)(Z:σ->List DA)(O:σ->List Cv)(mu c:σ->Nat)(n:Nat)(W:World):Prop:=
 ∃s,Q s/\mu s=n/\Wd P.X (P.Z (Z s) Z4 (I1 P.X.p P.x (P.tl (O s)) P.X.sz)) (P.m+(O s).length/P.t.h+c s) W
def KP.Jm{σ:Type}(P:KP)(Q:σ->Prop)(Z:σ->List DA)(O:σ->List Cv)(mu c:σ->Nat)(t:Cv)(n:Nat)(W:World):Prop:=
 ∃s l,Q s/\mu s=n/\O s=l++[t]/\Wd P.X (P.Z (Z s) Z4 (I1 P.X.p P.x (P.tl l) P.X.sz)) (P.m+l.length/P.t.h+c s) W
def KP.Fit(P:KP):Prop:=P.Out.length<=P.bd/\(∀u∈P.Out,EE u/\Dc P.t.k u=true)/\P.Fin
def KP.E(P:KP)(W:World):Prop:=∃z,z.length=P.nz/\P.Ze z/\P.Fit/\Wd P.X (P.Z z Z4 (I1 P.X.p P.x (P.tl P.Out) P.X.sz)) (P.m+P.Out.length/P.t.h+P.ct) W
def KP.Er(P:KP)(cs:List Value)(er:Nat)(W:World):Prop:=∃z a l,z.length=P.nz/\P.Ze z/\P.Why er/\l.length<=P.bd/\(a=I1 P.X.p P.x (P.tl l) P.X.sz\/a=Yu P.X.p P.x (P.tl l))/\Wd P.X (P.Z z cs a) (P.m+P.ct+P.bd+2) W
def KP.N(P:KP)(cs:List Value)(er:Nat)(W:World):Prop:=∃z l,z.length=P.nz/\P.Ze z/\P.Why er/\Wd P.X (P.Z z cs (Yu P.X.p P.x (P.tl l))) (P.m+P.ct+P.bd+2) W
def KP.C(P:KP)(cs:List Value)(W:World):Prop:=∃z,z.length=P.nz/\P.Ze z/\P.Fit/\Wd P.X (P.Z z cs (Uu P.X.p P.x (P.tl P.Out) P.X.sz)) (P.m+Cr P.t.h P.Out.length+P.ct) W
section
variable{P:KP}{W W':World}{z:List DA}{cs JX:List Value}{a b:DA}{er:Nat}{l:List Cv}
theorem KP.jW(P:KP)(e:z.length=P.nz)(cs:List Value)(a:DA):(P.Z z cs a)[P.nz+1]?=AE a:=by rw[<-e];simp[KP.Z]
theorem KP.Tm(P:KP)(e:z.length=P.nz)(cs:List Value)(a b:DA):(P.Z z cs a).set (P.nz+1) b=P.Z z cs b:=by rw[<-e];simp[KP.Z]
theorem KP.atR(P:KP)(e:z.length=P.nz)(cs:List Value)(a:DA):(P.Z z cs a)[P.nz]?=AE (Cs P.R 28 cs):=by rw[<-e];simp[KP.Z]
theorem KP.Qm(P:KP)(e:z.length=P.nz)(cs JX:List Value)(a:DA):(P.Z z cs a).set P.nz (Cs P.R 28 JX)=P.Z z JX a:=by rw[<-e];simp[KP.Z]
theorem KP.yQ(e:P.Ok)(H:l.length<=P.bd):Ep (P.tl l) P.X.sz:=
 ⟨e.ok.k,e.ok.h,e.ok.sz,⟨e.ok.bound.1,by show l.length<=P.t.bound;rw[e.bd];exact H⟩,e.ok.blocks,e.ok.first⟩
theorem KP.ZE{M}(e:z.length=P.nz)(h:Wd P.X (P.Z z cs a) M W)(H:cs.length=4)(x1 x2 x3 x4:Value):Wd P.X (P.Z z [x1,x2,x3,x4] a) M ((((W.setCell P.R x1).setCell (P.R,1) x2).setCell (P.R,2) x3).setCell (P.R,3) x4):=by
 have J:=Wd.store h (P.atR e _ _) a6 0 x1;rw[P.Qm e]at J;have I:=J.store (P.atR e _ _) a6 1 x2;rw[P.Qm e]at I;have h3:=I.store (P.atR e _ _) a6 2 x3;rw[P.Qm e]at h3;have h4:=h3.store (P.atR e _ _) a6 3 x4;rw[P.Qm e]at h4
 match cs,H with
 |[c1,c2,c3,c4],_=>exact h4
theorem oN(n h:Nat):(n+1)/h=n/h+((n+1)/h-n/h):=by
 have:=Nat.div_le_div_right (c:=h) (show n<=n+1 by omega);omega
theorem KP.tell{σ fN k vF Q Z O}{J c:σ->Nat}(hP:P.Ok)(hk:P.t.k=k)(hS:u7 P.X fN vF Q Z O J c P.nz P.Ze P.Out P.Fin P.Ju P.bd P.ct k):
  ot fN vF (P.J Q Z O J c) (P.Jm Q Z O J c) P.E (P.Er Z4):=by
 rintro n w ⟨s,hs,aa,hw⟩;have Kr:=BW (O s).length P.t.h;have nQ:=(hS.out s hs).1;have hn:=hP.n;refine(hS.next s _ (P.m+(O s).length/P.t.h) w hs hw a5).mono ?_;rintro e w' (⟨t,s',he,I,U,h3,h4⟩|⟨z',he,I,hF,U,h3,h4⟩|⟨er,z',he,h0,I,U,h3,h4⟩)
 ·exact .inl ⟨t,J s',he,a5,s',O s,I,rfl,h3,h4⟩
 ·have H:=(hS.out s hs).2;rw[I]at h4 nQ H;exact .inr (.inl ⟨he,z',U,h3,⟨nQ,by rw[hk];exact H,hF⟩,h4⟩)
 ·exact .inr (.inr ⟨er,he,h0,z',_,O s,U,h3,I,nQ,.inl rfl,h4.mono a5 a5⟩)
theorem KP.take{σ fN k vF Q Z O}{J c:σ->Nat}(hP:P.Ok)(hk:P.t.k=k)(hS:u7 P.X fN vF Q Z O J c P.nz P.Ze P.Out P.Fin P.Ju P.bd P.ct k):
  xh 30 (AI P.x) (P.J Q Z O J c) (P.Jm Q Z O J c) (P.Er Z4):=by
 rintro t n w ⟨s,l,I,aa,ho,hw⟩;obtain⟨zT,cM⟩:=hS.out s I;have ab:=hS.cost s I;rw[ho]at zT cM;have PR:l.length+1<=P.bd:=by simpa using zT
 have hn:=hP.n;have Kr:=BW l.length P.t.h;have nQ:=BW (l.length+1) P.t.h;refine(RW hw (P.jW (hS.len s) _ _) (KP.yQ hP a5) a5 (tu:=t) (by show Dc P.t.k t=true;rw[hk];exact(cM t a8).2) (by show l.length<P.t.bound;rw[hP.bd];omega)).mono ?_;rintro e w' (⟨he,H⟩|⟨he,U,H⟩)
 ·refine .inl ⟨he,s,I,aa,?_⟩;rw[P.Tm (hS.len s)]at H;rw[ho];have e1:(l++[t]).length=l.length+1:=a8;rw[e1];have xJ:=oN l.length P.t.h;rw[show P.m+(l.length+1)/P.t.h+c s=P.m+l.length/P.t.h+c s+((l.length+1)/P.t.h-l.length/P.t.h)by omega];exact H
 ·refine .inr ⟨6,he,a5,Z s,_,l++[t],hS.len s,hS.zok s I,.inr ⟨rfl,U⟩,by simpa using PR,.inr rfl,?_⟩;rw[P.Tm (hS.len s)]at H;exact H.mono a5 a5
theorem KP.close(U:P.Ok)(h:P.E W):
  Calls AP 31 #[AI P.x] W λe w'=>(e=AH (AM #[AL #[(DY (P.tl P.Out):Nat),(Cr P.t.h P.Out.length:Nat),P.t.k,P.Out.length],()])/\P.C Z4 w')\/(e=AH (AM #[AL #[(),(),(),()],AA AB 6])/\P.N Z4 6 w'):=by
 obtain⟨z,J,I,H,hw⟩:=h;have hle:=H.1;have hn:=U.n;have Kr:=BW P.Out.length P.t.h;refine(OR hw (P.jW J _ _) (KP.yQ U hle) a5).mono ?_;rintro e w' (⟨he,O⟩|⟨he,Q,O⟩)
 ·refine .inl ⟨he,z,J,I,H,?_⟩;rw[P.Tm J]at O;have hb:P.Out.length/P.t.h<=Cr P.t.h P.Out.length:=by unfold Cr;split<;>omega
  rw[show P.m+Cr P.t.h P.Out.length+P.ct=P.m+P.Out.length/P.t.h+P.ct+(Cr P.t.h P.Out.length-P.Out.length/P.t.h)by omega];exact O
 ·refine .inr ⟨he,z,P.Out,J,I,.inr ⟨rfl,Q⟩,?_⟩;rw[P.Tm J]at O;exact O.mono a5 a5
theorem KP.drop(u:Bf)(hP:P.Ok)(h:P.Er cs er W):
  CallsD AP 29 #[AI P.x] u W λe J w'=>J=u/\(e=AH (AM #[])/\P.N cs er w'):=by
 obtain⟨z,a,l,I,H,U,hl,rfl|rfl,hw⟩:=h
 ·refine(Uw hw (P.jW I _ _) (KP.yQ hP hl) u).mono ?_;rintro e J w' ⟨Q,O,GK⟩;rw[P.Tm I]at GK;exact⟨Q,O,z,l,I,H,U,GK⟩
 ·refine(E8 (hw.at_ (P.jW I _ _)) u).mono ?_;rintro e J w' ⟨Q,O,rfl⟩;exact⟨Q,O,z,l,I,H,U,hw⟩
theorem KP.N.drop(u:Bf)(h:P.N cs er W):
  CallsD AP 29 #[AI P.x] u W λe H w'=>H=u/\(e=AH (AM #[])/\w'=W):=by
 obtain⟨z,l,I,_,_,hw⟩:=h;exact E8 (hw.at_ (P.jW I _ _)) u
theorem KP.C.drop(u:Bf)(h:P.C cs W):
  CallsD AP 29 #[AI P.x] u W λe H w'=>H=u/\(e=AH (AM #[])/\w'=W):=by
 obtain⟨z,I,_,_,hw⟩:=h;exact E8 (hw.at_ (P.jW I _ _)) u
theorem KP.Er.store(h:P.Er cs er W)(e:cs.length=4)(x1 x2 x3 x4:Value):P.Er [x1,x2,x3,x4] er ((((W.setCell P.R x1).setCell (P.R,1) x2).setCell (P.R,2) x3).setCell (P.R,3) x4):=by
 obtain⟨z,a,l,H,J,I,h3,h4,hw⟩:=h;exact⟨z,a,l,H,J,I,h3,h4,KP.ZE H hw e x1 x2 x3 x4⟩
theorem KP.N.store(h:P.N cs er W)(e:cs.length=4)(x1 x2 x3 x4:Value):P.N [x1,x2,x3,x4] er ((((W.setCell P.R x1).setCell (P.R,1) x2).setCell (P.R,2) x3).setCell (P.R,3) x4):=by
 obtain⟨z,l,H,J,I,hw⟩:=h;exact⟨z,l,H,J,I,KP.ZE H hw e x1 x2 x3 x4⟩
theorem KP.C.store(h:P.C cs W)(e:cs.length=4)(x1 x2 x3 x4:Value):P.C [x1,x2,x3,x4] ((((W.setCell P.R x1).setCell (P.R,1) x2).setCell (P.R,2) x3).setCell (P.R,3) x4):=by
 obtain⟨z,H,J,I,hw⟩:=h;exact⟨z,H,J,I,KP.ZE H hw e x1 x2 x3 x4⟩
theorem KP.Er.row(h:P.Er cs er W):Row W P.R 28 cs:=by
 obtain⟨z,a,l,e,I,H,h3,h4,hw⟩:=h;exact hw.row (P.atR e _ _)
theorem KP.N.row(h:P.N cs er W):Row W P.R 28 cs:=by
 obtain⟨z,l,e,I,H,hw⟩:=h;exact hw.row (P.atR e _ _)
theorem KP.C.row(h:P.C cs W):Row W P.R 28 cs:=by
 obtain⟨z,e,I,H,hw⟩:=h;exact hw.row (P.atR e _ _)
theorem KP.N.fin(h:P.N cs er W):∃z,z.length=P.nz/\P.Ze z/\P.Why er/\Wd P.X z (P.m+P.ct+P.bd+2) W:=by
 obtain⟨z,l,H,J,I,hw⟩:=h;refine⟨z,H,J,I,?_⟩;have h3:Wd P.X (z++[Cs P.R 28 cs,Yu P.X.p P.x (P.tl l)]++[]) (P.m+P.ct+P.bd+2) W:=by rw[AZ];exact hw
 have h4:=Wd.Fy _ (λq e=>by simp at e;rcases e with rfl|rfl<;>exact⟨rfl,rfl⟩) h3;rwa [AZ]at h4
theorem KP.C.fin(h:P.C cs W):∃z,z.length=P.nz/\P.Ze z/\P.Fit/\Wd P.X (z++[Da (DY (P.tl P.Out)) (Cr P.t.h P.Out.length) P.t.k P.t.h P.Out P.X.sz]) (P.m+Cr P.t.h P.Out.length+P.ct) W:=by
 obtain⟨z,e,I,hf,hw⟩:=h;refine⟨z,e,I,hf,?_⟩;have H:=WV hw (P.jW e _ _);rw[P.Tm e]at H;have h3:Wd P.X (z++Cs P.R 28 cs::[Da (DY (P.tl P.Out)) (Cr P.t.h P.Out.length) P.t.k P.t.h P.Out P.X.sz]) (P.m+Cr P.t.h P.Out.length+P.ct) W:=H;exact h3.cut rfl rfl
end
def o5(X:Cx)(nz:Nat)(Ze:List DA->Prop)(Out:List Cv)(Fin:Prop)(Ju:Nat->Prop)(z0:List DA)(m ct bd k:Nat)(e:Ending)(w':World):Prop:=
 (∃(F N:Nat) (z:List DA),e=AH (AM #[AL #[F,N,k,Out.length],()])/\GY F N k (Ct X.sz k) Out X.sz/\Fin/\z.length=nz/\Ze z/\Wd X (z++[Da F N k (Ct X.sz k) Out X.sz]) (m+N+ct) w')\/
 (∃(er:Nat) (z:List DA),e=AH (AM #[AL #[(),(),(),()],er])/\0<er/\((Ju er\/er=6/\¬X.cm)\/er=5/\∀q,¬Rm X z0 q (Cr (Ct X.sz k) bd))/\z.length=nz/\Ze z/\Wd X z (m+ct+bd+2) w')
section
variable{X:Cx}{m:Nat}{W:World}
theorem qu{σ}{fN k nz bd ct nr rb cr:Nat}{vF Q Z O mu c Ze Out Fin Ju}{s0:σ}
  (hS:u7 X fN vF Q Z O mu c nz Ze Out Fin Ju bd ct k)(hs0:Q s0)(av:O s0=[])(Jw:c s0=0)(h:Wd X (Z s0) m W)(Xn:0<Ct X.sz k)(aE:bd<=100000)(aa:X.sz+DC DA.gw (Z s0)<=X.rm)(hn:X.N+m+ct+bd+2<=1000000)
  (aD:0<nr/\nr<=10)(ad:rb<W)(Fh:W.cell? (rb,3)=AE (AA AB bd))(aC:dM (Z s0) W rb nr):
  Calls AP 113 #[AI X.p.w,k,.func (.func fN) #[vF] #[],AJ rb nr cr] W (o5 X nz Ze Out Fin Ju (Z s0) m ct bd k):=by
 have ab:Below W W (W.alloc (AK #[(),(),(),()] 28)):=(AS _ _).alloc ao _;have EU:Row (W.alloc (AK #[(),(),(),()] 28)) W 28 Z4:=heap_alloc_new _ _;have h0:=h.new ab EU ao;have GZ:DC DA.gw (Z s0++[Cs W 28 Z4])=DC DA.gw (Z s0):=Dz _ _ _;have aI:dM (Z s0++[Cs W 28 Z4]) (W.alloc (AK #[(),(),(),()] 28)) rb nr:=λi hi=>by
  obtain⟨f,n,k,c,⟨q0,U,I,q3⟩,H,h2,h3⟩:=aC i hi;refine⟨f,n,k,c,⟨(ab.cell ad).trans q0,(ab.cell ad).trans U,(ab.cell ad).trans I,(ab.cell ad).trans q3⟩,H,h2,h3.imp_right ?_⟩;rintro⟨j,a,hj,ha⟩;exact⟨j,a,Rp hj,ha⟩
 have Ty:=AO (dm (cr:=cr) h0 Xn aE (by rw[GZ];exact aa) aD (by have:=ab.size;omega) ((ab.cell ad).trans Fh) aI);have aF:∀(w':World),(∀q,¬Rm X (Z s0++[Cs W 28 Z4]) q (Cr (Ct X.sz k) bd))->Wd X (Z s0++[Cs W 28 Z4]) m w'->∀q,¬Rm X (Z s0) q (Cr (Ct X.sz k) bd):=λw' ae _ q hq=>
  ae q (GF hq λa ha=>by simp at ha;subst ha;exact⟨rfl,rfl⟩)
 generalize Gr:o5 X nz Ze Out Fin Ju (Z s0) m ct bd k=Dd at*
 have aw:Hid (∀W':World,(∀q,¬Rm X (Z s0++[Cs W 28 Z4]) q (Cr (Ct X.sz k) bd))->Wd X (Z s0++[Cs W 28 Z4]) m W'->∃P:World->Prop,P W'/\(∀w,P w->Row w W 28 Z4)/\(∀w,P w->P ((((w.setCell W ()).setCell (W,1) ()).setCell (W,2) ()).setCell (W,3) ()))/\∀w,P w->Dd (AH (AM #[AL #[(),(),(),()],AA AB 5])) w):=λW' ae hw=>by
  have ha:(Z s0++[Cs W 28 Z4])[(Z s0).length]?=AE (Cs W 28 Z4):=a8;have ND:∀cs,(Z s0++[Cs W 28 cs]).set (Z s0).length (Cs W 28 Z4)=Z s0++[Cs W 28 Z4]:=λcs=>by simp
  refine⟨λw=>Wd X (Z s0++[Cs W 28 Z4]) m w,hw,λw H=>H.row ha,λw H=>?_,λw H=>?_⟩
  ·have k1:=H.store ha a6 0 ();have k2:=k1.store (IG _ ha _) a6 1 ();have k3:=k2.store (IG _ (IG _ ha _) _) a6 2 ();have k4:=k3.store (IG _ (IG _ (IG _ ha _) _) _) a6 3 ();simpa [Z4]using k4
  ·rw[<-Gr];refine .inr ⟨5,Z s0,rfl,a5,.inr ⟨rfl,aF w ae H⟩,hS.len s0,hS.zok s0 hs0,?_⟩;exact(H.drop rfl rfl).mono a5 a5
 have Lk:Hid (∀x t W1,t.k=k->t.h=Ct X.sz k->t.bound=bd->t.l=[]->Ep t X.sz->Wd X (Z s0++[Cs W 28 Z4]++[I1 X.p x t X.sz]) m W1->
   ∃(P:KP) (F N:Nat),P.R=W.heap.size/\P.Ok/\P.x=x/\
    Calls AP 133 #[.func (.func fN) #[vF] #[],.func (.func 30) #[AI x] #[]] W1 (λe w'=>(e=AH ()/\P.E w')\/(∃er:Nat,e=AH er/\0<er/\P.Er Z4 er w'))/\
    (∀w,P.E w->Calls AP 31 #[AI x] w λe w'=>(e=AH (AM #[AL #[F,N,k,Out.length],()])/\P.C Z4 w')\/(e=AH (AM #[AL #[(),(),(),()],AA AB 6])/\P.N Z4 6 w'))/\
    (∀cs w,P.C cs w->Dd (AH (AM #[AL #[F,N,k,Out.length],()])) w)/\
    (∀cs er w,0<er->P.N cs er w->Dd (AH (AM #[AL #[(),(),(),()],er])) w)):=λx t W1 e1 e2 e3 e4 e5 hw=>by
  have hP:KP.Ok ⟨X,nz,Ze,Out,Fin,Ju,bd,ct,m,x,t,W⟩:=⟨e5,e3,e4,hn⟩;refine⟨⟨X,nz,Ze,Out,Fin,Ju,bd,ct,m,x,t,W⟩,DY (KP.tl ⟨X,nz,Ze,Out,Fin,Ju,bd,ct,m,x,t,W⟩ Out),Cr t.h Out.length,rfl,hP,rfl,?_,λw H=>?_,λcs w H=>?_,λcs er w gX H=>?_⟩
  ·refine gA (J:=KP.J ⟨X,nz,Ze,Out,Fin,Ju,bd,ct,m,x,t,W⟩ Q Z O mu c) (n:=mu s0) hS.ent (λargs w=>by kernel_rfl) (KP.tell hP e1 hS) (KP.take hP e1 hS) ?_ ?_ ?_ ?_
   ·rintro tu n w w' ⟨s,l,U,I,q3,q4⟩ hb;exact⟨s,l,U,I,q3,q4.below hb⟩
   ·rintro w w' ⟨z,U,I,q3,q4⟩ hb;exact⟨z,U,I,q3,q4.below hb⟩
   ·rintro er w w' ⟨z,a,l,U,I,q3,q4,q5,q6⟩ hb;exact⟨z,a,l,U,I,q3,q4,q5,q6.below hb⟩
   ·refine⟨s0,hs0,rfl,?_⟩;have et:(KP.tl ⟨X,nz,Ze,Out,Fin,Ju,bd,ct,m,x,t,W⟩ (O s0))=t:=by unfold KP.tl;rw[av,<-e4]
    rw[et,av,Jw];show Wd X (Z s0++[Cs W.heap.size 28 Z4,I1 X.p x t X.sz]) (m+0/t.h+0) W1;rw[Nat.zero_div];simpa using hw
  ·have:=KP.close hP H;have aJ:((⟨X,nz,Ze,Out,Fin,Ju,bd,ct,m,x,t,W⟩:KP).t.k)=k:=e1;rw[aJ]at this;exact this
  ·obtain⟨z,U,I,q3,q4⟩:=H.fin;have aA:Out.length<=bd/\(∀u∈Out,EE u/\Dc t.k u=true)/\Fin:=q3;have ar:Wd X (z++[Da (DY (KP.tl ⟨X,nz,Ze,Out,Fin,Ju,bd,ct,m,x,t,W⟩ Out)) (Cr t.h Out.length) t.k t.h Out X.sz]) (m+Cr t.h Out.length+ct) w:=q4;rw[<-Gr];have NH:DY (KP.tl ⟨X,nz,Ze,Out,Fin,Ju,bd,ct,m,x,t,W⟩ Out)<=2000000:=by
    have:=e5.first;unfold DY KP.tl
    split
    ·omega
    ·exact this
   generalize DY (KP.tl ⟨X,nz,Ze,Out,Fin,Ju,bd,ct,m,x,t,W.heap.size⟩ Out)=fo at*
   refine .inl ⟨fo,Cr t.h Out.length,z,rfl,⟨by rw[<-e1];exact e5.k,by have h9:=e5.h;rw[e2,e1]at h9;exact h9,rfl,by rw[e2],a5,NH,by rw[<-e1];exact aA.2.1⟩,aA.2.2,U,I,?_⟩;rw[e1]at ar;rw[e2]at ar⊢;exact ar
  ·obtain⟨z,U,I,q3,q4⟩:=H.fin;rw[<-Gr];exact .inr ⟨er,z,rfl,gX,.inl q3,U,I,q4⟩
 clear hS hs0 av Jw h Xn aE aa hn aD ad Fh aC ab EU h0 GZ aI aF;replace Gr:=AO Gr;go_enter_defers func113,ntmps113
 go_wp2_with fail
 refine Ty.out.mono ?_;rintro e w1 (⟨rfl,ae,Nv⟩|⟨x,t,rfl,e1,e2,e3,e4,e5,Nv⟩)
 ·obtain⟨P,hp,al,aB,IP⟩:=aw.out w1 ae Nv;have xz:=AO hp;have JZ:=AO al;have Gv:=AO aB;have Yn:=AO IP;clear hp al aB IP ae Nv aw Lk Ty;have LK:=AO (JZ.out _ xz.out);obtain⟨z0,z1,z2,z3⟩:=LK.out.q4;obtain⟨f0,f1,f2,f3⟩:=LK.out.r4;have aH:=AO (Gv.out _ xz.out);have ES:=AO (JZ.out _ aH.out);go_wp2
  have r0:=ES.out.cell 0;have r1:=ES.out.cell 1;have r2:=ES.out.cell 2;have r3:=ES.out.cell 3;simp only[Z4,AW,AV]at r0 r1 r2 r3;exact⟨AM #[AL #[(),(),(),()],AA AB 5],by simp[results,Tryz.results113,go_sem,r0,r1,r2,r3],Yn.out _ aH.out⟩
 obtain⟨P,F,N,hR,hP,hx,wS,SX,hC,hN⟩:=Lk.out x t w1 e1 e2 e3 e4 e5 Nv;have a7:=AO wS;have GJ:=AO SX;have HC:=AO hC;have HN:=AO hN;have JB:=AO hP;have a2:Hid (∀er w,P.Er Z4 er w->Row w W 28 Z4/\P.Er Z4 er ((((w.setCell W ()).setCell (W,1) ()).setCell (W,2) ()).setCell (W,3) ())):=λer w H=>by
  have U:=H.row;have I:=H.store rfl () () () ();rw[hR]at U I;exact⟨U,I⟩
 have a3:Hid (∀er w,P.N Z4 er w->Row w W 28 Z4/\P.N Z4 er ((((w.setCell W ()).setCell (W,1) ()).setCell (W,2) ()).setCell (W,3) ())):=λer w H=>by
  have U:=H.row;have I:=H.store rfl () () () ();rw[hR]at U I;exact⟨U,I⟩
 have a1:Hid (∀w x1 x2 x3 x4,P.C Z4 w->Row w W 28 Z4/\P.C [x1,x2,x3,x4] ((((w.setCell W x1).setCell (W,1) x2).setCell (W,2) x3).setCell (W,3) x4)):=λw x1 x2 x3 x4 H=>by
  have U:=H.row;have I:=H.store rfl x1 x2 x3 x4;rw[hR]at U I;exact⟨U,I⟩
 have aK:Hid (∀cs w,P.C cs w->Row w W 28 cs):=λcs w H=>by have:=H.row;rw[hR]at this;exact this
 have aG:Hid (∀cs er w,P.N cs er w->Row w W 28 cs):=λcs er w H=>by have:=H.row;rw[hR]at this;exact this
 have aY:Hid (∀u er w,P.Er Z4 er w->CallsD AP 29 #[AI x] u w λe u' w'=>u'=u/\(e=AH (AM #[])/\P.N Z4 er w')):=λu er w H=>by have:=KP.drop u hP H;rw[hx]at this;exact this
 have aX:Hid (∀u er w,P.N Z4 er w->CallsD AP 29 #[AI x] u w λe u' w'=>u'=u/\(e=AH (AM #[])/\w'=w)):=λu er w H=>by have:=KP.N.drop u H;rw[hx]at this;exact this
 have a0:Hid (∀u cs w,P.C cs w->CallsD AP 29 #[AI x] u w λe u' w'=>u'=u/\(e=AH (AM #[])/\w'=w)):=λu cs w H=>by have:=KP.C.drop u H;rw[hx]at this;exact this
 clear wS SX hC hN hP hx hR Nv e1 e2 e3 e4 e5 Lk aw Ty;generalize ba:Out.length=ol at*
 go_wp2_with fail
 refine a7.out.mono ?_;rintro e w2 (⟨rfl,h2⟩|⟨er,rfl,De,h2⟩)
 ·have H2:=AO h2;clear h2;go_wp2_with fail
  refine(GJ.out _ H2.out).mono ?_;rintro e w3 (⟨rfl,h3⟩|⟨rfl,h3⟩)
  ·obtain⟨FK,h4⟩:=a1.out w3 F N k ol h3;have Gb:=AO FK;have H4:=AO h4;clear h3 FK h4;obtain⟨z0,z1,z2,z3⟩:=Gb.out.q4;obtain⟨f0,f1,f2,f3⟩:=Gb.out.r4;go_wp2
   refine Ay (f:=29) (args:=#[AI x]) a8 (by simp[go_sem]) ?_;refine(a0.out _ _ _ H4.out).mono ?_;rintro e u' Ej ⟨rfl,rfl,rfl⟩;have ES:=AO (aK.out _ _ H4.out);have r0:=ES.out.cell 0;have r1:=ES.out.cell 1;have r2:=ES.out.cell 2;have r3:=ES.out.cell 3;simp only[AW,AV]at r0 r1 r2 r3;exact⟨AM #[AL #[F,N,k,ol],()],by simp[results,Tryz.results113,go_sem,r0,r1,r2,r3],HC.out _ _ H4.out⟩
  ·obtain⟨FK,h4⟩:=a3.out 6 w3 h3;have Gb:=AO FK;have H4:=AO h4;clear h3 FK h4;obtain⟨z0,z1,z2,z3⟩:=Gb.out.q4;obtain⟨f0,f1,f2,f3⟩:=Gb.out.r4;go_wp2
   refine Ay (f:=29) (args:=#[AI x]) a8 (by simp[go_sem]) ?_;refine(aX.out _ _ _ H4.out).mono ?_;rintro e u' Ej ⟨rfl,rfl,rfl⟩;have ES:=AO (aG.out _ _ _ H4.out);have r0:=ES.out.cell 0;have r1:=ES.out.cell 1;have r2:=ES.out.cell 2;have r3:=ES.out.cell 3;simp only[Z4,AW,AV]at r0 r1 r2 r3;exact⟨AM #[AL #[(),(),(),()],AA AB 6],by simp[results,Tryz.results113,go_sem,r0,r1,r2,r3],HN.out _ 6 _ a5 H4.out⟩
 ·obtain⟨FK,h4⟩:=a2.out er w2 h2;have Gb:=AO FK;have H4:=AO h4;have a9:¬(er:Int)=0:=a5;have T0:=AO De;clear h2 FK h4 De;obtain⟨z0,z1,z2,z3⟩:=Gb.out.q4;obtain⟨f0,f1,f2,f3⟩:=Gb.out.r4;go_wp2
  refine Ay (f:=29) (args:=#[AI x]) a8 (by simp[go_sem]) ?_;refine(aY.out _ _ _ H4.out).mono ?_;rintro e u' Ej ⟨rfl,rfl,h5⟩;have ES:=AO (aG.out _ _ _ h5);have r0:=ES.out.cell 0;have r1:=ES.out.cell 1;have r2:=ES.out.cell 2;have r3:=ES.out.cell 3;simp only[Z4,AW,AV]at r0 r1 r2 r3;exact⟨AM #[AL #[(),(),(),()],er],by simp[results,Tryz.results113,go_sem,r0,r1,r2,r3],HN.out _ er _ T0.out h5⟩
end
def CP.Ze(P:CP)(z:List DA):Prop:=∃i a,z=P.Z i a/\az P.X P.x P.r P.l a
theorem CP.AO6{P:CP}{k}(O:P.Ok)(gL:∀j t u,P.l[j]?=AE t->P.I8 j t=AE u->EE u/\Dc k u=true):
  u7 P.X 114 (.agg P.vF.toArray) (λi=>i<=P.l.length) (λi=>P.Z i (P.rd i)) (outL P.I8 P.l) (λi=>P.l.length-i) (λi=>Cr P.r.h i) (P.np+1) P.Ze (outL P.I8 P.l P.l.length) True (λ_=>False) P.l.length (Cr P.r.h P.l.length) k where
 ent:=λargs w=>by kernel_rfl
 len:=λs=>CP.Ti O _
 out:=λs J=>⟨Af (XI _ _ s) J,λu hu=>by
  obtain⟨j,t,I,H⟩:=XH hu;exact gL j t u I H⟩
 cost:=λs J=>Db O.rd.ok.h.1 J
 zok:=λs _=>⟨s,_,rfl,s,.inl rfl⟩
 next:=λs zz m W J hw U=>by
  refine(iR O hw J U).mono ?_;rintro e w' (⟨t,Q,he,I,H,h3,h4⟩|⟨he,I,H⟩|⟨Q,he,I,H⟩)
  ·exact .inl ⟨t,Q,he,H,a5,h3,h4⟩
  ·exact .inr (.inl ⟨_,he,I,trivial,CP.Ti O _,⟨_,_,rfl,_,.inl rfl⟩,H⟩)
  ·exact .inr (.inr ⟨6,_,he,a5,.inr ⟨rfl,I⟩,CP.Ti O _,⟨_,_,rfl,_,.inr rfl⟩,H⟩)
def OF(X:Cx)(pre post:List DA)(H:Nat->List DA)(Out:List Cv)(m nb bd k:Nat)(e:Ending)(w':World):Prop:=
 (∃F N i:Nat,e=AH (AM #[AL #[F,N,k,Out.length],()])/\GY F N k (Ct X.sz k) Out X.sz/\Wd X (pre++H i++post++[Da F N k (Ct X.sz k) Out X.sz]) (m+N+nb) w')\/
 (∃er i:Nat,e=AH (AM #[AL #[(),(),(),()],er])/\0<er/\(er=6/\¬X.cm\/er=5/\∀q,¬Rm X (pre++H 0++post) q (Cr (Ct X.sz k) bd))/\Wd X (pre++H i++post) (m+nb+bd+2) w')
def Tv(Y:List DA)(fb R:Nat)(fc cs:List Value)(a:DA)(tail:List DA):List DA:=Y++[Cs fb 28 fc,Cs R 28 cs,a]++tail
section
variable{X:Cx}{Y tail:List DA}{fb R M:Nat}{fc cs JX:List Value}{a b:DA}{W:World}
theorem QX:(Tv Y fb R fc cs a tail)[Y.length+1]?=AE (Cs R 28 cs):=by simp[Tv]
theorem AL5:(Tv Y fb R fc cs a tail)[Y.length]?=AE (Cs fb 28 fc):=by simp[Tv]
theorem oY:(Tv Y fb R fc cs a tail)[Y.length+2]?=AE a:=by simp[Tv]
theorem Oz:(Tv Y fb R fc cs a tail).set (Y.length+1) (Cs R 28 JX)=Tv Y fb R fc JX a tail:=by simp[Tv]
theorem Ug:(Tv Y fb R fc cs a tail).set (Y.length+2) b=Tv Y fb R fc cs b tail:=by simp[Tv]
theorem Uf(e:cs.length=4)(h:Wd X (Tv Y fb R fc cs a tail) M W)(x1 x2 x3 x4:Value):Wd X (Tv Y fb R fc [x1,x2,x3,x4] a tail) M ((((W.setCell R x1).setCell (R,1) x2).setCell (R,2) x3).setCell (R,3) x4):=by
 have I:=Wd.store h QX a6 0 x1;rw[Oz]at I;have H:=I.store QX a6 1 x2;rw[Oz]at H;have h3:=H.store QX a6 2 x3;rw[Oz]at h3;have h4:=h3.store QX a6 3 x4;rw[Oz]at h4
 match cs,e with
 |[c1,c2,c3,c4],_=>exact h4
theorem cy(H:a.gr=AD/\a.ex.2=0)(h:Wd X (Tv Y fb R fc cs a tail) M W):Wd X (Y++tail) M W:=
 Wd.Fy _ (λq e=>by simp at e;rcases e with rfl|rfl|rfl<;>first|exact⟨rfl,rfl⟩|exact H) h
end
section
variable{X:Cx}{m:Nat}{W:World}
theorem dn{pre post H}{nh fH first nb k hh count width:Nat}{I l I8}
  (hH:AB4 X pre fH I l I8 H nh)(h:Wd X (pre++H 0++post) m W)(hf:GY first nb k hh l X.sz)(aa:Da first nb k hh l X.sz∈pre++post)(hc:l.length=count)(Ya:0<Ct X.sz width)
  (gL:∀j t u,l[j]?=AE t->I8 j t=AE u->EE u/\Dc width u=true)(ab:2*X.sz+DC DA.gw (pre++H 0++post)<=X.rm)(hn:X.N+m+nb+count+2<=1000000):
  Calls AP 93 #[AI X.p.w,AL #[first,nb,k,count],width,.func (.func fH) #[] I] W (OF X pre post H (outL I8 l count) m nb count width):=by
 obtain⟨W2,G9⟩:=ae ((W.alloc (AK #[first,nb,k,count] 28)).alloc (AK #[(),(),(),()] 28));have DV:Below W W (W.alloc (AK #[first,nb,k,count] 28)):=(AS _ _).alloc ao _;have h1:=h.new DV (heap_alloc_new _ _:Row _ _ 28 [first,nb,k,count]) ao;have DN:=(AS (W.alloc (AK #[first,nb,k,count] 28)).heap.size (W.alloc (AK #[first,nb,k,count] 28))).alloc ao (AK #[(),(),(),()] 28);have h2:=h1.new DN (heap_alloc_new _ _:Row _ _ 28 Z4) ao;rw[<-G9]at h2;rw[show (W.alloc (AK #[first,nb,k,count] 28)).heap.size=W.heap.size+1 by simp]at h2;obtain⟨fb,LI⟩:=ae W.heap.size;rw[<-LI]at h2;obtain⟨fc,OI⟩:∃fc:List Value,fc=[AA AB first,AA AB nb,AA AB k,AA AB count]:=⟨_,rfl⟩;rw[<-OI]at h2;have h2:Wd X (pre++H 0++(post++[Cs fb 28 fc,Cs (fb+1) 28 Z4])) m W2:=by simpa [AR]using h2
 have GZ:DC DA.gw (pre++H 0++(post++[Cs fb 28 fc,Cs (fb+1) 28 Z4]))=DC DA.gw (pre++H 0++post):=by
  rw[<-AR,DM,Dq [Cs fb 28 fc,Cs (fb+1) 28 Z4] (λq hq=>by simp at hq;rcases hq with rfl|rfl<;>exact⟨rfl,rfl⟩)];omega
 have LJ:Hid (∀w,Below W2.heap.size W2 w->Calls AP 46 #[AI (AE ⟨X.p.w,0,AD⟩),AL #[AA AB first,AA AB nb,AA AB k,AA AB count]] w λe w'=>∃x b g,e=AH (AM #[AI (AE ⟨x,0,AD⟩),AA AB 0])/\JA ⟨k,hh,first,nb,count,0,b,g⟩ X.sz/\Wd X (pre++H 0++(post++[Cs fb 28 fc,Cs (fb+1) 28 Z4])++[Eu X.p x ⟨k,hh,first,nb,count,0,b,g⟩ X.sz l]) m w'):=λw hb=>
  Mp (h2.below hb) first nb k hh count l hf.Pm hf.hh.1 (by rw[hf.bn,hc]) (by rw[<-hc];exact hf.len) hf.fst (by rw[GZ];omega)
 have RA:Hid (Row W2 fb 28 fc):=h2.row (i:=(pre++H 0++post).length) (by rw[<-AR,AX ao,Ap];rfl);have Lk:Hid (∀x b g w0,JA ⟨k,hh,first,nb,count,0,b,g⟩ X.sz->Wd X (pre++H 0++(post++[Cs fb 28 fc,Cs (fb+1) 28 Z4])++[Eu X.p x ⟨k,hh,first,nb,count,0,b,g⟩ X.sz l]) m w0->
   ∃(A:World->Prop) (C:Nat->Nat->List Value->World->Prop) (N:Nat->List Value->World->Prop),A w0/\(∀w w',A w->Below w.heap.size w w'->A w')/\(∀w,A w->Row w fb 28 fc)/\
    (∀w rb,A w->Row w rb 28 fc->Calls AP 113 #[AI X.p.w,width,.func (.func 114) #[AL #[.func (.func 48) #[AI x] #[],.func (.func fH) #[] I]] #[],AJ rb 1 1] w λe w'=>
     (∃F M:Nat,e=AH (AM #[AL #[F,M,width,((outL I8 l count).length:Nat)],()])/\C F M Z4 w')\/
     (∃er:Nat,e=AH (AM #[AL #[(),(),(),()],er])/\0<er/\N er Z4 w'))/\
    (∀F M cs w x1 x2 x3 x4,cs.length=4->C F M cs w->C F M [x1,x2,x3,x4] ((((w.setCell (fb+1,0) x1).setCell (fb+1,1) x2).setCell (fb+1,2) x3).setCell (fb+1,3) x4))/\
    (∀er cs w x1 x2 x3 x4,cs.length=4->N er cs w->N er [x1,x2,x3,x4] ((((w.setCell (fb+1,0) x1).setCell (fb+1,1) x2).setCell (fb+1,2) x3).setCell (fb+1,3) x4))/\
    (∀F M cs w,C F M cs w->Row w (fb+1) 28 cs)/\(∀er cs w,N er cs w->Row w (fb+1) 28 cs)/\
    (∀F M cs w u,C F M cs w->CallsD AP 47 #[AI x] u w λe u' w'=>u'=u/\(e=AH (AM #[])/\Row w' (fb+1) 28 cs/\OF X pre post H (outL I8 l count) m nb count width (AH (AM #[AL #[F,M,width,((outL I8 l count).length:Nat)],()])) w'))/\
    (∀er cs w u,0<er->N er cs w->CallsD AP 47 #[AI x] u w λe u' w'=>u'=u/\(e=AH (AM #[])/\Row w' (fb+1) 28 cs/\OF X pre post H (outL I8 l count) m nb count width (AH (AM #[AL #[(),(),(),()],er])) w'))):=λx b g w0 GL JM=>by
  obtain⟨P,qM⟩:∃P:CP,P=⟨X,pre,H,nh,post++[Cs fb 28 fc,Cs (fb+1) 28 Z4],l,I8,⟨k,hh,first,nb,count,0,b,g⟩,x,fH,I⟩:=⟨_,rfl⟩;have hP:P.Ok:=by
   rw[qM];refine⟨hH,⟨GL,hc,λu hu=>hf.fit u hu,hf.bn⟩,λj a zz=>U5 (nb:=nb) ?_ hf.bn⟩;show Da first nb k hh l X.sz∈pre++H j++(post++[Cs fb 28 fc,Cs (fb+1) 28 Z4])++[a]++zz;rcases Ag.1 aa with hm|hm<;>simp[hm]
  have hS:=CP.AO6 (k:=width) hP (by rw[qM];exact gL);have hZ:∀(i:Nat) (a:DA) (tail:List DA),P.Z i a++tail=Tv (pre++H i++post) fb (fb+1) fc Z4 a tail:=λi a tail=>by rw[qM];simp[CP.Z,Tv,AR]
  have PR:P.l.length=count:=by rw[qM];exact hc
  have Pm:outL P.I8 P.l P.l.length=outL I8 l count:=by rw[qM,<-hc]
  have M6:Cr P.r.h P.l.length=nb:=by rw[qM];exact hf.bn.symm
  have aK:P.X=X:=by rw[qM]
  have aA:∀z,P.Ze z->∃i a,z=P.Z i a/\az X x ⟨k,hh,first,nb,count,0,b,g⟩ l a:=λz hz=>by rw[qM]at hz⊢;exact hz
  have zB:P.vF.toArray=#[.func (.func 48) #[AI x] #[],.func (.func fH) #[] I]:=by rw[qM];rfl
  have ad:P.Z 0 (P.rd 0)=pre++H 0++(post++[Cs fb 28 fc,Cs (fb+1) 28 Z4])++[Eu X.p x ⟨k,hh,first,nb,count,0,b,g⟩ X.sz l]:=by rw[qM];rfl
  rw[zB,Pm,M6,PR,aK]at hS;refine⟨λw=>Wd X (P.Z 0 (P.rd 0)) m w,
   λF M cs w=>GY F M width (Ct X.sz width) (outL I8 l count) X.sz/\∃i a,az X x ⟨k,hh,first,nb,count,0,b,g⟩ l a/\Wd X (Tv (pre++H i++post) fb (fb+1) fc cs a [Da F M width (Ct X.sz width) (outL I8 l count) X.sz]) (m+M+nb) w,
   λer cs w=>(er=6/\¬X.cm\/er=5/\∀q,¬Rm X (pre++H 0++post) q (Cr (Ct X.sz width) count))/\∃i a,az X x ⟨k,hh,first,nb,count,0,b,g⟩ l a/\Wd X (Tv (pre++H i++post) fb (fb+1) fc cs a []) (m+nb+count+2) w,
   by rw[ad];exact JM,λw w' q hb=>q.below hb,λw q=>?_,λw rb q hr=>?_,?_,?_,?_,?_,?_,?_⟩
  ·have O:Wd X (Tv (pre++H 0++post) fb (fb+1) fc Z4 (P.rd 0) []) m w:=by rw[<-hZ,AZ];exact q
   exact O.row AL5
  ·have bc:=hc;have Q:Row w rb 28 [first,nb,k,count]:=by rw[<-OI];exact hr
   refine(qu (nr:=1) (rb:=rb) (cr:=1) hS (Aq _) rfl (Du _) q Ya (by rw[<-hc];exact hf.len) ?_ a5 ⟨a5,a5⟩ Q.lt (Q.cell 3) ?_).mono ?_
   ·rw[ad,Dz,GZ];show X.sz+(DC DA.gw (pre++H 0++post)+X.sz)<=X.rm;omega
   ·intro i hi;obtain rfl:i=0:=a5;refine⟨first,nb,k,count,⟨Q.cell 0,Q.cell 1,Q.cell 2,Q.cell 3⟩,by have:=hf.fst;omega,?_,.inr ?_⟩
    ·have h7:=hf.len;have h8:=Di hh l.length;have h9:=hf.bn;omega
    ·have aJ:Da first nb k hh l X.sz∈P.Z 0 (P.rd 0):=by
      rw[ad];rcases Ag.1 aa with hm|hm<;>simp[hm]
     obtain⟨j,hj⟩:=BC.1 aJ;exact⟨j,_,hj,rfl⟩
   ·rintro e w' (⟨F,M,z,he,J,-,O,q3,q4⟩|⟨er,z,he,q0,J,O,q3,q4⟩)
    ·obtain⟨i,a,rfl,U⟩:=aA z q3;rw[hZ]at q4;exact .inl ⟨F,M,he,J,i,a,U,q4⟩
    ·obtain⟨i,a,rfl,U⟩:=aA z q3;have q5:Wd X (Tv (pre++H i++post) fb (fb+1) fc Z4 a []) (m+nb+count+2) w':=by rw[<-hZ,AZ];exact q4
     refine .inr ⟨er,he,q0,?_,i,a,U,q5⟩;rcases J with(J|J)|⟨J,q6⟩
     ·exact J.elim
     ·exact .inl J
     ·refine .inr ⟨J,λqq hq=>q6 qq ?_⟩;rw[ad,<-AR,AR _ [Cs fb 28 fc,Cs (fb+1) 28 Z4]];exact VD hq λy hy=>by
       simp at hy;rcases hy with rfl|rfl|rfl<;>rfl
  ·rintro F M cs w x1 x2 x3 x4 al ⟨J,i,a,U,O⟩;exact⟨J,i,a,U,Uf al O x1 x2 x3 x4⟩
  ·rintro er cs w x1 x2 x3 x4 al ⟨J,i,a,U,O⟩;exact⟨J,i,a,U,Uf al O x1 x2 x3 x4⟩
  ·rintro F M cs w ⟨J,i,a,U,O⟩;exact O.row QX
  ·rintro er cs w ⟨J,i,a,U,O⟩;exact O.row QX
  ·rintro F M cs w u ⟨J,i,a,U,O⟩;refine(MF u O oY U).mono ?_;rintro e u' w' ⟨k1,k2,j,k3⟩;rw[Ug]at k3;exact⟨k1,k2,k3.row QX,.inl ⟨F,M,i,rfl,J,cy ⟨rfl,rfl⟩ k3⟩⟩
  ·rintro er cs w u gX ⟨J,i,a,U,O⟩;refine(MF u O oY U).mono ?_;rintro e u' w' ⟨k1,k2,j,k3⟩;rw[Ug]at k3;have k4:=cy ⟨rfl,rfl⟩ k3;rw[AZ]at k4;exact⟨k1,k2,k3.row QX,.inr ⟨er,i,rfl,gX,J,k4⟩⟩
 have KU:=AO G9;have av:=AO OI;generalize Gr:OF X pre post H (outL I8 l count) m nb count width=Dd at*
 generalize(outL I8 l count).length=ol at*
 clear hH h hf aa hc Ya gL ab hn DV h1 DN h2 GZ G9 Gr;subst LI;go_enter_defers func93,ntmps93
 go_upto_region 1 with(fail)
 rw[<-KU.out];clear KU;generalize hs0:W.heap.size=s0 at*
 have ar:=RA.out;rw[av.out]at ar;obtain⟨a0,a1,a2,a3⟩:=ar.q4;have Qf:=AO (LJ.out W2 (AS _ _));clear ar;go_wp2_with fail
 refine Qf.out.mono ?_;rintro e w3 ⟨x,b,g,rfl,GL,UJ⟩;obtain⟨A,C,N,hA,aH,xS,aI,aE,aB,aF,aC,aG,aD⟩:=Lk.out x b g w3 GL UJ;have HA:=AO hA;have dU:=AO aH;have jk:=AO xS;have bb:=AO aI;have a6:=AO aE;have aX:=AO aB;have a7:=AO aF;have vO:=AO aC;have ba:=AO aG;have aY:=AO aD;clear hA aH xS aI aE aB aF aC aG aD GL UJ Lk LJ Qf RA a0 a1 a2 a3;have yK:=AO (dU.out w3 _ HA.out ((AS w3 w3).alloc ao (AK #[.func (.func 48) #[AI x] #[],.func (.func fH) #[] I] 175)));have aw:Row (w3.alloc (AK #[.func (.func 48) #[AI x] #[],.func (.func fH) #[] I] 175)) w3 175 [.func (.func 48) #[AI x] #[],.func (.func fH) #[] I]:=heap_alloc_new _ _;have a9:=AO aw;clear aw;go_upto_region 6 with(fail)
 generalize w3.alloc (AK #[.func (.func 48) #[AI x] #[],.func (.func fH) #[] I] 175)=w4 at*
 generalize w3.heap.size=cb at*
 have JU:=jk.out _ yK.out;rw[av.out]at JU;obtain⟨a0,a1,a2,a3⟩:=JU.q4;obtain⟨b0,b1⟩:=a9.out.q2;have jJ:=AO (dU.out w4 _ yK.out ((AS w4 w4).alloc ao (AK #[first,nb,k,count] 28)));have I5:Row (w4.alloc (AK #[first,nb,k,count] 28)) w4 28 fc:=by rw[av.out];exact heap_alloc_new _ _
 have HL:=AO (bb.out _ _ jJ.out I5);clear JU I5;go_wp2_with fail
 refine HL.out.mono ?_;rintro e w6 (⟨F,M,rfl,hc⟩|⟨er,rfl,De,hn⟩)
 ·have Q9:=AO (a7.out _ _ _ _ hc);have H9:=AO (a6.out F M Z4 w6 F M width ol rfl hc);clear hc a0 a1 a2 a3 b0 b1 HL jJ;obtain⟨z0,z1,z2,z3⟩:=Q9.out.q4;obtain⟨f0,f1,f2,f3⟩:=Q9.out.r4;go_wp2
  refine Ay (f:=47) (args:=#[AI x]) a8 (by simp[go_sem]) ?_;refine(ba.out _ _ _ _ _ H9.out).mono ?_;rintro e u' Ej ⟨rfl,rfl,Dx,D5⟩;have r0:=Dx.cell 0;have r1:=Dx.cell 1;have r2:=Dx.cell 2;have r3:=Dx.cell 3;simp only[AW,AV]at r0 r1 r2 r3;exact⟨AM #[AL #[F,M,width,ol],()],by simp[results,Tryz.results93,go_sem,r0,r1,r2,r3],D5⟩
 ·have T0:=AO De;have Q9:=AO (vO.out _ _ _ hn);have H9:=AO (aX.out er Z4 w6 () () () () rfl hn);clear hn De a0 a1 a2 a3 b0 b1 HL jJ;obtain⟨z0,z1,z2,z3⟩:=Q9.out.q4;obtain⟨f0,f1,f2,f3⟩:=Q9.out.r4;go_wp2
  refine Ay (f:=47) (args:=#[AI x]) a8 (by simp[go_sem]) ?_;refine(aY.out _ _ _ _ T0.out H9.out).mono ?_;rintro e u' Ej ⟨rfl,rfl,Dx,D5⟩;have r0:=Dx.cell 0;have r1:=Dx.cell 1;have r2:=Dx.cell 2;have r3:=Dx.cell 3;simp only[AW,AV]at r0 r1 r2 r3;exact⟨AM #[AL #[(),(),(),()],er],by simp[results,Tryz.results93,go_sem,r0,r1,r2,r3],D5⟩
end
def DP(t:Cv)(i:Nat):Int:=t.D8.getD i 0
def Fb(k:Int):Nat:=k.natAbs-1
theorem sr{k}(h:0<k):((Fb k:Nat):Int)=k-1:=by unfold Fb;omega
theorem su{k}(h:k<0):((Fb k:Nat):Int)=-k-1:=by unfold Fb;omega
def Fm(o:Cv):Prop:=∀i,i<5->(-5<=DP o i/\DP o i<=5)/\∀k,k<i->DP o i≠0->DP o k≠0/\Fb (DP o k)≠Fb (DP o i)
instance fmDec (o : Cv) : Decidable (Fm o) := by unfold Fm; exact inferInstance
def cmpL:List Int->Cv->Cv->Int
 |[],_,_=>0
 |k::ks,a,b=>if k=0 then 0 else if DP a (Fb k)=DP b (Fb k)then cmpL ks a b else if decide (DP a (Fb k)<DP b (Fb k))=decide (0<k)then -1 else 1
def DR(o a b:Cv):Int:=if Fm o then cmpL o.D8 a b else 0
theorem Ht(e:List Int)(a b:Cv):cmpL (0::e) a b=0:=by unfold cmpL;rw[if_pos rfl]
theorem KF{k}(I:k≠0)(e:List Int){a b}(H:DP a (Fb k)=DP b (Fb k)):cmpL (k::e) a b=cmpL e a b:=by rw[cmpL,if_neg I,if_pos H]
theorem IS{k}(I:k≠0)(e:List Int){a b}(H:DP a (Fb k)<DP b (Fb k)):cmpL (k::e) a b=if 0<k then -1 else 1:=by
 rw[cmpL,if_neg I,if_neg a5];by_cases h4:0<k<;>simp[H,h4]
theorem IT{k}(I:k≠0)(e:List Int){a b}(J:DP b (Fb k)<DP a (Fb k)):cmpL (k::e) a b=if 0<k then 1 else -1:=by
 rw[cmpL,if_neg I,if_neg a5];have H:¬DP a (Fb k)<DP b (Fb k):=a5;by_cases h4:0<k<;>simp[H,h4]
theorem Ud:∀(e:List Int) (a b:Cv),cmpL e a b=-cmpL e b a
 |[],_,_=>rfl
 |k::e,a,b=>by
  by_cases H:k=0
  ·rw[H,Ht,Ht];rfl
  ·rcases Ck (DP a (Fb k)) (DP b (Fb k))with h|h|h
   ·rw[IS H e h,IT H e h];split<;>rfl
   ·rw[KF H e h,KF H e h.symm];exact Ud e a b
   ·rw[IT H e h,IS H e h];split<;>rfl
theorem Sz:∀(e:List Int) (a b c:Cv),cmpL e a b<=0->cmpL e b c<=0->cmpL e a c<=0
 |[],_,_,_=>λ_ _=>Int.le_refl _
 |k::e,a,b,c=>by
  by_cases H:k=0
  ·rw[H,Ht,Ht,Ht];omega
  ·rcases Ck (DP a (Fb k)) (DP b (Fb k))with h|h|h
   ·rw[IS H e h];intro J;have I:0<k:=by
     by_cases I:0<k
     ·exact I
     ·rw[if_neg I]at J;omega
    rcases Ck (DP b (Fb k)) (DP c (Fb k))with g|g|g
    ·rw[IS H e (a:=a) (b:=c) a5,if_pos I];omega
    ·rw[IS H e (a:=a) (b:=c) a5,if_pos I];omega
    ·rw[IT H e g,if_pos I];omega
   ·rcases Ck (DP b (Fb k)) (DP c (Fb k))with g|g|g
    ·rw[IS H e g,IS H e (a:=a) (b:=c) a5];exact λ_ h=>h
    ·rw[KF H e h,KF H e g,KF H e (h.trans g)];exact Sz e a b c
    ·rw[IT H e g,IT H e (a:=a) (b:=c) a5];exact λ_ h=>h
   ·rw[IT H e h];intro J;have I:¬0<k:=by
     intro I;rw[if_pos I]at J;omega
    rcases Ck (DP b (Fb k)) (DP c (Fb k))with g|g|g
    ·rw[IS H e g,if_neg I];omega
    ·rw[IT H e (a:=a) (b:=c) a5,if_neg I];omega
    ·rw[IT H e (a:=a) (b:=c) a5,if_neg I];omega
theorem Dv(o a b:Cv):DR o a b=-DR o b a:=by
 unfold DR;split
 ·exact Ud _ _ _
 ·rfl
theorem FQ{o a b c}(H:DR o a b<=0)(e:DR o b c<=0):DR o a c<=0:=by
 unfold DR at*
 by_cases h:Fm o
 ·rw[if_pos h]at*;exact Sz _ _ _ _ H e
 ·rw[if_neg h]at*;exact Int.le_refl _
theorem P5(o a:Cv):DR o a a=0:=by have:=Dv o a a;omega
def Tu(ks:List Int)(t:Cv):List Int:=(ks.takeWhile λk=>k≠0).map λk=>DP t (Fb k)
def Tk(l:List Int):Cv:=⟨l.getD 0 0,l.getD 1 0,l.getD 2 0,l.getD 3 0,l.getD 4 0⟩
def FH(o t:Cv):Cv:=if Fm o then Tk (Tu o.D8 t)else Cu
theorem YB(e:List Int)(t:Cv):(Tu e t).length=(e.takeWhile λk=>k≠0).length:=by unfold Tu;rw[Aj]
def Srt(o:Cv)(l:List Cv):Prop:=∀i,i+1<l.length->DR o (l.getD i Cu) (l.getD (i+1) Cu)<=0
section
variable{X:Cx}
theorem bw{os H tail R M cs w}(h:Wd X (os++H++[Cs R 28 cs]++tail) M w):Row w R 28 cs:=h.row (i:=(os++H).length) a8
theorem UE{os H tail R M cs w}(J:cs.length=4)(h:Wd X (os++H++[Cs R 28 cs]++tail) M w)(x1 x2 x3 x4:Value):Wd X (os++H++[Cs R 28 [x1,x2,x3,x4]]++tail) M ((((w.setCell R x1).setCell (R,1) x2).setCell (R,2) x3).setCell (R,3) x4):=by
 have I:∀cs,(os++H++[Cs R 28 cs]++tail)[(os++H).length]?=AE (Cs R 28 cs):=λcs=>by simp
 have e:∀cs JX,(os++H++[Cs R 28 cs]++tail).set (os++H).length (Cs R 28 JX)=os++H++[Cs R 28 JX]++tail:=λcs JX=>by
  rw[AR _ [Cs R 28 cs],As _ _ ao,Ap,AR _ [Cs R 28 JX]];rfl
 have Q:=h.store (I _) a6 0 x1;rw[e]at Q;have O:=Q.store (I _) a6 1 x2;rw[e]at O;have h3:=O.store (I _) a6 2 x3;rw[e]at h3;have h4:=h3.store (I _) a6 3 x4;rw[e]at h4
 match cs,J with
 |[c1,c2,c3,c4],_=>exact h4
theorem bz{os H tail R M cs w}(I:Dn H)(h:Wd X (os++H++[Cs R 28 cs]++tail) M w):Wd X (os++tail) M w:=by
 have J:Wd X (os++(H++[Cs R 28 cs])++tail) M w:=by simpa [AR]using h
 refine Wd.Fy _ (λq e=>?_) J;rcases Ag.1 e with e|e
 ·exact I q e
 ·simp at e;subst e;exact⟨rfl,rfl⟩
end
theorem lt5{k}(h:k<5):k=0\/k=1\/k=2\/k=3\/k=4:=a5
theorem rK(t:Cv){k}(e:k<5):(DE t)[k]?=AE (AA AB (DP t k)):=by
 rcases lt5 e with rfl|rfl|rfl|rfl|rfl<;>rfl
section
variable{X:Cx}{m:Nat}{W:World}
theorem Zq(Y zz:List DA)(n:Nat)(h:Y.length=n):n+zz.length=(Y++zz).length:=by subst h;simp
theorem y6{Y zz}{c d:DA}{n}(h:Y.length=n):(Y++(zz++[c,d]))[n+zz.length]?=AE c:=by
 rw[Zq Y zz n h,<-AR];simp
theorem mI{Y zz}{c d:DA}{n}(h:Y.length=n):(Y++(zz++[c,d]))[n+zz.length+1]?=AE d:=by
 rw[Zq Y zz n h,<-AR,AX a5,show (Y++zz).length+1-(Y++zz).length=1 by omega];rfl
theorem tD{Y zz}{c d x:DA}{n}(h:Y.length=n):(Y++(zz++[c,d])).set (n+zz.length+1) x=Y++(zz++[c,x]):=by
 rw[Zq Y zz n h,<-AR,As _ _ a5,show (Y++zz).length+1-(Y++zz).length=1 by omega,AR];rfl
def O8(X:Cx)(os:List DA)(Out:List Cv)(m nb bd k:Nat)(e:Ending)(w':World):Prop:=
 (∃F N:Nat,e=AH (AM #[AL #[F,N,k,Out.length],()])/\GY F N k (Ct X.sz k) Out X.sz/\Wd X (os++[Da F N k (Ct X.sz k) Out X.sz]) (m+N+nb) w')\/
 (∃er:Nat,e=AH (AM #[AL #[(),(),(),()],er])/\0<er/\(er=6/\¬X.cm\/er=5/\∀q,¬Rm X os q (Cr (Ct X.sz k) bd))/\Wd X os (m+nb+bd+2) w')
theorem fQ{os H R nb bd k Out e w'}(Q:∀i,Dn (H i))(h:OF X os [Cs R 28 Z4] H Out m nb bd k e w'):
  ∃C:List Value->World->Prop,∃F N K L er:Nat,e=AH (AM #[AL #[F,N,K,L],er])/\C Z4 w'/\(∀cs w,C cs w->Row w R 28 cs)/\
   (∀cs w x1 x2 x3 x4,cs.length=4->C cs w->C [x1,x2,x3,x4] ((((w.setCell R x1).setCell (R,1) x2).setCell (R,2) x3).setCell (R,3) x4))/\
   (∀cs w,C cs w->O8 X os Out m nb bd k (AH (AM #[AL #[F,N,K,L],er])) w):=by
 rcases h with⟨F,N,i,he,NH,hw⟩|⟨er,i,he,De,Hw,hw⟩
 ·refine⟨λcs w=>Wd X (os++H i++[Cs R 28 cs]++[Da F N k (Ct X.sz k) Out X.sz]) (m+N+nb) w,F,N,k,Out.length,0,he,hw,λcs w q=>bw q,λcs w x1 x2 x3 x4 I q=>UE I q x1 x2 x3 x4,λcs w q=>.inl ⟨F,N,rfl,NH,bz (Q i) q⟩⟩
 ·refine⟨λcs w=>Wd X (os++H i++[Cs R 28 cs]++[]) (m+nb+bd+2) w,0,0,0,0,er,he,by show Wd X (os++H i++[Cs R 28 Z4]++[]) (m+nb+bd+2) w';rw[AZ];exact hw,λcs w q=>bw q,λcs w x1 x2 x3 x4 I q=>UE I q x1 x2 x3 x4,λcs w q=>.inr ⟨er,rfl,De,?_,by have O:=bz (Q i) q;rwa [AZ]at O⟩⟩;refine Hw.imp_right λ⟨U,O⟩=>⟨U,λz hz=>O z ?_⟩;rw[AR];refine VD hz λa J=>?_;rcases Ag.1 J with J|J
  ·exact(Q 0 a J).2
  ·simp at J;subst J;rfl
end
def clm(k:Int):Int:=if k<0 then -k-1 else k-1
theorem Vp{k}(h:k≠0):clm k=((Fb k:Nat):Int):=by
 unfold clm
 split
 ·rw[su a5]
 ·rw[sr a5]
theorem Zl{k}(e:k≠0)(h:-5<=k/\k<=5):Fb k<5:=by unfold Fb;omega
def Q7(t:Cv):List Value:=[t.a,t.b,t.c,t.d,t.e]
theorem O6{W g T t}(h:Row W g T (Q7 t)){i}(hi:i<5):W.cell? (g,i)=AE (AA AB (DP t i)):=by
 rw[h.cell i]
 match i,hi with
 |0,_=>rfl
 |1,_=>rfl
 |2,_=>rfl
 |3,_=>rfl
 |4,_=>rfl
theorem FJ{B a w}(h:Below B a w)(q:Nat):Below B a (w.drewN q):=⟨h.os,h.tape,h.output,h.size,h.block⟩
def bM(o:Cv)(i:Nat):Prop:=(-5<=DP o i/\DP o i<=5)/\∀k,k<i->DP o i≠0->DP o k≠0/\Fb (DP o k)≠Fb (DP o i)
theorem uZ{o i}(hi:i<5):o.D8.drop i=DP o i::o.D8.drop (i+1):=by
 match i,hi with
 |0,_=>rfl
 |1,_=>rfl
 |2,_=>rfl
 |3,_=>rfl
 |4,_=>rfl
theorem oL(o:Cv):o.D8.drop 5=[]:=rfl
theorem Vo(k:Int)(H:-5<=k/\k<=5)(w:World):Calls AP 112 #[k] w λe w'=>e=AH (AA AB (clm k))/\w'=w:=by
 by_cases h:k<0
 ·have g:decide (k<0)=true:=by simpa using h
  have e:clm k=-k-1:=by unfold clm;rw[if_pos h]
  rw[e];go_enter func112,ntmps112
  go_wp2
  go_ret
  exact⟨rfl,rfl⟩
 ·have g:decide (k<0)=false:=by simpa using h
  have e:clm k=k-1:=by unfold clm;rw[if_neg h]
  rw[e];go_enter func112,ntmps112
  go_wp2
  go_ret
  exact⟨rfl,rfl⟩
def S3(x y:Int):Int:=if x<y then -1 else if x=y then 0 else 1
theorem cB(k:Int)(w:World):Calls AP 188 #[k] w λe w'=>e=AH false/\w'=w:=by
 have g:(k !=k)=false:=a8;go_enter func188,ntmps188
 go_wp2
 go_ret
 exact⟨rfl,rfl⟩
theorem mQ(x y:Int)(w:World):Calls AP 187 #[x,y] w λe w'=>e=AH (AA AB (S3 x y))/\w'=w:=by
 have I:=AO (cB x);have H:=AO (cB y);rcases Ck x y with h|h|h
 ·have e:S3 x y=-1:=by unfold S3;rw[if_pos h]
  have g:decide (x<y)=true:=by simpa using h
  rw[e];clear h e;go_enter func187,ntmps187
  go_wp2_with fail
  refine(I.out _).mono ?_;rintro e w2 ⟨rfl,rfl⟩;go_wp2_with fail
  refine(H.out _).mono ?_;rintro e w3 ⟨rfl,rfl⟩;go_wp2
  go_ret
  exact⟨rfl,rfl⟩
 ·have e:S3 x y=0:=by unfold S3;rw[if_neg a5,if_pos h]
  have g:decide (x<y)=false:=by simp;omega
  have J:decide (x>y)=false:=by simp;omega
  rw[e];clear h e;go_enter func187,ntmps187
  go_wp2_with fail
  refine(I.out _).mono ?_;rintro e w2 ⟨rfl,rfl⟩;go_wp2_with fail
  refine(H.out _).mono ?_;rintro e w3 ⟨rfl,rfl⟩;go_wp2
  go_ret
  exact⟨rfl,rfl⟩
 ·have e:S3 x y=1:=by unfold S3;rw[if_neg a5,if_neg a5]
  have g:decide (x<y)=false:=by simp;omega
  have J:decide (x>y)=true:=by simp;omega
  rw[e];clear h e;go_enter func187,ntmps187
  go_wp2_with fail
  refine(I.out _).mono ?_;rintro e w2 ⟨rfl,rfl⟩;go_wp2_with fail
  refine(H.out _).mono ?_;rintro e w3 ⟨rfl,rfl⟩;go_wp2
  go_ret
  exact⟨rfl,rfl⟩
theorem S9(w:World)(a b:List Value)(A B:TypeId):∃W1,W1=(w.alloc (.cells a.toArray A)).alloc (.cells b.toArray B)/\Below w.heap.size w W1/\W1.heap.size=w.heap.size+2/\Row W1 w.heap.size A a/\Row W1 (w.heap.size+1) B b:=by
 have b1:Below w w (w.alloc (.cells a.toArray A)):=(AS _ _).alloc ao _;have H:Row (w.alloc (.cells a.toArray A)) w A a:=heap_alloc_new _ _;have e:(w.alloc (.cells a.toArray A)).heap.size=w+1:=a8;refine⟨_,rfl,b1.alloc a5 _,a8,H.alloc _,?_⟩;rw[<-e];exact heap_alloc_new _ _
theorem Vs(w:World)(a b c:List Value)(A B C:TypeId):∃W1,W1=((w.alloc (.cells a.toArray A)).alloc (.cells b.toArray B)).alloc (.cells c.toArray C)/\Below w.heap.size w W1/\W1.heap.size=w.heap.size+3/\Row W1 w.heap.size A a/\Row W1 (w.heap.size+1) B b/\Row W1 (w.heap.size+2) C c:=by
 obtain⟨W,e,b1,H,J,I⟩:=S9 w a b A B;refine⟨_,rfl,?_⟩;rw[<-e];refine⟨b1.alloc a5 _,by simp[H],J.alloc _,I.alloc _,?_⟩;rw[<-H];exact heap_alloc_new _ _
theorem AA9(w:World)(a b c d:List Value)(A B C D:TypeId):∃W1,W1=(((w.alloc (.cells a.toArray A)).alloc (.cells b.toArray B)).alloc (.cells c.toArray C)).alloc (.cells d.toArray D)/\Below w.heap.size w W1/\W1.heap.size=w.heap.size+4/\Row W1 w.heap.size A a/\Row W1 (w.heap.size+1) B b/\Row W1 (w.heap.size+2) C c/\Row W1 (w.heap.size+3) D d:=by
 obtain⟨W,e,b1,H,O,J,I⟩:=Vs w a b c A B C;refine⟨_,rfl,?_⟩;rw[<-e];refine⟨b1.alloc a5 _,by simp[H],O.alloc _,J.alloc _,I.alloc _,?_⟩;rw[<-H];exact heap_alloc_new _ _
theorem M3(T:TypeId)(hT:T=132)(o:Cv){i:Nat}(hi:i<5)(w:World):(CR T (AL #[o.a,o.b,o.c,o.d,o.e]) i).run AP w=.ok (AA AB (DP o i)) w:=by
 subst hT
 match i,hi with
 |0,_=>exact(by kernel_rfl:(CR 132 (AL #[o.a,o.b,o.c,o.d,o.e]) ()).run AP w=.ok o.a w)
 |1,_=>exact(by kernel_rfl:(CR 132 (AL #[o.a,o.b,o.c,o.d,o.e]) (AA AB 1)).run AP w=.ok o.b w)
 |2,_=>exact(by kernel_rfl:(CR 132 (AL #[o.a,o.b,o.c,o.d,o.e]) (AA AB 2)).run AP w=.ok o.c w)
 |3,_=>exact(by kernel_rfl:(CR 132 (AL #[o.a,o.b,o.c,o.d,o.e]) (AA AB 3)).run AP w=.ok o.d w)
 |4,_=>exact(by kernel_rfl:(CR 132 (AL #[o.a,o.b,o.c,o.d,o.e]) (AA AB 4)).run AP w=.ok o.e w)
def QZ(s:List Bool):List Value:=s.map Value.bool
theorem oh{s c}(h:c<s.length):(QZ s)[c]?=AE (.bool (s.getD c false)):=by
 unfold QZ;rw[Bd,AU h,AT,AU h];rfl
theorem iX(s:List Bool)(c:Nat)(b:Bool):(QZ s).set c b=QZ (s.set c b):=by
 unfold QZ;rw[List.map_set]
theorem LW(o:Cv)(w:World):Calls AP 91 #[AL #[o.a,o.b,o.c,o.d,o.e]] w λe w'=>e=AH (.bool (decide (Fm o)))/\Below w w w':=by
 obtain⟨W1,EB,b1,s1,r1,r2⟩:=S9 w [o.a,o.b,o.c,o.d,o.e] [false,false,false,false,false] 132 172;have E0:=AO EB;have HB:=AO b1;have PF:=AO s1;have Qf:Hid (Row W1 (w+1) 172 (QZ [false,false,false,false,false])):=r2;obtain⟨d0,d1,d2,d3,d4⟩:=r1.q5;have Nh:Hid (∀i,i<5->¬bM o i->decide (Fm o)=false):=λi hi h=>decide_eq_false λhf=>h (hf i hi);have o8:Hid ((∀i,i<5->bM o i)->decide (Fm o)=true):=λh=>decide_eq_true h;have ao:Hid (∀i:Nat,i<5->∀W:World,(CR 132 (AL #[o.a,o.b,o.c,o.d,o.e]) i).run AP W=.ok (AA AB (DP o i)) W):=λi hi W=>M3 _ rfl o hi W;generalize decide (Fm o)=res at*
 clear r1 r2 b1 s1 EB;go_enter func91,ntmps91
 go_upto_region 2 with(fail)
 rw[<-E0.out];clear E0;go_wp2_with fail
 go_loopw [4,8] (λev iv wr=>∃(i:Nat) (e:Bool) (s:List Bool),i<=5/\iv=AA AB (i:Int)/\ev=.bool e/\Hid (Below w.heap.size w wr)/\Hid (w.heap.size+2<=wr.heap.size)/\Hid (Row wr (w.heap.size+1) 172 (QZ s))/\Hid (s.length=5)/\Hid (∀j,j<i->bM o j)/\Hid (e=true↔∃j,j<i/\DP o j=0)/\Hid (∀c,c<5->(s.getD c false=true↔∃j,j<i/\DP o j≠0/\Fb (DP o j)=c))) (λ_ iv _=>5-(BF iv).toNat)
 case atStart=>
  refine⟨0,false,[false,false,false,false,false],a5,rfl,rfl,HB.out,Nat.le_of_eq PF.out.symm,Qf.out,rfl,λj J=>by omega,⟨λh=>(by cases h),λ⟨j,J,_⟩=>a5⟩,λc hc=>⟨λh=>?_,λ⟨j,J,_⟩=>a5⟩⟩
  match c,hc with
  |0,_=>cases h
  |1,_=>cases h
  |2,_=>cases h
  |3,_=>cases h
  |4,_=>cases h
 case round=>
  obtain⟨i,e,s,hi,rfl,rfl,HW,HZ,HR,aa,HF,HE,HS⟩:=hrel;clear HB PF Qf;by_cases Q:i<5
  ·have g1:decide ((i:Int)<5)=true:=by simp;omega
   have i0:(0:Int)<=(i:Int):=a5;have i1:(i:Int)<5:=a5;obtain⟨x,hx⟩:=ae (DP o i);have O:=AO hx;have ar:∀W:World,(CR 132 (AL #[o.a,o.b,o.c,o.d,o.e]) i).run AP W=.ok x W:=λW=>by rw[hx];exact ao.out i Q W
   clear hx;by_cases I:x=0
   ·have gx:(x==0)=true:=by simpa using I
    have ad:decide (x=0)=true:=by simpa using I
    have RA:Hid (∀j,j<i+1->bM o j):=λj J=>by
     by_cases e:j=i
     ·rw[e];unfold bM;rw[<-O.out,I];exact⟨a5,λk _ h=>absurd rfl h⟩
     ·exact HF.out j a5
    have PI:Hid (true=true↔∃j,j<i+1/\DP o j=0):=⟨λ_=>⟨i,a5,by rw[<-O.out,I]⟩,λ_=>rfl⟩;have Ly:Hid (∀c,c<5->(s.getD c false=true↔∃j,j<i+1/\DP o j≠0/\Fb (DP o j)=c)):=λc hc=>by
     rw[HS.out c hc];refine⟨λ⟨j,J,h⟩=>⟨j,a5,h⟩,λ⟨j,J,h⟩=>⟨j,?_,h⟩⟩;by_cases e:j=i
     ·rw[e,<-O.out]at h;exact absurd I h.1
     ·omega
    clear I HF HE HS;go_wp2
    go_roundw
    case rel=>exact⟨i+1,true,s,a5,by go_num,rfl,HW.out,HZ.out,HR.out,aa.out,RA.out,PI.out,Ly.out⟩
    case measure=>simp[BF];omega
   ·have gx:(x==0)=false:=by simpa using I
    have ad:decide (x=0)=false:=by simpa using I
    cases e with
    |true=>
     have H:res=false:=Nh.out i Q λh=>by
      obtain⟨j,J,h0⟩:=HE.out.1 rfl;exact(h.2 j J (by rw[<-O.out];exact I)).1 h0
     subst H;clear I;go_wp2
     go_ret
     exact⟨rfl,HW.out⟩
    |false=>
     by_cases h1:x< -5
     ·have H:res=false:=Nh.out i Q λh=>by have:=h.1;rw[<-O.out]at this;omega
      have g2:decide (x< -5)=true:=by simpa using h1
      subst H;clear I;go_wp2
      go_ret
      exact⟨rfl,HW.out⟩
     ·have g2:decide (x< -5)=false:=by simpa using h1
      by_cases h2:x>5
      ·have H:res=false:=Nh.out i Q λh=>by have:=h.1;rw[<-O.out]at this;omega
       have g3:decide (x>5)=true:=by simpa using h2
       subst H;clear I;go_wp2
       go_ret
       exact⟨rfl,HW.out⟩
      ·have g3:decide (x>5)=false:=by simpa using h2
       have Lo:-5<=x/\x<=5:=⟨a5,a5⟩;have av:=AO Lo;have jV:=Zl I Lo;have HQ:=AO (Vo x Lo);rw[Vp I]at HQ;obtain⟨b,hb⟩:=ae (s.getD (Fb x) false);have cb:wr.cell? ⟨w+1,Fb x,AD⟩=AE (.bool b):=by rw[HR.out.cell,oh (by rw[aa.out];exact jV),hb]
       have fz:=HR.out.free (Fb x);have U:=HS.out (Fb x) jV;rw[<-hb]at U;have k0:(0:Int)<=((Fb x:Nat):Int):=a5;have k1:((Fb x:Nat):Int)<5:=a5
       cases b with
       |true=>
        have H:res=false:=Nh.out i Q λh=>by
         obtain⟨j,J,h0,hk⟩:=U.1 rfl;exact(h.2 j J (by rw[<-O.out];exact I)).2 (by rw[hk,<-O.out])
        subst H;clear I h1 h2 U Lo hb;generalize Fb x=c at*
        go_wp2_with fail
        refine(HQ.out _).mono ?_;rintro e w2 ⟨rfl,rfl⟩;go_wp2
        go_ret
        exact⟨rfl,HW.out⟩
       |false=>
        have ab:∀j,j<i->DP o j≠0:=λj J h=>by have:=HE.out.2 ⟨j,J,h⟩;cases this
        have RA:Hid (∀j,j<i+1->bM o j):=λj J=>by
         by_cases e:j=i
         ·rw[e];unfold bM;rw[<-O.out];exact⟨Lo,λk hk _=>⟨ab k hk,λh=>by have:=U.2 ⟨k,hk,ab k hk,h⟩;cases this⟩⟩
         ·exact HF.out j a5
        have PI:Hid (false=true↔∃j,j<i+1/\DP o j=0):=⟨λh=>(by cases h),λ⟨j,J,h⟩=>by
         by_cases e:j=i
         ·rw[e,<-O.out]at h;exact absurd h I
         ·exact absurd h (ab j a5)⟩
        have Ly:Hid (∀c,c<5->((s.set (Fb x) true).getD c false=true↔∃j,j<i+1/\DP o j≠0/\Fb (DP o j)=c)):=λc hc=>by
         rw[AT,Av];by_cases ec:Fb x=c
         ·rw[if_pos ec,if_pos (by have:=aa.out;omega)];exact⟨λ_=>⟨i,a5,by rw[<-O.out];exact I,by rw[<-O.out];exact ec⟩,λ_=>rfl⟩
         ·rw[if_neg ec,<-AT,HS.out c hc];refine⟨λ⟨j,J,h⟩=>⟨j,a5,h⟩,λ⟨j,J,h⟩=>⟨j,?_,h⟩⟩;by_cases e:j=i
          ·rw[e,<-O.out]at h;exact absurd h.2 ec
          ·omega
        have vR:Hid ((s.set (Fb x) true).length=5):=by unfold Hid;rw[Bk];exact aa.out
        have Gb:Hid (Row (wr.setCell ⟨w+1,Fb x,AD⟩ true) (w+1) 172 (QZ (s.set (Fb x) true))):=by
         have:=HR.out.set (Fb x) true;rw[iX]at this;exact this
        have Jy:Hid (Below w w (wr.setCell ⟨w+1,Fb x,AD⟩ true)):=HW.out.setCell (p:=⟨w+1,Fb x,AD⟩) a8 _;have al:Hid (w+2<=(wr.setCell ⟨w+1,Fb x,AD⟩ true).heap.size):=by unfold Hid;simp;exact HZ.out
        clear I h1 h2 U Lo hb ab HF HE HS aa HR HW HZ;generalize s.set (Fb x) true=s2 at*
        generalize Fb x=c at*
        go_wp2_with fail
        refine(HQ.out _).mono ?_;rintro e w2 ⟨rfl,rfl⟩;go_wp2_with fail
        refine(HQ.out _).mono ?_;rintro e w2 ⟨rfl,rfl⟩;go_wp2
        go_roundw
        case rel=>exact⟨i+1,false,s2,a5,by go_num,rfl,Jy.out,al.out,Gb.out,vR.out,RA.out,PI.out,Ly.out⟩
        case measure=>simp[BF];omega
  ·have g1:decide ((i:Int)<5)=false:=by simp;omega
   have H:res=true:=o8.out λj J=>HF.out j a5;subst H;go_wp2
   go_ret
   exact⟨rfl,HW.out⟩
theorem X9(o t:Cv):∀i,i<=5->(∀j,j<i->DP o j≠0)->(i=5\/DP o i=0)->Tu o.D8 t=(o.D8.take i).map λk=>DP t (Fb k):=by
  obtain⟨a,b,c,d,e⟩:=o;intro i hi H O;have J:DP ⟨a,b,c,d,e⟩ 0=a:=rfl;have U:DP ⟨a,b,c,d,e⟩ 1=b:=rfl;have e2:DP ⟨a,b,c,d,e⟩ 2=c:=rfl;have e3:DP ⟨a,b,c,d,e⟩ 3=d:=rfl;have e4:DP ⟨a,b,c,d,e⟩ 4=e:=rfl;unfold Tu Cv.D8
  match i,hi with
  | 0,_=>
    have:a=0:=by
     rcases O with h|h
     · omega
     · rw[J]at h;exact h
    simp[this]
  | 1,_=>
    have I:a≠0:=by have:=H 0 a5;rwa [J]at this
    have:b=0:=by
     rcases O with h|h
     · omega
     · rw[U]at h;exact h
    simp[I,this]
  | 2,_=>
    have I:a≠0:=by have:=H 0 a5;rwa [J]at this
    have f1:b≠0:=by have:=H 1 a5;rwa [U]at this
    have:c=0:=by
     rcases O with h|h
     · omega
     · rw[e2]at h;exact h
    simp[I,f1,this]
  | 3,_=>
    have I:a≠0:=by have:=H 0 a5;rwa [J]at this
    have f1:b≠0:=by have:=H 1 a5;rwa [U]at this
    have Q:c≠0:=by have:=H 2 a5;rwa [e2]at this
    have:d=0:=by
     rcases O with h|h
     · omega
     · rw[e3]at h;exact h
    simp[I,f1,Q,this]
  | 4,_=>
    have I:a≠0:=by have:=H 0 a5;rwa [J]at this
    have f1:b≠0:=by have:=H 1 a5;rwa [U]at this
    have Q:c≠0:=by have:=H 2 a5;rwa [e2]at this
    have f3:d≠0:=by have:=H 3 a5;rwa [e3]at this
    have:e=0:=by
     rcases O with h|h
     · omega
     · rw[e4]at h;exact h
    simp[I,f1,Q,f3,this]
  | 5,_=>
    have I:a≠0:=by have:=H 0 a5;rwa [J]at this
    have f1:b≠0:=by have:=H 1 a5;rwa [U]at this
    have Q:c≠0:=by have:=H 2 a5;rwa [e2]at this
    have f3:d≠0:=by have:=H 3 a5;rwa [e3]at this
    have f4:e≠0:=by have:=H 4 a5;rwa [e4]at this
    simp[I,f1,Q,f3,f4]
theorem eA{o i}(hi:i<5):o.D8.take (i+1)=o.D8.take i++[DP o i]:=by
 match i,hi with
 |0,_=>rfl
 |1,_=>rfl
 |2,_=>rfl
 |3,_=>rfl
 |4,_=>rfl
theorem uy{l i}(e:l.length=i)(hi:i<5)(x:Int):(Q7 (Tk l)).set i x=Q7 (Tk (l++[x])):=by
 subst e
 match l,hi with
 |[],_=>rfl
 |[_],_=>rfl
 |[_,_],_=>rfl
 |[_,_,_],_=>rfl
 |[_,_,_,_],_=>rfl
theorem AF0{w g T a b c d e}(h:Row w g T [a,b,c,d,e])(Q O J I H:Value):Row (((((w.setCell g Q).setCell (g,1) O).setCell (g,2) J).setCell (g,3) I).setCell (g,4) H) g T [Q,O,J,I,H]:=
 ((((h.set 0 Q).set 1 O).set 2 J).set 3 I).set 4 H
theorem kH(o t:Cv)(w:World):Calls AP 95 #[AL #[t.a,t.b,t.c,t.d,t.e],AL #[o.a,o.b,o.c,o.d,o.e]] w λe w'=>e=AH (AL #[AA AB (FH o t).a,AA AB (FH o t).b,AA AB (FH o t).c,AA AB (FH o t).d,AA AB (FH o t).e])/\Below w w w':=by
 obtain⟨W1,EB,DV,s1,r1,O,U,Q⟩:=AA9 w [t.a,t.b,t.c,t.d,t.e] [o.a,o.b,o.c,o.d,o.e] [(),(),(),(),()] [(),(),(),(),()] 47 132 47 47;have E0:=AO EB;have PF:=AO s1;have Gb:=AO U;have LK:Hid (Row W1 (w+3) 47 (Q7 (Tk []))):=Q;have KC:Hid (∀W,Below (w+3) W1 W->Below w w W/\∀i,i<5->W.cell? (w,i)=AE (AA AB (DP t i))):=λW hb=>
  ⟨DV.trans (hb.mono a5),λi hi=>O6 (r1.below hb a5) hi⟩
 obtain⟨d0,d1,d2,d3,d4⟩:=O.q5;have YO:=AO O;have qY:=AO (LW o);have av:Hid (∀i:Nat,i<5->∀W:World,(CR 132 (AL #[o.a,o.b,o.c,o.d,o.e]) i).run AP W=.ok (AA AB (DP o i)) W):=λi hi W=>M3 _ rfl o hi W;have Dr:Hid (∀(W:World) (u:Cv),Below (w.heap.size+3) W1 W->Row W (w.heap.size+2) 47 (Q7 Cu)->Row (((((W.setCell ⟨w.heap.size+2,0,AD⟩ (AA AB u.a)).setCell ⟨w.heap.size+2,1,AD⟩ (AA AB u.b)).setCell ⟨w.heap.size+2,2,AD⟩ (AA AB u.c)).setCell ⟨w.heap.size+2,3,AD⟩ (AA AB u.d)).setCell ⟨w.heap.size+2,4,AD⟩ (AA AB u.e)) (w.heap.size+2) 47 (Q7 u)/\Below w.heap.size w (((((W.setCell ⟨w.heap.size+2,0,AD⟩ (AA AB u.a)).setCell ⟨w.heap.size+2,1,AD⟩ (AA AB u.b)).setCell ⟨w.heap.size+2,2,AD⟩ (AA AB u.c)).setCell ⟨w.heap.size+2,3,AD⟩ (AA AB u.d)).setCell ⟨w.heap.size+2,4,AD⟩ (AA AB u.e))):=λW u hb hr=>by
  refine⟨AF0 hr (AA AB u.a) (AA AB u.b) (AA AB u.c) (AA AB u.d) (AA AB u.e),?_⟩;exact(((((KC.out _ hb).1.setCell (p:=⟨w.heap.size+2,0,AD⟩) a8 _).setCell (p:=⟨w.heap.size+2,1,AD⟩) a8 _).setCell (p:=⟨w.heap.size+2,2,AD⟩) a8 _).setCell (p:=⟨w.heap.size+2,3,AD⟩) a8 _).setCell (p:=⟨w.heap.size+2,4,AD⟩) a8 _
 by_cases hf:Fm o
 ·rw[decide_eq_true hf]at qY;have pF:Hid (∀i,i<5->-5<=DP o i/\DP o i<=5):=λi hi=>(hf i hi).1;have OK:Hid (∀(i:Nat) (l:List Int),i<=5->l=(o.D8.take i).map (λk=>DP t (Fb k))->(∀j,j<i->DP o j≠0)->(i=5\/DP o i=0)->Tk l=FH o t):=λi l hi hl h1 h2=>by
   unfold FH;rw[if_pos hf,X9 o t i hi h1 h2,hl]
  generalize FH o t=u at*
  clear hf r1 O U Q DV s1 EB;go_enter func95,ntmps95
  go_upto_region 2 with(fail)
  rw[<-E0.out];clear E0;go_wp2_with fail
  refine(qY.out _).mono ?_;rintro e w1 ⟨rfl,hb⟩;have KU:Hid (Below (w+4) W1 w1):=hb.mono (Nat.le_of_eq PF.out.symm);have al:=YO.out.below KU.out a5;obtain⟨e0,e1,e2,e3,e4⟩:=al.q5;clear al hb d0 d1 d2 d3 d4 YO qY;go_wp2_with fail
  go_loopw [13] (λiv wr=>∃(i:Nat) (l:List Int),i<=5/\iv=AA AB (i:Int)/\Hid (Below (w.heap.size+3) W1 wr)/\Hid (Row wr (w.heap.size+3) 47 (Q7 (Tk l)))/\Hid (l=(o.D8.take i).map λk=>DP t (Fb k))/\Hid (∀j,j<i->DP o j≠0)) (λiv _=>5-(BF iv).toNat)
  case atStart=>exact⟨0,[],a5,rfl,KU.out.mono a5,LK.out.below KU.out a5,rfl,λj hj=>by omega⟩
  case round=>
   obtain⟨i,l,hi,rfl,J,HR,HL,HN⟩:=hrel;clear LK KU PF;by_cases ab:i<5
   ·have g1:decide ((i:Int)<5)=true:=by simp;omega
    have i0:(0:Int)<=(i:Int):=a5;have i1:(i:Int)<5:=a5;obtain⟨z,hz⟩:=ae (DP o i);have aw:∀W:World,(CR 132 (AL #[o.a,o.b,o.c,o.d,o.e]) i).run AP W=.ok z W:=λW=>by rw[hz];exact av.out i ab W
    by_cases Ft:z=0
    ·have gz:(z==0)=true:=by simpa using Ft
     have ao:decide (z=0)=true:=by simpa using Ft
     have Yk:Hid (Row wr (w+3) 47 (Q7 u)):=by
      have:=HR.out;rw[OK.out i l hi HL.out HN.out (.inr (by rw[<-hz];exact Ft))]at this;exact this
     clear HR HL HN OK pF hz Ft;have Lo:=Yk.out;have H:=Gb.out.below J.out a5;obtain⟨q0,q1,q2,q3,q4⟩:=Lo.q5;obtain⟨p0,p1,p2,p3,p4⟩:=H.q5;obtain⟨z0,z1,z2,z3,z4⟩:=H.r5;have I:=AO (Dr.out wr u J.out H);clear Lo H Yk J Gb;go_wp2
     have r0:=I.out.1.cell 0;have r1:=I.out.1.cell 1;have O:=I.out.1.cell 2;have U:=I.out.1.cell 3;have Q:=I.out.1.cell 4;simp only[Q7,AW,AV]at r0 r1 O U Q;exact Aw (v:=AL #[u.a,u.b,u.c,u.d,u.e]) (by simp[results,Tryz.results95,go_sem,r0,r1,O,U,Q]) rfl ⟨rfl,I.out.2⟩
    ·have gz:(z==0)=false:=by simpa using Ft
     have ao:decide (z=0)=false:=by simpa using Ft
     have ad:-5<=z/\z<=5:=by rw[hz];exact pF.out i ab
     have jV:=Zl Ft ad;have HQ:=AO (Vo z ad wr);rw[Vp Ft]at HQ;obtain⟨x,hx⟩:=ae (DP t (Fb z));have yx:wr.cell? ⟨w,Fb z,AD⟩=AE (AA AB x):=by rw[hx];exact(KC.out _ J.out).2 _ jV
     have PR:l.length=i:=by rw[HL.out,Aj,Ac,Cv.Sy];omega
     have vR:Hid (l++[x]=(o.D8.take (i+1)).map λk=>DP t (Fb k)):=by
      unfold Hid;rw[eA ab,Cj,<-HL.out,hx,hz];rfl
     have pM:Hid (∀j,j<i+1->DP o j≠0):=λj hj=>by
      by_cases e:j=i
      ·rw[e,<-hz];exact Ft
      ·exact HN.out j a5
     have QB:Hid (Row (wr.setCell ⟨w.heap.size+3,i,AD⟩ (AA AB x)) (w.heap.size+3) 47 (Q7 (Tk (l++[x])))):=by
      have:=HR.out.set i x;rw[uy PR ab]at this;exact this
     have ar:Hid (Below (w.heap.size+3) W1 (wr.setCell ⟨w.heap.size+3,i,AD⟩ (AA AB x))):=J.out.setCell (p:=⟨w.heap.size+3,i,AD⟩) a8 _;have cs:∃v,wr.cell? ⟨w.heap.size+3,i,AD⟩=AE v:=⟨_,O6 HR.out ab⟩;obtain⟨v9,cs⟩:=cs;have fz:=HR.out.free i;have k0:(0:Int)<=((Fb z:Nat):Int):=a5;have k1:((Fb z:Nat):Int)<5:=a5;generalize Fb z=c at*
     clear hx hz Ft ad PR HR J HL HN;go_wp2_with fail
     refine HQ.out.mono ?_;rintro e w3 ⟨rfl,rfl⟩;go_wp2
     go_roundw
     case rel=>exact⟨i+1,_,a5,by go_num,ar.out,QB.out,vR.out,pM.out⟩
     case measure=>simp[BF];omega
   ·obtain rfl:i=5:=a5;have Yk:Hid (Row wr (w+3) 47 (Q7 u)):=by
     have:=HR.out;rw[OK.out 5 l hi HL.out HN.out (.inl rfl)]at this;exact this
    clear HR HL HN OK pF;have Lo:=Yk.out;have H:=Gb.out.below J.out a5;obtain⟨q0,q1,q2,q3,q4⟩:=Lo.q5;obtain⟨p0,p1,p2,p3,p4⟩:=H.q5;obtain⟨z0,z1,z2,z3,z4⟩:=H.r5;have I:=AO (Dr.out wr u J.out H);clear Lo H Yk J Gb;go_wp2
    have r0:=I.out.1.cell 0;have r1:=I.out.1.cell 1;have O:=I.out.1.cell 2;have U:=I.out.1.cell 3;have Q:=I.out.1.cell 4;simp only[Q7,AW,AV]at r0 r1 O U Q;exact Aw (v:=AL #[u.a,u.b,u.c,u.d,u.e]) (by simp[results,Tryz.results95,go_sem,r0,r1,O,U,Q]) rfl ⟨rfl,I.out.2⟩
 ·have aa:FH o t=Cu:=by unfold FH;rw[if_neg hf]
  rw[decide_eq_false hf]at qY;rw[aa];clear hf aa r1 O U Q DV s1 EB;go_enter func95,ntmps95
  go_upto_region 2 with(fail)
  rw[<-E0.out];clear E0;go_wp2_with fail
  refine(qY.out _).mono ?_;rintro e wr ⟨rfl,hb⟩;have J:Hid (Below (w+4) W1 wr):=hb.mono (Nat.le_of_eq PF.out.symm);have Lo:=LK.out.below J.out a5;have H:=Gb.out.below J.out a5;have q0:wr.cell? ⟨w.heap.size+3,0,AD⟩=AE (AA AB 0):=Lo.cell 0;have q1:wr.cell? ⟨w.heap.size+3,1,AD⟩=AE (AA AB 0):=Lo.cell 1;have q2:wr.cell? ⟨w.heap.size+3,2,AD⟩=AE (AA AB 0):=Lo.cell 2;have q3:wr.cell? ⟨w.heap.size+3,3,AD⟩=AE (AA AB 0):=Lo.cell 3;have q4:wr.cell? ⟨w.heap.size+3,4,AD⟩=AE (AA AB 0):=Lo.cell 4;have p0:wr.cell? ⟨w.heap.size+2,0,AD⟩=AE (AA AB 0):=H.cell 0;have p1:wr.cell? ⟨w.heap.size+2,1,AD⟩=AE (AA AB 0):=H.cell 1;have p2:wr.cell? ⟨w.heap.size+2,2,AD⟩=AE (AA AB 0):=H.cell 2;have p3:wr.cell? ⟨w.heap.size+2,3,AD⟩=AE (AA AB 0):=H.cell 3;have p4:wr.cell? ⟨w.heap.size+2,4,AD⟩=AE (AA AB 0):=H.cell 4;have z0:=H.free 0;have z1:=H.free 1;have z2:=H.free 2;have z3:=H.free 3;have z4:=H.free 4;have I:Hid (Row (((((wr.setCell ⟨w.heap.size+2,0,AD⟩ (AA AB 0)).setCell ⟨w.heap.size+2,1,AD⟩ (AA AB 0)).setCell ⟨w.heap.size+2,2,AD⟩ (AA AB 0)).setCell ⟨w.heap.size+2,3,AD⟩ (AA AB 0)).setCell ⟨w.heap.size+2,4,AD⟩ (AA AB 0)) (w.heap.size+2) 47 [AA AB 0,AA AB 0,AA AB 0,AA AB 0,AA AB 0]/\Below w.heap.size w (((((wr.setCell ⟨w.heap.size+2,0,AD⟩ (AA AB 0)).setCell ⟨w.heap.size+2,1,AD⟩ (AA AB 0)).setCell ⟨w.heap.size+2,2,AD⟩ (AA AB 0)).setCell ⟨w.heap.size+2,3,AD⟩ (AA AB 0)).setCell ⟨w.heap.size+2,4,AD⟩ (AA AB 0))):=Dr.out wr Cu (J.out.mono a5) H;clear Lo H J Gb hb d0 d1 d2 d3 d4;go_wp2
  have r0:=I.out.1.cell 0;have r1:=I.out.1.cell 1;have O:=I.out.1.cell 2;have U:=I.out.1.cell 3;have Q:=I.out.1.cell 4;simp only[AW,AV]at r0 r1 O U Q;exact Aw (v:=AL #[Cu.a,Cu.b,Cu.c,Cu.d,Cu.e]) (by simp[results,Tryz.results95,go_sem,r0,r1,O,U,Q,Cu]) rfl ⟨rfl,I.out.2⟩
def Ed(o:Cv):Nat:=(o.D8.takeWhile λk=>k≠0).length
theorem XO(o:Cv):Ed o<=5:=Af (List.takeWhile_prefix _).length_le (by simp[Cv.D8])
theorem XP{o n}(e:n<=5)(I:∀j,j<n->DP o j≠0)(H:n=5\/DP o n=0):Ed o=n:=by
 have h:=X9 o o n e I H;have h3:=YB o.D8 o;rw[h]at h3;unfold Ed;rw[<-h3];simp[Cv.D8];omega
theorem dw{l n}(h:l.length=n)(e:n<=5):Dc n (Tk l)=true:=by
 subst h;unfold Dc Tk Cv.D8
 match l with
 |[]=>rfl
 |[_]=>rfl
 |[_,_]=>rfl
 |[_,_,_]=>rfl
 |[_,_,_,_]=>rfl
 | _:: _:: _:: _:: _::l=>simp
theorem iQ{o t}(hf:Fm o):Dc (Ed o) (FH o t)=true:=by
 unfold FH;rw[if_pos hf];exact dw (by rw[YB];rfl) (XO o)
theorem uj{t}(h:EE t)(i:Nat):Fg (DP t i):=by
 unfold DP;rw[AT];rcases hi:t.D8[i]?with _|x
 ·exact Fg.of a8 a8
 ·exact h x (Ak hi)
theorem uh{o t}(h:EE t):EE (FH o t):=by
 unfold FH
 split
 ·have J:Fg 0:=Fg.of a5 a5;have I:∀x∈Tu o.D8 t,Fg x:=λx e=>by
   unfold Tu at e;obtain⟨k,_,rfl⟩:=Az.1 e;exact uj h _
  have H:∀i,Fg ((Tu o.D8 t).getD i 0):=λi=>by
   rw[AT];rcases hi:(Tu o.D8 t)[i]?with _|x
   ·exact J
   ·exact I x (Ak hi)
  generalize Tu o.D8 t=L at*
  intro x e;simp[Tk,Cv.D8]at e;rcases e with rfl|rfl|rfl|rfl|rfl
  ·have:=H 0;simpa [AT]using this
  ·have:=H 1;simpa [AT]using this
  ·have:=H 2;simpa [AT]using this
  ·have:=H 3;simpa [AT]using this
  ·have:=H 4;simpa [AT]using this
 ·intro x e;simp[Cu,Cv.D8]at e;subst e;exact Fg.of a5 a5
theorem fU(o:Cv)(w:World):Calls AP 90 #[AL #[o.a,o.b,o.c,o.d,o.e]] w λe w'=>e=AH (Ed o:Nat)/\Below w w w':=by
 have hr:Row (w.alloc (AK #[o.a,o.b,o.c,o.d,o.e] 132)) w 132 (DE o):=heap_alloc_new _ _;have jG:Hid (∀n,n<5->(w.alloc (AK #[o.a,o.b,o.c,o.d,o.e] 132)).cell? (w,n)=AE (AA AB (DP o n))):=λn I=>(hr.cell n).trans (rK o I);have HB:Hid (Below w w (w.alloc (AK #[o.a,o.b,o.c,o.d,o.e] 132))):=(AS _ _).alloc ao _;clear hr;go_enter func90,ntmps90
 go_wp2_with fail
 generalize w.alloc (AK #[o.a,o.b,o.c,o.d,o.e] 132)=W1 at*
 go_loopw [3] (λJ wr=>∃n:Nat,n<=5/\J=AA AB (n:Int)/\Hid (∀j,j<n->DP o j≠0)/\wr=W1) (λJ _=>5-(BF J).toNat)
 case atStart=>exact⟨0,a5,rfl,λj hj=>absurd hj a5,rfl⟩
 case round=>
  obtain⟨n,I,rfl,Q,rfl⟩:=hrel;by_cases h5:n<5
  ·have g0:decide ((n:Int)<5)=true:=by simp;omega
   have cO:(0:Int)<=(n:Int):=a5;have Pp:(n:Int)<5:=a5;have q:=jG.out n h5;by_cases H:DP o n=0
   ·have O:Hid (Ed o=n):=XP I Q.out (.inr H);rw[H]at q;clear H;go_wp2
    go_ret
    rw[O.out];exact⟨rfl,HB.out⟩
   ·have HZ:=AO H;obtain⟨x,U⟩:=ae (DP o n);rw[<-U]at q H;clear U;go_wp2
    go_roundw
    case rel=>exact⟨n+1,a5,by go_num,λj hj=>by
     rcases Am j n with hl|hl
     ·exact Q.out j hl
     ·rw[show j=n by omega];exact HZ.out,by trivial⟩
    case measure=>simp[BF];omega
  ·obtain rfl:n=5:=a5;have O:Hid (Ed o=5):=XP I Q.out (.inl rfl);go_wp2
   go_ret
   rw[O.out];exact⟨rfl,HB.out⟩
def gD(k:Nat)(o:Cv):Prop:=∀i,i<5->-(k:Int)<=DP o i/\DP o i<=k
instance inWDec (k : Nat) (o : Cv) : Decidable (gD k o) := by unfold gD; exact inferInstance
theorem Xr(f0 f1 f3:Int)(k:Nat)(hk:k<=1000)(o:Cv)(w:World):Calls AP 92 #[AL #[f0,f1,k,f3],AL #[o.a,o.b,o.c,o.d,o.e]] w λe w'=>e=AH (.bool (decide (gD k o)))/\Below w w w':=by
 obtain⟨W1,EB,b1,s1,r1,r2⟩:=S9 w [f0,f1,k,f3] [o.a,o.b,o.c,o.d,o.e] 28 132;have E0:=AO EB;have HB:=AO b1;have aa:Hid (∀i:Nat,i<5->∀W:World,(CR 132 (AL #[o.a,o.b,o.c,o.d,o.e]) i).run AP W=.ok (AA AB (DP o i)) W):=λi hi W=>M3 132 rfl o hi W;obtain⟨d0,d1,d2,d3,d4⟩:=r2.q5;have c2:W1.cell? (w,2)=AE (AA AB k):=r1.cell 2;have ab:∀x:Int,x=k->-x=((-(k:Int))):=λx J=>by rw[J]
 clear ab EB b1 s1 r1 r2;go_enter func92,ntmps92
 go_upto_region 1 with(fail)
 rw[<-E0.out];clear E0;go_wp2_with fail
 go_loopw [8] (λQ wr=>∃n:Nat,n<=5/\Q=AA AB (n:Int)/\Hid (∀i,i<n->-(k:Int)<=DP o i/\DP o i<=k)/\wr=W1) (λQ _=>5-(BF Q).toNat)
 case atStart=>exact⟨0,a5,rfl,λj hj=>absurd hj a5,rfl⟩
 case round=>
  obtain⟨n,hn,rfl,HJ,rfl⟩:=hrel;by_cases h5:n<5
  ·have g0:decide ((n:Int)<5)=true:=by simp;omega
   have cO:(0:Int)<=(n:Int):=a5;have Pp:(n:Int)<5:=a5;have U:=aa.out n h5;obtain⟨x,J⟩:=ae (DP o n);rw[<-J]at U;have HX:=AO J;obtain⟨H,I⟩:∃H:Int,H=-(k:Int):=⟨_,rfl⟩;have ad:-(k:Int)=H:=I.symm;have hnb:-1000<=H/\H<=0:=a5;have O:=AO I;clear J I;by_cases h1:x>(k:Int)
   ·have g1:decide (x>(k:Int))=true:=by simpa using h1
    have Nh:Hid (decide (gD k o)=false):=by
     unfold Hid;refine decide_eq_false λq=>?_;have:=q n h5;rw[<-HX.out]at this;omega
    go_wp2
    go_ret
    rw[Nh.out];exact⟨rfl,HB.out⟩
   ·have g1:decide (x>(k:Int))=false:=by simpa using h1
    by_cases h2:x<H
    ·have g2:decide (x<H)=true:=by simpa using h2
     have Nh:Hid (decide (gD k o)=false):=by
      unfold Hid;refine decide_eq_false λq=>?_;have:=q n h5;rw[<-HX.out]at this;have:=O.out;omega
     go_wp2
     go_ret
     rw[Nh.out];exact⟨rfl,HB.out⟩
    ·have g2:decide (x<H)=false:=by simpa using h2
     have JB:Hid (-(k:Int)<=DP o n/\DP o n<=k):=by
      unfold Hid;rw[<-HX.out];have:=O.out;omega
     go_wp2
     go_roundw
     case rel=>exact⟨n+1,a5,by go_num,λj hj=>by
      rcases Am j n with hl|hl
      ·exact HJ.out j hl
      ·rw[show j=n by omega];exact JB.out,by trivial⟩
     case measure=>simp[BF];omega
  ·obtain rfl:n=5:=a5;have o8:Hid (decide (gD k o)=true):=decide_eq_true HJ.out;go_wp2
   go_ret
   rw[o8.out];exact⟨rfl,HB.out⟩
section
variable{X:Cx}{m:Nat}{W:World}
def NM(g:Nat)(fc:List Value)(o:Cv)(_:Nat):List DA:=[Cs g 28 fc,Cs (g+1) 132 (DE o)]
def Kz(o:Cv)(_:Nat)(t:Cv):Option Cv:=AE (FH o t)
theorem ug{pre:List DA}{g:Nat}{fc:List Value}{o:Cv}{l:List Cv}:
  AB4 X pre 94 #[AI (AE ⟨g+1,0,AD⟩)] l (Kz o) (NM g fc o) 2 where
 ent:=λargs w=>by kernel_rfl
 len:=λ_=>rfl
 how:=λj zz m W t ht h=>by
  obtain⟨W2,G9⟩:=ae ((W.alloc (AK #[t.a,t.b,t.c,t.d,t.e] 47)).alloc (AK #[(),(),(),(),()] 47));have h1:=h.new ((AS W W).alloc ao (AK #[t.a,t.b,t.c,t.d,t.e] 47)) (heap_alloc_new _ _:Row _ _ 47 (DE t)) ao;have h2:=h1.new ((AS _ _).alloc ao (AK #[(),(),(),(),()] 47)) (heap_alloc_new _ _:Row _ _ 47 Z5) ao;rw[<-G9,show (W.alloc (AK #[t.a,t.b,t.c,t.d,t.e] 47)).heap.size=W.heap.size+1 by simp]at h2;obtain⟨s0,hs0⟩:=ae W.heap.size;rw[<-hs0]at h2;obtain⟨A,H⟩:∃A:List Value->World->Prop,∀c2 w,A c2 w↔Wd X (pre++NM g fc o 0++(zz++[Cs s0 47 (DE t),Cs (s0+1) 47 c2])) m w:=⟨_,λ_ _=>BN⟩;have O:(pre++NM g fc o 0).length=pre.length+2:=by simp[NM]
  have RP:Hid (A Z5 W2):=(H _ _).2 (by simpa [AR,NM]using h2);have ab:Hid (∀c2 w q,A c2 w->A c2 (w.drewN q)):=λc2 w q hq=>(H _ _).2 (((H _ _).1 hq).drewN q);have Fz:Hid (∀c2 w,A c2 w->Row w (g+1) 132 (DE o)/\Row w s0 47 (DE t)/\Row w (s0+1) 47 c2):=λc2 w q=>by
   have q:=(H _ _).1 q;exact⟨q.row (i:=pre.length+1) (by simp[NM]),q.row (y6 O),q.row (mI O)⟩
  have J:Hid (∀c2 w j x,A c2 w->A (c2.set j x) (w.setCell (s0+1,j) x)):=λc2 w j x q=>by
   have q1:=((H _ _).1 q).store (mI O) a6 j x;rw[tD O]at q1;exact(H _ _).2 q1
  have Dr:Hid (∀c2 w,A c2 w->Wd X (pre++NM g fc o (j+1)++zz) m w):=λc2 w q=>by
   have q:=(H _ _).1 q;rw[<-AR]at q;have q2:=Wd.Fy (b:=[]) [Cs s0 47 (DE t),Cs (s0+1) 47 c2] (λy hy=>by simp at hy;rcases hy with rfl|rfl<;>exact⟨rfl,rfl⟩) (by rw[AZ];exact q);rwa [AZ]at q2
  have dU:Hid (∀c2 w w',A c2 w->Below w w w'->A c2 w'):=λc2 w w' q hb=>(H _ _).2 (((H _ _).1 q).below hb);have Q:Hid (∀w,Calls AP 95 #[AL #[t.a,t.b,t.c,t.d,t.e],AL #[o.a,o.b,o.c,o.d,o.e]] w λe w'=>e=AH (AL #[AA AB (FH o t).a,AA AB (FH o t).b,AA AB (FH o t).c,AA AB (FH o t).d,AA AB (FH o t).e])/\Below w w w'):=λw=>kH o t w;obtain⟨u,hu⟩:=ae (FH o t);have HC:Hid (Kz o j t=AE u):=by unfold Hid Kz;rw[hu]
  rw[<-hu]at Q;have KU:=AO G9;replace hs0:=AO hs0;obtain⟨p1,p4,I⟩:=Fz.out _ _ RP.out;obtain⟨d0,d1,d2,d3,d4⟩:=p4.q5;obtain⟨q0,q1,q2,q3,q4⟩:=p1.q5;clear h1 h2 h O H G9 ht hu p1 p4 I;generalize Gr:(λ(e:Ending) (w':World)=>∃t' b,e=AH (AM #[DS t',.bool b])/\Kz o j t=(if b then AE t' else AD)/\Wd X (pre++NM g fc o (j+1)++zz) m w')=Dd at*
  replace Gr:=AO Gr;unfold DS;go_enter func94,ntmps94
  go_upto_region 1 with(fail)
  rw[<-KU.out,<-hs0.out];clear KU;go_wp2_with fail
  refine(Q.out _).mono ?_;rintro e w3 ⟨rfl,D9⟩;have aa:=AO (dU.out _ _ _ RP.out D9);clear D9 d0 d1 d2 d3 d4 q0 q1 q2 q3 q4;obtain⟨p1,p4,I⟩:=Fz.out _ _ aa.out;obtain⟨z0,z1,z2,z3,z4⟩:=I.q5;obtain⟨f0,f1,f2,f3,f4⟩:=I.r5;have U:=AO (J.out _ _ 4 u.e (J.out _ _ 3 u.d (J.out _ _ 2 u.c (J.out _ _ 1 u.b (J.out _ w3 0 u.a aa.out)))));have ES:=AO (Fz.out _ _ U.out).2.2;clear p1 p4 I;go_wp2
  have r0:=ES.out.cell 0;have r1:=ES.out.cell 1;have r2:=ES.out.cell 2;have r3:=ES.out.cell 3;have r4:=ES.out.cell 4;simp only[Z5,List.set_cons_zero,Bz,AW,AV]at r0 r1 r2 r3 r4;refine Aw (v:=AM #[DS u,true]) (by unfold DS;simp[results,Tryz.results94,go_sem,r0,r1,r2,r3,r4]) rfl ?_;rw[<-Gr.out];exact⟨u,true,rfl,HC.out,Dr.out _ _ U.out⟩
theorem kD{os first nb k hh count l o}(h:Wd X os m W)(hf:GY first nb k hh l X.sz)(I:Da first nb k hh l X.sz∈os)(hc:l.length=count)(Yc:Fm o)(cO:Ed o≠0)(NG:gD k o)
  (O:2*X.sz+DC DA.gw os<=X.rm)(hn:X.N+m+nb+count+2<=1000000)(Ya:0<Ct X.sz (Ed o:Nat)):
  Calls AP 68 #[AI X.p.w,AL #[first,nb,k,count],AL #[o.a,o.b,o.c,o.d,o.e]] W (O8 X os (outL (Kz o) l count) m nb count (Ed o)):=by
 obtain⟨J,Kv⟩:=ae (((W.alloc (AK #[first,nb,k,count] 28)).alloc (AK #[o.a,o.b,o.c,o.d,o.e] 132)).alloc (AK #[(),(),(),()] 28));have h1:=h.new ((AS W W).alloc ao (AK #[first,nb,k,count] 28)) (heap_alloc_new _ _:Row _ _ 28 [first,nb,k,count]) ao;have h2:=h1.new ((AS _ _).alloc ao (AK #[o.a,o.b,o.c,o.d,o.e] 132)) (heap_alloc_new _ _:Row _ _ 132 (DE o)) ao;have h3:=h2.new ((AS _ _).alloc ao (AK #[(),(),(),()] 28)) (heap_alloc_new _ _:Row _ _ 28 Z4) ao;rw[<-Kv]at h3;have aa:∀(w:World) (o:Obj),(w.alloc o).heap.size=w+1:=λw o=>by simp
 simp only[aa,CK,Cb]at h3;obtain⟨s0,hs0⟩:=ae W.heap.size;rw[<-hs0]at h3;obtain⟨fc,OI⟩:∃fc:List Value,fc=[AA AB first,AA AB nb,AA AB k,AA AB count]:=⟨_,rfl⟩;rw[<-OI]at h3;have h3:Wd X (os++NM s0 fc o 0++[Cs (s0+2) 28 Z4]) m J:=by
  unfold NM;simpa [AR]using h3
 have H:Row J s0 28 [first,nb,k,count]:=by rw[<-OI];exact h3.row (i:=os.length) (by unfold NM;simp)
 have mw:Row J (s0+1) 132 (DE o):=h3.row (i:=os.length+1) (by unfold NM;simp);have aA:=hf.kk;have nW:∀i,Dn (NM s0 fc o i):=λi q hq=>by simp[NM]at hq;rcases hq with rfl|rfl<;>exact⟨rfl,rfl⟩
 have ab:=λ(w:World) (hb:Below J J w)=>dn (width:=Ed o) (ug (X:=X) (pre:=os) (g:=s0) (fc:=fc) (o:=o) (l:=l)) (h3.below hb) hf (by simp[I]) hc Ya (λj t u ht hu=>by
   have aB:=hf.fit t (Ak ht);unfold Kz at hu;injection hu with hu
   subst hu;exact⟨uh aB.1,iQ Yc⟩) (by rw[DM,DM,Dq _ (nW 0),Dq [Cs (s0+2) 28 Z4] (λq hq=>by simp at hq;subst hq;exact⟨rfl,rfl⟩)];omega) hn
 have av:=AO ab;have Gv:Hid (∀e w',OF X os [Cs (s0+2) 28 Z4] (NM s0 fc o) (outL (Kz o) l count) m nb count (Ed o) e w'-> _):=λe w' q=>fQ nW q;have ar:Hid (∀w,Calls AP 90 #[AL #[o.a,o.b,o.c,o.d,o.e]] w λe w'=>e=AH (Ed o:Nat)/\Below w w w'):=λw=>fU o w;have aD:Hid (∀w,Calls AP 91 #[AL #[o.a,o.b,o.c,o.d,o.e]] w λe w'=>e=AH true/\Below w w w'):=λw=>by
  have:=LW o w;rwa [decide_eq_true Yc]at this
 have aC:Hid (∀w,Calls AP 92 #[AL #[first,nb,k,count],AL #[o.a,o.b,o.c,o.d,o.e]] w λe w'=>e=AH true/\Below w w w'):=λw=>by
  have:=Xr first nb count k a5 o w;rwa [decide_eq_true NG]at this
 have aw:=XO o;obtain⟨nn,qG⟩:=ae (Ed o);rw[<-qG]at av Gv ar cO aw⊢;generalize OF X os [Cs (s0+2) 28 Z4] (NM s0 fc o) (outL (Kz o) l count) m nb count nn=aG at*
 generalize O8 X os (outL (Kz o) l count) m nb count nn=Dd at*
 have Jy:=AO Kv;have jG:Hid (∀w,Below J J w->(w.cell? s0=AE (AA AB first)/\w.cell? (s0,1)=AE (AA AB nb)/\w.cell? (s0,2)=AE (AA AB k)/\w.cell? (s0,3)=AE (AA AB count))/\w.cell? (s0+1,0)=AE (AA AB o.a)/\w.cell? (s0+1,1)=AE (AA AB o.b)/\w.cell? (s0+1,2)=AE (AA AB o.c)/\w.cell? (s0+1,3)=AE (AA AB o.d)/\w.cell? (s0+1,4)=AE (AA AB o.e)):=λw hb=>by
  have q0:=H.below hb H.lt;have q1:=mw.below hb mw.lt;exact⟨⟨q0.cell 0,q0.cell 1,q0.cell 2,q0.cell 3⟩,q1.cell 0,q1.cell 1,q1.cell 2,q1.cell 3,q1.cell 4⟩
 obtain⟨⟨a0,a1,a2,a3⟩,b0,b1,b2,b3,U⟩:=jG.out J (AS _ _);replace hs0:=AO hs0;have aF:¬(nn:Int)=0:=a5;clear h1 h2 h3 h Kv aa H mw ab hf I hc O hn aA nW OI Ya cO Yc NG qG;go_enter func68,ntmps68
 go_upto_region 1 with(fail)
 rw[<-Jy.out,<-hs0.out];clear Jy;go_wp2_with fail
 refine(ar.out _).mono ?_;rintro e w4 ⟨rfl,IX⟩;have Qi:=AO IX;clear IX a0 a1 a2 a3 b0 b1 b2 b3 U;obtain⟨⟨a0,a1,a2,a3⟩,b0,b1,b2,b3,U⟩:=jG.out w4 Qi.out;go_wp2_with fail
 refine(aD.out _).mono ?_;rintro e w5 ⟨rfl,FU⟩;have EV:=AO (Qi.out.trans (FU.mono Qi.out.size));clear FU a0 a1 a2 a3 b0 b1 b2 b3 U;obtain⟨⟨a0,a1,a2,a3⟩,b0,b1,b2,b3,U⟩:=jG.out w5 EV.out;go_wp2_with fail
 refine(aC.out _).mono ?_;rintro e w6 ⟨rfl,RF⟩;have JO:=AO (EV.out.trans (RF.mono EV.out.size));clear RF a0 a1 a2 a3 b0 b1 b2 b3 U;obtain⟨⟨a0,a1,a2,a3⟩,b0,b1,b2,b3,U⟩:=jG.out w6 JO.out;have aE:=AO (av.out w6 JO.out);go_wp2_with fail
 refine aE.out.mono ?_;rintro e w7 h7;obtain⟨C,F,N,K,L,er,rfl,hC,Q,ad,al⟩:=Gv.out e w7 h7;have Q9:=AO (Q _ _ hC);have H9:=AO (ad Z4 w7 F N K L rfl hC);have ES:=AO (Q _ _ H9.out);have HE:=AO (al _ _ H9.out);clear h7 hC Q ad al a0 a1 a2 a3 b0 b1 b2 b3 U;obtain⟨z0,z1,z2,z3⟩:=Q9.out.q4;obtain⟨f0,f1,f2,f3⟩:=Q9.out.r4;go_wp2
 have r0:=ES.out.cell 0;have r1:=ES.out.cell 1;have r2:=ES.out.cell 2;have r3:=ES.out.cell 3;simp only[AW,AV]at r0 r1 r2 r3;refine Aw (v:=AM #[AL #[F,N,K,L],er]) (by simp[results,Tryz.results68,go_sem,r0,r1,r2,r3]) rfl ?_;exact HE.out
end
def DoC(fD:Nat)(caps:Array Value)(J:Nat->World->Prop)(Jm:Cv->Nat->World->Prop)(Er:Nat->World->Prop):Prop:=
 ∀t n w,Jm t n w->Calls AP fD (#[DS t]++caps) w λe w'=>(e=AH ()/\J n w')\/(∃er:Nat,e=AH er/\0<er/\Er er w')
structure AN9 (fD:Nat) (caps:Array Value) (x:Nat) (Dd:Ending->World->Prop) (J:Nat->World->Prop) (Jm:Cv->Nat->World->Prop) (E:World->Prop) (Er:Nat->World->Prop):Prop where
 tell:ot 48 (AI x) J Jm E Er
 take:DoC fD caps J Jm Er
 bJm:∀t n w w',Jm t n w->Below w w w'->Jm t n w'
 bE:∀w w',E w->Below w w w'->E w'
 bEr:∀er w w',Er er w->Below w w w'->Er er w'
 fin:∀u w,E w->CallsD AP 47 #[AI x] u w λe u' w'=>u'=u/\(e=AH (AM #[])/\Dd (AH ()) w')
 err:∀u er w,0<er->Er er w->CallsD AP 47 #[AI x] u w λe u' w'=>u'=u/\(e=AH (AM #[])/\Dd (AH er) w')
theorem iP{fD:Nat}{caps}{pw:Nat}{first nb k count:Nat}{Dd W}
  (eD:∀args w,Br AP (callFunc fD args) w=.ok (.enter fD args) w)
  (H:Calls AP 46 #[AI pw,AL #[first,nb,k,count]] (W.alloc (AK #[first,nb,k,count] 28)) λe w'=>
   ∃x,e=AH (AM #[AI (AE ⟨x,0,AD⟩),()])/\∃J Jm E Er,AN9 fD caps x Dd J Jm E Er/\∃n,J n w'):
  Calls AP 61 #[AI pw,AL #[first,nb,k,count],.func (.func fD) #[] caps] W Dd:=by
 obtain⟨W1,EB⟩:=ae (W.alloc (AK #[first,nb,k,count] 28));have ER:Row W1 W 28 [first,nb,k,count]:=by rw[EB];exact heap_alloc_new _ _
 rw[<-EB]at H;have LJ:=AO H;have Ja:=AO ER;have E0:=AO EB;generalize hs0:W.heap.size=s0 at*
 clear H ER EB;go_enter_defers func61,ntmps61
 go_upto_region 1 with(fail)
 rw[<-E0.out];clear E0;obtain⟨a0,a1,a2,a3⟩:=Ja.out.q4;clear Ja;go_wp2_with fail
 refine LJ.out.mono ?_;rintro e w2 ⟨x,rfl,J,Jm,E,Er,hC,n0,I⟩;have H0:=AO I;have HN:=AO hC.tell;have HD:=AO hC.take;have BJ:=AO hC.bJm;have BE:=AO hC.bE;have BR:=AO hC.bEr;have HF:=AO hC.fin;have HX:=AO hC.err;clear hC I a0 a1 a2 a3 LJ;go_wp2_with fail
 go_loopw [9,10,11,12] (λ_ _ _ _ wr=>∃k:Nat,Hid (J k wr)) (λ_ _ _ _ wr=>Hg λk=>J k wr)
 case atStart=>exact⟨n0,H0⟩
 case round=>
  obtain⟨k,I⟩:=hrel;have HJ:Hid (J (Hg λk=>J k wr) wr):=(Fe (P:=λk=>J k wr) I.out).1;have yB:=AO (HN.out _ wr HJ.out);clear I;go_wp2_with fail
  refine yB.out.mono ?_;rintro e w3 (⟨t,n',rfl,wX,h3⟩|⟨rfl,h3⟩|⟨er,rfl,Q,h3⟩)
  ·have KV:=AO wX;have ab:=AO (BJ.out t n' _ _ h3 ((AS w3 w3).alloc ao (AK #[t.a,t.b,t.c,t.d,t.e] 47)));have GL:Row (w3.alloc (AK #[t.a,t.b,t.c,t.d,t.e] 47)) w3 47 [t.a,t.b,t.c,t.d,t.e]:=heap_alloc_new _ _;have IE:=AO GL;clear h3 GL wX;unfold DS;go_upto_region 6 with(fail)
   generalize w3.alloc (AK #[t.a,t.b,t.c,t.d,t.e] 47)=w4 at*
   generalize w3.heap.size=bt at*
   have O:=AO (HD.out t n' w4 ab.out);unfold DS at O;obtain⟨d0,d1,d2,d3,d4⟩:=IE.out.q5;go_wp2_with fail
   refine O.out.mono ?_;rintro e w5 (⟨rfl,h5⟩|⟨er,rfl,Q,h5⟩)
   ·have H5:=AO h5;clear h5;go_wp2
    go_roundw
    case rel=>exact⟨n',H5⟩
    case measure=>exact Ce (Fe (P:=λk=>J k w5) H5.out).2 KV.out
   ·have H5:=AO h5;have aa:¬(er:Int)=0:=a5;have T0:=AO Q;clear h5 Q;go_wp2
    refine Ay (f:=47) (args:=#[AI x]) a8 (by simp[go_sem]) ?_;refine(HX.out _ _ _ T0.out H5.out).mono ?_;rintro e u' Ej ⟨rfl,rfl,U⟩;exact⟨AA AB er,by simp[results,Tryz.results61,go_sem],U⟩
  ·have H3:=AO (BE.out _ _ h3 ((AS w3 w3).alloc ao (AK #[(),(),(),(),()] 47)));clear h3;unfold DS Cu;go_wp2
   refine Ay (f:=47) (args:=#[AI x]) a8 (by simp[go_sem]) ?_;refine(HF.out _ _ H3.out).mono ?_;rintro e u' Ej ⟨rfl,rfl,U⟩;exact⟨AA AB 0,by simp[results,Tryz.results61,go_sem],U⟩
  ·have H3:=AO (BR.out _ _ _ h3 ((AS w3 w3).alloc ao (AK #[(),(),(),(),()] 47)));have aa:¬(er:Int)=0:=a5;have T0:=AO Q;clear h3 Q;unfold DS Cu;go_wp2
   refine Ay (f:=47) (args:=#[AI x]) a8 (by simp[go_sem]) ?_;refine(HX.out _ _ _ T0.out H3.out).mono ?_;rintro e u' Ej ⟨rfl,rfl,U⟩;exact⟨AA AB er,by simp[results,Tryz.results61,go_sem],U⟩
structure DoS (X:Cx) (fD:Nat) (caps:Array Value) (l:List Cv) {σ:Type} (P:Nat->σ->Prop) (Z:σ->List DA) (c:σ->Nat) (Ju:Nat->List DA->Prop) (ct:Nat):Prop where
 ent:∀args w,Br AP (callFunc fD args) w=.ok (.enter fD args) w
 cost:∀i s,P i s->c s<=ct
 step:∀i s zz m W t,l[i]?=AE t->P i s->Wd X (Z s++zz) (m+c s) W->X.N+m+ct+1<=1000000->Calls AP fD (#[DS t]++caps) W λe w'=>
  (∃s',e=AH ()/\P (i+1) s'/\Wd X (Z s'++zz) (m+c s') w')\/
  (∃(er:Nat) (z':List DA),e=AH er/\0<er/\Ju er z'/\Wd X (z'++zz) (m+ct+1) w')
def WC(X:Cx)(l:List Cv){σ:Type}(P:Nat->σ->Prop)(Z:σ->List DA)(c:σ->Nat)(Ju:Nat->List DA->Prop)(m nb ct:Nat)(e:Ending)(w':World):Prop:=
 (∃s,e=AH ()/\P l.length s/\Wd X (Z s) (m+nb+c s) w')\/
 (∃(er:Nat) (z':List DA),e=AH er/\0<er/\(Ju er z'\/er=6/\¬X.cm/\∃i s,P i s/\z'=Z s)/\Wd X z' (m+nb+ct+1) w')
section
variable{X:Cx}{m:Nat}{W:World}
theorem GC(Y:List DA)(a:DA):(Y++[a])[Y.length]?=AE a:=a8
theorem Gf(Y:List DA)(a b:DA):(Y++[a]).set Y.length b=Y++[b]:=a8
theorem JK{X Y a m W}(H:a.gr=AD/\a.ex.2=0)(h:Wd X (Y++[a]) m W):Wd X Y m W:=by
 have:=Wd.Fy (b:=[]) [a] (λy e=>by simp at e;subst e;exact H) (by rw[AZ];exact h);rwa [AZ]at this
theorem bO{σ fD first nb k hh count ct caps l P Z c Ju}{s0:σ}
  (hS:DoS X fD caps l P Z c Ju ct)(hs0:P 0 s0)(Jw:c s0=0)(h:Wd X (Z s0) m W)(hf:GY first nb k hh l X.sz)(ab:∀i s,P i s->Da first nb k hh l X.sz∈Z s)(hc:l.length=count)(aa:X.sz+DC DA.gw (Z s0)<=X.rm)(hn:X.N+m+nb+ct+1<=1000000):
  Calls AP 61 #[AI X.p.w,AL #[first,nb,k,count],.func (.func fD) #[] caps] W (WC X l P Z c Ju m nb ct):=by
 refine iP hS.ent ?_;have I:=h.below ((AS W W).alloc ao (AK #[first,nb,k,count] 28));refine(Mp I first nb k hh count l hf.Pm hf.hh.1 (by rw[<-hc];exact hf.bn) (by rw[<-hc];exact hf.len) hf.fst aa).mono ?_;rintro e w2 ⟨x,b,g,rfl,GL,GK⟩;obtain⟨r,hr⟩:∃r:Rt,r=⟨k,hh,first,nb,count,0,b,g⟩:=⟨_,rfl⟩;rw[<-hr]at GL GK;have hF:xk X r l:=by
  refine⟨GL,by rw[hr];exact hc,λu hu=>by rw[hr];exact hf.fit u hu,by rw[hr];exact hf.bn⟩
 have EY:∀i s a,P i s->Src (Z s++[a]) X.sz r.first r.k r.h l:=λi s a H=>by
  rw[hr];exact U5 (nb:=nb) (by simp[ab i s H]) hf.bn
 have ad:r.h=hh:=by rw[hr]
 have M6:Cr r.h l.length=nb:=by rw[ad];exact hf.bn.symm
 have EU:rat r 0=r:=by rw[hr];rfl
 have Gh:0<r.h:=by rw[ad];exact hf.hh.1
 have ar:∀i,i<=l.length->Cr r.h i<=nb:=λi hi=>by rw[<-M6];exact Db Gh hi
 refine⟨x,rfl,λn w=>∃i s,n=l.length-i/\i<=l.length/\P i s/\Wd X (Z s++[Eu X.p x (rat r i) X.sz l]) (m+c s+Cr r.h i) w,
  λt n w=>∃i s,n=l.length-(i+1)/\l[i]?=AE t/\P i s/\Wd X (Z s++[Eu X.p x (rat r (i+1)) X.sz l]) (m+Cr r.h (i+1)+c s) w,
  λw=>∃s,P l.length s/\Wd X (Z s++[Eu X.p x (rat r l.length) X.sz l]) (m+nb+c s) w,
  λer w=>∃J a,az X x r l a/\(Ju er J\/er=6/\¬X.cm/\∃i s,P i s/\J=Z s)/\Wd X (J++[a]) (m+nb+ct+1) w,
  ⟨?_,?_,?_,?_,?_,?_,?_⟩,l.length,0,s0,rfl,Aq _,hs0,?_⟩
 ·rintro n w ⟨i,s,rfl,hi,H,hw⟩;have al:=hS.cost i s H;rcases Am i l.length with O|av
  ·refine(VI hw (GC _ _) hF (EY i s _ H) O (by rw[M6];omega)).mono ?_;rintro e w' (⟨t,ht,he,U⟩|⟨he,Fu,U⟩)
   ·rw[Gf]at U;refine .inl ⟨t,l.length-(i+1),he,a5,i,s,rfl,ht,H,?_⟩;rwa [show m+Cr r.h (i+1)+c s=m+c s+Cr r.h (i+1)by omega]
   ·rw[Gf]at U;refine .inr (.inr ⟨6,he,a5,Z s,_,⟨i,.inr rfl⟩,.inr ⟨rfl,Fu,i,s,H,rfl⟩,U.mono (by rw[M6];omega) a5⟩)
  ·obtain rfl:i=l.length:=a5;refine(ZS hw (GC _ _) hF rfl).mono ?_;rintro e w' ⟨he,U⟩;refine .inr (.inl ⟨he,s,H,?_⟩);rw[M6]at U;rwa [show m+nb+c s=m+c s+nb by omega]
 ·rintro t n w ⟨i,s,rfl,ht,H,hw⟩;have O:i<l.length:=(BM.1 ht).1;have hb:=ar (i+1) O;have al:=hS.cost i s H;refine(hS.step i s _ _ w t ht H hw a5).mono ?_;rintro e w' (⟨s',he,ae,U⟩|⟨er,J,he,De,KR,U⟩)
  ·refine .inl ⟨he,i+1,s',rfl,O,ae,?_⟩;rwa [show m+c s'+Cr r.h (i+1)=m+Cr r.h (i+1)+c s' by omega]
  ·exact .inr ⟨er,he,De,J,_,⟨i+1,.inl rfl⟩,.inl KR,U.mono a5 a5⟩
 ·rintro t n w w' ⟨i,s,I,Q,h3,h4⟩ hb;exact⟨i,s,I,Q,h3,h4.below hb⟩
 ·rintro w w' ⟨s,I,Q⟩ hb;exact⟨s,I,Q.below hb⟩
 ·rintro er w w' ⟨J,a,I,Q,h3⟩ hb;exact⟨J,a,I,Q,h3.below hb⟩
 ·rintro u w ⟨s,H,hw⟩;refine(MF u hw (GC _ _) ⟨l.length,.inl rfl⟩).mono ?_;rintro e u' w' ⟨I,Q,j,h3⟩;rw[Gf]at h3;exact⟨I,Q,.inl ⟨s,rfl,H,JK ⟨rfl,rfl⟩ h3⟩⟩
 ·rintro u er w De ⟨J,a,ha,KR,hw⟩;refine(MF u hw (GC _ _) ha).mono ?_;rintro e u' w' ⟨I,Q,j,h3⟩;rw[Gf]at h3;exact⟨I,Q,.inr ⟨er,J,rfl,De,KR,JK ⟨rfl,rfl⟩ h3⟩⟩
 ·rw[EU,Jw,Du];exact GK
end
section
variable{X:Cx}{os:List DA}{m i R:Nat}{W:World}{cs:List Value}
theorem Rq{α:Type}(l:List α)(i:Nat)(a b:α):(l.set i a).set i b=l.set i b:=a8
theorem F4(h:Wd X os m W)(hi:os[i]?=AE (Cs R 28 cs))(e:cs.length=4)(x1 x2 x3 x4:Value):Wd X (os.set i (Cs R 28 [x1,x2,x3,x4])) m ((((W.setCell R x1).setCell (R,1) x2).setCell (R,2) x3).setCell (R,3) x4):=by
 have I:=h.store hi a6 0 x1;have H:=I.store (IG _ hi _) a6 1 x2;rw[Rq]at H;have h3:=H.store (IG _ hi _) a6 2 x3;rw[Rq]at h3;have h4:=h3.store (IG _ hi _) a6 3 x4;rw[Rq]at h4
 match cs,e with
 |[c0,c1,c2,c3],_=>exact h4
end
structure ou (X:Cx) (os:List DA) (fS:Nat) (caps:Array Value) (k:Nat) (Good:List Cv->List DA->Prop) (Ju:Nat->List DA->Prop) (ct:Nat):Prop where
 ent:∀args w,Br AP (callFunc fS args) w=.ok (.enter fS args) w
 call:∀zz m W,Wd X (os++zz) m W->Dn zz->X.N+m+ct<=1000000->Calls AP fS caps W λe w'=>
  (∃(F N:Nat) (l':List Cv) (os':List DA) (m':Nat),e=AH (AM #[AL #[F,N,k,l'.length],()])/\GY F N k (Ct X.sz k) l' X.sz/\Good l' os'/\m'<=m+ct/\Wd X (os'++zz++[Da F N k (Ct X.sz k) l' X.sz]) m' w')\/
  (∃(er:Nat) (os':List DA) (m':Nat),e=AH (AM #[AL #[(),(),(),()],er])/\0<er/\Ju er os'/\m'<=m+ct/\Wd X (os'++zz) m' w')
def IA(g pw:Nat)(fc:List Value)(o:Cv):List DA:=[Cs g 23 [AI pw],Cs (g+1) 28 fc,Cs (g+2) 132 (DE o)]
def Sv(g:Nat):Array Value:=#[AI g,AI (g+1,0),AI (g+2,0)]
theorem El(g pw:Nat)(fc:List Value)(o:Cv):Dn (IA g pw fc o):=λq e=>by
 simp[IA]at e;rcases e with rfl|rfl|rfl<;>exact⟨rfl,rfl⟩
theorem R3(o:Cv)(l:List Cv):∀i,i<=l.length->outL (Kz o) l i=(l.take i).map (FH o)
 |0,_=>by simp[outL]
 |i+1,hi=>by
  rw[outL,R3 o l i a5,Bi,AU (show i<l.length by omega),Cj];rfl
section
variable{X:Cx}{os:List DA}{m:Nat}{W:World}
theorem Su{first nb k count:Nat}{o}(h:Wd X os m W):
  Calls AP 85 #[AI X.p.w,AL #[first,nb,k,count],AL #[o.a,o.b,o.c,o.d,o.e]] W λe w'=>∃g,e=AH (.func (.func 109) #[] (Sv g))/\
   Wd X (os++IA g X.p.w [first,nb,k,count] o) m w'/\Below W W w':=by
 obtain⟨U,J⟩:=ae (((W.alloc (AK #[AI X.p.w] 23)).alloc (AK #[first,nb,k,count] 28)).alloc (AK #[o.a,o.b,o.c,o.d,o.e] 132));have DV:Below W W (W.alloc (AK #[AI X.p.w] 23)):=(AS _ _).alloc ao _;have Q:=h.new DV (heap_alloc_new _ _:Row _ _ 23 [AI X.p.w]) ao;have O:=Q.new ((AS _ _).alloc ao (AK #[first,nb,k,count] 28)) (heap_alloc_new _ _:Row _ _ 28 [first,nb,k,count]) ao;have h3:=O.new ((AS _ _).alloc ao (AK #[o.a,o.b,o.c,o.d,o.e] 132)) (heap_alloc_new _ _:Row _ _ 132 (DE o)) ao;rw[<-J]at h3;have H:∀(w:World) (o:Obj),(w.alloc o).heap.size=w+1:=λw o=>by simp
 simp only[H,CK,Cb]at h3;have I:Below W W U:=by
  rw[J];exact((DV.alloc DV.size _).alloc (by have:=DV.size;simp only[H];omega) _)
 have HB:=AO I;have H3:Hid (Wd X (os++IA W X.p.w [first,nb,k,count] o) m U):=by
  unfold Hid IA;simpa [AR]using h3
 have Jy:=AO J;clear h Q O h3 DV I J H;go_enter func85,ntmps85
 go_upto_region 1 with(fail)
 rw[<-Jy.out];clear Jy;go_wp2
 go_ret
 exact⟨W,by simp[Sv],H3.out,HB.out⟩
theorem oS{first nb k hh count g:Nat}{l o H zz}(h:Wd X (os++IA g X.p.w [first,nb,k,count] o++zz) m W)(hf:GY first nb k hh l X.sz)(J:Da first nb k hh l X.sz∈os)(hc:l.length=count)(Yc:Fm o)(cO:Ed o≠0)(NG:gD k o)
  (Ew:os++IA g X.p.w [first,nb,k,count] o++zz=H)(I:2*X.sz+DC DA.gw H<=X.rm)(hn:X.N+m+nb+count+2<=1000000)(Ya:0<Ct X.sz (Ed o:Nat)):
  Calls AP 109 (Sv g) W (O8 X H (outL (Kz o) l count) m nb count (Ed o)):=by
 obtain⟨W1,U⟩:=ae (W.alloc (AK #[(),(),(),()] 28));have ER:Row W g 23 [AI X.p.w]:=h.row (i:=os.length) (by simp[IA]);have EA:Row W (g+1) 28 [first,nb,k,count]:=h.row (i:=os.length+1) (by simp[IA]);have FK:Row W (g+2) 132 (DE o):=h.row (i:=os.length+2) (by simp[IA]);have DV:Below W W W1:=by rw[U];exact(AS _ _).alloc ao _
 rw[Ew]at h;have h1:=h.new DV (by rw[U];exact heap_alloc_new _ _:Row W1 _ 28 Z4) ao;have we:Da first nb k hh l X.sz∈H++[Cs W 28 Z4]:=by rw[<-Ew];simp[J]
 have HC:=AO (kD h1 hf we hc Yc cO NG (by rw[Dz];exact I) hn Ya);have q1:=ER.below DV ER.lt;have q2:=EA.below DV EA.lt;have q3:=FK.below DV FK.lt;have Gv:Hid (∀e w',O8 X (H++[Cs W 28 Z4]) (outL (Kz o) l count) m nb count (Ed o) e w'->∃F N K L er:Nat,e=AH (AM #[AL #[F,N,K,L],er])/\Row w' W 28 Z4/\
   Row ((((w'.setCell W.heap.size F).setCell (W.heap.size,1) N).setCell (W.heap.size,2) K).setCell (W.heap.size,3) L) W.heap.size 28 [F,N,K,L]/\
   O8 X H (outL (Kz o) l count) m nb count (Ed o) (AH (AM #[AL #[F,N,K,L],er])) ((((w'.setCell W.heap.size F).setCell (W.heap.size,1) N).setCell (W.heap.size,2) K).setCell (W.heap.size,3) L)):=by
  rintro e w' (⟨F,N,he,NH,hw⟩|⟨er,he,De,Hw,hw⟩)
  ·refine⟨F,N,Ed o,_,0,he,hw.row (i:=H.length) a8,?_⟩;have O:=F4 hw (i:=H.length) (R:=W) (cs:=Z4) a8 rfl F N (Ed o:Nat) (AA AB ((outL (Kz o) l count).length:Nat));have e4:∀c:List Value,(H++[Cs W 28 Z4]++[Da F N (Ed o) (Ct X.sz (Ed o:Nat)) (outL (Kz o) l count) X.sz]).set H.length (Cs W 28 c)=H++Cs W 28 c::[Da F N (Ed o) (Ct X.sz (Ed o:Nat)) (outL (Kz o) l count) X.sz]:=λc=>by simp
   rw[e4]at O;exact⟨O.row (i:=H.length) a8,.inl ⟨F,N,rfl,NH,O.cut rfl rfl⟩⟩
  ·refine⟨0,0,0,0,er,he,hw.row (GC _ _),?_⟩;have O:=F4 hw (GC _ _) rfl (AA AB (0:Nat)) (AA AB (0:Nat)) (AA AB (0:Nat)) (AA AB (0:Nat));rw[Gf]at O;refine⟨O.row (GC _ _),.inr ⟨er,rfl,De,?_,JK ⟨rfl,rfl⟩ O⟩⟩;rcases Hw with h|⟨h5,aa⟩
   ·exact .inl h
   ·exact .inr ⟨h5,λq hq=>aa q (GF hq λy hy=>by simp at hy;subst hy;exact⟨rfl,rfl⟩)⟩
 generalize O8 X (H++[Cs W.heap.size 28 Z4]) (outL (Kz o) l count) m nb count (Ed o)=ab at*
 generalize O8 X H (outL (Kz o) l count) m nb count (Ed o)=Dd at*
 have E0:=AO U;generalize hs0:W.heap.size=s0 at*
 have a0:W1.cell? g=AE (AI X.p.w):=q1.cell 0;obtain⟨b0,b1,b2,b3⟩:=q2.q4;obtain⟨c0,c1,c2,c3,c4⟩:=q3.q5;clear h ER EA FK DV h1 we q1 q2 q3 U hf J hc Yc cO NG I hn Ya Ew;unfold Sv;go_enter func109,ntmps109
 go_upto_region 1 with(fail)
 rw[<-E0.out];clear E0;go_wp2_with fail
 refine HC.out.mono ?_;rintro e w7 h7;obtain⟨F,N,K,L,er,rfl,hr,Dx,hp⟩:=Gv.out e w7 h7;have HP:=AO hp;have Q:=AO Dx;obtain⟨z0,H,z2,z3⟩:=hr.q4;obtain⟨f0,f1,f2,f3⟩:=hr.r4;clear h7 hr Dx hp;go_wp2
 have r0:=Q.out.cell 0;have r1:=Q.out.cell 1;have r2:=Q.out.cell 2;have r3:=Q.out.cell 3;simp only[AW,AV]at r0 r1 r2 r3;refine Aw (v:=AM #[AL #[F,N,K,L],er]) (by simp[results,Tryz.results109,go_sem,r0,r1,r2,r3]) rfl ?_;exact HP.out
theorem Ss{first nb k hh count g:Nat}{l:List Cv}{o:Cv}(hf:GY first nb k hh l X.sz)(I:Da first nb k hh l X.sz∈os)(U:l.length=count)(Yc:Fm o)(cO:Ed o≠0)(NG:gD k o)
  (H:2*X.sz+DC DA.gw os<=X.rm)(Ya:0<Ct X.sz (Ed o:Nat)):
  ou X (os++IA g X.p.w [AA AB first,AA AB nb,AA AB k,AA AB count] o) 109 (Sv g) (Ed o) (λl' os'=>os'=os++IA g X.p.w [AA AB first,AA AB nb,AA AB k,AA AB count] o/\l'=l.map (FH o))
   (λer os'=>os'=os++IA g X.p.w [AA AB first,AA AB nb,AA AB k,AA AB count] o/\(er=6/\¬X.cm\/er=5/\∀q,¬Rm X os q (Cr (Ct X.sz (Ed o:Nat)) count))) (nb+2*count+2) where
 ent:=λargs w=>by kernel_rfl
 call:=λzz m W h Q hn=>by
  have GZ:DC DA.gw (os++IA g X.p.w [first,nb,k,count] o++zz)=DC DA.gw os:=by
   rw[DM,DM,Dq _ (El _ _ _ _),Dq _ Q];rfl
  have ho:outL (Kz o) l count=l.map (FH o):=by rw[R3 o l count a5,<-U,By]
  refine(oS h hf I U Yc cO NG rfl (by rw[GZ];exact H) a5 Ya).mono ?_;rw[ho];rintro e w' (⟨F,N,he,NH,hw⟩|⟨er,he,De,Hw,hw⟩)
  ·refine .inl ⟨F,N,_,_,_,he,NH,⟨rfl,rfl⟩,?_,hw⟩;have J:=NH.bn;have O:=Di (Ct X.sz (Ed o:Nat)) (l.map (FH o)).length;rw[Aj]at O J;omega
  ·refine .inr ⟨er,_,_,he,De,⟨rfl,?_⟩,a5,hw⟩;rcases Hw with J|⟨J,O⟩
   ·exact .inl J
   ·refine .inr ⟨J,λq hq=>O q (GF (GF hq (El _ _ _ _)) Q)⟩
end
structure RWk (s0 pw fi nb ct en:Nat) (W2:World) (Dd:Ending->World->Prop) (CA:World->Prop) (CB:Nat->Nat->Nat->Nat->Nat->Nat->World->Prop) (J:Nat->Nat->Nat->Nat->Nat->Nat->Nat->Nat->World->Prop)
  (G:Nat->Nat->Nat->Nat->Nat->Nat->Nat->Nat->Nat->Nat->Nat->Nat->Nat->World->Prop) (CE:Nat->Nat->Nat->Nat->Nat->Nat->Nat->Nat->Nat->List Value->World->Prop):Prop where
 h0:CA W2
 rA:∀w,CA w->Row w s0 28 [fi,nb,AA AB 3,ct]
 beg:∀w,CA w->Calls AP 65 #[AI pw,AL #[fi,nb,AA AB 3,ct],en] w λe w'=>∃F N K C op er:Nat,e=AH (AM #[AL #[F,N,K,C,op],er])/\CB F N K C op er w'
 xB:∀(F N K C op er:Nat) w,CB F N K C op er w->∃q,J w F N K C op er q (w.alloc (AK #[F,N,K,C,op] 125))
 rJ:∀gs F N K C op er q w,J gs F N K C op er q w->Row w gs 125 [F,N,K,C,op]/\Row w (s0+1) 28 [(),(),(),()]
 len:∀gs F N K C op q w,J gs F N K C op 0 q w->0<op->Calls AP 66 #[AI pw,AL #[F,N,K,C,op]] w λe w'=>∃F2 N2 K2 C2 VO er:Nat,e=AH (AM #[AL #[F2,N2,K2,C2,VO],er])/\G gs F N K C op F2 N2 K2 C2 VO er q w'
 rG:∀gs F N K C op F2 N2 K2 C2 VO er q w,G gs F N K C op F2 N2 K2 C2 VO er q w->Row w gs 125 [F,N,K,C,op]
 sG:∀(gs F N K C op F2 N2 K2 C2 VO er q:Nat) w,G gs F N K C op F2 N2 K2 C2 VO er q w->∃q',q'<q/\J gs F2 N2 K2 C2 VO er q' (((((w.setCell gs F2).setCell (gs,1) N2).setCell (gs,2) K2).setCell (gs,3) C2).setCell (gs,4) VO)
 eJ:∀gs F N K C op er q w,J gs F N K C op er q w->er≠0->Row ((((w.setCell (s0+1,0) ()).setCell (s0+1,1) ()).setCell (s0+1,2) ()).setCell (s0+1,3) ()) (s0+1) 28 [(),(),(),()]/\Dd (AH (AM #[AL #[(),(),(),()],er])) ((((w.setCell (s0+1,0) ()).setCell (s0+1,1) ()).setCell (s0+1,2) ()).setCell (s0+1,3) ())
 cut:∀gs F N K C q w,J gs F N K C 0 0 q w->Calls AP 68 #[AI pw,AL #[F,N,K,C],AL #[AA AB 1,AA AB 3,(),(),()]] w λe w'=>∃F2 N2 K2 C2 er:Nat,e=AH (AM #[AL #[F2,N2,K2,C2],er])/\CE F N K C F2 N2 K2 C2 er [(),(),(),()] w'
 rE:∀F N K C F2 N2 K2 C2 er cs w,CE F N K C F2 N2 K2 C2 er cs w->Row w (s0+1) 28 cs
 sE:∀(F N K C F2 N2 K2 C2 er:Nat) w,CE F N K C F2 N2 K2 C2 er [(),(),(),()] w->CE F N K C F2 N2 K2 C2 er [F2,N2,K2,C2] ((((w.setCell (s0+1,0) F2).setCell (s0+1,1) N2).setCell (s0+1,2) K2).setCell (s0+1,3) C2)
 fE:∀(F N K C F2 N2 K2 C2 er:Nat) u w,CE F N K C F2 N2 K2 C2 er [F2,N2,K2,C2] w->CallsD AP 67 #[AI pw,AL #[F,N,K,C]] u w λe u' w'=>u'=u/\(e=AH ()/\Row w' (s0+1) 28 [F2,N2,K2,C2]/\Dd (AH (AM #[AL #[F2,N2,K2,C2],er])) w')
theorem ZW{W:World}{s0 pw fi nb ct en:Nat}{W2 Dd CA CB J}
  {G}{CE}
  (hs0:s0=W)(G9:W2=(W.alloc (AK #[fi,nb,AA AB 3,ct] 28)).alloc (AK #[(),(),(),()] 28))(hW:RWk s0 pw fi nb ct en W2 Dd CA CB J G CE):
  Calls AP 38 #[AI pw,AL #[fi,nb,AA AB 3,ct],en] W Dd:=by
 have O:=AO hW;have Qe:=AO hs0;have KU:=AO G9;have Q:=hW.rA _ hW.h0;obtain⟨a0,a1,a2,a3⟩:=Q.q4;have HC:=AO (hW.beg _ hW.h0);clear hW hs0 G9 Q;go_enter_defers func38,ntmps38
 go_upto_region 1 with(fail)
 rw[<-KU.out,<-Qe.out];clear KU;go_wp2_with fail
 refine HC.out.mono ?_;rintro e w3 ⟨F0,N0,K0,C0,ao,ar,rfl,h3⟩;obtain⟨q0,h4⟩:=O.out.xB _ _ _ _ _ _ _ h3;have H0:=AO h4;clear h3 h4 HC a0 a1 a2 a3;go_upto_region 2 with(fail)
 generalize w3.alloc (AK #[F0,N0,K0,C0,ao] 125)=w4 at*
 generalize w3.heap.size=gs at*
 obtain⟨I,aa⟩:∃I:Value->Nat->World->Prop,∀s q w,I s q w↔∃F N K C op er:Nat,s=AA AB er/\J gs F N K C op er q w:=⟨_,λ_ _ _=>BN⟩;have yG:=AO aa;have ae:Hid (I ar q0 w4):=(aa _ _ _).2 ⟨_,_,_,_,_,_,rfl,H0.out⟩;clear aa H0;go_loopw [9] (λs9 wr=>∃q:Nat,Hid (I s9 q wr)) (λs9 wr=>Hg λq=>I s9 q wr)
 case atStart=>exact⟨q0,ae⟩
 case round=>
  obtain⟨q,hq⟩:=hrel;obtain⟨q1,Xf⟩:∃q1,q1=Hg λq=>I u9 q wr:=⟨_,rfl⟩;have HL:I u9 q1 wr:=by rw[Xf];exact(Fe (P:=λq=>I u9 q wr) hq.out).1
  obtain⟨F,N,K,C,op,er,hu,hJ⟩:=(yG.out _ _ _).1 HL;subst hu;have ab:=AO Xf;have HJ:=AO hJ;clear hq Xf HL hJ ae;obtain⟨Q,U⟩:=O.out.rJ _ _ _ _ _ _ _ _ _ HJ.out;obtain⟨a0,a1,a2,a3,a4⟩:=Q.q5;obtain⟨z0,z1,z2,z3⟩:=U.q4;obtain⟨f0,f1,f2,f3⟩:=U.r4;clear Q U;by_cases he:er=0
  ·subst he;replace ab:Hid (q1=Hg λq=>I () q wr):=ab;simp only[Int.ofNat_zero];by_cases Yb:0<op
   ·have g1:decide ((op:Int)>0)=true:=by simp;omega
    have g2:decide (0<op)=true:=by simpa using Yb
    have NB:=AO (O.out.len _ _ _ _ _ _ _ _ HJ.out Yb);clear Yb z0 z1 z2 z3 f0 f1 f2 f3;go_wp2_with fail
    refine NB.out.mono ?_;rintro e w5 ⟨F2,N2,K2,C2,VO,ck,rfl,h5⟩;obtain⟨q',ad,h6⟩:=O.out.sG _ _ _ _ _ _ _ _ _ _ _ _ _ _ h5;have Q:=O.out.rG _ _ _ _ _ _ _ _ _ _ _ _ _ _ h5;have KV:=AO ad;have HP:=AO ((yG.out ck q' _).2 ⟨_,_,_,_,_,_,rfl,h6⟩);clear h5 h6 ad NB a0 a1 a2 a3 a4;obtain⟨a0,a1,a2,a3,a4⟩:=Q.q5;obtain⟨f0,f1,f2,f3,f4⟩:=Q.r5;clear Q;go_wp2
    go_roundw
    case rel=>exact⟨_,HP⟩
    case measure=>
     refine Ce (Fe (P:=λq=>I ck q _) HP.out).2 ?_;have:=ab.out;have:=KV.out;omega
   ·have g1:decide ((op:Int)>0)=false:=by simp;omega
    have g2:decide (0<op)=false:=by simpa using Yb
    have h0:op=0:=a5;subst h0;simp only[Int.ofNat_zero]at a4;have al:=AO (O.out.cut _ _ _ _ _ _ _ HJ.out);clear Yb z0 z1 z2 z3 f0 f1 f2 f3;go_wp2_with fail
    refine al.out.mono ?_;rintro e w5 ⟨F2,N2,K2,C2,ck,rfl,h5⟩;have U:=O.out.rE _ _ _ _ _ _ _ _ _ _ _ h5;have H9:=AO (O.out.sE _ _ _ _ _ _ _ _ _ _ h5);clear h5 al a0 a1 a2 a3 a4;obtain⟨z0,z1,z2,z3⟩:=U.q4;obtain⟨f0,f1,f2,f3⟩:=U.r4;clear U;go_wp2
    refine Ay (f:=67) (args:=#[AI pw,AL #[F,N,K,C]]) a8 (by simp[go_sem]) ?_;refine(O.out.fE _ _ _ _ _ _ _ _ _ _ _ H9.out).mono ?_;rintro e u' w9 ⟨rfl,rfl,H,D5⟩;have k0:=H.cell 0;have k1:=H.cell 1;have k2:=H.cell 2;have k3:=H.cell 3;simp only[AW,AV]at k0 k1 k2 k3;exact⟨AM #[AL #[F2,N2,K2,C2],ck],by simp[results,Tryz.results38,go_sem,k0,k1,k2,k3],D5⟩
  ·have av:¬(er:Int)=0:=a5;have g1:((er:Int)==0)=false:=by simp;omega
   obtain⟨H,D5⟩:=O.out.eJ _ _ _ _ _ _ _ _ _ HJ.out he;have ES:=AO H;have HP:=AO D5;clear he H D5;go_wp2
   have H:=ES.out;have k0:=H.cell 0;have k1:=H.cell 1;have k2:=H.cell 2;have k3:=H.cell 3;simp only[AW,AV]at k0 k1 k2 k3;exact⟨AM #[AL #[(),(),(),()],er],by simp[results,Tryz.results38,go_sem,k0,k1,k2,k3],HP.out⟩
structure BWk (s0 pw fi nb ct d:Nat) (W2:World) (Dd:Ending->World->Prop) (CA:World->Prop) (CB:Nat->World->Prop) (CC:Nat->Nat->Nat->Nat->Nat->World->Prop) (CD:Nat->Nat->Nat->Nat->Nat->Nat->World->Prop)
  (CF:Nat->Nat->Nat->Nat->Nat->Nat->World->Prop) (CG:Nat->Nat->Nat->Nat->Nat->Nat->Nat->Nat->Nat->Nat->World->Prop) (CH:Nat->Nat->Nat->Nat->Nat->Nat->Nat->Nat->Nat->Nat->Nat->World->Prop)
  (CI:Nat->Nat->Nat->Nat->Nat->Nat->Nat->Nat->Nat->Nat->Nat->World->Prop) (CJ:Nat->Nat->Nat->Nat->Nat->Nat->Nat->Nat->Nat->Nat->Nat->Nat->Nat->Nat->World->Prop)
  (X1:Nat->Nat->Nat->Nat->Nat->World->Prop) (X2:Nat->Nat->Nat->Nat->Nat->Nat->Nat->Nat->Nat->World->Prop) (Y2:Nat->Nat->Nat->Nat->Nat->Nat->Nat->Nat->Nat->Nat->Nat->Nat->Nat->World->Prop):Prop where
 h0:CA W2
 rA:∀w,CA w->Row w s0 28 [fi,nb,AA AB 3,ct]
 Fy:∀w,CA w->Calls AP 85 #[AI pw,AL #[fi,nb,AA AB 3,ct],AL #[AA AB 1,(),(),(),()]] w λe w'=>∃g,e=AH (.func (.func 109) #[] (Sv g))/\CB g w'
 sort:∀g w,CB g w->Calls AP 84 #[AI pw,.func (.func 109) #[] (Sv g),AL #[AA AB 1,(),(),(),()],true] w λe w'=>∃F N K L er:Nat,e=AH (AM #[AL #[F,N,K,L],er])/\CC F N K L er w'
 xC:∀(F N K L er:Nat) w,CC F N K L er w->CD w F N K L er (w.alloc (AK #[F,N,K,L] 28))
 rD:∀ge F N K L er w,CD ge F N K L er w->(Row w s0 28 [fi,nb,AA AB 3,ct]/\Row w ge 28 [F,N,K,L])/\Row w (s0+1) 125 [(),(),(),(),()]
 eD:∀(ge F N K L er:Nat) w,CD ge F N K L er w->er≠0->Row (((((w.setCell (s0+1,0) ()).setCell (s0+1,1) ()).setCell (s0+1,2) ()).setCell (s0+1,3) ()).setCell (s0+1,4) ()) (s0+1) 125 [(),(),(),(),()]/\Dd (AH (AM #[AL #[(),(),(),(),()],er])) (((((w.setCell (s0+1,0) ()).setCell (s0+1,1) ()).setCell (s0+1,2) ()).setCell (s0+1,3) ()).setCell (s0+1,4) ())
 lD:∀(ge F N K L:Nat) w,CD ge F N K L 0 w->L<ct->X1 F N K L 3 (((((w.setCell (s0+1,0) ()).setCell (s0+1,1) ()).setCell (s0+1,2) ()).setCell (s0+1,3) ()).setCell (s0+1,4) ())
 cuts2:∀ge F N K L w,CD ge F N K L 0 w->¬L<ct->Calls AP 85 #[AI pw,AL #[fi,nb,AA AB 3,ct],AL #[AA AB 2,AA AB 1,AA AB 3,(),()]] w λe w'=>∃g,e=AH (.func (.func 109) #[] (Sv g))/\CF g ge F N K L w'
 sort2:∀g ge F N K L w,CF g ge F N K L w->Calls AP 84 #[AI pw,.func (.func 109) #[] (Sv g),AL #[AA AB 1,(),(),(),()],false] w λe w'=>∃F2 N2 K2 L2 er:Nat,e=AH (AM #[AL #[F2,N2,K2,L2],er])/\CG ge F N K L F2 N2 K2 L2 er w'
 xG:∀(ge F N K L F2 N2 K2 L2 er:Nat) w,CG ge F N K L F2 N2 K2 L2 er w->CH ge w F N K L F2 N2 K2 L2 er (w.alloc (AK #[F2,N2,K2,L2] 28))
 rH:∀ge gk F N K L F2 N2 K2 L2 er w,CH ge gk F N K L F2 N2 K2 L2 er w->Row w gk 28 [F2,N2,K2,L2]/\Row w (s0+1) 125 [(),(),(),(),()]
 eH:∀ge gk F N K L F2 N2 K2 L2 er w,CH ge gk F N K L F2 N2 K2 L2 er w->er≠0->X1 F N K L er (((((w.setCell (s0+1,0) ()).setCell (s0+1,1) ()).setCell (s0+1,2) ()).setCell (s0+1,3) ()).setCell (s0+1,4) ())
 xH:∀ge gk F N K L F2 N2 K2 L2 w,CH ge gk F N K L F2 N2 K2 L2 0 w->CI ge gk w F N K L F2 N2 K2 L2 (w.alloc (AK #[(),(),(),(),()] 125))
 rI:∀ge gk gs F N K L F2 N2 K2 L2 w,CI ge gk gs F N K L F2 N2 K2 L2 w->Row w ge 28 [F,N,K,L]/\Row w gk 28 [F2,N2,K2,L2]
 mat:∀ge gk gs F N K L F2 N2 K2 L2 w,CI ge gk gs F N K L F2 N2 K2 L2 w->Calls AP 86 #[AI pw,AL #[F,N,K,L],(),AL #[F2,N2,K2,L2],.func (.func 87) #[] #[AI gs]] w λe w'=>∃F3 N3 K3 L3 n er:Nat,e=AH (AM #[AL #[F3,N3,K3,L3],er])/\Row w' gs 125 [(),(),(),(),n]/\
  (er=0->CJ gs F N K L F2 N2 K2 L2 F3 N3 K3 L3 n ((((w'.setCell gs F3).setCell (gs,1) N3).setCell (gs,2) K3).setCell (gs,3) L3))/\(er≠0->∀Ej,Ej=((((w'.setCell gs F3).setCell (gs,1) N3).setCell (gs,2) K3).setCell (gs,3) L3)->X2 F N K L F2 N2 K2 L2 er (((((Ej.setCell (s0+1,0) ()).setCell (s0+1,1) ()).setCell (s0+1,2) ()).setCell (s0+1,3) ()).setCell (s0+1,4) ())/\Row Ej (s0+1) 125 [(),(),(),(),()])
 rJ:∀gs F N K L F2 N2 K2 L2 F3 N3 K3 L3 n w,CJ gs F N K L F2 N2 K2 L2 F3 N3 K3 L3 n w->(Row w gs 125 [F3,N3,K3,L3,n]/\Row w s0 28 [fi,nb,AA AB 3,ct])/\Row w (s0+1) 125 [(),(),(),(),()]
 free:∀(gs F N K L F2 N2 K2 L2 F3 N3 K3 L3 n:Nat) w,CJ gs F N K L F2 N2 K2 L2 F3 N3 K3 L3 n w->n<d->Calls AP 67 #[AI pw,AL #[F3,N3,K3,L3]] w λe w'=>e=AH ()/\Row w' (s0+1) 125 [(),(),(),(),()]/\X2 F N K L F2 N2 K2 L2 3 (((((w'.setCell (s0+1,0) ()).setCell (s0+1,1) ()).setCell (s0+1,2) ()).setCell (s0+1,3) ()).setCell (s0+1,4) ())
 sJ:∀(gs F N K L F2 N2 K2 L2 F3 N3 K3 L3 n:Nat) w,CJ gs F N K L F2 N2 K2 L2 F3 N3 K3 L3 n w->¬n<d->Y2 F N K L F2 N2 K2 L2 F3 N3 K3 L3 n (((((w.setCell (s0+1,0) F3).setCell (s0+1,1) N3).setCell (s0+1,2) K3).setCell (s0+1,3) L3).setCell (s0+1,4) n)
 fX1:∀(F N K L er:Nat) u w,X1 F N K L er w->CallsD AP 67 #[AI pw,AL #[F,N,K,L]] u w λe u' w'=>u'=u/\(e=AH ()/\Row w' (s0+1) 125 [(),(),(),(),()]/\Dd (AH (AM #[AL #[(),(),(),(),()],er])) w')
 fX2:∀(F N K L F2 N2 K2 L2 er:Nat) u w,X2 F N K L F2 N2 K2 L2 er w->CallsD AP 67 #[AI pw,AL #[F2,N2,K2,L2]] u w λe u' w'=>u'=u/\(e=AH ()/\∀u2,CallsD AP 67 #[AI pw,AL #[F,N,K,L]] u2 w' λe u' Ej=>u'=u2/\(e=AH ()/\Row Ej (s0+1) 125 [(),(),(),(),()]/\Dd (AH (AM #[AL #[(),(),(),(),()],er])) Ej))
 fY2:∀(F N K L F2 N2 K2 L2 F3 N3 K3 L3 n:Nat) u w,Y2 F N K L F2 N2 K2 L2 F3 N3 K3 L3 n w->CallsD AP 67 #[AI pw,AL #[F2,N2,K2,L2]] u w λe u' w'=>u'=u/\(e=AH ()/\∀u2,CallsD AP 67 #[AI pw,AL #[F,N,K,L]] u2 w' λe u' Ej=>u'=u2/\(e=AH ()/\Row Ej (s0+1) 125 [F3,N3,K3,L3,n]/\Dd (AH (AM #[AL #[F3,N3,K3,L3,n],()])) Ej))
theorem ai{W:World}{s0 pw fi nb ct en d:Nat}{W2 Dd CA CB CC CD}
  {CF}{CG}{CH}
  {CI}{CJ}
  {X1}{X2}{Y2}
  (hs0:s0=W)(G9:W2=(W.alloc (AK #[fi,nb,AA AB 3,ct] 28)).alloc (AK #[(),(),(),(),()] 125))(ab:(ct:Int)-(en:Int)=(d:Int))(hd:d<=1000000)
  (hW:BWk s0 pw fi nb ct d W2 Dd CA CB CC CD CF CG CH CI CJ X1 X2 Y2):
  Calls AP 65 #[AI pw,AL #[fi,nb,AA AB 3,ct],en] W Dd:=by
 have J:=AO hW;have Qe:=AO hs0;have KU:=AO G9;have RP:=AO hW.h0;have Q:=hW.rA _ hW.h0;have QM:Aa.wrap ((ct:Int)-(en:Int))=(d:Int):=by rw[ab,BV];omega
 obtain⟨a0,a1,a2,a3⟩:=Q.q4;have HC:=AO (hW.Fy _ hW.h0);clear hW hs0 G9 Q;go_enter_defers func65,ntmps65
 go_upto_region 1 with(fail)
 rw[<-KU.out,<-Qe.out];clear KU;go_wp2_with fail
 refine HC.out.mono ?_;rintro e w3 ⟨g,rfl,h3⟩;have ao:=AO (J.out.sort _ _ h3);clear h3 HC RP a0 a1 a2 a3;go_wp2_with fail
 refine ao.out.mono ?_;rintro e w4 ⟨F,N,K,L,er,rfl,h4⟩;have HD:=AO (J.out.xC _ _ _ _ _ _ h4);clear h4 ao;go_upto_region 2 with(fail)
 generalize w4.alloc (AK #[F,N,K,L] 28)=w5 at*
 generalize w4.heap.size=ge at*
 obtain⟨⟨Q,p2⟩,O⟩:=J.out.rD _ _ _ _ _ _ _ HD.out;obtain⟨a0,a1,a2,a3⟩:=Q.q4;obtain⟨b0,b1,b2,b3⟩:=p2.q4;obtain⟨z0,z1,z2,z3,z4⟩:=O.q5;obtain⟨f0,f1,f2,f3,f4⟩:=O.r5;clear Q p2 O;by_cases he:er=0
 ·subst he;simp only[Int.ofNat_zero];by_cases I:L<ct
  ·have g1:decide (L<ct)=true:=by simpa using I
   have H9:=AO (J.out.lD _ _ _ _ _ _ HD.out I);clear I HD;go_wp2
   refine Ay (f:=67) (args:=#[AI pw,AL #[F,N,K,L]]) a8 (by simp[go_sem]) ?_;refine(J.out.fX1 F N K L 3 _ _ H9.out).mono ?_;rintro e u' w9 ⟨rfl,rfl,H,D5⟩;have k0:=H.cell 0;have k1:=H.cell 1;have k2:=H.cell 2;have k3:=H.cell 3;have U:=H.cell 4;simp only[AW,AV]at k0 k1 k2 k3 U;exact⟨AM #[AL #[(),(),(),(),()],AA AB 3],by simp[results,Tryz.results65,go_sem,k0,k1,k2,k3,U],D5⟩
  ·have g1:decide (L<ct)=false:=by simpa using I
   have HC:=AO (J.out.cuts2 _ _ _ _ _ _ HD.out I);clear I HD;go_wp2_with fail
   refine HC.out.mono ?_;rintro e w6 ⟨g',rfl,h6⟩;have al:=AO (J.out.sort2 _ _ _ _ _ _ _ h6);clear h6 HC a0 a1 a2 a3 b0 b1 b2 b3 z0 z1 z2 z3 z4 f0 f1 f2 f3 f4;go_wp2_with fail
   refine al.out.mono ?_;rintro e w7 ⟨F2,N2,K2,L2,ck,rfl,h7⟩;have HH:=AO (J.out.xG _ _ _ _ _ _ _ _ _ _ _ h7);clear h7 al;go_upto_region 8 with(fail)
   generalize w7.alloc (AK #[F2,N2,K2,L2] 28)=w8 at*
   generalize w7.heap.size=gk at*
   obtain⟨Q,O⟩:=J.out.rH _ _ _ _ _ _ _ _ _ _ _ _ HH.out;obtain⟨c0,c1,c2,c3⟩:=Q.q4;obtain⟨z0,z1,z2,z3,z4⟩:=O.q5;obtain⟨f0,f1,f2,f3,f4⟩:=O.r5;clear Q O;by_cases uB:ck=0
   ·subst uB;simp only[Int.ofNat_zero];have HI:=AO (J.out.xH _ _ _ _ _ _ _ _ _ _ _ HH.out);clear HH;go_upto_region 12 with(fail)
    generalize w8.alloc (AK #[(),(),(),(),()] 125)=w9 at*
    generalize w8.heap.size=gs at*
    obtain⟨Q,p2⟩:=J.out.rI _ _ _ _ _ _ _ _ _ _ _ _ HI.out;have HM:=AO (J.out.mat _ _ _ _ _ _ _ _ _ _ _ _ HI.out);clear c0 c1 c2 c3 z0 z1 z2 z3 z4 f0 f1 f2 f3 f4 HI;obtain⟨b0,b1,b2,b3⟩:=Q.q4;obtain⟨c0,c1,c2,c3⟩:=p2.q4;clear Q p2;go_wp2_with fail
    refine HM.out.mono ?_;rintro e Lf ⟨F3,N3,K3,L3,n,aa,rfl,Q,hJ,hX⟩;have HJ:=AO hJ;have HX:=AO hX;obtain⟨y0,y1,y2,y3⟩:=Q.q4;obtain⟨g0,g1,g2,g3⟩:=Q.r4;clear Q hJ hX HM b0 b1 b2 b3 c0 c1 c2 c3;go_upto_region 13 with(fail)
    generalize((((Lf.setCell gs F3).setCell (gs,1) N3).setCell (gs,2) K3).setCell (gs,3) L3)=ar at*
    clear y0 y1 y2 y3 g0 g1 g2 g3;by_cases ad:aa=0
    ·subst ad;simp only[Int.ofNat_zero];have HP:=AO (HJ.out rfl);clear HJ HX;obtain⟨⟨Q,p2⟩,O⟩:=J.out.rJ _ _ _ _ _ _ _ _ _ _ _ _ _ _ _ HP.out;obtain⟨y0,y1,y2,y3,y4⟩:=Q.q5;obtain⟨a0,a1,a2,a3⟩:=p2.q4;by_cases I:n<d
     ·have g1:decide (n<d)=true:=by simpa using I
      have Th:=AO (J.out.free _ _ _ _ _ _ _ _ _ _ _ _ _ _ _ HP.out I);clear I Q p2 O;go_wp2_with fail
      refine Th.out.mono ?_;rintro e It ⟨rfl,O,h9⟩;have H9:=AO h9;clear h9 Th y0 y1 y2 y3 y4 a0 a1 a2 a3;obtain⟨z0,z1,z2,z3,z4⟩:=O.q5;obtain⟨f0,f1,f2,f3,f4⟩:=O.r5;clear O;go_wp2
      refine Ay (f:=67) (args:=#[AI pw,AL #[F2,N2,K2,L2]]) a8 (by simp[go_sem]) ?_;refine(J.out.fX2 F N K L F2 N2 K2 L2 3 _ _ H9.out).mono ?_;rintro e u' w8 ⟨rfl,rfl,Fh⟩;refine Ay (f:=67) (args:=#[AI pw,AL #[F,N,K,L]]) (by simp[settle]) (by simp[go_sem]) ?_;refine(Fh _).mono ?_;rintro e u' w9 ⟨rfl,rfl,H,D5⟩;have k0:=H.cell 0;have k1:=H.cell 1;have k2:=H.cell 2;have k3:=H.cell 3;have U:=H.cell 4;simp only[AW,AV]at k0 k1 k2 k3 U;exact⟨AM #[AL #[(),(),(),(),()],AA AB 3],by simp[results,Tryz.results65,go_sem,k0,k1,k2,k3,U],D5⟩
     ·have g1:decide (n<d)=false:=by simpa using I
      have H9:=AO (J.out.sJ _ _ _ _ _ _ _ _ _ _ _ _ _ _ _ HP.out I);clear I;obtain⟨z0,z1,z2,z3,z4⟩:=O.q5;obtain⟨f0,f1,f2,f3,f4⟩:=O.r5;clear Q p2 O;go_wp2
      refine Ay (f:=67) (args:=#[AI pw,AL #[F2,N2,K2,L2]]) a8 (by simp[go_sem]) ?_;refine(J.out.fY2 F N K L F2 N2 K2 L2 F3 N3 K3 L3 n _ _ H9.out).mono ?_;rintro e u' w8 ⟨rfl,rfl,Fh⟩;refine Ay (f:=67) (args:=#[AI pw,AL #[F,N,K,L]]) (by simp[settle]) (by simp[go_sem]) ?_;refine(Fh _).mono ?_;rintro e u' w9 ⟨rfl,rfl,H,D5⟩;have k0:=H.cell 0;have k1:=H.cell 1;have k2:=H.cell 2;have k3:=H.cell 3;have U:=H.cell 4;simp only[AW,AV]at k0 k1 k2 k3 U;exact⟨AM #[AL #[F3,N3,K3,L3,n],()],by simp[results,Tryz.results65,go_sem,k0,k1,k2,k3,U],D5⟩
    ·have ae:¬(aa:Int)=0:=a5;obtain⟨h9,O⟩:=HX.out ad _ rfl;have H9:=AO h9;clear HJ HX h9 ad;obtain⟨z0,z1,z2,z3,z4⟩:=O.q5;obtain⟨f0,f1,f2,f3,f4⟩:=O.r5;clear O;go_wp2
     refine Ay (f:=67) (args:=#[AI pw,AL #[F2,N2,K2,L2]]) a8 (by simp[go_sem]) ?_;refine(J.out.fX2 F N K L F2 N2 K2 L2 aa _ _ H9.out).mono ?_;rintro e u' w8 ⟨rfl,rfl,Fh⟩;refine Ay (f:=67) (args:=#[AI pw,AL #[F,N,K,L]]) (by simp[settle]) (by simp[go_sem]) ?_;refine(Fh _).mono ?_;rintro e u' w9 ⟨rfl,rfl,H,D5⟩;have k0:=H.cell 0;have k1:=H.cell 1;have k2:=H.cell 2;have k3:=H.cell 3;have U:=H.cell 4;simp only[AW,AV]at k0 k1 k2 k3 U;exact⟨AM #[AL #[(),(),(),(),()],aa],by simp[results,Tryz.results65,go_sem,k0,k1,k2,k3,U],D5⟩
   ·have ae:¬(ck:Int)=0:=a5;have H9:=AO (J.out.eH _ _ _ _ _ _ _ _ _ _ _ _ HH.out uB);clear HH uB;go_wp2
    refine Ay (f:=67) (args:=#[AI pw,AL #[F,N,K,L]]) a8 (by simp[go_sem]) ?_;refine(J.out.fX1 F N K L ck _ _ H9.out).mono ?_;rintro e u' w9 ⟨rfl,rfl,H,D5⟩;have k0:=H.cell 0;have k1:=H.cell 1;have k2:=H.cell 2;have k3:=H.cell 3;have U:=H.cell 4;simp only[AW,AV]at k0 k1 k2 k3 U;exact⟨AM #[AL #[(),(),(),(),()],ck],by simp[results,Tryz.results65,go_sem,k0,k1,k2,k3,U],D5⟩
 ·have ae:¬(er:Int)=0:=a5;obtain⟨H,D5⟩:=J.out.eD _ _ _ _ _ _ _ HD.out he;have ES:=AO H;have HP:=AO D5;clear HD he H D5;go_wp2
  have H:=ES.out;have k0:=H.cell 0;have k1:=H.cell 1;have k2:=H.cell 2;have k3:=H.cell 3;have U:=H.cell 4;simp only[AW,AV]at k0 k1 k2 k3 U;exact⟨AM #[AL #[(),(),(),(),()],er],by simp[results,Tryz.results65,go_sem,k0,k1,k2,k3,U],HP.out⟩
structure LWk (s0 pw fb nb cb op:Nat) (W3:World) (Dd:Ending->World->Prop) (CA:Option Nat->World->Prop) (CB:Nat->Option Nat->World->Prop) (CC:Option Nat->Nat->Nat->Nat->Nat->Nat->World->Prop) (CD:Nat->Nat->Nat->Nat->Nat->Nat->World->Prop)
  (X1:Nat->World->Prop) (CE:Nat->Nat->Nat->Nat->Nat->Nat->World->Prop) (CF CG:Nat->Nat->Nat->Nat->Nat->Nat->Nat->Nat->Nat->Nat->Nat->World->Prop) (X2:Nat->Nat->Nat->Nat->Nat->World->Prop) (Y2:Nat->Nat->Nat->Nat->Nat->Nat->Nat->Nat->Nat->World->Prop):Prop where
 h0:CA AD W3
 dA:∀u w,CA u w->CA u w.drew
 xA:∀w,CA AD w->CA (AE w) (w.alloc (AK #[(),(),(),()] 28))
 rA:∀u w,CA u w->Row w s0 23 [AI pw]/\Row w (s0+1) 125 [fb,nb,AA AB 3,cb,op]
 Fy:∀u w,CA u w->Calls AP 85 #[AI pw,AL #[fb,nb,AA AB 3,cb],AL #[AA AB 1,AA AB 2,AA AB 3,(),()]] w λe w'=>∃g,e=AH (.func (.func 109) #[] (Sv g))/\CB g u w'
 xB:∀g w,CB g AD w->CB g (AE w) (w.alloc (AK #[(),(),(),()] 28))
 rB:∀g u w,CB g u w->Row w s0 23 [AI pw]/\Row w (s0+1) 125 [fb,nb,AA AB 3,cb,op]
 sort:∀g u w,CB g u w->Calls AP 84 #[AI pw,.func (.func 109) #[] (Sv g),AL #[AA AB 2,(),(),(),()],false] w λe w'=>∃F N K L er:Nat,e=AH (AM #[AL #[F,N,K,L],er])/\CC u F N K L er w'
 rC:∀u F N K L er w,CC u F N K L er w->Row w s0 23 [AI pw]/\Row w (s0+1) 125 [fb,nb,AA AB 3,cb,op]
 rC6:∀g6 F N K L er w,CC (AE g6) F N K L er w->Row w g6 28 [(),(),(),()]/\s0≠g6/\s0+1≠g6
 xC:∀(F N K L er:Nat) w,CC AD F N K L er w->CD w F N K L er (w.alloc (AK #[F,N,K,L] 28))
 xC6:∀(g6 F N K L er:Nat) w,CC (AE g6) F N K L er w->CD g6 F N K L er ((((w.setCell g6 F).setCell (g6,1) N).setCell (g6,2) K).setCell (g6,3) L)
 rD:∀g6 F N K L er w,CD g6 F N K L er w->Row w s0 23 [AI pw]/\Row w g6 28 [F,N,K,L]/\Row w (s0+2) 125 [(),(),(),(),()]
 eD:∀g6 F N K L er w,CD g6 F N K L er w->er≠0->X1 er (((((w.setCell (s0+2,0) ()).setCell (s0+2,1) ()).setCell (s0+2,2) ()).setCell (s0+2,3) ()).setCell (s0+2,4) ())
 fX1:∀(er:Nat) u w,X1 er w->CallsD AP 67 #[AI pw,AL #[fb,nb,AA AB 3,cb]] u w λe u' w'=>u'=u/\(e=AH ()/\Row w' (s0+2) 125 [(),(),(),(),()]/\Dd (AH (AM #[AL #[(),(),(),(),()],er])) w')
 xD:∀g6 F N K L w,CD g6 F N K L 0 w->CE g6 w F N K L (w.alloc (AK #[(),(),(),(),()] 125))
 rE:∀g6 gl F N K L w,CE g6 gl F N K L w->Row w s0 23 [AI pw]
 sort2:∀g6 gl F N K L w,CE g6 gl F N K L w->Calls AP 84 #[AI pw,.func (.func 88) #[] #[AI s0,AI g6,AI (s0+1,0),AI gl],AL #[AA AB 1,(),(),(),()],false] w λe w'=>∃F2 N2 K2 L2 n er:Nat,e=AH (AM #[AL #[F2,N2,K2,L2],er])/\CF g6 gl F N K L F2 N2 K2 L2 n w'/\(er=0->CG g6 gl F N K L F2 N2 K2 L2 n ((((w'.setCell gl F2).setCell (gl,1) N2).setCell (gl,2) K2).setCell (gl,3) L2))/\(er≠0->∀Ej,Ej=((((w'.setCell gl F2).setCell (gl,1) N2).setCell (gl,2) K2).setCell (gl,3) L2)->X2 F N K L er (((((Ej.setCell (s0+2,0) ()).setCell (s0+2,1) ()).setCell (s0+2,2) ()).setCell (s0+2,3) ()).setCell (s0+2,4) ())/\Row Ej (s0+2) 125 [(),(),(),(),()])
 rF:∀g6 gl F N K L F2 N2 K2 L2 n w,CF g6 gl F N K L F2 N2 K2 L2 n w->Row w gl 125 [(),(),(),(),n]
 rG:∀g6 gl F N K L F2 N2 K2 L2 n w,CG g6 gl F N K L F2 N2 K2 L2 n w->(Row w gl 125 [F2,N2,K2,L2,n]/\Row w (s0+1) 125 [fb,nb,AA AB 3,cb,op])/\Row w s0 23 [AI pw]/\Row w (s0+2) 125 [(),(),(),(),()]
 free:∀(g6 gl F N K L F2 N2 K2 L2 n:Nat) w,CG g6 gl F N K L F2 N2 K2 L2 n w->n=op->Calls AP 67 #[AI pw,AL #[F2,N2,K2,L2]] w λe w'=>e=AH ()/\Row w' (s0+2) 125 [(),(),(),(),()]/\X2 F N K L 3 (((((w'.setCell (s0+2,0) ()).setCell (s0+2,1) ()).setCell (s0+2,2) ()).setCell (s0+2,3) ()).setCell (s0+2,4) ())
 sG:∀(g6 gl F N K L F2 N2 K2 L2 n:Nat) w,CG g6 gl F N K L F2 N2 K2 L2 n w->n≠op->Y2 F N K L F2 N2 K2 L2 n (((((w.setCell (s0+2,0) F2).setCell (s0+2,1) N2).setCell (s0+2,2) K2).setCell (s0+2,3) L2).setCell (s0+2,4) n)
 fX2:∀(F N K L er:Nat) u w,X2 F N K L er w->CallsD AP 67 #[AI pw,AL #[F,N,K,L]] u w λe u' w'=>u'=u/\(e=AH ()/\∀u2,CallsD AP 67 #[AI pw,AL #[fb,nb,AA AB 3,cb]] u2 w' λe u' Ej=>u'=u2/\(e=AH ()/\Row Ej (s0+2) 125 [(),(),(),(),()]/\Dd (AH (AM #[AL #[(),(),(),(),()],er])) Ej))
 fY2:∀(F N K L F2 N2 K2 L2 n:Nat) u w,Y2 F N K L F2 N2 K2 L2 n w->CallsD AP 67 #[AI pw,AL #[F,N,K,L]] u w λe u' w'=>u'=u/\(e=AH ()/\∀u2,CallsD AP 67 #[AI pw,AL #[fb,nb,AA AB 3,cb]] u2 w' λe u' Ej=>u'=u2/\(e=AH ()/\Row Ej (s0+2) 125 [F2,N2,K2,L2,n]/\Dd (AH (AM #[AL #[F2,N2,K2,L2,n],()])) Ej))
theorem mB{W:World}{s0 pw fb nb cb op:Nat}{W3 Dd CA CB CC CD}
  {X1}{CE}{CF CG}{X2}{Y2}
  (hs0:s0=W)(Kv:W3=((W.alloc (AK #[AI pw] 23)).alloc (AK #[fb,nb,AA AB 3,cb,op] 125)).alloc (AK #[(),(),(),(),()] 125))
  (U:LWk s0 pw fb nb cb op W3 Dd CA CB CC CD X1 CE CF CG X2 Y2):
  Calls AP 66 #[AI pw,AL #[fb,nb,AA AB 3,cb,op]] W Dd:=by
 have O:=AO U;have Qe:=AO hs0;have Jy:=AO Kv;have Ny:∀w,Row w s0 23 [AI pw]/\Row w (s0+1) 125 [fb,nb,AA AB 3,cb,op]->w.cell? s0=AE (AI pw)/\w.cell? (s0+1,0)=AE (AA AB fb)/\w.cell? (s0+1,1)=AE (AA AB nb)/\w.cell? (s0+1,2)=AE (AA AB 3)/\w.cell? (s0+1,3)=AE (AA AB cb):=λw ⟨Q,J⟩=>⟨Q.cell 0,J.cell 0,J.cell 1,J.cell 2,J.cell 3⟩;have qV:Hid (∀g u w,CB g u w->w.cell? s0=AE (AI pw)/\w.cell? (s0+1,0)=AE (AA AB fb)/\w.cell? (s0+1,1)=AE (AA AB nb)/\w.cell? (s0+1,2)=AE (AA AB 3)/\w.cell? (s0+1,3)=AE (AA AB cb)):=λg u w q=>Ny w (U.rB g u w q);have ae:Hid (∀g u w,CB g u w->∀o,(w.alloc o).cell? s0=AE (AI pw)/\(w.alloc o).cell? (s0+1,0)=AE (AA AB fb)/\(w.alloc o).cell? (s0+1,1)=AE (AA AB nb)/\(w.alloc o).cell? (s0+1,2)=AE (AA AB 3)/\(w.alloc o).cell? (s0+1,3)=AE (AA AB cb)):=λg u w q o=>by
  obtain⟨Q,J⟩:=U.rB g u w q;exact Ny _ ⟨Q.alloc o,J.alloc o⟩
 have ad:Hid (∀u F N K L er w,CC u F N K L er w->w.cell? s0=AE (AI pw)/\w.cell? (s0+1,0)=AE (AA AB fb)/\w.cell? (s0+1,1)=AE (AA AB nb)/\w.cell? (s0+1,2)=AE (AA AB 3)/\w.cell? (s0+1,3)=AE (AA AB cb)):=λu F N K L er w q=>Ny w (U.rC u F N K L er w q);have ab:Hid (∀u F N K L er w,CC u F N K L er w->∀o,(w.alloc o).cell? s0=AE (AI pw)/\(w.alloc o).cell? (s0+1,0)=AE (AA AB fb)/\(w.alloc o).cell? (s0+1,1)=AE (AA AB nb)/\(w.alloc o).cell? (s0+1,2)=AE (AA AB 3)/\(w.alloc o).cell? (s0+1,3)=AE (AA AB cb)):=λu F N K L er w q o=>by
  obtain⟨Q,J⟩:=U.rC u F N K L er w q;exact Ny _ ⟨Q.alloc o,J.alloc o⟩
 have vM:Hid (∀(H F N K L er:Nat) w,CC (AE H) F N K L er w->((((w.setCell H F).setCell (H,1) N).setCell (H,2) K).setCell (H,3) L).cell? s0=AE (AI pw)/\((((w.setCell H F).setCell (H,1) N).setCell (H,2) K).setCell (H,3) L).cell? (s0+1,0)=AE (AA AB fb)/\((((w.setCell H F).setCell (H,1) N).setCell (H,2) K).setCell (H,3) L).cell? (s0+1,1)=AE (AA AB nb)/\((((w.setCell H F).setCell (H,1) N).setCell (H,2) K).setCell (H,3) L).cell? (s0+1,2)=AE (AA AB 3)/\((((w.setCell H F).setCell (H,1) N).setCell (H,2) K).setCell (H,3) L).cell? (s0+1,3)=AE (AA AB cb)):=λH F N K L er w q=>by
  obtain⟨Q,J⟩:=U.rC _ F N K L er w q;obtain⟨_,Pp,PO⟩:=U.rC6 H F N K L er w q;exact Ny _ ⟨(((Q.Ey Pp _).Ey Pp _).Ey Pp _).Ey Pp _,(((J.Ey PO _).Ey PO _).Ey PO _).Ey PO _⟩
 have HZ:Hid (∀H F N K L er w,CC (AE H) F N K L er w->(w.cell? H=AE (AA AB 0)/\w.cell? (H,1)=AE (AA AB 0)/\w.cell? (H,2)=AE (AA AB 0)/\w.cell? (H,3)=AE (AA AB 0))/\w.frozen? H=false/\w.frozen? (H,1)=false/\w.frozen? (H,2)=false/\w.frozen? (H,3)=false):=λH F N K L er w q=>by
  obtain⟨k,_,_⟩:=U.rC6 H F N K L er w q;exact⟨⟨k.cell 0,k.cell 1,k.cell 2,k.cell 3⟩,k.free 0,k.free 1,k.free 2,k.free 3⟩
 have uK:=U.dA _ _ U.h0;have Tt:=U.dA _ _ (U.xA _ U.h0);have q0:W3.drew.cell? s0=AE (AI pw)/\W3.drew.cell? (s0+1,0)=AE (AA AB fb)/\W3.drew.cell? (s0+1,1)=AE (AA AB nb)/\W3.drew.cell? (s0+1,2)=AE (AA AB 3)/\W3.drew.cell? (s0+1,3)=AE (AA AB cb):=Ny _ (U.rA _ _ uK);have q1:(W3.alloc (AK #[(),(),(),()] 28)).drew.cell? s0=AE (AI pw)/\(W3.alloc (AK #[(),(),(),()] 28)).drew.cell? (s0+1,0)=AE (AA AB fb)/\(W3.alloc (AK #[(),(),(),()] 28)).drew.cell? (s0+1,1)=AE (AA AB nb)/\(W3.alloc (AK #[(),(),(),()] 28)).drew.cell? (s0+1,2)=AE (AA AB 3)/\(W3.alloc (AK #[(),(),(),()] 28)).drew.cell? (s0+1,3)=AE (AA AB cb):=Ny _ (U.rA _ _ Tt);have RP:=AO uK;have V9:=AO Tt;obtain⟨p1,p2⟩:=U.rA _ _ U.h0;obtain⟨s6,cJ⟩:=al W3.heap.size;rw[cJ]at V9;have a0:W3.cell? s0=AE (AI pw):=p1.cell 0;obtain⟨b0,b1,b2,b3,b4⟩:=p2.q5;clear U hs0 Kv p1 p2 Ny uK Tt;go_enter_defers func66,ntmps66
 go_upto_region 1 with(fail)
 rw[<-Jy.out,<-Qe.out];clear Jy;simp only[CK,Cb];go_upto_region 2 with(fail)
 go_cut [6,7]from 12 to 22 (λar s7 wx=>∃H F N K L er:Nat,ar=AI H/\s7=AA AB er/\Hid (CD H F N K L er wx))
 case first=>
  go_region_held3 (λw=>w.cell? s0=AE (AI pw)/\w.cell? (s0+1,0)=AE (AA AB fb)/\w.cell? (s0+1,1)=AE (AA AB nb)/\w.cell? (s0+1,2)=AE (AA AB 3)/\w.cell? (s0+1,3)=AE (AA AB cb)) (first|with_reducible exact q0|with_reducible exact q1|with_reducible exact q2|with_reducible exact q3 _|with_reducible exact q5|with_reducible exact q6 _|with_reducible exact q8)
   (first
    |(go_at_call 85;(with_reducible refine(O.out.Fy _ _ RP.out).mono ?_);rintro e w4 ⟨g,rfl,h4⟩;have ao:=O.out.xB _ _ h4;have q2:=qV.out _ _ _ h4;have q3:=ae.out _ _ _ h4)
    |(go_at_call 85;(with_reducible refine(O.out.Fy _ _ V9.out).mono ?_);rintro e w4 ⟨g,rfl,h4⟩;have ao:=h4;have q2:=qV.out _ _ _ h4;have q3:=ae.out _ _ _ h4)
    |(go_at_call 84;(with_reducible refine(O.out.sort _ AD _ h4).mono ?_);rintro e w5 ⟨F,N,K,L,er,rfl,h5⟩;have q5:=ad.out _ _ _ _ _ _ _ h5;have q6:=ab.out _ _ _ _ _ _ _ h5;have q8:=q5)
    |(go_at_call 84;(with_reducible refine(O.out.sort _ (AE _) _ ao).mono ?_);rintro e w5 ⟨F,N,K,L,er,rfl,h5⟩;have q5:=ad.out _ _ _ _ _ _ _ h5;have q6:=ab.out _ _ _ _ _ _ _ h5;have q8:=vM.out _ _ _ _ _ _ _ h5;obtain⟨⟨z0,z1,z2,z3⟩,f0,f1,f2,f3⟩:=HZ.out _ _ _ _ _ _ _ h5))
  all_goals
   go_wp2_with fail
   go_meet
   first
    |exact⟨_,F,N,K,L,er,rfl,rfl,O.out.xC _ _ _ _ _ _ h5⟩
    |exact⟨_,F,N,K,L,er,rfl,rfl,O.out.xC6 _ _ _ _ _ _ _ h5⟩
 case rest=>
  obtain⟨H,F,N,K,L,er,rfl,rfl,hD⟩:=hcut;have HD:=AO hD.out;clear hD q0 q1 RP V9 qV ae ad ab vM HZ a0 b0 b1 b2 b3 b4;obtain⟨p1,p3,p4⟩:=O.out.rD _ _ _ _ _ _ _ HD.out;have a0:wc.cell? s0=AE (AI pw):=p1.cell 0;obtain⟨c0,c1,c2,c3⟩:=p3.q4;obtain⟨z0,z1,z2,z3,z4⟩:=p4.q5;obtain⟨f0,f1,f2,f3,f4⟩:=p4.r5;clear p1 p3 p4;by_cases he:er=0
  ·subst he;have HE:=AO (O.out.xD _ _ _ _ _ _ HD.out);clear HD;simp only[Int.ofNat_zero];go_upto_region 7 with(fail)
   generalize wc.alloc (AK #[(),(),(),(),()] 125)=w4 at*
   generalize wc.heap.size=gl at*
   have p1:=O.out.rE _ _ _ _ _ _ _ HE.out;have a1:w4.cell? s0=AE (AI pw):=p1.cell 0;have HS:=AO (O.out.sort2 _ _ _ _ _ _ _ HE.out);clear p1 HE a0 c0 c1 c2 c3 z0 z1 z2 z3 z4 f0 f1 f2 f3 f4;go_wp2_with fail
   refine HS.out.mono ?_;rintro e w5 ⟨F2,N2,K2,L2,n,ck,rfl,hF,hG,hX⟩;have p1:=O.out.rF _ _ _ _ _ _ _ _ _ _ _ _ hF;have HG:=AO hG;have HX:=AO hX;obtain⟨y0,y1,y2,y3⟩:=p1.q4;obtain⟨g0,g1,g2,g3⟩:=p1.r4;clear p1 hF hG hX HS a1;go_upto_region 8 with(fail)
   generalize((((w5.setCell gl F2).setCell (gl,1) N2).setCell (gl,2) K2).setCell (gl,3) L2)=w6 at*
   clear y0 y1 y2 y3 g0 g1 g2 g3;by_cases uB:ck=0
   ·subst uB;have HP:=AO (HG.out rfl);clear HG HX;obtain⟨⟨p1,p2⟩,p3,p4⟩:=O.out.rG _ _ _ _ _ _ _ _ _ _ _ _ HP.out;simp only[Int.ofNat_zero];obtain⟨y0,y1,y2,y3,y4⟩:=p1.q5;obtain⟨b0,b1,b2,b3,b4⟩:=p2.q5;have a0:w6.cell? s0=AE (AI pw):=p3.cell 0;by_cases aa:n=op
    ·have g9:((n:Int)==(op:Int))=true:=by simp[aa]
     have Th:=AO (O.out.free _ _ _ _ _ _ _ _ _ _ _ _ HP.out aa);clear aa p1 p2 p3 p4;go_wp2_with fail
     refine Th.out.mono ?_;rintro e w7 ⟨rfl,p4,h9⟩;have H9:=AO h9;clear h9 Th y0 y1 y2 y3 y4 b0 b1 b2 b3 b4 a0;obtain⟨z0,z1,z2,z3,z4⟩:=p4.q5;obtain⟨f0,f1,f2,f3,f4⟩:=p4.r5;clear p4;go_wp2
     refine Ay (f:=67) (args:=#[AI pw,AL #[F,N,K,L]]) a8 (by simp[go_sem]) ?_;refine(O.out.fX2 F N K L 3 _ _ H9.out).mono ?_;rintro e u' w8 ⟨rfl,rfl,Fh⟩;refine Ay (f:=67) (args:=#[AI pw,AL #[fb,nb,AA AB 3,cb]]) (by simp[settle]) (by simp[go_sem]) ?_;refine(Fh _).mono ?_;rintro e u' w9 ⟨rfl,rfl,I,D5⟩;have k0:=I.cell 0;have Q:=I.cell 1;have J:=I.cell 2;have k3:=I.cell 3;have k4:=I.cell 4;simp only[AW,AV]at k0 Q J k3 k4;exact⟨AM #[AL #[(),(),(),(),()],AA AB 3],by simp[results,Tryz.results66,go_sem,k0,Q,J,k3,k4],D5⟩
    ·have g9:((n:Int)==(op:Int))=false:=by
      have:(n:Int)≠(op:Int):=a5;simpa using this
     have H9:=AO (O.out.sG _ _ _ _ _ _ _ _ _ _ _ _ HP.out aa);clear aa;obtain⟨z0,z1,z2,z3,z4⟩:=p4.q5;obtain⟨f0,f1,f2,f3,f4⟩:=p4.r5;clear p1 p2 p3 p4;go_wp2
     refine Ay (f:=67) (args:=#[AI pw,AL #[F,N,K,L]]) a8 (by simp[go_sem]) ?_;refine(O.out.fY2 F N K L F2 N2 K2 L2 n _ _ H9.out).mono ?_;rintro e u' w8 ⟨rfl,rfl,Fh⟩;refine Ay (f:=67) (args:=#[AI pw,AL #[fb,nb,AA AB 3,cb]]) (by simp[settle]) (by simp[go_sem]) ?_;refine(Fh _).mono ?_;rintro e u' w9 ⟨rfl,rfl,I,D5⟩;have k0:=I.cell 0;have Q:=I.cell 1;have J:=I.cell 2;have k3:=I.cell 3;have k4:=I.cell 4;simp only[AW,AV]at k0 Q J k3 k4;exact⟨AM #[AL #[F2,N2,K2,L2,n],()],by simp[results,Tryz.results66,go_sem,k0,Q,J,k3,k4],D5⟩
   ·have av:¬(ck:Int)=0:=a5;obtain⟨h9,p4⟩:=HX.out uB _ rfl;have H9:=AO h9;clear HG HX h9 uB;obtain⟨z0,z1,z2,z3,z4⟩:=p4.q5;obtain⟨f0,f1,f2,f3,f4⟩:=p4.r5;clear p4;go_wp2
    refine Ay (f:=67) (args:=#[AI pw,AL #[F,N,K,L]]) a8 (by simp[go_sem]) ?_;refine(O.out.fX2 F N K L ck _ _ H9.out).mono ?_;rintro e u' w8 ⟨rfl,rfl,Fh⟩;refine Ay (f:=67) (args:=#[AI pw,AL #[fb,nb,AA AB 3,cb]]) (by simp[settle]) (by simp[go_sem]) ?_;refine(Fh _).mono ?_;rintro e u' w9 ⟨rfl,rfl,I,D5⟩;have k0:=I.cell 0;have Q:=I.cell 1;have J:=I.cell 2;have k3:=I.cell 3;have k4:=I.cell 4;simp only[AW,AV]at k0 Q J k3 k4;exact⟨AM #[AL #[(),(),(),(),()],ck],by simp[results,Tryz.results66,go_sem,k0,Q,J,k3,k4],D5⟩
  ·have av:¬(er:Int)=0:=a5;have H9:=AO (O.out.eD _ _ _ _ _ _ _ HD.out he);clear HD he;go_wp2
   refine Ay (f:=67) (args:=#[AI pw,AL #[fb,nb,AA AB 3,cb]]) a8 (by simp[go_sem]) ?_;refine(O.out.fX1 er _ _ H9.out).mono ?_;rintro e u' w9 ⟨rfl,rfl,I,D5⟩;have k0:=I.cell 0;have Q:=I.cell 1;have J:=I.cell 2;have k3:=I.cell 3;have k4:=I.cell 4;simp only[AW,AV]at k0 Q J k3 k4;exact⟨AM #[AL #[(),(),(),(),()],er],by simp[results,Tryz.results66,go_sem,k0,Q,J,k3,k4],D5⟩
def dV(l:List Cv)(x:Int):Prop:=∀u∈l,u.b≠x
structure Dh (l:List Cv):Prop where
 a0:∀t∈l,0<=t.a
 b0:∀t∈l,-1<=t.b
 nd:∀(i j:Nat) (t u:Cv),l[i]?=AE t->l[j]?=AE u->t.a=u.a->i=j
 sc:∀t∈l,0<=t.b->∃u∈l,u.a=t.b
 ij:∀(i j:Nat) (t u:Cv),l[i]?=AE t->l[j]?=AE u->t.b=u.b->0<=t.b->i=j
inductive Rk (l:List Cv):Nat->Int->Int->Prop
 |first {t:Cv}:t∈l->dV l t.a->Rk l 0 t.a 0
 |next {t:Cv} {n:Nat} {r:Int}:t∈l->Rk l n t.a r->0<=t.b->Rk l (n+1) t.b (Aa.wrap (r+t.c))
section
variable{l:List Cv}
theorem Dh.AO9(h:Dh l){t u}(I:t∈l)(hu:u∈l)(e:t.a=u.a):t=u:=by
 obtain⟨i,hi⟩:=BC.1 I;obtain⟨j,H⟩:=BC.1 hu;have:=h.nd i j t u hi H e;subst this;rw[hi]at H;injection H
theorem Dh.kf(h:Dh l){t u}(I:t∈l)(hu:u∈l)(e:t.b=u.b)(J:0<=t.b):t=u:=by
 obtain⟨i,hi⟩:=BC.1 I;obtain⟨j,H⟩:=BC.1 hu;have:=h.ij i j t u hi H e J;subst this;rw[hi]at H;injection H
theorem Rk.AF2(h:Dh l):∀{n m} {x y r s},Rk l n x r->Rk l m y s->x=y->n=m/\r=s:=by
 intro n
 induction n with
 |zero=>
  intro m x y r s I H e
  cases I with
  |first ht hf=>
   cases H with
   |first hu _=>exact⟨rfl,rfl⟩
   |next hu _ _=>exact absurd e.symm (hf _ hu)
 |succ n ih=>
  intro m x y r s I H e
  cases I with
  |next ht hr h0=>
   cases H with
   |first hu hf=>exact absurd e (hf _ ht)
   |next hu EA h02=>
    have:=h.kf ht hu e h0;subst this;obtain⟨O,J⟩:=ih hr EA rfl;subst O J;exact⟨rfl,rfl⟩
theorem Rk.only(h:Dh l){n m}{x r s}(H:Rk l n x r)(e:Rk l m x s):n=m/\r=s:=Rk.AF2 h H e rfl
theorem Rk.mem(h:Dh l){n}{x r}(e:Rk l n x r):∃t∈l,t.a=x:=by
 cases e with
 |first ht _=>exact⟨_,ht,rfl⟩
 |next ht _ h0=>exact h.sc _ ht h0
structure Nf (l out:List Cv):Prop where
 rk:∀u∈out,(∃n,Rk l n u.a u.b)/\u.c=0/\u.d=0/\u.e=0
 up:out.Pairwise λu v=>u.a<v.a
 len:out.length=l.length
theorem Mw:∀(A B:List Int),A.Nodup->(∀x∈A,x∈B)->B.length<=A.length->∀x∈B,x∈A
 |[],B,_,_,h,x,hx=>by
  have:B=[]:=List.length_eq_zero_iff.1 (by simpa using h);rw[this]at hx;cases hx
 |a::A,B,hn,hs,h,x,hx=>by
  have J:a∈B:=hs a Ax;have O:=List.length_erase_of_mem J;have Q:0<B.length:=List.length_pos_of_mem J;by_cases H:x=a
  ·subst H;exact Ax
  ·refine BB _ (Mw A (B.erase a) (B3.1 hn).2 (λy I=>?_) ?_ x ((List.mem_erase_of_ne H).2 hx))
   ·have:y≠a:=λe=>(B3.1 hn).1 (e▸I);exact(List.mem_erase_of_ne this).2 (hs y (BB _ I))
   ·simp only[BY]at h;omega
theorem KX{out:List Cv}(h:out.Pairwise λu v=>u.a<v.a):(out.map (·.a)).Nodup:=
 List.pairwise_map.2 (h.imp λ{u v} H e=>by have e:u.a=v.a:=e;omega)
theorem Nf.all(h:Dh l){out}(I:Nf l out):∀t∈l,∃u∈out,u.a=t.a:=λt H=>by
 have:=Mw (out.map (·.a)) (l.map (·.a)) (KX I.up) (λx J=>by
  obtain⟨u,hu,rfl⟩:=Az.1 J;obtain⟨⟨n,O⟩,_⟩:=I.rk u hu;obtain⟨t,H,e⟩:=O.mem h;exact Az.2 ⟨t,H,e⟩) (by rw[Aj,Aj,I.len];exact AQ _) t.a (Az.2 ⟨t,H,rfl⟩)
 obtain⟨u,hu,e⟩:=Az.1 this;exact⟨u,hu,e⟩
theorem qy:∀(A B:List Cv),A.Pairwise (λu v=>u.a<v.a)->B.Pairwise (λu v=>u.a<v.a)->(∀u,u∈A↔u∈B)->A=B
 |[],[],_,_,_=>rfl
 |[],b::B,_,_,h=>by have:=(h b).2 Ax;cases this
 |a::A,[],_,_,h=>by have:=(h a).1 Ax;cases this
 |a::A,b::B,hA,hB,h=>by
  rw[List.pairwise_cons]at hA hB;have J:a=b:=by
   rcases A8.1 ((h a).1 Ax)with e|H
   ·exact e
   ·rcases A8.1 ((h b).2 Ax)with e|I
    ·exact e.symm
    ·have:=hA.1 b I;have:=hB.1 a H;omega
  subst J;rw[qy A B hA.2 hB.2 λu=>?_];refine⟨λhu=>?_,λhu=>?_⟩
  ·rcases A8.1 ((h u).1 (BB _ hu))with e|H
   ·subst e;have:=hA.1 u hu;omega
   ·exact H
  ·rcases A8.1 ((h u).2 (BB _ hu))with e|H
   ·subst e;have:=hB.1 u hu;omega
   ·exact H
end
def jQ(p:Nat):Prop:=∀k,2<=k->k<p->p%k≠0
theorem tG{p s}(hp:jQ p)(e:0<s)(Q:s<p):Nat.Coprime p s:=by
 have I:=Nat.gcd_dvd_left p s;have J:=Nat.gcd_dvd_right p s;have O:=Nat.le_of_dvd e J;have H:0<Nat.gcd p s:=Nat.gcd_pos_of_pos_right p e;rcases Am (Nat.gcd p s) 2 with h|h
 ·show Nat.gcd p s=1;omega
 ·exact absurd (Nat.mod_eq_zero_of_dvd I) (hp _ h a5)
theorem tE{p s d}(hp:jQ p)(H:0<s)(e:s<p)(hd:p∣d*s):p∣d:=
 (tG hp H e).dvd_of_dvd_mul_right hd
def Xa(p s n:Nat):Nat:=(n+1)*s%p
theorem tL{p s n m}(hp:jQ p)(O:0<s)(J:s<p)(I:n<p)(hm:m<p)(h:Xa p s n=Xa p s m):n=m:=by
 unfold Xa at h;have key:∀a b:Nat,a<=b->b<p->(a+1)*s%p=(b+1)*s%p->a=b:=λa b Q hb he=>by
  have hd:p∣(b+1)*s-(a+1)*s:=Nat.dvd_of_mod_eq_zero (Nat.sub_mod_eq_zero_of_mod_eq he.symm);rw[<-Nat.sub_mul]at hd;have:=tE hp O J hd;rcases A7 (b+1-(a+1))with H|H
  ·omega
  ·have:=Nat.le_of_dvd H this;omega
 rcases Nat.le_total n m with e|e
 ·exact key n m e hm h
 ·exact(key m n e I h.symm).symm
theorem tH:jQ 241:=by
 intro k H e;have:∀k,k<241->2<=k->241%k≠0:=a6;exact this k e H
def Gt(l:List Cv):Prop:=Dh l/\∀t∈l,∃n r,Rk l n t.a r
theorem Nf.ZX{l out}(h:Dh l)(I:Nf l out):Gt l:=⟨h,λt J=>by
 obtain⟨u,hu,e⟩:=I.all h t J;obtain⟨⟨n,H⟩,_⟩:=I.rk u hu;rw[e]at H;exact⟨n,_,H⟩⟩
structure pq (l:List Cv) (id:Nat->Int):Prop where
 inj:∀i j,i<l.length->j<l.length->id i=id j->i=j
 pos:∀i,i<l.length->0<=id i
 a:∀(i:Nat) (t:Cv),l[i]?=AE t->t.a=id i
 b:∀(i:Nat) (t:Cv),l[i]?=AE t->t.b=-1\/(i+1<l.length/\t.b=id (i+1))
section
variable{l:List Cv}{id:Nat->Int}
theorem NY{i t}(h:l[i]?=AE t):i<l.length:=by
 rcases Am i l.length with e|e
 ·exact e
 ·rw[BG e]at h;cases h
theorem pq.lists(h:pq l id):Dh l:=by
 refine⟨λt H=>?_,λt H=>?_,λi j t u hi J e=>?_,λt H h0=>?_,λi j t u hi J e h0=>?_⟩
 ·obtain⟨i,hi⟩:=BC.1 H;rw[h.a i t hi];exact h.pos i (NY hi)
 ·obtain⟨i,hi⟩:=BC.1 H;rcases h.b i t hi with e|⟨I,e⟩
  ·omega
  ·have:=h.pos _ I;omega
 ·rw[h.a i t hi,h.a j u J]at e;exact h.inj i j (NY hi) (NY J) e
 ·obtain⟨i,hi⟩:=BC.1 H;rcases h.b i t hi with e|⟨I,e⟩
  ·omega
  ·have O:=AU I;exact⟨l[i+1],Ak O,by rw[h.a _ _ O,e]⟩
 ·rcases h.b i t hi with U|⟨I,U⟩
  ·omega
  ·rcases h.b j u J with Q|⟨O,Q⟩
   ·omega
   ·have:=h.inj _ _ I O (by rw[<-U,<-Q];exact e);omega
theorem pq.rk(h:pq l id):∀i,i<l.length->∃n r,Rk l n (id i) r
 |0,h0=>by
  have I:=AU h0;refine⟨0,0,?_⟩;rw[<-h.a 0 _ I];refine .first (Ak I) λu hu e=>?_;obtain⟨j,H⟩:=BC.1 hu;rw[h.a 0 _ I]at e;rcases h.b j u H with O|⟨J,O⟩
  ·have:=h.pos 0 h0;omega
  ·have:=h.inj _ _ J h0 (by rw[<-O];exact e);omega
 |i+1,J=>by
  have I:=AU J;have h3:=AU (show i<l.length by omega);rcases h.b i _ h3 with e|⟨_,e⟩
  ·refine⟨0,0,?_⟩;rw[<-h.a (i+1) _ I];refine .first (Ak I) λu hu U=>?_;obtain⟨j,H⟩:=BC.1 hu;rw[h.a _ _ I]at U;rcases h.b j u H with O|⟨h4,O⟩
   ·have:=h.pos _ J;omega
   ·have h5:=h.inj _ _ h4 J (by rw[<-O];exact U);obtain rfl:j=i:=a5;rw[h3]at H;injection H with H
    rw[H]at e;have:=h.pos _ J;omega
  ·obtain⟨n,r,Q⟩:=pq.rk h i a5;rw[<-h.a i _ h3]at Q;rw[<-e];exact⟨n+1,_,.next (Ak h3) Q (by rw[e];exact h.pos _ J)⟩
theorem pq.ZX(h:pq l id):Gt l:=⟨h.lists,λt H=>by
 obtain⟨i,hi⟩:=BC.1 H;obtain⟨n,r,e⟩:=h.rk i (NY hi);rw[<-h.a i t hi]at e;exact⟨n,r,e⟩⟩
theorem Rk.zero{x y r n}(hf:dV l x)(H:Rk l n y r)(e:y=x):r=0:=by
 cases H with
 |first=>rfl
 |next ht _ _=>exact absurd e (hf _ ht)
theorem Rk.step(h:Dh l){t}{n m}{r s}(e:t∈l)(J:0<=t.b)(I:Rk l n t.a r)(H:Rk l m t.b s):s=Aa.wrap (r+t.c):=
 (Rk.only h H (.next e I J)).2
theorem pq.first(h:pq l id){i}(hi:i<l.length)(hf:∀t,0<i->l[i-1]?=AE t->t.b≠id i):dV l (id i):=λu hu e=>by
 obtain⟨j,H⟩:=BC.1 hu;rcases h.b j u H with I|⟨J,I⟩
 ·have:=h.pos i hi;omega
 ·have O:=h.inj _ _ J hi (by rw[<-I];exact e);obtain rfl:j=i-1:=a5;exact hf u a5 H e
theorem YC{n k:Nat}(hp:∀i,i<n->0<=id i)(hl:l.length=n)(hn:0<n)(U:k<n)
  (ha:∀(i:Nat) (t:Cv),l[i]?=AE t->t.a=id i)(hb:∀(i:Nat) (t:Cv),l[i]?=AE t->t.b=id (if i+1<n then i+1 else k)):¬Gt l:=λ⟨h0,ht⟩=>by
 have at_:∀i,i<n->∃t,l[i]?=AE t:=λi hi=>⟨_,AU a5⟩;obtain⟨J,I⟩:=at_ (n-1) a5;by_cases WJ:k=0
 ·
  have O:∀{m:Nat} {x r:Int},Rk l m x r->False:=by
   intro m
   induction m with
   |zero=>
    intro x r e
    cases e with
    |@first t hm hf=>
     obtain⟨i,hi⟩:=BC.1 hm;have aa:=NY hi;have H:=ha i t hi;by_cases FM:i=0
     ·refine hf J (Ak I) ?_;rw[hb _ _ I,if_neg a5,WJ,H,FM]
     ·obtain⟨u,hu⟩:=at_ (i-1) a5;refine hf u (Ak hu) ?_;rw[hb _ _ hu,if_pos a5,H,show i-1+1=i by omega]
   |succ m ih=>
    intro x r e
    cases e with
    |next _ e _=>exact ih e
  obtain⟨m,r,e⟩:=ht J (Ak I);exact O e
 ·obtain⟨u,hu⟩:=at_ (k-1) a5;have H:=hb _ _ I;have Q:=hb _ _ hu;rw[if_neg a5]at H;rw[if_pos a5,show k-1+1=k by omega]at Q;have:=h0.ij _ _ J u I hu (by rw[H,Q]) (by rw[H];exact hp k U);omega
end
theorem T1(a b c:Int):Aa.wrap (Aa.wrap (a+b)+c)=Aa.wrap (a+Aa.wrap (b+c)):=by
 rw[BV,BV,BV,BV];omega
theorem wrap_wrap(a:Int):Aa.wrap (Aa.wrap a)=Aa.wrap a:=by
 rw[BV,BV];omega
theorem wrap_zero:Aa.wrap 0=0:=by rw[BV];omega
theorem qf{c}(h:Fg c):Aa.wrap c=c:=by
 have:=h.bounds;rw[BV];omega
inductive WO (l:List Cv):Nat->Int->Int->Int->Prop
 |nil {x:Int}:WO l 0 x x 0
 |next {t:Cv} {n:Nat} {y s:Int}:t∈l->WO l n y t.a s->0<=t.b->WO l (n+1) y t.b (Aa.wrap (s+t.c))
theorem GQ:∀(A B:List Int),A.Nodup->(∀x∈A,x∈B)->A.length<=B.length
 |[],B,_,_=>by simp
 |a::A,B,hn,hs=>by
  have I:a∈B:=hs a Ax;have J:=List.length_erase_of_mem I;have O:0<B.length:=List.length_pos_of_mem I;have:=GQ A (B.erase a) (B3.1 hn).2 λy H=>by
   have:y≠a:=λe=>(B3.1 hn).1 (e▸H);exact(List.mem_erase_of_ne this).2 (hs y (BB _ H))
  simp only[BY];omega
theorem R8:∀(B A:List Int),A.Nodup->(∀x∈A,x∈B)->B.length<=A.length->B.Nodup
 |[],_,_,_,_=>List.nodup_nil
 |b::B,A,hn,hs,hl=>by
  have J:b∉B:=λhb=>by
   have:=GQ A B hn λx H=>by
    rcases A8.1 (hs x H)with e|e
    ·exact e▸hb
    ·exact e
   simp only[BY]at hl;omega
  refine B3.2 ⟨J,R8 B (A.erase b) (hn.erase b) (λx H=>?_) ?_⟩
  ·have I:=(List.Nodup.mem_erase_iff hn).1 H;exact(A8.1 (hs x I.2)).resolve_left I.1
  ·have:=List.length_erase (a:=b) (l:=A);simp only[BY]at hl
   split at this<;>omega
section
variable{l:List Cv}
theorem WO.wr{n y x s}(h:WO l n y x s):Aa.wrap s=s:=by
 cases h with
 |nil=>exact wrap_zero
 |next=>exact wrap_wrap _
theorem Rk.wr{n x r}(h:Rk l n x r):Aa.wrap r=r:=by
 cases h with
 |first=>exact wrap_zero
 |next=>exact wrap_wrap _
theorem WO.add{n m y x z s s'}(e:WO l n y x s)(H:WO l m x z s'):WO l (n+m) y z (Aa.wrap (s+s')):=by
 induction H with
 |nil=>rw[Int.add_zero,e.wr];exact e
 |next ht _ h0 ih=>
  rw[<-T1];exact .next ht (ih e) h0
theorem Rk.add{n m y z r s}(e:Rk l m y r)(H:WO l n y z s):Rk l (m+n) z (Aa.wrap (r+s)):=by
 induction H with
 |nil=>rw[Int.add_zero,e.wr];exact e
 |next ht _ h0 ih=>
  rw[<-T1];exact .next ht (ih e) h0
theorem WO.one{t}(e:t∈l)(I:0<=t.b)(H:Fg t.c):WO l 1 t.a t.b t.c:=by
 have:=WO.next e (.nil (l:=l)) I;rwa [Int.zero_add,qf H]at this
theorem WO.AO7{n y x s}(h:WO l n y x s):0<n->∃t∈l,t.a=y:=by
 induction h with
 |nil=>intro h;omega
 |@next t n y s ht h1 _ ih=>
  intro _
  cases n with
  |zero=>cases h1;exact⟨t,ht,rfl⟩
  |succ n=>exact ih a5
theorem Rk.back(I:Dh l){n}{y x s}(h:WO l n y x s):∀{m} {r},Rk l m x r->n<=m/\∃r',Rk l (m-n) y r':=by
 induction h with
 |nil=>intro m r e;exact⟨Aq _,r,e⟩
 |@next t n y s ht _ hb ih=>
  intro m r e;generalize H:t.b=z at e
  cases e with
  |first hu hf=>exact absurd H (hf t ht)
  |@next u m' r' hu hr' hb'=>
   have:=I.kf ht hu H hb;subst this;obtain⟨O,J⟩:=ih hr';refine⟨a5,?_⟩;rwa [show m'+1-(n+1)=m'-n by omega]
theorem Rk.at_{m x r}(h:Rk l m x r):∀k,k<=m->∃y s,Rk l k y s:=by
 induction h with
 |first ht hf=>
  intro k H;obtain rfl:k=0:=a5;exact⟨_,_,.first ht hf⟩
 |@next t n r ht hr hb ih=>
  intro k H;rcases Am n k with e|e
  ·obtain rfl:k=n+1:=a5;exact⟨_,_,.next ht hr hb⟩
  ·exact ih k e
theorem Rk.AE3(h0:Dh l){m}{x r}(h:Rk l m x r):∃L:List Int,L.length=m+1/\L.Nodup/\∀y∈L,∃k s,k<=m/\Rk l k y s:=by
 induction h with
 |@first t ht hf=>exact⟨[t.a],rfl,B3.2 ⟨a8,List.nodup_nil⟩,λy H=>by
   simp at H;subst H;exact⟨0,0,AQ _,.first ht hf⟩⟩
 |@next t n r ht hr hb O=>
  obtain⟨L,h1,U,h3⟩:=O;have J:Rk l (n+1) t.b (Aa.wrap (r+t.c)):=.next ht hr hb;refine⟨t.b::L,by rw[BY,h1],B3.2 ⟨λhm=>?_,U⟩,λy H=>?_⟩
  ·obtain⟨k,s,Q,I⟩:=h3 _ hm;have:=(Rk.only h0 I J).1;omega
  ·rcases A8.1 H with e|e
   ·subst e;exact⟨n+1,_,AQ _,J⟩
   ·obtain⟨k,s,Q,I⟩:=h3 _ e;exact⟨k,s,a5,I⟩
theorem Rk.lt(H:Dh l){m}{x r}(h:Rk l m x r):m<l.length:=by
 obtain⟨L,U,Q,h3⟩:=h.AE3 H;have:=GQ L (l.map (·.a)) Q λy I=>by
  obtain⟨k,s,_,O⟩:=h3 y I;obtain⟨t,J,e⟩:=O.mem H;exact Az.2 ⟨t,J,e⟩
 rw[Aj]at this;omega
def LH(S:List Cv)(x:Int):Option Cv:=S.find? λu=>decide (u.a=x)
theorem Kk{S x v}(h:LH S x=AE v):v∈S/\v.a=x:=by
 have H:=List.mem_of_find?_eq_some h;have e:=List.find?_some h;exact⟨H,by simpa using e⟩
theorem Oh{S x}(h:LH S x=AD):∀v∈S,v.a≠x:=λv H e=>by
 have:=(List.find?_eq_none.1 h) v H;simp[e]at this
structure Sm (l:List Cv) (k:Nat) (S:List Cv):Prop where
 up:S.Pairwise λu v=>u.a<v.a
 len:S.length=l.length
 el:∀u∈S,∃t∈l,t.a=u.a
 cl:∀u∈S,u.b=-1->∃m,m<2^k/\Rk l m u.a u.c
 op:∀u∈S,u.b≠-1->WO l (2^k) u.b u.a u.c
def ZY(u:Cv):Bool:=decide (u.b≠-1)
def PM(S:List Cv):Nat:=S.countP ZY
section
variable{k:Nat}{S S':List Cv}
theorem Sm.all(h:Sm l k S):∀t∈l,∃u∈S,u.a=t.a:=λt H=>by
 have:=Mw (S.map (·.a)) (l.map (·.a)) (KX h.up) (λx I=>by
  obtain⟨u,hu,rfl⟩:=Az.1 I;obtain⟨t,H,e⟩:=h.el u hu;exact Az.2 ⟨t,H,e⟩) (by rw[Aj,Aj,h.len];exact AQ _) t.a (Az.2 ⟨t,H,rfl⟩)
 obtain⟨u,hu,e⟩:=Az.1 this;exact⟨u,hu,e⟩
theorem Sm.pos(O:Dh l)(h:Sm l k S){u}(hu:u∈S)(J:u.b≠-1):∃v∈S,v.a=u.b/\0<=u.b:=by
 obtain⟨t,H,e⟩:=(h.op u hu J).AO7 (Nat.pow_pos a5);obtain⟨v,I,Q⟩:=h.all t H;exact⟨v,I,by rw[Q,e],by have:=O.a0 t H;omega⟩
def lenT(S:List Cv)(t:Cv):Cv:=match LH S t.b with
 |some v=>⟨t.a,v.b,Aa.wrap (v.c+t.c),0,0⟩
 |none=>t
def gO(S:List Cv)(t:Cv):Bool:=match LH S t.b with
 |some v=>decide (v.b≠-1)
 |none=>false
theorem mC(S:List Cv)(t:Cv):(lenT S t).a=t.a:=by
 unfold lenT;split<;>rfl
theorem Sm.AK9(J:Dh l)(h:Sm l k S){t}(I:t∈S):gO S t=ZY (lenT S t):=by
 unfold gO lenT ZY
 cases e:LH S t.b with
 |some v=>rfl
 |none=>
  have hb:t.b=-1:=CZ λhb=>by
   obtain⟨v,H,O,_⟩:=h.pos J I hb;exact Oh e v H O
  simp[hb]
theorem KS{α β:Type}(f:α->β)(p:β->Bool)(q:α->Bool):∀(A:List α),(∀y∈A,q y=p (f y))->(A.map f).countP p=A.countP q
 |[],_=>rfl
 |a::A,h=>by
  rw[List.map_cons,List.countP_cons,List.countP_cons,KS f p q A (λx e=>h x (BB _ e)),h a Ax]
theorem Sm.count(I:Dh l)(h:Sm l k S){A:List Cv}(H:A.Perm S):A.countP (gO S)=PM (A.map (lenT S)):=
 (KS _ _ _ A λ_ e=>h.AK9 I (H.mem_iff.1 e)).symm
theorem AE2{S:List Cv}(h:S.Pairwise λu v=>u.a<=v.a)(H:(S.map (·.a)).Nodup):S.Pairwise λu v=>u.a<v.a:=by
 have:=h.and (List.pairwise_map.1 H);exact this.imp λ{u v} ⟨I,e⟩=>by
  have e:u.a≠v.a:=e;omega
theorem Sm.step(h0:Dh l)(h:Sm l k S){A:List Cv}(hA:A.Perm S)(hs:S'.Pairwise λu v=>u.a<=v.a)(hc:S'.Perm (A.map (lenT S))):Sm l (k+1) S':=by
 have H:∀u∈S',∃t∈S,u=lenT S t:=λu hu=>by
  obtain⟨t,I,e⟩:=Az.1 (hc.mem_iff.1 hu);exact⟨t,hA.mem_iff.1 I,e.symm⟩
 have wW:(S'.map (·.a)).Nodup:=by
  have h1:(S'.map (·.a)).Perm (S.map (·.a)):=by
   have U:=hc.map (·.a);rw[List.map_map]at U;have h3:A.map ((λu:Cv=>u.a)∘lenT S)=A.map (·.a):=List.map_congr_left λt _=>mC S t;rw[h3]at U;exact U.trans (hA.map _)
  exact h1.nodup_iff.2 (KX h.up)
 have aa:2^(k+1)=2^k+2^k:=by rw[Nat.pow_succ];omega
 refine⟨AE2 hs wW,by rw[hc.length_eq,Aj,hA.length_eq,h.len],λu hu=>?_,λu hu hb=>?_,λu hu hb=>?_⟩
 ·obtain⟨t,I,rfl⟩:=H u hu;rw[mC];exact h.el t I
 ·obtain⟨t,I,rfl⟩:=H u hu;unfold lenT at hb⊢
  cases e:LH S t.b with
  |none=>
   rw[e]at hb;obtain⟨m,h1,U⟩:=h.cl t I hb;exact⟨m,a5,U⟩
  |some v=>
   rw[e]at hb;obtain⟨O,J⟩:=Kk e;obtain⟨m,h1,U⟩:=h.cl v O hb;have Q:t.b≠-1:=λe1=>by
    obtain⟨t',mZ,e2⟩:=h.el v O;have:=h0.a0 t' mZ;omega
   have h3:=h.op t I Q;rw[<-J]at h3;exact⟨m+2^k,a5,U.add h3⟩
 ·obtain⟨t,I,rfl⟩:=H u hu;unfold lenT at hb⊢
  cases e:LH S t.b with
  |none=>
   rw[e]at hb;obtain⟨v,O,e2,_⟩:=h.pos h0 I hb;exact absurd e2 (Oh e v O)
  |some v=>
   rw[e]at hb;obtain⟨O,J⟩:=Kk e;have Q:t.b≠-1:=λe1=>by
    obtain⟨t',mZ,e2⟩:=h.el v O;have:=h0.a0 t' mZ;omega
   have h3:=h.op t I Q;rw[<-J]at h3;rw[aa];exact(h.op v O hb).add h3
def WI(S:List Cv):List Int:=(S.filter ZY).map (·.a)
theorem KA(S:List Cv):(WI S).length=PM S:=by unfold WI PM;rw[Aj,List.countP_eq_length_filter]
theorem Pd{S}(h:S.Pairwise λu v=>u.a<v.a):(WI S).Nodup:=KX (h.filter _)
theorem Ik{S x}:x∈WI S↔∃u∈S,u.b≠-1/\u.a=x:=by
 unfold WI;rw[Az];constructor
 ·rintro⟨u,hu,e⟩;have:=B4.1 hu;exact⟨u,this.1,by simpa [ZY]using this.2,e⟩
 ·rintro⟨u,hu,hb,e⟩;exact⟨u,B4.2 ⟨hu,by simp[ZY,hb]⟩,e⟩
theorem Sm.less(hr:Gt l)(h:Sm l k S)(h':Sm l (k+1) S')(ho:0<PM S):PM S'<PM S:=by
 have Q:=hr.1;have ad:2^(k+1)=2^k+2^k:=by rw[Nat.pow_succ];omega
 have hp:0<2^k:=Nat.pow_pos a5;have rk:∀{S:List Cv} {k:Nat},Sm l k S->∀u∈S,∃n r,Rk l n u.a r:=λh u hu=>by
  obtain⟨t,ht,e⟩:=h.el u hu;rw[<-e];exact hr.2 t ht
 obtain⟨u0,qD,ab⟩:∃u∈S,u.b≠-1:=by
  have:0<(WI S).length:=by rw[KA];exact ho
  obtain⟨x,H⟩:=List.exists_mem_of_length_pos this;obtain⟨u,hu,hb,_⟩:=Ik.1 H;exact⟨u,hu,hb⟩
 obtain⟨m0,r0,J⟩:=rk h u0 qD;have hle:=(Rk.back Q (h.op u0 qD ab) J).1;obtain⟨y,s,hy⟩:=J.at_ (2^k) hle;obtain⟨t,ht,et⟩:=hy.mem Q;obtain⟨U,qC,e1⟩:=h.all t ht;have DV:U.b≠-1:=λhb=>by
  obtain⟨m,hm,O⟩:=h.cl U qC hb;rw[e1,et]at O;have:=(Rk.only Q O hy).1;omega
 have aa:y∉WI S':=λhm=>by
  obtain⟨u,hu,hb,e⟩:=Ik.1 hm;have h1:=h'.op u hu hb;rw[e]at h1;have:=(Rk.back Q h1 hy).1;omega
 have I:∀x∈y::WI S',x∈WI S:=λx H=>by
  rcases A8.1 H with rfl|H
  ·exact Ik.2 ⟨U,qC,DV,by rw[e1,et]⟩
  ·obtain⟨u,hu,hb,e⟩:=Ik.1 H;obtain⟨t2,Vc,e2⟩:=h'.el u hu;obtain⟨v,hv,e3⟩:=h.all t2 Vc;refine Ik.2 ⟨v,hv,λhc=>?_,by rw[e3,e2,e]⟩;obtain⟨m,hm,O⟩:=h.cl v hv hc;rw[e3,e2]at O;have:=(Rk.back Q (h'.op u hu hb) O).1;omega
 have:=GQ (y::WI S') (WI S) (B3.2 ⟨aa,Pd h'.up⟩) I;rw[BY,KA,KA]at this;omega
theorem Sm.bound(h0:Dh l)(h:Sm l k S)(h':Sm l (k+1) S')(ho:PM S'<PM S):2^k<l.length:=by
 have:∃x∈WI S,x∉WI S':=CZ λI=>by
  have:=GQ (WI S) (WI S') (Pd h.up) λx H=>CZ λU=>I ⟨x,H,U⟩;rw[KA,KA]at this;omega
 obtain⟨x,H,I⟩:=this;obtain⟨u,hu,hb,e⟩:=Ik.1 H;obtain⟨t,ht,et⟩:=h.el u hu;obtain⟨v,Q,ev⟩:=h'.all t ht;have O:v.b=-1:=CZ λDN=>I (Ik.2 ⟨v,Q,DN,by rw[ev,et,e]⟩);obtain⟨m,hm,J⟩:=h'.cl v Q O;rw[ev,et]at J;have U:=(Rk.back h0 (h.op u hu hb) J).1;have h2:=J.lt h0;omega
def uX(u:Cv):Cv:=⟨u.a,u.c,0,0,0⟩
theorem Sm.fin(h:Sm l k S)(I:PM S=0):Nf l (S.map uX):=by
 have H:∀u∈S,u.b=-1:=λu hu=>CZ λhb=>by
  have:u.a∈WI S:=Ik.2 ⟨u,hu,hb,rfl⟩;have:=List.length_pos_of_mem this;rw[KA]at this;omega
 refine⟨λu hu=>?_,List.pairwise_map.2 h.up,by rw[Aj,h.len]⟩;obtain⟨v,e,rfl⟩:=Az.1 hu;obtain⟨m,_,hm⟩:=h.cl v e (H v e);exact⟨⟨m,hm⟩,rfl,rfl,rfl⟩
end
structure Els (l E:List Cv):Prop where
 up:E.Pairwise λu v=>u.a<v.a
 el:∀u∈E,∃t∈l,t.a=u.a
 all:∀t∈l,∃u∈E,u.a=t.a
def Qk(t:Cv):Cv:=⟨t.b,t.a,t.c,0,0⟩
def La(L:List Cv)(t:Cv):Cv:=match LH L t.a with
 |some v=>v
 |none=>⟨t.a,-1,0,0,0⟩
def NN(L:List Cv)(t:Cv):Bool:=(LH L t.a).isSome
def Iz(t:Cv):Bool:=decide (t.b=-1)
theorem oK{E}(h:Els l E)(U:E.length<l.length):¬Dh l:=λQ=>by
 have J:(l.map (·.a)).Nodup:=by
  rw[List.nodup_iff_pairwise_ne,List.pairwise_map];refine B0.2 λi j hi O Il e=>?_;have:=Q.nd i j _ _ (AU hi) (AU O) e;omega
 have:=GQ (l.map (·.a)) (E.map (·.a)) J λx H=>by
  obtain⟨t,I,rfl⟩:=Az.1 H;obtain⟨u,hu,e⟩:=h.all t I;exact Az.2 ⟨u,hu,e⟩
 rw[Aj,Aj]at this;omega
theorem wB{α:Type}{R}{l:List α}(h:l.Pairwise R)(I:∀a b,R a b->R b a){i j:Nat}{a b}(J:l[i]?=AE a)(hb:l[j]?=AE b)(O:i≠j):R a b:=by
 obtain⟨hi,rfl⟩:=BM.1 J;obtain⟨H,rfl⟩:=BM.1 hb;rcases Nat.lt_or_gt_of_ne O with e|e
 ·exact B0.1 h i j hi H e
 ·exact I _ _ (B0.1 h j i H hi e)
section
variable{E L:List Cv}
theorem O4(I:L.Perm (l.map Qk)){x}{v}(h:LH L x=AE v):∃t∈l,t.b=x/\v=Qk t:=by
 obtain⟨O,J⟩:=Kk h;obtain⟨t,H,e⟩:=Az.1 (I.mem_iff.1 O);refine⟨t,H,?_,e.symm⟩;rw[<-J,<-e];rfl
theorem uq(I:L.Perm (l.map Qk)){t}(H:t∈l):∃v,LH L t.b=AE v:=by
 cases e:LH L t.b with
 |some v=>exact⟨v,rfl⟩
 |none=>exact absurd rfl (Oh e (Qk t) (I.mem_iff.2 (Az.2 ⟨t,H,rfl⟩)))
theorem Vt(L:List Cv)(t:Cv):(La L t).a=t.a:=by
 unfold La
 cases e:LH L t.a with
 |some v=>exact(Kk e).2
 |none=>rfl
theorem iZ{E:List Cv}(H:L.Perm (l.map Qk))(J:∀t∈l,0<=t.a):E.countP (NN L)=PM (E.map (La L)):=by
 refine(KS _ _ _ E λt _=>?_).symm;unfold NN La ZY
 cases e:LH L t.a with
 |some v=>
  obtain⟨u,hu,_,rfl⟩:=O4 H e;have O:=J u hu;have I:(Qk u).b≠-1:=by show u.a≠-1;omega
  simp[I]
 |none=>simp
theorem Ui(hE:Els l E)(hL:L.Perm (l.map Qk))(hlen:E.length=l.length)(a0:∀t∈l,0<=t.a)(b0:∀t∈l,-1<=t.b):Dh l↔l.length<=E.countP (NN L)+l.countP Iz:=by
 obtain⟨A,hA⟩:=ae ((E.filter (NN L)).map (·.a));obtain⟨B,hB⟩:=ae ((l.filter λt=> !Iz t).map (·.b));have aA:A.length=E.countP (NN L):=by rw[hA,Aj,List.countP_eq_length_filter]
 have aw:B.length+l.countP Iz=l.length:=by
  rw[hB,Aj,<-List.countP_eq_length_filter];have:=List.length_eq_countP_add_countP Iz (l:=l);have h2:l.countP (λt=> !Iz t)=l.countP λa=>decide (¬Iz a=true):=by
   congr 1;funext a;cases Iz a<;>rfl
  omega
 have ao:A.Nodup:=by rw[hA];exact KX (hE.up.filter _)
 have O:∀x,x∈A↔(∃t∈l,t.a=x)/\∃t∈l,t.b=x:=λx=>by
  rw[hA,Az];constructor
  ·rintro⟨u,hu,rfl⟩;have hu:=B4.1 hu;refine⟨hE.el u hu.1,?_⟩;obtain⟨v,hv⟩:=Option.isSome_iff_exists.1 (show (LH L u.a).isSome=true from hu.2);obtain⟨t,H,e,_⟩:=O4 hL hv;exact⟨t,H,e⟩
  ·rintro⟨⟨t,H,rfl⟩,s,hs,e⟩;obtain⟨u,hu,Q⟩:=hE.all t H;refine⟨u,B4.2 ⟨hu,?_⟩,Q⟩;show (LH L u.a).isSome=true;obtain⟨v,hv⟩:=uq hL hs;rw[Q,<-e,hv];rfl
 have J:∀x,x∈B↔∃t∈l,t.b=x/\x≠-1:=λx=>by
  rw[hB,Az];constructor
  ·rintro⟨t,H,rfl⟩;have H:=B4.1 H;exact⟨t,H.1,rfl,by simpa [Iz]using H.2⟩
  ·rintro⟨t,H,rfl,ad⟩;exact⟨t,B4.2 ⟨H,by simp[Iz,ad]⟩,rfl⟩
 have ar:∀x∈A,x∈B:=λx U=>by
  obtain⟨⟨t,H,e⟩,s,hs,Q⟩:=(O x).1 U;have:=a0 t H;exact(J x).2 ⟨s,hs,Q,a5⟩
 constructor
 ·intro h0;have I:B.Nodup:=by
   rw[hB];rw[List.nodup_iff_pairwise_ne,List.pairwise_map];refine(List.pairwise_filter).2 ?_;refine B0.2 λi j hi hj Il h1 h2 e=>?_;have:=b0 _ (Bs hi);have:=h0.ij i j _ _ (AU hi) (AU hj) e (by
    have h1:l[i].b≠-1:=by simpa [Iz]using h1
    omega)
   omega
  have:=GQ B A I λx U=>by
   obtain⟨t,H,e,ad⟩:=(J x).1 U;have:=b0 t H;obtain⟨u,hu,Q⟩:=h0.sc t H a5;exact(O x).2 ⟨⟨u,hu,by rw[Q,e]⟩,t,H,e⟩
  omega
 ·intro hle;have al:B.length<=A.length:=a5;have I:=R8 B A ao ar al;have aa:=Mw A B ao ar al;have av:(l.map (·.a)).Nodup:=R8 _ _ (KX hE.up) (λx U=>by
   obtain⟨u,hu,rfl⟩:=Az.1 U;obtain⟨t,H,e⟩:=hE.el u hu;exact Az.2 ⟨t,H,e⟩) (by rw[Aj,Aj,hlen];exact AQ _)
  refine⟨a0,b0,λi j t u hi hj e=>?_,λt H h1=>?_,λi j t u hi hj e h1=>?_⟩
  ·exact CZ λIl=>wB (List.pairwise_map.1 av) (λ_ _ h=>Ne.symm h) hi hj Il e
  ·have:=aa t.b ((J _).2 ⟨t,H,rfl,a5⟩);obtain⟨u,hu,e⟩:=((O _).1 this).1;exact⟨u,hu,e⟩
  ·refine CZ λIl=>?_;rw[hB]at I;have h2:=List.pairwise_filter.1 (List.pairwise_map.1 I);have ab:∀v:Cv,v.b=t.b->(!Iz v)=true:=λv hv=>by simp[Iz];omega
   exact wB (R:=λa b:Cv=>(!Iz a)=true->(!Iz b)=true->a.b≠b.b) h2 (λ_ _ h h3 h4=>Ne.symm (h h4 h3)) hi hj Il (ab t rfl) (ab u e.symm) e
theorem AB0(I:Els l E)(Q:L.Perm (l.map Qk))(hlen:E.length=l.length)(U:Dh l)(DK:∀t∈l,Fg t.c):Sm l 0 (E.map (La L)):=by
 refine⟨List.pairwise_map.2 (I.up.imp λ{u v} h=>by rw[Vt,Vt];exact h),by rw[Aj,hlen],λu hu=>?_,λu hu hb=>?_,λu hu hb=>?_⟩
 ·obtain⟨t,H,rfl⟩:=Az.1 hu;rw[Vt];exact I.el t H
 ·obtain⟨t,H,rfl⟩:=Az.1 hu;have J:=Vt L t;obtain⟨s,O,es⟩:=I.el t H;unfold La at hb J⊢
  cases e:LH L t.a with
  |some v=>
   rw[e]at hb;obtain⟨w,hw,_,rfl⟩:=O4 Q e;have:=U.a0 w hw;have hb:w.a=-1:=hb;omega
  |none=>
   refine⟨0,Nat.pow_pos a5,?_⟩;show Rk l 0 t.a 0;rw[<-es];refine .first O λu hu e2=>?_;exact Oh e (Qk u) (Q.mem_iff.2 (Az.2 ⟨u,hu,rfl⟩)) (by show u.b=t.a;rw[e2,es])
 ·obtain⟨t,H,rfl⟩:=Az.1 hu;obtain⟨s,O,es⟩:=I.el t H;unfold La at hb⊢
  cases e:LH L t.a with
  |some v=>
   obtain⟨w,hw,ew,rfl⟩:=O4 Q e;have h1:=U.a0 s O;show WO l 1 w.a w.b w.c;exact .one hw a5 (DK w hw)
  |none=>rw[e]at hb;exact absurd rfl hb
end
end
end Go.Proofs.YthfnbpjegjbbiaaGreat
