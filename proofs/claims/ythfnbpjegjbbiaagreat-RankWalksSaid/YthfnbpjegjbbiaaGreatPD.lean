/- What the laws stand on. -/
import Derived.Test.YthfnbpjegjbbiaaGreatPC
namespace Go.Proofs.YthfnbpjegjbbiaaGreat
set_option linter.unusedVariables false
set_option linter.unusedSimpArgs false
set_option maxRecDepth 100000
set_option maxHeartbeats 8000000
open Go.ChangeShapes Go.WideShapes Go.ChangeAt Go.RowKit
open Go.Joins Go.Deep
open Go.ChangeShapes Go.WideShapes Go.ChangeAt Go.RowKit Go.Maps
open Go.ChangeMaps (setBlock heap_setBlock_same heap_setBlock_other)
open Go.Value renaming pointer → AI
open Go.Value renaming int → AA
open Go.IntKind renaming i64 → AB
open Option renaming some → AE
open Option renaming none → AD
open Lib renaming hid → AG
open Go.Ending renaming returned → AH
open Go.Value renaming slice → AJ
open Go.Obj renaming cells → AK
open Go.Value renaming agg → AL
open Go.Value renaming tuple → AM
open Go.Lib renaming hid → AO
open Go.Proofs.Tryz renaming prog → AP, underlying101 → Ad, underlying116 → Bc, results139 → Ca
open Nat renaming le_refl → AQ, mul_le_mul_right → Ae, le_trans → Af, lt_or_ge → Am, sub_self → Ap, zero_le → Aq, add_mul → A6, eq_zero_or_pos → A7, one_mul → BD, lt_of_lt_of_le → BH, zero_add → BL, add_sub_cancel → BQ, div_le_self → BW, min_eq_left → Bh, mod_lt → Bw, mul_comm → B6, add_assoc → CK, zero_mul → CS, div_mul_le_self → CU, min → CW, reduceAdd → Cb, lt_of_le_of_lt → Ce, add_sub_cancel_left → Cm
open List renaming append_assoc → AR, getD_eq_getElem?_getD → AT, getElem?_eq_getElem → AU, getElem?_cons_succ → AV, getElem?_cons_zero → AW, getElem?_append_right → AX, length_append → AY, append_nil → AZ, length_take → Ac, mem_append → Ag, length_map → Aj, mem_of_getElem? → Ak, getElem?_append_left → Al, length_drop → An, take_of_length_le → Ao, set_append_right → As, getElem?_take → At, getElem?_set → Av, mem_cons_self → Ax, mem_map → Az, mem_cons → A8, replicate → BA, mem_cons_of_mem → BB, mem_iff_getElem? → BC, getElem?_eq_none → BG, nil_append → BI, getElem?_eq_some_iff → BM, getElem_of_mem → BO, take_append_drop → BS, length_cons → BY, filter_append → Ba, getElem?_map → Bd, take_add_one → Bi, length_set → Bk, mem_singleton → Bn, mem_of_mem_take → Bo, getElem_mem → Bs, take_zero → Bt, range → Bu, take_length → By, set_cons_succ → Bz, pairwise_iff_getElem → B0, nodup_cons → B3, mem_filter → B4, take_take → B7, cons_append → B8, getElem?_drop → CL, drop_eq_getElem_cons → CQ, take_append_of_le_length → CX, findIdx_le_length → Cg, map_append → Cj, drop_zero → Cn, drop_drop → Co
open Go.RowKit.Below renaming refl → AS, trans → CM, size → CN, mono → CO
open Go.IntKind renaming i64 → Aa, wrap_i64 → BV
open Go renaming cell_regrown → Ab, bodyPost_ret → Aw, leaves_cons → Ay, wp_region_quiet_below → Bb, FrameMode → Bf, below_regrown → Bj, run_underlying → Bv, wpQuiet_nil → CV, block_lt_of_cell → Ci, Regrown → Cq
open Go.IntWalk renaming i64_in → Ah
open Go.Sort renaming grow → Ai
open Go.RowKit renaming intOf → BF
open Iff renaming rfl → BN
open Go.Result renaming andThen → BP
open Go.Calls renaming regrown_of → BU
open Int renaming toNat_natCast → BX, natCast_mul → Be, lt_trichotomy → Ck, tmod → Cp
open Go.Builtin renaming zeroCells → BZ
open Go.Value renaming int → Bg, ownBlock → Bp
open Go.Addr renaming add_lit → Bl, add → CY
open Go.Ending renaming returned → Bm
open And renaming intro → Bq
open Go.Sem renaming run → Br
open Go.Instr renaming index → CR
open Classical renaming byContradiction → CZ
open List.Perm renaming append_left → Cc, refl → Cf
open Go.Lit renaming int → Cd
open Go.Proofs.Tryz
open Nat.le renaming refl → ao
def Ki(l:List Cv)(j:Nat):Cv:=l.getD j Cu
theorem sQ{l j t}(h:l[j]?=AE t):Ki l j=t:=by
 unfold Ki;rw[AT,h];rfl
theorem yq{l n x}(e:n<l.length)(I:(Ki l n).a=x)(H:∀q,q<n->(Ki l q).a≠x):LH l x=AE (Ki l n):=by
 unfold LH
 induction l generalizing n with
 |nil=>simp at e
 |cons a l ih=>
  rw[List.find?_cons]
  match n with
  |0=>
   have:decide (a.a=x)=true:=by simpa [Ki]using I
   rw[this];rfl
  |n+1=>
   have J:decide (a.a=x)=false:=by simpa [Ki]using H 0 a5
   rw[J];exact ih (n:=n) (by simpa using e) (by simpa [Ki]using I) λq O=>by simpa [Ki]using H (q+1) a5
theorem mA{l x}(h:∀q,q<l.length->(Ki l q).a≠x):LH l x=AD:=by
 unfold LH;refine List.find?_eq_none.2 λu hu=>?_;obtain⟨q,H,e⟩:=BO hu;have:=h q H;unfold Ki at this;rw[AT,AU H,Option.getD_some,e]at this;simpa using this
structure FI (l:List Cv) (key:Int) (j:Nat) (r:Cv) (ok:Bool):Prop where
 le:j<=l.length
 low:∀q,q+1<j->(Ki l q).a<key
 row:ok=true->(j=0/\r.a=-9223372036854775808)\/(0<j/\r=Ki l (j-1))
 fin:ok=false->∀q,q<l.length->(Ki l q).a<key
def Tp:Cv:=⟨-9223372036854775808,0,0,0,0⟩
section
variable{l:List Cv}{key:Int}{j:Nat}{r:Cv}{ok:Bool}
theorem FI.start(l:List Cv)(key:Int):FI l key 0 Tp true:=⟨Aq _,λq e=>by omega,λ_=>.inl ⟨rfl,rfl⟩,(λh=>by cases h)⟩
theorem FI.mono{key'}(h:FI l key j r ok)(H:key<=key'):FI l key' j r ok:=⟨h.le,λq e=>by have:=h.low q e;omega,h.row,λhe q e=>by have:=h.fin he q e;omega⟩
theorem FI.lower(h:FI l key j r true)(H:r.a<key):∀q,q<j->(Ki l q).a<key:=λq I=>by
 rcases Am (q+1) j with e|e
 ·exact h.low q e
 ·rcases h.row rfl with⟨h2,_⟩|⟨_,h2⟩
  ·omega
  ·rw[show q=j-1 by omega,<-h2];exact H
theorem FI.next(h:FI l key j r true)(e:r.a<key)(H:j<l.length):FI l key (j+1) (Ki l j) true:=
 ⟨H,λq I=>h.lower e q a5,λ_=>.inr ⟨a5,by rw[BQ]⟩,(λh=>by cases h)⟩
theorem FI.end_(h:FI l key j r true)(e:r.a<key)(I:j=l.length):FI l key j Cu false:=
 ⟨h.le,λq H=>h.lower e q a5,(λh=>by cases h),λ_ q H=>h.lower e q a5⟩
theorem FI.noL(h:FI l key j r false):LH l key=AD:=mA λq e=>by have:=h.fin rfl q e;omega
theorem FI.atL(h:FI l key j r true)(J:-9223372036854775808<key)(e:r.a=key):LH l key=AE r:=by
 rcases h.row rfl with⟨_,h2⟩|⟨h1,h2⟩
 ·omega
 ·have H:j-1<l.length:=by have:=h.le;omega
  rw[h2];exact yq H (by rw[<-h2];exact e) λq I=>by have:=h.low q a5;omega
theorem FI.over(h:FI l key j r true)(U:-9223372036854775808<key)(O:key<r.a)(J:l.Pairwise λu v=>u.a<=v.a):LH l key=AD:=by
 rcases h.row rfl with⟨_,h2⟩|⟨h1,h2⟩
 ·omega
 ·have I:j-1<l.length:=by have:=h.le;omega
  refine mA λq H=>?_;rcases Am (q+1) j with h3|h3
  ·have:=h.low q h3;omega
  ·have e:∀i (hi:i<l.length),Ki l i=l[i]:=λi hi=>by unfold Ki;rw[AT,AU hi];rfl
   rw[h2,e _ I]at O;rw[e q H];rcases Am (j-1) q with h4|h4
   ·have:=B0.1 J (j-1) q I H h4;omega
   ·have Q:q=j-1:=a5;subst Q;omega
end
def FZ(rd:DA)(x gr ga gk:Nat)(r:Cv)(ok:Bool):List DA:=[rd,Cs gr 81 [AI x],Cs ga 47 (DE r),Cs gk 4 [ok]]
section
variable{X:Cx}{m x gr ga gk:Nat}{W:World}{rt:Rt}{l:List Cv}{pre post:List DA}
theorem JL(Y:List DA)(a:DA):(Y++[a])[Y.length]?=AE a:=a8
theorem MJ(Y:List DA)(a b:DA):(Y++[a]).set Y.length b=Y++[b]:=a8
theorem TT(rd:DA)(r:Cv)(ok:Bool):(pre++FZ rd x gr ga gk r ok++post)[pre.length]?=AE rd/\(pre++FZ rd x gr ga gk r ok++post)[pre.length+1]?=AE (Cs gr 81 [AI x])/\
  (pre++FZ rd x gr ga gk r ok++post)[pre.length+2]?=AE (Cs ga 47 (DE r))/\(pre++FZ rd x gr ga gk r ok++post)[pre.length+3]?=AE (Cs gk 4 [ok]):=by
 simp[FZ]
theorem WB(rd e:DA)(r:Cv)(ok:Bool):(pre++FZ rd x gr ga gk r ok++post).set pre.length e=pre++FZ e x gr ga gk r ok++post:=by
 simp[FZ]
theorem YV{rd r ok}(h:Wd X (pre++FZ rd x gr ga gk r ok++post) m W)(t:Cv)(b:Bool):
  Wd X (pre++FZ rd x gr ga gk t b++post) m ((((((W.setCell ga t.a).setCell (ga,1) t.b).setCell (ga,2) t.c).setCell (ga,3) t.d).setCell (ga,4) t.e).setCell gk b):=by
 have U:∀c:List Value,(pre++FZ rd x gr ga gk r ok++post).set (pre.length+2) (Cs ga 47 c)=pre++[rd,Cs gr 81 [AI x],Cs ga 47 c,Cs gk 4 [ok]]++post:=λc=>by simp[FZ]
 have H:∀c:List Value,(pre++[rd,Cs gr 81 [AI x],Cs ga 47 c,Cs gk 4 [ok]]++post)[pre.length+2]?=AE (Cs ga 47 c):=λc=>by simp
 have e:∀c d:List Value,(pre++[rd,Cs gr 81 [AI x],Cs ga 47 c,Cs gk 4 [ok]]++post).set (pre.length+2) (Cs ga 47 d)=pre++[rd,Cs gr 81 [AI x],Cs ga 47 d,Cs gk 4 [ok]]++post:=λc d=>by simp
 have O:=h.store (TT _ _ _).2.2.1 a6 0 t.a;rw[U]at O;have J:=O.store (H _) a6 1 t.b;rw[e]at J;have I:=J.store (H _) a6 2 t.c;rw[e]at I;have h3:=I.store (H _) a6 3 t.d;rw[e]at h3;have h4:=h3.store (H _) a6 4 t.e;rw[e]at h4;have a3:∀c:List Value,(pre++[rd,Cs gr 81 [AI x],Cs ga 47 c,Cs gk 4 [ok]]++post)[pre.length+3]?=AE (Cs gk 4 [ok]):=λc=>by simp
 have h5:=h4.store (a3 _) a6 0 b;have Q:∀c d:List Value,(pre++[rd,Cs gr 81 [AI x],Cs ga 47 c,Cs gk 4 [ok]]++post).set (pre.length+3) (Cs gk 4 d)=pre++[rd,Cs gr 81 [AI x],Cs ga 47 c,Cs gk 4 d]++post:=λc d=>by simp
 rw[Q]at h5;exact h5
def WA(X:Cx)(pre post:List DA)(x gr ga gk:Nat)(rt:Rt)(l:List Cv)(m:Nat)(key:Int)(e:Ending)(w':World):Prop:=
 (∃j r ok v b,e=AH (AM #[DS v,.bool b,AA AB 0])/\FI l key j r ok/\LH l key=(if b=true then AE v else AD)/\Wd X (pre++FZ (Eu X.p x (rat rt j) X.sz l) x gr ga gk r ok++post) (m+Cr rt.h j) w')\/
 (∃rd r ok,e=AH (AM #[DS Cu,false,AA AB 6])/\¬X.cm/\az X x rt l rd/\Wd X (pre++FZ rd x gr ga gk r ok++post) (m+Cr rt.h l.length+1) w')
theorem uT{key j r ok}(hI:FI l key j r ok)(hk:-9223372036854775808<key)(hF:xk X rt l)(EY:Src (pre++post) X.sz rt.first rt.k rt.h l)(hs:l.Pairwise λu v=>u.a<=v.a)(hn:X.N+m+Cr rt.h l.length+1<=1000000)
  (h:Wd X (pre++FZ (Eu X.p x (rat rt j) X.sz l) x gr ga gk r ok++post) (m+Cr rt.h j) W):
  Calls AP 131 #[key,AI gk,AI ga,AI gr] W (WA X pre post x gr ga gk rt l m key):=by
 obtain⟨W1,EB⟩:=ae (W.alloc (AK #[(),(),(),(),()] 47));have Q:=h.new ((AS W W).alloc ao (AK #[(),(),(),(),()] 47)) (heap_alloc_new _ _:Row _ _ 47 Z5) ao;rw[<-EB,AR _ post]at Q;obtain⟨R,hR⟩:=ae W.heap.size;rw[<-hR]at Q;obtain⟨n,Z9⟩:=ae l.length;have MM:∀(rd:DA) (r:Cv) (ok:Bool) (c:List Value),Src (pre++FZ rd x gr ga gk r ok++(post++[Cs R 47 c])) X.sz rt.first rt.k rt.h l:=λrd r ok c=>by
  obtain⟨i,f,Q,I,h3⟩:=EY;rcases Ag.1 (Ak Q)with hm|hm
  ·obtain⟨i',gV⟩:=BC.1 (show f∈pre++FZ rd x gr ga gk r ok++(post++[Cs R 47 c])by simp[hm]);exact⟨i',f,gV,I,h3⟩
  ·obtain⟨i',gV⟩:=BC.1 (show f∈pre++FZ rd x gr ga gk r ok++(post++[Cs R 47 c])by simp[hm]);exact⟨i',f,gV,I,h3⟩
 obtain⟨S,hS⟩:∃S:Nat->Cv->Bool->World->Prop,∀j r ok w,S j r ok w↔Wd X (pre++FZ (Eu X.p x (rat rt j) X.sz l) x gr ga gk r ok++(post++[Cs R 47 Z5])) (m+Cr rt.h j) w:=⟨_,λ_ _ _ _=>BN⟩;obtain⟨E,hE⟩:∃E:Cv->Bool->World->Prop,∀r ok w,E r ok w↔∃rd,az X x rt l rd/\Wd X (pre++FZ rd x gr ga gk r ok++(post++[Cs R 47 Z5])) (m+Cr rt.h l.length+1) w:=⟨_,λ_ _ _=>BN⟩;have Qe:Hid (S j r ok W1):=(hS _ _ _ _).2 Q;have Fz:Hid (∀j r ok w,S j r ok w->Row w gr 81 [AI x]/\Row w ga 47 (DE r)/\Row w gk 4 [ok]/\Row w R 47 Z5):=λj r ok w q=>by
  have q:=(hS _ _ _ _).1 q;have U:=TT (x:=x) (gr:=gr) (ga:=ga) (gk:=gk) (pre:=pre) (post:=post++[Cs R 47 Z5]) (Eu X.p x (rat rt j) X.sz l) r ok;refine⟨q.row U.2.1,q.row U.2.2.1,q.row U.2.2.2,q.row (i:=pre.length+4+post.length) ?_⟩;rw[<-AR,show pre.length+4+post.length=(pre++FZ (Eu X.p x (rat rt j) X.sz l) x gr ga gk r ok++post).length by simp[FZ];omega];exact JL _ _
 have aI:Hid (∀r ok w,E r ok w->Row w ga 47 (DE r)/\Row w gk 4 [ok]/\Row w R 47 Z5):=λr ok w q=>by
  obtain⟨rd,_,q⟩:=(hE _ _ _).1 q;have U:=TT (x:=x) (gr:=gr) (ga:=ga) (gk:=gk) (pre:=pre) (post:=post++[Cs R 47 Z5]) rd r ok;refine⟨q.row U.2.2.1,q.row U.2.2.2,q.row (i:=pre.length+4+post.length) ?_⟩;rw[<-AR,show pre.length+4+post.length=(pre++FZ rd x gr ga gk r ok++post).length by simp[FZ];omega];exact JL _ _
 have Tf:Hid (∀j r ok w,j<n->S j r ok w->Calls AP 48 #[AI x] w λe w'=>
   (∃t:Cv,e=AH (AM #[DS t,true,()])/\t=Ki l j/\S (j+1) r ok w')\/(e=AH (AM #[DS Cu,false,AA AB 6])/\¬X.cm/\E r ok w')):=λj r ok w hj q=>by
  refine(VI ((hS _ _ _ _).1 q) (TT _ _ _).1 hF (MM _ _ _ _) a5 hn).mono ?_;rintro e w' (⟨t,ht,he,hw⟩|⟨he,Fu,hw⟩)
  ·rw[WB]at hw;exact .inl ⟨t,he,(sQ ht).symm,(hS _ _ _ _).2 hw⟩
  ·rw[WB]at hw;exact .inr ⟨he,Fu,(hE _ _ _).2 ⟨_,⟨j,.inr rfl⟩,hw⟩⟩
 have aG:Hid (∀j r ok w,j=n->S j r ok w->Calls AP 48 #[AI x] w λe w'=>e=AH (AM #[DS Cu,false,()])/\S j r ok w'):=λj r ok w hj q=>by
  refine(ZS ((hS _ _ _ _).1 q) (TT _ _ _).1 hF a5).mono ?_;rintro e w' ⟨he,hw⟩;exact⟨he,(hS _ _ _ _).2 hw⟩
 have Gv:Hid (∀j r ok w (t:Cv) (b:Bool),S j r ok w->S j t b ((((((w.setCell ga t.a).setCell (ga,1) t.b).setCell (ga,2) t.c).setCell (ga,3) t.d).setCell (ga,4) t.e).setCell gk b)):=λj r ok w t b q=>(hS _ _ _ _).2 (YV ((hS _ _ _ _).1 q) t b);have aE:Hid (∀r ok w (t:Cv) (b:Bool),E r ok w->E t b ((((((w.setCell ga t.a).setCell (ga,1) t.b).setCell (ga,2) t.c).setCell (ga,3) t.d).setCell (ga,4) t.e).setCell gk b)):=λr ok w t b q=>by
  obtain⟨rd,U,q2⟩:=(hE _ _ _).1 q;exact(hE _ _ _).2 ⟨rd,U,YV q2 t b⟩
 have IP:∀(rd:DA) (r:Cv) (ok:Bool) (M:Nat) (w:World) (t:Cv),Wd X (pre++FZ rd x gr ga gk r ok++(post++[Cs R 47 Z5])) M w->
   Row (((((w.setCell R t.a).setCell (R,1) t.b).setCell (R,2) t.c).setCell (R,3) t.d).setCell (R,4) t.e) R 47 (DE t)/\
   Wd X (pre++FZ rd x gr ga gk r ok++post) M (((((w.setCell R t.a).setCell (R,1) t.b).setCell (R,2) t.c).setCell (R,3) t.d).setCell (R,4) t.e):=λrd r ok M w t q=>by
  rw[<-AR]at q;have q0:=q.store (JL _ _) a6 0 t.a;rw[MJ]at q0;have U:=q0.store (JL _ _) a6 1 t.b;rw[MJ]at U;have q2:=U.store (JL _ _) a6 2 t.c;rw[MJ]at q2;have q3:=q2.store (JL _ _) a6 3 t.d;rw[MJ]at q3;have q4:=q3.store (JL _ _) a6 4 t.e;rw[MJ]at q4;exact⟨q4.row (JL _ _),q4.drop rfl rfl⟩
 have YT:Hid (∀j r ok w (v:Cv) (b:Bool),FI l key j r ok->LH l key=(if b=true then AE v else AD)->S j r ok w->
   Row (((((w.setCell R v.a).setCell (R,1) v.b).setCell (R,2) v.c).setCell (R,3) v.d).setCell (R,4) v.e) R 47 (DE v)/\
   ∀q,WA X pre post x gr ga gk rt l m key (AH (AM #[DS v,b,()])) ((((((w.setCell R v.a).setCell (R,1) v.b).setCell (R,2) v.c).setCell (R,3) v.d).setCell (R,4) v.e).drewN q)):=λj r ok w v b k1 k2 q=>by
  obtain⟨U,q2⟩:=IP _ _ _ _ w v ((hS _ _ _ _).1 q);exact⟨U,λq=>.inl ⟨j,r,ok,v,b,rfl,k1,k2,q2.drewN q⟩⟩
 have PI:Hid (∀r ok w,¬X.cm->E r ok w->
   Row (((((w.setCell R ()).setCell (R,1) ()).setCell (R,2) ()).setCell (R,3) ()).setCell (R,4) ()) R 47 (DE Cu)/\
   WA X pre post x gr ga gk rt l m key (AH (AM #[DS Cu,false,AA AB 6])) (((((w.setCell R ()).setCell (R,1) ()).setCell (R,2) ()).setCell (R,3) ()).setCell (R,4) ())):=λr ok w k1 q=>by
  obtain⟨rd,q0,q⟩:=(hE _ _ _).1 q;obtain⟨U,q2⟩:=IP _ _ _ _ w Cu q;exact⟨U,.inr ⟨rd,r,ok,rfl,k1,q0,q2⟩⟩
 have aA:(ga≠gk/\gk≠ga)/\(ga≠R/\R≠ga)/\gk≠R/\R≠gk:=by
  have q:=TT (x:=x) (gr:=gr) (ga:=ga) (gk:=gk) (pre:=pre) (post:=post++[Cs R 47 Z5]) (Eu X.p x (rat rt j) X.sz l) r ok;have qR:(pre++FZ (Eu X.p x (rat rt j) X.sz l) x gr ga gk r ok++(post++[Cs R 47 Z5]))[(pre++FZ (Eu X.p x (rat rt j) X.sz l) x gr ga gk r ok++post).length]?=AE (Cs R 47 Z5):=by
   rw[<-AR];exact JL _ _
  have k1:=Q.apart q.2.2.1 q.2.2.2 a5 (k:=ga) rfl;have k2:=Q.apart q.2.2.1 qR (by simp[FZ]) (k:=ga) rfl;have k3:=Q.apart q.2.2.2 qR (by simp[FZ]) (k:=gk) rfl;exact⟨⟨k1,λe=>k1 e.symm⟩,⟨k2,λe=>k2 e.symm⟩,k3,λe=>k3 e.symm⟩
 obtain⟨⟨Pp,PO⟩,⟨aX,aK⟩,aJ,tq⟩:=aA;have aC:Hid (∀j r t,FI l key j r true->r.a<key->j<n->t=Ki l j->FI l key (j+1) t true):=λj r t k1 k2 k3 k4=>by rw[k4];exact k1.next k2 a5
 have pU:Hid (∀j r,FI l key j r true->r.a<key->j=n->FI l key j Cu false):=λj r k1 k2 k3=>k1.end_ k2 a5;have Nh:Hid (∀j r,FI l key j r false->LH l key=AD):=λj r k=>k.noL;have aD:Hid (∀j r,FI l key j r true->r.a=key->LH l key=AE r):=λj r k1 k2=>k1.atL hk k2;have aF:Hid (∀j r,FI l key j r true->key<r.a->LH l key=AD):=λj r k1 k2=>k1.over hk k2 hs;have jY:Hid (∀j r ok,FI l key j r ok->j<=n):=λj r ok k=>by have:=k.le;omega
 obtain⟨J,hJ⟩:∃J:Nat->World->Prop,∀q w,J q w↔∃j r ok,FI l key j r ok/\q=2*(n-j)+(if ok=true then 1 else 0)/\S j r ok w:=⟨_,λ_ _=>BN⟩;have yF:=AO hJ;have aw:Hid (J (2*(n-j)+(if ok=true then 1 else 0)) W1):=(hJ _ _).2 ⟨j,r,ok,hI,rfl,Qe.out⟩;have E0:=AO EB;have HR:=AO hR;generalize WA X pre post x gr ga gk rt l m key=Dd at*
 generalize X.cm=cm at*
 generalize aB:FI l key=FF at*
 generalize LH l key=lk at*
 clear hJ h Q hI hn hF EY hs MM IP hS hE aB EB hR Z9 Qe;go_enter func131,ntmps131
 go_upto_region 1 with(fail)
 rw[<-E0.out,<-HR.out];clear E0;go_loopw [8] (λ_ wr=>∃q:Nat,Hid (J q wr)) (λ_ wr=>Hg λq=>J q wr)
 case atStart=>exact⟨_,aw⟩
 case round=>
  obtain⟨q,hq⟩:=hrel;obtain⟨j,r,ok,hI,al,hS⟩:=(yF.out _ _).1 (Fe (P:=λq=>J q wr) hq.out).1;have HI:=AO hI;have ar:=AO al;have HS:=AO hS;clear hq hI al hS aw;obtain⟨p1,p2,p3,p4⟩:=Fz.out _ _ _ _ HS.out;have c1:wr.cell? gr=AE (AI x):=p1.cell 0;obtain⟨d0,d1,d2,d3,d4⟩:=p2.q5;have b0:wr.cell? gk=AE (.bool ok):=p3.cell 0;obtain⟨z0,z1,z2,z3,z4⟩:=p4.q5;obtain⟨f0,f1,f2,f3,f4⟩:=p4.r5;clear p1 p2 p3 p4;rcases ok with _| _
  ·obtain⟨H,Pq⟩:=YT.out j r false wr r false HI.out (by rw[Nh.out j r HI.out];rfl) HS.out;have O:=AO H;have Yn:=AO Pq;clear H Pq;go_wp2_with fail
   go_region
   go_wp2
   have r0:=O.out.cell 0;have r1:=O.out.cell 1;have r2:=O.out.cell 2;have r3:=O.out.cell 3;have r4:=O.out.cell 4;simp only[DE,AW,AV]at r0 r1 r2 r3 r4;refine Aw (v:=AM #[AL #[r.a,r.b,r.c,r.d,r.e],false,()]) (by simp[results,Tryz.results131,go_sem,r0,r1,r2,r3,r4]) rfl ?_;have:=Yn.out 1;unfold DS at this;exact this
  ·have vO:=HI.out;by_cases Q:r.a<key
   ·have g1:decide (r.a<key)=true:=by simpa using Q
    have KV:=AO Q;clear Q;rcases Am j n with hj|hj
    ·have av:=AO hj;have vP:=AO (Tf.out j r true wr hj HS.out);clear hj;go_wp2_with fail
     refine vP.out.mono ?_;rintro e w2 (⟨t,rfl,ht,I⟩|⟨rfl,Fu,I⟩)
     ·have ad:=AO (aC.out j r t HI.out KV.out av.out ht);obtain⟨p1,p2,p3,p4⟩:=Fz.out _ _ _ _ I;have H9:=AO (Gv.out _ _ _ w2 t true I);clear I ht d0 d1 d2 d3 d4 b0 c1 f0 f1 f2 f3 f4 z0 z1 z2 z3 z4;obtain⟨d0,d1,d2,d3,d4⟩:=p2.q5;have b0:w2.cell? gk=AE (.bool true):=p3.cell 0;obtain⟨e0,e1,e2,e3,e4⟩:=p2.r5;have e5:=p3.free 0;unfold DS;go_wp2
      have yG:=AO ((yF.out (2*(n-(j+1))+1) _).2 ⟨j+1,t,true,ad.out,rfl,H9.out⟩);go_roundw
      case rel=>exact⟨_,yG⟩
      case measure=>
       refine Ce (Fe (P:=λq=>J q _) yG.out).2 ?_;have:=ar.out;have:=av.out;simp at this⊢;omega
     ·obtain⟨p2,p3,p4⟩:=aI.out _ _ _ I;have H9:=AO (aE.out _ _ w2 Cu false I);obtain⟨H,Pq⟩:=PI.out _ _ _ Fu H9.out;have O:=AO H;have Yn:=AO Pq;clear I H Pq d0 d1 d2 d3 d4 b0 c1 f0 f1 f2 f3 f4 z0 z1 z2 z3 z4;obtain⟨d0,d1,d2,d3,d4⟩:=p2.q5;have b0:w2.cell? gk=AE (.bool true):=p3.cell 0;obtain⟨e0,e1,e2,e3,e4⟩:=p2.r5;have e5:=p3.free 0;obtain⟨z0,z1,z2,z3,z4⟩:=p4.q5;obtain⟨f0,f1,f2,f3,f4⟩:=p4.r5;unfold DS Cu;go_wp2
      obtain⟨r0,r1,r2,r3,r4⟩:=O.out.q5;simp only[DE,Cu,AW,AV]at r0 r1 r2 r3 r4;refine Aw (v:=AM #[AL #[(),(),(),(),()],false,AA AB 6]) (by simp[results,Tryz.results131,go_sem,r0,r1,r2,r3,r4]) rfl ?_;have:=Yn.out;unfold DS Cu at this;exact this
    ·have aa:j=n:=by have:=jY.out _ _ _ HI.out;omega
     have aH:=AO aa;have vP:=AO (aG.out j r true wr aa HS.out);clear hj aa;go_wp2_with fail
     refine vP.out.mono ?_;rintro e w2 ⟨rfl,I⟩;have ab:=pU.out j r HI.out KV.out aH.out;obtain⟨t,ht⟩:=ae Cu;rw[<-ht]at ab⊢;have ad:=AO ab;obtain⟨p1,p2,p3,p4⟩:=Fz.out _ _ _ _ I;have H9:=AO (Gv.out _ _ _ w2 t false I);clear ab ht I d0 d1 d2 d3 d4 b0 c1 f0 f1 f2 f3 f4 z0 z1 z2 z3 z4;obtain⟨d0,d1,d2,d3,d4⟩:=p2.q5;have b0:w2.cell? gk=AE (.bool true):=p3.cell 0;obtain⟨e0,e1,e2,e3,e4⟩:=p2.r5;have e5:=p3.free 0;have yG:=AO ((yF.out (2*(n-j)+0) _).2 ⟨j,t,false,ad.out,rfl,H9.out⟩);unfold DS;go_wp2
     go_roundw
     case rel=>exact⟨_,yG⟩
     case measure=>
      refine Ce (Fe (P:=λq=>J q _) yG.out).2 ?_;have:=ar.out;simp at this⊢;omega
   ·have g1:decide (r.a<key)=false:=by simpa using Q
    by_cases I:r.a=key
    ·have g2:(r.a==key)=true:=by simpa using I
     obtain⟨H,Pq⟩:=YT.out j r true wr r true HI.out (by rw[aD.out j r HI.out I];rfl) HS.out;have O:=AO H;have Yn:=AO Pq;clear H Pq Q I;go_wp2_with fail
     go_region
     go_wp2
     have r0:=O.out.cell 0;have r1:=O.out.cell 1;have r2:=O.out.cell 2;have r3:=O.out.cell 3;have r4:=O.out.cell 4;simp only[DE,AW,AV]at r0 r1 r2 r3 r4;refine Aw (v:=AM #[AL #[r.a,r.b,r.c,r.d,r.e],true,()]) (by simp[results,Tryz.results131,go_sem,r0,r1,r2,r3,r4]) rfl ?_;have:=Yn.out 1;unfold DS at this;exact this
    ·have g2:(r.a==key)=false:=by simpa using I
     obtain⟨H,Pq⟩:=YT.out j r true wr r false HI.out (by rw[aF.out j r HI.out a5];rfl) HS.out;have O:=AO H;have Yn:=AO Pq;clear H Pq Q I;go_wp2_with fail
     go_region
     go_wp2
     have r0:=O.out.cell 0;have r1:=O.out.cell 1;have r2:=O.out.cell 2;have r3:=O.out.cell 3;have r4:=O.out.cell 4;simp only[DE,AW,AV]at r0 r1 r2 r3 r4;refine Aw (v:=AM #[AL #[r.a,r.b,r.c,r.d,r.e],false,()]) (by simp[results,Tryz.results131,go_sem,r0,r1,r2,r3,r4]) rfl ?_;have:=Yn.out 1;unfold DS at this;exact this
end
structure AU1 (t u:Cv) (key gz LV gy gh gk ga gr y fH:Nat) (EZ:Array Value) (W:World) (Dd:Ending->World->Prop) (A A2:World->Prop) (FB pZ:Cv->Bool->Nat->World->Prop) (B2 C:Cv->Bool->Nat->World->Prop):Prop where
 key5:key<5
 eH:∀args w,Br AP (callFunc fH args) w=.ok (.enter fH args) w
 hA:A (W.alloc (AK #[t.a,t.b,t.c,t.d,t.e] 47)).drew
 N5:A2 ((W.alloc (AK #[t.a,t.b,t.c,t.d,t.e] 47)).alloc (AK #[(),(),(),(),()] 47)).drew
 xS:∀w,A w\/A2 w->Row w gz 170 [.func (.func 131) #[] #[AI gk,AI ga,AI gr]]/\Row w LV 3 [key]/\Row w W 47 (DE t)
 Pq:∀w,A w->Calls AP 131 #[AA AB (DP t key),AI (AE ⟨gk,0,AD⟩),AI (AE ⟨ga,0,AD⟩),AI (AE ⟨gr,0,AD⟩)] w λe w'=>∃v b er,e=AH (AM #[DS v,.bool b,AA AB (er:Nat)])/\FB v b er w'
 nM:∀w,A2 w->Calls AP 131 #[AA AB (DP t key),AI (AE ⟨gk,0,AD⟩),AI (AE ⟨ga,0,AD⟩),AI (AE ⟨gr,0,AD⟩)] w λe w'=>∃v b er,e=AH (AM #[DS v,.bool b,AA AB (er:Nat)])/\pZ v b er w'
 hU:∀v b er w,FB v b er w\/pZ v b er w->Row w gz 170 [.func (.func 131) #[] #[AI gk,AI ga,AI gr]]/\Row w LV 3 [key]/\Row w W 47 (DE t)
 hFBz:∀v b er w,pZ v b er w->Row w (W+1) 47 (DE Cu)
 hne:gz≠W+1/\LV≠W+1
 hFB:∀v b er w,FB v b er w->(er=0/\B2 v b w (w.alloc (AK #[v.a,v.b,v.c,v.d,v.e] 47)))\/(er≠0/\Dd (AH er) (w.alloc (AK #[v.a,v.b,v.c,v.d,v.e] 47)))
 hFB2:∀v b er w,pZ v b er w->(er=0/\B2 v b (W.heap.size+1) (((((w.setCell ⟨W.heap.size+1,0,AD⟩ (AA AB v.a)).setCell ⟨W.heap.size+1,1,AD⟩ (AA AB v.b)).setCell ⟨W.heap.size+1,2,AD⟩ (AA AB v.c)).setCell ⟨W.heap.size+1,3,AD⟩ (AA AB v.d)).setCell ⟨W.heap.size+1,4,AD⟩ (AA AB v.e)))\/(er≠0/\Dd (AH (AA AB er)) (((((w.setCell ⟨W.heap.size+1,0,AD⟩ (AA AB v.a)).setCell ⟨W.heap.size+1,1,AD⟩ (AA AB v.b)).setCell ⟨W.heap.size+1,2,AD⟩ (AA AB v.c)).setCell ⟨W.heap.size+1,3,AD⟩ (AA AB v.d)).setCell ⟨W.heap.size+1,4,AD⟩ (AA AB v.e)))
 hB2r:∀v b g w,B2 v b g w\/C v b g w->Row w gy 65 [AI y]/\Row w gh 148 [.func (.func fH) #[] EZ]/\Row w W 47 (DE t)/\Row w g 47 (DE v)
 hB2d:∀v b g w,B2 v b g w->B2 v b g w.drew
 hho:∀v b g w,B2 v b g w->Calls AP fH (#[DS t,DS v,b]++EZ) w λe w'=>e=AH (DS u)/\C v b g w'
 hpu:∀v b g w,C v b g w->Calls AP 30 #[AI y,DS u] w λe w'=>∃er:Nat,e=AH er/\Dd (AH er) w'/\∀w,w=w'->Row w gy 65 [AI y]/\Row w gh 148 [.func (.func fH) #[] EZ]/\Row w W 47 (DE t)/\Row w g 47 (DE v)
theorem fZ{t u key gz LV gy gh gk ga gr y fH EZ W Dd A A2 FB pZ B2 C}(J:AU1 t u key gz LV gy gh gk ga gr y fH EZ W Dd A A2 FB pZ B2 C):
  Calls AP 111 #[DS t,AI gz,AI LV,AI gy,AI gh] W Dd:=by
 obtain⟨W1,EB⟩:=ae (W.alloc (AK #[t.a,t.b,t.c,t.d,t.e] 47));have hA:=J.hA;have N5:=J.N5;rw[<-EB]at hA N5;have HA:=AO hA;have V8:=AO N5;have aa:=AO J.hFB;have vY:=AO J.hFB2;have ab:=AO J.hB2r;have av:=AO J.hho;have aw:=AO J.hB2d;have jX:=AO J.hpu;have E0:=AO EB;have hZ:=J.hFBz;have eH:=J.eH;obtain⟨gR,Qu⟩:=J.hne;have gQ:W.heap.size≠W.heap.size+1:=a5;have tP:W1.heap.size=W.heap.size+1:=by rw[EB];simp
 obtain⟨s0,hs0⟩:=ae W.heap.size;obtain⟨I,Gg⟩:=ae (W.heap.size+1);obtain⟨x,hx⟩:=ae (DP t key);have al:(DE t)[key]?=AE (AA AB x):=by
  have:=J.key5;rw[hx];rcases(show key=0\/key=1\/key=2\/key=3\/key=4 by omega)with e|e|e|e|e<;>rw[e]<;>rfl
 have Ny:∀w,Row w gz 170 [.func (.func 131) #[] #[AI gk,AI ga,AI gr]]/\Row w LV 3 [key]/\Row w W 47 (DE t)->w.cell? gz=AE (.func (.func 131) #[] #[AI gk,AI ga,AI gr])/\w.cell? LV=AE (AA AB key)/\w.cell? (s0,key)=AE (AA AB x):=λw ⟨k1,k2,k3⟩=>by
  rw[hs0];exact⟨k1.cell 0,k2.cell 0,(k3.cell key).trans al⟩
 have xS:=J.xS;have hU:=J.hU;have ar:Hid (∀v b er w,FB v b er w\/pZ v b er w->w.cell? gz=AE (.func (.func 131) #[] #[AI gk,AI ga,AI gr])/\w.cell? LV=AE (AA AB key)/\w.cell? (s0,key)=AE (AA AB x)):=λv b er w q=>Ny w (hU v b er w q);have ao:Hid (∀v b er w,FB v b er w\/pZ v b er w->∀o,(w.alloc o).cell? gz=AE (.func (.func 131) #[] #[AI gk,AI ga,AI gr])/\(w.alloc o).cell? LV=AE (AA AB key)/\(w.alloc o).cell? (s0,key)=AE (AA AB x)):=λv b er w q o=>by
  obtain⟨k1,k2,k3⟩:=hU v b er w q;exact Ny _ ⟨k1.alloc o,k2.alloc o,k3.alloc o⟩
 have vM:Hid (∀v b er w,FB v b er w\/pZ v b er w->(((((w.setCell I v.a).setCell (I,1) v.b).setCell (I,2) v.c).setCell (I,3) v.d).setCell (I,4) v.e).cell? gz=AE (.func (.func 131) #[] #[AI gk,AI ga,AI gr])/\(((((w.setCell I v.a).setCell (I,1) v.b).setCell (I,2) v.c).setCell (I,3) v.d).setCell (I,4) v.e).cell? LV=AE (AA AB key)/\(((((w.setCell I v.a).setCell (I,1) v.b).setCell (I,2) v.c).setCell (I,3) v.d).setCell (I,4) v.e).cell? (s0,key)=AE (AA AB x)):=λv b er w q=>by
  obtain⟨k1,k2,k3⟩:=hU v b er w q;rw[Gg];exact Ny _ ⟨((((k1.Ey gR _).Ey gR _).Ey gR _).Ey gR _).Ey gR _,((((k2.Ey Qu _).Ey Qu _).Ey Qu _).Ey Qu _).Ey Qu _,((((k3.Ey gQ _).Ey gQ _).Ey gQ _).Ey gQ _).Ey gQ _⟩
 have q0:W1.drew.cell? gz=AE (.func (.func 131) #[] #[AI gk,AI ga,AI gr])/\W1.drew.cell? LV=AE (AA AB key)/\W1.drew.cell? (s0,key)=AE (AA AB x):=Ny _ (xS _ (.inl hA));have q1:(W1.alloc (AK #[(),(),(),(),()] 47)).drew.cell? gz=AE (.func (.func 131) #[] #[AI gk,AI ga,AI gr])/\(W1.alloc (AK #[(),(),(),(),()] 47)).drew.cell? LV=AE (AA AB key)/\(W1.alloc (AK #[(),(),(),(),()] 47)).drew.cell? (s0,key)=AE (AA AB x):=Ny _ (xS _ (.inr N5));have Pq:=J.Pq;have nM:=J.nM;rw[<-hx]at Pq nM;have Yn:=AO Pq;have ad:=AO nM;have jV:(key:Int)<5:=by have:=J.key5;omega
 have WJ:(0:Int)<=(key:Int):=a5;rw[<-Gg]at vY hZ;have HZ:Hid (∀v b er w,pZ v b er w->(w.cell? I=AE (AA AB 0)/\w.cell? (I,1)=AE (AA AB 0)/\w.cell? (I,2)=AE (AA AB 0)/\w.cell? (I,3)=AE (AA AB 0)/\w.cell? (I,4)=AE (AA AB 0))/\w.frozen? I=false/\w.frozen? (I,1)=false/\w.frozen? (I,2)=false/\w.frozen? (I,3)=false/\w.frozen? (I,4)=false):=λv b er w q=>by
  have k:=hZ v b er w q;exact⟨⟨k.cell 0,k.cell 1,k.cell 2,k.cell 3,k.cell 4⟩,k.free 0,k.free 1,k.free 2,k.free 3,k.free 4⟩
 rw[<-hs0]at ab jX;have Qe:=AO hs0;have aB:W1=I:=by rw[tP,Gg]
 clear hZ hA N5 xS Pq nM hU J EB hx al Ny gR Qu gQ tP hs0 Gg;unfold DS;go_enter func111,ntmps111
 go_upto_region 1 with(fail)
 rw[<-E0.out,<-Qe.out];clear E0;go_region_held3 (λw=>w.cell? gz=AE (.func (.func 131) #[] #[AI gk,AI ga,AI gr])/\w.cell? LV=AE (AA AB key)/\w.cell? (s0,key)=AE (AA AB x)) (first|with_reducible exact q0|with_reducible exact q1|with_reducible exact O|with_reducible exact q6 _|with_reducible exact q8)
  (first
   |(go_at_call 131;(with_reducible refine(Yn.out _ HA.out).mono ?_);rintro e w5 ⟨v,b,er,rfl,h5⟩;unfold DS;have O:=ar.out _ _ _ _ (.inl h5);have q6:=ao.out _ _ _ _ (.inl h5);have q8:=O)
   |(go_at_call 131;(with_reducible refine(ad.out _ V8.out).mono ?_);rintro e w5 ⟨v,b,er,rfl,h5⟩;unfold DS;have O:=ar.out _ _ _ _ (.inr h5);have q6:=ao.out _ _ _ _ (.inr h5);have q8:=vM.out _ _ _ _ (.inr h5);obtain⟨⟨z0,z1,z2,z3,z4⟩,f0,f1,f2,f3,f4⟩:=HZ.out _ _ _ _ h5))
 ·have hB:=aa.out _ _ _ _ h5;clear O q6 q8 h5;generalize w5.alloc (AK #[v.a,v.b,v.c,v.d,v.e] 47)=w6 at*
  generalize w5.heap.size=H at*
  rcases hB with⟨he,h6⟩|⟨he,h6⟩
  ·have e0:((er:Nat):Int)=0:=a5;rw[e0];have JO:=AO (aw.out _ _ _ _ h6);have Q:Hid (∀v H w,Row w gy 65 [AI y]/\Row w gh 148 [.func (.func fH) #[] EZ]/\Row w s0 47 (DE t)/\Row w H 47 (DE v)->(w.cell? gy=AE (AI y)/\w.cell? gh=AE (.func (.func fH) #[] EZ))/\(w.cell? s0=AE (AA AB t.a)/\w.cell? (s0,1)=AE (AA AB t.b)/\w.cell? (s0,2)=AE (AA AB t.c)/\w.cell? (s0,3)=AE (AA AB t.d)/\w.cell? (s0,4)=AE (AA AB t.e))/\w.cell? H=AE (AA AB v.a)/\w.cell? (H,1)=AE (AA AB v.b)/\w.cell? (H,2)=AE (AA AB v.c)/\w.cell? (H,3)=AE (AA AB v.d)/\w.cell? (H,4)=AE (AA AB v.e)):=λv H w ⟨k1,k2,k3,k4⟩=>
    ⟨⟨k1.cell 0,k2.cell 0⟩,⟨k3.cell 0,k3.cell 1,k3.cell 2,k3.cell 3,k3.cell 4⟩,k4.cell 0,k4.cell 1,k4.cell 2,k4.cell 3,k4.cell 4⟩
   have HQ:Hid (∀v b H w,B2 v b H w\/C v b H w->(w.cell? gy=AE (AI y)/\w.cell? gh=AE (.func (.func fH) #[] EZ))/\(w.cell? s0=AE (AA AB t.a)/\w.cell? (s0,1)=AE (AA AB t.b)/\w.cell? (s0,2)=AE (AA AB t.c)/\w.cell? (s0,3)=AE (AA AB t.d)/\w.cell? (s0,4)=AE (AA AB t.e))/\w.cell? H=AE (AA AB v.a)/\w.cell? (H,1)=AE (AA AB v.b)/\w.cell? (H,2)=AE (AA AB v.c)/\w.cell? (H,3)=AE (AA AB v.d)/\w.cell? (H,4)=AE (AA AB v.e)):=λv b H w q=>Q.out _ _ _ (ab.out v b H w q);have q0:=HQ.out _ _ _ _ (.inl JO.out);have U:=AO (av.out _ _ _ _ JO.out);unfold DS at U jX;clear he e0 h6 aa vY Yn ad;go_wp2_with fail
   go_region_held3 (λw=>(w.cell? gy=AE (AI y)/\w.cell? gh=AE (.func (.func fH) #[] EZ))/\(w.cell? s0=AE (AA AB t.a)/\w.cell? (s0,1)=AE (AA AB t.b)/\w.cell? (s0,2)=AE (AA AB t.c)/\w.cell? (s0,3)=AE (AA AB t.d)/\w.cell? (s0,4)=AE (AA AB t.e))/\w.cell? H=AE (AA AB v.a)/\w.cell? (H,1)=AE (AA AB v.b)/\w.cell? (H,2)=AE (AA AB v.c)/\w.cell? (H,3)=AE (AA AB v.d)/\w.cell? (H,4)=AE (AA AB v.e)) (first|with_reducible exact q0|with_reducible exact O)
    (first
     |((with_reducible refine U.out.mono ?_);rintro e w7 ⟨rfl,h7⟩;have O:=HQ.out _ _ _ _ (.inr h7))
     |(go_at_call 30;(with_reducible refine(jX.out _ _ _ _ h7).mono ?_);rintro e w8 ⟨er,rfl,h8,Qt⟩;have O:=Q.out _ _ _ (Qt _ rfl)))
   have HP:=AO h8;clear h8 Qt O;go_wp2
   exact HP.out
  ·have aA:¬(er:Int)=0:=a5;have HP:=AO h6;clear h6 he;go_wp2
   exact HP.out
 ·have hB:=vY.out _ _ _ _ h5;clear O q6 q8 h5 z0 z1 z2 z3 z4 f0 f1 f2 f3 f4;generalize(((((w5.setCell I v.a).setCell (I,1) v.b).setCell (I,2) v.c).setCell (I,3) v.d).setCell (I,4) v.e)=w6 at*
  generalize I=H at*
  rcases hB with⟨he,h6⟩|⟨he,h6⟩
  ·have e0:((er:Nat):Int)=0:=a5;rw[e0];have JO:=AO (aw.out _ _ _ _ h6);have Q:Hid (∀v H w,Row w gy 65 [AI y]/\Row w gh 148 [.func (.func fH) #[] EZ]/\Row w s0 47 (DE t)/\Row w H 47 (DE v)->(w.cell? gy=AE (AI y)/\w.cell? gh=AE (.func (.func fH) #[] EZ))/\(w.cell? s0=AE (AA AB t.a)/\w.cell? (s0,1)=AE (AA AB t.b)/\w.cell? (s0,2)=AE (AA AB t.c)/\w.cell? (s0,3)=AE (AA AB t.d)/\w.cell? (s0,4)=AE (AA AB t.e))/\w.cell? H=AE (AA AB v.a)/\w.cell? (H,1)=AE (AA AB v.b)/\w.cell? (H,2)=AE (AA AB v.c)/\w.cell? (H,3)=AE (AA AB v.d)/\w.cell? (H,4)=AE (AA AB v.e)):=λv H w ⟨k1,k2,k3,k4⟩=>
    ⟨⟨k1.cell 0,k2.cell 0⟩,⟨k3.cell 0,k3.cell 1,k3.cell 2,k3.cell 3,k3.cell 4⟩,k4.cell 0,k4.cell 1,k4.cell 2,k4.cell 3,k4.cell 4⟩
   have HQ:Hid (∀v b H w,B2 v b H w\/C v b H w->(w.cell? gy=AE (AI y)/\w.cell? gh=AE (.func (.func fH) #[] EZ))/\(w.cell? s0=AE (AA AB t.a)/\w.cell? (s0,1)=AE (AA AB t.b)/\w.cell? (s0,2)=AE (AA AB t.c)/\w.cell? (s0,3)=AE (AA AB t.d)/\w.cell? (s0,4)=AE (AA AB t.e))/\w.cell? H=AE (AA AB v.a)/\w.cell? (H,1)=AE (AA AB v.b)/\w.cell? (H,2)=AE (AA AB v.c)/\w.cell? (H,3)=AE (AA AB v.d)/\w.cell? (H,4)=AE (AA AB v.e)):=λv b H w q=>Q.out _ _ _ (ab.out v b H w q);have q0:=HQ.out _ _ _ _ (.inl JO.out);have U:=AO (av.out _ _ _ _ JO.out);unfold DS at U jX;clear he e0 h6 aa vY Yn ad;go_wp2_with fail
   go_region_held3 (λw=>(w.cell? gy=AE (AI y)/\w.cell? gh=AE (.func (.func fH) #[] EZ))/\(w.cell? s0=AE (AA AB t.a)/\w.cell? (s0,1)=AE (AA AB t.b)/\w.cell? (s0,2)=AE (AA AB t.c)/\w.cell? (s0,3)=AE (AA AB t.d)/\w.cell? (s0,4)=AE (AA AB t.e))/\w.cell? H=AE (AA AB v.a)/\w.cell? (H,1)=AE (AA AB v.b)/\w.cell? (H,2)=AE (AA AB v.c)/\w.cell? (H,3)=AE (AA AB v.d)/\w.cell? (H,4)=AE (AA AB v.e)) (first|with_reducible exact q0|with_reducible exact O)
    (first
     |((with_reducible refine U.out.mono ?_);rintro e w7 ⟨rfl,h7⟩;have O:=HQ.out _ _ _ _ (.inr h7))
     |(go_at_call 30;(with_reducible refine(jX.out _ _ _ _ h7).mono ?_);rintro e w8 ⟨er,rfl,h8,Qt⟩;have O:=Q.out _ _ _ (Qt _ rfl)))
   have HP:=AO h8;clear h8 Qt O;go_wp2
   exact HP.out
  ·have aA:¬(er:Int)=0:=a5;have HP:=AO h6;clear h6 he;go_wp2
   exact HP.out
theorem Wd.Eg{X os m g T cs W}(h:Wd X os m W)(hm:Cs g T cs∈os):Row W g T cs:=by
 obtain⟨i,hi⟩:=BC.1 hm;exact h.row hi
theorem WY{X Y m g cs W}(h:Wd X (Y++[Cs g 47 cs]) m W)(e:cs.length=5)(x0 x1 x2 x3 x4:Value):Wd X (Y++[Cs g 47 [x0,x1,x2,x3,x4]]) m (((((W.setCell g x0).setCell (g,1) x1).setCell (g,2) x2).setCell (g,3) x3).setCell (g,4) x4):=by
 have J:=h.store (GC _ _) a6 0 x0;rw[Gf]at J;have I:=J.store (GC _ _) a6 1 x1;rw[Gf]at I;have H:=I.store (GC _ _) a6 2 x2;rw[Gf]at H;have h3:=H.store (GC _ _) a6 3 x3;rw[Gf]at h3;have h4:=h3.store (GC _ _) a6 4 x4;rw[Gf]at h4
 match cs,e with
 |[c0,c1,c2,c3,c4],_=>exact h4
structure vD (X:Cx) (pre:List DA) (fH:Nat) (EZ:Array Value) (la lb:List Cv) (key:Nat) (res:Cv->Cv) (H:Nat->List DA):Prop where
 ent:∀args w,Br AP (callFunc fH args) w=.ok (.enter fH args) w
 bare:∀i,Dn (H i)
 how:∀i zz m W t v b,la[i]?=AE t->LH lb (DP t key)=(if b=true then AE v else AD)->Wd X (pre++H i++zz) m W->Calls AP fH (#[DS t,DS v,b]++EZ) W λe w'=>e=AH (DS (res t))/\Wd X (pre++H (i+1)++zz) m w'
structure MT where
 X:Cx
 pre:List DA
 post:List DA
 H:Nat->List DA
 la:List Cv
 lb:List Cv
 key:Nat
 res:Cv->Cv
 fH:Nat
 EZ:Array Value
 x:Nat
 rt:Rt
 gr:Nat
 ga:Nat
 gk:Nat
 y:Nat
 wt:Wt
 gz:Nat
 LV:Nat
 gy:Nat
 gh:Nat
structure MT.Ok (P:MT):Prop where
 how:vD P.X P.pre P.fH P.EZ P.la P.lb P.key P.res P.H
 key5:P.key<5
 rt:xk P.X P.rt P.lb
 src:Src (P.pre++P.post) P.X.sz P.rt.first P.rt.k P.rt.h P.lb
 up:P.lb.Pairwise λu v=>u.a<=v.a
 keys:P.la.Pairwise λu v=>DP u P.key<=DP v P.key
 kmin:∀t∈P.la,-9223372036854775808<DP t P.key
 wt:Ep P.wt P.X.sz
 wl:P.wt.l=[]
 wb:P.wt.bound=P.la.length
 fit:∀t∈P.la,Dc P.wt.k (P.res t)=true
def MT.oF(P:MT):Value:=.func (.func 131) #[] #[AI P.gk,AI P.ga,AI P.gr]
def MT.rows(P:MT):List DA:=[Cs P.gz 170 [P.oF],Cs P.LV 3 [P.key],Cs P.gy 65 [AI P.y],Cs P.gh 148 [.func (.func P.fH) #[] P.EZ]]
def MT.L(P:MT)(i:Nat)(rd:DA)(r:Cv)(ok:Bool)(wo:DA)(V:List DA):List DA:=P.pre++P.H i++(P.post++(FZ rd P.x P.gr P.ga P.gk r ok++(wo::(P.rows++V))))
def MT.rd(P:MT)(j:Nat):DA:=Eu P.X.p P.x (rat P.rt j) P.X.sz P.lb
def MT.Qj(P:MT)(l:List Cv):Wt:={P.wt with l:=l}
def MT.wr(P:MT)(i:Nat):DA:=I1 P.X.p P.y (P.Qj ((P.la.take i).map P.res)) P.X.sz
def MT.WrE(P:MT)(a:DA):Prop:=∃l:List Cv,l.length<=P.la.length/\(a=I1 P.X.p P.y (P.Qj l) P.X.sz\/a=Yu P.X.p P.y (P.Qj l))
section
variable{P:MT}{i:Nat}{rd wo:DA}{r:Cv}{ok:Bool}{V:List DA}
theorem MT.YM:P.L i rd r ok wo V=(P.pre++P.H i++P.post)++FZ rd P.x P.gr P.ga P.gk r ok++(wo::(P.rows++V)):=by simp[MT.L]
theorem MT.Ng(U:List DA):P.L i rd r ok wo V++U=P.L i rd r ok wo (V++U):=by simp[MT.L]
theorem MT.jA:(P.L i rd r ok wo V)[(P.pre++P.H i++P.post++FZ rd P.x P.gr P.ga P.gk r ok).length]?=AE wo:=by
 rw[MT.YM];simp
theorem MT.Uo(a:DA):(P.L i rd r ok wo V).set (P.pre++P.H i++P.post++FZ rd P.x P.gr P.ga P.gk r ok).length a=P.L i rd r ok a V:=by
 rw[MT.YM,MT.YM];simp
theorem MT.o7{m W}(e:Dn V){U}(h:Wd P.X (P.L i rd r ok wo (U++V)) m W):Wd P.X (P.L i rd r ok wo U) m W:=by
 rw[<-MT.Ng]at h;have:=Wd.Fy (b:=[]) V e (by rw[AZ];exact h);rwa [AZ]at this
end
abbrev MSt:=Nat×Nat×Cv×Bool
def MT.Z(P:MT)(s:MSt):List DA:=P.L s.1 (P.rd s.2.1) s.2.2.1 s.2.2.2 (P.wr s.1) []
def MT.P_(P:MT)(i:Nat)(s:MSt):Prop:=s.1=i/\i<=P.la.length/\∃k0,FI P.lb k0 s.2.1 s.2.2.1 s.2.2.2/\∀t,P.la[i]?=AE t->k0<=DP t P.key
def MT.c(P:MT)(s:MSt):Nat:=Cr P.rt.h s.2.1+s.1/P.wt.h
def MT.Ju(P:MT)(er:Nat)(z':List DA):Prop:=er=6/\¬P.X.cm/\∃i rd r ok wo,az P.X P.x P.rt P.lb rd/\P.WrE wo/\z'=P.L i rd r ok wo []
theorem MT.wok{P:MT}(e:P.Ok){l}(H:l.length<=P.la.length):Ep (P.Qj l) P.X.sz:=by
 have:=e.wt;exact {this with bound:=⟨this.bound.1,by show l.length<=P.wt.bound;rw[e.wb];exact H⟩}
theorem AF4{P:MT}(Q:P.Ok):DoS P.X 111 #[AI (AE ⟨P.gz,0,AD⟩),AI (AE ⟨P.LV,0,AD⟩),AI (AE ⟨P.gy,0,AD⟩),AI (AE ⟨P.gh,0,AD⟩)] P.la P.P_ P.Z P.c P.Ju (Cr P.rt.h P.lb.length+P.la.length) where
 ent:=λargs w=>by kernel_rfl
 cost:=λi s ⟨h1,h2,k0,h3,_⟩=>by
  have I:=Db Q.rt.ok.h.1 h3.le;have O:s.1/P.wt.h<=s.1:=BW _ _;unfold MT.c;omega
 step:=λi s zz m W t ht ⟨h1,h2,k0,hI,hk⟩ h hn=>by
  obtain⟨H,j,r,ok⟩:=s;have h1:H=i:=h1;subst h1;have hI:FI P.lb k0 j r ok:=hI;have ae:H<P.la.length:=(BM.1 ht).1;have ab:t∈P.la:=Ak ht;have av:=hk t ht;have aA:=hI.mono av;have aw:=Q.kmin t ab;have hq:H/P.wt.h<=H:=BW _ _;have EY:∀V,Src (P.pre++P.H H++P.post++(P.wr H::(P.rows++V))) P.X.sz P.rt.first P.rt.k P.rt.h P.lb:=λV=>by
   obtain⟨q,f,I,O,k3⟩:=Q.src;have hm:f∈P.pre++P.H H++P.post++(P.wr H::(P.rows++V)):=by
    rcases Ag.1 (Ak I)with hm|hm<;>simp[hm]
   obtain⟨q',jT⟩:=BC.1 hm;exact⟨q',f,jT,O,k3⟩
  have h:Wd P.X (P.L H (P.rd j) r ok (P.wr H) []++zz) (m+(Cr P.rt.h j+H/P.wt.h)) W:=h;rw[MT.Ng,BI]at h;have al:∀V w,Wd P.X (P.L H (P.rd j) r ok (P.wr H) V) (m+H/P.wt.h+Cr P.rt.h j) w->Calls AP 131 #[AA AB (DP t P.key),AI P.gk,AI P.ga,AI P.gr] w λe w'=>∃(v:Cv) (b:Bool) (er:Nat),e=AH (AM #[DS v,b,er])/\
    ((er=0/\∃j r ok,FI P.lb (DP t P.key) j r ok/\LH P.lb (DP t P.key)=(if b=true then AE v else AD)/\Wd P.X (P.L H (P.rd j) r ok (P.wr H) V) (m+H/P.wt.h+Cr P.rt.h j) w')\/
    (er=6/\¬P.X.cm/\∃rd r ok,az P.X P.x P.rt P.lb rd/\Wd P.X (P.L H rd r ok (P.wr H) V) (m+H/P.wt.h+Cr P.rt.h P.lb.length+1) w')):=λV w hw=>by
   rw[MT.YM]at hw;refine(uT aA aw Q.rt (EY V) Q.up a5 hw).mono ?_;rintro e w' (⟨j,r,ok,v,b,he,I,O,k3⟩|⟨rd,r,ok,he,I,O,k3⟩)
   ·exact⟨v,b,0,he,.inl ⟨rfl,j,r,ok,I,O,by rw[MT.YM];exact k3⟩⟩
   ·exact⟨Cu,false,6,he,.inr ⟨rfl,I,rd,r,ok,O,by rw[MT.YM];exact k3⟩⟩
  have hT:Row (W.alloc (AK #[t.a,t.b,t.c,t.d,t.e] 47)) W 47 (DE t):=heap_alloc_new _ _;have uK:Wd P.X (P.L H (P.rd j) r ok (P.wr H) (zz++[Cs W 47 (DE t)])) (m+H/P.wt.h+Cr P.rt.h j) (W.alloc (AK #[t.a,t.b,t.c,t.d,t.e] 47)):=by
   have:=h.new ((AS W W).alloc ao _) hT ao;rw[MT.Ng]at this;rwa [show m+H/P.wt.h+Cr P.rt.h j=m+(Cr P.rt.h j+H/P.wt.h)by omega]
  have Gg:(W.alloc (AK #[t.a,t.b,t.c,t.d,t.e] 47)).heap.size=W+1:=a8;have aB:Wd P.X (P.L H (P.rd j) r ok (P.wr H) (zz++[Cs W 47 (DE t)]++[Cs (W+1) 47 Z5])) (m+H/P.wt.h+Cr P.rt.h j) ((W.alloc (AK #[t.a,t.b,t.c,t.d,t.e] 47)).alloc (AK #[(),(),(),(),()] 47)):=by
   have:=uK.new ((AS _ _).alloc ao (AK #[(),(),(),(),()] 47)) (heap_alloc_new _ _:Row _ _ 47 Z5) ao;rw[MT.Ng,Gg]at this;exact this
  have J:∀{i rd r ok wo V M w},Wd P.X (P.L i rd r ok wo (zz++[Cs W 47 (DE t)]++V)) M w->(Row w P.gz 170 [P.oF]/\Row w P.LV 3 [P.key]/\Row w W 47 (DE t))/\Row w P.gy 65 [AI P.y]/\Row w P.gh 148 [.func (.func P.fH) #[] P.EZ]:=λ{i rd r ok wo V M w} q=>
   ⟨⟨q.Eg (by simp[MT.L,MT.rows]),q.Eg (by simp[MT.L,MT.rows]),q.Eg (by simp[MT.L,MT.rows])⟩,q.Eg (by simp[MT.L,MT.rows]),q.Eg (by simp[MT.L,MT.rows])⟩
  have aa:∀l:List Cv,l.length<=P.la.length->P.WrE (I1 P.X.p P.y (P.Qj l) P.X.sz)/\P.WrE (Yu P.X.p P.y (P.Qj l)):=λl hl=>⟨⟨l,hl,.inl rfl⟩,⟨l,hl,.inr rfl⟩⟩;have tv:((P.la.take H).map P.res).length=H:=by rw[Aj,Ac];omega
  have Pj:P.la.take (H+1)=P.la.take H++[t]:=by rw[Bi,ht];rfl
  refine fZ (u:=P.res t) (key:=P.key) (y:=P.y) (EZ:=P.EZ) (fH:=P.fH)
   (A:=λw=>Wd P.X (P.L H (P.rd j) r ok (P.wr H) (zz++[Cs W.heap.size 47 (DE t)])) (m+H/P.wt.h+Cr P.rt.h j) w)
   (A2:=λw=>Wd P.X (P.L H (P.rd j) r ok (P.wr H) (zz++[Cs W.heap.size 47 (DE t)]++[Cs (W.heap.size+1) 47 Z5])) (m+H/P.wt.h+Cr P.rt.h j) w)
   (FB:=λv b er w=>(er=0/\∃j r ok,FI P.lb (DP t P.key) j r ok/\LH P.lb (DP t P.key)=(if b=true then AE v else AD)/\Wd P.X (P.L H (P.rd j) r ok (P.wr H) (zz++[Cs W.heap.size 47 (DE t)])) (m+H/P.wt.h+Cr P.rt.h j) w)\/
    (er=6/\¬P.X.cm/\∃rd r ok,az P.X P.x P.rt P.lb rd/\Wd P.X (P.L H rd r ok (P.wr H) (zz++[Cs W.heap.size 47 (DE t)])) (m+H/P.wt.h+Cr P.rt.h P.lb.length+1) w))
   (pZ:=λv b er w=>(er=0/\∃j r ok,FI P.lb (DP t P.key) j r ok/\LH P.lb (DP t P.key)=(if b=true then AE v else AD)/\Wd P.X (P.L H (P.rd j) r ok (P.wr H) (zz++[Cs W.heap.size 47 (DE t)]++[Cs (W.heap.size+1) 47 Z5])) (m+H/P.wt.h+Cr P.rt.h j) w)\/
    (er=6/\¬P.X.cm/\∃rd r ok,az P.X P.x P.rt P.lb rd/\Wd P.X (P.L H rd r ok (P.wr H) (zz++[Cs W.heap.size 47 (DE t)]++[Cs (W.heap.size+1) 47 Z5])) (m+H/P.wt.h+Cr P.rt.h P.lb.length+1) w))
   (B2:=λv b g w=>∃j r ok,FI P.lb (DP t P.key) j r ok/\LH P.lb (DP t P.key)=(if b=true then AE v else AD)/\Wd P.X (P.L H (P.rd j) r ok (P.wr H) (zz++[Cs W.heap.size 47 (DE t)]++[Cs g 47 (DE v)])) (m+H/P.wt.h+Cr P.rt.h j) w)
   (C:=λv b g w=>∃j r ok,FI P.lb (DP t P.key) j r ok/\Wd P.X (P.L (H+1) (P.rd j) r ok (P.wr H) (zz++[Cs W.heap.size 47 (DE t)]++[Cs g 47 (DE v)])) (m+H/P.wt.h+Cr P.rt.h j) w)
   ⟨Q.key5,Q.how.ent,uK.drewN 1,aB.drewN 1,?_,λw hw=>al _ w hw,λw hw=>al _ w hw,?_,?_,?_,?_,?_,?_,?_,?_,?_⟩
  ·rintro w (hw|hw)
   ·exact(J (V:=[]) (by rw[AZ];exact hw)).1
   ·exact(J hw).1
  ·rintro v b er w ((⟨_,j,r,ok,_,_,hw⟩|⟨_,_,rd,r,ok,_,hw⟩)|(⟨_,j,r,ok,_,_,hw⟩|⟨_,_,rd,r,ok,_,hw⟩))
   ·exact(J (V:=[]) (by rw[AZ];exact hw)).1
   ·exact(J (V:=[]) (by rw[AZ];exact hw)).1
   ·exact(J hw).1
   ·exact(J hw).1
  ·rintro v b er w (⟨_,j,r,ok,_,_,hw⟩|⟨_,_,rd,r,ok,_,hw⟩)
   ·exact hw.Eg (by simp[MT.L,Z5,DE,Cu])
   ·exact hw.Eg (by simp[MT.L,Z5,DE,Cu])
  ·have hz:∀g T cs,Cs g T cs∈P.L H (P.rd j) r ok (P.wr H) (zz++[Cs W 47 (DE t)])->g≠W+1:=λg T cs hm=>by
    have:=(uK.Eg hm).lt;rw[Gg]at this;omega
   exact⟨hz _ _ _ (by simp[MT.L,MT.rows];exact .inr (.inr (.inr (.inr (.inr (.inl rfl)))))),hz _ _ _ (by simp[MT.L,MT.rows];exact .inr (.inr (.inr (.inr (.inr (.inr (.inl rfl)))))))⟩
  ·rintro v b er w (⟨he,j,r,ok,I,O,hw⟩|⟨he,I,hw⟩)
   ·refine .inl ⟨he,j,r,ok,I,O,?_⟩;have:=hw.new ((AS w w).alloc ao (AK #[v.a,v.b,v.c,v.d,v.e] 47)) (heap_alloc_new _ _:Row _ _ 47 (DE v)) ao;rwa [MT.Ng]at this
   ·obtain⟨rd,r2,U,O,k3⟩:=hw;refine .inr ⟨a5,.inr ⟨er,P.L H rd r2 U (P.wr H) [],rfl,a5,⟨he,I,H,rd,r2,U,_,O,(aa _ (by rw[tv];omega)).1,rfl⟩,?_⟩⟩;rw[MT.Ng,BI];exact((MT.o7 (λy hy=>by simp at hy;subst hy;exact⟨rfl,rfl⟩) k3).mono a5 a5).below ((AS _ _).alloc ao _)
  ·have ad:∀{rd r ok M w} (v:Cv),Wd P.X (P.L H rd r ok (P.wr H) (zz++[Cs W.heap.size 47 (DE t)]++[Cs (W.heap.size+1) 47 Z5])) M w->Wd P.X (P.L H rd r ok (P.wr H) (zz++[Cs W.heap.size 47 (DE t)]++[Cs (W.heap.size+1) 47 (DE v)])) M (((((w.setCell ⟨W.heap.size+1,0,AD⟩ (AA AB v.a)).setCell ⟨W.heap.size+1,1,AD⟩ (AA AB v.b)).setCell ⟨W.heap.size+1,2,AD⟩ (AA AB v.c)).setCell ⟨W.heap.size+1,3,AD⟩ (AA AB v.d)).setCell ⟨W.heap.size+1,4,AD⟩ (AA AB v.e)):=λ{rd r ok M w} v q=>by
    rw[<-MT.Ng]at q⊢;exact WY q rfl _ _ _ _ _
   rintro v b er w (⟨he,j,r,ok,I,O,hw⟩|⟨he,I,hw⟩)
   ·exact .inl ⟨he,j,r,ok,I,O,ad v hw⟩
   ·obtain⟨rd,r2,U,O,k3⟩:=hw;refine .inr ⟨a5,.inr ⟨er,P.L H rd r2 U (P.wr H) [],rfl,a5,⟨he,I,H,rd,r2,U,_,O,(aa _ (by rw[tv];omega)).1,rfl⟩,?_⟩⟩;rw[MT.Ng,BI];have k4:=ad v k3;rw[AR]at k4;exact(MT.o7 (λy hy=>by simp at hy;rcases hy with rfl|rfl<;>exact⟨rfl,rfl⟩) k4).mono a5 a5
  ·rintro v b g w (⟨j,r,ok,_,_,hw⟩|⟨j,r,ok,_,hw⟩)
   ·have q:=J hw;exact⟨q.2.1,q.2.2,q.1.2.2,hw.Eg (by simp[MT.L])⟩
   ·have q:=J hw;exact⟨q.2.1,q.2.2,q.1.2.2,hw.Eg (by simp[MT.L])⟩
  ·rintro v b g w ⟨j,r,ok,I,O,hw⟩;exact⟨j,r,ok,I,O,hw.drewN 1⟩
  ·rintro v b g w ⟨j,r,ok,I,O,hw⟩;refine(Q.how.how H _ _ w t v b ht O hw).mono ?_;rintro e w' ⟨he,Kl⟩;exact⟨he,j,r,ok,I,Kl⟩
  ·rintro v b g w ⟨j,r,ok,I,hw⟩;have DN:=Db Q.rt.ok.h.1 I.le;have hd:H/P.wt.h<=(H+1)/P.wt.h:=Nat.div_le_div_right a5;have nQ:(H+1)/P.wt.h<=H+1:=BW _ _;have hcut:∀{wo M w},Wd P.X (P.L (H+1) (P.rd j) r ok wo (zz++[Cs W 47 (DE t)]++[Cs g 47 (DE v)])) M w->Wd P.X (P.L (H+1) (P.rd j) r ok wo zz) M w:=λ{wo M w} q=>by
    rw[AR]at q;exact MT.o7 (λy hy=>by simp at hy;rcases hy with rfl|rfl<;>exact⟨rfl,rfl⟩) q
   refine(RW hw MT.jA (MT.wok Q (by rw[tv];omega)) a5 (Q.fit t ab) (by show ((P.la.take H).map P.res).length<P.wt.bound;rw[tv,Q.wb];exact ae)).mono ?_;have ar:(P.Qj ((P.la.take H).map P.res)).snoc (P.res t)=P.Qj ((P.la.take (H+1)).map P.res):=by
    rw[Pj,Cj];rfl
   rw[ar,MT.Uo,MT.Uo];rintro e w' (⟨he,Kl⟩|⟨he,Fu,Kl⟩)
   ·refine⟨0,he,.inl ⟨(H+1,j,r,ok),rfl,⟨rfl,ae,_,I,λt' mZ=>?_⟩,?_⟩,?_⟩
    ·obtain⟨q1,q2⟩:=BM.1 ht;obtain⟨q3,q4⟩:=BM.1 mZ;have:=B0.1 Q.keys H (H+1) q1 q3 a5;rwa [q2,q4]at this
    ·have O:=hcut Kl;show Wd P.X (P.L (H+1) (P.rd j) r ok (P.wr (H+1)) []++zz) (m+(Cr P.rt.h j+(H+1)/P.wt.h)) w';rw[MT.Ng,BI];have e1:m+(Cr P.rt.h j+(H+1)/P.wt.h)=m+H/P.wt.h+Cr P.rt.h j+((((P.la.take H).map P.res).length+1)/P.wt.h-((P.la.take H).map P.res).length/P.wt.h):=by rw[tv];omega
     rw[e1];exact O
    ·rintro w rfl;have q:=J Kl;exact⟨q.2.1,q.2.2,q.1.2.2,Kl.Eg (by simp[MT.L])⟩
   ·refine⟨6,he,.inr ⟨6,P.L (H+1) (P.rd j) r ok (Yu P.X.p P.y (P.Qj ((P.la.take (H+1)).map P.res))) [],rfl,a5,⟨rfl,Fu,H+1,_,r,ok,_,⟨j,.inl rfl⟩,(aa _ (by rw[Aj,Ac];omega)).2,rfl⟩,?_⟩,?_⟩
    ·rw[MT.Ng,BI];exact(hcut Kl).mono a5 a5
    ·rintro w rfl;have q:=J Kl;exact⟨q.2.1,q.2.2,q.1.2.2,Kl.Eg (by simp[MT.L])⟩
def Ev(n:Nat):List Value:=[(),(),(),(),n]
section
variable{X:Cx}{m g s0 n:Nat}{W:World}{pre zz:List DA}{t v:Cv}
def Nu(pre:List DA)(g n:Nat)(zz:List DA)(s0:Nat)(t v:Cv)(cs:List Value):List DA:=pre++[Cs g 125 (Ev n)]++(zz++[Cs s0 47 (DE t),Cs (s0+1) 47 (DE v),Cs (s0+2) 47 cs])
theorem mW(h:Wd X (pre++[Cs g 125 (Ev n)]++zz) m W)(hs0:s0=W):Wd X (Nu pre g n zz s0 t v Z5) m (((W.alloc (AK #[t.a,t.b,t.c,t.d,t.e] 47)).alloc (AK #[v.a,v.b,v.c,v.d,v.e] 47)).alloc (AK #[(),(),(),(),()] 47)):=by
 have I:=h.new ((AS W W).alloc ao (AK #[t.a,t.b,t.c,t.d,t.e] 47)) (heap_alloc_new _ _:Row _ _ 47 (DE t)) ao;have H:=I.new ((AS _ _).alloc ao (AK #[v.a,v.b,v.c,v.d,v.e] 47)) (heap_alloc_new _ _:Row _ _ 47 (DE v)) ao;have h3:=H.new ((AS _ _).alloc ao (AK #[(),(),(),(),()] 47)) (heap_alloc_new _ _:Row _ _ 47 Z5) ao;have e:∀(w:World) (o:Obj),(w.alloc o).heap.size=w+1:=λw o=>by simp
 simp only[e,<-hs0,CK,Cb,AR,B8,BI]at h3;unfold Nu;simp only[AR,B8,BI];exact h3
theorem M5{cs}(h:Wd X (Nu pre g n zz s0 t v cs) m W):Row W g 125 (Ev n)/\Row W s0 47 (DE t)/\Row W (s0+1) 47 (DE v)/\Row W (s0+2) 47 cs:=
 ⟨h.Eg (by simp[Nu]),h.Eg (by simp[Nu]),h.Eg (by simp[Nu]),h.Eg (by simp[Nu])⟩
theorem cH{cs}(h:Wd X (Nu pre g n zz s0 t v cs) m W):Wd X (Nu pre g (n+1) zz s0 t v cs) m (W.setCell (g,4) ((n+1:Nat):Int)):=by
 have H:(Nu pre g n zz s0 t v cs)[pre.length]?=AE (Cs g 125 (Ev n)):=by simp[Nu]
 have:=h.store H a6 4 ((n+1:Nat):Int);have e:(Nu pre g n zz s0 t v cs).set pre.length (Cs g 125 ((Ev n).set 4 ((n+1:Nat):Int)))=Nu pre g (n+1) zz s0 t v cs:=by simp[Nu,Ev]
 rwa [e]at this
theorem Oi{cs}(H:cs.length=5)(h:Wd X (Nu pre g n zz s0 t v cs) m W)(x0 x1 x2 x3 x4:Value):Wd X (Nu pre g n zz s0 t v [x0,x1,x2,x3,x4]) m (((((W.setCell (s0+2,0) x0).setCell (s0+2,1) x1).setCell (s0+2,2) x2).setCell (s0+2,3) x3).setCell (s0+2,4) x4):=by
 have e:∀cs,Nu pre g n zz s0 t v cs=(pre++[Cs g 125 (Ev n)]++(zz++[Cs s0 47 (DE t),Cs (s0+1) 47 (DE v)]))++[Cs (s0+2) 47 cs]:=λcs=>by simp[Nu]
 rw[e]at h⊢;exact WY h H _ _ _ _ _
theorem Va{cs}(h:Wd X (Nu pre g n zz s0 t v cs) m W):Wd X (pre++[Cs g 125 (Ev n)]++zz) m W:=by
 unfold Nu at h;rw[<-AR]at h;have:=Wd.Fy (b:=[]) [Cs s0 47 (DE t),Cs (s0+1) 47 (DE v),Cs (s0+2) 47 cs] (λy e=>by simp at e;rcases e with rfl|rfl|rfl<;>exact⟨rfl,rfl⟩) (by rw[AZ];exact h);rwa [AZ]at this
theorem wI{cs}(h:Wd X (Nu pre g n zz s0 t v cs) m W):g≠s0/\g≠s0+1/\g≠s0+2:=by
 have e:(Nu pre g n zz s0 t v cs)[pre.length]?=AE (Cs g 125 (Ev n)):=by simp[Nu]
 have hb:(Nu pre g n zz s0 t v cs)[pre.length+1+zz.length]?=AE (Cs s0 47 (DE t)):=by
  unfold Nu;rw[<-AR,show pre.length+1+zz.length=(pre++[Cs g 125 (Ev n)]++zz).length by simp;omega,AX ao,Ap];rfl
 have H:(Nu pre g n zz s0 t v cs)[pre.length+1+zz.length+1]?=AE (Cs (s0+1) 47 (DE v)):=by
  unfold Nu;rw[<-AR,show pre.length+1+zz.length+1=(pre++[Cs g 125 (Ev n)]++zz).length+1 by simp;omega,AX a5,Cm];rfl
 have hd:(Nu pre g n zz s0 t v cs)[pre.length+1+zz.length+2]?=AE (Cs (s0+2) 47 cs):=by
  unfold Nu;rw[<-AR,show pre.length+1+zz.length+2=(pre++[Cs g 125 (Ev n)]++zz).length+2 by simp;omega,AX a5,Cm];rfl
 exact⟨h.apart e hb a5 (k:=g) rfl,h.apart e H a5 (k:=g) rfl,h.apart e hd a5 (k:=g) rfl⟩
theorem ur{b:Bool}(h:Wd X (pre++[Cs g 125 (Ev n)]++zz) m W)(hn:n<=1000000):
  Calls AP 87 #[DS t,DS v,b,AI g] W λe w'=>e=AH (DS (if b=true then v else ⟨t.a,-1,0,0,0⟩))/\Wd X (pre++[Cs g 125 (Ev (if b=true then n+1 else n))]++zz) m w':=by
 obtain⟨s0,hs0⟩:=ae W.heap.size;obtain⟨I,Kv⟩:=ae (((W.alloc (AK #[t.a,t.b,t.c,t.d,t.e] 47)).alloc (AK #[v.a,v.b,v.c,v.d,v.e] 47)).alloc (AK #[(),(),(),(),()] 47));have h3:Wd X (Nu pre g n zz s0 t v Z5) m I:=by rw[Kv];exact mW h hs0
 obtain⟨p1,p2,p3,p4⟩:=M5 h3;obtain⟨Pp,PO,aa⟩:=wI h3;obtain⟨n1,Po⟩:=ae (n+1);have Ku:Aa.wrap ((n:Int)+1)=(n1:Int):=by rw[BV];omega
 have Gv:Hid (∀x0 x1 x2 x3 x4,Row (((((I.setCell (s0+2,0) x0).setCell (s0+2,1) x1).setCell (s0+2,2) x2).setCell (s0+2,3) x3).setCell (s0+2,4) x4) (s0+2) 47 [x0,x1,x2,x3,x4]/\Wd X (pre++[Cs g 125 (Ev n)]++zz) m (((((I.setCell (s0+2,0) x0).setCell (s0+2,1) x1).setCell (s0+2,2) x2).setCell (s0+2,3) x3).setCell (s0+2,4) x4)):=λx0 x1 x2 x3 x4=>
  have q:=Oi rfl h3 x0 x1 x2 x3 x4
  ⟨(M5 q).2.2.2,Va q⟩
 have ab:Hid (∀x0 x1 x2 x3 x4,Row ((((((I.setCell (g,4) n1).setCell (s0+2,0) x0).setCell (s0+2,1) x1).setCell (s0+2,2) x2).setCell (s0+2,3) x3).setCell (s0+2,4) x4) (s0+2) 47 [x0,x1,x2,x3,x4]/\Wd X (pre++[Cs g 125 (Ev n1)]++zz) m ((((((I.setCell (g,4) n1).setCell (s0+2,0) x0).setCell (s0+2,1) x1).setCell (s0+2,2) x2).setCell (s0+2,3) x3).setCell (s0+2,4) x4)):=λx0 x1 x2 x3 x4=>by
  have q0:=cH h3;rw[<-Po]at q0;have q:=Oi rfl q0 x0 x1 x2 x3 x4;exact⟨(M5 q).2.2.2,Va q⟩
 have c4:I.cell? (g,4)=AE (AA AB n):=p1.cell 4;obtain⟨d0,d1,d2,d3,d4⟩:=p2.q5;obtain⟨e0,e1,e2,e3,e4⟩:=p3.q5;obtain⟨z0,z1,z2,z3,z4⟩:=p4.q5;have fg:=p1.free 4;obtain⟨f0,f1,f2,f3,f4⟩:=p4.r5;have Jy:=AO Kv;replace hs0:=AO hs0;have QT:s0≠g:=λe=>Pp e.symm;have al:s0+1≠g:=λe=>PO e.symm;have ad:s0+2≠g:=λe=>aa e.symm;clear h h3 p1 p2 p3 p4 Kv
 cases b
 ·have HF:Hid (∀w,Wd X (pre++[Cs g 125 (Ev n)]++zz) m w->(Bm (AL #[t.a,AA AB (-1),(),(),()])=AH (DS (if false=true then v else ⟨t.a,-1,0,0,0⟩))/\Wd X (pre++[Cs g 125 (Ev (if false=true then n+1 else n))]++zz) m w)):=λw q=>⟨rfl,q⟩;generalize Gr:(λ(e:Ending) (w':World)=>e=AH (DS (if false=true then v else ⟨t.a,-1,0,0,0⟩))/\Wd X (pre++[Cs g 125 (Ev (if false=true then n+1 else n))]++zz) m w')=Dd;replace Gr:=AO Gr;unfold DS;go_enter func87,ntmps87
  go_upto_region 1 with(fail)
  rw[<-Jy.out,<-hs0.out];clear Jy;simp only[CK,Cb];go_wp2
  obtain⟨H,hw⟩:=Gv.out t.a (AA AB (-1)) () () ();have r0:=H.cell 0;have U:=H.cell 1;have Q:=H.cell 2;have O:=H.cell 3;have J:=H.cell 4;simp only[AW,AV]at r0 U Q O J;refine Aw (v:=AL #[t.a,AA AB (-1),(),(),()]) (by simp[results,Tryz.results87,go_sem,r0,U,Q,O,J]) rfl ?_;exact by rw[<-Gr.out];exact HF.out _ hw
 ·have HF:Hid (∀w,Wd X (pre++[Cs g 125 (Ev n1)]++zz) m w->(Bm (DS v)=AH (DS (if true=true then v else ⟨t.a,-1,0,0,0⟩))/\Wd X (pre++[Cs g 125 (Ev (if true=true then n+1 else n))]++zz) m w)):=λw q=>⟨rfl,by rw[if_pos rfl,<-Po];exact q⟩;generalize Gr:(λ(e:Ending) (w':World)=>e=AH (DS (if true=true then v else ⟨t.a,-1,0,0,0⟩))/\Wd X (pre++[Cs g 125 (Ev (if true=true then n+1 else n))]++zz) m w')=Dd;replace Gr:=AO Gr;replace Po:=AO Po;unfold DS;go_enter func87,ntmps87
  go_upto_region 1 with(fail)
  rw[<-Jy.out,<-hs0.out];clear Jy;simp only[CK,Cb];go_wp2
  obtain⟨H,hw⟩:=ab.out v.a v.b v.c v.d v.e;have r0:=H.cell 0;have U:=H.cell 1;have Q:=H.cell 2;have O:=H.cell 3;have J:=H.cell 4;simp only[AW,AV]at r0 U Q O J;refine Aw (v:=AL #[v.a,v.b,v.c,v.d,v.e]) (by simp[results,Tryz.results87,go_sem,r0,U,Q,O,J]) rfl ?_;exact by rw[<-Gr.out];exact HF.out _ hw
theorem sd{b:Bool}(h:Wd X (pre++[Cs g 125 (Ev n)]++zz) m W)(hn:n<=1000000):
  Calls AP 89 #[DS t,DS v,b,AI g] W λe w'=>e=AH (DS (if b=true then ⟨t.a,v.b,Aa.wrap (v.c+t.c),0,0⟩else t))/\Wd X (pre++[Cs g 125 (Ev (if (b&&decide (v.b≠-1))=true then n+1 else n))]++zz) m w':=by
 obtain⟨s0,hs0⟩:=ae W.heap.size;obtain⟨W3,Kv⟩:=ae (((W.alloc (AK #[t.a,t.b,t.c,t.d,t.e] 47)).alloc (AK #[v.a,v.b,v.c,v.d,v.e] 47)).alloc (AK #[(),(),(),(),()] 47));have h3:Wd X (Nu pre g n zz s0 t v Z5) m W3:=by rw[Kv];exact mW h hs0
 obtain⟨p1,p2,p3,p4⟩:=M5 h3;obtain⟨Pp,PO,aa⟩:=wI h3;obtain⟨n1,Po⟩:=ae (n+1);have Ku:Aa.wrap ((n:Int)+1)=(n1:Int):=by rw[BV];omega
 have Gv:Hid (∀x0 x1 x2 x3 x4,Row (((((W3.setCell (s0+2,0) x0).setCell (s0+2,1) x1).setCell (s0+2,2) x2).setCell (s0+2,3) x3).setCell (s0+2,4) x4) (s0+2) 47 [x0,x1,x2,x3,x4]/\Wd X (pre++[Cs g 125 (Ev n)]++zz) m (((((W3.setCell (s0+2,0) x0).setCell (s0+2,1) x1).setCell (s0+2,2) x2).setCell (s0+2,3) x3).setCell (s0+2,4) x4)):=λx0 x1 x2 x3 x4=>
  have q:=Oi rfl h3 x0 x1 x2 x3 x4
  ⟨(M5 q).2.2.2,Va q⟩
 have ab:Hid (∀x0 x1 x2 x3 x4,Row ((((((W3.setCell (g,4) n1).setCell (s0+2,0) x0).setCell (s0+2,1) x1).setCell (s0+2,2) x2).setCell (s0+2,3) x3).setCell (s0+2,4) x4) (s0+2) 47 [x0,x1,x2,x3,x4]/\Wd X (pre++[Cs g 125 (Ev n1)]++zz) m ((((((W3.setCell (g,4) n1).setCell (s0+2,0) x0).setCell (s0+2,1) x1).setCell (s0+2,2) x2).setCell (s0+2,3) x3).setCell (s0+2,4) x4)):=λx0 x1 x2 x3 x4=>by
  have q0:=cH h3;rw[<-Po]at q0;have q:=Oi rfl q0 x0 x1 x2 x3 x4;exact⟨(M5 q).2.2.2,Va q⟩
 have c4:W3.cell? (g,4)=AE (AA AB n):=p1.cell 4;obtain⟨d0,d1,d2,d3,d4⟩:=p2.q5;obtain⟨e0,e1,e2,e3,e4⟩:=p3.q5;obtain⟨z0,z1,z2,z3,z4⟩:=p4.q5;have fg:=p1.free 4;obtain⟨f0,f1,f2,f3,f4⟩:=p4.r5;have Jy:=AO Kv;replace hs0:=AO hs0;have QT:s0≠g:=λe=>Pp e.symm;have ao:s0+1≠g:=λe=>PO e.symm;have ad:s0+2≠g:=λe=>aa e.symm;clear h h3 p1 p2 p3 p4 Kv;obtain⟨q,hq⟩:=al (Aa.wrap (v.c+t.c))
 cases b
 ·have HF:Hid (∀w,Wd X (pre++[Cs g 125 (Ev n)]++zz) m w->(Bm (DS t)=AH (DS (if false=true then ⟨t.a,v.b,Aa.wrap (v.c+t.c),0,0⟩else t))/\Wd X (pre++[Cs g 125 (Ev (if (false&&decide (v.b≠-1))=true then n+1 else n))]++zz) m w)):=λw k=>⟨by rfl,by rw[if_neg a8];exact k⟩;generalize Gr:(λ(e:Ending) (w':World)=>e=AH (DS (if false=true then ⟨t.a,v.b,Aa.wrap (v.c+t.c),0,0⟩else t))/\Wd X (pre++[Cs g 125 (Ev (if (false&&decide (v.b≠-1))=true then n+1 else n))]++zz) m w')=Dd;replace Gr:=AO Gr;replace Po:=AO Po;unfold DS;go_enter func89,ntmps89
  go_upto_region 1 with(fail)
  rw[<-Jy.out,<-hs0.out];clear Jy;simp only[CK,Cb];go_wp2
  obtain⟨H,hw⟩:=Gv.out t.a t.b t.c t.d t.e;have U:=H.cell 0;have Q:=H.cell 1;have O:=H.cell 2;have J:=H.cell 3;have I:=H.cell 4;simp only[AW,AV]at U Q O J I;refine Aw (v:=AL #[t.a,t.b,t.c,t.d,t.e]) (by simp[results,Tryz.results89,go_sem,U,Q,O,J,I]) rfl ?_;exact by rw[<-Gr.out];exact HF.out _ hw
 ·by_cases hb:v.b=-1
  ·have g1:(v.b !=-1)=false:=by simpa using hb
   have hnb:¬(true&&decide (v.b≠-1))=true:=by simp[hb]
   replace hb:=AO hb;replace hnb:=AO hnb;have HF:Hid (∀w,Wd X (pre++[Cs g 125 (Ev n)]++zz) m w->(Bm (DS ⟨t.a,v.b,q,0,0⟩)=AH (DS (if true=true then ⟨t.a,v.b,Aa.wrap (v.c+t.c),0,0⟩else t))/\Wd X (pre++[Cs g 125 (Ev (if (true&&decide (v.b≠-1))=true then n+1 else n))]++zz) m w)):=λw k=>⟨by rw[if_pos rfl,hq],by rw[if_neg hnb.out];exact k⟩;generalize Gr:(λ(e:Ending) (w':World)=>e=AH (DS (if true=true then ⟨t.a,v.b,Aa.wrap (v.c+t.c),0,0⟩else t))/\Wd X (pre++[Cs g 125 (Ev (if (true&&decide (v.b≠-1))=true then n+1 else n))]++zz) m w')=Dd;replace Gr:=AO Gr;replace Po:=AO Po;unfold DS;go_enter func89,ntmps89
   go_upto_region 1 with(fail)
   rw[<-Jy.out,<-hs0.out];clear Jy;simp only[CK,Cb];go_wp2
   obtain⟨H,hw⟩:=Gv.out t.a v.b q () ();have U:=H.cell 0;have Q:=H.cell 1;have O:=H.cell 2;have J:=H.cell 3;have I:=H.cell 4;simp only[AW,AV]at U Q O J I;refine Aw (v:=AL #[t.a,v.b,q,(),()]) (by simp[results,Tryz.results89,go_sem,U,Q,O,J,I]) rfl ?_;exact by rw[<-Gr.out];exact HF.out _ hw
  ·have g1:(v.b !=-1)=true:=by simpa using hb
   have hnb:(true&&decide (v.b≠-1))=true:=by simp[hb]
   replace hb:=AO hb;replace hnb:=AO hnb;have HF:Hid (∀w,Wd X (pre++[Cs g 125 (Ev n1)]++zz) m w->(Bm (DS ⟨t.a,v.b,q,0,0⟩)=AH (DS (if true=true then ⟨t.a,v.b,Aa.wrap (v.c+t.c),0,0⟩else t))/\Wd X (pre++[Cs g 125 (Ev (if (true&&decide (v.b≠-1))=true then n+1 else n))]++zz) m w)):=λw k=>⟨by rw[if_pos rfl,hq],by rw[if_pos hnb.out,<-Po];exact k⟩;generalize Gr:(λ(e:Ending) (w':World)=>e=AH (DS (if true=true then ⟨t.a,v.b,Aa.wrap (v.c+t.c),0,0⟩else t))/\Wd X (pre++[Cs g 125 (Ev (if (true&&decide (v.b≠-1))=true then n+1 else n))]++zz) m w')=Dd;replace Gr:=AO Gr;replace Po:=AO Po;unfold DS;go_enter func89,ntmps89
   go_upto_region 1 with(fail)
   rw[<-Jy.out,<-hs0.out];clear Jy;simp only[CK,Cb];go_wp2
   obtain⟨H,hw⟩:=ab.out t.a v.b q () ();have U:=H.cell 0;have Q:=H.cell 1;have O:=H.cell 2;have J:=H.cell 3;have I:=H.cell 4;simp only[AW,AV]at U Q O J I;refine Aw (v:=AL #[t.a,v.b,q,(),()]) (by simp[results,Tryz.results89,go_sem,U,Q,O,J,I]) rfl ?_;exact by rw[<-Gr.out];exact HF.out _ hw
end
theorem RC(k i g N cap:Nat)(w:World)(WJ:0<k)(hk:k<=5)(U:i*k+k<=N)(hc:N<=cap)(NI:cap<=1000000):Calls AP 158 #[AL #[k,AJ g N cap],i] w λe w'=>e=AH (AJ (g,i*k) k (cap-i*k))/\Below w w w':=by
 have DV:=(AS w w).alloc ao (AK #[k,AJ g N cap] 223);have HB:=AO DV;have Q:Row (w.alloc (AK #[k,AJ g N cap] 223)) w 223 [k,AJ g N cap]:=heap_alloc_new _ _;obtain⟨c0,c1⟩:=Q.q2;have O:i<=i*k:=Nat.le_mul_of_pos_right _ WJ;obtain⟨a,I⟩:=ae (i*k);have hmul:(i:Int)*(k:Int)=(a:Int):=by rw[I];exact(Be i k).symm
 rw[<-I]at U O⊢;obtain⟨u,hu⟩:=ae (a+k);obtain⟨J,cS⟩:=ae (i+1);have Ku:(i:Int)+1=(J:Int):=a5;have ad:(J:Int)*(k:Int)=(u:Int):=by rw[hu,cS,I,<-Be,A6,BD]
 have H:u-a=k:=a5;have hcut:=λW=>J8 (P:=AP) W 116 120 _ Bc (info_parts QL).choose_spec.1 (info_parts QL).choose_spec.2.2.1 g N cap a u a5 a5 AB AB (a:Int) (u:Int) rfl rfl;rw[H,EW a5,BL,Nat.mul_one]at hcut;have QV:a<=1000000:=a5;have Ph:u<=1000000:=a5;have ab:i<=1000000:=a5;have aa:J<=1000001:=a5;clear Q I hu H DV U cS O;go_enter func158,ntmps158
 go_wp2
 go_ret
 exact⟨rfl,HB.out⟩
theorem cX{W g N cap k i}{ws:List Nat}{t}(hg:Row W g 120 (ws.map vw))(O:0<k/\k<=5)(hn:i*k+k<=N)(hc:N<=cap)(NI:cap<=1000000)(hw:N<=ws.length)(ht:(ws.drop (i*k)).take k=DW k t)(J:EE t)(hf:Dc k t=true):
  Calls AP 192 #[AL #[k,AJ g N cap],i] W λe w'=>e=AH (AL #[t.a,t.b,t.c,t.d,t.e])/\Below W W w':=by
 obtain⟨W3,e3,b3,s3,r1,r2,r3⟩:=Vs W [k,AJ g N cap] [(),(),(),(),()] [(),(),(),(),()] 223 47 47;have Jy:=AO e3;have Ei:=AO b3;have dO:=AO s3;have Qf:=AO r2;have Gb:=AO r3;have ae:=AO (hg.below b3 hg.lt);obtain⟨c0,c1⟩:=r1.q2;have aa:=hg.lt;have ad:Hid (g<W):=aa;have Fz:Hid (∀w,Calls AP 158 #[AL #[k,AJ g N cap],i] w λe w'=>e=AH (AJ (g,i*k) k (cap-i*k))/\Below w w w'):=λw=>RC k i g N cap w O.1 O.2 hn hc NI;have pY:Hid (Eo k (DW k t) k=[AA AB t.a,AA AB t.b,AA AB t.c,AA AB t.d,AA AB t.e]):=by
  unfold Hid;rw[P4 O.2,RY O.2 J hf]
 have Qc:Hid (Eo k (DW k t) 0=[AA AB 0,AA AB 0,AA AB 0,AA AB 0,AA AB 0]):=OA _ _;have pW:Hid (∀i j,j<5->∃v,(Eo k (DW k t) i)[j]?=AE v):=λi j I=>⟨_,AU (show j<(Eo k (DW k t) i).length from I)⟩;have TM:Hid (∀j,j<k->(Eo k (DW k t) j).set j (AA AB (Aa.wrap ((ws.getD (i*k+j) 0:Nat):Int)))=Eo k (DW k t) (j+1)):=by
  intro j I;rw[<-Pz O.2 _ I,<-ht]
  congr 4
  rw[AT,AT,At,if_pos I,CL]
 have NB:Hid (i*k+k<=ws.length):=by unfold Hid;omega
 generalize Eo k (DW k t)=CC at*
 generalize hoff:i*k=off at*
 replace hoff:=AO hoff;obtain⟨TA,TB,TC,U,Q⟩:=t;simp only at*
 clear hn ht J hf e3 b3 s3 r1 r2 r3 hw aa hg;go_enter func192,ntmps192
 go_upto_region 2 with(fail)
 rw[<-Jy.out];clear Jy;generalize hS:W.heap.size=s at*
 replace hS:=AO hS;go_wp2_with fail
 refine(Fz.out _).mono ?_;rintro e w4 ⟨rfl,IX⟩;have Qi:Hid (Below (s+2) W3 w4):=IX.mono (by rw[dO.out];omega);have QC:Hid (Row w4 (s+2) 47 (CC 0)):=by unfold Hid;rw[Qc.out];exact Gb.out.below IX Gb.out.lt
 clear IX Gb Qc c0 c1;go_wp2
 go_loopw [6,7,12] (λ_ _ iv wr=>∃j:Nat,j<=k/\iv=AA AB (j:Int)/\Hid (Below (s+2) W3 wr)/\Hid (Row wr (s+2) 47 (CC j))) (λ_ _ iv _=>k-(BF iv).toNat)
 case atStart=>exact⟨0,Aq _,rfl,Qi.out,QC.out⟩
 case round=>
  obtain⟨j,I,rfl,HF,IE⟩:=hrel;by_cases ab:j<k
  ·have Km:=TM.out j ab;have Pm:off+j<ws.length:=by have:=NB.out;omega
   have cw:wr.cell? (g,off+j)=AE (.int .u64 (ws.getD (off+j) 0:Nat)):=by
    rw[(ae.out.below HF.out (by have:=ad.out;omega)).cell (off+j)];exact MH Pm
   obtain⟨v0,ct⟩:=pW.out j j a5;have ct:wr.cell? (s+2,j)=AE v0:=by rw[IE.out.cell j];exact ct
   have fg:=IE.out.free j;have Gv:Hid (Row (wr.setCell (s+2,j) (AA AB (Aa.wrap ((ws.getD (off+j) 0:Nat):Int)))) (s+2) 47 (CC (j+1))):=by
    have h1:=IE.out.set j (AA AB (Aa.wrap ((ws.getD (off+j) 0:Nat):Int)));rw[Km]at h1;exact h1
   have Qh:Hid (Below (s+2) W3 (wr.setCell (s+2,j) (AA AB (Aa.wrap ((ws.getD (off+j) 0:Nat):Int))))):=HF.out.setCell ao _;have UM:(0:Int)<=(j:Int):=a5;have nD:(j:Int)<(k:Int):=a5;have wk:(j:Int)<5:=a5;clear Km Pm I;generalize ws.getD (off+j) 0=u at*
   obtain⟨z,hz⟩:=al (Aa.wrap (u:Int));rw[hz]at Gv Qh;go_wp2
   go_roundw
   case rel=>exact⟨j+1,a5,by go_num,Qh.out,Gv.out⟩
   case measure=>simp[BF];omega
  ·obtain rfl:j=k:=a5;have H:=IE.out;rw[pY.out]at H;have d0:=H.cell 0;have d1:=H.cell 1;have d2:=H.cell 2;have d3:=H.cell 3;have d4:=H.cell 4;simp only[AW,AV]at d0 d1 d2 d3 d4;have JE:=Qf.out.below HF.out a5;obtain⟨e0,e1,e2,e3,e4⟩:=JE.q5;obtain⟨f0,f1,f2,f3,f4⟩:=JE.r5;have ES:Hid (Row (((((wr.setCell (s+1,0) TA).setCell (s+1,1) TB).setCell (s+1,2) TC).setCell (s+1,3) U).setCell (s+1,4) Q) (s+1) 47 [TA,TB,TC,U,Q]):=((((JE.set 0 TA).set 1 TB).set 2 TC).set 3 U).set 4 Q;have bK:Hid (Below s W (((((wr.setCell (s+1,0) TA).setCell (s+1,1) TB).setCell (s+1,2) TC).setCell (s+1,3) U).setCell (s+1,4) Q)):=by
    have h1:=Ei.out.trans (HF.out.mono (show s<=s+2 by omega));exact((((h1.setCell (p:=⟨s+1,0,AD⟩) (by show s<=s+1;omega) _).setCell (p:=⟨s+1,1,AD⟩) (by show s<=s+1;omega) _).setCell (p:=⟨s+1,2,AD⟩) (by show s<=s+1;omega) _).setCell (p:=⟨s+1,3,AD⟩) (by show s<=s+1;omega) _).setCell (p:=⟨s+1,4,AD⟩) (by show s<=s+1;omega) _
   clear H JE;go_wp2
   have q0:=ES.out.cell 0;have q1:=ES.out.cell 1;have q2:=ES.out.cell 2;have q3:=ES.out.cell 3;have q4:=ES.out.cell 4;simp only[AW,AV]at q0 q1 q2 q3 q4;refine Aw (v:=AL #[TA,TB,TC,U,Q]) (by simp[results,Tryz.results192,go_sem,q0,q1,q2,q3,q4]) rfl ⟨rfl,by rw[hS.out];exact bK.out⟩
theorem rq{W}{g N cap k i:Nat}{ws}(t:Cv)(hg:Row W g 120 (ws.map vw))(hk:0<k/\k<=5)(hn:i*k+k<=N)(hc:N<=cap)(NI:cap<=1000000)(hw:N<=ws.length):
  Calls AP 154 #[AL #[k,AJ g N cap],i,AL #[t.a,t.b,t.c,t.d,t.e]] W λe w'=>e=AH (AM #[])/\Row w' g 120 ((splice ws (i*k) (DW k t)).map vw)/\DG (λb=>b=g) W w':=by
 obtain⟨W2,U,b2,s2,r1,r2⟩:=S9 W [k,AJ g N cap] [t.a,t.b,t.c,t.d,t.e] 223 47;have ab:=hg.lt;have I:∀w,Calls AP 158 #[AL #[k,AJ g N cap],i] w λe w'=>e=AH (AJ (g,i*k) k (cap-i*k))/\Below w w w':=λw=>RC k i g N cap w hk.1 hk.2 hn hc NI;have TX:=Fl hk.2 t;have vg:Hid (∀j,j<k->∃z,(DE t)[j]?=AE (AA AB z)/\(DW k t)[j]?=AE (uw z)):=λj hj=>by
  have wk:j<t.D8.length:=by rw[Cv.Sy];omega
  refine⟨t.D8[j],?_,?_⟩
  ·have e:DE t=t.D8.map (Bg AB):=rfl;rw[e,Bd,AU wk];rfl
  ·unfold DW;rw[Bd,At,if_pos hj,AU wk];rfl
 have vH:Hid (∀j z,j<k->(DW k t)[j]?=AE (uw z)->((splice ws (i*k) ((DW k t).take j)).map vw).set (i*k+j) (.int .u64 (uw z:Nat))=(splice ws (i*k) ((DW k t).take (j+1))).map vw/\i*k+j<((splice ws (i*k) ((DW k t).take j)).map vw).length):=λj z hj hz=>by
  refine⟨?_,?_⟩
  ·rw[<-Ro ws _ (i*k) j (uw z) hz (by rw[TX];omega),List.map_set];rfl
  ·rw[Aj,DL _ _ _ (by rw[Ac,TX];omega)];omega
 have Qe:Hid (ws.map vw=(splice ws (i*k) ((DW k t).take 0)).map vw):=by unfold Hid splice;simp
 have aw:Hid ((DW k t).take k=DW k t):=Ao a5;have KU:=AO U;have E1:=AO b2;have Ly:=AO s2;have jg:=AO (hg.below b2 hg.lt);have Fz:=AO I;have Ja:=AO r1;have Qf:Hid (Row W2 (W+1) 47 (DE t)):=r2;have ad:=AO ab;have RA:Hid (DG (λb=>b=g) W W2):=DG.DB b2 _;obtain⟨c0,c1⟩:=r1.q2;generalize DW k t=WL at*
 generalize hoff:i*k=off at*
 replace hoff:=AO hoff;clear TX I U b2 s2 r1 r2 hn hw hg ab;go_enter func154,ntmps154
 go_upto_region 1 with(fail)
 have U:=KU.out;change W2=(W.alloc (AK #[k,AJ g N cap] 223)).alloc (AK #[t.a,t.b,t.c,t.d,t.e] 47)at U;rw[<-U];clear U KU;generalize hS:W.heap.size=s at*
 replace hS:=AO hS;go_wp2_with fail
 refine(Fz.out _).mono ?_;rintro e w4 ⟨rfl,IX⟩;have aC:=AO (Ja.out.below IX Ja.out.lt);have aD:=AO (Qf.out.below IX Qf.out.lt);have aA:Hid (Row w4 g 120 ((splice ws off (WL.take 0)).map vw)):=by unfold Hid;rw[<-Qe.out];exact jg.out.below IX jg.out.lt
 have aB:Hid (DG (λb=>b=g) W w4):=RA.out.trans (DG.DB IX (λ_=>False)) λ_ h=>h.elim;clear IX jg Ja Qf Qe c0 c1 E1;go_wp2
 go_loopw [6,11] (λ_ iv wr=>∃j:Nat,j<=k/\iv=AA AB (j:Int)/\Hid (DG (λb=>b=g) W wr)/\Hid (Row wr s 223 [k,AJ g N cap])/\Hid (Row wr (s+1) 47 (DE t))/\Hid (Row wr g 120 ((splice ws off (WL.take j)).map vw))) (λ_ iv _=>k-(BF iv).toNat)
 case atStart=>exact⟨0,Aq _,rfl,aB.out,aC.out,aD.out,aA.out⟩
 case round=>
  obtain⟨j,hj,rfl,HF,pI,dQ,pG⟩:=hrel;by_cases aa:j<k
  ·obtain⟨z,Ew,Js⟩:=vg.out j aa;have Js:=AO Js;have HK:Hid (∀H,Below wr wr H->(H.cell? s=AE (AA AB k)/\H.cell? (s,1)=AE (AJ g N cap)/\H.cell? (s+1,j)=AE (AA AB z))/\Row H g 120 ((splice ws off (WL.take j)).map vw)):=λH hb=>by
    have h1:=pI.out.below hb pI.out.lt;have h2:=dQ.out.below hb dQ.out.lt;refine⟨⟨h1.cell 0,h1.cell 1,?_⟩,pG.out.below hb pG.out.lt⟩;rw[h2.cell j];exact Ew
   have q1:=(HK.out wr.drew (Cz (AS _ _))).1;have Dr:Hid (∀H,Below wr wr H->(∃v,H.cell? (g,off+j)=AE v)/\H.frozen? (g,off+j)=false/\DG (λb=>b=g) W (H.setCell (g,off+j) (.int .u64 (uw z:Nat)))/\Row (H.setCell (g,off+j) (.int .u64 (uw z:Nat))) s 223 [k,AJ g N cap]/\Row (H.setCell (g,off+j) (.int .u64 (uw z:Nat))) (s+1) 47 (DE t)/\Row (H.setCell (g,off+j) (.int .u64 (uw z:Nat))) g 120 ((splice ws off (WL.take (j+1))).map vw)/\((H.setCell (g,off+j) (.int .u64 (uw z:Nat))).cell? s=AE (AA AB k)/\(H.setCell (g,off+j) (.int .u64 (uw z:Nat))).cell? (s,1)=AE (AJ g N cap)/\(H.setCell (g,off+j) (.int .u64 (uw z:Nat))).cell? (s+1,j)=AE (AA AB z))):=λH hb=>by
    obtain⟨Gg,Gk⟩:=vH.out j z aa Js.out;have J:=(HK.out H hb).2;have qI:g≠s:=by have:=ad.out;omega
    have aE:g≠s+1:=by have:=ad.out;omega
    have O:=(pI.out.below hb pI.out.lt).Ey (p:=(g,off+j)) (λe=>qI e.symm) (.int .u64 (uw z:Nat));have xL:=(dQ.out.below hb dQ.out.lt).Ey (p:=(g,off+j)) (λe=>aE e.symm) (.int .u64 (uw z:Nat));refine⟨⟨_,by rw[J.cell (off+j)];exact AU Gk⟩,J.free _,?_,O,xL,?_,O.cell 0,O.cell 1,by rw[xL.cell j];exact Ew⟩
    ·exact(HF.out.trans (DG.DB hb (λ_=>False)) λ_ h=>h.elim).set (p:=(g,off+j)) (.inl rfl) _
    ·have:=J.set (off+j) (.int .u64 (uw z:Nat));rw[Gg]at this;exact this
   have UM:(0:Int)<=(j:Int):=a5;have nD:(j:Int)<(k:Int):=a5;have wk:(j:Int)<5:=a5;have aF:IntKind.u64.wrap z=((uw z:Nat):Int):=bQ z;clear Ew;generalize uw z=u at*
   go_wp2
   go_region_held3 (λw'=>w'.cell? s=AE (AA AB k)/\w'.cell? (s,1)=AE (AJ g N cap)/\w'.cell? (s+1,j)=AE (AA AB z)) (first|with_reducible exact q1|with_reducible exact q2|with_reducible exact q3)
    (first
     |(go_at_call 158;(with_reducible refine(Fz.out _).mono ?_);rintro e w5 ⟨rfl,FU⟩;have N4:Below wr.heap.size wr w5:=(Cz (AS _ _)).trans FU;have q2:=(HK.out w5 N4).1;obtain⟨⟨v9,ar⟩,av,xE,ae,al,ao,q3⟩:=Dr.out w5 N4))
   have H5:=AO (Bq xE (Bq ae (Bq al ao)));clear xE ae al ao q2 q3 q1 ar av N4 FU;go_wp2
   go_roundw
   case rel=>exact⟨j+1,a5,by go_num,H5.out.1,H5.out.2.1,H5.out.2.2.1,H5.out.2.2.2⟩
   case measure=>simp[BF];omega
  ·obtain rfl:j=k:=a5;have Q:=pG.out;rw[aw.out]at Q;have H9:=AO Q;clear Q;go_wp2
   go_end0
   exact⟨rfl,H9.out,HF.out⟩
theorem oV(o a b:Cv)(hf:Fm o)(w:World):Calls AP 186 #[AL #[a.a,a.b,a.c,a.d,a.e],AL #[b.a,b.b,b.c,b.d,b.e],AL #[o.a,o.b,o.c,o.d,o.e]] w λe w'=>e=AH (AA AB (DR o a b))/\Below w w w':=by
 obtain⟨W1,EB,DV,s1,r1,r2,r3⟩:=Vs w [a.a,a.b,a.c,a.d,a.e] [b.a,b.b,b.c,b.d,b.e] [o.a,o.b,o.c,o.d,o.e] 47 47 132;have E0:=AO EB;have Q:=AO DV;have HA:Hid (∀q i,i<5->(W1.drewN q).cell? (w,i)=AE (AA AB (DP a i))):=λq i hi=>O6 r1 hi;have ao:Hid (∀q i,i<5->(W1.drewN q).cell? ⟨w.heap.size+1,i,AD⟩=AE (AA AB (DP b i))):=λq i hi=>O6 r2 hi;obtain⟨d0,d1,d2,d3,d4⟩:=r3.q5;have aa:DR o a b=cmpL o.D8 a b:=by unfold DR;rw[if_pos hf]
 have pF:Hid (∀i,i<5->-5<=DP o i/\DP o i<=5):=λi hi=>(hf i hi).1;have av:Hid (∀i:Nat,i<5->∀W:World,(CR 132 (AL #[o.a,o.b,o.c,o.d,o.e]) i).run AP W=.ok (AA AB (DP o i)) W):=λi hi W=>M3 _ rfl o hi W;rw[aa];have Gv:Hid (cmpL (o.D8.drop 0) a b=cmpL o.D8 a b):=rfl;generalize cmpL o.D8 a b=res at*
 clear hf aa r1 r2 r3 DV s1 EB;go_enter func186,ntmps186
 go_upto_region 1 with(fail)
 rw[<-E0.out];clear E0;go_wp2_with fail
 go_loopw [11] (λiv wr=>∃i q:Nat,i<=5/\iv=AA AB (i:Int)/\W1.drewN q=wr/\Hid (cmpL (o.D8.drop i) a b=res)) (λiv _=>5-(BF iv).toNat)
 case atStart=>exact⟨0,0,a5,rfl,rfl,Gv.out⟩
 case round=>
  obtain⟨i,q,hi,rfl,rfl,HC⟩:=hrel;clear Gv;by_cases ad:i<5
  ·have g1:decide ((i:Int)<5)=true:=by simp;omega
   have i0:(0:Int)<=(i:Int):=a5;have i1:(i:Int)<5:=a5;obtain⟨z,hz⟩:=ae (DP o i);have al:Hid (-5<=z/\z<=5):=by rw[hz];exact pF.out i ad
   have Lz:Hid (cmpL (z::o.D8.drop (i+1)) a b=res):=by rw[hz,<-uZ ad];exact HC.out
   have aw:∀W:World,(CR 132 (AL #[o.a,o.b,o.c,o.d,o.e]) i).run AP W=.ok z W:=λW=>by rw[hz];exact av.out i ad W
   clear HC hz;by_cases O:z=0
   ·have gz:(z==0)=true:=by simpa using O
    have ar:decide (z=0)=true:=by simpa using O
    have I:res=0:=by rw[<-Lz.out,O,Ht]
    subst I;clear O;go_wp2
    go_ret
    exact⟨rfl,FJ Q.out _⟩
   ·have gz:(z==0)=false:=by simpa using O
    have ar:decide (z=0)=false:=by simpa using O
    have jV:=Zl O al.out;have HQ:Hid (∀q r,Calls AP 112 #[z] (W1.drewN (q+r)) λe Ej=>e=AH (Fb z:Nat)/\∃n,Ej=W1.drewN (q+n)):=λq r=>by
     have:=Vo z al.out (W1.drewN (q+r));rw[Vp O]at this;exact this.mono λ_ _ ⟨he,hw⟩=>⟨he,r,hw⟩
    obtain⟨x,hx⟩:=ae (DP a (Fb z));obtain⟨y,hy⟩:=ae (DP b (Fb z));have yx:∀q,(W1.drewN q).cell? ⟨w,Fb z,AD⟩=AE (AA AB x):=λq=>by rw[hx];exact HA.out q _ jV
    have yy:∀q,(W1.drewN q).cell? ⟨w+1,Fb z,AD⟩=AE (AA AB y):=λq=>by rw[hy];exact ao.out q _ jV
    have RN:Hid (x=y->cmpL (o.D8.drop (i+1)) a b=res):=λh=>by rw[<-Lz.out,KF O _ (by rw[<-hx,<-hy];exact h)]
    have KV:Hid (x<y->(if 0<z then (-1:Int)else 1)=res):=λh=>by rw[<-Lz.out,IS O _ (by rw[<-hx,<-hy];exact h)]
    have J:Hid (y<x->(if 0<z then (1:Int)else -1)=res):=λh=>by rw[<-Lz.out,IT O _ (by rw[<-hx,<-hy];exact h)]
    have U:Hid (∀v,S3 x y=v->∀q r,Calls AP 187 #[x,y] (W1.drewN (q+r)) λe Ej=>e=AH v/\∃n,Ej=W1.drewN (q+n)):=λv hv q r=>by
     have:=mQ x y (W1.drewN (q+r));rw[hv]at this;exact this.mono λ_ _ ⟨he,hw⟩=>⟨he,r,hw⟩
    have k0:(0:Int)<=((Fb z:Nat):Int):=a5;have k1:((Fb z:Nat):Int)<5:=a5;have ab:0<z\/z<0:=a5;generalize Fb z=c at*
    clear hx hy O Lz HA ao;rcases Ck x y with h|h|h
    ·have H:=AO (U.out (-1) (by unfold S3;rw[if_pos h]));have I:=KV.out h;rcases ab with hp|hp
     ·rw[if_pos hp]at I;have gp:decide (z<0)=false:=by simp;omega
      subst I;clear h hp KV J RN U;go_wp2
      go_quiet ((with_reducible first|exact HQ.out _ _|exact H.out _ _))
      go_wp2
      go_ret
      exact⟨rfl,by first|exact FJ Q.out _|exact FJ (FJ Q.out _) _⟩
     ·rw[if_neg a5]at I;have gp:decide (z<0)=true:=by simpa using hp
      subst I;clear h hp KV J RN U;go_wp2
      go_quiet ((with_reducible first|exact HQ.out _ _|exact H.out _ _))
      go_wp2
      go_ret
      exact⟨rfl,by first|exact FJ Q.out _|exact FJ (FJ Q.out _) _⟩
    ·have H:=AO (U.out 0 (by unfold S3;rw[if_neg a5,if_pos h]));have HN:=AO (RN.out h);clear h KV J RN U ab;go_wp2
     go_quiet ((with_reducible first|exact HQ.out _ _|exact H.out _ _))
     go_wp2
     go_roundw
     case rel=>exact⟨i+1,_,a5,by go_num,rfl,HN.out⟩
     case measure=>simp[BF];omega
    ·have H:=AO (U.out 1 (by unfold S3;rw[if_neg a5,if_neg a5]));have I:=J.out h;rcases ab with hp|hp
     ·rw[if_pos hp]at I;have gp:decide (z<0)=false:=by simp;omega
      subst I;clear h hp KV J RN U;go_wp2
      go_quiet ((with_reducible first|exact HQ.out _ _|exact H.out _ _))
      go_wp2
      go_ret
      exact⟨rfl,by first|exact FJ Q.out _|exact FJ (FJ Q.out _) _⟩
     ·rw[if_neg a5]at I;have gp:decide (z<0)=true:=by simpa using hp
      subst I;clear h hp KV J RN U;go_wp2
      go_quiet ((with_reducible first|exact HQ.out _ _|exact H.out _ _))
      go_wp2
      go_ret
      exact⟨rfl,by first|exact FJ Q.out _|exact FJ (FJ Q.out _) _⟩
  ·obtain rfl:i=5:=a5;have I:res=0:=by rw[<-HC.out,oL];rfl
   subst I;clear HC;go_wp2
   go_ret
   exact⟨rfl,FJ Q.out _⟩
theorem RI(o a b:Cv)(w:World):Calls AP 185 #[AL #[a.a,a.b,a.c,a.d,a.e],AL #[b.a,b.b,b.c,b.d,b.e],AL #[o.a,o.b,o.c,o.d,o.e]] w λe w'=>e=AH (AA AB (DR o a b))/\Below w w w':=by
 obtain⟨W1,EB,DV,U,r1,r2,I⟩:=Vs w [a.a,a.b,a.c,a.d,a.e] [b.a,b.b,b.c,b.d,b.e] [o.a,o.b,o.c,o.d,o.e] 47 47 132;have Q:=AO EB;have HB:=AO DV;have PF:=AO U;have Ja:=AO r1;have Qf:=AO r2;have Gb:=AO I;obtain⟨d0,d1,d2,d3,d4⟩:=I.q5;have J:=AO (LW o);by_cases hf:Fm o
 ·have aa:=AO (oV o a b hf);rw[decide_eq_true hf]at J;generalize DR o a b=res at*
  clear hf r1 r2 I DV U EB;go_enter func185,ntmps185
  go_upto_region 1 with(fail)
  rw[<-Q.out];clear Q;go_wp2_with fail
  refine(J.out _).mono ?_;rintro e w2 ⟨rfl,hb⟩;have D9:Below (w+3) W1 w2:=hb.mono (Nat.le_of_eq PF.out.symm);have O:Hid (Below w w w2):=HB.out.trans (hb.mono (by have:=PF.out;omega));have ER:=Ja.out.below D9 a5;have EA:=Qf.out.below D9 a5;have FK:=Gb.out.below D9 a5;obtain⟨q0,q1,q2,q3,q4⟩:=ER.q5;obtain⟨p0,p1,p2,p3,p4⟩:=EA.q5;obtain⟨e0,e1,e2,e3,e4⟩:=FK.q5;have Ly:Hid (w.heap.size<=w2.heap.size):=O.out.size;clear hb D9 ER EA FK Ja Qf Gb d0 d1 d2 d3 d4;go_wp2_with fail
  refine(aa.out _).mono ?_;rintro e w3 ⟨rfl,hb⟩;have Ei:Hid (Below w w w3):=O.out.trans (hb.mono Ly.out);clear hb;go_wp2
  go_ret
  exact⟨rfl,Ei.out⟩
 ·have H:DR o a b=0:=by unfold DR;rw[if_neg hf]
  rw[decide_eq_false hf]at J;rw[H];clear hf H r1 r2 I DV U EB;go_enter func185,ntmps185
  go_upto_region 1 with(fail)
  rw[<-Q.out];clear Q;go_wp2_with fail
  refine(J.out _).mono ?_;rintro e w2 ⟨rfl,hb⟩;have O:Hid (Below w w w2):=HB.out.trans (hb.mono (by have:=PF.out;omega));clear hb;go_wp2
  go_ret
  exact⟨rfl,O.out⟩
instance srtDec (o : Cv) (l : List Cv) : Decidable (Srt o l) := decidable_of_iff (∀ i, i < l.length - 1 -> DR o (l.getD i Cu) (l.getD (i + 1) Cu) <= 0) ⟨λh i hi => h i a5, λh i hi => h i a5⟩
theorem TG{B a w}(h:Below B a w){g}(e:B<=g)(j:Nat)(Q O J I H:Value):Below B a (((((w.setCell (g,j) Q).setCell (g,j+1) O).setCell (g,j+2) J).setCell (g,j+3) I).setCell (g,j+4) H):=
 ((((h.setCell (p:=(g,j)) e Q).setCell (p:=(g,j+1)) e O).setCell (p:=(g,j+2)) e J).setCell (p:=(g,j+3)) e I).setCell (p:=(g,j+4)) e H
theorem fM{w:World}{b b' e z n v xs}(h:w.ownsRow b e z v n xs)(hb:b'<=b):w.ownsRow b' e z v n xs:=by
 obtain⟨O,H⟩:=h;refine⟨O,?_⟩;rcases H with H|⟨g,cap,cur,I,J,r⟩
 ·exact .inl H
 ·exact .inr ⟨g,cap,cur,I,Af hb J,r⟩
theorem AD8{w:World}{base g n cap:Nat}{l}(h:w.ownsRow base 47 5 (AJ g n cap) n (EK l)){i}(hi:i<l.length){j}{u}(hu:(DE (l.getD i Cu))[j]?=AE u):w.cell? (g,i*5+j)=AE u:=by
 have e:n=l.length:=by have:=h.1;rw[Kw]at this;omega
 have H:j<5:=(BM.1 hu).1;exact(World.ownsRow.cellAt h (i*5+j) (by rw[e];omega)).trans (Si l i hi j u hu)
def Jf(k g N cap:Nat)(o:Cv)(told:Nat):List Value:=[k,AJ g N cap,o.a,o.b,o.c,o.d,o.e,told]
structure Ib (W:World) (r k g N cap q:Nat) (o:Cv) (told:Nat) (ws:List Nat) (l:List Cv):Prop where
 row:Row W r 225 (Jf k g N cap o told)
 words:Row W g 120 (ws.map vw)
 kk:0<k/\k<=5
 nn:N=q*k/\N<=cap/\cap<=1000000/\ws.length=cap/\q<=1000000
 len:l.length=q
 tol:told<=q
 flat:ws.take N=EL k l
 fit:∀u∈l,EE u/\Dc k u=true
section
variable{W W':World}{r k g N cap q told:Nat}{o:Cv}{ws:List Nat}{l:List Cv}
theorem Ib.below(h:Ib W r k g N cap q o told ws l)(hb:Below W W W'):Ib W' r k g N cap q o told ws l:=
 ⟨h.row.below hb h.row.lt,h.words.below hb h.words.lt,h.kk,h.nn,h.len,h.tol,h.flat,h.fit⟩
theorem Ox{k N q}{ws:List Nat}{l}(I:k<=5)(O:N=q*k)(H:l.length=q)(hf:ws.take N=EL k l){i}{t}(e:l[i]?=AE t):i*k+k<=N/\(ws.drop (i*k)).take k=DW k t:=by
 have hi:i<q:=by rw[<-H];exact(BM.1 e).1
 have J:(i+1)*k<=q*k:=Ae _ hi;rw[A6,BD]at J;refine⟨a5,?_⟩;rw[<-Xy I e,<-hf,List.drop_take,B7,Bh a5]
theorem getD_some{l:List Cv}{i}(h:i<l.length):l[i]?=AE (l.getD i Cu):=by rw[AT,AU h];rfl
theorem Ib.get(h:Ib W r k g N cap q o told ws l){i}(hi:i<q):Calls AP 192 #[AL #[k,AJ g N cap],i] W λe w'=>e=AH (AL #[AA AB (l.getD i Cu).a,AA AB (l.getD i Cu).b,AA AB (l.getD i Cu).c,AA AB (l.getD i Cu).d,AA AB (l.getD i Cu).e])/\Below W W w':=by
 have H:=getD_some (l:=l) (i:=i) (by rw[h.len];exact hi);obtain⟨J,I⟩:=Ox h.kk.2 h.nn.1 h.len h.flat H;have hf:=h.fit _ (Ak H);exact cX h.words h.kk J h.nn.2.1 h.nn.2.2.1 (by rw[h.nn.2.2.2.1];exact h.nn.2.1) I hf.1 hf.2
theorem Ru(H:Row W r 225 (Jf k g N cap o told))(J:0<k)(I:N=q*k)(Q:q<=1000000):Calls AP 153 #[AI r] W λe w'=>e=AH q/\∃d,w'=W.drewN d:=by
 obtain⟨c0,U⟩:=H.q2;have hd:Int.tdiv (N:Int) (k:Int)=(q:Int):=by
  have O:N/k=q:=by rw[I];exact Nat.mul_div_cancel _ J
  rw[<-O];rfl
 have WJ:¬((k:Int)=0):=a5;clear H I;go_enter func153,ntmps153
 go_wp2
 go_region
 go_wp2
 go_ret
 exact⟨rfl,1,rfl⟩
theorem Wx(h:Ib W r k g N cap q o told ws l):Calls AP 153 #[AI r] W λe w'=>e=AH q/\∃d,w'=W.drewN d:=Ru h.row h.kk.1 h.nn.1 h.nn.2.2.2.2
theorem ez(h:Ib W r k g N cap q o told ws l){i j}(hi:i<q)(hj:j<q):Calls AP 189 #[AI r,i,j] W λe w'=>e=AH (.bool (decide (DR o (l.getD i Cu) (l.getD j Cu)<0)))/\Below W W w':=by
 have Q1:Hid (∀d os,Calls AP 192 #[AL #[k,AJ g N cap],i] (Ai (redrawn W d) os) λe H=>e=AH (AL #[AA AB (l.getD i Cu).a,AA AB (l.getD i Cu).b,AA AB (l.getD i Cu).c,AA AB (l.getD i Cu).d,AA AB (l.getD i Cu).e])/\∃p:Cq,H=Ai (redrawn W p.d) p.os):=λd os=>BU ((h.below (Bj W d os)).get hi);have Q2:Hid (∀d os,Calls AP 192 #[AL #[k,AJ g N cap],j] (Ai (redrawn W d) os) λe H=>e=AH (AL #[AA AB (l.getD j Cu).a,AA AB (l.getD j Cu).b,AA AB (l.getD j Cu).c,AA AB (l.getD j Cu).d,AA AB (l.getD j Cu).e])/\∃p:Cq,H=Ai (redrawn W p.d) p.os):=λd os=>BU ((h.below (Bj W d os)).get hj);have U:Hid (∀d os,Calls AP 185 #[AL #[AA AB (l.getD i Cu).a,AA AB (l.getD i Cu).b,AA AB (l.getD i Cu).c,AA AB (l.getD i Cu).d,AA AB (l.getD i Cu).e],AL #[AA AB (l.getD j Cu).a,AA AB (l.getD j Cu).b,AA AB (l.getD j Cu).c,AA AB (l.getD j Cu).d,AA AB (l.getD j Cu).e],AL #[o.a,o.b,o.c,o.d,o.e]] (Ai (redrawn W d) os) λe H=>e=AH (AA AB (DR o (l.getD i Cu) (l.getD j Cu)))/\∃p:Cq,H=Ai (redrawn W p.d) p.os):=λd os=>BU (RI o _ _ _);have k0:∀d os,(Ai (redrawn W d) os).cell? r=AE (AA AB k):=Ab (h.row.cell 0);have k1:∀d os,(Ai (redrawn W d) os).cell? (r,1)=AE (AJ g N cap):=Ab (h.row.cell 1);have k2:∀d os,(Ai (redrawn W d) os).cell? (r,2)=AE (AA AB o.a):=Ab (h.row.cell 2);have k3:∀d os,(Ai (redrawn W d) os).cell? (r,3)=AE (AA AB o.b):=Ab (h.row.cell 3);have k4:∀d os,(Ai (redrawn W d) os).cell? (r,4)=AE (AA AB o.c):=Ab (h.row.cell 4);have k5:∀d os,(Ai (redrawn W d) os).cell? (r,5)=AE (AA AB o.d):=Ab (h.row.cell 5);have k6:∀d os,(Ai (redrawn W d) os).cell? (r,6)=AE (AA AB o.e):=Ab (h.row.cell 6);generalize l.getD i Cu=Q at*
 generalize l.getD j Cu=O at*
 generalize DR o Q O=res at*
 obtain⟨ia,ib,ic,id,ie⟩:=Q;obtain⟨ja,jb,jc,jd,je⟩:=O;obtain⟨oa,ob,oc,od,oe⟩:=o;simp only at*
 clear h;go_enter func189,ntmps189
 go_wp2
 refine Bb a7 a7 ?_
 repeat(any_goals(first|go_big_quiet_step (with_reducible first|exact Q1.out _ _|exact Q2.out _ _|exact U.out _ _)|quiet_step (with_reducible first|exact Q1.out _ _|exact Q2.out _ _|exact U.out _ _)))
 refine CV ?_;intro w5 I;obtain⟨⟨dq,osq⟩,I⟩:=I;have J:=Bj W dq osq;rw[<-I]at J;have HB:=AO J;clear I J;go_wp2
 go_ret
 exact⟨rfl,HB.out⟩
theorem ey(h:Ib W r k g N cap q o q ws l):Calls AP 190 #[AI r] W λe w'=>e=AH (AM #[AL #[(),(),(),(),()],false,()])/\Below W W w':=by
 obtain⟨W1,J⟩:=ae (W.alloc (AK #[(),(),(),(),()] 47));have DV:Below W W W1:=by rw[J];exact(AS _ _).alloc ao _
 have ER:Row W1 W 47 [(),(),(),(),()]:=by rw[J];exact heap_alloc_new _ _
 have E0:=AO J;have OM:=AO DV;have Ja:=AO ER;have O:=h.below DV;have HL:Hid (∀p,Calls AP 153 #[AI r] (W1.drewN p) λe w'=>e=AH q/\∃d,w'=W1.drewN d):=λp=>(Wx (O.below (Cy (AS _ _) p))).mono λe w' ⟨he,d,hw⟩=>⟨he,p+d,by rw[hw,World.drewN_drewN]⟩;have c7:W1.cell? (r,7)=AE (AA AB q):=O.row.cell 7;clear h O DV ER J;go_enter func190,ntmps190
 go_upto_region 1 with(fail)
 rw[<-E0.out];clear E0;go_quiet (with_reducible exact HL.out _)
 have I:Row (W1.drewN nq) W 47 [(),(),(),(),()]:=Ja.out.drewN nq;have Qi:Hid (Below W W (W1.drewN nq)):=Cy OM.out nq;clear c7 HL OM Ja;generalize W1.drewN nq=W4 at*
 generalize hS:W.heap.size=s at*
 obtain⟨z0,z1,z2,z3,z4⟩:=I.q5;obtain⟨f0,f1,f2,f3,f4⟩:=I.r5;have H:=AO (((((I.set 0 ()).set 1 ()).set 2 ()).set 3 ()).set 4 ());have bK:=AO (TG Qi.out (AQ s) 0 () () () () ());clear I;go_wp2
 have q0:=H.out.cell 0;have q1:=H.out.cell 1;have q2:=H.out.cell 2;have U:=H.out.cell 3;have Q:=H.out.cell 4;simp only[AW,AV,List.set_cons_zero,Bz]at q0 q1 q2 U Q;refine Aw (v:=AM #[AL #[(),(),(),(),()],false,()]) (by simp[results,Tryz.results190,go_sem,q0,q1,q2,U,Q]) rfl ⟨rfl,by rw[hS];exact bK.out⟩
theorem lH(h:Ib W r k g N cap q o told ws l)(ht:told<q)(gH:r≠g):Calls AP 190 #[AI r] W λe w'=>e=AH (AM #[AL #[AA AB (l.getD told Cu).a,AA AB (l.getD told Cu).b,AA AB (l.getD told Cu).c,AA AB (l.getD told Cu).d,AA AB (l.getD told Cu).e],true,()])/\Ib w' r k g N cap q o (told+1) ws l/\DG (λb=>b=r) W w':=by
 obtain⟨W1,EB⟩:=ae (W.alloc (AK #[AA AB 0,AA AB 0,AA AB 0,AA AB 0,AA AB 0] 47));have DV:Below W.heap.size W W1:=by rw[EB];exact(AS _ _).alloc ao _
 have ER:Row W1 W.heap.size 47 [AA AB 0,AA AB 0,AA AB 0,AA AB 0,AA AB 0]:=by rw[EB];exact heap_alloc_new _ _
 have E0:=AO EB;have OM:=AO DV;have Ja:=AO ER;have h1:=h.below DV;have al:=AO h1;have KV:Hid (r<W.heap.size/\g<W.heap.size):=⟨h.row.lt,h.words.lt⟩;have HL:Hid (∀p,Calls AP 153 #[AI (AE ⟨r,0,AD⟩)] (W1.drewN p) λe w'=>e=AH (AA AB q)/\∃d,w'=W1.drewN d):=λp=>(Wx (h1.below (Cy (AS _ _) p))).mono λe w' ⟨he,d,hw⟩=>⟨he,p+d,by rw[hw,World.drewN_drewN]⟩;have c7:W1.cell? ⟨r,7,AD⟩=AE (AA AB told):=h1.row.cell 7;have g1:((told:Int)==(q:Int))=false:=by simp;omega
 have hq:told<1000000:=by have:=h.nn.2.2.2.2;omega
 have ad:=AO ht;have pG:=AO gH;clear h h1 DV ER EB ht gH;go_enter func190,ntmps190
 go_upto_region 1 with(fail)
 rw[<-E0.out];clear E0;go_quiet (with_reducible exact HL.out _)
 have QC:Hid (Row (W1.drewN nq) W.heap.size 47 [AA AB 0,AA AB 0,AA AB 0,AA AB 0,AA AB 0]):=Ja.out.drewN nq;have Qi:Hid (Below W.heap.size W (W1.drewN nq)):=Cy OM.out nq;have H4:Hid (Ib (W1.drewN nq) r k g N cap q o told ws l):=al.out.below (Cy (AS _ _) nq);clear c7 HL OM Ja al;generalize W1.drewN nq=H at*
 generalize hS:W.heap.size=s at*
 have ab:Hid (∀J,Below H.heap.size H J->Calls AP 192 #[AL #[AA AB k,AJ (AE ⟨g,0,AD⟩) N cap],AA AB told] J λe w'=>e=AH (AL #[AA AB (l.getD told Cu).a,AA AB (l.getD told Cu).b,AA AB (l.getD told Cu).c,AA AB (l.getD told Cu).d,AA AB (l.getD told Cu).e])/\Below J.heap.size J w'):=λJ hb=>(H4.out.below hb).get ad.out;have HK:Hid (∀J,Below H.heap.size H J->J.cell? ⟨r,0,AD⟩=AE (AA AB k)/\J.cell? ⟨r,1,AD⟩=AE (AJ (AE ⟨g,0,AD⟩) N cap)/\J.cell? ⟨r,7,AD⟩=AE (AA AB told)):=λJ hb=>⟨(H4.out.row.below hb H4.out.row.lt).cell 0,(H4.out.row.below hb H4.out.row.lt).cell 1,(H4.out.row.below hb H4.out.row.lt).cell 7⟩;have q1:=HK.out H.drew (Cz (AS _ _));have c7:H.cell? ⟨r,7,AD⟩=AE (AA AB told):=H4.out.row.cell 7;generalize hT:l.getD told Cu=t at*
 replace hT:=AO hT;obtain⟨ta,tb,U,Q,O⟩:=t;simp only at*
 have Ye:Below H.heap.size H (H.alloc (AK #[AA AB 0,AA AB 0,AA AB 0,AA AB 0,AA AB 0] 47)):=(AS _ _).alloc ao _;have q5:=HK.out (H.alloc (AK #[AA AB 0,AA AB 0,AA AB 0,AA AB 0,AA AB 0] 47)) Ye;have q6:=HK.out (H.alloc (AK #[AA AB 0,AA AB 0,AA AB 0,AA AB 0,AA AB 0] 47)).drew (Cz Ye);have HZ:Hid (∀J,Below (H.alloc (AK #[AA AB 0,AA AB 0,AA AB 0,AA AB 0,AA AB 0] 47)).heap.size (H.alloc (AK #[AA AB 0,AA AB 0,AA AB 0,AA AB 0,AA AB 0] 47)) J->Row J H.heap.size 47 [AA AB 0,AA AB 0,AA AB 0,AA AB 0,AA AB 0]):=λJ hb=>(show Row (H.alloc (AK #[AA AB 0,AA AB 0,AA AB 0,AA AB 0,AA AB 0] 47)) H.heap.size 47 [AA AB 0,AA AB 0,AA AB 0,AA AB 0,AA AB 0]from heap_alloc_new _ _).below hb a8;go_upto_region 3 with(fail)
 go_cut [5]from 14 to 22 (λs5 wx=>∃b:Nat,s5=AI (AE ⟨b,0,AD⟩)/\H.heap.size<=b/\Hid (Row wx b 47 [AA AB ta,AA AB tb,AA AB U,AA AB Q,AA AB O])/\Hid (Below H.heap.size H wx))
 case first=>
  go_region_held3 (λw'=>w'.cell? ⟨r,0,AD⟩=AE (AA AB k)/\w'.cell? ⟨r,1,AD⟩=AE (AJ (AE ⟨g,0,AD⟩) N cap)/\w'.cell? ⟨r,7,AD⟩=AE (AA AB told)) (first|with_reducible exact q1|with_reducible exact q5|with_reducible exact q6|with_reducible exact q2|with_reducible exact q3|with_reducible exact q4)
   (first
    |(go_at_call 192;(with_reducible refine(ab.out _ (Cz (AS _ _))).mono ?_);rintro e I ⟨rfl,FU⟩;have N4:Below H.heap.size H I:=(Cz (AS _ _)).trans FU;have q2:=HK.out I N4;have q4:=HK.out (I.alloc (AK #[AA AB 0,AA AB 0,AA AB 0,AA AB 0,AA AB 0] 47)) (N4.alloc N4.size _);have q3:=HK.out (I.alloc (AK #[AA AB ta,AA AB tb,AA AB U,AA AB Q,AA AB O] 47)) (N4.alloc N4.size _);have IP:Hid (H.heap.size<=I.heap.size/\Row (I.alloc (AK #[AA AB ta,AA AB tb,AA AB U,AA AB Q,AA AB O] 47)) I.heap.size 47 [AA AB ta,AA AB tb,AA AB U,AA AB Q,AA AB O]/\Below H.heap.size H (I.alloc (AK #[AA AB ta,AA AB tb,AA AB U,AA AB Q,AA AB O] 47))):=⟨N4.size,heap_alloc_new _ _,N4.alloc N4.size _⟩)
    |(go_at_call 192;(with_reducible refine(ab.out _ (Cz Ye)).mono ?_);rintro e I ⟨rfl,FU⟩;have av:Below (H.alloc (AK #[AA AB 0,AA AB 0,AA AB 0,AA AB 0,AA AB 0] 47)).heap.size (H.alloc (AK #[AA AB 0,AA AB 0,AA AB 0,AA AB 0,AA AB 0] 47)) I:=(Cz (AS _ _)).trans FU;have N4:Below H.heap.size H I:=Ye.trans (av.mono Ye.size);have q2:=HK.out I N4;have mU:=HZ.out I av;have z0:=mU.cell 0;have z1:=mU.cell 1;have z2:=mU.cell 2;have z3:=mU.cell 3;have z4:=mU.cell 4;simp only[AW,AV]at z0 z1 z2 z3 z4;have f0:=mU.free 0;have f1:=mU.free 1;have f2:=mU.free 2;have f3:=mU.free 3;have f4:=mU.free 4;have q4:=q2;have xF:=TG N4 (AQ H.heap.size) 0 (AA AB ta) (AA AB tb) (AA AB U) (AA AB Q) (AA AB O);have q3:=HK.out (((((I.setCell ⟨H.heap.size,0,AD⟩ (AA AB ta)).setCell ⟨H.heap.size,1,AD⟩ (AA AB tb)).setCell ⟨H.heap.size,2,AD⟩ (AA AB U)).setCell ⟨H.heap.size,3,AD⟩ (AA AB Q)).setCell ⟨H.heap.size,4,AD⟩ (AA AB O)) xF;have IP:Hid (H.heap.size<=H.heap.size/\Row (((((I.setCell ⟨H.heap.size,0,AD⟩ (AA AB ta)).setCell ⟨H.heap.size,1,AD⟩ (AA AB tb)).setCell ⟨H.heap.size,2,AD⟩ (AA AB U)).setCell ⟨H.heap.size,3,AD⟩ (AA AB Q)).setCell ⟨H.heap.size,4,AD⟩ (AA AB O)) H.heap.size 47 [AA AB ta,AA AB tb,AA AB U,AA AB Q,AA AB O]/\Below H.heap.size H (((((I.setCell ⟨H.heap.size,0,AD⟩ (AA AB ta)).setCell ⟨H.heap.size,1,AD⟩ (AA AB tb)).setCell ⟨H.heap.size,2,AD⟩ (AA AB U)).setCell ⟨H.heap.size,3,AD⟩ (AA AB Q)).setCell ⟨H.heap.size,4,AD⟩ (AA AB O))):=⟨AQ _,((((mU.set 0 (AA AB ta)).set 1 (AA AB tb)).set 2 (AA AB U)).set 3 (AA AB Q)).set 4 (AA AB O),xF⟩))
  all_goals(go_wp2_with fail;go_meet;exact⟨_,rfl,IP.out.1,IP.out.2.1,IP.out.2.2⟩)
 case rest=>
  obtain⟨b,rfl,aD,aA,aa⟩:=hcut;clear q1 q5 q6 Ye HZ ab HK c7 g1;have h6:=H4.out.below aa.out;have aE:=KV.out;have Xc:s<=H.heap.size:=by rw[<-hS];exact Qi.out.size
  have aC:s<H.heap.size:=QC.out.lt;have aw:b≠r:=a5;have gG:s≠r:=a5;have PS:g≠r:=λe=>pG.out e.symm;have c7:wc.cell? ⟨r,7,AD⟩=AE (AA AB told):=h6.row.cell 7;have f7:=h6.row.free 7;have nS:(Jf k g N cap o told).set 7 (AA AB ((told:Int)+1))=Jf k g N cap o (told+1):=rfl;have JE:=h6.row.set 7 (AA AB ((told:Int)+1));rw[nS]at JE;have H6:Hid (Ib (wc.setCell ⟨r,7,AD⟩ (AA AB ((told:Int)+1))) r k g N cap q o (told+1) ws l):=⟨JE,h6.words.Ey (p:=⟨r,7,AD⟩) PS _,h6.kk,h6.nn,h6.len,by have:=ad.out;omega,h6.flat,h6.fit⟩;have ar:=AO (aA.out.Ey (p:=⟨r,7,AD⟩) aw (AA AB ((told:Int)+1)));have vJ:=AO ((QC.out.below aa.out aC).Ey (p:=⟨r,7,AD⟩) gG (AA AB ((told:Int)+1)));have vZ:Hid (DG (λb=>b=r) W (wc.setCell ⟨r,7,AD⟩ (AA AB ((told:Int)+1)))):=by
   have h0:DG (λb=>b=r) W wc:=DG.DB (by rw[hS];exact Qi.out.trans (aa.out.mono Xc)) _;exact h0.set (p:=⟨r,7,AD⟩) (.inl rfl) _
  clear h6 JE nS;go_upto_region 5 with(fail)
  generalize wc.setCell ⟨r,7,AD⟩ (AA AB ((told:Int)+1))=W6 at*
  obtain⟨d0,d1,d2,d3,d4⟩:=ar.out.q5;obtain⟨z0,z1,z2,z3,z4⟩:=vJ.out.q5;obtain⟨f0,f1,f2,f3,f4⟩:=vJ.out.r5;have ES:=AO (((((vJ.out.set 0 (AA AB ta)).set 1 (AA AB tb)).set 2 (AA AB U)).set 3 (AA AB Q)).set 4 (AA AB O));have aB:Hid (Ib (((((W6.setCell ⟨s,0,AD⟩ (AA AB ta)).setCell ⟨s,1,AD⟩ (AA AB tb)).setCell ⟨s,2,AD⟩ (AA AB U)).setCell ⟨s,3,AD⟩ (AA AB Q)).setCell ⟨s,4,AD⟩ (AA AB O)) r k g N cap q o (told+1) ws l):=by
   have e1:r≠s:=λe=>gG e.symm;have e2:g≠s:=a5;have h:=H6.out;exact⟨((((h.row.Ey (p:=⟨s,0,AD⟩) e1 _).Ey (p:=⟨s,1,AD⟩) e1 _).Ey (p:=⟨s,2,AD⟩) e1 _).Ey (p:=⟨s,3,AD⟩) e1 _).Ey (p:=⟨s,4,AD⟩) e1 _,((((h.words.Ey (p:=⟨s,0,AD⟩) e2 _).Ey (p:=⟨s,1,AD⟩) e2 _).Ey (p:=⟨s,2,AD⟩) e2 _).Ey (p:=⟨s,3,AD⟩) e2 _).Ey (p:=⟨s,4,AD⟩) e2 _,h.kk,h.nn,h.len,h.tol,h.flat,h.fit⟩
  have ji:Hid (DG (λb=>b=r) W (((((W6.setCell ⟨s,0,AD⟩ (AA AB ta)).setCell ⟨s,1,AD⟩ (AA AB tb)).setCell ⟨s,2,AD⟩ (AA AB U)).setCell ⟨s,3,AD⟩ (AA AB Q)).setCell ⟨s,4,AD⟩ (AA AB O))):=by
   have hn:∀j,(λb=>b=r) (⟨s,j,AD⟩:Addr).block\/W.heap.size<=(⟨s,j,AD⟩:Addr).block:=λj=>.inr (by rw[hS];exact AQ _);exact((((vZ.out.set (hn 0) _).set (hn 1) _).set (hn 2) _).set (hn 3) _).set (hn 4) _
  clear ar vJ;go_wp2
  have q0:=ES.out.cell 0;have q1:=ES.out.cell 1;have q2:=ES.out.cell 2;have q3:=ES.out.cell 3;have q4:=ES.out.cell 4;simp only[AW,AV,List.set_cons_zero,Bz]at q0 q1 q2 q3 q4;refine Aw (v:=AM #[AL #[AA AB ta,AA AB tb,AA AB U,AA AB Q,AA AB O],.bool true,AA AB 0]) (by simp[results,Tryz.results190,go_sem,q0,q1,q2,q3,q4]) rfl ⟨by rw[hT.out],aB.out,ji.out⟩
end
theorem K5{o a b c}(h:DR o a b<0)(k:DR o b c<=0):DR o a c<0:=by
 rcases Int.lt_or_le (DR o a c) 0 with e|e
 ·exact e
 ·have H:DR o c a<=0:=by rw[Dv];omega
  have h3:=FQ k H;rw[Dv]at h3;omega
theorem M8{o a b c}(h:DR o a b<=0)(k:DR o b c<0):DR o a c<0:=by
 rcases Int.lt_or_le (DR o a c) 0 with e|e
 ·exact e
 ·have H:DR o c a<=0:=by rw[Dv];omega
  have h3:=FQ H h;rw[Dv]at h3;omega
theorem Me{o a b c}(h:DR o a b=0)(k:DR o a c=0):DR o b c=0:=by
 have H:DR o b a<=0:=by rw[Dv];omega
 have e:DR o c a<=0:=by rw[Dv];omega
 have h3:=FQ H (show DR o a c<=0 by omega);have h4:=FQ e (show DR o a b<=0 by omega);have h5:=Dv o b c;omega
def Ky(o t x:Cv):Bool:=decide (DR o t x=0)
theorem Mc(o t:Cv):Ky o t t=true:=by simp[Ky,P5]
theorem iN{o t u}(h:DR o t u=0)(x:Cv):Ky o t x=Ky o u x:=by
 unfold Ky;have h':DR o u t=0:=by rw[Dv];omega
 by_cases e:DR o t x=0
 ·rw[decide_eq_true e,decide_eq_true (Me h e)]
 ·rw[decide_eq_false e,decide_eq_false λH=>e (Me h' H)]
def Cl(o:Cv)(l m:List Cv):Prop:=∀t,l.filter (Ky o t)=m.filter (Ky o t)
section
variable{o:Cv}{l m q a b c d:List Cv}{t x y:Cv}
theorem Cl.refl(o:Cv)(l:List Cv):Cl o l l:=λ_=>rfl
theorem Cl.symm(h:Cl o l m):Cl o m l:=λt=>(h t).symm
theorem Cl.trans(h:Cl o l m)(k:Cl o m q):Cl o l q:=λt=>(h t).trans (k t)
theorem Cl.append(h:Cl o a b)(k:Cl o c d):Cl o (a++c) (b++d):=λt=>by rw[Ba,Ba,h t,k t]
theorem Cl.left(h:Cl o (a++l) (a++m)):Cl o l m:=λt=>by
 have:=h t;rw[Ba,Ba]at this;exact List.append_cancel_left this
theorem Cl.right(h:Cl o (l++a) (m++a)):Cl o l m:=λt=>by
 have:=h t;rw[Ba,Ba]at this;exact List.append_cancel_right this
theorem Cl.mem(h:Cl o l m)(H:x∈l):x∈m:=by
 have e:x∈l.filter (Ky o x):=B4.2 ⟨H,Mc o x⟩;rw[h x]at e;exact(B4.1 e).1
theorem Cl.perm(h:Cl o l m):l.Perm m:=List.perm_iff_count.2 λz=>by
 rw[<-List.count_filter (l:=l) (Mc o z),h z,List.count_filter (Mc o z)]
theorem Cl.len(h:Cl o l m):l.length=m.length:=h.perm.length_eq
theorem Cl.swap(h:∀u∈a,∀v∈b,DR o v u≠0):Cl o (a++b) (b++a):=λt=>by
 rw[Ba,Ba];by_cases e:a.filter (Ky o t)=[]
 ·rw[e,BI,AZ]
 ·have hb:b.filter (Ky o t)=[]:=by
   obtain⟨u,hu⟩:=List.exists_mem_of_ne_nil _ e;obtain⟨H,O⟩:=B4.1 hu;refine List.filter_eq_nil_iff.2 λv J I=>h u H v J (Me (o:=o) (a:=t) ?_ ?_)
   ·simpa [Ky]using I
   ·simpa [Ky]using O
  rw[hb,BI,AZ]
end
def NC(o:Cv)(l:List Cv):Prop:=l.Pairwise λa b=>DR o a b<=0
def Es(o:Cv)(l:List Cv)(a b:Nat):Prop:=∀i,a<=i->i+1<b->DR o (l.getD i Cu) (l.getD (i+1) Cu)<=0
theorem Es.add{o l a b}(h:Es o l a b):∀(d i:Nat),a<=i->i+d<b->DR o (l.getD i Cu) (l.getD (i+d) Cu)<=0
 |0,i,_,_=>by rw[Nat.add_zero,P5];exact Int.le_refl _
 |d+1,i,h1,h2=>FQ (h.add d i h1 a5) (h (i+d) a5 h2)
theorem Es.le{o l a b i j}(h:Es o l a b)(e:a<=i)(H:i<=j)(h3:j<b):DR o (l.getD i Cu) (l.getD j Cu)<=0:=by
 have:=h.add (j-i) i e a5;rwa [show i+(j-i)=j by omega]at this
theorem He{l:List Cv}{i}(h:i<l.length):l.getD i Cu=l[i]:=by rw[AT,AU h];rfl
theorem uv{o l}:NC o l↔Es o l 0 l.length:=by
 unfold NC;rw[B0];refine⟨λh i _ hi=>?_,λh i j hi e H=>?_⟩
 ·rw[He a5,He hi];exact h i (i+1) a5 hi a5
 ·have:=h.le (Aq i) (Nat.le_of_lt H) e;rwa [He hi,He e]at this
def stepO(o:Cv)(q:List Cv)(t:Cv):List Cv:=match q.getLast? with
 |some u=>if DR o u t=0 then q else q++[t]
 |none=>q++[t]
def Dy(o:Cv)(l:List Cv):List Cv:=l.foldl (stepO o) []
theorem Nt(o:Cv)(l:List Cv)(t:Cv):Dy o (l++[t])=stepO o (Dy o l) t:=by unfold Dy;rw[List.foldl_append];rfl
theorem eO(o:Cv)(q:List Cv)(t:Cv):(stepO o q t).length<=q.length+1:=by
 unfold stepO
 split
 ·split<;>simp
 ·simp
theorem R5(o:Cv):∀l:List Cv,(Dy o l).length<=l.length:=by
 intro l
 suffices h:∀(l q:List Cv),(l.foldl (stepO o) q).length<=q.length+l.length by have:=h l [];simpa [Dy]using this
 intro l
 induction l with
 |nil=>intro q;simp
 |cons t l ih=>intro q;have H:=ih (stepO o q t);have e:=eO o q t;simp only[List.foldl_cons,BY]at*;omega
theorem eM{o q t x}(h:x∈stepO o q t):x∈q\/x=t:=by
 unfold stepO at h
 split at h
 ·split at h
  ·exact .inl h
  ·simpa using h
 ·simpa using h
theorem Mv{o l x}(h:x∈Dy o l):x∈l:=by
 suffices hs:∀(l q:List Cv),x∈l.foldl (stepO o) q->x∈q\/x∈l by
  rcases hs l [] h with h|h
  ·cases h
  ·exact h
 intro l
 induction l with
 |nil=>intro q h;exact .inl h
 |cons t l ih=>
  intro q h;rcases ih _ h with h|h
  ·rcases eM h with h|h
   ·exact .inl h
   ·exact .inr (h▸Ax)
  ·exact .inr (BB _ h)
theorem OT{α:Type}{l m:List α}:(l++m).take 1=if l=[]then m.take 1 else l.take 1:=by
 cases l with
 |nil=>simp
 |cons a l=>simp
theorem XK{o:Cv}:∀(n:Nat) (l:List Cv),l.length=n->NC o l->NC o (Dy o l)/\(∀t,(Dy o l).filter (Ky o t)=(l.filter (Ky o t)).take 1)/\(∀u,(Dy o l).getLast?=AE u->∀x∈l,DR o x u<=0)/\(l≠[]->(Dy o l).getLast?≠AD)
 |0,l,hl,_=>by
  obtain rfl:=List.eq_nil_of_length_eq_zero hl;exact⟨List.Pairwise.nil,λ_=>rfl,λu h=>(by cases h),λh=>absurd rfl h⟩
 |n+1,l,hl,ha=>by
  obtain⟨l',t,rfl⟩:∃l' t,l=l'++[t]:=⟨l.dropLast,l.getLast (by intro e;rw[e]at hl;simp at hl),(List.dropLast_concat_getLast _).symm⟩;have aA:l'.length=n:=by simpa using hl
  obtain⟨aK,_,al⟩:=List.pairwise_append.1 ha;obtain⟨i1,i2,i3,i4⟩:=XK n l' aA aK;rw[Nt];have Q:∀x∈l',DR o x t<=0:=λx H=>al x H t a8;have hle:∀x∈Dy o l',DR o x t<=0:=λx H=>Q x (Mv H);have Ig:(∀x∈l',DR o x t≠0)->NC o (Dy o l'++[t])/\(∀s,(Dy o l'++[t]).filter (Ky o s)=((l'++[t]).filter (Ky o s)).take 1)/\(∀u,(Dy o l'++[t]).getLast?=AE u->∀x∈l'++[t],DR o x u<=0)/\(l'++[t]≠[]->(Dy o l'++[t]).getLast?≠AD):=λae=>by
   refine⟨List.pairwise_append.2 ⟨i1,List.pairwise_singleton _ _,λx H y hy=>?_⟩,λs=>?_,λu hu x H=>?_,λ_=>by simp⟩
   ·simp at hy;subst hy;exact hle x H
   ·rw[Ba,Ba,OT,i2 s];by_cases I:Ky o s t=true
    ·have J:l'.filter (Ky o s)=[]:=by
      refine List.filter_eq_nil_iff.2 λx H mV=>ae x H (Me (a:=s) ?_ ?_)
      ·simpa [Ky]using mV
      ·simpa [Ky]using I
     rw[J,if_pos rfl,List.filter_cons_of_pos I];rfl
    ·rw[List.filter_cons_of_neg I,List.filter_nil,AZ]
     split
     ·rename_i J;rw[J]
     ·rfl
   ·simp at hu;subst hu;rcases Ag.1 H with H|H
    ·exact Q x H
    ·simp at H;subst H;rw[P5];exact Int.le_refl _
  unfold stepO
  split
  ·rename_i u hu
   have O:=i3 u hu;by_cases he:DR o u t=0
   ·rw[if_pos he];have ab:u∈Dy o l':=List.mem_of_getLast? hu;refine⟨i1,λs=>?_,λv U x H=>?_,λ_=>by rw[hu];simp⟩
    ·rw[Ba,OT,i2 s];by_cases I:Ky o s t=true
     ·have aa:DR o t u=0:=by rw[Dv];omega
      have ad:Ky o s u=true:=by
       have:DR o s t=0:=by simpa [Ky]using I
       rw[iN this];simp[Ky,aa]
      have J:l'.filter (Ky o s)≠[]:=List.ne_nil_of_mem (B4.2 ⟨Mv ab,ad⟩);rw[if_neg J]
     ·rw[List.filter_cons_of_neg I,List.filter_nil]
      split
      ·rename_i J;rw[J]
      ·rfl
    ·rw[hu]at U;injection U with U;subst U
     rcases Ag.1 H with H|H
     ·exact O x H
     ·simp at H;subst H;rw[Dv];omega
   ·rw[if_neg he];refine Ig λx H hz=>he ?_;have h1:=O x H;have h2:=hle u (List.mem_of_getLast? hu);have h3:DR o t x<=0:=by rw[Dv];omega
    have h4:=FQ h3 h1;rw[Dv]at h4;omega
  ·rename_i hn
   have J:l'=[]:=by
    rcases Classical.em (l'=[])with h|h
    ·exact h
    ·exact absurd hn (i4 h)
   exact Ig λx H=>by rw[J]at H;cases H
def swp{α:Type}(d:α)(l:List α)(i j:Nat):List α:=(l.set i (l.getD j d)).set j (l.getD i d)
section
variable{α:Type}{d:α}{l:List α}{i j k:Nat}
theorem FY:(swp d l i j).length=l.length:=by unfold swp;rw[Bk,Bk]
theorem E9(hi:i<l.length)(J:j<l.length):(swp d l i j).getD k d=if k=j then l.getD i d else if k=i then l.getD j d else l.getD k d:=by
 unfold swp;rw[AT,Av,Av,Bk];by_cases I:j=k
 ·rw[if_pos I,if_pos J,if_pos I.symm];rfl
 ·rw[if_neg I,if_neg (show ¬k=j from λe=>I e.symm)];by_cases H:i=k
  ·rw[if_pos H,if_pos hi,if_pos H.symm];rfl
  ·rw[if_neg H,if_neg (λe=>H e.symm),<-AT]
theorem Wg(hi:i<l.length)(I:j<l.length):swp d l i j=swp d l j i:=by
 refine List.ext_getElem (by rw[FY,FY]) λn O J=>?_;have U:(swp d l i j).getD n d=(swp d l i j)[n]:=by rw[AT,AU O];rfl
 have Q:(swp d l j i).getD n d=(swp d l j i)[n]:=by rw[AT,AU J];rfl
 rw[<-U,<-Q,E9 hi I,E9 I hi];by_cases H:n=j
 ·by_cases e:n=i
  ·rw[if_pos H,if_pos e,<-H,<-e]
  ·rw[if_pos H,if_neg e,if_pos H]
 ·by_cases e:n=i
  ·rw[if_neg H,if_pos e,if_pos e]
  ·rw[if_neg H,if_neg e,if_neg e,if_neg H]
theorem rU(P M Q:List α)(x y:α):swp d (P++x::M++y::Q) P.length (P.length+1+M.length)=P++y::M++x::Q:=by
 have H:(P++x::M++y::Q).getD P.length d=x:=by simp[AT]
 have e:(P++x::M++y::Q).getD (P.length+1+M.length) d=y:=by
  rw[AT,AX (by simp;omega)];simp[show P.length+1+M.length-(P.length+(M.length+1))=0 by omega]
 unfold swp;rw[H,e,AR,As _ _ a5,Ap,B8,List.set_cons_zero,As _ _ a5,show P.length+1+M.length-P.length=M.length+1 by omega,Bz,As _ _ a5,Ap,List.set_cons_zero];simp
end
structure Ch (o:Cv) (a b:Nat) (l l':List Cv):Prop where
 len:l'.length=l.length
 out:∀i,i<a\/b<=i->l'.getD i Cu=l.getD i Cu
 cl:Cl o l l'
section
variable{o:Cv}{l l' l'':List Cv}{a b m i j k:Nat}
theorem Ch.refl(o:Cv)(a b:Nat)(l:List Cv):Ch o a b l l:=⟨rfl,λ_ _=>rfl,Cl.refl _ _⟩
theorem Ch.mono{a' b'}(h:Ch o a b l l')(e:a'<=a)(hb:b<=b'):Ch o a' b' l l':=⟨h.len,λi hi=>h.out i a5,h.cl⟩
theorem Ch.trans(h:Ch o a b l l')(k:Ch o a b l' l''):Ch o a b l l'':=⟨k.len.trans h.len,λi hi=>(k.out i hi).trans (h.out i hi),h.cl.trans k.cl⟩
theorem ext_get{l m:List Cv}(H:l.length=m.length)(h:∀i,i<l.length->l.getD i Cu=m.getD i Cu):l=m:=by
 refine List.ext_getElem H λi e I=>?_;rw[<-He e,<-He I];exact h i e
theorem Ho{l:List Cv}{n i}(h:i<n):(l.take n).getD i Cu=l.getD i Cu:=by
 rw[AT,AT,At,if_pos h]
theorem Hq{l:List Cv}{n i}:(l.drop n).getD i Cu=l.getD (n+i) Cu:=by
 rw[AT,AT,CL]
theorem Ch.inR(h:Ch o a b l l')(Yf:a<=b)(hb:b<=l.length){i}(h1:a<=i)(h2:i<b):∃j,a<=j/\j<b/\l.getD j Cu=l'.getD i Cu:=by
 have hl:=h.len;have Q:l'.take a=l.take a:=ext_get (by rw[Ac,Ac];omega) λi hi=>by
  rw[Ac]at hi;rw[Ho a5,Ho a5];exact h.out i a5
 have O:l'.drop b=l.drop b:=ext_get (by rw[An,An];omega) λi hi=>by
  rw[Hq,Hq];exact h.out _ a5
 have I:∀l:List Cv,l=l.take a++((l.drop a).take (b-a)++l.drop b):=λl=>by
  conv=>lhs;rw[<-BS a l]
  congr 1
  conv=>lhs;rw[<-BS (b-a) (l.drop a)]
  rw[Co,show a+(b-a)=b by omega]
 have H:=h.cl;rw[I l,I l',Q,O]at H;have U:=H.left.right;have hm:l'.getD i Cu∈(l'.drop a).take (b-a):=by
  have:((l'.drop a).take (b-a)).getD (i-a) Cu=l'.getD i Cu:=by rw[Ho a5,Hq,show a+(i-a)=i by omega]
  rw[<-this,He (by rw[Ac,An];omega)];exact Bs _
 obtain⟨j,J,e⟩:=BO (U.symm.mem hm);rw[Ac,An]at J;refine⟨a+j,a5,a5,?_⟩;rw[<-e,<-He,Ho a5,Hq]
theorem aZ(hi:i+1<l.length)(h:DR o (l.getD (i+1) Cu) (l.getD i Cu)<0):Ch o i (i+2) l (swp Cu l i (i+1)):=by
 refine⟨FY,λk O=>?_,?_⟩
 ·rw[E9 a5 hi,if_neg a5,if_neg a5]
 ·have I:l=l.take i++l.getD i Cu::[]++l.getD (i+1) Cu::l.drop (i+2):=by
   conv=>lhs;rw[<-BS i l,CQ (show i<l.length by omega),CQ hi]
   rw[He hi,He (show i<l.length by omega)];simp
  have J:(l.take i).length=i:=by rw[Ac];omega
  have e:swp Cu l i (i+1)=l.take i++l.getD (i+1) Cu::[]++l.getD i Cu::l.drop (i+2):=by
   have:=rU (d:=Cu) (l.take i) [] (l.drop (i+2)) (l.getD i Cu) (l.getD (i+1) Cu);rw[J,<-I]at this;exact this
  rw[e]
  conv=>arg 2;rw[I]
  have:=(Cl.refl o (l.take i)).append ((Cl.swap (o:=o) (a:=[l.getD i Cu]) (b:=[l.getD (i+1) Cu]) λu hu v H=>by simp only[Bn]at hu H;subst hu H;omega).append (Cl.refl o (l.drop (i+2))));simpa using this
def Ins(o:Cv)(l:List Cv)(a i j:Nat):Prop:=∀p q,a<=p->p<q->q<=i->q≠j->DR o (l.getD p Cu) (l.getD q Cu)<=0
theorem gC(h:Es o l a i):Ins o l a i i:=λp q H e h3 h4=>h.le H (Nat.le_of_lt e) a5
theorem mK(h:Ins o l a i j)(hj:a<j)(U:j<=i)(hi:i<l.length)(J:DR o (l.getD j Cu) (l.getD (j-1) Cu)<0):Ins o (swp Cu l j (j-1)) a i (j-1)/\Ch o a (i+1) l (swp Cu l j (j-1)):=by
 have e:=Wg (d:=Cu) (l:=l) (i:=j) (j:=j-1) a5 a5;have O:=aZ (o:=o) (l:=l) (i:=j-1) a5 (by rw[show j-1+1=j by omega];exact J);rw[show j-1+1=j by omega,<-e]at O;refine⟨λp q Q h2 h3 h4=>?_,O.mono a5 a5⟩;rw[E9 a5 a5,E9 a5 a5,if_neg h4];by_cases H:q=j
 ·rw[if_pos H];by_cases hp:p=j-1
  ·rw[if_pos hp];omega
  ·rw[if_neg hp,if_neg a5];exact h p (j-1) Q a5 a5 a5
 ·rw[if_neg H];by_cases hp:p=j-1
  ·rw[if_pos hp];exact h j q a5 a5 h3 H
  ·rw[if_neg hp];by_cases I:p=j
   ·rw[if_pos I];exact h (j-1) q a5 a5 h3 H
   ·rw[if_neg I];exact h p q Q h2 h3 H
theorem mJ(h:Ins o l a i j)(I:j<=i)(e:j=a\/¬DR o (l.getD j Cu) (l.getD (j-1) Cu)<0):Es o l a (i+1):=by
 intro p H J;by_cases hp:p+1=j
 ·rcases e with e|e
  ·omega
  ·rw[hp,Dv,show p=j-1 by omega];omega
 ·exact h p (p+1) H a5 a5 hp
def Mup(l l':List Cv)(a k:Nat):Prop:=∀p,l'.getD p Cu=if p<a then l.getD p Cu else if p<k then l.getD (p+1) Cu else if p=k then l.getD a Cu else l.getD p Cu
theorem fV(l:List Cv)(a:Nat):Mup l l a a:=λp=>by
 by_cases e:p<a
 ·rw[if_pos e]
 ·rw[if_neg e,if_neg e]
  split
  ·rename_i h;rw[h]
  ·rfl
theorem lq(h:Mup l l' a k)(Q:a<=k)(hk:k+1<l.length)(U:l'.length=l.length)(I:DR o (l.getD (k+1) Cu) (l.getD a Cu)<0):Mup l (swp Cu l' k (k+1)) a (k+1)/\Ch o k (k+2) l' (swp Cu l' k (k+1)):=by
 have O:l'.getD k Cu=l.getD a Cu:=by rw[h k,if_neg a5,if_neg a5,if_pos rfl]
 have J:l'.getD (k+1) Cu=l.getD (k+1) Cu:=by rw[h (k+1),if_neg a5,if_neg a5,if_neg a5]
 refine⟨λp=>?_,aZ a5 (by rw[O,J];exact I)⟩;rw[E9 a5 a5,O,J,h p];by_cases H:p=k+1
 ·rw[if_pos H,if_neg a5,if_neg a5,if_pos H]
 ·rw[if_neg H];by_cases e:p=k
  ·rw[if_pos e,if_neg a5,if_pos a5,e]
  ·rw[if_neg e];by_cases h3:p<a
   ·rw[if_pos h3,if_pos h3]
   ·rw[if_neg h3,if_neg h3];by_cases h4:p<k
    ·rw[if_pos h4,if_pos a5]
    ·rw[if_neg h4,if_neg e,if_neg a5,if_neg H]
theorem sW(h:Mup l l' a (i-1))(J:a<i)(I:i<=b)(H:Es o l (a+1) b)(e:∀p,a+1<=p->p<i->DR o (l.getD p Cu) (l.getD a Cu)<0)(Q:∀p,i<=p->p<b->0<=DR o (l.getD p Cu) (l.getD a Cu)):Es o l' a b:=by
 intro p U O;rw[h p,h (p+1),if_neg (show ¬p<a by omega),if_neg (show ¬p+1<a by omega)];by_cases h3:p<i-1
 ·rw[if_pos h3];by_cases h4:p+1<i-1
  ·rw[if_pos h4];exact H (p+1) a5 a5
  ·rw[if_neg h4,if_pos a5];have:=e (p+1) a5 a5;omega
 ·rw[if_neg h3];by_cases h4:p=i-1
  ·rw[if_pos h4,if_neg a5,if_neg a5];have:=Q (p+1) a5 a5;rw[Dv];omega
  ·rw[if_neg h4,if_neg a5,if_neg a5];exact H p a5 O
def Mdn(l l':List Cv)(m k:Nat):Prop:=∀p,l'.getD p Cu=if m<p then l.getD p Cu else if k<p then l.getD (p-1) Cu else if p=k then l.getD m Cu else l.getD p Cu
theorem fY(l:List Cv)(m:Nat):Mdn l l m m:=λp=>by
 by_cases e:m<p
 ·rw[if_pos e]
 ·rw[if_neg e,if_neg e]
  split
  ·rename_i h;rw[h]
  ·rfl
theorem l8(h:Mdn l l' m k)(WJ:0<k)(aa:k<=m)(hm:m<l.length)(hl:l'.length=l.length)(J:DR o (l.getD m Cu) (l.getD (k-1) Cu)<0):Mdn l (swp Cu l' k (k-1)) m (k-1)/\Ch o (k-1) (k+1) l' (swp Cu l' k (k-1)):=by
 have U:l'.getD k Cu=l.getD m Cu:=by rw[h k,if_neg a5,if_neg a5,if_pos rfl]
 have Q:l'.getD (k-1) Cu=l.getD (k-1) Cu:=by rw[h (k-1),if_neg a5,if_neg a5,if_neg a5]
 have e:=Wg (d:=Cu) (l:=l') (i:=k) (j:=k-1) a5 a5;have O:=aZ (o:=o) (l:=l') (i:=k-1) a5 (by rw[show k-1+1=k by omega,U,Q];exact J);rw[show k-1+1=k by omega,<-e,show k-1+2=k+1 by omega]at O;refine⟨λp=>?_,O⟩;rw[E9 a5 a5,U,Q,h p];by_cases I:p=k-1
 ·rw[if_pos I,if_neg a5,if_neg a5,if_pos I]
 ·rw[if_neg I];by_cases H:p=k
  ·rw[if_pos H,if_neg a5,if_pos a5,H]
  ·rw[if_neg H];by_cases h3:m<p
   ·rw[if_pos h3,if_pos h3]
   ·rw[if_neg h3,if_neg h3];by_cases h4:k<p
    ·rw[if_pos h4,if_pos a5]
    ·rw[if_neg h4,if_neg H,if_neg a5,if_neg I]
theorem sX(h:Mdn l l' m i)(U:i<=m)(I:a<=i)(H:Es o l a m)(e:∀p,a<=p->p<i->0<=DR o (l.getD m Cu) (l.getD p Cu))(O:∀p,i<=p->p<m->DR o (l.getD m Cu) (l.getD p Cu)<0):Es o l' a (m+1):=by
 intro p J Q;rw[h p,h (p+1),if_neg (show ¬m<p by omega),if_neg (show ¬m<p+1 by omega)];by_cases h3:i<p
 ·rw[if_pos h3,if_pos a5,BQ];have:=H (p-1) a5 a5;rwa [show p-1+1=p by omega]at this
 ·rw[if_neg h3];by_cases h4:p=i
  ·rw[if_pos h4,if_pos a5,BQ];have:=O p a5 a5;omega
  ·rw[if_neg h4,if_neg a5];by_cases h5:p+1=i
   ·rw[if_pos h5];have:=e p a5 a5;rw[Dv];omega
   ·rw[if_neg h5];exact H p J a5
end
theorem LX{k}(I:k<=5):∀(l:List Cv) (ws:List Nat),l.length*k<=ws.length->(∀p,p<l.length->(ws.drop (p*k)).take k=DW k (l.getD p Cu))->ws.take (l.length*k)=EL k l
 |[],ws,_,_=>by simp[EL]
 |t::l,ws,hw,h=>by
  rw[BY,A6,BD]at hw;have e:=h 0 a8;rw[CS,Cn]at e;have H:=LX I l (ws.drop k) (by rw[An];omega) λp hp=>by
   have:=h (p+1) (by simpa using hp);rw[Co,show k+p*k=(p+1)*k by rw[A6,BD];omega,this];rfl
  show ws.take ((l.length+1)*k)=DW k t++EL k l;rw[<-H,show DW k t=ws.take k from e.symm,A6,BD,Nat.add_comm,List.take_add]
theorem VB{ws E7:List Nat}{a b k}(H:a+k<=E7.length)(hb:b+k<=ws.length)(h:∀c,c<k->E7.getD (a+c) 0=ws.getD (b+c) 0):(E7.drop a).take k=(ws.drop b).take k:=by
 refine List.ext_getElem (by rw[Ac,Ac,An,An];omega) λc e I=>?_;rw[Ac,An]at e;have:=h c a5;rw[AT,AT,AU (show a+c<E7.length by omega),AU (show b+c<ws.length by omega)]at this;rw[List.getElem_take,List.getElem_take,List.getElem_drop,List.getElem_drop];exact this
def Tx(ws E7:List Nat)(a b c:Nat):Prop:=E7.length=ws.length/\∀p,E7.getD p 0=if a<=p/\p<a+c then ws.getD (b+(p-a)) 0 else if b<=p/\p<b+c then ws.getD (a+(p-b)) 0 else ws.getD p 0
theorem ZD(ws:List Nat)(a b:Nat):Tx ws ws a b 0:=⟨rfl,λp=>by rw[if_neg a5,if_neg a5]⟩
theorem eI{ws E7 a b c k}(h:Tx ws E7 a b c)(Q:c<k)(hd:a+k<=b\/b+k<=a)(U:a+k<=ws.length)(hb:b+k<=ws.length):Tx ws ((E7.set (a+c) (E7.getD (b+c) 0)).set (b+c) (E7.getD (a+c) 0)) a b (c+1):=by
 obtain⟨O,e⟩:=h;refine⟨by rw[Bk,Bk,O],λp=>?_⟩;rw[AT,Av,Av,Bk];by_cases J:b+c=p
 ·rw[if_pos J,if_pos a5,Option.getD_some,e,if_neg a5,if_neg a5,if_neg a5,if_pos a5,show p-b=c by omega]
 ·rw[if_neg J];by_cases c2:a+c=p
  ·rw[if_pos c2,if_pos a5,Option.getD_some,e,if_neg a5,if_neg a5,if_pos a5,show p-a=c by omega]
  ·rw[if_neg c2,<-AT,e];by_cases I:a<=p/\p<a+c
   ·rw[if_pos I,if_pos a5]
   ·rw[if_neg I,if_neg (show ¬(a<=p/\p<a+(c+1))by omega)];by_cases H:b<=p/\p<b+c
    ·rw[if_pos H,if_pos a5]
    ·rw[if_neg H,if_neg a5]
section
variable{W W':World}{r k g N cap q told:Nat}{o:Cv}{ws:List Nat}{l:List Cv}
theorem kN{ws E7 i j}(hk:k<=5)(hl:l.length=q)(hw:q*k<=ws.length)(hf:ws.take (q*k)=EL k l)(hi:i<q)(hj:j<q)(Il:i≠j)(h:Tx ws E7 (i*k) (j*k) k):E7.take (q*k)=EL k (swp Cu l i j):=by
 obtain⟨h1,h2⟩:=h;have hlen:(swp Cu l i j).length=q:=FY.trans hl;have e:∀p,p<q->(ws.drop (p*k)).take k=DW k (l.getD p Cu):=λp hp=>(Ox hk rfl hl hf (getD_some a5)).2;have hle:∀p,p<q->p*k+k<=q*k:=λp hp=>by
  have:=Ae k (show p+1<=q from hp);rw[A6,BD]at this;exact this
 have Q:∀p J,p≠J->p*k+k<=J*k\/J*k+k<=p*k:=λp J U=>by
  rcases Nat.lt_or_gt_of_ne U with I|I
  ·left;have:=Ae k (show p+1<=J from I);rw[A6,BD]at this;exact this
  ·right;have:=Ae k (show J+1<=p from I);rw[A6,BD]at this;exact this
 have H:=LX hk (swp Cu l i j) E7 (by rw[hlen,h1];exact hw) λp hp=>by
  rw[hlen]at hp;have aa:=hle p hp;rw[E9 a5 a5];by_cases O:p=j
  ·rw[if_pos O,<-e i hi];refine VB a5 (by have:=hle i hi;omega) λc hc=>?_;rw[h2,if_neg (by have:=Q i j Il;rw[O];omega),if_pos (by rw[O];omega),show p*k+c-j*k=c by rw[O];omega]
  ·rw[if_neg O];by_cases c2:p=i
   ·rw[if_pos c2,<-e j hj];refine VB a5 (by have:=hle j hj;omega) λc hc=>?_;rw[h2,if_pos (by rw[c2];omega),show p*k+c-i*k=c by rw[c2];omega]
   ·rw[if_neg c2,<-e p hp];refine VB a5 a5 λc hc=>?_;rw[h2,if_neg (by have:=Q p i c2;omega),if_neg (by have:=Q p j O;omega)]
 rw[hlen]at H;exact H
theorem ep(h:Ib W r k g N cap q o told ws l){i j}(hi:i<q)(hj:j<q)(Il:i≠j)(gH:r≠g):Calls AP 191 #[AI r,i,j] W λe w'=>e=AH (AM #[])/\(∃E7,Ib w' r k g N cap q o told E7 (swp Cu l i j))/\DG (λb=>b=g) W w':=by
 have hle:∀p,p<q->p*k+k<=N:=λp hp=>by
  have:=Ae k (show p+1<=q from hp);rw[A6,BD,<-h.nn.1]at this;exact this
 have mh:i*k+k<=j*k\/j*k+k<=i*k:=by
  rcases Nat.lt_or_gt_of_ne Il with H|H
  ·left;have:=Ae k (show i+1<=j from H);rw[A6,BD]at this;exact this
  ·right;have:=Ae k (show j+1<=i from H);rw[A6,BD]at this;exact this
 obtain⟨n1,n2,n3,n4,n5⟩:=h.nn;have Q:=h.kk;have ad:=hle i hi;have ab:=hle j hj;have Q1:Hid (∀d os,Calls AP 158 #[AL #[k,AJ g N cap],i] (Ai (redrawn W d) os) λe Ej=>e=AH (AJ (g,i*k) k (cap-i*k))/\∃p:Cq,Ej=Ai (redrawn W p.d) p.os):=λd os=>BU (RC k i g N cap _ Q.1 Q.2 ad n2 n3);have Q2:Hid (∀d os,Calls AP 158 #[AL #[k,AJ g N cap],j] (Ai (redrawn W d) os) λe Ej=>e=AH (AJ (g,j*k) k (cap-j*k))/\∃p:Cq,Ej=Ai (redrawn W p.d) p.os):=λd os=>BU (RC k j g N cap _ Q.1 Q.2 ab n2 n3);have k0:∀d os,(Ai (redrawn W d) os).cell? r=AE (AA AB k):=Ab (h.row.cell 0);have k1:∀d os,(Ai (redrawn W d) os).cell? (r,1)=AE (AJ g N cap):=Ab (h.row.cell 1);have Dr:Hid (∀J E7,DG (λb=>b=g) W J->Row J g 120 (E7.map vw)->Tx ws E7 (i*k) (j*k) k->Ib J r k g N cap q o told E7 (swp Cu l i j)):=λJ E7 hf hr hs=>by
  refine⟨hf.row h.row λe=>gH e,hr,Q,⟨n1,n2,n3,hs.1.trans n4,n5⟩,FY.trans h.len,h.tol,?_,λu hu=>?_⟩
  ·rw[n1];exact kN Q.2 h.len a5 (by rw[<-n1];exact h.flat) hi hj Il hs
  ·obtain⟨p,hp,rfl⟩:=BO hu;rw[FY,h.len]at hp;rw[<-He (by rw[FY,h.len];exact hp),E9 (by rw[h.len];exact hi) (by rw[h.len];exact hj)];have I:∀p,p<q->EE (l.getD p Cu)/\Dc k (l.getD p Cu)=true:=λp hp=>h.fit _ (M7 (by rw[h.len];exact hp))
   split
   ·exact I i hi
   ·split
    ·exact I j hj
    ·exact I p hp
 have HW:=AO h.words;have TM:Hid (∀E7 c,Tx ws E7 (i*k) (j*k) c->c<k->Tx ws ((E7.set (i*k+c) (E7.getD (j*k+c) 0)).set (j*k+c) (E7.getD (i*k+c) 0)) (i*k) (j*k) (c+1)/\i*k+c<E7.length/\j*k+c<E7.length):=λE7 c U h2=>⟨eI U h2 mh a5 a5,by rw[U.1];omega,by rw[U.1];omega⟩;have Gv:Hid (Tx ws ws (i*k) (j*k) 0):=ZD _ _ _;have qX:Hid (∀c,c<k->i*k+c≠j*k+c):=λc hc=>by omega
 clear h hle hi hj gH n1 n4;generalize i*k=a at*
 generalize j*k=b at*
 generalize xO:(λ(e:Ending) (w':World)=>e=AH (AM #[])/\(∃E7,Ib w' r k g N cap q o told E7 (swp Cu l i j))/\DG (λb=>b=g) W w')=Dd;have HP:Hid (∀J E7,DG (λb=>b=g) W J->Row J g 120 (E7.map vw)->Tx ws E7 a b k->Dd (AH (AM #[])) J):=λJ E7 U h2 h3=>by rw[<-xO];exact⟨rfl,⟨E7,Dr.out J E7 U h2 h3⟩,U⟩
 clear xO Dr;go_enter func191,ntmps191
 go_wp2
 refine Bb a7 a7 ?_
 repeat(any_goals(first|go_big_quiet_step (with_reducible first|exact Q1.out _ _|exact Q2.out _ _)|quiet_step (with_reducible first|exact Q1.out _ _|exact Q2.out _ _)))
 refine CV ?_;intro w5 Hy;obtain⟨⟨dq,osq⟩,Hy⟩:=Hy;have Eh:=Bj W dq osq;rw[<-Hy]at Eh;have ar:Hid (DG (λb=>b=g) W w5):=DG.DB Eh _;have ao:Hid (Row w5 g 120 (ws.map vw)):=HW.out.below Eh HW.out.lt;clear Hy Eh k0 k1 Q1 Q2 HW;go_wp2
 go_loopw [8,23] (λ_ iv wr=>∃(c:Nat) (E7:List Nat),c<=k/\iv=AA AB (c:Int)/\Hid (DG (λb=>b=g) W wr)/\Hid (Row wr g 120 (E7.map vw))/\Hid (Tx ws E7 a b c)) (λ_ iv _=>k-(BF iv).toNat)
 case atStart=>exact⟨0,ws,Aq _,rfl,ar.out,ao.out,Gv.out⟩
 case round=>
  obtain⟨c,E7,hc,rfl,HF,O,HS⟩:=hrel;by_cases H:c<k
  ·obtain⟨Gg,Gk,TY⟩:=TM.out E7 c HS.out H;have av:=qX.out c H;have c0:wr.cell? (g,a+c)=AE (.int .u64 (E7.getD (a+c) 0:Nat)):=by rw[O.out.cell (a+c)];exact MH Gk
   have c1:wr.cell? (g,b+c)=AE (.int .u64 (E7.getD (b+c) 0:Nat)):=by rw[O.out.cell (b+c)];exact MH TY
   have f0:=O.out.free (a+c);have f1:=O.out.free (b+c);have ae:=AO Gg;have aa:Hid (Row ((wr.setCell (g,a+c) (.int .u64 (E7.getD (b+c) 0:Nat))).setCell (g,b+c) (.int .u64 (E7.getD (a+c) 0:Nat))) g 120 (((E7.set (a+c) (E7.getD (b+c) 0)).set (b+c) (E7.getD (a+c) 0)).map vw)):=by
    unfold Hid;rw[List.map_set,List.map_set];exact(O.out.set (a+c) _).set (b+c) _
   have ji:Hid (DG (λb=>b=g) W ((wr.setCell (g,a+c) (.int .u64 (E7.getD (b+c) 0:Nat))).setCell (g,b+c) (.int .u64 (E7.getD (a+c) 0:Nat)))):=(HF.out.set (p:=(g,a+c)) (.inl rfl) _).set (p:=(g,b+c)) (.inl rfl) _;have j0:(0:Int)<=(c:Int):=a5;have j1:(c:Int)<(k:Int):=a5;clear Gg Gk TY;generalize E7.getD (a+c) 0=xa at*
   generalize E7.getD (b+c) 0=xb at*
   go_wp2
   go_region
   have al:=AO (aa.out.drewN 1);have jj:=AO ji.out.drew;clear aa ji HF O c0 c1 f0 f1;go_wp2
   go_roundw
   case rel=>exact⟨c+1,_,a5,by go_num,jj.out,al.out,ae.out⟩
   case measure=>simp[BF];omega
  ·obtain rfl:c=k:=a5;have H9:=AO (HP.out wr E7 HF.out O.out HS.out);go_wp2
   go_end0
   exact H9.out
end
def Iv(l:List Cv)(a m b:Nat):List Cv:=l.take a++((l.drop m).take (b-m)++((l.drop a).take (m-a)++l.drop b))
section
variable{o:Cv}{l l':List Cv}{a b m i j k n:Nat}
theorem JH(H:a<=m)(e:m<=b)(h3:b<=l.length):(Iv l a m b).length=l.length:=by
 unfold Iv;rw[AY,AY,AY,Ac,Ac,Ac,An,An,An];omega
theorem Pu{l m:List Cv}{i}(h:i<l.length):(l++m).getD i Cu=l.getD i Cu:=by
 rw[AT,AT,Al h]
theorem N6{l m:List Cv}{i}(h:l.length<=i):(l++m).getD i Cu=m.getD (i-l.length) Cu:=by
 rw[AT,AT,AX h]
theorem LQ(Q:a<=m)(O:m<=b)(h3:b<=l.length)(i:Nat):(Iv l a m b).getD i Cu=if i<a then l.getD i Cu else if i<a+(b-m)then l.getD (i+(m-a)) Cu else if i<b then l.getD (i-(b-m)) Cu else l.getD i Cu:=by
 unfold Iv;have l1:(l.take a).length=a:=by rw[Ac];omega
 have J:((l.drop m).take (b-m)).length=b-m:=by rw[Ac,An];omega
 have I:((l.drop a).take (m-a)).length=m-a:=by rw[Ac,An];omega
 by_cases e:i<a
 ·rw[if_pos e,Pu a5,Ho e]
 ·rw[if_neg e,N6 a5,l1];by_cases c2:i<a+(b-m)
  ·rw[if_pos c2,Pu a5,Ho a5,Hq,show m+(i-a)=i+(m-a)by omega]
  ·rw[if_neg c2,N6 a5,J];by_cases H:i<b
   ·rw[if_pos H,Pu a5,Ho a5,Hq,show a+(i-a-(b-m))=i-(b-m)by omega]
   ·rw[if_neg H,N6 a5,I,Hq,show b+(i-a-(b-m)-(m-a))=i by omega]
theorem lE(h:m<=b):Iv l m m b=l:=by
 unfold Iv;rw[Ap,Bt,BI]
 conv=>rhs;rw[<-BS m l,<-BS (b-m) (l.drop m),Co,show m+(b-m)=b by omega]
theorem lC(h:a<=m):Iv l a m m=l:=by
 unfold Iv;rw[Ap,Bt,BI]
 conv=>rhs;rw[<-BS a l,<-BS (m-a) (l.drop a),Co,show a+(m-a)=m by omega]
theorem bV{x}(h:x∈(l.drop a).take (b-a))(hb:b<=l.length):∃i,a<=i/\i<b/\l.getD i Cu=x:=by
 obtain⟨j,H,e⟩:=BO h;rw[Ac,An]at H;refine⟨a+j,a5,a5,?_⟩;rw[<-e,<-He,Ho a5,Hq]
theorem yd(H:a<=m)(e:m<=b)(h3:b<=l.length)(h:∀i j,a<=i->i<m->m<=j->j<b->DR o (l.getD j Cu) (l.getD i Cu)<0):Ch o a b l (Iv l a m b):=by
 refine⟨JH H e h3,λi hi=>?_,?_⟩
 ·rw[LQ H e h3];by_cases I:i<a
  ·rw[if_pos I]
  ·rw[if_neg I,if_neg a5,if_neg a5]
 ·have d1:l=l.take a++(((l.drop a).take (m-a)++(l.drop m).take (b-m))++l.drop b):=by
   conv=>lhs;rw[<-BS a l,<-BS (m-a) (l.drop a),Co,show a+(m-a)=m by omega,<-BS (b-m) (l.drop m),Co,show m+(b-m)=b by omega]
   rw[AR]
  unfold Iv
  conv=>arg 2;rw[d1]
  rw[<-AR ((l.drop m).take (b-m))];refine(Cl.refl o _).append ((Cl.swap λu hu v hv=>?_).append (Cl.refl o _));obtain⟨i,U,Q,rfl⟩:=bV hu a5;obtain⟨j,O,J,rfl⟩:=bV hv h3;have:=h i j U Q O J;omega
def eG(l:List Cv)(a b n:Nat):Nat->Cv:=λi=>if a<=i/\i<a+n then l.getD (i+(b-a)) Cu else if b<=i/\i<b+n then l.getD (i-(b-a)) Cu else l.getD i Cu
def Mi(l l':List Cv)(a b k:Nat):Prop:=l'.length=l.length/\∀i,l'.getD i Cu=eG l a b k i
theorem eE(l:List Cv)(a b:Nat):Mi l l a b 0:=⟨rfl,λi=>by unfold eG;rw[if_neg a5,if_neg a5]⟩
theorem kL(h:Mi l l' a b k)(U:a+n<=b)(hb:b+n<=l.length)(Q:k<n):Mi l (swp Cu l' (a+k) (b+k)) a b (k+1):=by
 obtain⟨O,e⟩:=h;refine⟨FY.trans O,λi=>?_⟩;rw[E9 a5 a5,e,e,e];unfold eG;by_cases H:i=b+k
 ·rw[if_pos H,if_neg a5,if_neg a5,if_neg a5,if_pos a5,H,show b+k-(b-a)=a+k by omega]
 ·rw[if_neg H];by_cases c2:i=a+k
  ·rw[if_pos c2,if_neg a5,if_neg a5,if_pos a5,c2,show a+k+(b-a)=b+k by omega]
  ·rw[if_neg c2];by_cases J:a<=i/\i<a+k
   ·rw[if_pos J,if_pos a5]
   ·rw[if_neg J,if_neg (show ¬(a<=i/\i<a+(k+1))by omega)];by_cases I:b<=i/\i<b+k
    ·rw[if_pos I,if_pos a5]
    ·rw[if_neg I,if_neg a5]
def Nd(l0 l:List Cv)(a m b i j:Nat):Prop:=l.length=l0.length/\a+i<=m/\m+j<=b/\Iv l (m-i) m (m+j)=Iv l0 a m b
theorem Ww(H:a<=m)(e:m<=b):Nd l l a m b (m-a) (b-m):=⟨rfl,a5,a5,by rw[show m-(m-a)=a by omega,show m+(b-m)=b by omega]⟩
theorem lG{l0}(h:Nd l0 l a m b i j)(hb:b<=l0.length)(Il:j<i)(Q:Mi l l' (m-i) m j):Nd l0 l' a m b (i-j) j:=by
 obtain⟨h1,h2,h3,h4⟩:=h;obtain⟨I,H⟩:=Q;refine⟨I.trans h1,a5,h3,?_⟩;rw[<-h4];refine ext_get (by rw[JH a5 a5 a5,JH a5 a5 a5,I]) λq U=>?_;rw[JH a5 a5 a5]at U;rw[LQ a5 a5 a5,LQ a5 a5 a5,H,H,H];unfold eG;by_cases O:q<m-i
 ·rw[if_pos (show q<m-(i-j)by omega),if_pos O,if_neg a5,if_neg a5]
 ·rw[if_neg O];by_cases c2:q<m-i+(m+j-m)
  ·rw[if_pos (show q<m-(i-j)by omega),if_pos c2,if_pos a5,show q+(m-(m-i))=q+(m-(m-i))from rfl]
  ·rw[if_neg c2,if_neg (show ¬q<m-(i-j)by omega)];by_cases J:q<m-(i-j)+(m+j-m)
   ·rw[if_pos J,if_neg a5,if_pos a5,if_pos a5]
    congr 1;omega
   ·rw[if_neg J];by_cases e:q<m+j
    ·rw[if_pos e,if_pos e,if_neg a5,if_neg a5]
    ·rw[if_neg e,if_neg e,if_neg a5,if_neg a5]
theorem lF{l0}(h:Nd l0 l a m b i j)(hb:b<=l0.length)(Il:i<j)(Q:Mi l l' (m-i) (m+j-i) i):Nd l0 l' a m b i (j-i):=by
 obtain⟨h1,h2,h3,h4⟩:=h;obtain⟨I,H⟩:=Q;refine⟨I.trans h1,h2,a5,?_⟩;rw[<-h4];refine ext_get (by rw[JH a5 a5 a5,JH a5 a5 a5,I]) λq U=>?_;rw[JH a5 a5 a5]at U;rw[LQ a5 a5 a5,LQ a5 a5 a5,H,H,H];unfold eG;by_cases e:q<m-i
 ·rw[if_pos e,if_pos e,if_neg a5,if_neg a5]
 ·rw[if_neg e,if_neg e];by_cases c2:q<m-i+(m+(j-i)-m)
  ·rw[if_pos c2,if_neg a5,if_neg a5,if_pos a5]
  ·rw[if_neg c2];by_cases O:q<m+(j-i)
   ·rw[if_pos O,if_pos a5,if_pos a5]
    congr 1;omega
   ·rw[if_neg O];by_cases J:q<m+j
    ·rw[if_neg a5,if_pos a5,if_neg a5,if_pos J]
     congr 1;omega
    ·rw[if_neg a5,if_neg a5,if_neg a5,if_neg J]
theorem eu{l0}(h:Nd l0 l a m b i i)(hb:b<=l0.length)(O:Mi l l' (m-i) m i):l'=Iv l0 a m b:=by
 obtain⟨h1,U,h3,h4⟩:=h;obtain⟨J,I⟩:=O;rw[<-h4];refine ext_get (by rw[JH a5 a5 a5,J]) λq Q=>?_;rw[LQ a5 a5 a5,I];unfold eG;by_cases H:q<m-i
 ·rw[if_pos H,if_neg a5,if_neg a5]
 ·rw[if_neg H];by_cases c2:q<m-i+(m+i-m)
  ·rw[if_pos c2,if_pos a5]
  ·rw[if_neg c2,if_neg a5];by_cases e:q<m+i
   ·rw[if_pos e,if_pos a5]
    congr 1;omega
   ·rw[if_neg e,if_neg a5]
theorem fX{s e mid}(has:a<=s)(wN:s<=m)(I:m<=e)(aa:e<=b)(hb:b<=l.length)(IV:mid=s+(e-m))(U:Es o l a m)(Q:Es o l m b)
  (ab:a<s->e<b->DR o (l.getD (s-1) Cu) (l.getD e Cu)<=0)(nj:s<m->m<e->DR o (l.getD (e-1) Cu) (l.getD s Cu)<0):
  Ch o a b l (Iv l s m e)/\Es o (Iv l s m e) a s/\Es o (Iv l s m e) s mid/\Es o (Iv l s m e) mid e/\Es o (Iv l s m e) e b/\∀p q,a<=p->p<mid->mid<=q->q<b->DR o ((Iv l s m e).getD p Cu) ((Iv l s m e).getD q Cu)<=0:=by
 have H:=LQ (l:=l) wN I a5;have Lt:∀i j,s<=i->i<m->m<=j->j<e->DR o (l.getD j Cu) (l.getD i Cu)<0:=λi j J O j1 j2=>by
  have k1:=Q.le j1 (show j<=e-1 by omega) (show e-1<b by omega);have k2:=U.le has J O;exact K5 (M8 k1 (nj a5 a5)) k2
 refine⟨(yd wN I a5 Lt).mono has aa,λi J O=>?_,λi J O=>?_,λi J O=>?_,λi J O=>?_,λp q p1 p2 q1 q2=>?_⟩
 ·rw[H,H,if_pos (show i<s by omega),if_pos (show i+1<s by omega)];exact U i J a5
 ·rw[H,H,if_neg (show ¬i<s by omega),if_neg (show ¬i+1<s by omega),if_pos (show i<s+(e-m)by omega),if_pos (show i+1<s+(e-m)by omega),show i+1+(m-s)=i+(m-s)+1 by omega];exact Q _ a5 a5
 ·rw[H,H,if_neg (show ¬i<s by omega),if_neg (show ¬i+1<s by omega),if_neg (show ¬i<s+(e-m)by omega),if_neg (show ¬i+1<s+(e-m)by omega),if_pos (show i<e by omega),if_pos (show i+1<e by omega),show i+1-(e-m)=i-(e-m)+1 by omega];exact U _ a5 a5
 ·rw[H,H,if_neg (show ¬i<s by omega),if_neg (show ¬i+1<s by omega),if_neg (show ¬i<s+(e-m)by omega),if_neg (show ¬i+1<s+(e-m)by omega),if_neg (show ¬i<e by omega),if_neg (show ¬i+1<e by omega)];exact Q _ a5 a5
 ·rw[H,H,if_neg (show ¬q<s by omega),if_neg (show ¬q<s+(e-m)by omega)];by_cases c1:p<s
  ·rw[if_pos c1];by_cases c2:q<e
   ·rw[if_pos c2];exact U.le p1 a5 a5
   ·rw[if_neg c2];exact FQ (U.le p1 (show p<=s-1 by omega) a5) (FQ (ab a5 a5) (Q.le I (show e<=q by omega) q2))
  ·rw[if_neg c1,if_pos (show p<s+(e-m)by omega)];by_cases c2:q<e
   ·rw[if_pos c2];have:=Lt (q-(e-m)) (p+(m-s)) a5 a5 a5 a5;omega
   ·rw[if_neg c2];exact Q.le a5 a5 q2
theorem Zg{l1 l2 l3 mid}(H:a<=mid)(O:mid<=b)(hb:b<=l1.length)(hx:∀p q,a<=p->p<mid->mid<=q->q<b->DR o (l1.getD p Cu) (l1.getD q Cu)<=0)(e:Ch o a mid l1 l2)(U:Es o l2 a mid)(c2:Ch o mid b l2 l3)(Q:Es o l3 mid b):Ch o a b l1 l3/\Es o l3 a b:=by
 refine⟨(e.mono ao O).trans (c2.mono H ao),λi J I=>?_⟩;by_cases h1:i+1<mid
 ·rw[c2.out i a5,c2.out (i+1) a5];exact U i J h1
 ·by_cases h2:mid<=i
  ·exact Q i h2 I
  ·obtain⟨p,p1,p2,p3⟩:=e.inR H a5 (i:=i) J a5;obtain⟨q,q1,q2,q3⟩:=c2.inR O (by rw[e.len];exact hb) (i:=i+1) a5 I;rw[c2.out i a5,<-p3,<-q3,e.out q a5];exact hx p q p1 p2 q1 q2
def OG(o:Cv)(l:List Cv)(s a b:Nat):Prop:=∀i,a<=i->i+1<b->(i+1)%s≠0->DR o (l.getD i Cu) (l.getD (i+1) Cu)<=0
end
structure Nc (r n:Nat) (o:Cv) (R:List Cv->World->Prop):Prop where
 len:∀l W,R l W->l.length=n
 less:∀l W,R l W->∀i j:Nat,i<n->j<n->Calls AP 189 #[AI r,i,j] W λe w'=>e=AH (.bool (decide (DR o (l.getD i Cu) (l.getD j Cu)<0)))/\R l w'
 swap:∀l W,R l W->∀i j:Nat,i<n->j<n->i≠j->Calls AP 191 #[AI r,i,j] W λe w'=>e=AH (AM #[])/\R (swp Cu l i j) w'
theorem OY(r:Nat)(w:World):Br AP (method 371 221 (AI r) "Less") w=.ok (189,AI r) w:=a7
theorem OX(r:Nat)(w:World):Br AP (method 371 221 (AI r) "Swap") w=.ok (191,AI r) w:=a7
theorem sA(r:Nat)(w:World):Br AP (method 371 221 (AI r) "Len") w=.ok (153,AI r) w:=a7
section
variable{r n:Nat}{o:Cv}{R:List Cv->World->Prop}{l:List Cv}{W:World}
theorem cE(C:Nc r n o R)(hn:n<=100000)(a b:Nat)(Yf:a<=b)(hb:b<=n)(h:R l W):
  Calls AP 159 #[.iface 221 (AI r),a,b] W λe w'=>e=AH (AM #[])/\∃l',R l' w'/\Ch o a b l l'/\Es o l' a b:=by
 have mL:=OY r;have mS:=OX r;have HC:=AO C;have H:=AO h;clear h C;go_enter func159,ntmps159
 go_wp2
 go_loopw [6] (λvi wr=>∃(i:Nat) (Q:List Cv),vi=AA AB (i:Int)/\a<i/\i<=b+1/\Hid (R Q wr)/\Hid (Ch o a b l Q)/\Hid (Es o Q a i)) (λvi _=>b+1-(BF vi).toNat)
 case atStart=>exact⟨a+1,l,by go_num,a5,a5,H.out,Ch.refl _ _ _ _,λi i1 i2=>by omega⟩
 case round=>
  obtain⟨i,Q,rfl,aC,aA,HR,vc,HA⟩:=hrel;have av:=HC.out.len _ _ HR.out;by_cases ar:i<b
  ·go_wp2
   go_loopw [7] (λvj qg=>∃(j:Nat) (I:List Cv),vj=AA AB (j:Int)/\a<=j/\j<=i/\Hid (R I qg)/\Hid (Ch o a (i+1) Q I)/\Hid (Ins o I a i j)) (λvj _=>(BF vj).toNat)
   case atStart=>exact⟨i,Q,rfl,a5,AQ _,HR.out,Ch.refl _ _ _ _,gC HA.out⟩
   case round=>
    obtain⟨j,I,rfl,aB,aa,U,ad,HI⟩:=hrel;have aw:=HC.out.len _ _ U.out;have ab:(j=a\/¬DR o (I.getD j Cu) (I.getD (j-1) Cu)<0)->∀J,R I J->∃(i':Nat) (O:List Cv),Bg AB ((i:Int)+1)=AA AB (i':Int)/\a<i'/\i'<=b+1/\Hid (R O J)/\Hid (Ch o a b l O)/\Hid (Es o O a i'):=λhs J h9=>
     ⟨i+1,I,by go_num,a5,a5,h9,vc.out.trans (ad.out.mono ao a5),mJ HI.out aa hs⟩
    have ae:=AO ab;clear ab;by_cases al:a<j
    ·have hl:=HC.out.less _ _ U.out j (j-1) a5 a5;rw[show ((j-1:Nat):Int)=(j:Int)-1 by omega]at hl;have HL:=AO hl;clear hl;by_cases Om:DR o (I.getD j Cu) (I.getD (j-1) Cu)<0
     ·have HS:Hid (∀J,R I J->Calls AP 191 #[AI r,j,AA AB ((j:Int)-1)] J λe w'=>e=AH (AM #[])/\R (swp Cu I j (j-1)) w'):=λJ h9=>by
       have:=HC.out.swap _ _ h9 j (j-1) a5 a5 a5;rwa [show ((j-1:Nat):Int)=(j:Int)-1 by omega]at this
      have Gv:=AO (mK HI.out al aa a5 Om);have g1:=decide_eq_true Om;go_wp2_with fail
      refine HL.out.mono ?_;rintro e w1 ⟨rfl,h1⟩;rw[g1];have H1:=AO h1;clear h1;go_wp2_with fail
      refine(HS.out _ H1.out).mono ?_;rintro e w2 ⟨rfl,h2⟩;have H2:=AO h2;clear h2;go_wp2
      go_roundw
      case rel=>
       exact⟨j-1,_,by congr 1;omega,a5,a5,H2.out,ad.out.trans Gv.out.2,Gv.out.1⟩
      case measure=>simp[BF];omega
     ·have g1:=decide_eq_false Om;go_wp2_with fail
      refine HL.out.mono ?_;rintro e w1 ⟨rfl,h1⟩;rw[g1];have H1:=AO (ae.out (.inr Om) _ h1);clear h1;go_wp2
      go_roundw
      case rel=>exact H1.out
      case measure=>simp[BF];omega
    ·have H1:=AO (ae.out (.inl a5) _ U.out);go_wp2
     go_roundw
     case rel=>exact H1.out
     case measure=>simp[BF];omega
  ·go_wp2
   go_end0
   exact⟨rfl,Q,HR.out,vc.out,λp p1 p2=>HA.out p p1 a5⟩
end
section
variable{r n:Nat}{o:Cv}{R:List Cv->World->Prop}{l:List Cv}{W:World}
theorem U2(C:Nc r n o R)(hn:n<=100000)(a b k:Nat)(Yf:a+k<=b)(hb:b+k<=n)(h:R l W):
  Calls AP 165 #[.iface 221 (AI r),a,b,k] W λe w'=>e=AH (AM #[])/\∃l',R l' w'/\Mi l l' a b k:=by
 have mS:=OX r;have HC:=AO C;have H:=AO h;clear h C;go_enter func165,ntmps165
 go_wp2
 go_loopw [8] (λJ wr=>∃(i:Nat) (I:List Cv),J=AA AB (i:Int)/\i<=k/\Hid (R I wr)/\Hid (Mi l I a b i)) (λJ _=>k-(BF J).toNat)
 case atStart=>exact⟨0,l,rfl,a5,H.out,eE _ _ _⟩
 case round=>
  obtain⟨i,I,rfl,nE,HR,HS⟩:=hrel;by_cases O:i<k
  ·have Oo:=HC.out.len _ _ H.out;have Q:=HC.out.swap _ _ HR.out (a+i) (b+i) a5 a5 a5;rw[Int.natCast_add,Int.natCast_add]at Q;have HL:=AO Q;have HT:=AO (kL HS.out Yf a5 O);clear Q;go_wp2_with fail
   refine HL.out.mono ?_;rintro e w1 ⟨rfl,h1⟩;have H1:=AO h1;clear h1;go_wp2
   go_roundw
   case rel=>exact⟨i+1,_,by go_num,a5,H1.out,HT.out⟩
   case measure=>simp[BF];omega
  ·have U:i=k:=a5;subst U;go_wp2
   go_end0
   exact⟨rfl,I,HR.out,HS.out⟩
theorem sH(C:Nc r n o R)(hn:n<=100000)(a m b:Nat)(zx:a<m)(SR:m<b)(hb:b<=n)(h:R l W):
  Calls AP 163 #[.iface 221 (AI r),a,m,b] W λe w'=>e=AH (AM #[])/\R (Iv l a m b) w':=by
 have HC:=AO C;have H:=AO h;have NB:=AO (C.len _ _ h);obtain⟨i0,FM⟩:∃i0:Nat,i0=m-a:=⟨_,rfl⟩;obtain⟨j0,UM⟩:∃j0:Nat,j0=b-m:=⟨_,rfl⟩;have s1:(m:Int)-(a:Int)=(i0:Int):=a5;have s2:(b:Int)-(m:Int)=(j0:Int):=a5;have Gv:Hid (Nd l l a m b i0 j0):=by rw[FM,UM];exact Ww a5 a5
 have hp:0<i0/\0<j0:=a5;clear FM UM h C;go_enter func163,ntmps163
 go_wp2
 go_loopw [8,9] (λvi vj wr=>∃(i j:Nat) (O:List Cv),vi=AA AB (i:Int)/\vj=AA AB (j:Int)/\0<i/\0<j/\Hid (R O wr)/\Hid (Nd l O a m b i j)) (λvi vj _=>(BF vi).toNat+(BF vj).toNat)
 case atStart=>exact⟨i0,j0,l,rfl,rfl,hp.1,hp.2,H.out,Gv.out⟩
 case round=>
  clear s1 s2 hp Gv;obtain⟨i,j,O,rfl,rfl,hi,hj,HR,HS⟩:=hrel;have Xf:a+i<=m:=HS.out.2.1;have qF:m+j<=b:=HS.out.2.2.1;have HQ:=AO (Bq Xf qF);obtain⟨x,hx⟩:∃x:Nat,x=m-i:=⟨_,rfl⟩;have s3:(m:Int)-(i:Int)=(x:Int):=a5;have Oo:O.length=n:=HC.out.len _ _ HR.out;by_cases aa:i=j
  ·subst aa;have HL:=AO (U2 HC.out hn x m i a5 a5 HR.out);have HE:Hid (∀l',Mi O l' x m i->l'=Iv l a m b):=λl' h'=>by rw[hx]at h';exact eu HS.out (by rw[NB.out];exact hb) h'
   clear hx Xf qF Oo;go_wp2_with fail
   refine HL.out.mono ?_;rintro e w1 ⟨rfl,l',I,J⟩;have h3:=HE.out l' J;rw[h3]at I;have H1:=AO I;clear I J h3;go_wp2
   go_end0
   exact⟨rfl,H1.out⟩
  ·have Qu:¬(i:Int)=(j:Int):=a5;have ar:((i:Int) !=(j:Int))=true:=by simpa using Qu
   by_cases al:j<i
   ·obtain⟨U,ab⟩:∃U:Nat,U=i-j:=⟨_,rfl⟩;have s4:(i:Int)-(j:Int)=(U:Int):=a5;have HL:=AO (U2 HC.out hn x m j a5 a5 HR.out);have HE:Hid (∀l',Mi O l' x m j->Nd l l' a m b U j):=λl' h'=>by rw[hx]at h';rw[ab];exact lG HS.out (by rw[NB.out];exact hb) al h'
    have ae:Hid (0<U/\U<i):=by constructor<;>omega
    clear hx Xf qF Oo ab aa Qu;go_wp2_with fail
    refine HL.out.mono ?_;rintro e w1 ⟨rfl,l',I,J⟩;have H1:=AO I;have H2:=AO (HE.out l' J);clear I J;go_wp2
    go_roundw
    case rel=>exact⟨U,j,l',rfl,rfl,ae.out.1,hj,H1.out,H2.out⟩
    case measure=>have:=ae.out;simp[BF];omega
   ·obtain⟨Q,wm⟩:∃Q:Nat,Q=j-i:=⟨_,rfl⟩;have s4:(j:Int)-(i:Int)=(Q:Int):=a5;obtain⟨z,hz⟩:∃z:Nat,z=m+j:=⟨_,rfl⟩;have s6:(m:Int)+(j:Int)=(z:Int):=a5;have ao:z<=n:=a5;obtain⟨y,hy⟩:∃y:Nat,y=m+j-i:=⟨_,rfl⟩;have s5:(z:Int)-(i:Int)=(y:Int):=a5;have HL:=AO (U2 HC.out hn x y i a5 a5 HR.out);have HE:Hid (∀l',Mi O l' x y i->Nd l l' a m b i Q):=λl' h'=>by rw[hx,hy]at h';rw[wm];exact lF HS.out (by rw[NB.out];exact hb) a5 h'
    have ad:Hid (0<Q/\Q<j):=by constructor<;>omega
    clear hx Xf qF Oo wm aa Qu hy hz;go_wp2_with fail
    refine HL.out.mono ?_;rintro e w1 ⟨rfl,l',I,J⟩;have H1:=AO I;have H2:=AO (HE.out l' J);clear I J;go_wp2
    go_roundw
    case rel=>exact⟨i,Q,l',rfl,rfl,hi,ad.out.1,H1.out,H2.out⟩
    case measure=>have:=ad.out;simp[BF];omega
end
section
variable{r n:Nat}{o:Cv}{R:List Cv->World->Prop}{l:List Cv}{W:World}
def Ul(R:List Cv->World->Prop)(o:Cv)(l:List Cv)(a b:Nat)(e:Ending)(w':World):Prop:=e=AH (AM #[])/\∃l',R l' w'/\Ch o a b l l'/\Es o l' a b
theorem rS(C:Nc r n o R)(hn:n<=100000)(a m b:Nat)(hm:m=a+1)(SR:m<b)(hb:b<=n)(h:R l W)(hs:Es o l (a+1) b):
  Calls AP 160 #[.iface 221 (AI r),a,m,b] W (Ul R o l a b):=by
 have mL:=OY r;have mS:=OX r;have HC:=AO C;have H:=AO h;have HS:=AO hs;have NB:=AO (C.len _ _ h);have s1:(m:Int)-(a:Int)=1:=a5;have HM:=AO hm;have zx:a<m:=a5;clear h hs C hm;go_enter func160,ntmps160
 go_wp2
 go_loopw [8,9] (λvi vj wr=>∃(i j:Nat),vi=AA AB (i:Int)/\vj=AA AB (j:Int)/\m<=i/\i<=j/\j<=b/\Hid (R l wr)/\Hid (∀p,m<=p->p<i->DR o (l.getD p Cu) (l.getD a Cu)<0)/\Hid (∀p,j<=p->p<b->0<=DR o (l.getD p Cu) (l.getD a Cu))) (λvi vj _=>(BF vj).toNat-(BF vi).toNat)
 case atStart=>exact⟨m,b,rfl,rfl,a5,a5,a5,H.out,λp p1 Q=>by omega,λp p1 Q=>by omega⟩
 case round=>
  clear s1;obtain⟨i,j,rfl,rfl,hi,Il,ad,HR,vQ,vU⟩:=hrel;by_cases ao:i<j
  ·obtain⟨I,SH⟩:∃I:Nat,I=i+j:=⟨_,rfl⟩;obtain⟨h,hh⟩:∃h:Nat,h=I/2:=⟨_,rfl⟩;have Qw:i<=h:=a5;have ar:h<j:=a5;have Ku:(i:Int)+(j:Int)=(I:Int):=a5;have Nv:Aa.wrap (I:Int)=(I:Int):=Ah _ a5;have hdiv:(I:Int)/2=(h:Int):=a5;have HL:=AO (HC.out.less _ _ HR.out h a a5 a5);clear SH hh;by_cases Om:DR o (l.getD h Cu) (l.getD a Cu)<0
   ·have g1:=decide_eq_true Om;have HN:Hid (∀p,m<=p->p<h+1->DR o (l.getD p Cu) (l.getD a Cu)<0):=λp p1 Q=>M8 (HS.out.le (by have:=HM.out;omega) (show p<=h by omega) a5) Om;go_wp2_with fail
    refine HL.out.mono ?_;rintro e w1 ⟨rfl,h1⟩;rw[g1];have H1:=AO h1;clear h1 Om;go_wp2
    go_roundw
    case rel=>exact⟨h+1,j,by go_num,rfl,a5,a5,ad,H1.out,HN.out,vU.out⟩
    case measure=>simp[BF];omega
   ·have g1:=decide_eq_false Om;have HN:Hid (∀p,h<=p->p<b->0<=DR o (l.getD p Cu) (l.getD a Cu)):=λp p1 Q=>Int.not_lt.1 λp3=>Om (M8 (HS.out.le (by have:=HM.out;omega) p1 Q) p3);go_wp2_with fail
    refine HL.out.mono ?_;rintro e w1 ⟨rfl,h1⟩;rw[g1];have H1:=AO h1;clear h1 Om;go_wp2
    go_roundw
    case rel=>exact⟨i,h,rfl,rfl,hi,Qw,a5,H1.out,vQ.out,HN.out⟩
    case measure=>simp[BF];omega
  ·have gU:i=j:=a5;subst gU;obtain⟨x,hx⟩:∃x:Nat,x+1=i:=⟨i-1,a5⟩;have s2:(i:Int)-1=(x:Int):=a5;have HX:=AO hx;have av:a<=x:=a5;have M4:x+1<=b:=a5;clear hx;go_wp2
   go_loopw [11] (λvk w3=>∃(k:Nat) (U:List Cv),vk=AA AB (k:Int)/\a<=k/\k<=x/\Hid (R U w3)/\Hid (Mup l U a k)/\Hid (Ch o a b l U)) (λvk _=>x-(BF vk).toNat)
   case atStart=>exact⟨a,l,rfl,a5,a5,HR.out,fV _ _,Ch.refl _ _ _ _⟩
   case round=>
    obtain⟨k,U,rfl,tw,JV,O,ae,al⟩:=hrel;by_cases zf:k<x
    ·have ab:=HC.out.len _ _ O.out;have J:=HC.out.swap _ _ O.out k (k+1) a5 a5 a5;rw[Int.natCast_add]at J;have xu:=AO J;have aa:=lq (o:=o) ae.out tw (by rw[NB.out];omega) (by rw[ab,NB.out]) (vQ.out (k+1) (by have:=HM.out;omega) (by have:=HX.out;omega));have Gv:=AO aa;clear J ab aa;go_wp2_with fail
     refine xu.out.mono ?_;rintro e w4 ⟨rfl,h4⟩;have H4:=AO h4;clear h4;go_wp2
     go_roundw
     case rel=>exact⟨k+1,_,by go_num,a5,a5,H4.out,Gv.out.1,al.out.trans (Gv.out.2.mono a5 a5)⟩
     case measure=>simp[BF];omega
    ·have zZ:k=x:=a5;subst zZ;have HE:=AO (sW (o:=o) (l:=l) (l':=U) (a:=a) (b:=b) (i:=i) (by rw[show i-1=k by have:=HX.out;omega];exact ae.out) (by have:=HX.out;omega) ad HS.out (λp p1 Q=>vQ.out p (by have:=HM.out;omega) Q) vU.out);go_wp2
     go_end0
     exact⟨rfl,U,O.out,al.out,HE.out⟩
theorem kK(C:Nc r n o R)(hn:n<=100000)(a m b:Nat)(zx:a+1<m)(hm:b=m+1)(hb:b<=n)(h:R l W)(hs:Es o l a m):
  Calls AP 160 #[.iface 221 (AI r),a,m,b] W (Ul R o l a b):=by
 have mL:=OY r;have mS:=OX r;have HC:=AO C;have H:=AO h;have HS:=AO hs;have NB:=AO (C.len _ _ h);obtain⟨d,hd⟩:∃d:Nat,d=m-a:=⟨_,rfl⟩;have s1:(m:Int)-(a:Int)=(d:Int):=a5;have g0:((d:Int)==1)=false:=by simp;omega
 have s2:(b:Int)-(m:Int)=1:=a5;have HM:=AO hm;have SR:m<b:=a5;clear h hs C hm hd;go_enter func160,ntmps160
 go_wp2
 go_loopw [12,13] (λvi vj wr=>∃(i j:Nat),vi=AA AB (i:Int)/\vj=AA AB (j:Int)/\a<=i/\i<=j/\j<=m/\Hid (R l wr)/\Hid (∀p,a<=p->p<i->0<=DR o (l.getD m Cu) (l.getD p Cu))/\Hid (∀p,j<=p->p<m->DR o (l.getD m Cu) (l.getD p Cu)<0)) (λvi vj _=>(BF vj).toNat-(BF vi).toNat)
 case atStart=>exact⟨a,m,rfl,rfl,a5,a5,a5,H.out,λp p1 p2=>by omega,λp p1 p2=>by omega⟩
 case round=>
  clear s1 s2 g0;obtain⟨i,j,rfl,rfl,hi,Il,al,HR,vQ,vU⟩:=hrel;by_cases ao:i<j
  ·obtain⟨I,SH⟩:∃I:Nat,I=i+j:=⟨_,rfl⟩;obtain⟨h,hh⟩:∃h:Nat,h=I/2:=⟨_,rfl⟩;have Qw:i<=h:=a5;have ar:h<j:=a5;have Ku:(i:Int)+(j:Int)=(I:Int):=a5;have Nv:Aa.wrap (I:Int)=(I:Int):=Ah _ a5;have hdiv:(I:Int)/2=(h:Int):=a5;have HL:=AO (HC.out.less _ _ HR.out m h a5 a5);clear SH hh;by_cases U:DR o (l.getD m Cu) (l.getD h Cu)<0
   ·have g1:=decide_eq_true U;have HN:Hid (∀p,h<=p->p<m->DR o (l.getD m Cu) (l.getD p Cu)<0):=λp p1 p2=>K5 U (HS.out.le a5 p1 p2);go_wp2_with fail
    refine HL.out.mono ?_;rintro e w1 ⟨rfl,h1⟩;rw[g1];have H1:=AO h1;clear h1 U;go_wp2
    go_roundw
    case rel=>exact⟨i,h,rfl,rfl,hi,Qw,a5,H1.out,vQ.out,HN.out⟩
    case measure=>simp[BF];omega
   ·have g1:=decide_eq_false U;have HN:Hid (∀p,a<=p->p<h+1->0<=DR o (l.getD m Cu) (l.getD p Cu)):=λp p1 p2=>Int.not_lt.1 λp3=>U (K5 p3 (HS.out.le p1 (show p<=h by omega) a5));go_wp2_with fail
    refine HL.out.mono ?_;rintro e w1 ⟨rfl,h1⟩;rw[g1];have H1:=AO h1;clear h1 U;go_wp2
    go_roundw
    case rel=>exact⟨h+1,j,by go_num,rfl,a5,a5,al,H1.out,HN.out,vU.out⟩
    case measure=>simp[BF];omega
  ·have gU:i=j:=a5;subst gU;go_wp2
   go_loopw [15] (λvk w3=>∃(k:Nat) (Q:List Cv),vk=AA AB (k:Int)/\i<=k/\k<=m/\Hid (R Q w3)/\Hid (Mdn l Q m k)/\Hid (Ch o a b l Q)) (λvk _=>(BF vk).toNat)
   case atStart=>exact⟨m,l,rfl,a5,a5,HR.out,fY _ _,Ch.refl _ _ _ _⟩
   case round=>
    obtain⟨k,Q,rfl,tw,JV,O,ad,ae⟩:=hrel;by_cases zf:i<k
    ·have ab:=HC.out.len _ _ O.out;obtain⟨y,hy⟩:∃y:Nat,y+1=k:=⟨k-1,a5⟩;have s3:(k:Int)-1=(y:Int):=a5;have aa:=HC.out.swap _ _ O.out k y a5 a5 a5;have xu:=AO aa;have J:=l8 (o:=o) ad.out a5 JV (by rw[NB.out];omega) (by rw[ab,NB.out]) (vU.out (k-1) a5 a5);rw[show k-1=y by omega]at J;have Gv:=AO J;have HY:=AO hy;clear aa ab J hy;go_wp2_with fail
     refine xu.out.mono ?_;rintro e w4 ⟨rfl,h4⟩;have H4:=AO h4;clear h4;go_wp2
     go_roundw
     case rel=>exact⟨y,_,rfl,by have:=HY.out;omega,by have:=HY.out;omega,H4.out,Gv.out.1,ae.out.trans (Gv.out.2.mono (by have:=HY.out;omega) (by have:=HY.out;omega))⟩
     case measure=>have:=HY.out;simp[BF];omega
    ·have zZ:k=i:=a5;subst zZ;have HE:=AO (sX (o:=o) (l:=l) (l':=Q) (m:=m) (a:=a) (i:=k) ad.out JV hi HS.out vQ.out vU.out);go_wp2
     go_end0
     exact⟨rfl,Q,O.out,ae.out,by rw[HM.out];exact HE.out⟩
end
section
variable{r n:Nat}{o:Cv}{R:List Cv->World->Prop}{l:List Cv}{W:World}
theorem rT(C:Nc r n o R)(hn:n<=100000)(a m b:Nat)(zx:a+1<m)(SR:m+1<b)(hb:b<=n)(h:R l W)(Gg:Es o l a m)(Gk:Es o l m b)
  (IH:∀a' m' b',b'-a'<b-a->a'<m'->m'<b'->b'<=n->∀l W,R l W->Es o l a' m'->Es o l m' b'->Calls AP 160 #[.iface 221 (AI r),a',m',b'] W (Ul R o l a' b')):
  Calls AP 160 #[.iface 221 (AI r),a,m,b] W (Ul R o l a b):=by
 have mL:=OY r;have HC:=AO C;have H:=AO h;have vI:=AO Gg;have Ly:=AO Gk;have ar:=AO IH;have NB:=AO (C.len _ _ h);obtain⟨d,hd⟩:∃d:Nat,d=m-a:=⟨_,rfl⟩;have s1:(m:Int)-(a:Int)=(d:Int):=a5;have g0:((d:Int)==1)=false:=by simp;omega
 obtain⟨d2,nQ⟩:∃d2:Nat,d2=b-m:=⟨_,rfl⟩;have s2:(b:Int)-(m:Int)=(d2:Int):=a5;have g1:((d2:Int)==1)=false:=by simp;omega
 obtain⟨ab,Yf⟩:∃ab:Nat,ab=a+b:=⟨_,rfl⟩;have Ku:(a:Int)+(b:Int)=(ab:Int):=a5;have Nv:Aa.wrap (ab:Int)=(ab:Int):=Ah _ a5;obtain⟨mid,IV⟩:∃mid:Nat,mid=ab/2:=⟨_,rfl⟩;have hdiv:(ab:Int)/2=(mid:Int):=a5;obtain⟨I,qG⟩:∃I:Nat,I=mid+m:=⟨_,rfl⟩;have s6:(mid:Int)+(m:Int)=(I:Int):=a5;have aH:I<=2*n:=a5;obtain⟨Q,O,gG⟩:∃Q O:Nat,(mid<m/\Q+b=I/\O=mid)\/(m<=mid/\Q=a/\O=m):=by
  by_cases ad:mid<m
  ·exact⟨I-b,mid,.inl ⟨ad,a5,rfl⟩⟩
  ·exact⟨a,m,.inr ⟨a5,rfl,rfl⟩⟩
 have q1:a<=Q:=a5;have q2:Q<=O:=a5;have q3:O<=m:=a5;have q4:O<=mid:=a5;have q5:I<=b+Q:=a5;have q6:mid<b:=a5;have q7:a<mid:=a5;have HQ:=AO (Bq q1 (Bq q2 (Bq q3 (Bq q4 (Bq q5 (Bq q6 (Bq q7 (Bq qG (Bq gG (Bq zx SR))))))))));obtain⟨pp,SN⟩:∃pp:Nat,pp+1=I:=⟨I-1,a5⟩;have s7:(I:Int)-1=(pp:Int):=a5;have aC:=AO SN;clear h Gg Gk IH C hd nQ Yf IV qG gG q1 q2 q3 q4 q5 q6 q7 SN;go_enter func160,ntmps160
 go_upto_if 102 with(fail)
 go_cut [18,19]from 103 to 108 (λaw av U=>aw=AA AB (Q:Int)/\av=AA AB (O:Int)/\U=W)
 case first=>
  by_cases ad:mid<m
  ·have aa:(I:Int)-(b:Int)=(Q:Int):=by have:=HQ.out;omega
   have EU:mid=O:=by have:=HQ.out;omega
   have LK:=AO EU;clear EU;go_wp2_with fail
   go_meet
   exact⟨rfl,congrArg (λx:Nat=>Bg AB (x:Int)) LK.out,rfl⟩
  ·have aa:a=Q:=by have:=HQ.out;omega
   have EU:m=O:=by have:=HQ.out;omega
   have LK:=AO EU;have Gv:=AO aa;clear EU aa;go_wp2_with fail
   go_meet
   exact⟨congrArg (λx:Nat=>Bg AB (x:Int)) Gv.out,congrArg (λx:Nat=>Bg AB (x:Int)) LK.out,rfl⟩
 case rest=>
  obtain⟨rfl,rfl,rfl⟩:=hcut;clear s1 s2 g0 g1 Ku Nv hdiv s6;go_wp2_with fail
  go_loopw [18,19] (λvi vj wr=>∃(i j:Nat),vi=AA AB (i:Int)/\vj=AA AB (j:Int)/\Q<=i/\i<=j/\j<=O/\Hid (R l wr)/\Hid (Q<i->0<=DR o (l.getD (I-i) Cu) (l.getD (i-1) Cu))/\Hid (j<O->DR o (l.getD (I-1-j) Cu) (l.getD j Cu)<0)) (λvi vj _=>(BF vj).toNat-(BF vi).toNat)
  case atStart=>exact⟨Q,O,rfl,rfl,a5,by have:=HQ.out;omega,a5,H.out,λhh=>by omega,λhh=>by omega⟩
  case round=>
   obtain⟨i,j,rfl,rfl,hi,Il,aB,HR,vQ,vU⟩:=hrel;have hq:=HQ.out;have hp:=aC.out;by_cases aF:i<j
   ·obtain⟨ij,SH⟩:∃ij:Nat,ij=i+j:=⟨_,rfl⟩;obtain⟨c,hh⟩:∃c:Nat,c=ij/2:=⟨_,rfl⟩;have Qw:i<=c:=a5;have aG:c<j:=a5;have Ku:(i:Int)+(j:Int)=(ij:Int):=a5;have Nv:Aa.wrap (ij:Int)=(ij:Int):=Ah _ a5;have hdiv:(ij:Int)/2=(c:Int):=a5;obtain⟨q,qF⟩:∃q:Nat,q+c=pp:=⟨pp-c,a5⟩;have s8:(pp:Int)-(c:Int)=(q:Int):=a5;have HL:=AO (HC.out.less _ _ HR.out q c a5 a5);have qV:Hid (q=I-(c+1)/\q=I-1-c):=by constructor<;>omega
    have gU:ij<=2*n:=a5;clear SH hh hq hp qF;by_cases Om:DR o (l.getD q Cu) (l.getD c Cu)<0
    ·have g1:=decide_eq_true Om;have HN:Hid (c<O->DR o (l.getD (I-1-c) Cu) (l.getD c Cu)<0):=λ_=>by rw[<-qV.out.2];exact Om
     go_wp2_with fail
     refine HL.out.mono ?_;rintro e w1 ⟨rfl,h1⟩;rw[g1];have H1:=AO h1;clear h1 Om;go_wp2
     go_roundw
     case rel=>exact⟨i,c,rfl,rfl,hi,Qw,a5,H1.out,vQ.out,HN.out⟩
     case measure=>simp[BF];omega
    ·have g1:=decide_eq_false Om;have HN:Hid (Q<c+1->0<=DR o (l.getD (I-(c+1)) Cu) (l.getD (c+1-1) Cu)):=λ_=>by rw[<-qV.out.1,BQ];exact Int.not_lt.1 Om
     go_wp2_with fail
     refine HL.out.mono ?_;rintro e w1 ⟨rfl,h1⟩;rw[g1];have H1:=AO h1;clear h1 Om;go_wp2
     go_roundw
     case rel=>exact⟨c+1,j,by go_num,rfl,a5,a5,aB,H1.out,HN.out,vU.out⟩
     case measure=>simp[BF];omega
   ·have gU:i=j:=a5;subst gU;obtain⟨e,he⟩:∃e:Nat,e+i=I:=⟨I-i,a5⟩;have s8:(I:Int)-(i:Int)=(e:Int):=a5;have k1:a<=i:=a5;have k2:i<=m:=a5;have k3:m<=e:=a5;have k4:e<=b:=a5;have k5:mid=i+(e-m):=a5;have ae:=fX (o:=o) k1 k2 k3 k4 (by rw[NB.out];exact hb) k5 vI.out Ly.out (λc1 c2=>by
     have:=vQ.out a5;rw[show I-i=e by omega]at this;rw[Dv];omega) (λc1 c2=>by
     have:=vU.out a5;rwa [show I-1-i=e-1 by omega]at this)
    have yC:=AO ae;have HK:=AO (Bq k1 (Bq k2 (Bq k3 (Bq k4 (Bq k5 hq)))));have JZ:Hid (∀w9,R l w9->i<m->m<e->Calls AP 163 #[.iface 221 (AI r),i,m,e] w9 λe' w'=>e'=AH (AM #[])/\R (Iv l i m e) w'):=λw9 h9 x1 x2=>sH HC.out hn i m e x1 x2 a5 h9;have LK:Hid (¬(i<m/\m<e)->Iv l i m e=l):=λaA=>by
     rcases Am i m with x|x
     ·have:m=e:=a5;rw[<-this];exact lC k2
     ·have:i=m:=a5;rw[this];exact lE k3
    have Ve:(Iv l i m e).length=n:=by rw[JH k2 k3 (by rw[NB.out];omega),NB.out]
    have Tg:=AO Ve;generalize Iv l i m e=l1 at*
    clear he k1 k2 k3 k4 k5 ae hq hp Ve s7;go_upto_region 39 with(fail)
    go_cut [140]from 133 to 140 (λs U=>s=.bool (decide (i<m/\m<e))/\U=wr)
    case first=>
     by_cases x1:i<m
     ·by_cases x2:m<e
      ·go_wp2_with fail
       go_meet
       exact⟨congrArg Value.bool (decide_eq_true (Bq x1 x2)).symm,rfl⟩
      ·go_wp2_with fail
       go_meet
       exact⟨congrArg Value.bool (decide_eq_false (λx=>x2 x.2)).symm,rfl⟩
     ·go_wp2_with fail
      go_meet
      exact⟨congrArg Value.bool (decide_eq_false (λx=>x1 x.1)).symm,rfl⟩
    case rest=>
     obtain⟨rfl,rfl⟩:=hcut;go_upto_if 140 with(fail)
     go_cut []from 140 to 145 (λU=>Hid (R l1 U))
     case first=>
      by_cases x:i<m/\m<e
      ·have g2:=decide_eq_true x;have HX:=AO x;clear x;rw[g2];go_wp2_with fail
       refine(JZ.out _ HR.out HX.out.1 HX.out.2).mono ?_;rintro e' w2 ⟨rfl,h2⟩;have H2:=AO h2;clear h2;go_wp2_with fail
       go_meet
       exact H2.out
      ·have g2:=decide_eq_false x;have HX:=AO x;clear x;rw[g2];go_wp2_with fail
       go_meet
       rw[LK.out HX.out];exact HR.out
     case rest=>
      have H1:=AO hcut.out;clear hcut HR JZ LK;go_upto_region 41 with(fail)
      go_cut [153]from 146 to 153 (λs U=>s=.bool (decide (a<i/\i<mid))/\U=wc)
      case first=>
       by_cases x1:a<i
       ·by_cases x2:i<mid
        ·go_wp2_with fail
         go_meet
         exact⟨congrArg Value.bool (decide_eq_true (Bq x1 x2)).symm,rfl⟩
        ·go_wp2_with fail
         go_meet
         exact⟨congrArg Value.bool (decide_eq_false (λx=>x2 x.2)).symm,rfl⟩
       ·go_wp2_with fail
        go_meet
        exact⟨congrArg Value.bool (decide_eq_false (λx=>x1 x.1)).symm,rfl⟩
      case rest=>
       obtain⟨rfl,rfl⟩:=hcut;go_upto_if 153 with(fail)
       go_cut []from 153 to 158 (λU=>∃J,Hid (R J U)/\Hid (Ch o a mid l1 J)/\Hid (Es o J a mid))
       case first=>
        by_cases x:a<i/\i<mid
        ·have g2:=decide_eq_true x;have HX:=AO x;have aE:=AO (ar.out a i mid (by have:=HK.out;omega) x.1 x.2 (by have:=HK.out;omega) _ _ H1.out yC.out.2.1 yC.out.2.2.1);clear x;rw[g2];go_wp2_with fail
         refine aE.out.mono ?_;rintro e' w2 ⟨rfl,J,h2,h3,h4⟩;have H2:=AO h2;have H3:=AO h3;have H4:=AO h4;clear h2 h3 h4;go_wp2_with fail
         go_meet
         exact⟨J,H2.out,H3.out,H4.out⟩
        ·have g2:=decide_eq_false x;have HX:Hid (Es o l1 a mid):=by
          have hk:=HK.out;rcases Am a i with y|y
          ·have:i=mid:=a5;rw[<-this];exact yC.out.2.1
          ·have:a=i:=a5;rw[this];exact yC.out.2.2.1
         clear x;rw[g2];go_wp2_with fail
         go_meet
         exact⟨l1,H1.out,Ch.refl _ _ _ _,HX.out⟩
       case rest=>
        obtain⟨J,H2,H3,H4⟩:=hcut;have IC:Hid (∀l3,Ch o mid b J l3->Es o l3 mid b->Ch o a b l l3/\Es o l3 a b):=λl3 c1 c2=>by
         have hk:=HK.out;obtain⟨x1,x2⟩:=Zg (o:=o) (l1:=l1) (a:=a) (b:=b) (mid:=mid) a5 a5 (by rw[Tg.out];exact hb) yC.out.2.2.2.2.2 H3.out H4.out c1 c2;exact⟨yC.out.1.trans x1,x2⟩
        have ao:Hid (Es o J mid e):=λp p1 p2=>by
         rw[H3.out.out p a5,H3.out.out (p+1) a5];exact yC.out.2.2.2.1 p p1 p2
        have al:Hid (Es o J e b):=λp p1 p2=>by
         have hk:=HK.out;rw[H3.out.out p a5,H3.out.out (p+1) a5];exact yC.out.2.2.2.2.1 p p1 p2
        have aD:Hid (mid<e->e<b->Calls AP 160 #[.iface 221 (AI r),mid,e,b] wc (Ul R o J mid b)):=λy1 y2=>ar.out mid e b (by have:=HK.out;omega) y1 y2 hb _ _ H2.out ao.out al.out;have Nh:Hid (¬(mid<e/\e<b)->Es o J mid b):=λaA=>by
         have hk:=HK.out;rcases Am mid e with y|y
         ·have:e=b:=a5;rw[<-this];exact ao.out
         ·have:mid=e:=a5;rw[this];exact al.out
        by_cases x1:mid<e
        ·by_cases x2:e<b
         ·go_wp2_with fail
          refine(aD.out x1 x2).mono ?_;rintro e' w3 ⟨rfl,l3,h3,h4,h5⟩;have H5:=AO (IC.out l3 h4 h5);have H6:=AO h3;clear h3 h4 h5;go_wp2
          go_end0
          exact⟨rfl,l3,H6.out,H5.out.1,H5.out.2⟩
         ·have H5:=AO (IC.out J (Ch.refl _ _ _ _) (Nh.out λy=>x2 y.2));go_wp2
          go_end0
          exact⟨rfl,J,H2.out,H5.out.1,H5.out.2⟩
        ·have H5:=AO (IC.out J (Ch.refl _ _ _ _) (Nh.out λy=>x1 y.1));go_wp2
         go_end0
         exact⟨rfl,J,H2.out,H5.out.1,H5.out.2⟩
theorem U1(C:Nc r n o R)(e:n<=100000):∀(d a m b:Nat),b-a<=d->a<m->m<b->b<=n->∀l W,R l W->Es o l a m->Es o l m b->Calls AP 160 #[.iface 221 (AI r),a,m,b] W (Ul R o l a b)
 |0,a,m,b,hd,h1,h2,_,_,_,_,_,_=>by omega
 |d+1,a,m,b,hd,h1,h2,hb,l,W,h,s1,s2=>by
  by_cases H:m=a+1
  ·exact rS C e a m b H h2 hb h (by rw[<-H];exact s2)
  ·by_cases c2:b=m+1
   ·exact kK C e a m b a5 c2 hb h s1
   ·exact rT C e a m b a5 a5 hb h s1 s2 λa' m' b' U Q O k3 l W hR J I=>U1 C e d a' m' b' a5 Q O k3 l W hR J I
end
section
variable{r n:Nat}{o:Cv}{R:List Cv->World->Prop}{l l':List Cv}{W:World}{s a b:Nat}
theorem fW{s q i:Nat}(H:q*s<=i)(e:i<q*s+s):i%s=i-q*s:=by
 obtain⟨x,rfl⟩:∃x,i=q*s+x:=⟨i-q*s,a5⟩;rw[B6,Nat.mul_add_mod,Nat.mod_eq_of_lt (by rw[B6]at H e;omega),Cm]
theorem K6{q}(h:OG o l s 0 (q*s))(H:Ch o (q*s) b l l')(J:Es o l' (q*s) b):OG o l' s 0 b:=λi _ I e=>by
 by_cases Q:i+1<q*s
 ·rw[H.out i a5,H.out (i+1) a5];exact h i (Aq _) Q e
 ·by_cases O:i+1=q*s
  ·exfalso;apply e;rw[O,Nat.mul_mod_left]
  ·exact J i a5 I
theorem iq{a' b'}(h:OG o l s a' b')(e:Ch o a b l l')(hd:b<=a'\/b'<=a):OG o l' s a' b':=λi J I H=>by
 rw[e.out i a5,e.out (i+1) a5];exact h i J I H
theorem Vu{q a' b'}(h:OG o l s a' b')(J:a'<=a)(I:b<=b')(h3:q*s<=a)(h4:b<=q*s+s):Es o l a b:=λi H e=>h i a5 a5 (by
 rw[fW (q:=q) a5 a5];omega)
theorem oo(h:OG o l s 0 b)(hb:b<=s):Es o l 0 b:=λi H e=>h i H e (by rw[Nat.mod_eq_of_lt a5];omega)
end
section
variable{r n:Nat}{o:Cv}{R:List Cv->World->Prop}{l:List Cv}{W:World}
theorem kU(C:Nc r n o R)(hn:n<=100000)(h:R l W):
  Calls AP 155 #[.iface 221 (AI r),n] W λe w'=>e=AH (AM #[])/\∃l',R l' w'/\Ch o 0 n l l'/\Es o l' 0 n:=by
 have HC:=AO C;have H:=AO h;clear h C;go_enter func155,ntmps155
 go_wp2
 go_loopw [5,6] (λva vb wr=>∃(q a b:Nat) (U:List Cv),va=AA AB (a:Int)/\vb=AA AB (b:Int)/\a<=n/\Hid (a=q*20)/\Hid (b=a+20)/\Hid (R U wr)/\Hid (Ch o 0 n l U)/\Hid (OG o U 20 0 a)) (λva _ _=>n-(BF va).toNat)
 case atStart=>exact⟨0,0,20,l,rfl,rfl,a5,rfl,rfl,H.out,Ch.refl _ _ _ _,λi _ i2=>by omega⟩
 case round=>
  obtain⟨q,a,b,U,rfl,rfl,ae,HA,J,HR,vc,HM⟩:=hrel;by_cases aa:b<=n
  ·obtain⟨b2,DN⟩:∃b2:Nat,b2=b+20:=⟨_,rfl⟩;have s1:(b:Int)+20=(b2:Int):=a5;have HL:=AO (cE HC.out hn a b (by have:=J.out;omega) aa HR.out);have E1:=AO DN;clear DN;go_wp2_with fail
   refine HL.out.mono ?_;rintro e w1 ⟨rfl,l',h1,I,h3⟩;have H1:=AO h1;have H2:=AO (vc.out.trans (I.mono (Aq _) aa));have H3:Hid (OG o l' 20 0 b):=by
    have Q:=HA.out;have hm:=HM.out;rw[Q]at I h3 hm;exact K6 hm I h3
   clear h1 I h3;go_wp2
   go_roundw
   case rel=>exact⟨q+1,b,b2,l',rfl,rfl,aa,by have:=HA.out;have:=J.out;unfold Hid;omega,E1.out,H1.out,H2.out,H3.out⟩
   case measure=>have:=J.out;simp[BF];omega
  ·have HL:=AO (cE HC.out hn a n ae ao HR.out);have aA:Hid (n<a+20):=by have:=J.out;unfold Hid;omega
   go_wp2_with fail
   refine HL.out.mono ?_;rintro e w1 ⟨rfl,l1,h1,I,h3⟩;have H1:=AO h1;have H2:=AO (vc.out.trans (I.mono (Aq _) ao));have H3:Hid (OG o l1 20 0 n):=by
    have Q:=HA.out;have hm:=HM.out;rw[Q]at I h3 hm;exact K6 hm I h3
   clear h1 I h3 HL HR vc HM HA J aA aa ae;go_wp2
   go_loopw [4,5,6,7] (λv4 v5 v6 v7 wr=>∃(s:Nat) (U:List Cv),v4=AA AB (s:Int)/\20<=s/\s<=300000/\Hid (R U wr)/\Hid (Ch o 0 n l U)/\Hid (OG o U s 0 n)) (λv4 _ _ _ _=>n-(BF v4).toNat)
   case atStart=>exact⟨20,l1,rfl,a5,a5,H1.out,H2.out,H3.out⟩
   case round=>
    obtain⟨s,U,rfl,aC,wN,HR,vc,HM⟩:=hrel;by_cases aa:s<n
    ·obtain⟨d,hd⟩:∃d:Nat,d=2*s:=⟨_,rfl⟩;have s1:(2:Int)*(s:Int)=(d:Int):=a5;have s2:(s:Int)*2=(d:Int):=a5;have xJ:d<=200000:=a5;have HD:=AO hd;clear hd;go_wp2
     go_loopw [5,6] (λva vb wq=>∃(q a b:Nat) (O:List Cv),va=AA AB (a:Int)/\vb=AA AB (b:Int)/\a<=n/\b<=400000/\Hid (a=q*d)/\Hid (b=a+d)/\Hid (R O wq)/\Hid (Ch o 0 n l O)/\Hid (OG o O d 0 a)/\Hid (OG o O s a n)) (λva _ _=>n-(BF va).toNat)
     case atStart=>exact⟨0,0,d,U,rfl,rfl,a5,a5,by unfold Hid;omega,by unfold Hid;omega,HR.out,vc.out,λi _ i2=>by omega,HM.out⟩
     case round=>
      obtain⟨q,a,b,O,rfl,rfl,ae,Ta,HA,J,al,av,ar,ab⟩:=hrel;obtain⟨m,hm⟩:∃m:Nat,m=a+s:=⟨_,rfl⟩;have s3:(a:Int)+(s:Int)=(m:Int):=a5;have ad:Hid (∀x,x<=n->m<=x->x<=b->Es o O a m/\Es o O m x):=λx x1 x2 x3=>by
       have Q:=HA.out;have hB:=J.out;have hD:=HD.out;have e1:a=(2*q)*s:=by rw[Q,hD,<-Nat.mul_assoc,B6 q 2]
       have e2:m=(2*q+1)*s:=by rw[A6,<-e1,BD];exact hm
       exact⟨Vu (q:=2*q) ab.out ao a5 a5 a5,Vu (q:=2*q+1) ab.out a5 x1 a5 a5⟩
      have aB:=AO hm;by_cases M6:b<=n
      ·obtain⟨b2,DN⟩:∃b2:Nat,b2=b+d:=⟨_,rfl⟩;have s4:(b:Int)+(d:Int)=(b2:Int):=a5;have HL:=AO (U1 HC.out hn (b-a) a m b ao a5 (by have:=J.out;have:=HD.out;omega) M6 O wr (by exact al.out) (ad.out b M6 (by have:=J.out;have:=HD.out;omega) ao).1 (ad.out b M6 (by have:=J.out;have:=HD.out;omega) ao).2);have E1:=AO DN;clear DN hm;go_wp2_with fail
       refine HL.out.mono ?_;rintro e w1 ⟨rfl,l',h1,I,h3⟩;have H1:=AO h1;have H2:=AO (av.out.trans (I.mono (Aq _) M6));have H4:=AO (iq (a':=b) (b':=n) (λi i1 i2 i3=>ab.out i (by have:=J.out;omega) i2 i3) I (.inl ao));have H3:Hid (OG o l' d 0 b):=by
        have Q:=HA.out;have hq:=ar.out;rw[Q]at I h3 hq;exact K6 hq I h3
       clear h1 I h3;go_wp2
       go_roundw
       case rel=>exact⟨q+1,b,b2,l',rfl,rfl,M6,by have:=E1.out;omega,by have:=HA.out;have:=J.out;unfold Hid;rw[A6];omega,E1.out,H1.out,H2.out,H3.out,H4.out⟩
       case measure=>have:=J.out;have:=HD.out;simp[BF];omega
      ·by_cases aw:m<n
       ·have HL:=AO (U1 HC.out hn (n-a) a m n ao a5 aw ao O wr (by exact al.out) (ad.out n ao a5 a5).1 (ad.out n ao a5 a5).2);clear hm;go_wp2_with fail
        refine HL.out.mono ?_;rintro e w1 ⟨rfl,l',h1,I,h3⟩;have H1:=AO h1;have H2:=AO (av.out.trans (I.mono (Aq _) ao));have H3:Hid (OG o l' d 0 n):=by
         have Q:=HA.out;have hq:=ar.out;rw[Q]at I h3 hq;exact K6 hq I h3
        clear h1 I h3;go_wp2
        go_roundw
        case rel=>exact⟨d,l',rfl,by have:=HD.out;omega,a5,H1.out,H2.out,H3.out⟩
        case measure=>have:=HD.out;simp[BF];omega
       ·have H3:Hid (OG o O d 0 n):=by
         have Q:=HA.out;have hq:=ar.out;have hD:=HD.out;have e1:a=(2*q)*s:=by rw[Q,hD,<-Nat.mul_assoc,B6 q 2]
         have h3:Es o O a n:=Vu (q:=2*q) ab.out ao ao a5 a5;rw[Q]at h3 hq;exact K6 hq (Ch.refl _ _ _ _) h3
        clear hm;go_wp2
        go_roundw
        case rel=>exact⟨d,O,rfl,by have:=HD.out;omega,a5,al.out,av.out,H3.out⟩
        case measure=>have:=HD.out;simp[BF];omega
    ·have HE:=AO (oo HM.out (show n<=s by omega));go_wp2
     go_end0
     exact⟨rfl,U,HR.out,vc.out,HE.out⟩
theorem ri(C:Nc r n o R)(J:n<=100000)(h:R l W)(hlen:∀l W,R l W->Calls AP 153 #[AI r] W λe w'=>e=AH n/\R l w'):
  Calls AP 149 #[.iface 221 (AI r)] W λe w'=>e=AH (AM #[])/\∃l',R l' w'/\Ch o 0 n l l'/\Es o l' 0 n:=by
 have mN:=sA r;have Q:=AO (hlen _ _ h);have O:Hid (∀w,R l w->Calls AP 155 #[.iface 221 (AI r),n] w λe w'=>e=AH (AM #[])/\∃l',R l' w'/\Ch o 0 n l l'/\Es o l' 0 n):=λw hw=>kU C J hw;clear h C hlen;go_enter func149,ntmps149
 go_wp2_with fail
 refine Q.out.mono ?_;rintro e w1 ⟨rfl,I⟩;have H1:=AO (O.out _ I);clear I;go_wp2_with fail
 refine H1.out.mono ?_;rintro e w2 ⟨rfl,H⟩;have U:=AO H;clear H;go_wp2
 go_end0
 exact⟨rfl,U.out⟩
end
def ID(k:Nat)(l:List Cv):Prop:=∀u∈l,EE u/\Dc k u=true
section
variable{X:Cx}{os:List DA}{m i ir ig:Nat}{W W':World}{r b g M k q told:Nat}{o:Cv}{l:List Cv}
theorem Wd.bW(h:Wd X os m W)(Q:os[ir]?=AE (Cs r 225 (Jf k g (q*k) M o told)))(hg:os[ig]?=AE (Fw b g M k l))(U:0<k/\k<=5)(H:q*k<=M/\M<=1000000/\q<=1000000)(J:l.length=q)(O:told<=q)(hf:ID k l):∃ws,Ib W r k g (q*k) M q o told ws l/\r≠g:=by
 obtain⟨h1,ws,h2,h4,h5⟩:=h.at_ hg;have I:=h.row Q;exact⟨ws,⟨I,h4,U,⟨rfl,H.1,H.2.1,h2,H.2.2⟩,J,O,by rw[<-J];exact h5,hf⟩,λe=>absurd (I.typed (e▸h4)) a6⟩
theorem Wd.words(h:Wd X os m W)(O:os[ig]?=AE (Fw b g M k l)){ws:List Nat}{l'}(hf:DG (λk=>k=g) W W')(J:Row W' g 120 (ws.map vw))(hw:ws.length=M)(ht:ws.take (l'.length*k)=EL k l'):Wd X (os.set ig (Fw b g M k l')) m W':=by
 obtain⟨Q,U,h2,h4,h5⟩:=h.at_ O;have WM:b≠g:=λe=>absurd (Q.typed (e▸h4)) a6;have H:=hf.row Q WM;refine h.Of O hf (λk' I=>⟨.inr I,λv hv=>?_⟩) Uy ⟨H,ws,hw,J,ht⟩ (λk' I=>⟨.inl I,?_⟩) rfl rfl (λ_ _=>trivial)
 ·subst I;exact absurd (h4.typed hv) a6
 ·exact I.elim (λe=>by rw[e];exact H.lt) λe=>by rw[e];exact J.lt
theorem eo(h0:os[ir]?=AE (Cs r 225 (Jf k g (q*k) M o told)))(hi:ir≠ig)(hk:0<k/\k<=5)(hM:q*k<=M/\M<=1000000/\q<=1000000)(U:told<=q)(O:ig<os.length):
  Nc r q o (λl W=>Wd X (os.set ig (Fw b g M k l)) m W/\l.length=q/\ID k l):=by
 have hr:∀l,(os.set ig (Fw b g M k l))[ir]?=AE (Cs r 225 (Jf k g (q*k) M o told)):=λl=>Fa h0 λe=>hi e.symm;have Q:∀l,(os.set ig (Fw b g M k l))[ig]?=AE (Fw b g M k l):=λl=>by rw[Av,if_pos rfl,if_pos O]
 have J:∀l l',(os.set ig (Fw b g M k l)).set ig (Fw b g M k l')=os.set ig (Fw b g M k l'):=λl l'=>List.set_set _;refine⟨λl W h=>h.2.1,λl W ⟨h,h1,h2⟩ i j hi hj=>?_,λl W ⟨h,h1,h2⟩ i j hi hj Il=>?_⟩
 ·obtain⟨ws,I,_⟩:=h.bW (hr l) (Q l) hk hM h1 U h2;exact(ez I hi hj).mono λe w' ⟨he,hb⟩=>⟨he,h.below hb,h1,h2⟩
 ·obtain⟨ws,I,gH⟩:=h.bW (hr l) (Q l) hk hM h1 U h2;refine(ep I hi hj Il gH).mono ?_;rintro e w' ⟨he,⟨E7,H⟩,hf⟩;have h9:=h.words (Q l) hf H.words (H.nn.2.2.2.1) (by rw[H.len];exact H.flat);rw[J]at h9;exact⟨he,h9,H.len,H.fit⟩
theorem Iu{os:List DA}{i a}(h:os[i]?=AE a):os.set i a=os:=by
 refine List.ext_getElem? λj=>?_;rw[Av];by_cases H:i=j
 ·subst H;rw[if_pos rfl,h,if_pos];rcases Am i os.length with e|e
  ·exact e
  ·rw[BG e]at h;cases h
 ·rw[if_neg H]
theorem MI{os:List DA}{i a}(h:os[i]?=AE a):i<os.length:=by
 rcases Am i os.length with e|e
 ·exact e
 ·rw[BG e]at h;cases h
theorem di(h:Wd X os m W)(J:os[ir]?=AE (Cs r 225 (Jf k g (q*k) M o told)))(Q:os[ig]?=AE (Fw b g M k l))(hi:ir≠ig)(O:0<k/\k<=5)(I:q*k<=M/\M<=1000000/\q<=100000)(hl:l.length=q)(ht:told<=q)(hf:ID k l):
  Calls AP 149 #[.iface 221 (AI r)] W λe w'=>e=AH (AM #[])/\∃l',NC o l'/\Cl o l l'/\l'.length=q/\ID k l'/\Wd X (os.set ig (Fw b g M k l')) m w':=by
 have C:=eo (X:=X) (m:=m) (b:=b) J hi O ⟨I.1,I.2.1,a5⟩ ht (MI Q);refine(ri (l:=l) (W:=W) C I.2.2 ⟨by rw[Iu Q];exact h,hl,hf⟩ λl W hR=>?_).mono ?_
 ·have H:=hR.1.row (Fa (b:=Fw b g M k l) J λe=>hi e.symm);exact(Ru H O.1 rfl a5).mono λe w' ⟨he,d,hw⟩=>⟨he,by rw[hw];exact hR.1.drewN d,hR.2⟩
 ·rintro e w' ⟨he,l',⟨h1,U,h3⟩,hc,ha⟩;exact⟨he,l',uv.2 (by rw[U];exact ha),hc.cl,U,h3,h1⟩
theorem ju(h:Wd X os m W)(H:os[ir]?=AE (Cs r 225 (Jf k g (q*k) M o told)))(hg:os[ig]?=AE (Fw b g M k l))(U:0<k/\k<=5)(hM:q*k<=M/\M<=1000000/\q<=1000000)(Q:l.length=q)(O:told<q)(hf:ID k l){t}(I:l[told]?=AE t):
  Calls AP 190 #[AI r] W λe w'=>e=AH (AM #[AL #[t.a,t.b,t.c,t.d,t.e],true,()])/\Wd X (os.set ir (Cs r 225 (Jf k g (q*k) M o (told+1)))) m w':=by
 obtain⟨ws,J,gH⟩:=h.bW H hg U hM Q a5 hf;have hd:l.getD told Cu=t:=by rw[AT,I];rfl
 refine(lH J O gH).mono ?_;rw[hd];rintro e w' ⟨he,Xe,Ls⟩;exact⟨he,h.Nn H a6 Ls Xe.row⟩
theorem Uv(h:Wd X os m W)(I:os[ir]?=AE (Cs r 225 (Jf k g (q*k) M o q)))(Q:os[ig]?=AE (Fw b g M k l))(O:0<k/\k<=5)(U:q*k<=M/\M<=1000000/\q<=1000000)(J:l.length=q)(hf:ID k l):
  Calls AP 190 #[AI r] W λe w'=>e=AH (AM #[AL #[(),(),(),(),()],false,()])/\Wd X os m w':=by
 obtain⟨ws,H,_⟩:=h.bW I Q O U J ao hf;exact(ey H).mono λe w' ⟨he,hb⟩=>⟨he,h.below hb⟩
def Hf(l:List Cv)(i:Nat)(t:Cv):List Cv:=l.take i++t::l.drop (i+1)
theorem Oa{l i t}(h:i<=l.length):(Hf l i t).length=max l.length (i+1):=by unfold Hf;rw[AY,BY,Ac,An];omega
theorem Ob{l i p t}(h:i<=l.length):(Hf l i t).getD p Cu=if p=i then t else l.getD p Cu:=by
 unfold Hf;have H:(l.take i).length=i:=by rw[Ac];omega
 rw[AT,AT];by_cases I:p<i
 ·rw[if_neg a5,Al a5,At,if_pos I]
 ·rw[AX a5,H];by_cases e:p=i
  ·rw[if_pos e,e,Ap];rfl
  ·rw[if_neg e,show p-i=(p-i-1)+1 by omega,AV,CL,show i+1+(p-i-1)=p by omega]
theorem W8(l:List Cv)(t:Cv):Hf l l.length t=l++[t]:=by unfold Hf;rw[By,List.drop_eq_nil_of_le a5]
theorem XA{l i t}(h:ID k l)(e:EE t/\Dc k t=true):ID k (Hf l i t):=λu hu=>by
 unfold Hf at hu;rcases Ag.1 hu with hu|hu
 ·exact h u (Bo hu)
 ·rcases A8.1 hu with hu|hu
  ·rw[hu];exact e
  ·exact h u (List.mem_of_mem_drop hu)
theorem ZF{ws l i t}(Q:k<=5)(hf:ws.take (l.length*k)=EL k l)(hi:i<=l.length)(hw:i*k+k<=ws.length)(O:l.length*k<=ws.length):(splice ws (i*k) (DW k t)).take ((Hf l i t).length*k)=EL k (Hf l i t):=by
 have J:=Fl Q t;have Oj:(splice ws (i*k) (DW k t)).length=ws.length:=DL _ _ _ (by rw[J];exact hw);have hle:∀p H,p<H->p*k+k<=H*k:=λp H h=>by
  have:=Ae k (show p+1<=H from h);rw[A6,BD]at this;exact this
 have e:∀p,p<l.length->(ws.drop (p*k)).take k=DW k (l.getD p Cu):=λp hp=>(Ox Q rfl rfl hf (getD_some hp)).2;have hlen:(Hf l i t).length*k<=ws.length:=by
  rw[Oa hi];rcases Nat.le_total l.length (i+1)with h|h
  ·rw[Nat.max_eq_right h,A6,BD];exact hw
  ·rw[Nat.max_eq_left h];exact O
 refine LX Q _ _ (by rw[Oj];exact hlen) λp hp=>?_;have aa:p*k+k<=(Hf l i t).length*k:=hle p _ hp;rw[Ob hi];by_cases I:p=i
 ·rw[if_pos I,I];unfold splice;rw[List.drop_left' (by rw[Ac];omega),List.take_left' J]
 ·rw[if_neg I];rw[Oa hi]at hp;rw[<-e p a5];refine VB a5 a5 λc hc=>?_;rw[AT,AT,ET _ _ _ (by rw[J];exact hw)];rw[J];rcases Nat.lt_or_gt_of_ne I with U|U
  ·have:=hle p i U;omega
  ·have:=hle i p U;omega
theorem Y1(h:Wd X os m W)(Q:os[ig]?=AE (Fw b g M k l))(I:0<k/\k<=5){N}(i:Nat)(t:Cv)(hi:i<=l.length)(hn:i*k+k<=N)(J:N<=M/\M<=1000000)(aa:l.length*k<=M):
  Calls AP 154 #[AL #[k,AJ g N M],i,AL #[t.a,t.b,t.c,t.d,t.e]] W λe w'=>e=AH (AM #[])/\Wd X (os.set ig (Fw b g M k (Hf l i t))) m w'/\(∀{c ty O},ty≠120->Row W c ty O->Row w' c ty O):=by
 obtain⟨h1,ws,h2,h4,h5⟩:=h.at_ Q;refine(rq t h4 I hn J.1 J.2 (by rw[h2];exact J.1)).mono ?_;rintro e w' ⟨he,hr,hf⟩;exact⟨he,h.words Q hf hr (by rw[DL _ _ _ (by rw[Fl I.2];omega)];exact h2) (ZF I.2 h5 hi a5 a5),λH U=>hf.row U λe=>H (Row.typed U (e▸h4))⟩
theorem fC(x:Nat)(w:World):Br AP (method 371 81 (AI x) "Next") w=.ok (48,AI x) w:=a7
end
section
variable{X:Cx}{os:List DA}{m ix ir ig:Nat}{W W':World}{x r b g M k q told:Nat}{o:Cv}{rt:Rt}{l:List Cv}
def Ge(rt:Rt)(i:Nat):Rt:={rt with pos:=rt.pos+i}
def Ml(X:Cx)(os:List DA)(m ix ig x b g M k:Nat)(rt:Rt)(l:List Cv)(i:Nat)(w':World):Prop:=
 Wd X ((os.set ix (Eu X.p x (Ge rt i) X.sz l)).set ig (Fw b g M k ((l.drop rt.pos).take i))) (m+(Cr rt.h (rt.pos+i)-Cr rt.h rt.pos)) w'
def O9(X:Cx)(os:List DA)(m ix ig x b g M k:Nat)(rt:Rt)(l:List Cv)(i:Nat)(w':World):Prop:=
 Wd X ((os.set ix (Eu X.p x (Ge rt (i+1)) X.sz l)).set ig (Fw b g M k ((l.drop rt.pos).take i))) (m+(Cr rt.h (rt.pos+(i+1))-Cr rt.h rt.pos)) w'
def P8(X:Cx)(os:List DA)(ix ig x b g M k:Nat)(w':World):Prop:=¬X.cm/\∃sF l' m',Wd X ((os.set ix (Nr X.p x sF)).set ig (Fw b g M k l')) m' w'
theorem fe(hi:ix≠ig)(H:qS rt X.sz l)(EY:Src os X.sz rt.first rt.k rt.h l)(Q:os[ix]?=AE (Eu X.p x rt X.sz l))(hg:os[ig]?=AE (Fw b g M k [])){i}(hp:rt.pos+i<rt.count)(hn:X.N+(m+(Cr rt.h (rt.pos+i)-Cr rt.h rt.pos))<1000000){w}(h:Ml X os m ix ig x b g M k rt l i w){t}(U:l[rt.pos+i]?=AE t):
  Calls AP 48 #[AI x] w λe w'=>
   (e=AH (AM #[AL #[t.a,t.b,t.c,t.d,t.e],true,()])/\Wd X ((os.set ix (Eu X.p x (Ge rt (i+1)) X.sz l)).set ig (Fw b g M k ((l.drop rt.pos).take i))) (m+(Cr rt.h (rt.pos+(i+1))-Cr rt.h rt.pos)) w')\/
   (e=AH (AM #[AL #[(),(),(),(),()],false,AA AB 6])/\P8 X os ix ig x b g M k w'):=by
 have J:((os.set ix (Eu X.p x (Ge rt i) X.sz l)).set ig (Fw b g M k ((l.drop rt.pos).take i)))[ix]?=AE (Eu X.p x (Ge rt i) X.sz l):=Fa (IG os Q _) λe=>hi e.symm;have gN:qS (Ge rt i) X.sz l:=⟨⟨H.ok.k,H.ok.h,H.ok.sz,⟨H.ok.count.1,by show rt.pos+i<=rt.count;omega⟩,H.ok.first⟩,H.cnt,H.fit⟩;have O:Src ((os.set ix (Eu X.p x (Ge rt i) X.sz l)).set ig (Fw b g M k ((l.drop rt.pos).take i))) X.sz (Ge rt i).first (Ge rt i).k (Ge rt i).h l:=(EY.set Q (b:=Eu X.p x (Ge rt i) X.sz l) ⟨rfl,rfl⟩).set (i:=ig) (a:=Fw b g M k []) (Fa hg hi) ⟨rfl,rfl⟩;have DV:=Db (h:=rt.h) (c:=rt.pos) (c':=rt.pos+i) H.ok.h.1 a5;have DN:=Db (h:=rt.h) (c:=rt.pos+i) (c':=rt.pos+(i+1)) H.ok.h.1 a5;refine(OO h J gN hn hp O U).mono ?_;rintro e w' (⟨he,I⟩|⟨he,hc,I⟩)
 ·refine .inl ⟨he,?_⟩;rw[List.set_comm _ _ (λe=>hi e.symm),List.set_set]at I;have e1:m+(Cr rt.h (rt.pos+i)-Cr rt.h rt.pos)+(Cr (Ge rt i).h ((Ge rt i).pos+1)-Cr (Ge rt i).h (Ge rt i).pos)=m+(Cr rt.h (rt.pos+(i+1))-Cr rt.h rt.pos):=by
   show m+(Cr rt.h (rt.pos+i)-Cr rt.h rt.pos)+(Cr rt.h (rt.pos+i+1)-Cr rt.h (rt.pos+i))= _;rw[show rt.pos+i+1=rt.pos+(i+1)by omega];omega
  rw[e1]at I;exact I
 ·rw[List.set_comm _ _ (λe=>hi e.symm),List.set_set]at I;exact .inr ⟨he,hc,_,_,_,I⟩
theorem Jo{h}(hh:0<h)(p:Nat):∀i,Cr h (p+i)<=Cr h p+i
 |0=>AQ _
 |i+1=>by
  have H:=Jo hh p i;have e:=Qb (h:=h) (i:=p+i) hh;rw[show p+(i+1)=p+i+1 by omega,e]
  split<;>omega
theorem eB{l:List Cv}{p i t}(H:l[p+i]?=AE t):Hf ((l.drop p).take i) i t=(l.drop p).take (i+1):=by
 have I:p+i<l.length:=(BM.1 H).1;have J:((l.drop p).take i).length=i:=by rw[Ac,An];omega
 have e:Hf ((l.drop p).take i) i t=(l.drop p).take i++[t]:=by
  have:=W8 ((l.drop p).take i) t;rwa [J]at this
 rw[e,Bi,CL,H];rfl
theorem qs(h:Wd X os m W)(hr:os[ir]?=AE (Cs r 225 (Jf k g (q*k) M o told)))(hg:os[ig]?=AE (Fw b g M k []))(hx:os[ix]?=AE (Eu X.p x rt X.sz l))(gH:ir≠ig)(Lo:ir≠ix)(YZ:ix≠ig)(hk:0<k/\k<=5)(hM:q*k<=M/\M<=1000000/\q<=100000)
  (DK:qS rt X.sz l)(EY:Src os X.sz rt.first rt.k rt.h l)(hp:rt.pos+q<=rt.count)(hn:X.N+m+q+1<=1000000):
  Calls AP 148 #[AI r,.iface 81 (AI x)] W λe w'=>
   (e=AH ()/\Ml X os m ix ig x b g M k rt l q w')\/(e=AH (AA AB 6)/\P8 X os ix ig x b g M k w'):=by
 have mN:=fC x;have aa:=h.row hr;have JC:=AO (Ru aa hk.1 rfl a5);have H0:Hid (∀d,Ml X os m ix ig x b g M k rt l 0 (W.drewN d)):=λd=>by
  unfold Ml;have e1:Ge rt 0=rt:=rfl;rw[e1,Nat.add_zero,Ap,Nat.add_zero,Bt,Iu (i:=ix) hx,Iu (i:=ig) hg];exact h.drewN d
 have Tf:Hid (∀i w t,i<q->l[rt.pos+i]?=AE t->Ml X os m ix ig x b g M k rt l i w->Calls AP 48 #[AI x] w λe w'=>
   (e=AH (AM #[AL #[t.a,t.b,t.c,t.d,t.e],true,()])/\O9 X os m ix ig x b g M k rt l i w')\/
   (e=AH (AM #[AL #[(),(),(),(),()],false,AA AB 6])/\P8 X os ix ig x b g M k w')):=λi w t hi ht hL=>by
  have av:Cr rt.h (rt.pos+i)-Cr rt.h rt.pos<=i:=by
   have h1:=Jo DK.ok.h.1 rt.pos i;omega
  exact fe YZ DK EY hx hg a5 a5 hL ht
 have al:Hid (∀i,i<q->∃t,l[rt.pos+i]?=AE t):=λi hi=>⟨_,AU (by have:=DK.cnt;omega)⟩;have bB:Hid (∀i w t H,i<q->l[rt.pos+i]?=AE t->O9 X os m ix ig x b g M k rt l i w->Row w H 47 [t.a,t.b,t.c,t.d,t.e]->
   (w.cell? r=AE (AA AB k)/\w.cell? (r,1)=AE (AJ g (q*k) M))/\Calls AP 154 #[AL #[k,AJ g (q*k) M],i,AL #[t.a,t.b,t.c,t.d,t.e]] w λe w'=>e=AH (AM #[])/\Ml X os m ix ig x b g M k rt l (i+1) w'/\
    (w'.cell? r=AE (AA AB k)/\w'.cell? (r,1)=AE (AJ g (q*k) M))/\Row w' H 47 [t.a,t.b,t.c,t.d,t.e]):=λi w t H hi ht hW nU=>by
  have mq:=hW.row (Fa (b:=Fw b g M k ((l.drop rt.pos).take i)) (Fa (b:=Eu X.p x (Ge rt (i+1)) X.sz l) hr λe=>Lo e.symm) λe=>gH e.symm);have hl:((l.drop rt.pos).take i).length=i:=by rw[Ac,An,DK.cnt];omega
  have nE:i*k+k<=q*k:=by
   have:=Ae k (show i+1<=q from hi);rw[A6,BD]at this;exact this
  refine⟨⟨mq.cell 0,mq.cell 1⟩,?_⟩;refine(Y1 hW (IG _ (Fa (b:=Eu X.p x (Ge rt (i+1)) X.sz l) hg YZ) _) hk i t a5 nE ⟨hM.1,hM.2.1⟩ (by rw[hl];omega)).mono ?_;rintro e w' ⟨he,h1,I⟩;refine⟨he,?_,⟨(I a6 mq).cell 0,(I a6 mq).cell 1⟩,I a6 nU⟩;rw[List.set_set,eB ht]at h1;exact h1
 clear h hr hg hx gH Lo YZ EY aa DK hp hn;have ae:Hid (∀i w w',O9 X os m ix ig x b g M k rt l i w->Below w w w'->O9 X os m ix ig x b g M k rt l i w'):=λi w w' h1 I=>Wd.below h1 I;have ar:Hid (∀w w',P8 X os ix ig x b g M k w->Below w w w'->P8 X os ix ig x b g M k w'):=λw w' h1 I=>by
  obtain⟨h3,sF,l',m',h4⟩:=h1;exact⟨h3,sF,l',m',h4.below I⟩
 generalize O9 X os m ix ig x b g M k rt l=LM at*
 generalize Ml X os m ix ig x b g M k rt l=LA at*
 generalize P8 X os ix ig x b g M k=LN at*
 generalize q*k=N at*
 have hq:q<=100000:=hM.2.2;go_enter func148,ntmps148
 go_wp2_with fail
 refine JC.out.mono ?_;rintro e w1 ⟨rfl,d,rfl⟩;have H1:=AO (H0.out d);clear H0 JC;generalize W.drewN d=w1 at*
 go_wp2
 go_loopw [5,6,7,8,11] (λ_ _ _ _ iv wr=>∃i:Nat,i<=q/\iv=AA AB (i:Int)/\Hid (LA i wr)) (λ_ _ _ _ iv _=>q-(BF iv).toNat)
 case atStart=>exact⟨0,Aq _,rfl,H1.out⟩
 case round=>
  obtain⟨i,hi,rfl,HL⟩:=hrel;by_cases ab:i<q
  ·obtain⟨t,ht⟩:=al.out i ab;have yB:=AO (Tf.out i wr t ab ht HL.out);have HT:=AO ht;obtain⟨ta,tb,Q,O,J⟩:=t;simp only at yB;clear ht;go_wp2_with fail
   refine yB.out.mono ?_;rintro e w2 (⟨rfl,I⟩|⟨rfl,I⟩)
   ·have nU:Below w2 w2 (w2.alloc (AK #[ta,tb,Q,O,J] 47)):=(AS _ _).alloc ao _;have GL:Row (w2.alloc (AK #[ta,tb,Q,O,J] 47)) w2 47 [ta,tb,Q,O,J]:=heap_alloc_new _ _;have IE:=AO GL;have Jy:=AO (ae.out _ _ _ I nU);clear I nU GL;go_upto_region 7 with(fail)
    generalize w2.alloc (AK #[ta,tb,Q,O,J] 47)=w3 at*
    generalize w2.heap.size=H at*
    have dO:Hid (((w3.drewN 1).cell? r=AE (AA AB k)/\(w3.drewN 1).cell? (r,1)=AE (AJ g N M))/\Calls AP 154 #[AL #[k,AJ g N M],i,AL #[ta,tb,Q,O,J]] (w3.drewN 1) λe w'=>e=AH (AM #[])/\LA (i+1) w'/\
     (w'.cell? r=AE (AA AB k)/\w'.cell? (r,1)=AE (AJ g N M))/\Row w' H 47 [ta,tb,Q,O,J]):=bB.out i (w3.drewN 1) ⟨ta,tb,Q,O,J⟩ H ab HT.out (ae.out _ _ _ Jy.out (Cy (AS _ _) 1)) (IE.out.drewN 1)
    have pE:Hid (Row (w3.drewN 1) H 47 [ta,tb,Q,O,J]):=IE.out.drewN 1;have e0:w3.drew.cell? r=AE (AA AB k):=dO.out.1.1;have e1:w3.drew.cell? (r,1)=AE (AJ g N M):=dO.out.1.2;have d0:w3.drew.cell? ⟨H,0,AD⟩=AE (AA AB ta):=pE.out.cell 0;have d1:w3.drew.cell? ⟨H,1,AD⟩=AE (AA AB tb):=pE.out.cell 1;have d2:w3.drew.cell? ⟨H,2,AD⟩=AE (AA AB Q):=pE.out.cell 2;have d3:w3.drew.cell? ⟨H,3,AD⟩=AE (AA AB O):=pE.out.cell 3;have d4:w3.drew.cell? ⟨H,4,AD⟩=AE (AA AB J):=pE.out.cell 4;have yJ:=AO dO.out.2;have ad:w3.drewN 1=w3.drew:=rfl;rw[ad]at yJ;clear ad dO;go_region_held3 (λw'=>w'.cell? r=AE (AA AB k)/\w'.cell? (r,1)=AE (AJ g N M)/\w'.cell? H=AE (AA AB ta)/\w'.cell? (H,1)=AE (AA AB tb)/\w'.cell? (H,2)=AE (AA AB Q)/\w'.cell? (H,3)=AE (AA AB O)/\w'.cell? (H,4)=AE (AA AB J)) (first|with_reducible exact⟨e0,e1,d0,d1,d2,d3,d4⟩|with_reducible exact q2)
     ((go_at_call 154;(with_reducible refine yJ.out.mono ?_);rintro e U ⟨rfl,h5,h6,h7⟩;obtain⟨H5,q2⟩:Hid (LA (i+1) U)/\(U.cell? r=AE (AA AB k)/\U.cell? (r,1)=AE (AJ g N M)/\U.cell? H=AE (AA AB ta)/\U.cell? (H,1)=AE (AA AB tb)/\U.cell? (H,2)=AE (AA AB Q)/\U.cell? (H,3)=AE (AA AB O)/\U.cell? (H,4)=AE (AA AB J)):=⟨h5,h6.1,h6.2,h7.cell 0,h7.cell 1,h7.cell 2,h7.cell 3,h7.cell 4⟩))
    go_wp2
    go_roundw
    case rel=>exact⟨i+1,a5,by go_num,H5.out⟩
    case measure=>simp[BF];omega
   ·have H2:=AO I;clear I;go_wp2
    go_ret
    exact .inr ⟨rfl,ar.out _ _ H2.out ((AS _ _).alloc ao _)⟩
  ·obtain rfl:i=q:=a5;go_wp2
   go_ret
   exact .inl ⟨rfl,HL.out⟩
end
def xo(fN:Nat)(vF:Value)(J:Nat->World->Prop)(Jm:Cv->Nat->World->Prop)(E Er:World->Prop):Prop:=
 ∀n w,J n w->Calls AP fN #[vF] w λe w'=>
  (∃t n',e=AH (AM #[DS t,true,()])/\n'<n/\Jm t n' w')\/
  (e=AH (AM #[DS Cu,false,()])/\E w')\/(e=AH (AM #[DS Cu,false,AA AB 6])/\Er w')
def AL8(fP:Nat)(vT:Value)(J:Nat->World->Prop)(Jm:Cv->Nat->World->Prop)(Er:World->Prop):Prop:=
 ∀t n w,Jm t n w->Calls AP fP #[vT,DS t] w λe w'=>(e=AH ()/\J n w')\/(e=AH (AA AB 6)/\Er w')
theorem XB{tF tT fN fP n:Nat}{vF vT J Jm E Er W}
  (mN:∀w,Br AP (method 371 tF vF "Next") w=.ok (fN,vF) w)(mP:∀w,Br AP (method 371 tT vT "Put") w=.ok (fP,vT) w)
  (eN:∀args w,Br AP (callFunc fN args) w=.ok (.enter fN args) w)(eP:∀args w,Br AP (callFunc fP args) w=.ok (.enter fP args) w)
  (hN:xo fN vF J Jm E Er)(hP:AL8 fP vT J Jm Er)
  (O:∀t n w w',Jm t n w->Below w w w'->Jm t n w')(bE:∀w w',E w->Below w w w'->E w')(Q:∀w w',Er w->Below w w w'->Er w')
  (h:J n W):Calls AP 138 #[.iface tF vF,.iface tT vT] W λe w'=>(e=AH ()/\E w')\/(e=AH (AA AB 6)/\Er w'):=by
 have HN:=AO hN;have HP:=AO hP;have BJ:=AO O;have BE:=AO bE;have BR:=AO Q;have H:=AO h;clear hN hP O bE Q h;go_enter func138,ntmps138
 go_wp2_with fail
 go_loopw [4] (λ_ wr=>∃k:Nat,Hid (J k wr)) (λ_ wr=>Hg λk=>J k wr)
 case atStart=>exact⟨n,H⟩
 case round=>
  obtain⟨k,hJ⟩:=hrel;have HJ:Hid (J (Hg λk=>J k wr) wr):=(Fe (P:=λk=>J k wr) hJ.out).1;have yB:=AO (HN.out _ wr HJ.out);clear hJ;go_wp2_with fail
  refine yB.out.mono ?_;rintro e w2 (⟨t,n',rfl,wX,I⟩|⟨rfl,I⟩|⟨rfl,I⟩)
  ·have KV:=AO wX;have Jy:=AO (BJ.out t n' _ _ I ((AS w2 w2).alloc ao (AK #[t.a,t.b,t.c,t.d,t.e] 47)));have GL:Row (w2.alloc (AK #[t.a,t.b,t.c,t.d,t.e] 47)) w2 47 [t.a,t.b,t.c,t.d,t.e]:=heap_alloc_new _ _;have IE:=AO GL;clear I GL wX;unfold DS;go_upto_region 4 with(fail)
   generalize w2.alloc (AK #[t.a,t.b,t.c,t.d,t.e] 47)=w3 at*
   generalize w2.heap.size=bt at*
   have U:=AO (HP.out t n' w3 Jy.out);unfold DS at U;obtain⟨d0,d1,d2,d3,d4⟩:=IE.out.q5;go_wp2_with fail
   refine U.out.mono ?_;rintro e w4 (⟨rfl,h4⟩|⟨rfl,h4⟩)
   ·have H4:=AO h4;clear h4;go_wp2
    go_roundw
    case rel=>exact⟨n',H4⟩
    case measure=>exact Ce (Fe (P:=λk=>J k w4) H4.out).2 KV.out
   ·have H4:=AO h4;clear h4;go_wp2
    go_ret
    exact .inr ⟨rfl,H4.out⟩
  ·have H2:=AO I;clear I;unfold DS Cu;go_wp2
   go_ret
   exact .inl ⟨rfl,BE.out _ _ H2.out ((AS _ _).alloc ao _)⟩
  ·have H2:=AO I;clear I;unfold DS Cu;go_wp2
   go_ret
   exact .inr ⟨rfl,BR.out _ _ H2.out ((AS _ _).alloc ao _)⟩
def MZ(x:Nat)(o:Cv)(hd:Bool)(la:Cv):List Value:=[.iface 65 (AI x),o.a,o.b,o.c,o.d,o.e,hd,la.a,la.b,la.c,la.d,la.e]
theorem WR(x:Nat)(w:World):Br AP (method 371 65 (AI x) "Put") w=.ok (30,AI x) w:=a7
section
variable{X:Cx}{os:List DA}{m iw jf:Nat}{W W':World}{x f:Nat}{o la t:Cv}{hd:Bool}
theorem UT{W}(H:Row W f 220 (MZ x o hd la)):Row (((((((W.setCell (f,6) true).setCell (f,7) t.a).setCell (f,8) t.b).setCell (f,9) t.c).setCell (f,10) t.d).setCell (f,11) t.e).drew) f 220 (MZ x o true t)/\
  DG (λk=>k=f) W (((((((W.setCell (f,6) true).setCell (f,7) t.a).setCell (f,8) t.b).setCell (f,9) t.c).setCell (f,10) t.d).setCell (f,11) t.e).drew):=
 ⟨by
  have h:=((((((H.set 6 true).set 7 t.a).set 8 t.b).set 9 t.c).set 10 t.d).set 11 t.e).drewN 1;have e:((((((MZ x o hd la).set 6 true).set 7 t.a).set 8 t.b).set 9 t.c).set 10 t.d).set 11 t.e=MZ x o true t:=rfl;rw[e]at h;exact h,by
  have O:DG (λk=>k=f) W W:=DG.refl _ _;have J:=O.set (p:=(f,6)) (.inl rfl) true;have I:=J.set (p:=(f,7)) (.inl rfl) t.a;have h3:=I.set (p:=(f,8)) (.inl rfl) t.b;have h4:=h3.set (p:=(f,9)) (.inl rfl) t.c;have h5:=h4.set (p:=(f,10)) (.inl rfl) t.d;exact(h5.set (p:=⟨f,11,AD⟩) (.inl rfl) (AA AB t.e)).drew⟩
theorem og(W:World)(t:Cv):Below W W (W.alloc (AK #[t.a,t.b,t.c,t.d,t.e] 47))/\Row (W.alloc (AK #[t.a,t.b,t.c,t.d,t.e] 47)) W 47 [t.a,t.b,t.c,t.d,t.e]:=⟨(AS _ _).alloc ao _,heap_alloc_new _ _⟩
theorem iE(Q:Row W f 220 (MZ x o true la))(hc:DR o la t=0):Calls AP 184 #[AI f,AL #[t.a,t.b,t.c,t.d,t.e]] W λe w'=>e=AH ()/\Below W W w':=by
 obtain⟨DV,GL⟩:=og W t;have Lw:=Q.below DV Q.lt;have OM:=AO DV;have Q1:Hid (∀W d os,Calls AP 185 #[AL #[la.a,la.b,la.c,la.d,la.e],AL #[t.a,t.b,t.c,t.d,t.e],AL #[o.a,o.b,o.c,o.d,o.e]] (Ai (redrawn W d) os) λe Ej=>e=AH ()/\∃p:Cq,Ej=Ai (redrawn W p.d) p.os):=λW d os=>BU (by have:=RI o la t (Ai (redrawn W d) os);rw[hc]at this;exact this);have J:=AO GL;have H:=AO Lw;clear DV Q GL Lw hc;obtain⟨ta,tb,tc,td,te⟩:=t;obtain⟨al,ae,ad,ab,aa⟩:=la;obtain⟨oa,ob,oc,od,oe⟩:=o;simp only[MZ]at*
 go_enter func184,ntmps184
 go_upto_region 1 with(fail)
 have k6:=Ab (H.out.cell 6);have k1:=Ab (H.out.cell 1);have k2:=Ab (H.out.cell 2);have k3:=Ab (H.out.cell 3);have k4:=Ab (H.out.cell 4);have k5:=Ab (H.out.cell 5);have k7:=Ab (H.out.cell 7);have k8:=Ab (H.out.cell 8);have k9:=Ab (H.out.cell 9);have Zp:=Ab (H.out.cell 10);have ao:=Ab (H.out.cell 11);have b0:=Ab (J.out.cell 0);have b1:=Ab (J.out.cell 1);have b2:=Ab (J.out.cell 2);have b3:=Ab (J.out.cell 3);have b4:=Ab (J.out.cell 4);generalize W.alloc (AK #[ta,tb,tc,td,te] 47)=W1 at*
 generalize I:W.heap.size=bt at*
 have PF:=AO I;clear I;refine Bb a7 a7 ?_
 repeat(any_goals(first|go_big_quiet_step (with_reducible first|exact Q1.out _ _ _)|quiet_step (with_reducible first|exact Q1.out _ _ _)))
 refine CV ?_;intro w5 O;obtain⟨⟨dq,osq⟩,O⟩:=O;have U:=Bj W1 dq osq;rw[<-O]at U;have HB:=AO U;clear O U;go_wp2
 go_ret
 exact⟨rfl,by rw[PF.out];exact OM.out.trans (HB.out.mono (by have h9:=OM.out.size;rw[PF.out]at h9;exact h9))⟩
theorem uS(hr:Row W f 220 (MZ x o hd la))(hc:hd=true->DR o la t≠0){P:Int->World->Prop}(hP:∀W6,Row W6 f 220 (MZ x o true t)->DG (λk=>k=f) W W6->Calls AP 30 #[AI x,AL #[AA AB t.a,AA AB t.b,AA AB t.c,AA AB t.d,AA AB t.e]] W6 λe w'=>∃er,e=AH (AA AB er)/\P er w'):Calls AP 184 #[AI f,AL #[AA AB t.a,AA AB t.b,AA AB t.c,AA AB t.d,AA AB t.e]] W λe w'=>∃er,e=AH (AA AB er)/\P er w':=by
 obtain⟨DV,GL⟩:=og W t;have Lw:=hr.below DV hr.lt;have OM:=AO DV;have mP:=WR x;have HP:=AO hP;clear hP;have aA:=hr.lt;have aB:=AO aA;clear aA;have Q1:Hid (∀W d os,Calls AP 185 #[AL #[la.a,la.b,la.c,la.d,la.e],AL #[t.a,t.b,t.c,t.d,t.e],AL #[o.a,o.b,o.c,o.d,o.e]] (Ai (redrawn W d) os) λe Ej=>e=AH (AA AB (DR o la t))/\∃p:Cq,Ej=Ai (redrawn W p.d) p.os):=λW d os=>BU (RI o la t (Ai (redrawn W d) os));generalize DR o la t=res at*
 have J:=AO GL;have I:=AO Lw;clear DV hr GL Lw;obtain⟨ta,tb,tc,td,te⟩:=t;obtain⟨aw,av,ar,ao,al⟩:=la;obtain⟨oa,ob,oc,od,oe⟩:=o;simp only[MZ]at*
 cases hd
 case false=>
  clear hc;go_enter func184,ntmps184
  go_upto_region 1 with(fail)
  have k6:=Ab (I.out.cell 6);have k1:=Ab (I.out.cell 1);have k2:=Ab (I.out.cell 2);have k3:=Ab (I.out.cell 3);have k4:=Ab (I.out.cell 4);have k5:=Ab (I.out.cell 5);have k7:=Ab (I.out.cell 7);have k8:=Ab (I.out.cell 8);have k9:=Ab (I.out.cell 9);have Zp:=Ab (I.out.cell 10);have aC:=Ab (I.out.cell 11);have b0:=Ab (J.out.cell 0);have b1:=Ab (J.out.cell 1);have b2:=Ab (J.out.cell 2);have b3:=Ab (J.out.cell 3);have b4:=Ab (J.out.cell 4);generalize W.alloc (AK #[ta,tb,tc,td,te] 47)=W1 at*
  generalize O:W.heap.size=bt at*
  have PF:=AO O;clear O;refine Bb a7 a7 ?_
  repeat(any_goals(first|go_big_quiet_step (with_reducible first|exact Q1.out _ _ _)|quiet_step (with_reducible first|exact Q1.out _ _ _)))
  refine CV ?_;intro w5 U;obtain⟨⟨dq,osq⟩,U⟩:=U;have Eh:=Bj W1 dq osq;rw[<-U]at Eh;have HB:=AO Eh;clear U Eh;go_upto_region 3 with(fail)
  have H:=I.out.below HB.out I.out.lt;have Q:=J.out.below HB.out J.out.lt;obtain⟨c1,c2,c3,c4,c5⟩:=Q.q5;have e6:=H.cell 6;have f6:=H.free 6;have e7:=H.cell 7;have f7:=H.free 7;have e8:=H.cell 8;have f8:=H.free 8;have e9:=H.cell 9;have f9:=H.free 9;have ae:=H.cell 10;have ab:=H.free 10;have ad:=H.cell 11;have aa:=H.free 11;have l6:=H.lt;have l7:=Q.lt;go_region
  obtain⟨r7,F7⟩:=UT (t:=⟨ta,tb,tc,td,te⟩) (la:=⟨aw,av,ar,ao,al⟩) (o:=⟨oa,ob,oc,od,oe⟩) H;have NJ:f≠bt:=by have h9:=aB.out;omega
  have t7:=F7.row Q λe=>NJ e.symm;have Jb:Below W W w5:=by rw[PF.out];exact OM.out.trans (HB.out.mono (by have h9:=OM.out.size;rw[PF.out]at h9;exact h9))
  have hF:DG (λk=>k=f) W (((((((w5.setCell (f,6) true).setCell (f,7) ta).setCell (f,8) tb).setCell (f,9) tc).setCell (f,10) td).setCell (f,11) te).drew):=(DG.DB Jb _).trans F7 λb hb=>.inl hb;have HC:=AO (λd=>HP.out (World.drewN _ d) (r7.drewN d) (hF.drewN d));clear e6 f6 e7 f7 e8 f8 e9 f9 ae ab ad aa c1 c2 c3 c4 c5 H Q l6 l7 F7 hF;generalize(((((((w5.setCell (f,6) true).setCell (f,7) ta).setCell (f,8) tb).setCell (f,9) tc).setCell (f,10) td).setCell (f,11) te).drew)=W7 at*
  have e0:W7.cell? f=AE (.iface 65 (AI x)):=r7.cell 0;obtain⟨c1,c2,c3,c4,c5⟩:=t7.q5;go_upto_region 4 with(fail)
  refine wp_region_still_tail 5 a7 a7 ?_;simp only[List.take_succ_cons,Bt,List.drop_succ_cons,Cn];change wpStill AP _ W7.drew (λa'=>wpList AP _ _ _ a' W7.drew) _ _
  repeat still_step
  refine wpStill_nil ?_;go_wp2_with fail
  refine(HC.out 1).mono ?_;rintro e w9 ⟨er,rfl,Z2⟩;have H9:=AO Z2;clear Z2;go_wp2
  go_ret
  exact⟨er,rfl,H9.out⟩
 case true=>
  have aD:=hc rfl;clear hc;go_enter func184,ntmps184
  go_upto_region 1 with(fail)
  have k6:=Ab (I.out.cell 6);have k1:=Ab (I.out.cell 1);have k2:=Ab (I.out.cell 2);have k3:=Ab (I.out.cell 3);have k4:=Ab (I.out.cell 4);have k5:=Ab (I.out.cell 5);have k7:=Ab (I.out.cell 7);have k8:=Ab (I.out.cell 8);have k9:=Ab (I.out.cell 9);have Zp:=Ab (I.out.cell 10);have aC:=Ab (I.out.cell 11);have b0:=Ab (J.out.cell 0);have b1:=Ab (J.out.cell 1);have b2:=Ab (J.out.cell 2);have b3:=Ab (J.out.cell 3);have b4:=Ab (J.out.cell 4);generalize W.alloc (AK #[ta,tb,tc,td,te] 47)=W1 at*
  generalize O:W.heap.size=bt at*
  have PF:=AO O;clear O;refine Bb a7 a7 ?_
  repeat(any_goals(first|go_big_quiet_step (with_reducible first|exact Q1.out _ _ _)|quiet_step (with_reducible first|exact Q1.out _ _ _)))
  refine CV ?_;intro w5 U;obtain⟨⟨dq,osq⟩,U⟩:=U;have Eh:=Bj W1 dq osq;rw[<-U]at Eh;have HB:=AO Eh;clear U Eh;go_upto_region 3 with(fail)
  have H:=I.out.below HB.out I.out.lt;have Q:=J.out.below HB.out J.out.lt;obtain⟨c1,c2,c3,c4,c5⟩:=Q.q5;have e6:=H.cell 6;have f6:=H.free 6;have e7:=H.cell 7;have f7:=H.free 7;have e8:=H.cell 8;have f8:=H.free 8;have e9:=H.cell 9;have f9:=H.free 9;have ae:=H.cell 10;have ab:=H.free 10;have ad:=H.cell 11;have aa:=H.free 11;have l6:=H.lt;have l7:=Q.lt;go_region
  obtain⟨r7,F7⟩:=UT (t:=⟨ta,tb,tc,td,te⟩) (la:=⟨aw,av,ar,ao,al⟩) (o:=⟨oa,ob,oc,od,oe⟩) H;have NJ:f≠bt:=by have h9:=aB.out;omega
  have t7:=F7.row Q λe=>NJ e.symm;have Jb:Below W W w5:=by rw[PF.out];exact OM.out.trans (HB.out.mono (by have h9:=OM.out.size;rw[PF.out]at h9;exact h9))
  have hF:DG (λk=>k=f) W (((((((w5.setCell (f,6) true).setCell (f,7) ta).setCell (f,8) tb).setCell (f,9) tc).setCell (f,10) td).setCell (f,11) te).drew):=(DG.DB Jb _).trans F7 λb hb=>.inl hb;have HC:=AO (λd=>HP.out (World.drewN _ d) (r7.drewN d) (hF.drewN d));clear e6 f6 e7 f7 e8 f8 e9 f9 ae ab ad aa c1 c2 c3 c4 c5 H Q l6 l7 F7 hF;generalize(((((((w5.setCell (f,6) true).setCell (f,7) ta).setCell (f,8) tb).setCell (f,9) tc).setCell (f,10) td).setCell (f,11) te).drew)=W7 at*
  have e0:W7.cell? f=AE (.iface 65 (AI x)):=r7.cell 0;obtain⟨c1,c2,c3,c4,c5⟩:=t7.q5;go_upto_region 4 with(fail)
  refine wp_region_still_tail 5 a7 a7 ?_;simp only[List.take_succ_cons,Bt,List.drop_succ_cons,Cn];change wpStill AP _ W7.drew (λa'=>wpList AP _ _ _ a' W7.drew) _ _
  repeat still_step
  refine wpStill_nil ?_;go_wp2_with fail
  refine(HC.out 1).mono ?_;rintro e w9 ⟨er,rfl,Z2⟩;have H9:=AO Z2;clear Z2;go_wp2
  go_ret
  exact⟨er,rfl,H9.out⟩
end
def Dp(once:Bool)(o:Cv)(s:List Cv):List Cv:=if once then Dy o s else s
theorem SD(once:Bool)(o:Cv)(s:List Cv):(Dp once o s).length<=s.length:=by
 unfold Dp;split
 ·exact R5 o s
 ·exact AQ _
def YK(X:Cx)(x n:Nat)(z:List DA):Prop:=∃t r,z=Yu X.p x t::r/\z.length=n/\Dn r
structure ow (X:Cx) (o:Cv) (once:Bool) (k hh bd x tT fP:Nat) (vT:Value) (Z:List Cv->List DA) (n:Nat):Prop where
 len:∀s,(Z s).length=n
 mm:∀w,Br AP (method 371 tT vT "Put") w=.ok (fP,vT) w
 me:∀args w,Br AP (callFunc fP args) w=.ok (.enter fP args) w
 put:∀(DH UD:List DA) (m:Nat) (s:List Cv) (tu:Cv) (W:World),Wd X (DH++Z s++UD) m W->Dc k tu=true->s.length<bd->X.N+m<1000000->
  Calls AP fP #[vT,DS tu] W λe w'=>
   (e=AH ()/\Wd X (DH++Z (s++[tu])++UD) (m+((Dp once o (s++[tu])).length/hh-(Dp once o s).length/hh)) w')\/
   (e=AH (AA AB 6)/\¬X.cm/\∃z m',YK X x n z/\Wd X (DH++z++UD) m' w')
 hd:∀s,s.length<=bd->∃t r,Z s=I1 X.p x t X.sz::r/\Ep t X.sz/\t.k=k/\t.h=hh/\t.bound=bd/\t.l=Dp once o s/\Dn r
def TV(t:Wt)(l:List Cv):Wt:={t with l:=l}
theorem Ux{t sz}(h:Ep t sz){l}(e:l.length<=t.bound):Ep (TV t l) sz:=⟨h.k,h.h,h.sz,⟨h.bound.1,e⟩,h.blocks,h.first⟩
section
variable{X:Cx}{t0:Wt}{o:Cv}{x f:Nat}
theorem AE6(O:Ep t0 X.sz):ow X o false t0.k t0.h t0.bound x 65 30 (AI x) (λs=>[I1 X.p x (TV t0 s) X.sz]) 1 where
 len:=λ_=>rfl
 mm:=WR x
 me:=λargs w=>by kernel_rfl
 put:=λDH UD m s tu W h hf I Q=>by
  have hi:(DH++[I1 X.p x (TV t0 s) X.sz]++UD)[DH.length+0]?=AE (I1 X.p x (TV t0 s) X.sz):=mM (j:=0) a8;refine(RW h hi (Ux O a5) Q hf (by show s.length<t0.bound;exact I)).mono ?_;rintro e w' (⟨he,H⟩|⟨he,U,H⟩)
  ·rw[SF a8]at H;refine .inl ⟨he,?_⟩;have e1:(Dp false o (s++[tu])).length/t0.h-(Dp false o s).length/t0.h=((TV t0 s).l.length+1)/(TV t0 s).h-(TV t0 s).l.length/(TV t0 s).h:=by
    show (s++[tu]).length/t0.h-s.length/t0.h=(s.length+1)/t0.h-s.length/t0.h;rw[AY];rfl
   rw[e1];exact H
  ·rw[SF a8]at H;exact .inr ⟨he,U,_,_,⟨_,[],rfl,rfl,λq J=>by cases J⟩,H⟩
 hd:=λs I=>⟨_,[],rfl,Ux O I,rfl,rfl,rfl,rfl,λq J=>by cases J⟩
def Vn(x:Nat)(o:Cv)(q:List Cv):List Value:=MZ x o (!q.isEmpty) (q.getLast?.getD Cu)
theorem iK(x:Nat)(o:Cv)(q:List Cv)(t:Cv):Vn x o (q++[t])=MZ x o true t:=by
 unfold Vn;rw[List.getLast?_concat]
 cases q<;>rfl
theorem oG(f:Nat)(w:World):Br AP (method 371 218 (AI f) "Put") w=.ok (184,AI f) w:=a7
theorem AE7(DK:Ep t0 X.sz):ow X o true t0.k t0.h t0.bound x 218 184 (AI (AE ⟨f,0,AD⟩)) (λs=>[I1 X.p x (TV t0 (Dy o s)) X.sz,Cs f 220 (Vn x o (Dy o s))]) 2 where
 len:=λ_=>rfl
 mm:=oG f
 me:=λargs w=>by kernel_rfl
 put:=λDH UD m s tu W h hf hs hn=>by
  have hle:=R5 o s;have O:=Nt o s tu;have hj:(DH++[I1 X.p x (TV t0 (Dy o s)) X.sz,Cs f 220 (Vn x o (Dy o s))]++UD)[DH.length+1]?=AE (Cs f 220 (Vn x o (Dy o s))):=mM (j:=1) a8;have H:=h.row hj;have aa:∀q,Dp true o q=Dy o q:=λq=>rfl;simp only[aa];by_cases mg:∃u,(Dy o s).getLast?=AE u/\DR o u tu=0
  ·obtain⟨u,hu,I⟩:=mg;have e1:Dy o (s++[tu])=Dy o s:=by
    rw[O];unfold stepO;rw[hu];simp only[if_pos I]
   have e2:Vn x o (Dy o s)=MZ x o true u:=by
    unfold Vn;rw[hu]
    cases Q:Dy o s with
    |nil=>rw[Q]at hu;cases hu
    |cons a l=>rfl
   rw[e2]at H;refine(iE H I).mono ?_;rintro e w' ⟨he,hb⟩;refine .inl ⟨he,?_⟩;rw[e1,Ap,Nat.add_zero];exact h.below hb
  ·have e1:Dy o (s++[tu])=Dy o s++[tu]:=by
    rw[O];unfold stepO
    cases hu:(Dy o s).getLast? with
    |none=>rfl
    |some u=>simp only[if_neg λI=>mg ⟨u,hu,I⟩]
   have ab:(!(Dy o s).isEmpty)=true->DR o ((Dy o s).getLast?.getD Cu) tu≠0:=λU I=>by
    cases hu:(Dy o s).getLast? with
    |none=>rw[List.getLast?_eq_none_iff.1 hu]at U;cases U
    |some u=>rw[hu]at I;exact mg ⟨u,hu,I⟩
   refine(uS (P:=λer w'=>(er=0/\Wd X (DH++[I1 X.p x (TV t0 (Dy o (s++[tu]))) X.sz,Cs f 220 (Vn x o (Dy o (s++[tu])))]++UD) (m+((Dy o (s++[tu])).length/t0.h-(Dy o s).length/t0.h)) w')\/
    (er=6/\¬X.cm/\∃z m',YK X x 2 z/\Wd X (DH++z++UD) m' w')) H ab λW6 JE WK=>?_).mono ?_
   ·have h6:=h.Nn hj a6 WK JE;rw[SF a8]at h6;have ad:Wd X (DH++[I1 X.p x (TV t0 (Dy o s)) X.sz,Cs f 220 (MZ x o true tu)]++UD) m W6:=h6;have hi:(DH++[I1 X.p x (TV t0 (Dy o s)) X.sz,Cs f 220 (MZ x o true tu)]++UD)[DH.length+0]?=AE (I1 X.p x (TV t0 (Dy o s)) X.sz):=mM (j:=0) a8;refine(RW ad hi (Ux DK a5) hn hf (by show (Dy o s).length<t0.bound;omega)).mono ?_;rintro e w' (⟨he,J⟩|⟨he,I,J⟩)
    ·rw[SF a8]at J;refine⟨0,he,.inl ⟨rfl,?_⟩⟩;rw[e1,iK];have e2:((Dy o s++[tu]).length/t0.h-(Dy o s).length/t0.h)=((TV t0 (Dy o s)).l.length+1)/(TV t0 (Dy o s)).h-(TV t0 (Dy o s)).l.length/(TV t0 (Dy o s)).h:=by
      rw[AY];rfl
     rw[e2];exact J
    ·rw[SF a8]at J;exact⟨6,he,.inr ⟨rfl,I,_,_,⟨_,[Cs f 220 (MZ x o true tu)],rfl,rfl,λq Q=>by rw[Bn.1 Q];exact⟨rfl,rfl⟩⟩,J⟩⟩
   ·rintro e w' ⟨er,he,⟨rfl,J⟩|⟨rfl,J⟩⟩
    ·exact .inl ⟨he,J⟩
    ·exact .inr ⟨he,J⟩
 hd:=λs hs=>⟨_,_,rfl,Ux DK (Af (R5 o s) hs),rfl,rfl,rfl,rfl,λq Q=>by rw[Bn.1 Q];exact⟨rfl,rfl⟩⟩
end
def o1:Cv:=⟨1,0,0,0,0⟩
def o2:Cv:=⟨2,0,0,0,0⟩
def Oc:Cv:=⟨2,1,3,0,0⟩
def Od:Cv:=⟨1,2,3,0,0⟩
def yp:Cv:=⟨1,3,0,0,0⟩
theorem UX:Fm o1:=a6
theorem xW:Fm o2:=a6
theorem cY:Fm Oc:=a6
theorem cZ:Fm Od:=a6
theorem oC:Fm yp:=a6
theorem AF8:gD 3 o1:=a6
theorem tJ:gD 3 Oc:=a6
theorem tK:gD 3 Od:=a6
theorem y9:gD 3 yp:=a6
theorem ld:Ed o1=1:=a6
theorem VR:Ed Oc=3:=a6
theorem VS:Ed Od=3:=a6
theorem Zb:Ed yp=2:=a6
theorem oR(t:Cv):FH o1 t=⟨t.a,0,0,0,0⟩:=by unfold FH;rw[if_pos UX];rfl
theorem oP(t:Cv):FH Oc t=Qk t:=by unfold FH;rw[if_pos cY];rfl
theorem oQ(t:Cv):FH Od t=⟨t.a,t.b,t.c,0,0⟩:=by unfold FH;rw[if_pos cZ];rfl
theorem uf(t:Cv):FH yp t=uX t:=by unfold FH;rw[if_pos oC];rfl
theorem oU(a b:Cv):DR o1 a b=if a.a=b.a then 0 else if a.a<b.a then -1 else 1:=by
 unfold DR;rw[if_pos UX];show cmpL [1,0,0,0,0] a b= _;rcases Ck a.a b.a with h|h|h
 ·rw[IS a5 _ (show DP a (Fb 1)<DP b (Fb 1)from h),if_pos a5,if_neg a5,if_pos h]
 ·rw[KF a5 _ (show DP a (Fb 1)=DP b (Fb 1)from h),Ht,if_pos h]
 ·rw[IT a5 _ (show DP b (Fb 1)<DP a (Fb 1)from h),if_pos a5,if_neg a5,if_neg a5]
theorem AA6(a b:Cv):DR o2 a b=if a.b=b.b then 0 else if a.b<b.b then -1 else 1:=by
 unfold DR;rw[if_pos xW];show cmpL [2,0,0,0,0] a b= _;rcases Ck a.b b.b with h|h|h
 ·rw[IS a5 _ (show DP a (Fb 2)<DP b (Fb 2)from h),if_pos a5,if_neg a5,if_pos h]
 ·rw[KF a5 _ (show DP a (Fb 2)=DP b (Fb 2)from h),Ht,if_pos h]
 ·rw[IT a5 _ (show DP b (Fb 2)<DP a (Fb 2)from h),if_pos a5,if_neg a5,if_neg a5]
theorem au{s}(h:NC o1 s):s.Pairwise λu v=>u.a<=v.a:=by
 have h:s.Pairwise λa b=>DR o1 a b<=0:=h;refine h.imp λ{u v} e=>?_;rw[oU]at e
 split at e
 ·omega
 ·split at e<;>omega
theorem AB1{s}(h:NC o2 s):s.Pairwise λu v=>u.b<=v.b:=by
 have h:s.Pairwise λa b=>DR o2 a b<=0:=h;refine h.imp λ{u v} e=>?_;rw[AA6]at e
 split at e
 ·omega
 ·split at e<;>omega
theorem bN{a b}:DR o1 a b=0↔a.a=b.a:=by
 rw[oU];constructor
 ·intro h
  split at h
  ·assumption
  ·split at h<;>omega
 ·intro h;rw[if_pos h]
theorem bZ{o}:∀(E:List Cv),(∀t,(E.filter (Ky o t)).length<=1)->E.Pairwise λa b=>DR o a b≠0
 |[],_=>List.Pairwise.nil
 |a::E,h=>by
  refine List.Pairwise.cons (λb hb e=>?_) (bZ E λt=>?_)
  ·have H:=h a;rw[List.filter_cons_of_pos (Mc o a),BY]at H;have:0<(E.filter (Ky o a)).length:=List.length_pos_of_mem (B4.2 ⟨hb,by simp[Ky,e]⟩);omega
  ·have H:=h t;rw[List.filter_cons]at H
   split at H
   ·rw[BY]at H;omega
   ·exact H
theorem AA5{l s}(h1:NC o1 s)(O:Cl o1 (l.map (FH o1)) s):Els l (Dp true o1 s):=by
 have hk:Dp true o1 s=Dy o1 s:=rfl;rw[hk];obtain⟨k1,J,_,_⟩:=XK (o:=o1) s.length s rfl h1;refine⟨?_,λu hu=>?_,λt I=>?_⟩
 ·have q1:=au k1;have U:=bZ (o:=o1) (Dy o1 s) λt=>by rw[J,Ac];omega
  refine(q1.and U).imp λ{u v} ⟨h3,h4⟩=>?_;have:u.a≠v.a:=λe=>h4 (bN.2 e);omega
 ·have:=(Cl.symm O).mem (Mv hu);obtain⟨t,I,rfl⟩:=Az.1 this;exact⟨t,I,by rw[oR]⟩
 ·have hm:=O.mem (Az.2 ⟨t,I,rfl⟩);have q:=J (FH o1 t);have:0<(s.filter (Ky o1 (FH o1 t))).length:=List.length_pos_of_mem (B4.2 ⟨hm,Mc _ _⟩);have h3:0<((Dy o1 s).filter (Ky o1 (FH o1 t))).length:=by rw[q,Ac];omega
  obtain⟨u,hu⟩:=List.exists_mem_of_length_pos h3;obtain⟨Q,Ph⟩:=B4.1 hu;have H:DR o1 (FH o1 t) u=0:=by simpa [Ky]using Ph
  refine⟨u,Q,?_⟩;have:=bN.1 H;rw[oR]at this;exact this.symm
theorem Rg{p}{l:List Cv}{i t}(h:l[i]?=AE t):(l.take (i+1)).countP p=(if p t=true then (l.take i).countP p+1 else (l.take i).countP p):=by
 have e:l.take (i+1)=l.take i++[t]:=by rw[Bi,h];rfl
 rw[e,List.countP_append];by_cases hp:p t=true
 ·rw[if_pos hp];simp[hp]
 ·rw[if_neg hp];simp[hp]
theorem NR{p}{l:List Cv}{i n}(h:l.length<=n):(l.take i).countP p<=n:=Af List.countP_le_length (by rw[Ac];omega)
section
variable{X:Cx}{g:Nat}{pre:List DA}
theorem uo{E L}(O:E.length<=100000):vD X pre 87 #[AI g] E L 0 (La L) (λi=>[Cs g 125 (Ev ((E.take i).countP (NN L)))]) where
 ent:=λargs w=>by kernel_rfl
 bare:=λi q I=>by simp at I;subst I;exact⟨rfl,rfl⟩
 how:=λi zz m W t v b J H h=>by
  have H:LH L t.a=(if b=true then AE v else AD):=H;refine(ur (b:=b) (v:=v) h (Af (NR O) a5)).mono ?_;rintro e w' ⟨he,hw⟩;refine⟨?_,?_⟩
  ·rw[he];unfold La;rw[H]
   cases b<;>rfl
  ·rw[Rg J];have Q:NN L t=b:=by unfold NN;rw[H];cases b<;>rfl
   rw[Q];exact hw
theorem sZ{A S}(O:A.length<=100000):vD X pre 89 #[AI g] A S 1 (lenT S) (λi=>[Cs g 125 (Ev ((A.take i).countP (gO S)))]) where
 ent:=λargs w=>by kernel_rfl
 bare:=λi q I=>by simp at I;subst I;exact⟨rfl,rfl⟩
 how:=λi zz m W t v b J H h=>by
  have H:LH S t.b=(if b=true then AE v else AD):=H;refine(sd (b:=b) (v:=v) h (Af (NR O) a5)).mono ?_;rintro e w' ⟨he,hw⟩;refine⟨?_,?_⟩
  ·rw[he];unfold lenT;rw[H]
   cases b<;>rfl
  ·rw[Rg J];have Q:gO S t=(b&&decide (v.b≠-1)):=by unfold gO;rw[H];cases b<;>simp
   rw[Q];exact hw
end
section
variable{X:Cx}{os:List DA}{m x:Nat}{W:World}
theorem aU(h:Wd X os m W):
  Calls AP 110 #[AI (AE ⟨x,0,AD⟩)] W λe w'=>∃gr ga gk,e=AH (.func (.func 131) #[] #[AI (AE ⟨gk,0,AD⟩),AI (AE ⟨ga,0,AD⟩),AI (AE ⟨gr,0,AD⟩)])/\
   Wd X (os++[Cs gr 81 [AI x],Cs ga 47 (DE Tp),Cs gk 4 [true]]) m w'/\Below W W w':=by
 have H:∀(w:World) (o:Obj),(w.alloc o).heap.size=w+1:=λw o=>by simp
 have J:=h.new ((AS W W).alloc ao (AK #[AI x] 81)) (heap_alloc_new _ _:Row _ _ 81 [AI x]) ao;have I:=J.new ((AS _ _).alloc ao (AK #[AA AB (-9223372036854775808),(),(),(),()] 47)) (heap_alloc_new _ _:Row _ _ 47 (DE Tp)) ao;have h3:=I.new ((AS _ _).alloc ao (AK #[true] 4)) (heap_alloc_new _ _:Row _ _ 4 [true]) ao;simp only[H,AR,B8,BI]at h3;have hb:Below W W (((W.alloc (AK #[AI x] 81)).alloc (AK #[AA AB (-9223372036854775808),(),(),(),()] 47)).alloc (AK #[true] 4)):=
  (((AS W.heap.size W).alloc ao _).alloc (by simp only[H];omega) _).alloc (by simp only[H];omega) _
 have Q:=AO h3;have O:=AO hb;clear h J I h3 hb H;go_enter func110,ntmps110
 go_wp2
 go_ret
 exact⟨_,_,_,rfl,Q.out,O.out⟩
end
structure MWk (s0 pw fa na ka ca key fb nb kb cb fH k3:Nat) (EZ:Array Value) (W5:World) (Dd:Ending->World->Prop) (A0:World->Prop) (A1:Nat->World->Prop) (B1:Nat->List Value->World->Prop) (A2:Nat->Nat->World->Prop) (A3:Nat->Nat->Nat->World->Prop)
  (A4:Nat->Nat->Nat->Nat->Nat->Nat->World->Prop) (A5:Nat->Nat->Nat->Nat->Nat->Nat->Nat->World->Prop) (C:Nat->Nat->Nat->World->Prop) (D:Nat->Nat->Nat->List Value->World->Prop) (E:Nat->Nat->Nat->Nat->Nat->List Value->World->Prop):Prop where
 h0:A0 W5
 r0:∀w,A0 w->Row w (s0+2) 28 [fb,nb,kb,cb]
 read:∀w,A0 w->Calls AP 46 #[AI (AE ⟨pw,0,AD⟩),AL #[AA AB fb,AA AB nb,AA AB kb,AA AB cb]] w λe w'=>∃x,e=AH (AM #[AI (AE ⟨x,0,AD⟩),AA AB 0])/\A1 x w'
 r1:∀x w,A1 x w->Row w s0 28 [fa,na,ka,ca]
 write:∀x w,A1 x w->Calls AP 28 #[AI (AE ⟨pw,0,AD⟩),AA AB 3,AA AB ca] w λe w'=>(e=AH (AM #[AI AD,AA AB 5])/\B1 x Z4 w')\/(∃y,e=AH (AM #[AI (AE ⟨y,0,AD⟩),AA AB 0])/\A2 x y w')
 bB1:∀x cs w w',B1 x cs w->Below w w w'->B1 x cs w'
 rB1:∀x cs w,B1 x cs w->Row w (s0+4) 28 cs
 sB1:∀x w,B1 x Z4 w->B1 x Z4 ((((w.setCell (s0+4,0) ()).setCell (s0+4,1) ()).setCell (s0+4,2) ()).setCell (s0+4,3) ())
 fB1:∀x u w,B1 x Z4 w->CallsD AP 47 #[AI x] u w λe u' w'=>u'=u/\(e=AH (AM #[])/\Row w' (s0+4) 28 Z4/\Dd (AH (AM #[AL #[(),(),(),()],AA AB 5])) w')
 x2:∀x y w,A2 x y w->A3 x y w (w.alloc (AK #[AI y] 65))
 r3:∀x y gy w,A3 x y gy w->Row w gy 65 [AI y]
 finder:∀x y gy w,A3 x y gy w->Calls AP 110 #[AI (AE ⟨x,0,AD⟩)] w λe w'=>∃gr ga gk,e=AH (.func (.func 131) #[] #[AI (AE ⟨gk,0,AD⟩),AI (AE ⟨ga,0,AD⟩),AI (AE ⟨gr,0,AD⟩)])/\A4 x y gy gr ga gk w'
 x4:∀x y gy gr ga gk w,A4 x y gy gr ga gk w->A5 x y gy gr ga gk w (w.alloc (AK #[.func (.func 131) #[] #[AI gk,AI ga,AI gr]] 170))
 r5:∀x y gy gr ga gk gz w,A5 x y gy gr ga gk gz w->Row w s0 28 [fa,na,ka,ca]
 each:∀x y gy gr ga gk gz w,A5 x y gy gr ga gk gz w->Calls AP 61 #[AI pw,AL #[fa,na,ka,ca],.func (.func 111) #[] #[AI gz,AI (s0+1,0),AI gy,AI (s0+3,0)]] w λe w'=>(e=AH ()/\C x y gy w')\/(∃er:Nat,e=AH er/\0<er/\D x y er Z4 w')
 rC:∀x y gy w,C x y gy w->Row w gy 65 [AI y]
 close:∀x y gy w,C x y gy w->Calls AP 31 #[AI y] w λe w'=>(∃F N Q:Nat,e=AH (AM #[AL #[F,N,k3,Q],()])/\E x y F N Q Z4 w')\/(e=AH (AM #[AL #[(),(),(),()],AA AB 6])/\D x y 6 Z4 w')
 rD:∀x y er cs w,D x y er cs w->Row w (s0+4) 28 cs
 sD:∀x y er w,D x y er Z4 w->D x y er Z4 ((((w.setCell (s0+4,0) ()).setCell (s0+4,1) ()).setCell (s0+4,2) ()).setCell (s0+4,3) ())
 fD:∀x y er u w,D x y er Z4 w->CallsD AP 29 #[AI y] u w λe u' w'=>u'=u/\(e=AH (AM #[])/\∀u2,CallsD AP 47 #[AI x] u2 w' λe u' Ej=>u'=u2/\(e=AH (AM #[])/\Row Ej (s0+4) 28 Z4/\Dd (AH (AM #[AL #[(),(),(),()],er])) Ej))
 rE:∀x y F N Q cs w,E x y F N Q cs w->Row w (s0+4) 28 cs
 sE:∀(x y F N Q:Nat) w,E x y F N Q Z4 w->E x y F N Q [F,N,k3,Q] ((((w.setCell (s0+4,0) F).setCell (s0+4,1) N).setCell (s0+4,2) k3).setCell (s0+4,3) Q)
 fE:∀(x y F N Q:Nat) u w,E x y F N Q [F,N,k3,Q] w->CallsD AP 29 #[AI y] u w λe u' w'=>u'=u/\(e=AH (AM #[])/\∀u2,CallsD AP 47 #[AI x] u2 w' λe u' Ej=>u'=u2/\(e=AH (AM #[])/\Row Ej (s0+4) 28 [F,N,k3,Q]/\Dd (AH (AM #[AL #[F,N,k3,Q],()])) Ej))
theorem Zh{W:World}{s0 pw fa na ka ca key fb nb kb cb fH k3:Nat}{EZ W5 Dd A0 A1 B1 A2 A3}
  {A4}{A5}{C}{D}{E}
  (hs0:s0=W)(ab:W5=((((W.alloc (AK #[fa,na,ka,ca] 28)).alloc (AK #[key] 3)).alloc (AK #[fb,nb,kb,cb] 28)).alloc (AK #[.func (.func fH) #[] EZ] 148)).alloc (AK #[(),(),(),()] 28))
  (hW:MWk s0 pw fa na ka ca key fb nb kb cb fH k3 EZ W5 Dd A0 A1 B1 A2 A3 A4 A5 C D E):
  Calls AP 86 #[AI pw,AL #[fa,na,ka,ca],key,AL #[fb,nb,kb,cb],.func (.func fH) #[] EZ] W Dd:=by
 have H:=AO hW;have Qe:=AO hs0;have ad:=AO ab;have J:=AO hW.h0;have p5:=hW.r0 _ hW.h0;have LJ:=AO (hW.read _ hW.h0);obtain⟨b0,b1,b2,b3⟩:=p5.q4;clear hW hs0 ab p5;go_enter_defers func86,ntmps86
 go_upto_region 1 with(fail)
 rw[<-ad.out,<-Qe.out];clear ad J;go_wp2_with fail
 refine LJ.out.mono ?_;rintro e w2 ⟨x,rfl,h2⟩;have p5:=H.out.r1 x _ h2;obtain⟨a0,a1,a2,a3⟩:=p5.q4;have Ty:=AO (H.out.write x _ h2);clear b0 b1 b2 b3 LJ p5 h2;go_wp2_with fail
 refine Ty.out.mono ?_;rintro e w3 (⟨rfl,h3⟩|⟨y,rfl,h3⟩)
 ·have J:=AO (H.out.bB1 x _ _ _ h3 ((AS w3 w3).alloc ao (AK #[AI AD] 65)));clear h3 a0 a1 a2 a3 Ty;go_upto_region 6 with(fail)
  generalize w3.alloc (AK #[AI AD] 65)=w4 at*
  generalize w3.heap.size=gy at*
  have H9:=AO (H.out.sB1 x _ J.out);have O:=H.out.rB1 x _ _ J.out;obtain⟨z0,z1,z2,z3⟩:=O.q4;obtain⟨f0,f1,f2,f3⟩:=O.r4;clear O;go_wp2
  refine Ay (f:=47) (args:=#[AI x]) a8 (by simp[go_sem]) ?_;refine(H.out.fB1 x _ _ H9.out).mono ?_;rintro e u' w9 ⟨rfl,rfl,I,D5⟩;have k0:=I.cell 0;have k1:=I.cell 1;have U:=I.cell 2;have Ll:=I.cell 3;simp only[Z4,AW,AV]at k0 k1 U Ll;exact⟨AM #[AL #[(),(),(),()],AA AB 5],by simp[results,Tryz.results86,go_sem,k0,k1,U,Ll],D5⟩
 have J:=AO (H.out.x2 x y _ h3);clear h3 a0 a1 a2 a3 Ty;go_upto_region 6 with(fail)
 generalize w3.alloc (AK #[AI y] 65)=w4 at*
 generalize w3.heap.size=gy at*
 have p3:=H.out.r3 x y gy _ J.out;have c0:w4.cell? gy=AE (AI y):=p3.cell 0;have Yn:=AO (H.out.finder x y gy _ J.out);clear J p3;go_wp2_with fail
 refine Yn.out.mono ?_;rintro e w5 ⟨gr,ga,gk,rfl,h5⟩;have J:=AO (H.out.x4 x y gy gr ga gk _ h5);clear h5 c0 Yn;go_upto_region 10 with(fail)
 generalize w5.alloc (AK #[.func (.func 131) #[] #[AI gk,AI ga,AI gr]] 170)=w6 at*
 generalize w5.heap.size=gz at*
 have p3:=H.out.r5 x y gy gr ga gk gz _ J.out;obtain⟨a0,a1,a2,a3⟩:=p3.q4;have aa:=AO (H.out.each x y gy gr ga gk gz _ J.out);clear J p3;go_wp2_with fail
 refine aa.out.mono ?_;rintro e w7 (⟨rfl,h7⟩|⟨er,rfl,De,h7⟩)
 ·have p3:=H.out.rC x y gy _ h7;have c0:w7.cell? gy=AE (AI y):=p3.cell 0;have GJ:=AO (H.out.close x y gy _ h7);clear h7 p3 aa a0 a1 a2 a3;go_wp2_with fail
  refine GJ.out.mono ?_;rintro e w8 (⟨F,N,Q,rfl,h8⟩|⟨rfl,h8⟩)
  ·have H9:=AO (H.out.sE x y F N Q _ h8);have O:=H.out.rE x y F N Q _ _ h8;obtain⟨z0,z1,z2,z3⟩:=O.q4;obtain⟨f0,f1,f2,f3⟩:=O.r4;clear h8 O c0 GJ;go_wp2
   refine Ay (f:=29) (args:=#[AI y]) a8 (by simp[go_sem]) ?_;refine(H.out.fE x y F N Q _ _ H9.out).mono ?_;rintro e u' Ej ⟨rfl,rfl,Fh⟩;refine Ay (f:=47) (args:=#[AI x]) (by simp[settle]) (by simp[go_sem]) ?_;refine(Fh _).mono ?_;rintro e u' w9 ⟨rfl,rfl,I,D5⟩;have k0:=I.cell 0;have k1:=I.cell 1;have U:=I.cell 2;have Ll:=I.cell 3;simp only[AW,AV]at k0 k1 U Ll;exact⟨AM #[AL #[F,N,k3,Q],()],by simp[results,Tryz.results86,go_sem,k0,k1,U,Ll],D5⟩
  ·have J:=AO h8;clear h8 c0 GJ;have H9:=AO (H.out.sD x y 6 _ J.out);have O:=H.out.rD x y 6 _ _ J.out;obtain⟨z0,z1,z2,z3⟩:=O.q4;obtain⟨f0,f1,f2,f3⟩:=O.r4;clear O;go_wp2
   refine Ay (f:=29) (args:=#[AI y]) a8 (by simp[go_sem]) ?_;refine(H.out.fD x y 6 _ _ H9.out).mono ?_;rintro e u' Ej ⟨rfl,rfl,Fh⟩;refine Ay (f:=47) (args:=#[AI x]) (by simp[settle]) (by simp[go_sem]) ?_;refine(Fh _).mono ?_;rintro e u' w9 ⟨rfl,rfl,I,D5⟩;have k0:=I.cell 0;have k1:=I.cell 1;have U:=I.cell 2;have Ll:=I.cell 3;simp only[Z4,AW,AV]at k0 k1 U Ll;exact⟨AM #[AL #[(),(),(),()],AA AB 6],by simp[results,Tryz.results86,go_sem,k0,k1,U,Ll],D5⟩
 ·have J:=AO h7;have ae:¬(er:Int)=0:=a5;clear h7 aa a0 a1 a2 a3 De;have H9:=AO (H.out.sD x y er _ J.out);have O:=H.out.rD x y er _ _ J.out;obtain⟨z0,z1,z2,z3⟩:=O.q4;obtain⟨f0,f1,f2,f3⟩:=O.r4;clear O;go_wp2
  refine Ay (f:=29) (args:=#[AI y]) a8 (by simp[go_sem]) ?_;refine(H.out.fD x y er _ _ H9.out).mono ?_;rintro e u' Ej ⟨rfl,rfl,Fh⟩;refine Ay (f:=47) (args:=#[AI x]) (by simp[settle]) (by simp[go_sem]) ?_;refine(Fh _).mono ?_;rintro e u' w9 ⟨rfl,rfl,I,D5⟩;have k0:=I.cell 0;have k1:=I.cell 1;have U:=I.cell 2;have Ll:=I.cell 3;simp only[Z4,AW,AV]at k0 k1 U Ll;exact⟨AM #[AL #[(),(),(),()],er],by simp[results,Tryz.results86,go_sem,k0,k1,U,Ll],D5⟩
section
variable{X:Cx}{os os':List DA}{m:Nat}{W:World}{G:Nat->Prop}{D:St}{A:Ar}{S:Sp}
theorem v8{α:Type}{R}{l:List α}(h:∀(i j:Nat) (a b:α),l[i]?=AE a->l[j]?=AE b->i≠j->R a b):l.Pairwise R:=by
 refine B0.2 λi j hi e H=>h i j _ _ (AU hi) (AU e) a5
theorem vz{α:Type}{R}(Q:∀a b,R a b->R b a){l:List α}(h:l.Pairwise R)(i j:Nat)(a b:α)(U:l[i]?=AE a)(hb:l[j]?=AE b)(Il:i≠j):R a b:=by
 have I:=B0.1 h;obtain⟨hi,O⟩:=BM.1 U;obtain⟨H,J⟩:=BM.1 hb;rcases Nat.lt_or_gt_of_ne Il with e|e
 ·have h3:=I i j hi H e;rwa [O,J]at h3
 ·have h3:=I j i H hi e;rw[O,J]at h3;exact Q _ _ h3
theorem T7{α f}{l l':List α}(h:l.Perm l'):DC f l=DC f l':=(h.map f).sum_nat
theorem KI.perm(h:KI X os m W G D A S)(hp:os'.Perm os):KI X os' m W G D A S:=by
 have I:∀(i:Nat) (a:DA),os'[i]?=AE a->∃j:Nat,os[j]?=AE a:=λi a hi=>by
  obtain⟨j,H,e⟩:=BO (hp.mem_iff.1 (Ak hi));exact⟨j,by rw[AU H,e]⟩
 have gL:∀(i:Nat) (a:DA),os[i]?=AE a->∃j:Nat,os'[j]?=AE a:=λi a hi=>by
  obtain⟨j,H,e⟩:=BO (hp.mem_iff.2 (Ak hi));exact⟨j,by rw[AU H,e]⟩
 have Gg:∀a b:DA,(∀k,a.K k->¬b.K k)->∀k,b.K k->¬a.K k:=λa b Q k hb J=>Q k J hb;have U:∀a b:DA,(∀z,I2 a.ex z->¬I2 b.ex z)->∀z,I2 b.ex z->¬I2 a.ex z:=λa b Q k hb J=>Q k J hb
 exact {h with
  used:=by rw[T7 hp];exact h.used
  ok:=λi a hi=>by obtain⟨j,H⟩:=I i a hi;exact h.ok j a H
  st:=λi a b n hi hg=>by obtain⟨j,H⟩:=I i a hi;exact h.st j a b n H hg
  mem:=λi a hi=>by obtain⟨j,H⟩:=I i a hi;exact h.mem j a H
  Te:=λi a hi=>by obtain⟨j,H⟩:=I i a hi;exact h.Te j a H
  apart:=vz Gg ((hp.pairwise_iff (λ{a b}=>Gg a b)).2 (v8 h.apart))
  exa:=vz U ((hp.pairwise_iff (λ{a b}=>U a b)).2 (v8 h.exa))
  exs:=λi a hi=>by obtain⟨j,H⟩:=I i a hi;exact h.exs j a H
  free:=λz=>by
   rw[h.free z];refine⟨λ⟨O,h2⟩=>⟨O,λi a hi=>?_⟩,λ⟨O,h2⟩=>⟨O,λi a hi=>?_⟩⟩
   ·obtain⟨j,H⟩:=I i a hi;exact h2 j a H
   ·obtain⟨j,H⟩:=gL i a hi;exact h2 j a H
  sum:=by rw[T7 hp];exact h.sum}
theorem Wd.perm(h:Wd X os m W)(hp:os'.Perm os):Wd X os' m W:=by
 obtain⟨G,D,A,S,h⟩:=h;exact⟨G,D,A,S,h.perm hp⟩
theorem Wd.front{a z x}(h:Wd X (a++z++[x]) m W):Wd X (a++[x]++z) m W:=by
 refine h.perm ?_;rw[AR,AR];exact Cc a (List.perm_append_comm)
end
def Mk(X:Cx)(pre post:List DA)(H:Nat->List DA)(Out:List Cv)(m na nb ca:Nat)(e:Ending)(w':World):Prop:=
 (∃F N:Nat,e=AH (AM #[AL #[AA AB F,AA AB N,AA AB (3:Nat),AA AB (Out.length:Nat)],AA AB 0])/\GY F N 3 (Ct X.sz (3:Nat)) Out X.sz/\Wd X (pre++H ca++post++[Da F N 3 (Ct X.sz (3:Nat)) Out X.sz]) (m+na+nb+ca+2) w')\/
 (∃er i:Nat,e=AH (AM #[AL #[(),(),(),()],er])/\0<er/\(er=6/\¬X.cm\/er=5/\∀q,¬Rm X (pre++H 0++post) q (Cr (Ct X.sz (3:Nat)) ca))/\Wd X (pre++H i++post) (m+na+nb+ca+2) w')
theorem yj(a b c d e f g h i j k l:DA):[a,c,e,f,i,j,k,g,l,b,h,d].Perm [a,b,c,d,e,f,g,h,i,j,k,l]:=by
 classical
 rw[List.perm_iff_count];intro x;simp only[List.count_cons,List.count_nil];omega
section
variable{X:Cx}{m:Nat}{W:World}
theorem WW{pre post H fH fa na ka ha ca fb nb kb hb cb key EZ la lb res}
  (hH:vD X pre fH EZ la lb key res H)(h:Wd X (pre++H 0++post) m W)(gW:GY fa na ka ha la X.sz)(wg:Da fa na ka ha la X.sz∈pre++post)(aG:la.length=ca)(LI:GY fb nb kb hb lb X.sz)(SR:Da fb nb kb hb lb X.sz∈pre++post)(Lt:lb.length=cb)
  (a2:key<5)(qA:lb.Pairwise λu v=>u.a<=v.a)(UL:la.Pairwise λu v=>DP u key<=DP v key)(SS:∀t∈la,-9223372036854775808<DP t key)(al:∀t∈la,EE (res t)/\Dc 3 (res t)=true)
  (ad:3*X.sz+DC DA.gw (pre++H 0++post)<=X.rm)(hn:X.N+m+na+nb+ca+2<=1000000):
  Calls AP 86 #[AI X.p.w,AL #[fa,na,ka,ca],key,AL #[fb,nb,kb,cb],.func (.func fH) #[] EZ] W (Mk X pre post H (la.map res) m na nb ca):=by
 obtain⟨s0,hs0⟩:=ae W.heap.size;obtain⟨W5,aF⟩:=ae (((((W.alloc (AK #[fa,na,ka,ca] 28)).alloc (AK #[key] 3)).alloc (AK #[fb,nb,kb,cb] 28)).alloc (AK #[.func (.func fH) #[] EZ] 148)).alloc (AK #[(),(),(),()] 28));obtain⟨Bx,xR⟩:∃Bx:List Value->List DA,∀cs,Bx cs=[Cs s0 28 [fa,na,ka,ca],Cs (s0+1) 3 [key],Cs (s0+2) 28 [fb,nb,kb,cb],Cs (s0+3) 148 [.func (.func fH) #[] EZ],Cs (s0+4) 28 cs]:=⟨_,λ_=>rfl⟩;have Yh:∀cs,Dn (Bx cs):=λcs q hq=>by rw[xR]at hq;simp at hq;rcases hq with rfl|rfl|rfl|rfl|rfl<;>exact⟨rfl,rfl⟩
 obtain⟨O,hO⟩:=ae (pre++H 0++post);rw[<-hO]at h ad;have aK:∀(w:World) (o:Obj),(w.alloc o).heap.size=w+1:=λw o=>by simp
 have h5:Wd X (O++Bx Z4) m W5:=by
  have U:=h.new ((AS W W).alloc ao (AK #[fa,na,ka,ca] 28)) (heap_alloc_new _ _:Row _ _ 28 [fa,na,ka,ca]) ao;have h2:=U.new ((AS _ _).alloc ao (AK #[key] 3)) (heap_alloc_new _ _:Row _ _ 3 [key]) ao;have h3:=h2.new ((AS _ _).alloc ao (AK #[fb,nb,kb,cb] 28)) (heap_alloc_new _ _:Row _ _ 28 [fb,nb,kb,cb]) ao;have h4:=h3.new ((AS _ _).alloc ao (AK #[.func (.func fH) #[] EZ] 148)) (heap_alloc_new _ _:Row _ _ 148 [.func (.func fH) #[] EZ]) ao;have h5:=h4.new ((AS _ _).alloc ao (AK #[(),(),(),()] 28)) (heap_alloc_new _ _:Row _ _ 28 Z4) ao;rw[<-aF]at h5;simp only[aK,<-hs0,CK,Cb,AR,B8,BI]at h5;rw[xR];exact h5
 have cT:∀cs,DC DA.gw (O++Bx cs)=DC DA.gw O:=λcs=>by rw[DM,Dq _ (Yh _)];rfl
 have a0:=gW.len;obtain⟨RT,av⟩:∃RT:Rt->Prop,∀rt,RT rt↔JA rt X.sz/\rt.pos=0/\rt.k=kb/\rt.h=hb/\rt.first=fb/\rt.blocks=nb/\rt.count=cb:=⟨_,λ_=>BN⟩;obtain⟨WT,ab⟩:∃WT:Wt->Prop,∀t,WT t↔t.k=3/\t.h=Ct X.sz (3:Nat)/\t.bound=ca/\t.l=[]/\Ep t X.sz:=⟨_,λ_=>BN⟩;obtain⟨mt,MQ⟩:∃mt:List Value->Rt->Wt->Nat->Nat->Nat->Nat->Nat->Nat->Nat->MT,∀cs rt wt x y I gr ga gk J,mt cs rt wt x y I gr ga gk J=⟨X,pre,post++[Cs s0 28 [fa,na,ka,ca],Cs (s0+2) 28 [fb,nb,kb,cb],Cs (s0+4) 28 cs],H,la,lb,key,res,fH,EZ,x,rt,gr,ga,gk,y,wt,J,s0+1,I,s0+3⟩:=⟨_,λ_ _ _ _ _ _ _ _ _ _=>rfl⟩;have DK:∀{rt wt},RT rt->WT wt->∀cs x y I gr ga gk J,(mt cs rt wt x y I gr ga gk J).Ok:=λ{rt wt} U h2 cs x y I gr ga gk J=>by
  obtain⟨r1,r2,r3,r4,r5,r6,r7⟩:=(av _).1 U;obtain⟨t1,t2,t3,t4,t5⟩:=(ab _).1 h2;rw[MQ];refine⟨hH,a2,⟨r1,by show lb.length=rt.count;rw[r7,Lt],λu hu=>by show EE u/\Dc rt.k u=true;rw[r3];exact LI.fit u hu,by show rt.blocks=Cr rt.h lb.length;rw[r6,r4];exact LI.bn⟩,?_,qA,UL,SS,t5,t4,by show wt.bound=la.length;rw[t3,aG],λt ht=>by show Dc wt.k (res t)=true;rw[t1];exact(al t ht).2⟩;show Src (pre++(post++ _)) X.sz rt.first rt.k rt.h lb;rw[r3,r4,r5];refine U5 (nb:=nb) ?_ LI.bn;rcases Ag.1 SR with hm|hm<;>simp[hm]
 have uJ:∀cs rt wt x y I gr ga gk J i rd r ok wo,(mt cs rt wt x y I gr ga gk J).L i rd r ok wo []=pre++H i++post++([Cs s0 28 [fa,na,ka,ca],Cs (s0+2) 28 [fb,nb,kb,cb],Cs (s0+4) 28 cs]++FZ rd x gr ga gk r ok)++(wo::(mt cs rt wt x y I gr ga gk J).rows):=λcs rt wt x y I gr ga gk J i rd r ok wo=>by
  rw[MQ];simp[MT.L]
 have aw:∀cs rt wt x y I gr ga gk J,Dn (mt cs rt wt x y I gr ga gk J).rows:=λcs rt wt x y I gr ga gk J q hq=>by
  simp[MT.rows]at hq;rcases hq with rfl|rfl|rfl|rfl<;>exact⟨rfl,rfl⟩
 have aI:∀cs x gr ga gk r ok rt,Dn ([Cs s0 28 [fa,na,ka,ca],Cs (s0+2) 28 [fb,nb,kb,cb],Cs (s0+4) 28 cs]++FZ (Nr X.p x rt) x gr ga gk r ok):=λcs x gr ga gk r ok rt q hq=>by
  simp[FZ]at hq;rcases hq with rfl|rfl|rfl|rfl|rfl|rfl|rfl<;>exact⟨rfl,rfl⟩
 have ni:∀cs rt wt x y I gr ga gk J i rd r ok wo M w,Wd X ((mt cs rt wt x y I gr ga gk J).L i rd r ok wo []) M w->Row w (s0+4) 28 cs:=λcs rt wt x y I gr ga gk J i rd r ok wo M w q=>q.Eg (by rw[uJ];simp);have aH:∀cs rt wt x y I gr ga gk J i rd r ok wo M w x1 x2 x3 x4,cs.length=4->Wd X ((mt cs rt wt x y I gr ga gk J).L i rd r ok wo []) M w->Wd X ((mt [x1,x2,x3,x4] rt wt x y I gr ga gk J).L i rd r ok wo []) M ((((w.setCell (s0+4,0) x1).setCell (s0+4,1) x2).setCell (s0+4,2) x3).setCell (s0+4,3) x4):=λcs rt wt x y I gr ga gk J i rd r ok wo M w x1 x2 x3 x4 aB q=>by
  have e1:∀cs,(mt cs rt wt x y I gr ga gk J).L i rd r ok wo []=(pre++H i++post++[Cs s0 28 [fa,na,ka,ca],Cs (s0+2) 28 [fb,nb,kb,cb]])++Cs (s0+4) 28 cs::(FZ rd x gr ga gk r ok++(wo::(mt Z4 rt wt x y I gr ga gk J).rows)):=λcs=>by
   rw[uJ,MQ,MQ];simp[MT.rows];rfl
  rw[e1]at q⊢;have k4:=F4 q (i:=(pre++H i++post++[Cs s0 28 [fa,na,ka,ca],Cs (s0+2) 28 [fb,nb,kb,cb]]).length) (R:=s0+4) (cs:=cs) (by rw[AX ao,Ap];rfl) aB x1 x2 x3 x4;rw[As _ _ ao,Ap]at k4;exact k4
 obtain⟨PD,gu⟩:∃PD:Nat->Nat->Nat->List Value->World->Prop,∀x y er cs w,PD x y er cs w↔er=6/\¬X.cm/\∃rt wt I gr ga gk J i rd r ok wo,RT rt/\WT wt/\az X x rt lb rd/\(mt cs rt wt x y I gr ga gk J).WrE wo/\Wd X ((mt cs rt wt x y I gr ga gk J).L i rd r ok wo []) (m+na+nb+ca+2) w:=⟨_,λ_ _ _ _ _=>BN⟩;obtain⟨PC,aC⟩:∃PC:Nat->Nat->Nat->World->Prop,∀x y I w,PC x y I w↔∃rt wt gr ga gk J j r ok,RT rt/\WT wt/\j<=lb.length/\Wd X ((mt Z4 rt wt x y I gr ga gk J).L ca ((mt Z4 rt wt x y I gr ga gk J).rd j) r ok ((mt Z4 rt wt x y I gr ga gk J).wr ca) []) (m+na+(Cr hb j+ca/wt.h)) w:=⟨_,λ_ _ _ _=>BN⟩;obtain⟨PE,ar⟩:∃PE:Nat->Nat->Nat->Nat->Nat->List Value->World->Prop,∀x y F N Q cs w,PE x y F N Q cs w↔Q=la.length/\∃rt wt I gr ga gk J j r ok,RT rt/\WT wt/\F=DY ((mt cs rt wt x y I gr ga gk J).Qj (la.map res))/\N=Cr (Ct X.sz (3:Nat)) la.length/\Wd X ((mt cs rt wt x y I gr ga gk J).L ca ((mt cs rt wt x y I gr ga gk J).rd j) r ok (Uu X.p y ((mt cs rt wt x y I gr ga gk J).Qj (la.map res)) X.sz) []) (m+na+nb+ca+2) w:=⟨_,λ_ _ _ _ _ _ _=>BN⟩;have a6:∀u∈la.map res,EE u/\Dc 3 u=true:=λu hu=>by
  obtain⟨t,ht,rfl⟩:=Az.1 hu;exact al t ht
 have SX:∀cs rt wt x y I gr ga gk J i rd r ok wo M w (u:Bf),az X x rt lb rd->Wd X ((mt cs rt wt x y I gr ga gk J).L i rd r ok wo []) M w->CallsD AP 47 #[AI x] u w λe u' w'=>u'=u/\(e=AH (AM #[])/\∃sF,Wd X ((mt cs rt wt x y I gr ga gk J).L i (Nr X.p x sF) r ok wo []) M w'):=λcs rt wt x y I gr ga gk J i rd r ok wo M w u aX q=>by
  rw[MT.YM]at q;have e1:(mt cs rt wt x y I gr ga gk J).x=x:=by rw[MQ]
  rw[e1]at q;refine(MF u q (TT _ _ _).1 aX).mono ?_;rintro e u' w' ⟨U,h2,j,h3⟩;rw[WB]at h3;refine⟨U,h2,rat rt j,?_⟩;rw[MT.YM,e1];exact h3
 have a3:∀cs rt wt x y I gr ga gk J i rd r ok wo M w (u:Bf),RT rt->WT wt->(mt cs rt wt x y I gr ga gk J).WrE wo->Wd X ((mt cs rt wt x y I gr ga gk J).L i rd r ok wo []) M w->CallsD AP 29 #[AI y] u w λe u' w'=>u'=u/\(e=AH (AM #[])/\∃l,Wd X ((mt cs rt wt x y I gr ga gk J).L i rd r ok (Yu X.p y ((mt cs rt wt x y I gr ga gk J).Qj l)) []) M w'):=λcs rt wt x y I gr ga gk J i rd r ok wo M w u U h2 aJ q=>by
  have hk:=DK U h2 cs x y I gr ga gk J;have e1:(mt cs rt wt x y I gr ga gk J).y=y/\(mt cs rt wt x y I gr ga gk J).X=X:=by rw[MQ];exact⟨rfl,rfl⟩
  obtain⟨l,hl,h3⟩:=aJ;rw[e1.1,e1.2]at h3;rcases h3 with rfl|rfl
  ·have aa:=MT.wok hk hl;rw[e1.2]at aa;refine(Uw q MT.jA aa u).mono ?_;rintro e u' w' ⟨k1,k2,k3⟩;rw[MT.Uo]at k3;exact⟨k1,k2,l,k3⟩
  ·refine(E8 (q.at_ MT.jA) u).mono ?_;rintro e u' w' ⟨k1,k2,rfl⟩;exact⟨k1,k2,l,q⟩
 refine Zh (k3:=3) hs0 aF
  (A0:=λw=>Wd X (O++Bx Z4) m w)
  (A1:=λx w=>∃rt,RT rt/\Wd X (O++Bx Z4++[Eu X.p x rt X.sz lb]) m w)
  (B1:=λx cs w=>(∀q,¬Rm X O q (Cr (Ct X.sz (3:Nat)) ca))/\∃rt,RT rt/\Wd X (O++Bx cs++[Eu X.p x rt X.sz lb]) m w)
  (A2:=λx y w=>∃rt wt,RT rt/\WT wt/\Wd X (O++Bx Z4++[Eu X.p x rt X.sz lb,I1 X.p y wt X.sz]) m w)
  (A3:=λx y I w=>∃rt wt,RT rt/\WT wt/\Wd X (O++Bx Z4++[Eu X.p x rt X.sz lb,I1 X.p y wt X.sz,Cs I 65 [AI y]]) m w)
  (A4:=λx y I gr ga gk w=>∃rt wt,RT rt/\WT wt/\Wd X (O++Bx Z4++[Eu X.p x rt X.sz lb,I1 X.p y wt X.sz,Cs I 65 [AI y],Cs gr 81 [AI x],Cs ga 47 (DE Tp),Cs gk 4 [true]]) m w)
  (A5:=λx y I gr ga gk J w=>∃rt wt,RT rt/\WT wt/\Wd X ((mt Z4 rt wt x y I gr ga gk J).Z (0,0,Tp,true)) m w)
  (C:=PC) (D:=PD) (E:=PE)
  ⟨h5,?_,?_,?_,?_,?_,?_,?_,?_,?_,?_,?_,?_,?_,?_,?_,?_,?_,?_,?_,?_,?_,?_⟩
 ·
  rintro w q;exact q.Eg (by rw[xR];simp)
 ·
  rintro w q;refine(Mp q fb nb kb hb cb lb LI.Pm LI.hh.1 (by rw[<-Lt];exact LI.bn) (by rw[<-Lt];exact LI.len) LI.fst (by rw[cT];omega)).mono ?_;rintro e w' ⟨x,b,g,he,GL,hw⟩;exact⟨x,he,_,(av _).2 ⟨GL,rfl,rfl,rfl,rfl,rfl,rfl⟩,hw⟩
 ·
  rintro x w ⟨rt,U,q⟩;exact q.Eg (by rw[xR];simp)
 ·
  rintro x w ⟨rt,U,q⟩;have Xn:=(cK (k:=3) a5 (Wd.bounds h).1).1;refine(ON q 3 ca Xn a5 (by rw[Dz,cT];show X.sz+(DC DA.gw O+X.sz)<=X.rm;omega)).mono ?_;rintro e w' (⟨he,aY,hw⟩|⟨y,t,he,t1,t2,t3,t4,t5,hw⟩)
  ·refine .inl ⟨he,λz hz=>aY z ?_,rt,U,hw⟩;exact VD (GF hz (Yh _)) λa ha=>by simp at ha;subst ha;rfl
  ·exact .inr ⟨y,he,rt,t,U,(ab _).2 ⟨t1,t2,t3,t4,t5⟩,by simpa [AR]using hw⟩
 ·
  rintro x cs w w' ⟨U,rt,h2,q⟩ hb;exact⟨U,rt,h2,q.below hb⟩
 ·
  rintro x cs w ⟨U,rt,h2,q⟩;exact q.Eg (by rw[xR];simp)
 ·
  rintro x w ⟨U,rt,h2,q⟩;have e1:∀cs,O++Bx cs++[Eu X.p x rt X.sz lb]=(O++[Cs s0 28 [fa,na,ka,ca],Cs (s0+1) 3 [key],Cs (s0+2) 28 [fb,nb,kb,cb],Cs (s0+3) 148 [.func (.func fH) #[] EZ]])++Cs (s0+4) 28 cs::[Eu X.p x rt X.sz lb]:=λcs=>by rw[xR];simp
  rw[e1]at q;have k4:=F4 q (i:=(O++[Cs s0 28 [fa,na,ka,ca],Cs (s0+1) 3 [key],Cs (s0+2) 28 [fb,nb,kb,cb],Cs (s0+3) 148 [.func (.func fH) #[] EZ]]).length) (R:=s0+4) (cs:=Z4) (by rw[AX ao,Ap];rfl) rfl () () () ();rw[As _ _ ao,Ap]at k4;refine⟨U,rt,h2,?_⟩;rw[e1];exact k4
 ·
  rintro x u w ⟨U,rt,h2,q⟩;refine(Ij u q (GC _ _)).mono ?_;rintro e u' w' ⟨k1,k2,k3⟩;rw[Gf]at k3;refine⟨k1,k2,k3.Eg (by rw[xR];simp),.inr ⟨5,0,rfl,a5,.inr ⟨rfl,by rw[<-hO];exact U⟩,?_⟩⟩;have k4:=JK ⟨rfl,rfl⟩ k3;have k5:=Wd.Fy (b:=[]) (Bx Z4) (Yh _) (by rw[AZ];exact k4);rw[AZ]at k5;rw[<-hO];exact k5.mono a5 a5
 ·
  rintro x y w ⟨rt,wt,U,h2,q⟩;have:=q.new ((AS w w).alloc ao (AK #[AI y] 65)) (heap_alloc_new _ _:Row _ _ 65 [AI y]) ao;exact⟨rt,wt,U,h2,by simpa [AR]using this⟩
 ·
  rintro x y I w ⟨rt,wt,U,h2,q⟩;exact q.Eg a8
 ·
  rintro x y I w ⟨rt,wt,U,h2,q⟩;refine(aU q).mono ?_;rintro e w' ⟨gr,ga,gk,he,hw,_⟩;exact⟨gr,ga,gk,he,rt,wt,U,h2,by simpa [AR]using hw⟩
 ·
  rintro x y I gr ga gk w ⟨rt,wt,U,h2,q⟩;have k1:=q.new ((AS w w).alloc ao (AK #[.func (.func 131) #[] #[AI gk,AI ga,AI gr]] 170)) (heap_alloc_new _ _:Row _ _ 170 [.func (.func 131) #[] #[AI gk,AI ga,AI gr]]) ao;generalize w.heap.size=J at*
  refine⟨rt,wt,U,h2,k1.perm ?_⟩;obtain⟨r1,r2,r3,r4,r5,r6,r7⟩:=(av _).1 U;obtain⟨t1,t2,t3,t4,t5⟩:=(ab _).1 h2;have e1:rat rt 0=rt:=by unfold rat;rw[<-r2]
  have e2:(mt Z4 rt wt x y I gr ga gk J).wr 0=I1 X.p y wt X.sz:=by
   have:({wt with l:=[]}:Wt)=wt:=by rw[<-t4]
   rw[MQ];unfold MT.wr MT.Qj;simp only[Bt,List.map_nil];rw[this]
  show (((mt Z4 rt wt x y I gr ga gk J).L 0 ((mt Z4 rt wt x y I gr ga gk J).rd 0) Tp true ((mt Z4 rt wt x y I gr ga gk J).wr 0) [])).Perm _;rw[e2,uJ,xR,hO];have e3:(mt Z4 rt wt x y I gr ga gk J).rd 0=Eu X.p x rt X.sz lb:=by rw[MQ];unfold MT.rd;show Eu X.p x (rat rt 0) X.sz lb= _;rw[e1]
  rw[e3];have:=(yj (Cs s0 28 [fa,na,ka,ca]) (Cs (s0+1) 3 [key]) (Cs (s0+2) 28 [fb,nb,kb,cb]) (Cs (s0+3) 148 [.func (.func fH) #[] EZ]) (Cs (s0+4) 28 Z4) (Eu X.p x rt X.sz lb) (I1 X.p y wt X.sz) (Cs I 65 [AI y]) (Cs gr 81 [AI x]) (Cs ga 47 (DE Tp)) (Cs gk 4 [true]) (Cs J 170 [.func (.func 131) #[] #[AI gk,AI ga,AI gr]])).append_left (pre++H 0++post);rw[MQ];simpa [MT.rows,MT.oF,FZ,AR]using this
 ·
  rintro x y I gr ga gk J w ⟨rt,wt,U,h2,q⟩;exact q.Eg (by rw[MT.Z,uJ];simp)
 ·
  rintro x y I gr ga gk J w ⟨rt,wt,U,h2,q⟩;have hk:=DK U h2 Z4 x y I gr ga gk J;have hX:(mt Z4 rt wt x y I gr ga gk J).X=X:=by rw[MQ]
  have aD:(mt Z4 rt wt x y I gr ga gk J).la=la:=by rw[MQ]
  have aA:(mt Z4 rt wt x y I gr ga gk J).lb=lb:=by rw[MQ]
  have GL:(mt Z4 rt wt x y I gr ga gk J).rt=rt:=by rw[MQ]
  have qI:#[AI (AE ⟨(mt Z4 rt wt x y I gr ga gk J).gz,0,AD⟩),AI (AE ⟨(mt Z4 rt wt x y I gr ga gk J).LV,0,AD⟩),AI (AE ⟨(mt Z4 rt wt x y I gr ga gk J).gy,0,AD⟩),AI (AE ⟨(mt Z4 rt wt x y I gr ga gk J).gh,0,AD⟩)]=#[AI J,AI (s0+1,0),AI I,AI (s0+3,0)]:=by rw[MQ]
  obtain⟨r1,r2,r3,r4,r5,r6,r7⟩:=(av _).1 U;obtain⟨t1,t2,t3,t4,t5⟩:=(ab _).1 h2;have Ia:Cr rt.h lb.length=nb:=by rw[r4];exact LI.bn.symm
  have aE:=AF4 hk;rw[qI,aD,aA,GL,hX,Ia,aG]at aE;have a1:∀i s,(mt Z4 rt wt x y I gr ga gk J).P_ i s->Da fa na ka ha la X.sz∈(mt Z4 rt wt x y I gr ga gk J).Z s:=λi s _=>by
   rw[MT.Z,uJ];rcases Ag.1 wg with hm|hm<;>simp[hm]
  have GZ:DC DA.gw ((mt Z4 rt wt x y I gr ga gk J).Z (0,0,Tp,true))=DC DA.gw O+2*X.sz:=by
   have e4:∀r ok,DC DA.gw (FZ ((mt Z4 rt wt x y I gr ga gk J).rd 0) x gr ga gk r ok)=X.sz:=λr ok=>by rw[MQ];rfl
   have e5:DA.gw ((mt Z4 rt wt x y I gr ga gk J).wr 0)=X.sz:=by rw[MQ];rfl
   have e6:DC DA.gw ((mt Z4 rt wt x y I gr ga gk J).wr 0::(mt Z4 rt wt x y I gr ga gk J).rows)=X.sz:=by rw[EI,e5,Dq _ (aw _ _ _ _ _ _ _ _ _ _)];rfl
   have e7:DC DA.gw [Cs s0 28 [fa,na,ka,ca],Cs (s0+2) 28 [fb,nb,kb,cb],Cs (s0+4) 28 Z4]=0:=rfl;show DC DA.gw ((mt Z4 rt wt x y I gr ga gk J).L 0 ((mt Z4 rt wt x y I gr ga gk J).rd 0) Tp true ((mt Z4 rt wt x y I gr ga gk J).wr 0) [])= _;rw[uJ,<-hO,DM,DM,DM,e4,e6,e7];omega
  refine(bO (count:=ca) aE (s0:=(0,0,Tp,true)) ⟨rfl,Aq _,-9223372036854775808,by rw[aA];exact FI.start lb _,λt ht=>by
    rw[aD]at ht;have:=SS t (Ak ht);have e6:(mt Z4 rt wt x y I gr ga gk J).key=key:=by rw[MQ]
    rw[e6];omega⟩ (by unfold MT.c;rw[GL];show Cr rt.h 0+0/ _=0;rw[Du,Nat.zero_div]) q gW a1 aG (by rw[GZ];omega) a5).mono ?_
  rintro e w' (⟨⟨i,j,r,ok⟩,he,⟨k1,k2,k0,k3,_⟩,hw⟩|⟨er,z',he,De,KR,hw⟩)
  ·refine .inl ⟨he,(aC _ _ _ _).2 ⟨rt,wt,gr,ga,gk,J,j,r,ok,U,h2,by rw[aA]at k3;exact k3.le,?_⟩⟩;have k1:=k1;subst k1;have hw:Wd X ((mt Z4 rt wt x y I gr ga gk J).L la.length ((mt Z4 rt wt x y I gr ga gk J).rd j) r ok ((mt Z4 rt wt x y I gr ga gk J).wr la.length) []) (m+na+(Cr (mt Z4 rt wt x y I gr ga gk J).rt.h j+la.length/(mt Z4 rt wt x y I gr ga gk J).wt.h)) w':=hw;have e7:(mt Z4 rt wt x y I gr ga gk J).wt=wt:=by rw[MQ]
   rw[GL,e7,r4,aG]at hw;exact hw
  ·refine .inr ⟨er,he,De,(gu _ _ _ _ _).2 ?_⟩;rcases KR with⟨k1,k2,i,rd,r,ok,wo,k3,k4,rfl⟩|⟨k1,k2,i,⟨i',j,r,ok⟩,⟨k3,k4,k0,k5,_⟩,rfl⟩
   ·rw[hX]at k2;have Ll:az X x rt lb rd:=by rw[MQ]at k3;exact k3
    exact⟨k1,k2,rt,wt,I,gr,ga,gk,J,i,rd,r,ok,wo,U,h2,Ll,k4,hw.mono a5 a5⟩
   ·refine⟨k1,k2,rt,wt,I,gr,ga,gk,J,i',_,r,ok,_,U,h2,⟨j,.inl (by rw[MQ];rfl)⟩,⟨_,?_,.inl rfl⟩,hw.mono a5 a5⟩;rw[Aj,Ac];omega
 ·
  rintro x y I w q;obtain⟨rt,wt,gr,ga,gk,J,j,r,ok,U,h2,h3,q⟩:=(aC _ _ _ _).1 q;exact q.Eg (by rw[uJ,MQ];simp[MT.rows])
 ·
  rintro x y I w q;obtain⟨rt,wt,gr,ga,gk,J,j,r,ok,U,h2,h3,q⟩:=(aC _ _ _ _).1 q;have hk:=DK U h2 Z4 x y I gr ga gk J;obtain⟨t1,t2,t3,t4,t5⟩:=(ab _).1 h2;have a9:Cr hb j<=nb:=by rw[LI.bn];exact Db LI.hh.1 h3
  have a7:ca/wt.h<=ca:=BW _ _;have aa:=MT.wok hk (l:=(la.take ca).map res) (by rw[MQ,Aj,Ac];show min ca la.length<=la.length;omega);have e0:(la.take ca).map res=la.map res:=by rw[<-aG,By]
  rw[e0]at aa;have e1:(mt Z4 rt wt x y I gr ga gk J).wr ca=I1 X.p y ((mt Z4 rt wt x y I gr ga gk J).Qj (la.map res)) X.sz:=by
   rw[MQ];unfold MT.wr MT.Qj;rw[<-e0]
  have e2:(mt Z4 rt wt x y I gr ga gk J).X=X:=by rw[MQ]
  rw[e1]at q;rw[e2]at aa;have e3:(((mt Z4 rt wt x y I gr ga gk J).Qj (la.map res)).k=3/\((mt Z4 rt wt x y I gr ga gk J).Qj (la.map res)).h=Ct X.sz (3:Nat))/\((mt Z4 rt wt x y I gr ga gk J).Qj (la.map res)).l.length=la.length:=by
   rw[MQ];exact⟨⟨t1,t2⟩,by show (la.map res).length=la.length;rw[Aj]⟩
  refine(OR q MT.jA aa a5).mono ?_;rintro e w' (⟨he,hw⟩|⟨he,Fu,hw⟩)
  ·rw[MT.Uo]at hw;refine .inl ⟨_,_,_,?_,(ar _ _ _ _ _ _ _).2 ⟨rfl,rt,wt,I,gr,ga,gk,J,j,r,ok,U,h2,rfl,rfl,hw.mono ?_ a5⟩⟩
   ·rw[he,e3.1.1,e3.1.2,e3.2];rfl
   ·rw[e3.1.2,e3.2];have:=Di (Ct X.sz (3:Nat)) la.length;have hd:la.length/Ct X.sz (3:Nat)<=Cr (Ct X.sz (3:Nat)) la.length:=by unfold Cr;split<;>omega
    have e9:la.length/Ct X.sz (3:Nat)=ca/wt.h:=by rw[aG,t2]
    omega
  ·rw[MT.Uo]at hw;refine .inr ⟨he,(gu _ _ _ _ _).2 ⟨rfl,Fu,rt,wt,I,gr,ga,gk,J,ca,_,r,ok,_,U,h2,⟨j,.inl (by rw[MQ];rfl)⟩,⟨la.map res,by rw[MQ,Aj];exact AQ _,.inr (by rw[MQ])⟩,hw.mono a5 a5⟩⟩
 ·
  rintro x y er cs w q;obtain⟨_,_,rt,wt,I,gr,ga,gk,J,i,rd,r,ok,wo,_,_,_,_,q⟩:=(gu _ _ _ _ _).1 q;exact ni _ _ _ _ _ _ _ _ _ _ _ _ _ _ _ _ _ q
 ·
  rintro x y er w q;obtain⟨k1,k2,rt,wt,I,gr,ga,gk,J,i,rd,r,ok,wo,k3,k4,k5,k6,q⟩:=(gu _ _ _ _ _).1 q;exact(gu _ _ _ _ _).2 ⟨k1,k2,rt,wt,I,gr,ga,gk,J,i,rd,r,ok,wo,k3,k4,k5,k6,aH _ _ _ _ _ _ _ _ _ _ _ _ _ _ _ _ _ _ _ _ _ rfl q⟩
 ·
  rintro x y er u w q;obtain⟨k1,k2,rt,wt,I,gr,ga,gk,J,i,rd,r,ok,wo,k3,k4,k5,k6,q⟩:=(gu _ _ _ _ _).1 q;refine(a3 _ _ _ _ _ _ _ _ _ _ _ _ _ _ _ _ _ u k3 k4 k6 q).mono ?_;rintro e u' w' ⟨U,h2,l,h3⟩;refine⟨U,h2,λu2=>(SX _ _ _ _ _ _ _ _ _ _ _ _ _ _ _ _ _ u2 k5 h3).mono ?_⟩;rintro e u' Ej ⟨U,h2,sF,h4⟩;refine⟨U,h2,ni _ _ _ _ _ _ _ _ _ _ _ _ _ _ _ _ _ h4,.inr ⟨er,i,rfl,a5,.inl ⟨k1,k2⟩,?_⟩⟩;rw[uJ]at h4;have k7:=Wd.Fy _ (aI _ _ _ _ _ _ _ _) h4;have k8:=Wd.Fy (b:=[]) (Yu X.p y ((mt Z4 rt wt x y I gr ga gk J).Qj l)::(mt Z4 rt wt x y I gr ga gk J).rows) (λq hq=>by
   rcases A8.1 hq with rfl|hq
   ·exact⟨rfl,rfl⟩
   ·exact aw _ _ _ _ _ _ _ _ _ _ q hq) (by rw[AZ];exact k7)
  rwa [AZ]at k8
 ·
  rintro x y F N Q cs w q;obtain⟨_,rt,wt,I,gr,ga,gk,J,j,r,ok,_,_,_,_,q⟩:=(ar _ _ _ _ _ _ _).1 q;exact ni _ _ _ _ _ _ _ _ _ _ _ _ _ _ _ _ _ q
 ·
  rintro x y F N Q w q;obtain⟨k1,rt,wt,I,gr,ga,gk,J,j,r,ok,k2,k3,k4,k5,q⟩:=(ar _ _ _ _ _ _ _).1 q;have e1:∀cs,(mt cs rt wt x y I gr ga gk J).rd j=(mt Z4 rt wt x y I gr ga gk J).rd j/\(mt cs rt wt x y I gr ga gk J).Qj (la.map res)=(mt Z4 rt wt x y I gr ga gk J).Qj (la.map res):=λcs=>by rw[MQ,MQ];exact⟨rfl,rfl⟩
  refine(ar _ _ _ _ _ _ _).2 ⟨k1,rt,wt,I,gr,ga,gk,J,j,r,ok,k2,k3,?_,k5,?_⟩
  ·rw[(e1 _).2];exact k4
  ·rw[(e1 _).1,(e1 _).2];exact aH _ _ _ _ _ _ _ _ _ _ _ _ _ _ _ _ _ _ _ _ _ rfl q
 ·
  rintro x y F N Q u w q;obtain⟨k1,rt,wt,I,gr,ga,gk,J,j,r,ok,k2,k3,k4,k5,q⟩:=(ar _ _ _ _ _ _ _).1 q;obtain⟨t1,t2,t3,t4,t5⟩:=(ab _).1 k3;generalize aB:[Bg AB (F:Int),AA AB N,AA AB (3:Nat),AA AB Q]=cs at*
  refine(E8 (q.at_ MT.jA) u).mono ?_;rintro e u' w' ⟨U,h2,rfl⟩;refine⟨U,h2,λu2=>(SX _ _ _ _ _ _ _ _ _ _ _ _ _ _ _ _ _ u2 ⟨j,.inl (by rw[MQ];rfl)⟩ q).mono ?_⟩;rintro e u' Ej ⟨U,h2,sF,h4⟩;refine⟨U,h2,ni _ _ _ _ _ _ _ _ _ _ _ _ _ _ _ _ _ h4,.inl ⟨F,N,by rw[<-aB,k1,Aj],?_,?_⟩⟩
  ·have q1:=t5.h;have q2:=t5.first;rw[t1,t2]at q1;refine⟨a5,q1,rfl,by rw[k5,Aj],by rw[Aj];exact a0,?_,a6⟩;rw[k4,MQ];unfold DY MT.Qj
   split
   ·omega
   ·exact q2
  ·have h5:=WV h4 MT.jA;have e1:(((mt cs rt wt x y I gr ga gk J).Qj (la.map res)).k=3/\((mt cs rt wt x y I gr ga gk J).Qj (la.map res)).h=Ct X.sz (3:Nat))/\((mt cs rt wt x y I gr ga gk J).Qj (la.map res)).l=la.map res:=by
    rw[MQ];exact⟨⟨t1,t2⟩,rfl⟩
   rw[MT.Uo,<-k4,e1.1.1,e1.1.2,e1.2,uJ]at h5;have k7:=Wd.Fy _ (aI _ _ _ _ _ _ _ _) h5;have e2:∀(a:DA) (z:List DA),pre++H ca++post++a::z=(pre++H ca++post++[a])++z++[]:=λa z=>by simp
   rw[e2]at k7;have k8:=Wd.Fy _ (aw _ _ _ _ _ _ _ _ _ _) k7;rw[AZ,Aj,<-k5]at k8;exact k8
end
def FW(gl:Nat)(A S:List Cv)(i:Nat):List DA:=[Cs gl 125 (Ev ((A.take i).countP (gO S)))]
section
variable{X:Cx}{m:Nat}{W:World}
theorem yz{pre post}{gl gw gas gs fa H ka Q ca fb nb kb hb cb op:Nat}{A S}
  (h:Wd X (pre++FW gl A S 0++post) m W)(gW:GY fa H ka Q A X.sz)(wg:Da fa H ka Q A X.sz∈pre++post)(aG:A.length=ca)(LI:GY fb nb kb hb S X.sz)(SR:Da fb nb kb hb S X.sz∈pre++post)(Lt:S.length=cb)
  (qA:S.Pairwise λu v=>u.a<=v.a)(UL:A.Pairwise λu v=>u.b<=v.b)(SS:∀t∈A,-1<=t.b)(O:∀t∈A,EE (lenT S t)/\Dc 3 (lenT S t)=true)
  (I:3*X.sz+DC DA.gw (pre++FW gl A S 0++post)<=X.rm)(hn:X.N+m+H+nb+ca+2<=1000000)
  (hw:Cs gw 23 [AI X.p.w]∈pre++post)(has:Cs gas 28 [fa,H,ka,ca]∈pre++post)(hs:Cs gs 125 [fb,nb,kb,cb,op]∈pre++post):
  Calls AP 88 #[AI gw,AI gas,AI gs,AI gl] W (Mk X pre post (FW gl A S) (A.map (lenT S)) m H nb ca):=by
 obtain⟨R,hR⟩:=ae W.heap.size;obtain⟨W1,EB⟩:=ae (W.alloc (AK #[(),(),(),()] 28));have DV:Below W W W1:=by rw[EB];exact(AS _ _).alloc ao _
 have U:=h.new DV (by rw[EB];exact heap_alloc_new _ _:Row W1 _ 28 Z4) ao;rw[<-hR,AR]at U;have NG:∀{a:DA},a∈pre++post->a∈pre++FW gl A S 0++(post++[Cs R 28 Z4]):=λ{a} Q=>by
  rcases Ag.1 Q with hm|hm<;>simp[hm]
 have ab:∀{a:DA},a∈pre++post->a∈pre++(post++[Cs R 28 Z4]):=λ{a} Q=>by
  rcases Ag.1 Q with hm|hm<;>simp[hm]
 have al:∀(b:Bool) (t:Cv),DP t 1=t.b:=λ_ _=>rfl;have HM:=AO (WW (key:=1) (sZ (X:=X) (g:=gl) (pre:=pre) (A:=A) (S:=S) gW.len) U gW (ab wg) aG LI (ab SR) Lt a5 qA UL (λt ht=>by have:=SS t ht;show _<t.b;omega) O (by
  have e:DC DA.gw (pre++FW gl A S 0++(post++[Cs R 28 Z4]))=DC DA.gw (pre++FW gl A S 0++post):=by rw[<-AR,Dz];rfl
  show 3*X.sz+DC DA.gw (pre++FW gl A S 0++(post++[Cs R 28 Z4]))<=X.rm;rw[e];exact I) hn)
 have q1:=U.Eg (NG hw);have q2:=U.Eg (NG has);have q3:=U.Eg (NG hs);have Gv:Hid (∀e w',Mk X pre (post++[Cs R 28 Z4]) (FW gl A S) (A.map (lenT S)) m H nb ca e w'->∃F N K L er:Nat,e=AH (AM #[AL #[F,N,K,L],er])/\Row w' R 28 Z4/\
   Row ((((w'.setCell R F).setCell (R,1) N).setCell (R,2) K).setCell (R,3) L) R 28 [F,N,K,L]/\
   Mk X pre post (FW gl A S) (A.map (lenT S)) m H nb ca (AH (AM #[AL #[AA AB F,AA AB N,AA AB K,AA AB L],AA AB er])) ((((w'.setCell ⟨R,0,AD⟩ (AA AB F)).setCell ⟨R,1,AD⟩ (AA AB N)).setCell ⟨R,2,AD⟩ (AA AB K)).setCell ⟨R,3,AD⟩ (AA AB L))):=by
  have e1:∀(i:Nat) (cs:List Value) (z:List DA),pre++FW gl A S i++(post++[Cs R 28 cs])++z=(pre++FW gl A S i++post)++Cs R 28 cs::z:=λi cs z=>by simp
  have aa:∀(i M:Nat) (z:List DA) (w:World) (x1 x2 x3 x4:Value),Wd X (pre++FW gl A S i++(post++[Cs R 28 Z4])++z) M w->Wd X ((pre++FW gl A S i++post)++Cs R 28 [x1,x2,x3,x4]::z) M ((((w.setCell R x1).setCell (R,1) x2).setCell (R,2) x3).setCell (R,3) x4):=λi M z w x1 x2 x3 x4 q=>by
   rw[e1]at q;have J:=F4 q (i:=(pre++FW gl A S i++post).length) (R:=R) (cs:=Z4) (by rw[AX ao,Ap];rfl) rfl x1 x2 x3 x4;rw[As _ _ ao,Ap]at J;exact J
  rintro e w' (⟨F,N,he,NH,hw⟩|⟨er,i,he,De,Hw,hw⟩)
  ·have J:=aa _ _ _ _ (AA AB F) (AA AB N) (AA AB (3:Nat)) (AA AB ((A.map (lenT S)).length:Nat)) hw;exact⟨F,N,3,_,0,he,hw.Eg a8,J.Eg a8,.inl ⟨F,N,rfl,NH,J.cut rfl rfl⟩⟩
  ·rw[<-AZ (pre++FW gl A S i++(post++[Cs R 28 Z4]))]at hw;have J:=aa _ _ _ _ (AA AB (0:Nat)) (AA AB (0:Nat)) (AA AB (0:Nat)) (AA AB (0:Nat)) hw;refine⟨0,0,0,0,er,he,hw.Eg a8,J.Eg a8,.inr ⟨er,i,rfl,De,?_,by have:=J.cut rfl rfl;rwa [AZ]at this⟩⟩;rcases Hw with h|⟨h5,ad⟩
   ·exact .inl h
   ·refine .inr ⟨h5,λq hq=>ad q ?_⟩;rw[<-AR];exact GF hq λy hy=>by simp at hy;subst hy;exact⟨rfl,rfl⟩
 have ar:Hid (Calls AP 86 #[AI X.p.w,AL #[fa,H,ka,ca],AA AB 1,AL #[fb,nb,kb,cb],.func (.func 89) #[] #[AI gl]] W1 (Mk X pre (post++[Cs R 28 Z4]) (FW gl A S) (A.map (lenT S)) m H nb ca)):=HM.out;generalize Mk X pre (post++[Cs R 28 Z4]) (FW gl A S) (A.map (lenT S)) m H nb ca=av at*
 generalize Mk X pre post (FW gl A S) (A.map (lenT S)) m H nb ca=Dd at*
 have E0:=AO EB;replace hR:=AO hR;have a0:W1.cell? gw=AE (AI X.p.w):=q1.cell 0;obtain⟨b0,b1,b2,b3⟩:=q2.q4;obtain⟨c0,c1,c2,c3⟩:=q3.q4;clear h U DV EB q1 q2 q3 gW wg aG LI SR Lt qA UL SS O I hn hw has hs HM al;go_enter func88,ntmps88
 go_upto_region 1 with(fail)
 rw[<-E0.out,<-hR.out];clear E0;go_wp2_with fail
 refine ar.out.mono ?_;rintro e w7 h7;obtain⟨F,N,K,L,er,rfl,hr,Dx,hp⟩:=Gv.out e w7 h7;have HP:=AO hp;have ES:=AO Dx;obtain⟨z0,z1,z2,z3⟩:=hr.q4;obtain⟨f0,f1,f2,f3⟩:=hr.r4;clear h7 hr Dx hp;go_wp2
 have r0:=ES.out.cell 0;have r1:=ES.out.cell 1;have r2:=ES.out.cell 2;have r3:=ES.out.cell 3;simp only[AW,AV]at r0 r1 r2 r3;refine Aw (v:=AM #[AL #[F,N,K,L],er]) (by simp[results,Tryz.results88,go_sem,r0,r1,r2,r3]) rfl ?_;exact HP.out
end
section
variable{α:Type}{lt:α->α->Bool}{f g:Nat->α}{n x i j:Nat}
structure qT (lt:α->α->Bool):Prop where
 asym:∀a b,lt a b=true->lt b a=false
 trans:∀a b c,lt b a=false->lt c b=false->lt c a=false
def par(j:Nat):Nat:=(j-1)/2
def Hp(lt:α->α->Bool)(f:Nat->α)(n:Nat):Prop:=∀j,0<j->j<n->lt (f j) (f (par j))=false
def jB(lt:α->α->Bool)(f:Nat->α)(n x:Nat):Prop:=(∀j,0<j->j<n->par j≠x->lt (f j) (f (par j))=false)/\(0<x->∀j,0<j->j<n->par j=x->lt (f j) (f (par x))=false)
def vC(lt:α->α->Bool)(f:Nat->α)(n x:Nat):Prop:=(∀j,0<j->j<n->j≠x->lt (f j) (f (par j))=false)/\(0<x->∀j,0<j->j<n->par j=x->lt (f j) (f (par x))=false)
def Chg(f g:Nat->α)(i j:Nat):Prop:=∀p,g p=if p=i then f j else if p=j then f i else f p
theorem MG(h:0<j):par j<j:=by unfold par;omega
theorem Hp.xY(h:∀j,0<j->j<n->par j≠0->lt (f j) (f (par j))=false):jB lt f n 0:=⟨h,λh=>by omega⟩
theorem jB.leaf(h:jB lt f n x)(I:n<=2*x+1):Hp lt f n:=λj H e=>h.1 j H e (by unfold par;omega)
theorem jB.stop(J:qT lt)(h:jB lt f n x){c}(hle:lt (f c) (f x)=false)(O:∀j,0<j->j<n->par j=x->lt (f j) (f c)=false):Hp lt f n:=λj I H=>by
 by_cases e:par j=x
 ·rw[e];exact J.trans _ _ _ hle (O j I H e)
 ·exact h.1 j I H e
theorem jB.step(ho:qT lt)(h:jB lt f n x){c}(hc:c=2*x+1\/c=2*x+2)(Vh:c<n)(ab:lt (f c) (f x)=true)(Lr:∀j,0<j->j<n->par j=x->lt (f j) (f c)=false)(hg:Chg f g x c):jB lt g n c:=by
 have J:par c=x:=by unfold par;omega
 have U:x≠c:=a5;have gx:g x=f c:=by rw[hg x,if_pos rfl]
 have gc:g c=f x:=by rw[hg c,if_neg (λe=>U e.symm),if_pos rfl]
 have gp:∀p,p≠x->p≠c->g p=f p:=λp Q h2=>by rw[hg p,if_neg Q,if_neg h2]
 refine⟨λj h0 Q O=>?_,λ_ j h0 Q O=>?_⟩
 ·by_cases I:par j=x
  ·rw[I,gx];by_cases H:j=c
   ·rw[H,gc];exact ho.asym _ _ ab
   ·have:j≠x:=by unfold par at I;omega
    rw[gp j this H];exact Lr j h0 Q I
  ·rw[gp (par j) I O];by_cases aa:j=x
   ·rw[aa,gx];exact h.2 a5 c a5 Vh J
   ·have:j≠c:=λe=>I (by rw[e];exact J);rw[gp j aa this];exact h.1 j h0 Q I
 ·have I:j≠x:=by unfold par at O;omega
  have H:j≠c:=by unfold par at O;omega
  rw[gp j I H,J,gx,<-O];exact h.1 j h0 Q (by rw[O];exact λe=>U e.symm)
theorem vC.root(h:vC lt f n 0):Hp lt f n:=λj H e=>h.1 j H e a5
theorem vC.stop(h:vC lt f n x)(hle:lt (f x) (f (par x))=false):Hp lt f n:=λj I H=>by
 by_cases e:j=x
 ·rw[e];exact hle
 ·exact h.1 j I H e
theorem vC.step(U:qT lt)(h:vC lt f n x)(hx:0<x)(ab:x<n)(J:lt (f x) (f (par x))=true)(hg:Chg f g (par x) x):vC lt g n (par x):=by
 have Hl:=MG hx;have gp:g (par x)=f x:=by rw[hg,if_pos rfl]
 have gx:g x=f (par x):=by rw[hg,if_neg a5,if_pos rfl]
 have go:∀p,p≠par x->p≠x->g p=f p:=λp I O=>by rw[hg p,if_neg I,if_neg O]
 refine⟨λj Q I hj=>?_,λhp j Q I hj=>?_⟩
 ·by_cases H:j=x
  ·rw[H,gx,gp];exact U.asym _ _ J
  ·rw[go j hj H];by_cases O:par j=x
   ·rw[O,gx];exact h.2 hx j Q I O
   ·by_cases h3:par j=par x
    ·rw[h3,gp];exact U.trans _ _ _ (U.asym _ _ J) (h3▸h.1 j Q I H)
    ·rw[go _ h3 O];exact h.1 j Q I H
 ·have h4:=MG hp;have SN:lt (f (par x)) (f (par (par x)))=false:=h.1 (par x) hp a5 a5;rw[go (par (par x)) a5 a5];by_cases H:j=x
  ·rw[H,gx];exact SN
  ·have aa:j≠par x:=λe=>by rw[e]at hj;omega
   rw[go j aa H];exact U.trans _ _ _ SN (hj▸h.1 j Q I H)
theorem Hp.least(I:qT lt)(h:Hp lt f n)(H:∀a,lt a a=false):∀j,j<n->lt (f j) (f 0)=false:=λj=>by
 induction j using Nat.strongRecOn with
 |ind j ih=>
  intro J;rcases A7 j with rfl|e
  ·exact H _
  ·have O:=MG e;exact I.trans _ _ _ (ih (par j) O a5) (h j e J)
end
theorem Ka{α}[DecidableEq α]{d}{l:List α}{i j}(hi:i<l.length)(I:j<l.length):(swp d l i j).Perm l:=by
 refine List.perm_iff_count.2 λa=>?_;have ei:l.getD i d=l[i]:=by rw[AT,AU hi];rfl
 have U:l.getD j d=l[j]:=by rw[AT,AU I];rfl
 unfold swp;rw[List.count_set (by rw[Bk];exact I),List.count_set hi,List.getElem_set,ei,U];have J:(l[i]==a)=true->0<l.count a:=λh=>List.count_pos_iff.2 (by rw[<-eq_of_beq h];exact Bs hi);have Q:(l[j]==a)=true->0<l.count a:=λh=>List.count_pos_iff.2 (by rw[<-eq_of_beq h];exact Bs I);by_cases O:i=j
 ·subst O;rw[if_pos rfl]
  split
  ·next h=>have:=J h;omega
  ·omega
 ·rw[if_neg O];by_cases H:(l[i]==a)=true
  ·have:=J H;by_cases e:(l[j]==a)=true
   ·simp only[H,e,if_true];omega
   ·simp only[H,Bool.eq_false_iff.2 e,if_true,Bool.false_eq_true,if_false];omega
  ·by_cases e:(l[j]==a)=true
   ·have:=Q e;simp only[Bool.eq_false_iff.2 H,e,if_true,Bool.false_eq_true,if_false];omega
   ·simp only[Bool.eq_false_iff.2 H,Bool.eq_false_iff.2 e,Bool.false_eq_true,if_false];omega
theorem kT(o:Cv)(q:List Cv)(t:Cv):q.length<=(stepO o q t).length:=by
 unfold stepO
 split
 ·split
  ·exact AQ _
  ·rw[AY];omega
 ·rw[AY];omega
theorem mG(once:Bool)(o:Cv)(s:List Cv)(t:Cv):(Dp once o s).length<=(Dp once o (s++[t])).length:=by
 unfold Dp;split
 ·rw[Nt];exact kT _ _ _
 ·rw[AY];omega
def I3(once:Bool)(o:Cv)(hh:Nat)(s:List Cv):Nat:=(Dp once o s).length/hh
theorem Nj(once:Bool)(o:Cv)(hh:Nat)(s:List Cv):I3 once o hh s<=s.length:=Af (BW _ _) (SD once o s)
theorem WS(once:Bool)(o:Cv)(hh:Nat)(s:List Cv)(t:Cv)(m:Nat):m+I3 once o hh s+((Dp once o (s++[t])).length/hh-(Dp once o s).length/hh)=m+I3 once o hh (s++[t]):=by
 have:=Nat.div_le_div_right (c:=hh) (mG once o s t);unfold I3;omega
theorem ZP(r:Nat)(w:World):Br AP (method 371 221 (AI r) "Next") w=.ok (190,AI r) w:=a7
section
variable{X:Cx}{DH:List DA}{o:Cv}{once:Bool}{k hh bd xw tT fP n:Nat}{vT:Value}{Z:List Cv->List DA}{bx rd:DA}{r b g M q m:Nat}{s0 l:List Cv}{W:World}
def KN(DH:List DA)(Z:List Cv->List DA)(bx rd:DA)(b g M k q r:Nat)(o:Cv)(s l:List Cv)(told:Nat):List DA:=DH++Z s++[bx,rd,Fw b g M k l,Cs r 225 (Jf k g (q*k) M o told)]
theorem ko(hS:ow X o once k hh bd xw tT fP vT Z n)(hk:0<k/\k<=5)(hM:q*k<=M/\M<=1000000/\q<=1000000)(hl:l.length=q)(hf:ID k l)(ab:s0.length+q<=bd)(hn:X.N+m+(s0.length+q)<1000000)
  (h:Wd X (KN DH Z bx rd b g M k q r o s0 l 0) (m+I3 once o hh s0) W):
  Calls AP 138 #[.iface 221 (AI r),.iface tT vT] W λe w'=>
   (e=AH ()/\Wd X (KN DH Z bx rd b g M k q r o (s0++l) l q) (m+I3 once o hh (s0++l)) w')\/
   (e=AH (AA AB 6)/\¬X.cm/\∃z m' told,YK X xw n z/\Wd X (DH++z++[bx,rd,Fw b g M k l,Cs r 225 (Jf k g (q*k) M o told)]) m' w'):=by
 have Oj:∀told,told<=q->(s0++l.take told).length=s0.length+told:=λtold Q=>by rw[AY,Ac];omega
 refine XB (n:=q) (J:=λj w=>∃told,told+j=q/\Wd X (KN DH Z bx rd b g M k q r o (s0++l.take told) l told) (m+I3 once o hh (s0++l.take told)) w)
  (Jm:=λt j w=>∃told,told+1+j=q/\l[told]?=AE t/\Wd X (KN DH Z bx rd b g M k q r o (s0++l.take told) l (told+1)) (m+I3 once o hh (s0++l.take told)) w)
  (E:=λw=>Wd X (KN DH Z bx rd b g M k q r o (s0++l) l q) (m+I3 once o hh (s0++l)) w)
  (Er:=λw=>¬X.cm/\∃z m' told,YK X xw n z/\Wd X (DH++z++[bx,rd,Fw b g M k l,Cs r 225 (Jf k g (q*k) M o told)]) m' w)
  (ZP r) hS.mm (λargs w=>by kernel_rfl) hS.me ?_ ?_ ?_ ?_ ?_ ⟨0,a5,by rw[Bt,AZ];exact h⟩
 ·rintro j w ⟨told,Q,H⟩;have hr:(KN DH Z bx rd b g M k q r o (s0++l.take told) l told)[DH.length+n+3]?=AE (Cs r 225 (Jf k g (q*k) M o told)):=FO (j:=3) (hS.len _);have hg:(KN DH Z bx rd b g M k q r o (s0++l.take told) l told)[DH.length+n+2]?=AE (Fw b g M k l):=FO (j:=2) (hS.len _);rcases Nat.eq_or_lt_of_le (show told<=q by omega)with he|aa
  ·subst he;refine(Uv H hr hg hk hM hl hf).mono ?_;rintro e w' ⟨he,I⟩;refine .inr (.inl ⟨he,?_⟩);rwa [Ao a5]at I
  ·have O:l[told]?=AE (l[told]' a5):=AU _;refine(ju H hr hg hk hM hl aa hf O).mono ?_;rintro e w' ⟨he,I⟩;refine .inl ⟨_,j-1,he,a5,told,a5,O,?_⟩;have e1:(KN DH Z bx rd b g M k q r o (s0++l.take told) l told).set (DH.length+n+3) (Cs r 225 (Jf k g (q*k) M o (told+1)))=KN DH Z bx rd b g M k q r o (s0++l.take told) l (told+1):=GG (j:=3) (hS.len _);rw[e1]at I;exact I
 ·rintro t j w ⟨told,Q,O,H⟩;have hle:=Nj once o hh (s0++l.take told);rw[Oj told a5]at hle;refine(hS.put DH _ _ _ t w H (hf t (Ak O)).2 (by rw[Oj told a5];omega) a5).mono ?_;have e1:s0++l.take told++[t]=s0++l.take (told+1):=by rw[AR,Bi,O];rfl
  rintro e w' (⟨he,I⟩|⟨he,hc,z,m',U,I⟩)
  ·rw[WS,e1]at I;exact .inl ⟨he,told+1,a5,I⟩
  ·exact .inr ⟨he,hc,z,m',told+1,U,I⟩
 ·rintro t j w w' ⟨told,Q,O,H⟩ hb;exact⟨told,Q,O,H.below hb⟩
 ·exact λw w' H hb=>H.below hb
 ·rintro w w' ⟨hc,z,m',told,U,H⟩ hb;exact⟨hc,z,m',told,U,H.below hb⟩
end
def Yo(o:Cv)(q:Nat)(s:List Cv):Prop:=∀j,NC o ((s.drop (j*q)).take q)
theorem O5(o:Cv):NC o []:=by simp[NC]
theorem oX{o a b c d}(H:Cl o a b)(e:Cl o c d):Cl o (a++c) (b++d):=λt=>by rw[Ba,Ba,H t,e t]
theorem YE{o q i s r}(h:Yo o q s)(I:s.length=i*q)(J:NC o r)(O:r.length<=q):Yo o q (s++r):=λj=>by
 rcases Nat.lt_trichotomy j i with e|he|H
 ·have Q:j*q+q<=i*q:=by
   have:=Ae q (show j+1<=i from e);rw[A6,BD]at this;exact this
  rw[List.drop_append_of_le_length a5,CX (by rw[An];omega)];exact h j
 ·subst he;rw[<-I,List.drop_left,Ao O];exact J
 ·have Q:i*q+q<=j*q:=by
   have:=Ae q (show i+1<=j from H);rw[A6,BD]at this;exact this
  rw[List.drop_eq_nil_of_le (by rw[AY];omega),List.take_nil];exact O5 o
def Em(w k hh rb Dl:Nat)(o:Cv)(once:Bool)(cnt:Nat):List Value:=[k,hh,rb,Dl,AI w,o.a,o.b,o.c,o.d,o.e,once,cnt]
def Q8(X:Cx)(x bd n:Nat)(Z:List Cv->List DA)(z:List DA):Prop:=(∃s,s.length<=bd/\z=Z s)\/YK X x n z
theorem ZZ{a z b:List DA}{j:Nat}{v}(h:a[j]?=AE v):(a++z++b)[j]?=AE v:=by
 have H:j<a.length:=by
  rcases Am j a.length with e|e
  ·exact e
  ·rw[BG e]at h;cases h
 rw[AR,Al H];exact h
structure FP where
 X:Cx
 DH:List DA
 Z:List Cv->List DA
 o:Cv
 once:Bool
 k:Nat
 hh:Nat
 bd:Nat
 xw:Nat
 tT:Nat
 fP:Nat
 vT:Value
 n:Nat
 first:Nat
 nb:Nat
 count:Nat
 q:Nat
 m:Nat
 fb:Nat
 x:Nat
 b:Nat
 g:Nat
 tb:Nat
 tg:Nat
 l:List Cv
def FP.rt(P:FP):Rt:=⟨P.k,P.hh,P.first,P.nb,P.count,0,P.b,P.g⟩
def FP.bx(P:FP):DA:=Cs P.fb 28 [P.first,P.nb,P.k,P.count]
def FP.rd(P:FP)(c:Nat):DA:=Eu P.X.p P.x (Ge P.rt c) P.X.sz P.l
def FP.tp(P:FP)(l:List Cv):DA:=Fw P.tb P.tg (P.q*P.k) P.k l
def FP.run(P:FP)(r q told:Nat):DA:=Cs r 225 (Jf P.k P.tg (q*P.k) (P.q*P.k) P.o told)
def FP.mm(P:FP)(c:Nat)(s:List Cv):Nat:=P.m+Cr P.hh c+I3 P.once P.o P.hh s
structure FP.Ok (P:FP):Prop where
 S:ow P.X P.o P.once P.k P.hh P.bd P.xw P.tT P.fP P.vT P.Z P.n
 f:GY P.first P.nb P.k P.hh P.l P.X.sz
 c:P.l.length=P.count
 src:Src P.DH P.X.sz P.first P.k P.hh P.l
 q:P.q<=P.count/\P.q*P.k<=1000000
 bd:P.count<=P.bd/\P.bd<=100000
 n:P.X.N+P.m+3*P.count+3<=1000000
 vt:JA P.rt P.X.sz
structure FP.Put (P:FP) (c:Nat) (s:List Cv):Prop where
 len:s.length=c
 asc:Yo P.o P.q s
 cl:Cl P.o (P.l.take c) s
 fit:ID P.k s
def FP.A(P:FP)(c:Nat)(W:World):Prop:=∃s,P.Put c s/\Wd P.X (P.DH++P.Z s++[P.bx,P.rd c,P.tp []]) (P.mm c s) W
def FP.nx(P:FP)(c:Nat):Nat:=min P.q (P.count-c)
def FP.B(P:FP)(c r:Nat)(W:World):Prop:=∃s,P.Put c s/\Wd P.X (P.DH++P.Z s++[P.bx,P.rd c,P.tp [],P.run r (P.nx c) 0]) (P.mm c s) W
def FP.C(P:FP)(c r:Nat)(W:World):Prop:=∃s,P.Put c s/\Wd P.X (P.DH++P.Z s++[P.bx,P.rd (c+P.nx c),P.tp ((P.l.drop c).take (P.nx c)),P.run r (P.nx c) 0]) (P.mm (c+P.nx c) s) W
def FP.D(P:FP)(c r:Nat)(W:World):Prop:=∃s l',P.Put c s/\(NC P.o l'/\Cl P.o ((P.l.drop c).take (P.nx c)) l'/\l'.length=P.nx c/\ID P.k l')/\Wd P.X (P.DH++P.Z s++[P.bx,P.rd (c+P.nx c),P.tp l',P.run r (P.nx c) 0]) (P.mm (c+P.nx c) s) W
def FP.No(P:FP)(W:World):Prop:=¬P.X.cm/\∃z rd tl l' m',Q8 P.X P.xw P.bd P.n P.Z z/\((∃c,rd=P.rd c)\/∃r',rd=Nr P.X.p P.x r')/\Dn tl/\Wd P.X (P.DH++z++P.bx::rd::P.tp l'::tl) m' W
section
variable{P:FP}{c r:Nat}{W W':World}
theorem FP.lu(e:P.Ok){s}(I:s.length<=c)(J:c<=P.count):P.X.N+P.mm c s+P.count+3<=1000000:=by
 have O:=Nj P.once P.o P.hh s;have H:=Jo (h:=P.hh) e.f.hh.1 0 c;rw[BL,Du]at H;have h3:=e.n;unfold FP.mm;omega
theorem FP.lY(c:Nat):P.nx c<=P.q/\P.nx c<=P.count-c:=⟨Nat.min_le_left _ _,Nat.min_le_right _ _⟩
theorem FP.toB(h:P.A c W){g}(hb:Below W W W')(e:Row W' g 225 (Jf P.k P.tg (P.nx c*P.k) (P.q*P.k) P.o 0))(H:W<=g):P.B c g W':=by
 obtain⟨s,J,I⟩:=h;refine⟨s,J,?_⟩;have h3:=I.new hb e H;rw[AR]at h3;exact h3
theorem FP.B.load(H:P.Ok)(hc:c<=P.count)(h:P.B c r W):Calls AP 148 #[AI r,.iface 81 (AI P.x)] W λe w'=>(e=AH ()/\P.C c r w')\/(e=AH (AA AB 6)/\P.No w'):=by
 obtain⟨s,J,h2⟩:=h;have hn:=P.lY c;have I:=H.q;have hlen:=H.S.len s;have U:(P.DH++P.Z s++[P.bx,P.rd c,P.tp [],P.run r (P.nx c) 0])[P.DH.length+P.n+1]?=AE (Eu P.X.p P.x (Ge P.rt c) P.X.sz P.l):=FO (j:=1) hlen;have hg:(P.DH++P.Z s++[P.bx,P.rd c,P.tp [],P.run r (P.nx c) 0])[P.DH.length+P.n+2]?=AE (Fw P.tb P.tg (P.q*P.k) P.k []):=FO (j:=2) hlen;have hr:(P.DH++P.Z s++[P.bx,P.rd c,P.tp [],P.run r (P.nx c) 0])[P.DH.length+P.n+3]?=AE (Cs r 225 (Jf P.k P.tg (P.nx c*P.k) (P.q*P.k) P.o 0)):=FO (j:=3) hlen;have aa:=P.lu H (Nat.le_of_eq J.len) hc;have O:qS (Ge P.rt c) P.X.sz P.l:=⟨⟨H.vt.k,H.vt.h,H.vt.sz,⟨H.vt.count.1,by show 0+c<=P.count;omega⟩,H.vt.first⟩,H.c,H.f.fit⟩;have EY:Src (P.DH++P.Z s++[P.bx,P.rd c,P.tp [],P.run r (P.nx c) 0]) P.X.sz (Ge P.rt c).first (Ge P.rt c).k (Ge P.rt c).h P.l:=by
  obtain⟨j,f,hj,h3⟩:=H.src;exact⟨j,f,ZZ hj,h3⟩
 refine(qs h2 hr hg U a5 a5 a5 H.f.kk ⟨Ae _ hn.1,I.2,by have:=H.bd;omega⟩ O EY (by show 0+c+P.nx c<=P.count;omega) a5).mono ?_;rintro e w' (⟨he,h3⟩|⟨he,Fu,Q,l',m',h3⟩)
 ·refine .inl ⟨he,s,J,?_⟩;unfold Ml at h3;rw[GG hlen,GG hlen]at h3;have e1:P.mm c s+(Cr (Ge P.rt c).h ((Ge P.rt c).pos+P.nx c)-Cr (Ge P.rt c).h (Ge P.rt c).pos)=P.mm (c+P.nx c) s:=by
   have:=Db (h:=P.hh) (c:=c) (c':=c+P.nx c) H.f.hh.1 a5;show P.mm c s+(Cr P.hh (0+c+P.nx c)-Cr P.hh (0+c))= _;rw[BL];unfold FP.mm;omega
  rw[e1]at h3;have e2:Ge (Ge P.rt c) (P.nx c)=Ge P.rt (c+P.nx c):=by
   show ({P.rt with pos:=0+c+P.nx c}:Rt)={P.rt with pos:=0+(c+P.nx c)};rw[CK]
  rw[e2,show (Ge P.rt c).pos=c from BL c]at h3;exact h3
 ·refine .inr ⟨he,Fu,P.Z s,_,[P.run r (P.nx c) 0],l',m',.inl ⟨s,by rw[J.len];have:=H.bd;omega,rfl⟩,.inr ⟨Q,rfl⟩,λq I=>by rw[Bn.1 I];exact⟨rfl,rfl⟩,?_⟩;rw[GG hlen,GG hlen]at h3;exact h3
theorem FP.C.yW(H:P.Ok)(h:P.C c r W):Calls AP 149 #[.iface 221 (AI r)] W λe w'=>e=AH (AM #[])/\P.D c r w':=by
 obtain⟨s,h1,h2⟩:=h;have hn:=P.lY c;have hq:=H.q;have hlen:=H.S.len s;have PR:((P.l.drop c).take (P.nx c)).length=P.nx c:=by rw[Ac,An,H.c];omega
 have hg:(P.DH++P.Z s++[P.bx,P.rd (c+P.nx c),P.tp ((P.l.drop c).take (P.nx c)),P.run r (P.nx c) 0])[P.DH.length+P.n+2]?=AE (Fw P.tb P.tg (P.q*P.k) P.k ((P.l.drop c).take (P.nx c))):=FO (j:=2) hlen;have U:(P.DH++P.Z s++[P.bx,P.rd (c+P.nx c),P.tp ((P.l.drop c).take (P.nx c)),P.run r (P.nx c) 0])[P.DH.length+P.n+3]?=AE (Cs r 225 (Jf P.k P.tg (P.nx c*P.k) (P.q*P.k) P.o 0)):=FO (j:=3) hlen;refine(di h2 U hg a5 H.f.kk ⟨Ae _ hn.1,hq.2,by have:=H.bd;omega⟩ PR (Aq _) λu hu=>H.f.fit u (List.mem_of_mem_drop (Bo hu))).mono ?_;rintro e w' ⟨he,l',Q,O,k3,J,I⟩;refine⟨he,s,l',h1,⟨Q,O,k3,J⟩,?_⟩;rw[GG hlen]at I;exact I
theorem uW{k a b}(H:ID k a)(e:ID k b):ID k (a++b):=λu hu=>(Ag.1 hu).elim (H u) (e u)
theorem FP.D.yh(H:P.Ok)(hc:c<P.count){i}(hi:c=i*P.q)(h:P.D c r W):Calls AP 138 #[.iface 221 (AI r),.iface P.tT P.vT] W λe w'=>(e=AH ()/\P.A (c+P.nx c) w')\/(e=AH (AA AB 6)/\P.No w'):=by
 obtain⟨s,l',I,⟨k1,k2,k3,Q⟩,h2⟩:=h;have hn:=P.lY c;have J:=H.q;have ad:=H.bd;have ab:=P.lu H (c:=c+P.nx c) (s:=s) (by rw[I.len];omega) a5;have aa:=P.lu H (c:=c) (s:=[]) a8 a5;have O:Wd P.X (KN P.DH P.Z P.bx (P.rd (c+P.nx c)) P.tb P.tg (P.q*P.k) P.k (P.nx c) r P.o s l' 0) (P.m+Cr P.hh (c+P.nx c)+I3 P.once P.o P.hh s) W:=h2;refine(ko H.S H.f.kk ⟨Ae _ hn.1,J.2,a5⟩ k3 Q (by rw[I.len];omega) (by
  rw[I.len];have e1:P.mm (c+P.nx c) s=P.m+Cr P.hh (c+P.nx c)+I3 P.once P.o P.hh s:=rfl;omega) O).mono ?_
 rintro e w' (⟨he,h3⟩|⟨he,Fu,z,m',told,hz,h3⟩)
 ·refine .inl ⟨he,s++l',⟨by rw[AY,I.len,k3],YE I.asc (by rw[I.len];exact hi) k1 a5,?_,uW I.fit Q⟩,?_⟩
  ·rw[List.take_add];exact oX I.cl k2
  ·have h4:Wd P.X ((P.DH++P.Z (s++l')++[P.bx,P.rd (c+P.nx c)])++P.tp l'::[P.run r (P.nx c) (P.nx c)]) (P.mm (c+P.nx c) (s++l')) w':=by
    have h5:Wd P.X (P.DH++P.Z (s++l')++[P.bx,P.rd (c+P.nx c),P.tp l',P.run r (P.nx c) (P.nx c)]) (P.mm (c+P.nx c) (s++l')) w':=h3;simpa using h5
   have h6:Wd P.X (P.DH++P.Z (s++l')++[P.bx,P.rd (c+P.nx c),P.tp l']++P.run r (P.nx c) (P.nx c)::[]) (P.mm (c+P.nx c) (s++l')) w':=by simpa using h4
   have h7:=h6.cut rfl rfl;rw[AZ]at h7;have hg:(P.DH++P.Z (s++l')++[P.bx,P.rd (c+P.nx c),P.tp l'])[P.DH.length+P.n+2]?=AE (Fw P.tb P.tg (P.q*P.k) P.k l'):=FO (j:=2) (H.S.len _);have U:=h7.jq hg (a':=Fw P.tb P.tg (P.q*P.k) P.k []) Uy (λ⟨q1,ws,q2,q3,q4⟩=>⟨q1,ws,q2,q3,by simp[EL]⟩) (λ_ hk=>hk) rfl rfl (λ_ _=>trivial);rw[GG (H.S.len _)]at U;exact U
 ·exact .inr ⟨he,Fu,z,_,[P.run r (P.nx c) told],l',m',.inr hz,.inl ⟨_,rfl⟩,λq J=>by rw[Bn.1 J];exact⟨rfl,rfl⟩,h3⟩
def FP.Fin(P:FP)(er:Int)(z:List DA)(m':Nat):Prop:=(er=0/\∃s,z=P.Z s/\P.Put P.count s/\m'=P.mm P.count s)\/(er=6/\¬P.X.cm/\Q8 P.X P.xw P.bd P.n P.Z z)
def FP.G0(P:FP)(er:Int)(W:World):Prop:=∃z rd tl l' m',P.Fin er z m'/\((∃c,rd=P.rd c)\/∃r',rd=Nr P.X.p P.x r')/\Dn tl/\Wd P.X (P.DH++z++P.bx::rd::P.tp l'::tl) m' W
def FP.G1(P:FP)(er:Int)(W:World):Prop:=∃z rd tl m',P.Fin er z m'/\((∃c,rd=P.rd c)\/∃r',rd=Nr P.X.p P.x r')/\Dn tl/\Wd P.X (P.DH++z++P.bx::rd::Dt::tl) m' W
def FP.G2(P:FP)(er:Int)(W:World):Prop:=∃z m',P.Fin er z m'/\Wd P.X (P.DH++z) m' W
theorem FP.A.fin(h:P.A P.count W):P.G0 0 W:=by
 obtain⟨s,I,H⟩:=h;exact⟨P.Z s,P.rd P.count,[],[],_,.inl ⟨rfl,s,rfl,I,rfl⟩,.inl ⟨_,rfl⟩,λq e=>(List.not_mem_nil e).elim,H⟩
theorem FP.No.fin(h:P.No W):P.G0 6 W:=by
 obtain⟨I,z,rd,e,l',m',H,h3,h4,h5⟩:=h;exact⟨z,rd,e,l',m',.inr ⟨rfl,I,H⟩,h3,h4,h5⟩
theorem FP.Fin.len(e:P.Ok){er}{z}{m'}(h:P.Fin er z m'):z.length=P.n:=by
 rcases h with⟨_,s,rfl,_⟩|⟨_,_,⟨s,_,rfl⟩|⟨t,r',_,h,_⟩⟩
 ·exact e.S.len s
 ·exact e.S.len s
 ·exact h
theorem FP.G0.release(O:P.Ok){er}(u:Bf)(h:P.G0 er W):CallsD AP 70 #[AI P.X.p.a,AI P.tb] u W λe I w'=>I=u/\(e=AH true/\P.G1 er w'):=by
 obtain⟨z,rd,J,l',m',H,U,h3,h4⟩:=h;have Q:(P.DH++z++P.bx::rd::P.tp l'::J)[P.DH.length+P.n+2]?=AE (P.tp l'):=FO (j:=2) (H.len O);refine(L4 u (b:=P.tb) (g:=P.tg) (M:=P.q*P.k) h4 Q (λ_=>BN) rfl rfl).mono ?_;rintro e I w' ⟨hu,he,h5⟩;rw[GG (H.len O)]at h5;exact⟨hu,he,z,rd,J,m',H,U,h3,h5⟩
theorem FP.G1.close(hP:P.Ok){er}(u:Bf)(h:P.G1 er W):CallsD AP 47 #[AI P.x] u W λe J w'=>J=u/\(e=AH (AM #[])/\P.G2 er w'):=by
 obtain⟨z,rd,I,m',U,h2,h3,h4⟩:=h;have hlen:=U.len hP;have Ji:∀r' w',Wd P.X (P.DH++z++P.bx::Nr P.X.p P.x r'::Dt::I) m' w'->P.G2 er w':=λr' w' h5=>by
  have h6:Wd P.X (P.DH++z++(P.bx::Nr P.X.p P.x r'::Dt::I)++[]) m' w':=by rw[AZ];exact h5
  have Q:=Wd.Fy _ (λq H=>by
   rcases A8.1 H with rfl|H
   ·exact⟨rfl,rfl⟩
   ·rcases A8.1 H with rfl|H
    ·exact⟨rfl,rfl⟩
    ·rcases A8.1 H with rfl|H
     ·exact⟨rfl,rfl⟩
     ·exact h3 q H) h6
  rw[AZ]at Q;exact⟨z,m',U,Q⟩
 rcases h2 with⟨c,rfl⟩|⟨r',rfl⟩
 ·have O:(P.DH++z++P.bx::P.rd c::Dt::I)[P.DH.length+P.n+1]?=AE (Eu P.X.p P.x (Ge P.rt c) P.X.sz P.l):=FO (j:=1) hlen;refine(Ij u h4 O).mono ?_;rintro e J w' ⟨hu,he,h5⟩;rw[GG hlen]at h5;exact⟨hu,he,Ji _ _ h5⟩
 ·have O:(P.DH++z++P.bx::Nr P.X.p P.x r'::Dt::I)[P.DH.length+P.n+1]?=AE (Nr P.X.p P.x r'):=FO (j:=1) hlen;refine(Lg u (h4.at_ O)).mono ?_;rintro e J w' ⟨hu,he,rfl⟩;exact⟨hu,he,Ji _ _ h4⟩
theorem FP.A.below(h:P.A c W)(hb:Below W W W'):P.A c W':=by obtain⟨s,H,e⟩:=h;exact⟨s,H,e.below hb⟩
theorem FP.A.rows(H:P.Ok){RE}{js sb w rb Dl:Nat}(J:P.DH[js]?=AE (Cs sb 193 (Em w P.k P.hh rb Dl P.o RE P.bd)))(h:P.A c W):
  Row W sb 193 (Em w P.k P.hh rb Dl P.o RE P.bd)/\Row W P.fb 28 [P.first,P.nb,P.k,P.count]/\Row W P.tb 119 [AJ P.tg (P.q*P.k) (P.q*P.k)]:=by
 obtain⟨s,O,e⟩:=h;have hb:(P.DH++P.Z s++[P.bx,P.rd c,P.tp []])[P.DH.length+P.n+0]?=AE P.bx:=FO (j:=0) (H.S.len s);have I:(P.DH++P.Z s++[P.bx,P.rd c,P.tp []])[P.DH.length+P.n+2]?=AE (P.tp []):=FO (j:=2) (H.S.len s);exact⟨e.row (ZZ J),e.row hb,(e.at_ I).1⟩
end
end Go.Proofs.YthfnbpjegjbbiaaGreat
