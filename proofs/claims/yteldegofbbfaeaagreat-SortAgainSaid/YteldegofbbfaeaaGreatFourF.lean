/- What the laws stand on. -/
import Derived.Test.YteldegofbbfaeaaGreatFourE
namespace Go.Proofs.YteldegofbbfaeaaGreat
set_option linter.unusedVariables false
set_option maxRecDepth 100000
set_option maxHeartbeats 8000000
open Go.ChangeShapes Go.WideShapes Go.ChangeAt Go.RowKit
open Go.Joins Go.Deep
open Go.ChangeShapes Go.WideShapes Go.ChangeAt Go.RowKit Go.Maps
open Go.ChangeMaps (setBlock heap_setBlock_same heap_setBlock_other)
def Pn(X:Cx)(v:Value)(l:List AB):AU:=⟨fun b=>v.ownBlock=some b,fun W=>W.ownsRow X.w0.heap.size 63 5 v l.length (Bj l),none,(0,0),fun _=>True⟩
section
variable {X : Cx} {os : List AU} {m i : Nat} {W W' : World} {l l' : List AB} {v v' : Value}
theorem YZ:(Pn X v l).Ok:=⟨fun W W' h2 hk=>CK h2 fun k he=>hk k he,fun _ _ _ _ _=>trivial,fun _ _ h=>by cases h⟩
theorem Ya(h:(Pn X v l).A W){b:Nat}(hb:v.ownBlock=some b):∃cs,Row W b 63 cs:=by
 obtain⟨h3,⟨h4,_⟩|⟨gl,c,c2,h4,h5,h6,_⟩⟩:=h
 ·rw[h4]at hb;cases hb
 ·rw[h4]at hb
  have hb:gl=b:=by injection hb
  subst hb
  exact⟨_,h6⟩
theorem Wd.pO(hw:Wd X os m W)(hi:os[i]?=some (Pn X v l))(hf:AK (fun b=>v.ownBlock=some b) W W')(ho:W'.ownsRow X.w0.heap.size 63 5 v' l'.length (Bj l'))
  (hb:∀b,v'.ownBlock=some b→v.ownBlock=some b∨W.heap.size≤b):Wd X (os.set i (Pn X v' l')) m W':=by
 have h2:=hw.at_ hi
 refine hw.I3 hi hf (fun b hb=>⟨hb,fun u hv=>?_⟩) YZ ho (fun b AX=>⟨hb b AX,?_⟩) rfl rfl (fun _ _=>trivial)
 ·obtain⟨cs,hr⟩:=Ya h2 hb
  exact absurd (hr.typed hv) (by decide)
 ·obtain⟨cs,hr⟩:=Ya (X:=X) (v:=v') (l:=l') ho AX
  exact hr.lt
theorem Wd.vH(hw:Wd X os m W):Wd X (os++[Pn X (.slice none 0 0) []]) m W:=by
 have h1:=hw.grow.I3 (i:=os.length) (a:=Bl) (a':=Pn X (.slice none 0 0) []) (R:=fun _=>False) (Tn os) (AK.refl _ _) (fun k hk=>hk.elim) YZ (ZR _ _ _) (fun k hk=>by cases hk) rfl rfl (fun _ _=>trivial)
 rw[DI]at h1
 exact h1
theorem Wd.pN(hw:Wd X os m W)(hi:os[i]?=some (Pn X v l))(hok:∀u∈l,CQ u):∃A c,v=.slice A l.length c∧BH W W.heap.size A l.length l∧c≤maxLen:=by
 obtain⟨A,c,h1,h2,_,h3,_⟩:=Mt (hw.at_ hi) hok
 exact⟨A,c,h1,h2,h3⟩
end
structure LP where
 X:Cx
 os:List AU
 m:Nat
 x:Nat
 rt:Rt
 l:List AB
structure LP.Ok (P:LP):Prop where
 ok:Fc P.rt P.X.sz
 cnt:P.l.length=P.rt.count
 fit:∀u∈P.l,CQ u∧Ac P.rt.k u=true
 src:Src P.os P.X.sz P.rt.first P.rt.k P.rt.h P.l
 cm:P.X.cm
 n:P.X.N+P.m+AA P.rt.h P.l.length+1≤1000000
 len:P.l.length≤100000
def LP.at_(P:LP)(i:Nat):Rt:={P.rt with pos:=i}
def LP.J(P:LP)(i:Nat)(v:Value)(W:World):Prop:=Wd P.X (P.os++[DQ P.X.p P.x (P.at_ i) P.X.sz P.l]++[Pn P.X v (P.l.take i)]) (P.m+AA P.rt.h i) W
def LP.J1(P:LP)(i:Nat)(v:Value)(W:World):Prop:=Wd P.X (P.os++[DQ P.X.p P.x (P.at_ (i+1)) P.X.sz P.l]++[Pn P.X v (P.l.take i)]) (P.m+AA P.rt.h (i+1)) W
section
variable {P : LP} {W W' : World} {i : Nat} {v v' : Value}
theorem LP.atR(P:LP)(r:Rt)(v:Value)(l:List AB):(P.os++[DQ P.X.p P.x r P.X.sz P.l]++[Pn P.X v l])[P.os.length]?=some (DQ P.X.p P.x r P.X.sz P.l):=by simp
theorem LP.Td(P:LP)(a b:AU)(c:AU):(P.os++[a]++[c]).set P.os.length b=P.os++[b]++[c]:=by simp
theorem LP.atL(P:LP)(a b:AU):(P.os++[a]++[b])[P.os.length+1]?=some b:=by simp
theorem LP.vI(P:LP)(a b c:AU):(P.os++[a]++[c]).set (P.os.length+1) b=P.os++[a]++[b]:=by simp
theorem LP.J.below(h:P.J i v W)(hb:Below W.heap.size W W'):P.J i v W':=Wd.below h hb
theorem LP.J1.below(h:P.J1 i v W)(hb:Below W.heap.size W W'):P.J1 i v W':=Wd.below h hb
theorem LP.next(hP:P.Ok)(h:P.J i v W)(hi:i<P.l.length):
  Calls Tryz.prog 52 #[.pointer (some ⟨P.x,0,none⟩)] W fun e w'=>∃t:AB,e=.returned (.tuple #[.agg #[.int .i64 t.a,.int .i64 t.b,.int .i64 t.c,.int .i64 t.d,.int .i64 t.e],.bool true,.int .i64 0])∧P.l[i]?=some t∧P.J1 i v w':=by
 have hh:=hP.ok.h.1
 have hle:=Am (h:=P.rt.h) (c:=i+1) (c':=P.l.length) hh (by omega)
 have AD0:=Am (h:=P.rt.h) (c:=i) (c':=i+1) hh (by omega)
 have ht:P.l[i]?=some P.l[i]:=List.getElem?_eq_getElem hi
 have Bv:Src (P.os++[DQ P.X.p P.x (P.at_ i) P.X.sz P.l]++[Pn P.X v (P.l.take i)]) P.X.sz P.rt.first P.rt.k P.rt.h P.l:=(hP.src.snoc _).snoc _
 have hok:gB (P.at_ i) P.X.sz P.l:=⟨⟨hP.ok.k,hP.ok.h,hP.ok.sz,⟨hP.ok.count.1,by show i≤P.rt.count;have:=hP.cnt;omega⟩,hP.ok.first⟩,hP.cnt,hP.fit⟩
 have hn:=hP.n
 refine(MD h (P.atR _ _ _) hok (by omega) (by show i<P.rt.count;have:=hP.cnt;omega) Bv ht).mono ?_
 rintro e w' (⟨he,hw⟩|⟨_,hno,_⟩)
 ·refine⟨P.l[i],he,ht,?_⟩
  rw[P.Td]at hw
  unfold LP.J1
  rw[show P.m+AA P.rt.h (i+1)=P.m+AA P.rt.h i+(AA (P.at_ i).h ((P.at_ i).pos+1)-AA (P.at_ i).h (P.at_ i).pos)by show _=P.m+AA P.rt.h i+(AA P.rt.h (i+1)-AA P.rt.h i);omega]
  exact hw
 ·exact absurd hP.cm hno
theorem LP.end_(hP:P.Ok)(h:P.J P.l.length v W):
  Calls Tryz.prog 52 #[.pointer (some ⟨P.x,0,none⟩)] W fun e w'=>e=.returned (.tuple #[.agg #[.int .i64 0,.int .i64 0,.int .i64 0,.int .i64 0,.int .i64 0],.bool false,.int .i64 0])∧P.J P.l.length v w':=
 LQ h (P.atR _ _ _) ⟨hP.ok.k,hP.ok.h,hP.ok.sz,⟨hP.ok.count.1,by show P.l.length≤P.rt.count;have:=hP.cnt;omega⟩,hP.ok.first⟩ hP.cnt
theorem LP.push(h:P.J1 i v W){t:AB}(ht:P.l[i]?=some t)(hf:AK (fun k=>v.ownBlock=some k) W W')(ho:W'.ownsRow P.X.w0.heap.size 63 5 v' (i+1) (Bj (P.l.take i++[t])))(hv:v'.ownBlock=v.ownBlock∨v'.ownBlock=some W.heap.size):P.J (i+1) v' W':=by
 have hi:i<P.l.length:=by
  rcases Nat.lt_or_ge i P.l.length with h1|h1
  ·exact h1
  ·rw[List.getElem?_eq_none h1]at ht;cases ht
 have QN:P.l.take (i+1)=P.l.take i++[t]:=by rw[List.take_add_one,ht];rfl
 have h1:=Wd.pO (v':=v') (l':=P.l.take (i+1)) h (P.atL _ _) hf (by rw[QN,List.length_append,List.length_take,Nat.min_eq_left (by omega)];exact ho) (fun b hb=>by
  rcases hv with h2|h2
  ·exact .inl (h2▸hb)
  ·rw[h2]at hb;injection hb with hb;exact .inr (by omega))
 rw[P.vI]at h1
 exact h1
theorem LP.own(h:P.J1 i v W)(hi:i≤P.l.length):W.ownsRow P.X.w0.heap.size 63 5 v i (Bj (P.l.take i)):=by
 have:=Wd.at_ h (P.atL _ _)
 have h2:W.ownsRow P.X.w0.heap.size 63 5 v (P.l.take i).length (Bj (P.l.take i)):=this
 rwa [List.length_take,Nat.min_eq_left hi]at h2
theorem LP.close(u:FrameMode)(h:P.J P.l.length v W):
  CallsD Tryz.prog 51 #[.pointer (some ⟨P.x,0,none⟩)] u W fun e u' w'=>u'=u∧(e=.returned (.tuple #[])∧Wd P.X (P.os++[Pn P.X v P.l]) (P.m+AA P.rt.h P.l.length) w'):=by
 refine(I8 u h (P.atR _ _ _)).mono ?_
 rintro e u' w' ⟨hu,he,hw⟩
 rw[P.Td,List.take_length]at hw
 refine⟨hu,he,?_⟩
 have EV:Wd P.X (P.os++N3 P.X.p P.x (P.at_ P.l.length)::[Pn P.X v P.l]) (P.m+AA P.rt.h P.l.length) w':=by simpa using hw
 exact EV.cut rfl rfl
end
section
variable {X : Cx} {os : List AU} {m i : Nat} {W : World} {l : List AB}
theorem Us{first nb k hh:Nat}(h:Wd X os m W)(hi:os[i]?=some (Cb first nb k hh l X.sz))(hf:Jr first nb k hh l X.sz)(DP:X.cm)(hroom:X.sz≤X.rm-Aa AU.gw os)(hn:X.N+m+nb+1≤1000000){c:Nat}(hc:l.length=c):
  Calls Tryz.prog 22 #[.pointer (some ⟨X.p.w,0,none⟩),.agg #[.int .i64 first,.int .i64 nb,.int .i64 k,.int .i64 c]] W fun e w'=>∃v,e=.returned (.tuple #[v,.int .i64 0])∧Wd X (os++[Pn X v l]) (m+nb) w':=by
 subst hc
 have Cz:Row (W.alloc (.cells #[.int .i64 first,.int .i64 nb,.int .i64 k,.int .i64 l.length] 39)) W.heap.size 39 [.int .i64 first,.int .i64 nb,.int .i64 k,.int .i64 l.length]:=heap_alloc_new _ _
 have h0:Wd X os m (W.alloc (.cells #[.int .i64 first,.int .i64 nb,.int .i64 k,.int .i64 l.length] 39)):=h.below ((Below.refl _ _).alloc (Nat.le_refl _) _)
 have hsz:=h.bounds.1
 have Nu:=Lib.hid (Pg h0 first nb k hh l.length l hf.N7 hf.hh.1 hf.bn hf.len hf.fst (by omega))
 have LJ:Hid (Src os X.sz first k hh l):=⟨i,_,hi,fun D hD hs=>by rw[←hf.bn];exact hs hD,fun _=>⟨Nat.le_refl _,by rw[←hf.bn];exact Nat.le_refl _⟩⟩
 have Sn:Hid (∀x b g W1,Fc ⟨k,hh,first,nb,l.length,0,b,g⟩ X.sz→Wd X (os++[DQ X.p x ⟨k,hh,first,nb,l.length,0,b,g⟩ X.sz l]) m W1→
   LP.Ok ⟨X,os,m,x,⟨k,hh,first,nb,l.length,0,b,g⟩,l⟩∧LP.J ⟨X,os,m,x,⟨k,hh,first,nb,l.length,0,b,g⟩,l⟩ 0 (.slice none 0 0) W1∧X.w0.heap.size≤W1.heap.size):=fun x b g W1 k1 k2=>by
  refine⟨⟨k1,rfl,hf.fit,LJ.out,DP,by show X.N+m+AA hh l.length+1≤1000000;rw[←hf.bn];exact hn,hf.len⟩,?_,k2.size⟩
  have:=k2.vH
  show Wd X _ (m+AA hh 0) W1
  rw[Aw]
  exact this
 have si:Hid (nb=AA hh l.length):=hf.bn
 have hlen:=hf.len
 have c0:=Cz.cell 0
 have c1:=Cz.cell 1
 have c2:=Cz.cell 2
 have c3:=Cz.cell 3
 simp only[List.getElem?_cons_zero,List.getElem?_cons_succ]at c0 c1 c2 c3
 clear h hi hf DP hroom hn Cz h0 hsz LJ
 generalize L4:(fun(e:Ending) (w':World)=>∃v,e=.returned (.tuple #[v,.int .i64 0])∧Wd X (os++[Pn X v l]) (m+nb) w')=EO at*
 replace L4:=Lib.hid L4
 go_enter_defers Tryz.func22,Tryz.ntmps22
 go_wp2_with fail
 refine Nu.out.mono ?_
 rintro e w1 ⟨x,b,g,rfl,hok,Lu⟩
 obtain⟨hP,hJ,AB1⟩:=Sn.out x b g w1 hok Lu
 have HP:=Lib.hid hP
 have HJ0:=Lib.hid hJ
 clear hok Lu hP hJ Sn Nu c0 c1 c2 c3
 have Fg:Hid (∀v w',Wd X (os++[Pn X v l]) (m+AA hh l.length) w'→EO (.returned (.tuple #[v,.int .i64 0])) w'):=fun v w' hw=>by
  rw[←L4.out];exact⟨v,rfl,by rw[si.out];exact hw⟩
 have HX:Hid ((⟨X,os,m,x,⟨k,hh,first,nb,l.length,0,b,g⟩,l⟩:LP).x=x∧(⟨X,os,m,x,⟨k,hh,first,nb,l.length,0,b,g⟩,l⟩:LP).l=l∧(⟨X,os,m,x,⟨k,hh,first,nb,l.length,0,b,g⟩,l⟩:LP).X=X∧(⟨X,os,m,x,⟨k,hh,first,nb,l.length,0,b,g⟩,l⟩:LP).os=os∧(⟨X,os,m,x,⟨k,hh,first,nb,l.length,0,b,g⟩,l⟩:LP).m=m∧(⟨X,os,m,x,⟨k,hh,first,nb,l.length,0,b,g⟩,l⟩:LP).rt.h=hh):=⟨rfl,rfl,rfl,rfl,rfl,rfl⟩
 generalize hP:(⟨X,os,m,x,⟨k,hh,first,nb,l.length,0,b,g⟩,l⟩:LP)=P at*
 clear hP
 have Q7:Hid (∀i v W,P.J i v W→i<l.length→Calls Tryz.prog 52 #[.pointer (some ⟨x,0,none⟩)] W fun e w'=>∃t:AB,e=.returned (.tuple #[.agg #[.int .i64 t.a,.int .i64 t.b,.int .i64 t.c,.int .i64 t.d,.int .i64 t.e],.bool true,.int .i64 0])∧l[i]?=some t∧P.J1 i v w'):=fun i v W h hi=>by
  have:=LP.next HP.out h (by rw[HX.out.2.1];exact hi)
  rw[HX.out.1,HX.out.2.1]at this;exact this
 have gW:Hid (∀v W,P.J l.length v W→Calls Tryz.prog 52 #[.pointer (some ⟨x,0,none⟩)] W fun e w'=>e=.returned (.tuple #[.agg #[.int .i64 0,.int .i64 0,.int .i64 0,.int .i64 0,.int .i64 0],.bool false,.int .i64 0])∧P.J l.length v w'):=fun v W h=>by
  have:=LP.end_ (P:=P) (v:=v) (W:=W) HP.out (by rw[HX.out.2.1];exact h)
  rw[HX.out.1,HX.out.2.1]at this;exact this
 have Ct:Hid (∀u v W,P.J l.length v W→CallsD Tryz.prog 51 #[.pointer (some ⟨x,0,none⟩)] u W fun e u' w'=>u'=u∧(e=.returned (.tuple #[])∧Wd X (os++[Pn X v l]) (m+AA hh l.length) w')):=fun u v W h=>by
  obtain⟨q1,q2,q3,q4,q5,q6⟩:=HX.out
  have:=LP.close (P:=P) (v:=v) (W:=W) u (by rw[q2];exact h)
  rw[q1,q2,q3,q4,q5,q6]at this;exact this
 have Uk:Hid (∀i v W,P.J1 i v W→i≤l.length→W.ownsRow X.w0.heap.size 63 5 v i (Bj (l.take i))∧X.w0.heap.size≤W.heap.size):=fun i v W h hi=>by
  obtain⟨q1,q2,q3,q4,q5,q6⟩:=HX.out
  have h1:=LP.own (P:=P) h (by rw[q2];exact hi)
  have h2:=Wd.size h
  rw[q3]at h1 h2;rw[q2]at h1;exact⟨h1,h2⟩
 have ow:Hid (∀i v v' W W' t,P.J1 i v W→l[i]?=some t→AK (fun k=>v.ownBlock=some k) W W'→W'.ownsRow X.w0.heap.size 63 5 v' (i+1) (Bj (l.take i++[t]))→(v'.ownBlock=v.ownBlock∨v'.ownBlock=some W.heap.size)→P.J (i+1) v' W'):=fun i v v' W W' t h ht hf ho hv=>by
  obtain⟨q1,q2,q3,q4,q5,q6⟩:=HX.out
  exact LP.push h (by rw[q2];exact ht) hf (by rw[q2,q3];exact ho) hv
 clear HX HP
 go_wp2_with fail
 go_loopw [8] (fun iv wr=>∃i:Nat,i≤l.length∧sliceLen iv=i∧Hid (P.J i iv wr)) (fun iv _=>l.length-sliceLen iv)
 case atStart=>exact⟨0,Nat.zero_le _,rfl,HJ0.out⟩
 case round=>
  obtain⟨i,hi,O4,JO⟩:=hrel
  have nB:=Lib.hid O4
  clear O4
  by_cases hlt:i<l.length
  ·have sg:=Lib.hid (Q7.out _ _ _ JO.out hlt)
   clear JO
   go_wp2_with fail
   refine sg.out.mono ?_
   rintro e w5 ⟨t,rfl,ht,Bp⟩
   have Su:=Lib.hid Bp
   have HT:=Lib.hid ht
   clear Bp ht sg
   obtain⟨ta,tb,tc,td,te⟩:=t
   have Q9:Hid (Below w5.heap.size w5 ((w5.alloc (.cells #[.int .i64 ta,.int .i64 tb,.int .i64 tc,.int .i64 td,.int .i64 te] 63)).alloc (.cells #[.int .i64 ta,.int .i64 tb,.int .i64 tc,.int .i64 td,.int .i64 te] 63))):=((Below.refl w5.heap.size w5).alloc (Nat.le_refl _) _).alloc ((Below.refl w5.heap.size w5).alloc (Nat.le_refl _) _).size _
   have gh:=Lib.hid (Su.out.below Q9.out)
   have hrw:Row ((w5.alloc (.cells #[.int .i64 ta,.int .i64 tb,.int .i64 tc,.int .i64 td,.int .i64 te] 63)).alloc (.cells #[.int .i64 ta,.int .i64 tb,.int .i64 tc,.int .i64 td,.int .i64 te] 63)) (w5.alloc (.cells #[.int .i64 ta,.int .i64 tb,.int .i64 tc,.int .i64 td,.int .i64 te] 63)).heap.size 63 (An ⟨ta,tb,tc,td,te⟩):=heap_alloc_new _ _
   rw[show (w5.alloc (.cells #[.int .i64 ta,.int .i64 tb,.int .i64 tc,.int .i64 td,.int .i64 te] 63)).heap.size=w5.heap.size+1 by simp]at hrw
   have L8:=Lib.hid hrw
   clear hrw
   go_wp2_with (with_reducible refine BX 37 ?_)
   unfold Hid
   obtain⟨iM,Hu⟩:=Uk.out _ _ _ gh.out (by omega)
   refine Lk rfl _ _ rfl iM rfl ⟨w5.heap.size+1,0,none⟩ rfl ⟨ta,tb,tc,td,te⟩ (fun j u hj=>?_) (by omega) ?_ ?_
   ·rw[←hj]
    rw[Xm]
    exact L8.out.cell j
   ·exact Hu
   intro v' W BG KK Zv
   have zR:=Lib.hid (ow.out _ _ _ _ _ _ gh.out HT.out KK BG Zv)
   have sq:=Lib.hid (ZS BG)
   clear iM Hu BG KK Zv
   go_wp2
   go_roundw
   case rel=>exact⟨i+1,by omega,sq.out,zR.out⟩
   case measure=>have:=sq.out;have:=nB.out;simp;omega
  ·obtain rfl:i=l.length:=by omega
   have tC:=Lib.hid (gW.out _ _ JO.out)
   clear JO
   go_wp2_with fail
   refine tC.out.mono ?_
   rintro e w5 ⟨rfl,rO⟩
   have gh:=Lib.hid (LP.J.below rO ((Below.refl w5.heap.size w5).alloc (Nat.le_refl _) (.cells #[.int .i64 0,.int .i64 0,.int .i64 0,.int .i64 0,.int .i64 0] 63)))
   clear rO tC
   go_wp2
   refine leaves_cons (f:=51) (args:=#[.pointer (some ⟨x,0,none⟩)]) (by simp) (by simp[go_sem]) ?_
   refine(Ct.out _ _ _ gh.out).mono ?_
   rintro e u' DG ⟨rfl,rfl,hw⟩
   exact⟨_,by simp[results,Tryz.results22,go_sem],Fg.out _ _ hw⟩
end
def Kr(u0:Nat):Nat:=8+u0%60
def ZN(u0 u1 u2:Nat):Nat:=u1%40*Kr u0+u2%Kr u0
def eB(n rm b:Nat):Fs:=⟨fresh n b,empty rm,BP 0 b⟩
theorem TL(u0 u1 u2 u3:Nat)(h2:u2≤255)(w:World):Calls Tryz.prog 10 #[.agg #[.int .u8 u0,.int .u8 u1,.int .u8 u2,.int .u8 u3]] w fun e w'=>
  ∃p G,e=.returned (.tuple #[.pointer (some ⟨p.w,0,none⟩),.int .i64 (Kr u0:Nat)])∧Sys w' G p (eB (Kr u0) (ZN u0 u1 u2) 4000) 0∧(∀k,G k→w.heap.size≤k)∧Below w.heap.size w w':=by
 obtain⟨n,hn⟩:∃n,n=Kr u0:=⟨_,rfl⟩
 obtain⟨rm,JE⟩:∃rm,rm=ZN u0 u1 u2:=⟨_,rfl⟩
 rw[←hn,←JE]
 unfold ZN Kr at*
 obtain⟨r0,Cz⟩:∃r0,r0=u0%60:=⟨_,rfl⟩
 obtain⟨r1,BS⟩:∃r1,r1=u1%40:=⟨_,rfl⟩
 obtain⟨r2,Ap⟩:∃r2,r2=u2%n:=⟨_,rfl⟩
 obtain⟨q,hq⟩:∃q,q=r1*n:=⟨_,rfl⟩
 rw[←Cz]at hn
 rw[←BS,←Cz,←hn,←Ap,←hq]at JE
 have l0:r0<60:=by rw[Cz];exact Nat.mod_lt _ (by omega)
 have l1:r1<40:=by rw[BS];exact Nat.mod_lt _ (by omega)
 have n8:8≤n∧n≤67:=by omega
 have l2:r2<n:=by rw[Ap];exact Nat.mod_lt _ (by omega)
 have VI:q≤3000:=by rw[hq];exact Nat.le_trans (Nat.mul_le_mul (show r1≤39 by omega) n8.2) (by omega)
 have t0:Int.tmod (u0:Int) 60=(r0:Int):=by rw[Cz];rfl
 have t1:Int.tmod (u1:Int) 40=(r1:Int):=by rw[BS];rfl
 have t2:Int.tmod (u2:Int) (n:Int)=(r2:Int):=by rw[Ap];rfl
 have m0:(u0:Int)%60=(r0:Int):=by rw[Cz];rfl
 have m1:(u1:Int)%40=(r1:Int):=by rw[BS];rfl
 have m2:(u2:Int)%(n:Int)=(r2:Int):=by rw[Ap];rfl
 have s0:(8:Int)+(r0:Int)=(n:Int):=by omega
 have s1:(r1:Int)*(n:Int)=(q:Int):=by rw[hq];simp
 have s2:(q:Int)+(r2:Int)=(rm:Int):=by omega
 have nz:¬((n:Int)=0):=by omega
 have nz2:((n:Int)==0)=false:=by simp;omega
 have nz3:¬n=0:=by omega
 have hrow:Row (w.alloc (.cells #[.int .u8 u0,.int .u8 u1,.int .u8 u2,.int .u8 u3] 23)) w.heap.size 23 [.int .u8 u0,.int .u8 u1,.int .u8 u2,.int .u8 u3]:=heap_alloc_new _ _
 have hb0:Below w.heap.size w (w.alloc (.cells #[.int .u8 u0,.int .u8 u1,.int .u8 u2,.int .u8 u3] 23)):=(Below.refl w.heap.size w).alloc (Nat.le_refl _) _
 have HN:=Lib.hid (eH n 4000 (w.alloc (.cells #[.int .u8 u0,.int .u8 u1,.int .u8 u2,.int .u8 u3] 23)) (by omega) ⟨by omega,by omega⟩)
 have Gy:=Lib.hid hrow
 have GO:=Lib.hid hb0
 have c0:(w.alloc (.cells #[.int .u8 u0,.int .u8 u1,.int .u8 u2,.int .u8 u3] 23)).cell? ⟨w.heap.size,0,none⟩=some (.int .u8 u0):=hrow.cell 0
 have zT:Hid (∀W,Calls Tryz.prog 31 #[.int .i64 rm] W fun e w'=>e=.returned (.pointer (some ⟨W.heap.size,0,none⟩))∧Ez w' (fun k=>k=W.heap.size) W.heap.size (empty rm)∧Below W.heap.size W w'):=fun W=>by
  have:=PZ (rm:Int) W (by omega) (by omega)
  rw[Int.toNat_natCast]at this;exact this
 have HSN:Hid (∀W,Calls Tryz.prog 32 #[.int .i64 0,.int .i64 4000] W fun e w'=>∃p G,e=.returned (.pointer (some ⟨p,0,none⟩))∧EZ w' G p (BP 0 4000)∧(∀k,G k→W.heap.size≤k)∧Below W.heap.size W w'):=fun W=>WQ 0 4000 W (by omega) (by omega)
 have cC:Hid (∀W d a s,Calls Tryz.prog 30 #[.pointer (some ⟨d,0,none⟩),.pointer (some ⟨a,0,none⟩),.pointer (some ⟨s,0,none⟩)] W fun e w'=>e=.returned (.pointer (some ⟨W.heap.size,0,none⟩))∧w'=W.alloc (.cells #[ptr d,ptr a,ptr s] 70)):=fun W d a s=>SV d a s W
 clear hrow hb0 Cz BS Ap hn JE hq
 go_enter Tryz.func10,Tryz.ntmps10
 go_wp2_with fail
 refine HN.out.mono ?_
 rintro e w1 ⟨d,Gd,rfl,hd,O7,Aj⟩
 have HD:=Lib.hid hd
 have HGD:=Lib.hid O7
 have Kj:=Lib.hid Aj
 have vA:Hid (∀W,Below w1.heap.size w1 W→W.cell? ⟨w.heap.size,1,none⟩=some (.int .u8 u1)∧W.cell? ⟨w.heap.size,2,none⟩=some (.int .u8 u2)):=fun W hb=>by
  have hr:=(Gy.out.below Aj Gy.out.lt)
  have Ap:=hr.below hb hr.lt
  exact⟨Ap.cell 1,Ap.cell 2⟩
 have e1:=vA.out w1.drew (AH (Below.refl _ _))
 clear hd O7 Aj HN c0
 have N4:(u2:Int)≤255:=by omega
 have X9:IntKind.i64.wrap (r1:Int)=(r1:Int):=IntWalk.i64_in _ (by omega)
 have hwb:IntKind.i64.wrap (u2:Int)=(u2:Int):=IntWalk.i64_in _ (by omega)
 have hwc:IntKind.i64.wrap (q:Int)=(q:Int):=IntWalk.i64_in _ (by omega)
 have tw:IntKind.i64.wrap (r2:Int)=(r2:Int):=IntWalk.i64_in _ (by omega)
 have wD:IntKind.i64.wrap (rm:Int)=(rm:Int):=IntWalk.i64_in _ (by omega)
 have wC:IntKind.u8.wrap (r1:Int)=(r1:Int):=by unfold IntKind.wrap;simp[IntKind.signed,IntKind.bits];omega
 clear l0 l1 l2 n8 VI t0 m0 s0 N4
 go_wp2
 go_region_held3 (fun w'=>w'.cell? ⟨w.heap.size,1,none⟩=some (.int .u8 u1)∧w'.cell? ⟨w.heap.size,2,none⟩=some (.int .u8 u2)) (first|with_reducible exact e1|with_reducible exact q2|with_reducible exact q3|with_reducible exact q4)
  (first
   |(go_at_call 31;(with_reducible refine(zT.out _).mono ?_);rintro e w2 ⟨rfl,ha,AX⟩;have aV:Below w1.heap.size w1 w2:=(AH (Below.refl _ _)).trans AX;have q2:=vA.out w2 aV)
   |(go_at_call 32;(with_reducible refine(HSN.out _).mono ?_);rintro e w3 ⟨s,Gs,rfl,hs,iV,A9⟩;have UH:Below w1.heap.size w1 w3:=aV.trans (A9.mono aV.size);have q3:=vA.out w3 UH)
   |(go_at_call 30;(with_reducible refine(cC.out _ _ _ _).mono ?_);rintro e w4 ⟨rfl,Ty⟩;have q4:=vA.out (w3.alloc (.cells #[ptr d,ptr w1.heap.size,ptr s] 70)) (UH.alloc UH.size _)))
 have hsy:Sys w4 (fun k=>k=w3.heap.size∨Gd k∨k=w1.heap.size∨Gs k) ⟨w3.heap.size,d,w1.heap.size,s⟩ (eB n rm 4000) 0:=by
  rw[Ty]
  exact ju HD.out (AH (Below.refl _ _)|>.trans AX) ha (fun k hk=>by rw[hk];exact Nat.le_refl _) rfl A9 hs (fun k hk=>iV k hk)
 have HSY:=Lib.hid hsy
 have Dz:Below w1.heap.size w1 w4:=by rw[Ty];exact UH.alloc UH.size _
 have pH:=Lib.hid ((GO.out.trans (Kj.out.mono GO.out.size)).trans (Dz.mono (Nat.le_trans GO.out.size Kj.out.size)))
 have HGA:Hid (∀k,(k=w3.heap.size∨Gd k∨k=w1.heap.size∨Gs k)→w.heap.size≤k):=by
  have z1:=GO.out.size
  have z2:=Kj.out.size
  have z3:=UH.size
  have z4:=aV.size
  rintro k (rfl|h|rfl|h)
  ·omega
  ·exact Nat.le_trans z1 (HGD.out k h)
  ·omega
  ·have:=iV k h;omega
 subst Ty
 clear hsy ha hs iV AX A9 Dz aV UH q2 q3 q4
 go_wp2
 go_ret2
 exact⟨⟨w3.heap.size,d,w1.heap.size,s⟩,_,rfl,HSY.out,HGA.out,pH.out⟩
section
variable {w0 w : World} {G : Nat → Prop} {p : Wp} {n rm b k m c : Nat} {A : Option Addr} {l : List AB}
theorem QO(hk:0<k∧k≤5)(hn:8≤n∧n≤256):0<AE n k∧AE n k*k≤n-2∧AE n k≤254:=by
 unfold AE
 rw[if_neg (by omega),Int.toNat_natCast]
 have h1:k≤n-2:=by omega
 have h2:=(Nat.le_div_iff_mul_le hk.1).2 (show 1*k≤n-2 by omega)
 have h3:=Nat.div_mul_le_self (n-2) k
 have h4:=Nat.div_le_self (n-2) k
 exact⟨by omega,h3,by omega⟩
theorem vc(hs:Sys w G p (eB n rm b) 0)(hG:∀k,G k→w0.heap.size≤k)(hb:Below w0.heap.size w0 w)(hl:BH w w.heap.size A m l)(uH:0<m→∀b off,A=some ⟨b,off,none⟩→¬G b)(hk:0<k∧k≤5)(hn:8≤n∧n≤256)(hlen:l.length≤1000)(KR:AA (AE n k) l.length≤b∧b≤1000000)(hfit:∀u∈l,Ac k u=true):
  Calls Tryz.prog 15 #[.pointer (some ⟨p.w,0,none⟩),.int .i64 k,.slice A m c] w fun e w'=>
   (rm<n∧e=.returned (.tuple #[.agg #[.int .i64 0,.int .i64 0,.int .i64 0,.int .i64 0],.int .i64 7])∧Below w0.heap.size w0 w')∨
   (n≤rm∧∃first nb:Nat,e=.returned (.tuple #[.agg #[.int .i64 first,.int .i64 nb,.int .i64 k,.int .i64 l.length],.int .i64 0])∧first=0∧Jr first nb k (AE n k) l n∧Wd ⟨w0,p,BP 0 b,rm,n,b,True,l.length+1,nb,l.length+1⟩ [Cb first nb k (AE n k) l n] 0 w'):=by
 have hh:=QO hk hn
 refine(ah hs (k:Int) hl uH (by omega)).mono ?_
 intro e w' h
 have ha:FX (eB n rm b) (k:Int) (l.length:Int):=⟨by show AE n k≠0;omega,by omega,by omega⟩
 by_cases hr:n≤rm
 ·refine .inr ⟨hr,?_⟩
  obtain⟨t,S1,he,hd,h1,h2,h3,h4,h5,h6⟩:=Zd h (KD (by omega) KR.2) (Jf _ _) (by show ((0+b:Nat):Int)≤(b:Int);omega) ha (by show n≤rm-0;omega) ⟨0,Hf KR.1⟩ (fun q hq u hu=>by
   obtain rfl:q=k:=by omega
   exact hfit u hu)
  have FK:t.k=k:=by omega
  have tw:=dF hG hb KR.2 hd h4
  have oZ:t.h=AE n k:=h2
  rw[FK,oZ]at tw
  rw[Nat.zero_add]at tw
  unfold Cq at he
  rw[FK]at he
  exact⟨t.first,t.blocks,he,(Rv h4).1,⟨hk,hh,rfl,by rw[h3,oZ],by omega,h5,fun u hu=>⟨hl.2.1 u hu,hfit u hu⟩⟩,tw⟩
 ·refine .inl ⟨by omega,?_⟩
  rcases h with⟨er,he,hw,EB⟩|⟨t,S1,⟨_,h2,_⟩,_⟩
  ·have XL:er=7:=by
    rcases hw with⟨h0,h1⟩|⟨h0,_⟩|⟨h0,h1,h2,_⟩
    ·exact absurd ha h1
    ·exact h0
    ·exfalso
     have oZ:n≤rm-0:=by first|exact h2|exact h1
     omega
   subst XL
   obtain⟨G',k1,k2,k3⟩:=EB
   unfold Cq at he
   exact⟨he,hb.trans (k2.below hb.size hG)⟩
  ·have oZ:n≤rm-0:=h2
   omega
end
def OJ(once:Bool)(o:AB)(l:List AB):List AB:=if once then RU o [] l else IL o [] l
theorem R7{once:Bool}{o:AB}{l s:List AB}(h1:Gz o s)(h2:Cl o l s):BC once o s=OJ once o l:=by
 unfold BC OJ
 rcases once with _| _
 ·exact Na h1 h2
 ·exact ax h1 h2
theorem Ot{j nb:Nat}(h:j=0∨2^(j-1)<nb)(hn:nb≤1024):j≤10:=by
 rcases Nat.lt_or_ge 10 j with h1|h1
 ·have:=Nat.pow_le_pow_right (show 0<2 by omega) (show 10≤j-1 by omega)
  rcases h with h|h<;>omega
 ·exact h1
theorem ZC{X:Cx}{b first nb k hh:Nat}{l:List AB}{os:List AU}(hS:X.S0=BP 0 b)(hf:first=0)(hb:4*nb≤b)(qg:GP os):Rm X (Cb first nb k hh l X.sz::os) nb (3*nb):=fun z h1 h2=>by
 refine⟨?_,fun i a ha=>?_⟩
 ·rw[hS]
  have:=Hf (m:=b) (n:=b) (Nat.le_refl _) z (by omega) (by omega)
  exact this
 ·rcases i with _|i
  ·simp at ha
   subst ha
   intro hx
   have hx:first≤z∧z<first+nb:=hx
   omega
  ·have:=qg a (List.mem_of_getElem? (by simpa using ha))
   intro hx
   have h3:a.ex.1≤z∧z<a.ex.1+a.ex.2:=hx
   omega
section
variable {X : Cx} {os : List AU} {m i : Nat} {W : World} {first nb k hh count : Nat} {l : List AB} {o : AB} {once : Bool}
def mq(X:Cx)(os:List AU)(i m nb k hh:Nat)(l:List AB)(o:AB)(once:Bool)(e:Ending)(w':World):Prop:=
 ∃(F N C m' j:Nat),e=.returned (.tuple #[.agg #[.int .i64 (F:Nat),.int .i64 (N:Nat),.int .i64 k,.int .i64 (C:Nat)],.int .i64 0])∧(OJ once o l).length=C∧Jr F N k hh (OJ once o l) X.sz∧(j=0∨2^(j-1)<nb)∧m'≤m+2*nb*(1+j)∧Wd X (os.set i Bl++[Cb F N k hh (OJ once o l) X.sz]) m' w'
theorem U0(h:Wd X os m W)(hi:os[i]?=some (Cb first nb k hh l X.sz))(hf:Jr first nb k hh l X.sz)(hc:l.length=count)(oT:Fm o)(hroom:5*X.sz≤X.rm-Aa AU.gw os)(ey:X.rm≤1000000)(Hz:nb≤10000)(hn:X.N+m+40*nb+3*count+10≤1000000)(DP:X.cm)(hz:∃z,Rm X os z (3*nb)):
  Calls Tryz.prog 20 #[.pointer (some ⟨X.p.w,0,none⟩),.agg #[.int .i64 first,.int .i64 nb,.int .i64 k,.int .i64 count],.agg #[.int .i64 o.a,.int .i64 o.b,.int .i64 o.c,.int .i64 o.d,.int .i64 o.e],.bool once] W (mq X os i m nb k hh l o once):=by
 refine(dJ h hi hf hc oT hroom ey Hz hn).mono ?_
 rintro e w' (⟨F,N,C,l',m',j,he,⟨s,h1,h2,h3⟩,cT,hC,hj,hm,hw⟩|⟨er,_,⟨_,hno⟩|⟨_,hno⟩,_⟩)
 ·rw[R7 h1 h2]at h3
  subst h3
  exact⟨F,N,C,m',j,he,hC.symm,cT,hj,hm,hw⟩
 ·obtain⟨z,hz⟩:=hz
  exact absurd hz (hno z)
 ·exact absurd DP hno
end
theorem V7{X:Cx}{v:Value}{l:List AB}{W:World}(h:(Pn X v l).A W)(h0:0<l.length):∃gl c,v=.slice (some ⟨gl,0,none⟩) l.length c∧∀(j:Nat) (u:Value),(Bj l)[j]?=some u→W.cell? ⟨gl,j,none⟩=some u:=by
 obtain⟨h3,⟨h4,h5⟩|⟨gl,c,cs,h4,h5,h6,h7,h8,h9,ID⟩⟩:=h
 ·omega
 ·refine⟨gl,c,h4,fun j u hj=>?_⟩
  have hlt:j<(Bj l).length:=by
   rcases Nat.lt_or_ge j (Bj l).length with h|h
   ·exact h
   ·rw[List.getElem?_eq_none h]at hj;cases hj
  have OT:cs.toList[j]?=some u:=by
   rw[←hj,←ID]
   rw[List.getElem?_take_of_lt (by rw[←ID,List.length_take]at hlt;omega)]
  exact((show Row W gl 63 cs.toList from h6).cell j).trans OT
def QJ:List AB:=[⟨1,0,0,0,0⟩,⟨3,0,0,0,0⟩,⟨2,0,0,0,0⟩]
theorem Th{W:World}{b:Nat}(h:Row W b 63 (Bj QJ)):BH W W.heap.size (some ⟨b,0,none⟩) 3 QJ:=by
 have ho:W.ownsRow 0 63 5 (.slice (some ⟨b,0,none⟩) 3 3) 3 (Bj QJ):=⟨rfl,.inr ⟨b,3,(Bj QJ).toArray,rfl,Nat.zero_le _,h,Nat.le_refl _,by decide,rfl,rfl⟩⟩
 obtain⟨A,c,he,hr,_⟩:=Mt ho (fun u hu=>Yt (by
  simp[QJ]at hu
  rcases hu with rfl|rfl|rfl<;>simp[AB.Bf]))
 injection he with e1 e2 e3
 subst e1
 exact hr
theorem de:OJ false ⟨-1,0,0,0,0⟩ QJ=[⟨3,0,0,0,0⟩,⟨2,0,0,0,0⟩,⟨1,0,0,0,0⟩]:=by decide
theorem rf:Fm ⟨-1,0,0,0,0⟩:=by decide
theorem jI(w:World):Calls Tryz.prog 11 #[] w fun e w'=>e=.returned (.bool true)∧Below w.heap.size w w':=by
 have HW:Hid (Calls Tryz.prog 10 #[.agg #[.int .u8 0,.int .u8 20,.int .u8 0,.int .u8 0]] w fun e w'=>
  ∃p G,e=.returned (.tuple #[.pointer (some ⟨p.w,0,none⟩),.int .i64 8])∧Sys w' G p (eB 8 160 4000) 0∧(∀k,G k→w.heap.size≤k)∧Below w.heap.size w w'):=TL 0 20 0 0 (by omega) w
 go_enter Tryz.func11,Tryz.ntmps11
 go_wp2_with fail
 refine HW.out.mono ?_
 rintro e w1 ⟨p,G,rfl,hs,hG,hb⟩
 have OA:Below w1.heap.size w1 (w1.alloc (.cells #[.int .i64 1,.int .i64 0,.int .i64 0,.int .i64 0,.int .i64 0,.int .i64 3,.int .i64 0,.int .i64 0,.int .i64 0,.int .i64 0,.int .i64 2,.int .i64 0,.int .i64 0,.int .i64 0,.int .i64 0] 63)):=(Below.refl _ _).alloc (Nat.le_refl _) _
 have EC:Row (w1.alloc (.cells #[.int .i64 1,.int .i64 0,.int .i64 0,.int .i64 0,.int .i64 0,.int .i64 3,.int .i64 0,.int .i64 0,.int .i64 0,.int .i64 0,.int .i64 2,.int .i64 0,.int .i64 0,.int .i64 0,.int .i64 0] 63)) w1.heap.size 63 (Bj QJ):=heap_alloc_new _ _
 have HL:Hid (Calls Tryz.prog 15 #[.pointer (some ⟨p.w,0,none⟩),.int .i64 1,.slice (some ⟨w1.heap.size,0,none⟩) 3 3] (w1.alloc (.cells #[.int .i64 1,.int .i64 0,.int .i64 0,.int .i64 0,.int .i64 0,.int .i64 3,.int .i64 0,.int .i64 0,.int .i64 0,.int .i64 0,.int .i64 2,.int .i64 0,.int .i64 0,.int .i64 0,.int .i64 0] 63)) fun e w'=>
   ∃nb:Nat,e=.returned (.tuple #[.agg #[.int .i64 0,.int .i64 nb,.int .i64 1,.int .i64 3],.int .i64 0])∧nb≤3∧Jr 0 nb 1 6 QJ 8∧Wd ⟨w,p,BP 0 4000,160,8,4000,True,4,nb,4⟩ [Cb 0 nb 1 6 QJ 8] 0 w'):=by
  refine(vc (w0:=w) (rm:=160) (n:=8) (b:=4000) (k:=1) (hs.below OA) hG (hb.trans (OA.mono hb.size)) (Th EC) (fun _ b off e hg=>by
   injection e with e;injection e with e _
   subst e
   exact Nat.lt_irrefl _ (hs.lt hg)) (by omega) (by omega) (by decide) (by decide) (by decide)).mono ?_
  rintro e w' (⟨hno,_⟩|⟨_,first,nb,he,hf,cT,hw⟩)
  ·omega
  ·subst hf
   refine⟨nb,he,?_,cT,hw⟩
   rw[cT.bn];exact BM _ _
 clear OA EC hs hG hb HW
 go_wp2_with fail
 refine HL.out.mono ?_
 rintro e w2 ⟨nb,rfl,Hz,cT,EV⟩
 have sL:Hid (∀W,Below w2.heap.size w2 W→Calls Tryz.prog 20 #[.pointer (some ⟨p.w,0,none⟩),.agg #[.int .i64 0,.int .i64 nb,.int .i64 1,.int .i64 3],.agg #[.int .i64 (-1),.int .i64 0,.int .i64 0,.int .i64 0,.int .i64 0],.bool false] W fun e w'=>
   ∃F N m',e=.returned (.tuple #[.agg #[.int .i64 (F:Nat),.int .i64 (N:Nat),.int .i64 1,.int .i64 3],.int .i64 0])∧Jr F N 1 6 [⟨3,0,0,0,0⟩,⟨2,0,0,0,0⟩,⟨1,0,0,0,0⟩] 8∧m'≤1000∧Wd ⟨w,p,BP 0 4000,160,8,4000,True,4,nb,4⟩ [Bl,Cb F N 1 6 [⟨3,0,0,0,0⟩,⟨2,0,0,0,0⟩,⟨1,0,0,0,0⟩] 8] m' w'):=fun W hb=>by
  have hs:=U0 (X:=⟨w,p,BP 0 4000,160,8,4000,True,4,nb,4⟩) (once:=false) (o:=⟨-1,0,0,0,0⟩) (count:=3) (EV.below hb) (i:=0) rfl cT rfl rf (by show 40≤160-0;omega) (by show 160≤1000000;omega) (by omega) (by show 4+0+40*nb+9+10≤1000000;omega) trivial ⟨nb,ZC rfl rfl (by omega) (fun q hq=>by cases hq)⟩
  refine hs.mono ?_
  rintro e w' ⟨F,N,C,m',j,he,hC,hf,hj,hm,hw⟩
  rw[de]at hC hf hw
  have hC:3=C:=hC
  subst hC
  have hj2:=Ot hj (by omega)
  refine⟨F,N,m',he,hf,?_,hw⟩
  have:2*nb*(1+j)≤6*11:=Nat.mul_le_mul (by omega) (by omega)
  omega
 have Cd:=Lib.hid EV.size
 clear HL Hz cT EV
 go_wp2_with fail
 refine(sL.out _ ((Below.refl _ _).alloc (Nat.le_refl _) _)).mono ?_
 rintro e w3 ⟨F,N,m',rfl,hf,hm,cM⟩
 have HLI:Hid (∀W,Below w3.heap.size w3 W→Calls Tryz.prog 22 #[.pointer (some ⟨p.w,0,none⟩),.agg #[.int .i64 F,.int .i64 N,.int .i64 1,.int .i64 3]] W fun e w'=>∃gl c,e=.returned (.tuple #[.slice (some ⟨gl,0,none⟩) 3 c,.int .i64 0])∧w'.cell? ⟨gl,0,none⟩=some (.int .i64 3)∧w'.cell? ⟨gl,10,none⟩=some (.int .i64 1)∧Below w.heap.size w w'):=fun W hb=>by
  have hN:N≤3:=by rw[hf.bn];exact BM _ _
  refine(Us (X:=⟨w,p,BP 0 4000,160,8,4000,True,4,nb,4⟩) (cM.below hb) (i:=1) rfl hf trivial (by show 8≤160-0;omega) (by show 4+m'+N+1≤1000000;omega) (c:=3) rfl).mono ?_
  rintro e w' ⟨v,he,hw⟩
  obtain⟨gl,c,hv,Be⟩:=V7 (hw.at_ (i:=2) rfl) (by show 0<3;omega)
  subst hv
  exact⟨gl,c,he,Be 0 _ rfl,Be 10 _ rfl,hw.Lg⟩
 clear hf hm cM sL Cd
 go_wp2_with fail
 refine(HLI.out _ ((Below.refl _ _).alloc (Nat.le_refl _) _)).mono ?_
 rintro e w4 ⟨gl,c,rfl,c0,c10,Dz⟩
 have Vv:=Lib.hid Dz
 clear Dz HLI
 go_wp2
 go_ret
 exact⟨rfl,Vv.out⟩
theorem oC(u0 u1 u2:Nat):(8≤Kr u0∧Kr u0≤67)∧ZN u0 u1 u2≤3000:=by
 have h0:8≤Kr u0∧Kr u0≤67:=by
  unfold Kr;have:=Nat.mod_lt u0 (show 0<60 by omega);omega
 refine⟨h0,?_⟩
 have h1:=Nat.mod_lt u1 (show 0<40 by omega)
 have h2:=Nat.mod_lt u2 (show 0<Kr u0 by omega)
 have h3:u1%40*Kr u0≤39*67:=Nat.mul_le_mul (by omega) h0.2
 unfold ZN;omega
theorem Qa:∀l:List AB,(Bj l).length=l.length*5
 |[]=>rfl
 |t::l=>by
  have:=Qa l
  unfold Bj at*
  simp[An]at*
  omega
theorem n9{once:Bool}{o:AB}{l:List AB}:(OJ once o l).length≤l.length:=by
 obtain⟨s,h1,h2⟩:∃s,Gz o s∧Cl o l s:=⟨IL o [] l,Is.1 (GZ o l [] (ME o)),IK o l []⟩
 rw[←R7 h1 h2]
 exact Nat.le_trans (M8 _ _ _) (Nat.le_of_eq h2.len.symm)
theorem yP{W:World}{g:Nat}{T:TypeId}{x0 x1 x2 x3 x4:Value}(h:Row W g T [x0,x1,x2,x3,x4]):W.cell? ⟨g,0,none⟩=some x0∧W.cell? ⟨g,1,none⟩=some x1∧W.cell? ⟨g,2,none⟩=some x2∧W.cell? ⟨g,3,none⟩=some x3∧W.cell? ⟨g,4,none⟩=some x4:=⟨h.cell 0,h.cell 1,h.cell 2,h.cell 3,h.cell 4⟩
theorem yQ{W:World}{g:Nat}{T:TypeId}{x0 x1 x2 x3:Value}(h:Row W g T [x0,x1,x2,x3]):W.cell? ⟨g,0,none⟩=some x0∧W.cell? ⟨g,1,none⟩=some x1∧W.cell? ⟨g,2,none⟩=some x2∧W.cell? ⟨g,3,none⟩=some x3:=⟨h.cell 0,h.cell 1,h.cell 2,h.cell 3⟩
def O3(n:Nat):Nat:=if h:n≤1 then 0 else 1+O3 ((n+1)/2)
 termination_by n
 decreasing_by omega
theorem QM{n:Nat}(h:n≤1):O3 n=0:=by rw[O3];simp[h]
theorem SB{n:Nat}(h:¬n≤1):O3 n=1+O3 ((n+1)/2):=by rw[O3];simp[h]
theorem QL(b:Nat):∀n,n≤b→n≤2^O3 n∧O3 n≤n:=by
 induction b with
 |zero=>intro n hn;rw[QM (by omega)];omega
 |succ b ih=>
  intro n hn
  by_cases h:n≤1
  ·rw[QM h];exact⟨by simpa using h,by omega⟩
  ·rw[SB h,Nat.add_comm,Nat.pow_succ]
   have:=ih ((n+1)/2) (by omega)
   omega
theorem Wg{j nb:Nat}(h:j=0∨2^(j-1)<nb):j≤O3 nb:=by
 rcases h with h|h
 ·omega
 ·have h1:=(QL nb nb (Nat.le_refl _)).1
  have h2:j-1<O3 nb:=(Nat.pow_lt_pow_iff_right (show 1<2 by omega)).1 (by omega)
  omega
theorem mj{j nb m:Nat}(h:j=0∨2^(j-1)<nb)(hm:m≤0+2*nb*(1+j)):m≤(8*nb+8)*(O3 nb+2):=by
 have h1:=Wg h
 have h2:2*nb*(1+j)≤(8*nb+8)*(O3 nb+2):=Nat.mul_le_mul (by omega) (by omega)
 omega
theorem UJ(n:Nat)(hn:n≤1000000)(w:World):Calls Tryz.prog 55 #[.int .i64 n] w fun e w'=>e=.returned (.int .i64 (O3 n:Nat))∧w'=w:=by
 have hb:=(QL n n (Nat.le_refl _)).2
 have HB:=Lib.hid hb
 clear hb
 go_enter Tryz.func55,Tryz.ntmps55
 go_wp2
 go_loop [0,3] (fun a b=>∃y q:Nat,y≤n∧q+O3 y=O3 n∧a=.int .i64 y∧b=.int .i64 q) (fun a _=>(intOf a).toNat)
 case atStart=>exact⟨n,0,Nat.le_refl _,by omega,rfl,rfl⟩
 case round=>
  obtain⟨y,q,hy,hq,rfl,rfl⟩:=hrel
  have hqb:q≤1000000:=by have:=HB.out;omega
  have HQ:=Lib.hid hq
  clear hq
  by_cases h1:y≤1
  ·have g1:decide ((y:Int)>1)=false:=by simp;omega
   have Es:O3 n=q:=by have:=HQ.out;rw[QM h1]at this;omega
   rw[Es]
   go_wp2
   go_ret
   exact⟨rfl,rfl⟩
  ·have g1:decide ((y:Int)>1)=true:=by simp;omega
   obtain⟨z,hz⟩:∃z,z=(y+1)/2:=⟨_,rfl⟩
   have t1:Int.tdiv ((y:Int)+1) 2=(z:Int):=by rw[hz];rfl
   have t2:((y:Int)+1)/2=(z:Int):=by omega
   have VI:q+1+O3 z=O3 n:=by have:=HQ.out;rw[SB h1,←hz]at this;omega
   have hzy:z<y:=by omega
   have jR:=Lib.hid VI
   clear VI hz
   go_wp2
   go_round
   case rel=>exact⟨z,q+1,by omega,jR.out,rfl,by simp⟩
   case measure=>simp[intOf];omega
theorem oB(size k count:Nat)(w:World)(hs:8≤size∧size≤256)(hk:0<k∧k≤5)(hc:count≤1000):Calls Tryz.prog 27 #[.int .i64 size,.int .i64 k,.int .i64 count] w fun e w'=>e=.returned (.int .i64 (((8*AA (AE size k) count+8)*(O3 (AA (AE size k) count)+2):Nat):Int))∧w'=w:=by
 have HB:Hid (Calls Tryz.prog 28 #[.int .i64 size,.int .i64 k,.int .i64 count] w fun e w'=>e=.returned (.int .i64 (AA (AE size k) count:Nat))∧w'=w):=by
  have:=We size (k:Int) count w hs (by omega)
  have h0:=(QO hk hs).1
  unfold MR at this
  rw[if_neg (by omega)]at this
  exact this
 have Aj:=BM (AE size k) count
 generalize AA (AE size k) count=b at*
 have hv:=(QL b b (Nat.le_refl _)).2
 have HH:=Lib.hid (UJ b (by omega) w)
 obtain⟨h,hh⟩:∃h,h=O3 b:=⟨_,rfl⟩
 rw[←hh]at HH hv⊢
 obtain⟨x,hx⟩:∃x,x=8*b+8:=⟨_,rfl⟩
 obtain⟨y,hy⟩:∃y,y=h+2:=⟨_,rfl⟩
 obtain⟨z,hz⟩:∃z,z=x*y:=⟨_,rfl⟩
 have Qv:z≤8008*1002:=by rw[hz];exact Nat.mul_le_mul (by omega) (by omega)
 rw[←hx,←hy,←hz]
 have e0:(8:Int)*(b:Int)=((8*b:Nat):Int):=by simp
 obtain⟨b8,rN⟩:∃b8,b8=8*b:=⟨_,rfl⟩
 rw[←rN]at e0
 have e1:(b8:Int)+8=(x:Int):=by omega
 have e2:(h:Int)+2=(y:Int):=by omega
 have e3:(x:Int)*(y:Int)=(z:Int):=by rw[hz];simp
 have Jt:x≤8008:=by omega
 have hyb:y≤1002:=by omega
 have AD9:b8≤8000:=by omega
 clear hz hx hy rN hh hs hk hc
 go_enter Tryz.func27,Tryz.ntmps27
 go_wp2_with fail
 refine HB.out.mono ?_;rintro e w2 ⟨rfl,rfl⟩
 go_wp2_with fail
 refine HH.out.mono ?_;rintro e w3 ⟨rfl,rfl⟩
 go_wp2
 go_ret
 exact⟨rfl,rfl⟩
section
variable {w : World} {G : Nat → Prop} {p : Wp} {sz rm b n : Nat}
theorem ny(h:Sys w G p (eB sz rm b) n):Calls Tryz.prog 13 #[.pointer (some ⟨p.w,0,none⟩)] w fun e w'=>e=.returned (.pointer (some ⟨p.a,0,none⟩))∧w'=w:=RJ h.row
theorem pQ(h:Sys w G p (eB sz rm b) n):Calls Tryz.prog 14 #[.pointer (some ⟨p.a,0,none⟩)] w fun e w'=>e=.returned (.int .i64 (rm:Int))∧w'=w:=by
 obtain⟨Gd,Ga,Gs,hr,hd,ha,_⟩:=h
 obtain⟨h0,⟨mm,hr,_⟩,_⟩:=id ha
 exact Jl p.a (eB sz rm b).A mm w hr
end
structure YP where
 X:Cx
 os:List AU
 m:Nat
 x:Nat
 t:Wt
 R:Nat
 l:List AB
structure YP.Ok (P:YP):Prop where
 ok:B8 P.t P.X.sz
 bd:P.t.bound=P.l.length
 nil:P.t.l=[]
 fit:∀u∈P.l,CQ u∧Ac P.t.k u=true
 cm:P.X.cm
 n:P.X.N+P.m+P.l.length+1≤1000000
def YP.z(P:YP)(cs:List Value):List AU:=P.os++[AI P.R 39 cs]
def Z4:List Value:=[.int .i64 0,.int .i64 0,.int .i64 0,.int .i64 0]
def YP.J(P:YP)(i:Nat)(W:World):Prop:=Wd P.X (P.z Z4++[Ir P.X.p P.x (tk P.t P.l i) P.X.sz]) (P.m+i/P.t.h) W
def YP.C(P:YP)(cs:List Value)(W:World):Prop:=Wd P.X (P.z cs++[RE P.X.p P.x (tk P.t P.l P.l.length) P.X.sz]) (P.m+AA P.t.h P.l.length) W
section
variable {P : YP} {W W' : World} {i : Nat}
theorem YP.uZ(P:YP)(cs:List Value)(a:AU):(P.z cs++[a])[P.os.length+1]?=some a:=by simp[YP.z]
theorem YP.kG(P:YP)(cs:List Value)(a b:AU):(P.z cs++[a]).set (P.os.length+1) b=P.z cs++[b]:=by simp[YP.z]
theorem YP.atR(P:YP)(cs:List Value)(a:AU):(P.z cs++[a])[P.os.length]?=some (AI P.R 39 cs):=by simp[YP.z]
theorem YP.Td(P:YP)(cs fj:List Value)(a:AU):(P.z cs++[a]).set P.os.length (AI P.R 39 fj)=P.z fj++[a]:=by simp[YP.z]
theorem YP.pP(hP:P.Ok)(hi:i≤P.l.length):B8 (tk P.t P.l i) P.X.sz:=
 ⟨hP.ok.k,hP.ok.h,hP.ok.sz,⟨hP.ok.bound.1,by rw[GD hi];show i≤P.t.bound;rw[hP.bd];exact hi⟩,hP.ok.blocks,hP.ok.first⟩
theorem YP.J.below(h:P.J i W)(hb:Below W.heap.size W W'):P.J i W':=Wd.below h hb
theorem YP.put(hP:P.Ok)(h:P.J i W){tu:AB}(ht:P.l[i]?=some tu)(hi:i<P.l.length):
  Calls Tryz.prog 39 #[.pointer (some ⟨P.x,0,none⟩),.agg #[.int .i64 tu.a,.int .i64 tu.b,.int .i64 tu.c,.int .i64 tu.d,.int .i64 tu.e]] W fun e w'=>e=.returned (.int .i64 0)∧P.J (i+1) w':=by
 have IF:=Nat.div_le_self i P.t.h
 have hn:=hP.n
 refine(TN h (P.uZ _ _) (YP.pP hP (Nat.le_of_lt hi)) (by omega) (tu:=tu) (hP.fit tu (List.mem_of_getElem? ht)).2 (by rw[GD (Nat.le_of_lt hi)];show i<P.t.bound;rw[hP.bd];exact hi)).mono ?_
 rintro e w' (⟨he,hw⟩|⟨_,hno,_⟩)
 ·refine⟨he,?_⟩
  rw[P.kG,G7 ht,GD (Nat.le_of_lt hi)]at hw
  have lq:i/P.t.h≤(i+1)/P.t.h:=Nat.div_le_div_right (by omega)
  unfold YP.J
  rw[show P.m+(i+1)/P.t.h=P.m+i/P.t.h+((i+1)/(tk P.t P.l i).h-i/(tk P.t P.l i).h)by show _=P.m+i/P.t.h+((i+1)/P.t.h-i/P.t.h);omega]
  exact hw
 ·exact absurd hP.cm hno
theorem YP.close(hP:P.Ok)(h:P.J P.l.length W):
  Calls Tryz.prog 40 #[.pointer (some ⟨P.x,0,none⟩)] W fun e w'=>e=.returned (.tuple #[.agg #[.int .i64 (Af (tk P.t P.l P.l.length):Nat),.int .i64 (AA P.t.h P.l.length:Nat),.int .i64 (P.t.k:Nat),.int .i64 (P.l.length:Nat)],.int .i64 0])∧P.C Z4 w':=by
 have IF:=Nat.div_le_self P.l.length P.t.h
 have hn:=hP.n
 refine(RI h (P.uZ _ _) (YP.pP hP (Nat.le_refl _)) (by omega)).mono ?_
 rintro e w' (⟨he,hw⟩|⟨_,hno,_⟩)
 ·rw[GD (Nat.le_refl _)]at he hw
  rw[P.kG]at hw
  refine⟨he,?_⟩
  have hb:P.l.length/P.t.h≤AA P.t.h P.l.length:=by unfold AA;split<;>omega
  unfold YP.C
  rw[show P.m+AA P.t.h P.l.length=P.m+P.l.length/P.t.h+(AA (tk P.t P.l P.l.length).h P.l.length-P.l.length/(tk P.t P.l P.l.length).h)by show _=P.m+P.l.length/P.t.h+(AA P.t.h P.l.length-P.l.length/P.t.h);omega]
  exact hw
 ·exact absurd hP.cm hno
theorem YP.store(h:P.C Z4 W)(x1 x2 x3 x4:Value):P.C [x1,x2,x3,x4] ((((W.setCell ⟨P.R,0,none⟩ x1).setCell ⟨P.R,1,none⟩ x2).setCell ⟨P.R,2,none⟩ x3).setCell ⟨P.R,3,none⟩ x4):=by
 have h1:=Wd.store h (P.atR _ _) (by decide) 0 x1
 rw[P.Td]at h1
 have h2:=h1.store (P.atR _ _) (by decide) 1 x2
 rw[P.Td]at h2
 have h3:=h2.store (P.atR _ _) (by decide) 2 x3
 rw[P.Td]at h3
 have h4:=h3.store (P.atR _ _) (by decide) 3 x4
 rw[P.Td]at h4
 exact h4
theorem YP.C.shut{cs:List Value}(h:P.C cs W):Hv W P.x P.X.p (tk P.t P.l P.l.length):=Wd.at_ h (P.uZ _ _)
theorem YP.C.pW{cs:List Value}(h:P.C cs W):Row W P.R 39 cs:=Wd.row h (P.atR _ _)
theorem YP.J.pW(h:P.J i W):Row W P.R 39 Z4:=Wd.row h (P.atR _ _)
theorem YP.C.fin{cs:List Value}(h:P.C cs W):Wd P.X (P.os++[Cb (Af (tk P.t P.l P.l.length)) (AA P.t.h P.l.length) P.t.k P.t.h P.l P.X.sz]) (P.m+AA P.t.h P.l.length) W:=by
 have h1:=YN h (P.uZ _ _)
 rw[P.kG,GD (Nat.le_refl _)]at h1
 have e:(tk P.t P.l P.l.length).l=P.l:=List.take_length
 rw[e]at h1
 have h1:Wd P.X (P.z cs++[Cb (Af (tk P.t P.l P.l.length)) (AA P.t.h P.l.length) P.t.k P.t.h P.l P.X.sz]) (P.m+AA P.t.h P.l.length) W:=h1
 have h2:Wd P.X (P.os++AI P.R 39 cs::[Cb (Af (tk P.t P.l P.l.length)) (AA P.t.h P.l.length) P.t.k P.t.h P.l P.X.sz]) (P.m+AA P.t.h P.l.length) W:=by simpa [YP.z]using h1
 exact h2.cut rfl rfl
theorem YP.fok(hP:P.Ok)(hh:P.t.h=AE P.X.sz P.t.k)(hl:P.l.length≤100000):Jr (Af (tk P.t P.l P.l.length)) (AA P.t.h P.l.length) P.t.k P.t.h P.l P.X.sz:=
 ⟨hP.ok.k,hP.ok.h,hh,rfl,hl,by have:=hP.ok.first;unfold Af;split<;>first|omega|exact this,hP.fit⟩
end
section
variable {X : Cx} {os : List AU} {m : Nat} {W : World} {l : List AB}
theorem vG{k n c:Nat}{A:Option Addr}(h:Wd X os m W)(DP:X.cm)(hk:0<k∧k≤5)(hrd:∀z m' W',Wd X (os++z) m' W'→BH W' W'.heap.size A n l)(hlen:l.length≤1000)(hfit:∀u∈l,Ac k u=true)(hroom:X.sz+Aa AU.gw os≤X.rm)(hn:X.N+m+l.length+1≤1000000)(hz:∃z,Rm X os z (AA (AE X.sz k) l.length)):
  Calls Tryz.prog 15 #[.pointer (some ⟨X.p.w,0,none⟩),.int .i64 k,.slice A n c] W fun e w'=>∃first nb:Nat,e=.returned (.tuple #[.agg #[.int .i64 first,.int .i64 nb,.int .i64 k,.int .i64 n],.int .i64 0])∧Jr first nb k (AE X.sz k) l X.sz∧Wd X (os++[Cb first nb k (AE X.sz k) l X.sz]) (m+nb) w':=by
 have lF:=hrd [] m W (by rw[List.append_nil];exact h)
 have qs:=lF.1
 have OQ:=lF.2.1
 have hh:=QO hk h.bounds.1
 have hb0:Below W.heap.size W (W.alloc (.cells #[.int .i64 0,.int .i64 0,.int .i64 0,.int .i64 0] 39)):=(Below.refl _ _).alloc (Nat.le_refl _) _
 have Cz:Row (W.alloc (.cells #[.int .i64 0,.int .i64 0,.int .i64 0,.int .i64 0] 39)) W.heap.size 39 Z4:=heap_alloc_new _ _
 have h0:=h.new hb0 Cz (Nat.le_refl _)
 have Hs:Aa AU.gw (os++[AI W.heap.size 39 Z4])=Aa AU.gw os:=CR _ _ _
 have bR:=Lib.hid (RF h0 k n hh.1 (by omega) (by rw[Hs];exact hroom))
 have Kh:Hid (¬∀q,¬Rm X (os++[AI W.heap.size 39 Z4]) q (AA (AE X.sz k) n)):=fun hno=>by
  obtain⟨z,hz⟩:=hz
  rw[qs]at hz
  refine hno z (U5 hz fun q hq=>?_)
  simp at hq;subst hq;exact⟨rfl,rfl⟩
 have Sn:Hid (∀x t W1,t.k=k→t.h=AE X.sz k→t.bound=n→t.l=[]→B8 t X.sz→Wd X (os++[AI W.heap.size 39 Z4]++[Ir X.p x t X.sz]) m W1→
   ∃P:YP,(P.x=x∧P.l=l∧P.R=W.heap.size)∧P.Ok∧P.J 0 W1∧(∀i W',P.J i W'→BH W' W'.heap.size A n l)∧(∀cs W',P.C cs W'→Hv W' x X.p (tk t l l.length))∧P.t=t∧
    (∀cs W',P.C cs W'→Jr (Af (tk t l l.length)) (AA (AE X.sz k) n) k (AE X.sz k) l X.sz∧Wd X (os++[Cb (Af (tk t l l.length)) (AA (AE X.sz k) n) k (AE X.sz k) l X.sz]) (m+AA (AE X.sz k) n) W')):=fun x t W1 e1 e2 e3 e4 e5 hw=>by
  have hP:YP.Ok ⟨X,os,m,x,t,W.heap.size,l⟩:=⟨e5,by rw[e3];exact qs.symm,e4,fun u hu=>⟨OQ u hu,by show Ac t.k u=true;rw[e1];exact hfit u hu⟩,DP,hn⟩
  refine⟨⟨X,os,m,x,t,W.heap.size,l⟩,⟨rfl,rfl,rfl⟩,hP,?_,fun i W' hj=>?_,fun cs W' hc=>hc.shut,rfl,fun cs W' hc=>?_⟩
  ·have e:tk t l 0=t:=by unfold tk;rw[List.take_zero,←e4]
   show Wd X (os++[AI W.heap.size 39 Z4]++[Ir X.p x (tk t l 0) X.sz]) (m+0/t.h) W1
   rw[e,Nat.zero_div];exact hw
  ·have hj:Wd X (os++[AI W.heap.size 39 Z4]++[Ir X.p x (tk t l i) X.sz]) (m+i/t.h) W':=hj
   rw[List.append_assoc]at hj
   exact hrd _ _ _ hj
  ·have f1:=YP.fok hP (by show t.h=AE X.sz t.k;rw[e1];exact e2) (by show l.length≤100000;omega)
   have f2:=hc.fin
   have f1:Jr (Af (tk t l l.length)) (AA t.h l.length) t.k t.h l X.sz:=f1
   have f2:Wd X (os++[Cb (Af (tk t l l.length)) (AA t.h l.length) t.k t.h l X.sz]) (m+AA t.h l.length) W':=f2
   generalize Af (tk t l l.length)=fo at f1 f2⊢
   rw[e1,e2,qs]at f1 f2
   exact⟨f1,f2⟩
 have QS:n≤1000:=by omega
 have OF:=Lib.hid qs
 clear h DP hk hrd hlen hfit hroom hn hz lF OQ hh hb0 Cz h0 Hs qs
 generalize L4:(fun(e:Ending) (w':World)=>∃first nb:Nat,e=.returned (.tuple #[.agg #[.int .i64 first,.int .i64 nb,.int .i64 k,.int .i64 n],.int .i64 0])∧Jr first nb k (AE X.sz k) l X.sz∧Wd X (os++[Cb first nb k (AE X.sz k) l X.sz]) (m+nb) w')=EO at*
 replace L4:=Lib.hid L4
 go_enter_defers Tryz.func15,Tryz.ntmps15
 go_wp2_with fail
 refine bR.out.mono ?_
 rintro e w1 (⟨_,hno,_⟩|⟨x,t,rfl,e1,e2,e3,e4,e5,Lu⟩)
 ·exact(Kh.out hno).elim
 obtain⟨P,⟨hx,hl,hR⟩,hP,hj,hrd,iI,ht,Es⟩:=Sn.out x t w1 e1 e2 e3 e4 e5 Lu
 have OY:Hid (∀i W tu,P.J i W→l[i]?=some tu→i<n→Calls Tryz.prog 39 #[.pointer (some ⟨x,0,none⟩),.agg #[.int .i64 tu.a,.int .i64 tu.b,.int .i64 tu.c,.int .i64 tu.d,.int .i64 tu.e]] W fun e w'=>e=.returned (.int .i64 0)∧P.J (i+1) w'):=fun i W tu h1 h2 h3=>by
  have:=YP.put hP h1 (by rw[hl];exact h2) (by rw[hl,OF.out];exact h3)
  rw[hx]at this;exact this
 have Ct:Hid (∀W,P.J n W→Calls Tryz.prog 40 #[.pointer (some ⟨x,0,none⟩)] W fun e w'=>e=.returned (.tuple #[.agg #[.int .i64 (Af (tk t l l.length):Nat),.int .i64 (AA (AE X.sz k) n:Nat),.int .i64 k,.int .i64 n],.int .i64 0])∧P.C Z4 w'):=fun W h1=>by
  have:=YP.close hP (W:=W) (by rw[hl,OF.out];exact h1)
  rw[hx,ht,e2,e1,hl]at this
  generalize Af (tk t l l.length)=fo at this⊢
  rw[OF.out]at this;exact this
 have yZ:Hid (∀W' x1 x2 x3 x4,P.C Z4 W'→P.C [x1,x2,x3,x4] ((((W'.setCell ⟨W.heap.size,0,none⟩ x1).setCell ⟨W.heap.size,1,none⟩ x2).setCell ⟨W.heap.size,2,none⟩ x3).setCell ⟨W.heap.size,3,none⟩ x4)):=fun W' x1 x2 x3 x4 h1=>by
  have:=YP.store h1 x1 x2 x3 x4
  rw[hR]at this;exact this
 have L8:Hid (∀cs W',P.C cs W'→Row W' W.heap.size 39 cs):=fun cs W' h1=>by
  have:=h1.pW
  rw[hR]at this;exact this
 have HJ:=Lib.hid hj
 have Nu:=Lib.hid hrd
 have uh:=Lib.hid iI
 have Fg:Hid (∀cs W',P.C cs W'→EO (.returned (.tuple #[.agg #[.int .i64 (Af (tk t l l.length):Nat),.int .i64 (AA (AE X.sz k) n:Nat),.int .i64 k,.int .i64 n],.int .i64 0])) W'):=fun cs W' h1=>by
  obtain⟨f1,f2⟩:=Es cs W' h1
  rw[←L4.out];exact⟨_,_,rfl,f1,f2⟩
 generalize Af (tk t l l.length)=first at*
 generalize AA (AE X.sz k) n=nb at*
 clear hx hl hR hP hj hrd iI ht Es Lu e1 e2 e3 e4 e5 Sn Kh bR
 go_wp2_with fail
 go_loopw [28] (fun iv wr=>∃i:Nat,i≤n∧iv=.int .i64 (i:Int)∧Hid (P.J i wr)) (fun iv _=>n-(intOf iv).toNat)
 case atStart=>exact⟨0,Nat.zero_le _,rfl,HJ.out⟩
 case round=>
  obtain⟨i,hi,rfl,JO⟩:=hrel
  by_cases hlt:i<n
  ·obtain⟨bb,off,tu,rfl,IB,q0,q1,q2,q3,q4,_,htu⟩:=(Nu.out _ _ JO.out).at_ hlt
   have CA:(0:Int)≤(i:Int):=by omega
   have XK:(i:Int)<(n:Int):=by omega
   have g0:decide ((i:Int)<(n:Int))=true:=by simpa using hlt
   have bY:=Lib.hid (OY.out i _ tu (JO.out.below ((Below.refl wr.heap.size wr).alloc (Nat.le_refl _) (.cells #[.int .i64 tu.a,.int .i64 tu.b,.int .i64 tu.c,.int .i64 tu.d,.int .i64 tu.e] 63))) htu.out hlt)
   obtain⟨ta,tb,tc,td,te⟩:=tu
   simp only at q0 q1 q2 q3 q4 bY
   go_wp2_with fail
   refine bY.out.mono ?_
   rintro e w5 ⟨rfl,Bp⟩
   have Su:=Lib.hid Bp
   clear Bp bY q0 q1 q2 q3 q4 JO
   go_wp2
   go_roundw
   case rel=>exact⟨i+1,by omega,by go_num,Su.out⟩
   case measure=>simp[intOf];omega
  ·obtain rfl:i=n:=by omega
   have g0:decide ((i:Int)<(i:Int))=false:=by simp
   have vB:=Lib.hid (Ct.out _ JO.out)
   clear JO
   go_wp2_with fail
   refine vB.out.mono ?_
   rintro e w5 ⟨rfl,h5⟩
   have Cc:=Lib.hid (L8.out _ _ h5)
   have H9:=Lib.hid (yZ.out _ (.int .i64 first) (.int .i64 nb) (.int .i64 k) (.int .i64 i) h5)
   have Dt:=Lib.hid (L8.out _ _ H9.out)
   have z0:w5.cell? ⟨W.heap.size,0,none⟩=some (.int .i64 0):=Cc.out.cell 0
   have z1:w5.cell? ⟨W.heap.size,1,none⟩=some (.int .i64 0):=Cc.out.cell 1
   have z2:w5.cell? ⟨W.heap.size,2,none⟩=some (.int .i64 0):=Cc.out.cell 2
   have z3:w5.cell? ⟨W.heap.size,3,none⟩=some (.int .i64 0):=Cc.out.cell 3
   have f0:=Cc.out.free 0
   have f1:=Cc.out.free 1
   have f2:=Cc.out.free 2
   have f3:=Cc.out.free 3
   have jg:Hid (∀u,CallsD Tryz.prog 38 #[.pointer (some ⟨x,0,none⟩)] u ((((w5.setCell ⟨W.heap.size,0,none⟩ (.int .i64 first)).setCell ⟨W.heap.size,1,none⟩ (.int .i64 nb)).setCell ⟨W.heap.size,2,none⟩ (.int .i64 k)).setCell ⟨W.heap.size,3,none⟩ (.int .i64 i)) fun e u' w'=>u'=u∧(e=.returned (.tuple #[])∧w'=((((w5.setCell ⟨W.heap.size,0,none⟩ (.int .i64 first)).setCell ⟨W.heap.size,1,none⟩ (.int .i64 nb)).setCell ⟨W.heap.size,2,none⟩ (.int .i64 k)).setCell ⟨W.heap.size,3,none⟩ (.int .i64 i)))):=fun u=>G3 (uh.out _ _ H9.out) u
   clear h5 vB
   go_wp2
   refine leaves_cons (f:=38) (args:=#[.pointer (some ⟨x,0,none⟩)]) (by simp) (by simp[go_sem]) ?_
   refine(jg.out _).mono ?_
   rintro e u' DG ⟨rfl,rfl,rfl⟩
   have r0:=Dt.out.cell 0
   have r1:=Dt.out.cell 1
   have r2:=Dt.out.cell 2
   have r3:=Dt.out.cell 3
   simp only[List.getElem?_cons_zero,List.getElem?_cons_succ]at r0 r1 r2 r3
   exact⟨.tuple #[.agg #[.int .i64 first,.int .i64 nb,.int .i64 k,.int .i64 i],.int .i64 0],by simp[results,Tryz.results15,go_sem,r0,r1,r2,r3],Fg.out _ _ H9.out⟩
end
theorem Tl{n q:Nat}:∀(E:List (Nat×Nat)) (J:List Nat),(∀e∈E,e.2≤q)→J.Nodup→E.length<J.length→∃j∈J,∀e∈E,∀z,j*(n+q)≤z→z<j*(n+q)+n→¬En e z
 |[],J,_,_,hl=>by
  obtain⟨j,hj⟩:=List.exists_mem_of_length_pos (show 0<J.length from hl)
  exact⟨j,hj,fun e he=>by cases he⟩
 |e::E,J,hq,hd,hl=>by
  by_cases hex:∃j0∈J,∃z,j0*(n+q)≤z∧z<j0*(n+q)+n∧En e z
  ·obtain⟨j0,NK,z0,h1,h2,h3⟩:=hex
   have hlen:(J.erase j0).length=J.length-1:=List.length_erase_of_mem NK
   obtain⟨j,hj,SM⟩:=Tl (n:=n) (q:=q) E (J.erase j0) (fun e he=>hq e (List.mem_cons_of_mem _ he)) (hd.erase j0) (by simp at hl;omega)
   have hne:j≠j0:=fun e=>by
    subst e
    exact(List.Nodup.not_mem_erase hd) hj
   refine⟨j,List.mem_of_mem_erase hj,fun e' lp z k1 k2 k3=>?_⟩
   rcases List.mem_cons.1 lp with rfl|lp
   ·have hqe:=hq e' List.mem_cons_self
    unfold En at h3 k3
    rcases Nat.lt_or_gt_of_ne hne with h|h
    ·have:(j+1)*(n+q)≤j0*(n+q):=Nat.mul_le_mul_right _ (by omega)
     rw[Nat.add_mul,Nat.one_mul]at this
     omega
    ·have:(j0+1)*(n+q)≤j*(n+q):=Nat.mul_le_mul_right _ (by omega)
     rw[Nat.add_mul,Nat.one_mul]at this
     omega
   ·exact SM e' lp z k1 k2 k3
  ·obtain⟨j,hj,SM⟩:=Tl (n:=n) (q:=q) E J (fun e he=>hq e (List.mem_cons_of_mem _ he)) hd (by simp at hl;omega)
   refine⟨j,hj,fun e' lp z k1 k2 k3=>?_⟩
   rcases List.mem_cons.1 lp with rfl|lp
   ·exact hex ⟨j,hj,z,k1,k2,k3⟩
   ·exact SM e' lp z k1 k2 k3
theorem dy{X:Cx}{b:Nat}{os:List AU}(hS:X.S0=BP 0 b){n q c:Nat}(E:List (Nat×Nat))(hE:∀e∈E,e.2≤q)(hc:E.length=c)(qg:∀a∈os,a.ex.2=0∨a.ex∈E)(hb:c*(n+q)+n≤b):∃z,Rm X os z n:=by
 obtain⟨j,hj,SM⟩:=Tl (n:=n) (q:=q) E (List.range (c+1)) hE List.nodup_range (by rw[List.length_range];omega)
 have oO:j≤c:=by have:=List.mem_range.1 hj;omega
 have hm:j*(n+q)≤c*(n+q):=Nat.mul_le_mul_right _ oO
 refine⟨j*(n+q),fun z h1 h2=>⟨?_,fun i a ha=>?_⟩⟩
 ·rw[hS]
  exact Hf (m:=b) (n:=b) (Nat.le_refl _) z (by omega) (by omega)
 ·rcases qg a (List.mem_of_getElem? ha)with h|h
  ·intro hx
   have h3:a.ex.1≤z∧z<a.ex.1+a.ex.2:=hx
   omega
  ·exact SM _ h z h1 h2
theorem dc(o:AB)(l:List AB):(OJ false o l).length=l.length:=(IK o l []).len.symm
def YE(W1:World)(p:Wp)(rm sz b:Nat)(cm:Prop)(N:Nat):Cx:=⟨W1,p,BP 0 b,rm,sz,b,cm,N,0,0⟩
section
variable {W1 w W : World} {p : Wp} {rm sz b m N : Nat} {cm : Prop} {os : List AU} {G : Nat → Prop}
theorem ru (hs : Sys w G p (eB sz rm b) 0) (hG : ∀ k, G k → W1.heap.size ≤ k) (hb : Below W1.heap.size W1 w) (KR : b ≤ 1000000) (hN : N ≤ 1000000) : Wd (YE W1 p rm sz b True N) [] 0 w := by
  refine ⟨G, fresh sz b, empty rm, BP 0 b, {
    sys := hs
    Ii := ⟨Nat.zero_le _, hN⟩
    base := hG
    Lg := hb
    size := rfl
    blocks := rfl
    alive := ⟨rfl, rfl⟩
    calm := fun _ => Jf _ _
    Ab := by show (0 : Int) ≤ ((0 + 0 : Nat) : Int); omega
    room := rfl
    used := rfl
    ok := fun j a ha => by simp at ha
    st := fun j a b' n' ha => by simp at ha
    mem := fun j a ha => by simp at ha
    Nb := fun j a ha => by simp at ha
    apart := fun j j2 a a2 ha => by simp at ha
    exa := fun j j2 a a2 ha => by simp at ha
    exs := fun j a ha => by simp at ha
    s0 := KD (by omega) KR
    sp := ⟨rfl, rfl⟩
    free := fun z => ⟨fun h => ⟨h, fun j a ha => by simp at ha⟩, fun h => h.1⟩
    sum := rfl
    range := by show ((0 + b : Nat) : Int) ≤ b; omega }⟩
theorem yO(h:Wd (YE W1 p rm sz b cm N) os m W):Below W1.heap.size W1 W:=h.Lg
theorem uY(h:Wd (YE W1 p rm sz b cm N) os m W){x:Nat}(hx:b-Aa AU.xw os=x):Calls Tryz.prog 17 #[.pointer (some ⟨p.s,0,none⟩)] W fun e w'=>e=.returned (.int .i64 (x:Int))∧Wd (YE W1 p rm sz b cm N) os m w':=by
 have:=YT h
 have e:Ax (YE W1 p rm sz b cm N).S0.fr-Aa AU.xw os=x:=by
  show Ax (BP 0 b).fr- _=x
  rw[Wk];exact hx
 rw[e]at this;exact this
theorem uX(h:Wd (YE W1 p rm sz b cm N) os m W)(hu:Aa AU.gw os=0):Calls Tryz.prog 21 #[.pointer (some ⟨p.a,0,none⟩)] W fun e w'=>e=.returned (.int .i64 0)∧w'=W:=by
 have:=cz h
 rw[hu]at this;exact this
end
def RK(l:List AB)(b:Nat):List AB:=l.drop (b%l.length)++l.take (b%l.length)
theorem nw(l:List AB)(b:Nat):(RK l b).length=l.length:=by unfold RK;simp;rcases Nat.eq_zero_or_pos l.length with h|h;(·simp[h]);(·have:=Nat.mod_lt b h;omega)
theorem jr(l:List AB)(b:Nat):l.Perm (RK l b):=by
 have h:=List.perm_append_comm (l₁:=l.take (b%l.length)) (l₂:=l.drop (b%l.length))
 rw[List.take_append_drop]at h
 exact h
theorem pM(l:List AB)(b:Nat){i:Nat}(hi:i<l.length):(RK l b)[i]?=l[(i+b)%l.length]?:=by
 have hr:=Nat.mod_lt b (show 0<l.length by omega)
 have hm:(i+b)%l.length=(i+b%l.length)%l.length:=by rw[Nat.add_mod,Nat.add_mod i (b%l.length),Nat.mod_mod]
 rw[hm]
 unfold RK
 clear hm
 generalize b%l.length=r at*
 rcases Nat.lt_or_ge i (l.length-r)with h|h
 ·rw[List.getElem?_append_left (by simp;omega),List.getElem?_drop,Nat.mod_eq_of_lt (by omega),Nat.add_comm r i]
 ·rw[List.getElem?_append_right (by simp;omega),List.length_drop,List.getElem?_take_of_lt (by omega)]
  congr 1
  rw[show i+r=(i-(l.length-r))+l.length by omega,Nat.add_mod_right,Nat.mod_eq_of_lt (by omega)]
theorem Yx{P Q:List AB}(h:P.Perm Q)(he:∀x∈P,∀y∈P,x=y):P=Q:=by
 rcases P with _|⟨a,P⟩
 ·exact(List.Perm.nil_eq h)
 ·have h1:a::P=List.replicate (a::P).length a:=List.eq_replicate_of_mem fun b hb=>he b hb a (by simp)
  have h2:Q.Perm (List.replicate (a::P).length a):=by rw[←h1];exact h.symm
  rw[List.perm_replicate.1 h2];exact h1
theorem fk{o:AB}{l m:List AB}(hp:l.Perm m)(he:∀x∈l,∀y∈l,AN o x y=0→x=y):Cl o l m:=fun t=>by
 refine Yx (hp.filter _) fun x hx y hy=>?_
 obtain⟨h1,h2⟩:=List.mem_filter.1 hx
 obtain⟨h3,h4⟩:=List.mem_filter.1 hy
 unfold Dw at h2 h4
 exact he x h1 y h3 (FO (by simpa using h2) (by simpa using h4))
theorem kD{o:AB}{l m:List AB}(hp:l.Perm m)(he:∀x∈l,∀y∈l,AN o x y=0→x=y):IL o [] l=IL o [] m:=
 Na (Is.1 (GZ o l [] (ME o))) ((fk hp he).symm.trans (IK o l []))
theorem gq(o:AB)(l:List AB):IL o [] (IL o [] l)=IL o [] l:=
 (Na (Is.1 (GZ o l [] (ME o))) (Cl.refl o _)).symm
theorem oh{x y:AB}(hx:Ac 3 x=true)(hy:Ac 3 y=true)(h:AN ⟨3,-1,2,0,0⟩ x y=0):x=y:=by
 unfold AN at h
 rw[if_pos (by decide)]at h
 have h:cmpL [3,-1,2,0,0] x y=0:=h
 obtain⟨a,b,c,d,e⟩:=x
 obtain⟨a',b',c',d',e'⟩:=y
 simp[Ac,AB.Bf]at hx hy
 by_cases h1:c=c'
 ·rw[F8 (by omega) _ (show A4 ⟨a,b,c,d,e⟩ (Ce 3)=A4 ⟨a',b',c',d',e'⟩ (Ce 3)from h1)]at h
  by_cases h2:a=a'
  ·rw[F8 (by omega) _ (show A4 ⟨a,b,c,d,e⟩ (Ce (-1))=A4 ⟨a',b',c',d',e'⟩ (Ce (-1))from h2)]at h
   by_cases h3:b=b'
   ·subst h1;subst h2;subst h3
    obtain⟨rfl,rfl⟩:=hx
    obtain⟨rfl,rfl⟩:=hy
    rfl
   ·rw[cmpL,if_neg (by omega),if_neg (show ¬A4 ⟨a,b,c,d,e⟩ (Ce 2)=A4 ⟨a',b',c',d',e'⟩ (Ce 2)from h3)]at h
    split at h<;>omega
  ·rw[cmpL,if_neg (by omega),if_neg (show ¬A4 ⟨a,b,c,d,e⟩ (Ce (-1))=A4 ⟨a',b',c',d',e'⟩ (Ce (-1))from h2)]at h
   split at h<;>omega
 ·rw[cmpL,if_neg (by omega),if_neg (show ¬A4 ⟨a,b,c,d,e⟩ (Ce 3)=A4 ⟨a',b',c',d',e'⟩ (Ce 3)from h1)]at h
  split at h<;>omega
theorem j4{w:World}(o:AB){A:Option Addr}{n c:Nat}{l:List AB}(hl:BH w w.heap.size A n l)(hn:n≤1000000):Calls Tryz.prog 23 #[.slice A n c,.agg #[.int .i64 o.a,.int .i64 o.b,.int .i64 o.c,.int .i64 o.d,.int .i64 o.e]] w fun e w'=>e=.returned (.bool (decide (YF o l)))∧Below w.heap.size w w':=by
 have hr:Row (w.alloc (.cells #[.int .i64 o.a,.int .i64 o.b,.int .i64 o.c,.int .i64 o.d,.int .i64 o.e] 26)) w.heap.size 26 (mh o):=heap_alloc_new _ _
 have hb0:Below w.heap.size w (w.alloc (.cells #[.int .i64 o.a,.int .i64 o.b,.int .i64 o.c,.int .i64 o.d,.int .i64 o.e] 26)):=(Below.refl _ _).alloc (Nat.le_refl _) _
 have hsz:(w.alloc (.cells #[.int .i64 o.a,.int .i64 o.b,.int .i64 o.c,.int .i64 o.d,.int .i64 o.e] 26)).heap.size=w.heap.size+1:=by simp
 have KB:Hid (∀W,Below (w.heap.size+1) (w.alloc (.cells #[.int .i64 o.a,.int .i64 o.b,.int .i64 o.c,.int .i64 o.d,.int .i64 o.e] 26)) W→Below w.heap.size w W):=fun W hb=>hb0.trans (hb.mono (by omega))
 have KO:Hid (∀W,Below (w.heap.size+1) (w.alloc (.cells #[.int .i64 o.a,.int .i64 o.b,.int .i64 o.c,.int .i64 o.d,.int .i64 o.e] 26)) W→Row W w.heap.size 26 (mh o)):=fun W hb=>hr.below hb (by omega)
 have Li:=Lib.hid (Nat.le_of_eq hsz.symm)
 have uv:=Lib.hid hl
 have hlen:l.length=n:=hl.1
 have Kh:Hid (∀i,i+1<n→¬AN o (l.getD i AD) (l.getD (i+1) AD)≤0→decide (YF o l)=false):=fun i hi h=>decide_eq_false fun hs=>h (hs i (by omega))
 have Xp:Hid ((∀i,i+1<n→AN o (l.getD i AD) (l.getD (i+1) AD)≤0)→decide (YF o l)=true):=fun h=>decide_eq_true fun i hi=>h i (by omega)
 have HR:=Lib.hid hr
 have d0:(w.alloc (.cells #[.int .i64 o.a,.int .i64 o.b,.int .i64 o.c,.int .i64 o.d,.int .i64 o.e] 26)).cell? ⟨w.heap.size,0,none⟩=some (.int .i64 o.a):=hr.cell 0
 have d1:(w.alloc (.cells #[.int .i64 o.a,.int .i64 o.b,.int .i64 o.c,.int .i64 o.d,.int .i64 o.e] 26)).cell? ⟨w.heap.size,1,none⟩=some (.int .i64 o.b):=hr.cell 1
 have d2:(w.alloc (.cells #[.int .i64 o.a,.int .i64 o.b,.int .i64 o.c,.int .i64 o.d,.int .i64 o.e] 26)).cell? ⟨w.heap.size,2,none⟩=some (.int .i64 o.c):=hr.cell 2
 have d3:(w.alloc (.cells #[.int .i64 o.a,.int .i64 o.b,.int .i64 o.c,.int .i64 o.d,.int .i64 o.e] 26)).cell? ⟨w.heap.size,3,none⟩=some (.int .i64 o.d):=hr.cell 3
 have d4:(w.alloc (.cells #[.int .i64 o.a,.int .i64 o.b,.int .i64 o.c,.int .i64 o.d,.int .i64 o.e] 26)).cell? ⟨w.heap.size,4,none⟩=some (.int .i64 o.e):=hr.cell 4
 have gS:=Lib.hid (Jg o)
 by_cases hf:Fm o
 rotate_left
 ·have hres:decide (YF o l)=true:=Xp.out fun i _=>by unfold AN;rw[if_neg hf];exact Int.le_refl _
  rw[decide_eq_false hf]at gS
  rw[hres]
  clear hf hres hr hb0 hsz hl hlen
  go_enter Tryz.func23,Tryz.ntmps23
  go_upto_region 1 with(fail)
  generalize w.alloc (.cells #[.int .i64 o.a,.int .i64 o.b,.int .i64 o.c,.int .i64 o.d,.int .i64 o.e] 26)=W1 at*
  go_wp2_with fail
  refine(gS.out _).mono ?_;rintro e w2 ⟨rfl,hb⟩
  have Cd:Hid (Below w.heap.size w w2):=KB.out _ (hb.mono Li.out)
  clear hb
  go_wp2
  go_ret
  exact⟨rfl,Cd.out⟩
 have u7:=Lib.hid hf
 rw[decide_eq_true hf]at gS
 generalize decide (YF o l)=res at*
 clear hr hb0 hsz hl hlen hf
 go_enter Tryz.func23,Tryz.ntmps23
 go_upto_region 1 with(fail)
 generalize w.alloc (.cells #[.int .i64 o.a,.int .i64 o.b,.int .i64 o.c,.int .i64 o.d,.int .i64 o.e] 26)=W1 at*
 go_wp2_with fail
 refine(gS.out _).mono ?_;rintro e w1 ⟨rfl,hb⟩
 have ER:Hid (Below (w.heap.size+1) W1 w1):=hb.mono Li.out
 clear hb d0 d1 d2 d3 d4
 go_wp2_with fail
 go_loopw [5] (fun iv wr=>∃i:Nat,1≤i∧i≤n+1∧iv=.int .i64 (i:Int)∧Hid (Below (w.heap.size+1) W1 wr)∧Hid (∀j,j+1<i→j+1<n→AN o (l.getD j AD) (l.getD (j+1) AD)≤0)) (fun iv _=>n+1-(intOf iv).toNat)
 case atStart=>exact⟨1,by omega,by omega,rfl,ER.out,fun j hj=>by omega⟩
 case round=>
  obtain⟨i,XK,hi,rfl,HW,HS⟩:=hrel
  clear ER
  by_cases hlt:i<n
  ·have g1:decide ((i:Int)<(n:Int))=true:=by simp;omega
   have i0:(0:Int)≤(i:Int):=by omega
   have i1:(i:Int)<(n:Int):=by omega
   obtain⟨p,hp⟩:∃p,p=i-1:=⟨_,rfl⟩
   have uD:p+1=i:=by omega
   have sX:=Lib.hid uD
   have GL:(i:Int)-1=(p:Int):=by omega
   have Ja:IntKind.i64.wrap (p:Int)=(p:Int):=by rw[IntKind.wrap_i64];omega
   have p0:(0:Int)≤(p:Int):=by omega
   have p1:(p:Int)<(n:Int):=by omega
   obtain⟨bb,off,x,rfl,KR,vU,vS,vR,vQ,vP,_,hx⟩:=uv.out.at_ (show p<n by omega)
   obtain⟨bb',Rr,y,hA,_,vO,vN,vM,vL,vK,_,hy⟩:=uv.out.at_ hlt
   injection hA with hA
   injection hA with oX OC
   subst oX OC
   have hxd:l.getD p AD=x:=by rw[List.getD_eq_getElem?_getD,hx.out];rfl
   have hyd:l.getD i AD=y:=by rw[List.getD_eq_getElem?_getD,hy.out];rfl
   have HX:Hid (l.getD p AD=x∧l.getD (p+1) AD=y):=⟨hxd,by rw[uD];exact hyd⟩
   obtain⟨xa,xb,xc,xd,xe⟩:=x
   obtain⟨ya,yb,yc,yd,ye⟩:=y
   simp only at vU vS vR vQ vP vO vN vM vL vK
   have KC:Hid (∀W,Below (w.heap.size+1) W1 W→W.cell? ⟨bb,off+p*5,none⟩=some (.int .i64 xa)∧W.cell? ⟨bb,off+p*5+1,none⟩=some (.int .i64 xb)∧W.cell? ⟨bb,off+p*5+2,none⟩=some (.int .i64 xc)∧W.cell? ⟨bb,off+p*5+3,none⟩=some (.int .i64 xd)∧W.cell? ⟨bb,off+p*5+4,none⟩=some (.int .i64 xe)∧W.cell? ⟨bb,off+i*5,none⟩=some (.int .i64 ya)∧W.cell? ⟨bb,off+i*5+1,none⟩=some (.int .i64 yb)∧W.cell? ⟨bb,off+i*5+2,none⟩=some (.int .i64 yc)∧W.cell? ⟨bb,off+i*5+3,none⟩=some (.int .i64 yd)∧W.cell? ⟨bb,off+i*5+4,none⟩=some (.int .i64 ye)∧W.cell? ⟨w.heap.size,0,none⟩=some (.int .i64 o.a)∧W.cell? ⟨w.heap.size,1,none⟩=some (.int .i64 o.b)∧W.cell? ⟨w.heap.size,2,none⟩=some (.int .i64 o.c)∧W.cell? ⟨w.heap.size,3,none⟩=some (.int .i64 o.d)∧W.cell? ⟨w.heap.size,4,none⟩=some (.int .i64 o.e)):=fun W hb=>by
    have h:=KB.out W hb
    have hr:=KO.out W hb
    exact⟨(h.cell (p:=⟨bb,_,none⟩) KR).trans vU,(h.cell (p:=⟨bb,_,none⟩) KR).trans vS,(h.cell (p:=⟨bb,_,none⟩) KR).trans vR,(h.cell (p:=⟨bb,_,none⟩) KR).trans vQ,(h.cell (p:=⟨bb,_,none⟩) KR).trans vP,(h.cell (p:=⟨bb,_,none⟩) KR).trans vO,(h.cell (p:=⟨bb,_,none⟩) KR).trans vN,(h.cell (p:=⟨bb,_,none⟩) KR).trans vM,(h.cell (p:=⟨bb,_,none⟩) KR).trans vL,(h.cell (p:=⟨bb,_,none⟩) KR).trans vK,hr.cell 0,hr.cell 1,hr.cell 2,hr.cell 3,hr.cell 4⟩
   have hbd:Below (w.heap.size+1) W1 wr.drew:=⟨HW.out.os,HW.out.tape,HW.out.output,HW.out.size,HW.out.block⟩
   have HF:Hid (Calls Tryz.prog 53 #[.agg #[.int .i64 xa,.int .i64 xb,.int .i64 xc,.int .i64 xd,.int .i64 xe],.agg #[.int .i64 ya,.int .i64 yb,.int .i64 yc,.int .i64 yd,.int .i64 ye],.agg #[.int .i64 o.a,.int .i64 o.b,.int .i64 o.c,.int .i64 o.d,.int .i64 o.e]] wr.drew fun e w'=>e=.returned (.int .i64 (AN o ⟨xa,xb,xc,xd,xe⟩ ⟨ya,yb,yc,yd,ye⟩))∧Below (w.heap.size+1) W1 w'):=by
    refine(Sf o ⟨xa,xb,xc,xd,xe⟩ ⟨ya,yb,yc,yd,ye⟩ u7.out wr.drew).mono ?_
    rintro e w' ⟨he,hb⟩
    exact⟨he,hbd.trans (hb.mono (Nat.le_trans Li.out hbd.size))⟩
   have cr:Hid (AN o (l.getD p AD) (l.getD (p+1) AD)=AN o ⟨xa,xb,xc,xd,xe⟩ ⟨ya,yb,yc,yd,ye⟩):=by unfold Hid;rw[HX.out.1,HX.out.2]
   obtain⟨y0,y1,y2,y3,y4,y5,y6,y7,y8,y9,zk,zj,zi,zh,zg⟩:=KC.out _ hbd
   generalize AN o ⟨xa,xb,xc,xd,xe⟩ ⟨ya,yb,yc,yd,ye⟩=cm at*
   clear vU vS vR vQ vP vO vN vM vL vK hx hy hxd hyd HX hbd hp uD HW KR
   go_wp2
   go_region_held3 (fun W=>W.cell? ⟨bb,off+p*5,none⟩=some (.int .i64 xa)∧W.cell? ⟨bb,off+p*5+1,none⟩=some (.int .i64 xb)∧W.cell? ⟨bb,off+p*5+2,none⟩=some (.int .i64 xc)∧W.cell? ⟨bb,off+p*5+3,none⟩=some (.int .i64 xd)∧W.cell? ⟨bb,off+p*5+4,none⟩=some (.int .i64 xe)∧W.cell? ⟨bb,off+i*5,none⟩=some (.int .i64 ya)∧W.cell? ⟨bb,off+i*5+1,none⟩=some (.int .i64 yb)∧W.cell? ⟨bb,off+i*5+2,none⟩=some (.int .i64 yc)∧W.cell? ⟨bb,off+i*5+3,none⟩=some (.int .i64 yd)∧W.cell? ⟨bb,off+i*5+4,none⟩=some (.int .i64 ye)∧W.cell? ⟨w.heap.size,0,none⟩=some (.int .i64 o.a)∧W.cell? ⟨w.heap.size,1,none⟩=some (.int .i64 o.b)∧W.cell? ⟨w.heap.size,2,none⟩=some (.int .i64 o.c)∧W.cell? ⟨w.heap.size,3,none⟩=some (.int .i64 o.d)∧W.cell? ⟨w.heap.size,4,none⟩=some (.int .i64 o.e)) (first|with_reducible exact⟨y0,y1,y2,y3,y4,y5,y6,y7,y8,y9,zk,zj,zi,zh,zg⟩|with_reducible exact q2)
    (first
     |(go_at_call 53;(with_reducible refine HF.out.mono ?_);rintro e w2 ⟨rfl,h2⟩;have q2:=KC.out _ h2))
   have H2:=Lib.hid h2
   clear GL Ja p0 p1 h2 q2 HF y0 y1 y2 y3 y4 y5 y6 y7 y8 y9 zk zj zi zh zg KC
   by_cases hc:0<cm
   ·have gc:decide (0<cm)=true:=by simpa using hc
    have hres:res=false:=Kh.out p (by have:=sX.out;omega) (by rw[cr.out];omega)
    subst hres
    have HE:=Lib.hid (KB.out _ H2.out)
    clear cr
    go_wp2
    go_ret
    exact⟨rfl,HE.out⟩
   ·have gc:decide (0<cm)=false:=by simpa using hc
    have N8:cm≤0:=by omega
    have JN:Hid (∀j,j+1<i+1→j+1<n→AN o (l.getD j AD) (l.getD (j+1) AD)≤0):=fun j hj xG=>by
     by_cases e:j+1=i
     ·have:j=p:=by have:=sX.out;omega
      rw[this,cr.out];omega
     ·exact HS.out j (by omega) xG
    clear cr HS
    go_wp2
    go_roundw
    case rel=>exact⟨i+1,by omega,by omega,by go_num,H2.out,JN.out⟩
    case measure=>simp[intOf];omega
  ·have g1:decide ((i:Int)<(n:Int))=false:=by simp;omega
   have hres:res=true:=Xp.out fun j hj=>HS.out j (by omega) hj
   subst hres
   have HE:=Lib.hid (KB.out _ HW.out)
   clear HW
   go_wp2
   go_ret
   exact⟨rfl,HE.out⟩
def eE:AB:=⟨3,-1,2,0,0⟩
section
variable {W1 W : World} {p : Wp} {rm sz m n nb hh i F : Nat} {os : List AU} {l q : List AB}
theorem yE(hh:Nat)(h:2≤hh){c:Nat}(hc:c≤300):AA hh c≤150:=
 Ev (by omega) (Nat.le_trans hc (Nat.mul_le_mul (Nat.le_refl 150) h))
theorem AC1(hs:8≤sz):2≤AE sz ((3:Nat):Int):=by
 unfold AE
 rw[if_neg (by omega),Int.toNat_natCast]
 exact(Nat.le_div_iff_mul_le (by omega)).2 (by omega)
theorem kC(h:Wd (YE W1 p rm sz 4000 True 0) os m W)(hi:os[i]?=some (Cb F nb 3 hh q sz))(hf:Jr F nb 3 hh q sz)(hq:q.length=n)(Hz:nb=AA hh n)(hroom:5*sz+Aa AU.gw os≤rm)(JE:rm≤3000)(hb:nb≤150)(hn:n≤300)(hm:m≤100000)
  (E:List (Nat×Nat)) (hE:∀e∈E,e.2≤nb) (hc:E.length≤4) (qg:∀a∈os,a.ex.2=0∨a.ex∈E):
  Calls Tryz.prog 20 #[.pointer (some ⟨p.w,0,none⟩),.agg #[.int .i64 F,.int .i64 nb,.int .i64 3,.int .i64 n],.agg #[.int .i64 3,.int .i64 (-1),.int .i64 2,.int .i64 0,.int .i64 0],.bool false] W fun e w'=>
   ∃F' m':Nat,e=.returned (.tuple #[.agg #[.int .i64 F',.int .i64 nb,.int .i64 3,.int .i64 n],.int .i64 0])∧Jr F' nb 3 hh (OJ false eE q) sz∧m'≤m+5000∧Wd (YE W1 p rm sz 4000 True 0) (os.set i Bl++[Cb F' nb 3 hh (OJ false eE q) sz]) m' w':=by
 have h19:E.length*(3*nb+nb)+3*nb≤4000:=by
  have:E.length*(3*nb+nb)≤4*600:=Nat.mul_le_mul hc (by omega)
  omega
 refine(U0 (once:=false) (o:=eE) h hi hf hq (by decide) (by show 5*sz≤rm-Aa AU.gw os;omega) (by show rm≤1000000;omega) (by omega) (by show 0+m+40*nb+3*n+10≤1000000;omega) trivial (dy (X:=YE W1 p rm sz 4000 True 0) rfl (q:=nb) E hE rfl qg h19)).mono ?_
 rintro e w' ⟨F',N,C,m',j,he,hC,cT,hj,hmm,hw⟩
 have hlen:=dc eE q
 have mK:C=n:=by omega
 have hN:N=nb:=by rw[cT.bn,Hz,hlen,hq]
 subst mK;subst hN
 refine⟨F',m',he,cT,?_,hw⟩
 have AD2:=Ot hj (by omega)
 have:2*N*(1+j)≤300*11:=Nat.mul_le_mul (by omega) (by omega)
 omega
theorem kU(h:Wd (YE W1 p rm sz 4000 True 0) os m W)(hi:os[i]?=some (Cb F nb 3 hh q sz))(hf:Jr F nb 3 hh q sz)(hq:q.length=n)(hroom:sz+Aa AU.gw os≤rm)(hb:nb≤150)(hm:m≤100000):
  Calls Tryz.prog 22 #[.pointer (some ⟨p.w,0,none⟩),.agg #[.int .i64 F,.int .i64 nb,.int .i64 3,.int .i64 n]] W fun e w'=>∃(A:Option Addr) (c:Nat),e=.returned (.tuple #[.slice A n c,.int .i64 0])∧Wd (YE W1 p rm sz 4000 True 0) (os++[Pn (YE W1 p rm sz 4000 True 0) (.slice A n c) q]) (m+nb) w':=by
 refine(Us h hi hf trivial (by show sz≤rm-Aa AU.gw os;omega) (by show 0+m+nb+1≤1000000;omega) hq).mono ?_
 rintro e w' ⟨v,he,hw⟩
 obtain⟨A,c,rfl,_⟩:=hw.pN (i:=os.length) (v:=v) (l:=q) (by simp) (fun u hu=>(hf.fit u hu).1)
 rw[hq]at he hw
 exact⟨A,c,he,hw⟩
end
end Go.Proofs.YteldegofbbfaeaaGreat
