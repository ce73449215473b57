/- What the laws stand on. -/
import Derived.Test.YteldegofbbfaeaaGreatTwoA
namespace Go.Proofs.YteldegofbbfaeaaGreat
set_option linter.unusedVariables false
set_option maxRecDepth 100000
set_option maxHeartbeats 8000000
open Go.ChangeShapes Go.WideShapes Go.ChangeAt Go.RowKit
open Go.Joins Go.Deep
open Go.ChangeShapes Go.WideShapes Go.ChangeAt Go.RowKit Go.Maps
open Go.ChangeMaps (setBlock heap_setBlock_same heap_setBlock_other)
theorem ED{w:World}{B B':Nat}{v:Value}{n:Nat}{xs:List Value}(h:w.ownsRow B 80 2 v n xs)(hb:B'≤B):w.ownsRow B' 80 2 v n xs:=by
 obtain⟨h1,h2⟩:=h
 refine⟨h1,?_⟩
 rcases h2 with h2|⟨g,cap,cur,rfl,hg,r⟩
 ·exact .inl h2
 ·exact .inr ⟨g,cap,cur,rfl,by omega,r⟩
def kz(w:World)(G:Nat→Prop)(p:Nat)(s:Sp)(v:Value):Prop:=
 s.ok∧Row w p 83 (F8 s v)∧w.ownsRow 0 80 2 v s.fr.length (AE s.fr)∧∀k,G k↔k=p∨v.ownBlock=some k
theorem kz.apart{w:World}{G:Nat→Prop}{p:Nat}{s:Sp}{v:Value}(h:kz w G p s v):v.ownBlock≠some p:=by
 intro e
 obtain⟨cs,hc⟩:=Ni h.2.2.1 e
 have hr:=h.2.1
 unfold Row at hr hc;rw[hr]at hc;injection hc with hc;injection hc with _ hc;exact absurd hc (by decide)
theorem Bg{w w5 w6:World}{G:Nat→Prop}{p:Nat}{s:Sp}{v:Value}{R:List Ex}{e:Ending}(h:kz w G p s v)(hb:Below w.heap.size w w5)(hg:Et w5 v R e w6):Row w6 p 83 (F8 s v):=by
 obtain⟨v',_,_,hf,_⟩:=hg
 exact hf.row (h.2.1.below hb h.2.1.lt) h.apart
theorem DG{w w5 w6:World}{G:Nat→Prop}{p:Nat}{s:Sp}{v v':Value}{R:List Ex}(h:kz w G p s v)(hb:Below w.heap.size w w5)(hg:Et w5 v R (.returned v') w6)(hok:({s with fr:=R}:Sp).ok):
  ∃G',Es (w6.setCell ⟨p,2,none⟩ v') G' p {s with fr:=R}∧AL G w (w6.setCell ⟨p,2,none⟩ v')∧∀k,G' k→G k∨w.heap.size≤k:=by
 have Ez:=Bg h hb hg
 obtain⟨v2,e,ho,hf,hk⟩:=hg
 injection e with e;subst e
 have hne:v'.ownBlock≠some p:=by
  intro e
  obtain⟨cs,hc⟩:=Ni ho e
  unfold Row at Ez hc;rw[Ez]at hc;injection hc with hc;injection hc with _ hc;exact absurd hc (by decide)
 have Km:AL (fun k=>k=p) w6 (w6.setCell ⟨p,2,none⟩ v'):=(AL.refl (fun k=>k=p) w6).set (p:=⟨p,2,none⟩) (.inl rfl) v'
 refine⟨fun k=>k=p∨v'.ownBlock=some k,⟨hok,v',Ez.set 2 v',Nj ho Km fun k E0 e=>hne (by rw[E0,e]),fun k=>Iff.rfl⟩,?_,fun k E0=>?_⟩
 ·refine((AL.AJ hb G).trans hf fun k E0=>.inl ((h.2.2.2 k).2 (.inr E0))).trans Km fun k E0=>.inl ((h.2.2.2 k).2 (.inl E0))
 ·rcases E0 with rfl|E0
  ·exact .inl ((h.2.2.2 k).2 (.inl rfl))
  ·rcases hk k E0 with h1|h1
   ·exact .inl ((h.2.2.2 k).2 (.inr h1))
   ·exact .inr (Nat.le_trans hb.size h1)
theorem iR{w w':World}{x y a b:Value}(h:Below (w.heap.size+2) ((w.alloc (.cells #[x,y] 80)).alloc (.cells #[a,b] 80)) w'):
  w'.cell? ⟨w.heap.size,0,none⟩=some x∧w'.cell? ⟨w.heap.size,1,none⟩=some y∧w'.cell? ⟨w.heap.size+1,0,none⟩=some a∧w'.cell? ⟨w.heap.size+1,1,none⟩=some b:=by
 have r1:Row (w.alloc (.cells #[x,y] 80)) w.heap.size 80 [x,y]:=heap_alloc_new _ _
 have r2:Row ((w.alloc (.cells #[x,y] 80)).alloc (.cells #[a,b] 80)) (w.heap.size+1) 80 [a,b]:=by
  have:=heap_alloc_new (w.alloc (.cells #[x,y] 80)) (.cells #[a,b] 80)
  rw[World.size_alloc]at this
  exact this
 have rD:=(r1.alloc (.cells #[a,b] 80)).below h (by omega)
 have rC:=r2.below h (by omega)
 exact⟨rD.cell 0,rD.cell 1,rC.cell 0,rC.cell 1⟩
theorem aT{w:World}{t:TypeId}{a b k:Nat}(hk:w.heap.size=k):∀j v,(AE [(a,b)])[j]?=some v→(w.alloc (.cells #[.int .i64 a,.int .i64 b] t)).cell? ((⟨k,0,none⟩:Addr).add j)=some v:=by
 subst hk
 intro j v hj
 have r1:Row (w.alloc (.cells #[.int .i64 a,.int .i64 b] t)) w.heap.size t [.int .i64 a,.int .i64 b]:=heap_alloc_new _ _
 rw[Addr.add_lit,Nat.zero_add,r1.cell];exact hj
theorem Gk{w w':World}{B:Nat}{v:Value}{n:Nat}{xs:List Value}(h:w.ownsRow B 80 2 v n xs)(hb:Below w.heap.size w w'):w'.ownsRow B 80 2 v n xs:=by
 obtain⟨h1,h2⟩:=h
 refine⟨h1,?_⟩
 rcases h2 with h2|⟨g,cap,cur,rfl,hg,hh,r⟩
 ·exact .inl h2
 ·exact .inr ⟨g,cap,cur,rfl,hg,(hb.block g (Array.getElem?_eq_some_iff.1 hh).1).trans hh,r⟩
section
variable {w w1 w2 : World} {x y a b u : Value} {m : Nat} {l : List Value}
abbrev S6 (w:World) (x y a b u:Value) (m:Nat) (l:List Value) (w1:World):Prop:=
 Below (w.heap.size+2) ((w.alloc (.cells #[x,y] 80)).alloc (.cells #[a,b] 80)) w1∧w1.ownsRow (w.heap.size+2) 80 2 u m l∧w.heap.size+2≤w1.heap.size∧w1.cell? ⟨w.heap.size,0,none⟩=some x∧w1.cell? ⟨w.heap.size,1,none⟩=some y∧w1.cell? ⟨w.heap.size+1,0,none⟩=some a∧w1.cell? ⟨w.heap.size+1,1,none⟩=some b
theorem jl(h:Below (w.heap.size+2) ((w.alloc (.cells #[x,y] 80)).alloc (.cells #[a,b] 80)) w1)(ho:w1.ownsRow (w.heap.size+2) 80 2 u m l)(hs:w.heap.size+2≤w1.heap.size):S6 w x y a b u m l w1:=by
 obtain⟨k0,k1,k2,k3⟩:=iR h
 exact⟨h,ho,hs,k0,k1,k2,k3⟩
theorem MA{w3 w4:World}(h:Below (w.heap.size+2) ((w.alloc (.cells #[x,y] 80)).alloc (.cells #[a,b] 80)) w3)(hb:Below w3.heap.size w3 w4):
  Below w3.heap.size w3 w4∧w4.cell? ⟨w.heap.size,0,none⟩=some x∧w4.cell? ⟨w.heap.size,1,none⟩=some y∧w4.cell? ⟨w.heap.size+1,0,none⟩=some a∧w4.cell? ⟨w.heap.size+1,1,none⟩=some b:=by
 obtain⟨k0,k1,k2,k3⟩:=iR (h.trans (hb.mono (by have:=h.size;simp at this;omega)))
 exact⟨hb,k0,k1,k2,k3⟩
theorem Q5(h:Below (w.heap.size+2) ((w.alloc (.cells #[x,y] 80)).alloc (.cells #[a,b] 80)) w1)(ho:w1.ownsRow (w.heap.size+2) 80 2 u m l)(hs:w.heap.size+2≤w1.heap.size)(hb:Below w1.heap.size w1 w2):S6 w x y a b u m l w2:=
 jl (h.trans (hb.mono hs)) (Gk ho hb) (Nat.le_trans hs hb.size)
theorem SR(h:Below (w.heap.size+2) ((w.alloc (.cells #[x,y] 80)).alloc (.cells #[a,b] 80)) w1)(ho:w1.ownsRow (w.heap.size+2) 80 2 u m l)(hs:w.heap.size+2≤w1.heap.size)(o:Obj):S6 w x y a b u m l (w1.alloc o):=
 Q5 h ho hs ((Below.refl _ _).alloc (Nat.le_refl _) o)
theorem Zx(h:Below (w.heap.size+2) ((w.alloc (.cells #[x,y] 80)).alloc (.cells #[a,b] 80)) w1)(ho:w1.ownsRow (w.heap.size+2) 80 2 u m l)(hs:w.heap.size+2≤w1.heap.size)(hk:w2.ownsRow (w.heap.size+2) 80 2 u m l)(hg:w1.grownBy w2 u.ownBlock):S6 w x y a b u m l w2:=
 jl (h.grown hg hs fun k hk=>(ho.lt k hk).1) hk (Nat.le_trans hs hg.size)
end
theorem Wb(p:Nat)(s:Sp)(G:Nat→Prop)(i f n':Nat)(w:World)(h:Es w G p s)(hi:i<s.fr.length)(h1:(Ae s.fr i).1≤f)(h2:f+n'≤(Ae s.fr i).1+(Ae s.fr i).2)(hn:1≤n'):
  Calls Tryz.prog 91 #[.pointer (some ⟨p,0,none⟩),.int .i64 i,.agg #[.int .i64 f,.int .i64 n']] w fun e w'=>∃G',e=.returned (.tuple #[])∧Es w' G' p {s with fr:=IE s.fr i f n'}∧AL G w w'∧∀k,G' k→G k∨w.heap.size≤k:=by
 obtain⟨hok,v,hr,ho,hG⟩:=h
 obtain⟨i0,B7,By,hz,TF⟩:=CZ
 obtain⟨A,c,rfl,hnc,Dn,_⟩:=AT ho
 have GF:=Tg hok.2.2 hi h1 h2 hn
 have N8:=hok.2.2.getD hi
 have Mf:s.first+s.blocks≤4000000:=by have:=hok.1;have:=hok.2.1;omega
 have hlen:=hok.len
 have c2:w.cell? ⟨p,2,none⟩=some (.slice A s.fr.length c):=hr.cell 2
 have Bm:=hr.lt
 obtain⟨g,rfl,hg,IM,Hh⟩:=EI ho hi
 obtain⟨A,hA⟩:∃A:Option Addr,A=some ⟨g,0,none⟩:=⟨_,rfl⟩
 obtain⟨N,hN⟩:∃N,N=s.fr.length:=⟨_,rfl⟩
 have H0:kz w G p s (.slice (some ⟨g,0,none⟩) N c):=by subst hN;exact⟨hok,hr,ho,hG⟩
 obtain⟨R,hR⟩:∃R,R=IE s.fr i f n':=⟨_,rfl⟩
 have pG:Hid (({s with fr:=IE s.fr i f n'}:Sp).ok):=⟨hok.1,hok.2.1,GF.1⟩
 unfold IE at hR
 rw[←hN]at c2 hi hlen
 obtain⟨a,ha⟩:∃a,(Ae s.fr i).1=a:=⟨_,rfl⟩
 obtain⟨b,hb⟩:∃b,(Ae s.fr i).2=b:=⟨_,rfl⟩
 have hx:Ae s.fr i=(a,b):=Prod.ext ha hb
 rw[hx]at hR
 rw[ha,hb]at h2 N8
 rw[ha]at h1 IM
 rw[hb]at Hh
 have hcut:IE s.fr i f n'=R:=by unfold IE;rw[hx,hR]
 rw[hcut]at pG⊢
 have DY:=pG
 have HA:=Lib.hid hA
 subst hA
 have H:=Lib.hid H0
 have HN:Hid (i<N∧N≤1000000∧s.fr.length=N):=⟨hi,hlen,hN.symm⟩
 have W0:=Lib.hid B7
 obtain⟨u1,rQ⟩:∃u,f+n'=u:=⟨_,rfl⟩
 obtain⟨u2,Ew⟩:∃u,a+b=u:=⟨_,rfl⟩
 have dm:Hid (∀W,Calls Tryz.prog 96 #[.agg #[.int .i64 f,.int .i64 n']] W fun e w'=>e=.returned (.int .i64 (u1:Nat))∧Below W.heap.size W w'):=fun W=>by have:=EO f n' W (by omega);rwa [rQ]at this
 have Mn:Hid (∀W,Calls Tryz.prog 96 #[.agg #[.int .i64 a,.int .i64 b]] W fun e w'=>e=.returned (.int .i64 (u2:Nat))∧Below W.heap.size W w'):=fun W=>by have:=EO a b W (by omega);rwa [Ew]at this
 have AD6:u1≤u2:=by omega
 have AD5:u2≤4000000:=by omega
 have Pz:f≤4000000:=by omega
 have xX:(0:Int)≤(i:Int):=by omega
 have xW:(i:Int)<(N:Int):=by omega
 have hiw:IntKind.i64.wrap ((i:Int)+1)=(i:Int)+1:=IntWalk.i64_in _ (by omega)
 have jA:=Lib.hid hR
 have HU:=Lib.hid rQ
 have PR:=Lib.hid Ew
 clear GF N8 hok hr ho hG H0 hN ha hb hx hcut pG hR B7 rQ Ew Mf
 by_cases hl:a<f
 ·obtain⟨q,hq⟩:∃q,f-a=q:=⟨_,rfl⟩
  have Fc:(f:Int)-(a:Int)=(q:Int):=by omega
  have hqw:IntKind.i64.wrap (q:Int)=(q:Int):=IntWalk.i64_in _ (by omega)
  have gl:decide ((a:Int)<(f:Int))=true:=by simp;omega
  have gl2:decide (a<f)=true:=by simp;omega
  have HQ:=Lib.hid hq
  have HL:Hid (a<f):=hl
  clear hq
  go_enter Tryz.func91,Tryz.ntmps91
  go_wp2_with (with_reducible refine BN 30 ?_)
  unfold Hid
  refine wpList_append_own_at _ rfl _ _ 81 rfl (w.heap.size+2) 80 i0 _ 2 16 Tryz.underlying81 W0.out By hz TF rfl (by decide) _ 0 [] rfl (World.ownsRow_nil _ _ _ _) ⟨w.heap.size+2,0,none⟩ 1 1 (AE [(a,q)]) rfl rfl (aT (by simp)) BI (by decide) (by decide) (by simp) ?_
  intro v1 w3 vp Em _ _
  rw[List.nil_append]at vp
  have BM:Hid (Below (w.heap.size+2) ((w.alloc (.cells #[.int .i64 f,.int .i64 n'] 80)).alloc (.cells #[.int .i64 a,.int .i64 b] 80)) w3):=((Below.refl _ _).alloc (by simp) _).grown Em (by simp) fun k hk=>by cases hk
  have lD:=Lib.hid vp
  obtain⟨B1,d1,rfl⟩:∃B1 d1,v1=.slice B1 1 d1:=by
   obtain⟨B1,d1,h1,_⟩:=AT (ED vp (Nat.zero_le _));exact⟨B1,d1,h1⟩
  clear vp Em
  go_wp2
  have MQ:Hid (Below w.heap.size w w3):=(((Below.refl w.heap.size w).alloc (Nat.le_refl _) _).alloc (by simp) _).trans (BM.out.mono (by omega))
  by_cases WJ:u1<u2
  ·skip
   have gr:decide ((u1:Int)<(u2:Int))=true:=by simp;omega
   have zj:decide (u1<u2)=true:=by simp;omega
   obtain⟨t,ht⟩:∃t,u2-u1=t:=⟨_,rfl⟩
   have rU:(u2:Int)-(u1:Int)=(t:Int):=by omega
   have htw:IntKind.i64.wrap (t:Int)=(t:Int):=IntWalk.i64_in _ (by omega)
   have HT:=Lib.hid ht
   clear ht
   have HR:Hid (s.fr.take i++([(a,q)]++[(u1,t)])++s.fr.drop (i+1)=R):=by
    unfold Hid;rw[jA.out];unfold Il;dsimp only;rw[if_pos HL.out,if_pos (by rw[HU.out];have:=PR.out;omega)];rw[HQ.out];rw[HU.out,PR.out,HT.out]
   have Mw:w.heap.size+2≤w3.heap.size:=by have:=BM.out.size;simp at this;omega
   go_region_held3 (fun w'=>Below w3.heap.size w3 w'∧w'.cell? ⟨w.heap.size,0,none⟩=some (.int .i64 f)∧w'.cell? ⟨w.heap.size,1,none⟩=some (.int .i64 n')∧w'.cell? ⟨w.heap.size+1,0,none⟩=some (.int .i64 a)∧w'.cell? ⟨w.heap.size+1,1,none⟩=some (.int .i64 b))
    (first
     |(exact MA BM.out (AF (Below.refl _ _) 1))
     |(exact MA BM.out hacc))
    ((go_split_ands;go_at_call 96;(first|(with_reducible refine(dm.out _).mono ?_)|(with_reducible refine(Mn.out _).mono ?_));rintro e w4 ⟨rfl,A8⟩;have hacc:Below w3.heap.size w3 w4:=Below.trans (by assumption) (Below.mono A8 (Below.size (by assumption)))))
   have Ol:=Lib.hid hacc
   clear hacc
   have rP:w4.ownsRow (w.heap.size+2) 80 2 (.slice B1 1 d1) 1 (AE [(a,q)]):=Gk lD.out Ol.out
   have Dp:Below (w.heap.size+2) ((w.alloc (.cells #[.int .i64 f,.int .i64 n'] 80)).alloc (.cells #[.int .i64 a,.int .i64 b] 80)) w4:=BM.out.trans (Ol.out.mono Mw)
   obtain⟨m0,m1,m2,m3⟩:=iR Dp
   have TH:w.heap.size+2≤w4.heap.size:=by have:=Dp.size;simp at this;omega
   have I9:=Lib.hid Dp
   have HU4:=Lib.hid rP
   clear Dp rP
   go_wp2
   go_region_held3 (fun w'=>Below (w.heap.size+2) ((w.alloc (.cells #[.int .i64 f,.int .i64 n'] 80)).alloc (.cells #[.int .i64 a,.int .i64 b] 80)) w'∧w'.ownsRow (w.heap.size+2) 80 2 (.slice B1 1 d1) 1 (AE [(a,q)])∧w.heap.size+2≤w'.heap.size∧w'.cell? ⟨w.heap.size,0,none⟩=some (.int .i64 f)∧w'.cell? ⟨w.heap.size,1,none⟩=some (.int .i64 n')∧w'.cell? ⟨w.heap.size+1,0,none⟩=some (.int .i64 a)∧w'.cell? ⟨w.heap.size+1,1,none⟩=some (.int .i64 b))
    (first
     |(exact⟨AF I9.out 1,HU4.out,TH,m0,m1,m2,m3⟩)
     |(exact hacc)
     |(go_split_ands;exact SR (by assumption) (by assumption) (by assumption) _)
     |(exact OD))
    (first
     |(go_split_ands;go_at_call 96;(first|(with_reducible refine(dm.out _).mono ?_)|(with_reducible refine(Mn.out _).mono ?_));rintro e w5 ⟨rfl,A8⟩;have hacc:=Q5 (by assumption) (by assumption) (by assumption) A8)
     |(go_split_ands;refine Gh rfl _ _ 81 rfl (w.heap.size+2) 80 i0 _ 2 16 Tryz.underlying81 W0.out By hz TF rfl (by decide) (.slice B1 1 d1) 1 (AE [(a,q)]) (by first|rfl|simp) (by assumption) _ 1 1 (AE [(u1,t)]) (by first|rfl|simp) rfl (aT (by first|rfl|simp)) BI (by decide) (by decide) (by assumption) ?_;intro v5 w5 YL sY nN;have OD:=Zx (by assumption) (by assumption) (by assumption) nN sY))
   generalize yU:1+1=m5 at YL
   have yT:m5≤2:=by omega
   rw[←Aj]at YL
   obtain⟨B5,d5,rfl⟩:∃B5 d5,v5=.slice B5 m5 d5:=by
    obtain⟨B5,d5,h1,_⟩:=AT (ED YL.out (Nat.zero_le _));exact⟨B5,d5,h1⟩
   have oX:Hid (w5.ownsRow 0 80 2 (.slice B5 m5 d5) m5 (AE ([(a,q)]++[(u1,t)]))):=ED YL.out (Nat.zero_le _)
   have IP:Hid (∀k,(Value.slice B5 m5 d5).ownBlock=some k→w.heap.size≤k):=fun k hk=>by have:=(YL.out.lt k hk).1;omega
   have BQ:Hid (Below w.heap.size w w5):=(((Below.refl w.heap.size w).alloc (Nat.le_refl _) _).alloc (by simp) _).trans (OD.1.mono (by omega))
   clear yU YL OD sY nN hacc m0 m1 m2 m3 TH
   have N5:=At H.out.2.2.1 BQ.out
   have Jx:Row w5 p 83 (F8 s (.slice (some ⟨g,0,none⟩) N c)):=H.out.2.1.below BQ.out Bm
   have BF:=BH w5 (i:=i) (j:=i+1) N5 oX.out (fun k hk e=>by have h1:=(H.out.2.2.1.lt k hk).2;have h2:=IP.out k e;omega) (by omega) (by have:=HN.out;omega) (by omega) (by have:=HN.out;omega)
   have hR:s.fr.take i++([(a,q)]++[(u1,t)])++s.fr.drop (i+1)=R:=HR.out
   rw[hR]at BF
   have Iy:((i+1:Nat):Int)=(i:Int)+1:=by omega
   rw[Iy]at BF
   have CE:=Lib.hid BF
   have c5:w5.cell? ⟨p,2,none⟩=some (.slice (some ⟨g,0,none⟩) N c):=Jx.cell 2
   have HC:Hid (∀v' w6,Et w5 (.slice (some ⟨g,0,none⟩) N c) R (.returned v') w6→∃G',Es (w6.setCell ⟨p,2,none⟩ v') G' p {s with fr:=R}∧AL G w (w6.setCell ⟨p,2,none⟩ v')∧∀k,G' k→G k∨w.heap.size≤k):=fun v' w6 hg=>DG H.out BQ.out hg DY.out
   have GY:Hid (∀v' w6,Et w5 (.slice (some ⟨g,0,none⟩) N c) R (.returned v') w6→w6.cell? ⟨p,2,none⟩=some (.slice (some ⟨g,0,none⟩) N c)∧w6.frozen? ⟨p,2,none⟩=false):=fun v' w6 hg=>by have:=Bg H.out BQ.out hg;exact⟨this.cell 2,this.free 2⟩
   have nD:p<w5.heap.size:=Jx.lt
   clear BF N5 Jx hR Iy
   go_wp2_with fail
   refine CE.out.mono ?_
   rintro e w6 hg
   obtain⟨v',rfl,Em,CP,D7⟩:=id hg
   have HX:=Lib.hid (HC.out v' w6 hg)
   obtain⟨c6,f6⟩:=GY.out v' w6 hg
   obtain⟨A',c',rfl,_,_,_⟩:=AT Em
   clear hg Em CP D7
   go_wp2
   go_end0
   obtain⟨G',h1,h2,h3⟩:=HX.out
   exact⟨G',rfl,h1,h2,h3⟩
  ·skip
   have gr:decide ((u1:Int)<(u2:Int))=false:=by simp;omega
   have zj:decide (u1<u2)=false:=by simp;omega
   have HR:Hid (s.fr.take i++([(a,q)]++[])++s.fr.drop (i+1)=R):=by
    unfold Hid;rw[jA.out];unfold Il;dsimp only;rw[if_pos HL.out,if_neg (by rw[HU.out];have:=PR.out;omega)];rw[HQ.out]
   have Mw:w.heap.size+2≤w3.heap.size:=by have:=BM.out.size;simp at this;omega
   go_region_held3 (fun w'=>Below w3.heap.size w3 w'∧w'.cell? ⟨w.heap.size,0,none⟩=some (.int .i64 f)∧w'.cell? ⟨w.heap.size,1,none⟩=some (.int .i64 n')∧w'.cell? ⟨w.heap.size+1,0,none⟩=some (.int .i64 a)∧w'.cell? ⟨w.heap.size+1,1,none⟩=some (.int .i64 b))
    (first
     |(exact MA BM.out (AF (Below.refl _ _) 1))
     |(exact MA BM.out hacc))
    ((go_split_ands;go_at_call 96;(first|(with_reducible refine(dm.out _).mono ?_)|(with_reducible refine(Mn.out _).mono ?_));rintro e w4 ⟨rfl,A8⟩;have hacc:Below w3.heap.size w3 w4:=Below.trans (by assumption) (Below.mono A8 (Below.size (by assumption)))))
   have Ol:=Lib.hid hacc
   clear hacc
   have oX:Hid (w4.ownsRow 0 80 2 (.slice B1 1 d1) 1 (AE ([(a,q)]++[]))):=by unfold Hid;rw[List.append_nil];exact ED (Gk lD.out Ol.out) (Nat.zero_le _)
   have IP:Hid (∀k,(Value.slice B1 1 d1).ownBlock=some k→w.heap.size≤k):=fun k hk=>by have:=(lD.out.lt k hk).1;omega
   have BQ:Hid (Below w.heap.size w w4):=MQ.out.trans (Ol.out.mono (by omega))
   generalize w4=w5 at*
   have N5:=At H.out.2.2.1 BQ.out
   have Jx:Row w5 p 83 (F8 s (.slice (some ⟨g,0,none⟩) N c)):=H.out.2.1.below BQ.out Bm
   have BF:=BH w5 (i:=i) (j:=i+1) N5 oX.out (fun k hk e=>by have h1:=(H.out.2.2.1.lt k hk).2;have h2:=IP.out k e;omega) (by omega) (by have:=HN.out;omega) (by omega) (by have:=HN.out;omega)
   have hR:s.fr.take i++([(a,q)]++[])++s.fr.drop (i+1)=R:=HR.out
   rw[hR]at BF
   have Iy:((i+1:Nat):Int)=(i:Int)+1:=by omega
   rw[Iy]at BF
   have CE:=Lib.hid BF
   have c5:w5.cell? ⟨p,2,none⟩=some (.slice (some ⟨g,0,none⟩) N c):=Jx.cell 2
   have HC:Hid (∀v' w6,Et w5 (.slice (some ⟨g,0,none⟩) N c) R (.returned v') w6→∃G',Es (w6.setCell ⟨p,2,none⟩ v') G' p {s with fr:=R}∧AL G w (w6.setCell ⟨p,2,none⟩ v')∧∀k,G' k→G k∨w.heap.size≤k):=fun v' w6 hg=>DG H.out BQ.out hg DY.out
   have GY:Hid (∀v' w6,Et w5 (.slice (some ⟨g,0,none⟩) N c) R (.returned v') w6→w6.cell? ⟨p,2,none⟩=some (.slice (some ⟨g,0,none⟩) N c)∧w6.frozen? ⟨p,2,none⟩=false):=fun v' w6 hg=>by have:=Bg H.out BQ.out hg;exact⟨this.cell 2,this.free 2⟩
   have nD:p<w5.heap.size:=Jx.lt
   clear BF N5 Jx hR Iy
   go_wp2_with fail
   refine CE.out.mono ?_
   rintro e w6 hg
   obtain⟨v',rfl,Em,CP,D7⟩:=id hg
   have HX:=Lib.hid (HC.out v' w6 hg)
   obtain⟨c6,f6⟩:=GY.out v' w6 hg
   obtain⟨A',c',rfl,_,_,_⟩:=AT Em
   clear hg Em CP D7
   go_wp2
   go_end0
   obtain⟨G',h1,h2,h3⟩:=HX.out
   exact⟨G',rfl,h1,h2,h3⟩
 ·have gl:decide ((a:Int)<(f:Int))=false:=by simp;omega
  have gl2:decide (a<f)=false:=by simp;omega
  have HL:Hid (¬a<f):=hl
  have BM:Hid (Below (w.heap.size+2) ((w.alloc (.cells #[.int .i64 f,.int .i64 n'] 80)).alloc (.cells #[.int .i64 a,.int .i64 b] 80)) ((w.alloc (.cells #[.int .i64 f,.int .i64 n'] 80)).alloc (.cells #[.int .i64 a,.int .i64 b] 80))):=Below.refl _ _
  have lD:Hid (((w.alloc (.cells #[.int .i64 f,.int .i64 n'] 80)).alloc (.cells #[.int .i64 a,.int .i64 b] 80)).ownsRow (w.heap.size+2) 80 2 (.slice none 0 0) 0 (AE [])):=World.ownsRow_nil _ _ _ _
  go_enter Tryz.func91,Tryz.ntmps91
  go_wp2
  generalize M4:(w.alloc (.cells #[.int .i64 f,.int .i64 n'] 80)).alloc (.cells #[.int .i64 a,.int .i64 b] 80)=w3 at lD⊢
  have BM:Hid (Below (w.heap.size+2) ((w.alloc (.cells #[.int .i64 f,.int .i64 n'] 80)).alloc (.cells #[.int .i64 a,.int .i64 b] 80)) w3):=M4▸BM.out
  clear M4
  have MQ:Hid (Below w.heap.size w w3):=(((Below.refl w.heap.size w).alloc (Nat.le_refl _) _).alloc (by simp) _).trans (BM.out.mono (by omega))
  by_cases WJ:u1<u2
  ·skip
   have gr:decide ((u1:Int)<(u2:Int))=true:=by simp;omega
   have zj:decide (u1<u2)=true:=by simp;omega
   obtain⟨t,ht⟩:∃t,u2-u1=t:=⟨_,rfl⟩
   have rU:(u2:Int)-(u1:Int)=(t:Int):=by omega
   have htw:IntKind.i64.wrap (t:Int)=(t:Int):=IntWalk.i64_in _ (by omega)
   have HT:=Lib.hid ht
   clear ht
   have HR:Hid (s.fr.take i++([]++[(u1,t)])++s.fr.drop (i+1)=R):=by
    unfold Hid;rw[jA.out];unfold Il;dsimp only;rw[if_neg HL.out,if_pos (by rw[HU.out];have:=PR.out;omega)];rw[HU.out,PR.out,HT.out]
   have Mw:w.heap.size+2≤w3.heap.size:=by have:=BM.out.size;simp at this;omega
   go_region_held3 (fun w'=>Below w3.heap.size w3 w'∧w'.cell? ⟨w.heap.size,0,none⟩=some (.int .i64 f)∧w'.cell? ⟨w.heap.size,1,none⟩=some (.int .i64 n')∧w'.cell? ⟨w.heap.size+1,0,none⟩=some (.int .i64 a)∧w'.cell? ⟨w.heap.size+1,1,none⟩=some (.int .i64 b))
    (first
     |(exact MA BM.out (AF (Below.refl _ _) 1))
     |(exact MA BM.out hacc))
    ((go_split_ands;go_at_call 96;(first|(with_reducible refine(dm.out _).mono ?_)|(with_reducible refine(Mn.out _).mono ?_));rintro e w4 ⟨rfl,A8⟩;have hacc:Below w3.heap.size w3 w4:=Below.trans (by assumption) (Below.mono A8 (Below.size (by assumption)))))
   have Ol:=Lib.hid hacc
   clear hacc
   have rP:w4.ownsRow (w.heap.size+2) 80 2 (.slice none 0 0) 0 (AE []):=Gk lD.out Ol.out
   have Dp:Below (w.heap.size+2) ((w.alloc (.cells #[.int .i64 f,.int .i64 n'] 80)).alloc (.cells #[.int .i64 a,.int .i64 b] 80)) w4:=BM.out.trans (Ol.out.mono Mw)
   obtain⟨m0,m1,m2,m3⟩:=iR Dp
   have TH:w.heap.size+2≤w4.heap.size:=by have:=Dp.size;simp at this;omega
   have I9:=Lib.hid Dp
   have HU4:=Lib.hid rP
   clear Dp rP
   go_wp2
   go_region_held3 (fun w'=>Below (w.heap.size+2) ((w.alloc (.cells #[.int .i64 f,.int .i64 n'] 80)).alloc (.cells #[.int .i64 a,.int .i64 b] 80)) w'∧w'.ownsRow (w.heap.size+2) 80 2 (.slice none 0 0) 0 (AE [])∧w.heap.size+2≤w'.heap.size∧w'.cell? ⟨w.heap.size,0,none⟩=some (.int .i64 f)∧w'.cell? ⟨w.heap.size,1,none⟩=some (.int .i64 n')∧w'.cell? ⟨w.heap.size+1,0,none⟩=some (.int .i64 a)∧w'.cell? ⟨w.heap.size+1,1,none⟩=some (.int .i64 b))
    (first
     |(exact⟨AF I9.out 1,HU4.out,TH,m0,m1,m2,m3⟩)
     |(exact hacc)
     |(go_split_ands;exact SR (by assumption) (by assumption) (by assumption) _)
     |(exact OD))
    (first
     |(go_split_ands;go_at_call 96;(first|(with_reducible refine(dm.out _).mono ?_)|(with_reducible refine(Mn.out _).mono ?_));rintro e w5 ⟨rfl,A8⟩;have hacc:=Q5 (by assumption) (by assumption) (by assumption) A8)
     |(go_split_ands;refine Gh rfl _ _ 81 rfl (w.heap.size+2) 80 i0 _ 2 16 Tryz.underlying81 W0.out By hz TF rfl (by decide) (.slice none 0 0) 0 (AE []) (by first|rfl|simp) (by assumption) _ 1 1 (AE [(u1,t)]) (by first|rfl|simp) rfl (aT (by first|rfl|simp)) BI (by decide) (by decide) (by assumption) ?_;intro v5 w5 YL sY nN;have OD:=Zx (by assumption) (by assumption) (by assumption) nN sY))
   generalize yU:0+1=m5 at YL
   have yT:m5≤2:=by omega
   rw[←Aj]at YL
   obtain⟨B5,d5,rfl⟩:∃B5 d5,v5=.slice B5 m5 d5:=by
    obtain⟨B5,d5,h1,_⟩:=AT (ED YL.out (Nat.zero_le _));exact⟨B5,d5,h1⟩
   have oX:Hid (w5.ownsRow 0 80 2 (.slice B5 m5 d5) m5 (AE ([]++[(u1,t)]))):=ED YL.out (Nat.zero_le _)
   have IP:Hid (∀k,(Value.slice B5 m5 d5).ownBlock=some k→w.heap.size≤k):=fun k hk=>by have:=(YL.out.lt k hk).1;omega
   have BQ:Hid (Below w.heap.size w w5):=(((Below.refl w.heap.size w).alloc (Nat.le_refl _) _).alloc (by simp) _).trans (OD.1.mono (by omega))
   clear yU YL OD sY nN hacc m0 m1 m2 m3 TH
   have N5:=At H.out.2.2.1 BQ.out
   have Jx:Row w5 p 83 (F8 s (.slice (some ⟨g,0,none⟩) N c)):=H.out.2.1.below BQ.out Bm
   have BF:=BH w5 (i:=i) (j:=i+1) N5 oX.out (fun k hk e=>by have h1:=(H.out.2.2.1.lt k hk).2;have h2:=IP.out k e;omega) (by omega) (by have:=HN.out;omega) (by omega) (by have:=HN.out;omega)
   have hR:s.fr.take i++([]++[(u1,t)])++s.fr.drop (i+1)=R:=HR.out
   rw[hR]at BF
   have Iy:((i+1:Nat):Int)=(i:Int)+1:=by omega
   rw[Iy]at BF
   have CE:=Lib.hid BF
   have c5:w5.cell? ⟨p,2,none⟩=some (.slice (some ⟨g,0,none⟩) N c):=Jx.cell 2
   have HC:Hid (∀v' w6,Et w5 (.slice (some ⟨g,0,none⟩) N c) R (.returned v') w6→∃G',Es (w6.setCell ⟨p,2,none⟩ v') G' p {s with fr:=R}∧AL G w (w6.setCell ⟨p,2,none⟩ v')∧∀k,G' k→G k∨w.heap.size≤k):=fun v' w6 hg=>DG H.out BQ.out hg DY.out
   have GY:Hid (∀v' w6,Et w5 (.slice (some ⟨g,0,none⟩) N c) R (.returned v') w6→w6.cell? ⟨p,2,none⟩=some (.slice (some ⟨g,0,none⟩) N c)∧w6.frozen? ⟨p,2,none⟩=false):=fun v' w6 hg=>by have:=Bg H.out BQ.out hg;exact⟨this.cell 2,this.free 2⟩
   have nD:p<w5.heap.size:=Jx.lt
   clear BF N5 Jx hR Iy
   go_wp2_with fail
   refine CE.out.mono ?_
   rintro e w6 hg
   obtain⟨v',rfl,Em,CP,D7⟩:=id hg
   have HX:=Lib.hid (HC.out v' w6 hg)
   obtain⟨c6,f6⟩:=GY.out v' w6 hg
   obtain⟨A',c',rfl,_,_,_⟩:=AT Em
   clear hg Em CP D7
   go_wp2
   go_end0
   obtain⟨G',h1,h2,h3⟩:=HX.out
   exact⟨G',rfl,h1,h2,h3⟩
  ·skip
   have gr:decide ((u1:Int)<(u2:Int))=false:=by simp;omega
   have zj:decide (u1<u2)=false:=by simp;omega
   have HR:Hid (s.fr.take i++([]++[])++s.fr.drop (i+1)=R):=by
    unfold Hid;rw[jA.out];unfold Il;dsimp only;rw[if_neg HL.out,if_neg (by rw[HU.out];have:=PR.out;omega)]
   have Mw:w.heap.size+2≤w3.heap.size:=by have:=BM.out.size;simp at this;omega
   go_region_held3 (fun w'=>Below w3.heap.size w3 w'∧w'.cell? ⟨w.heap.size,0,none⟩=some (.int .i64 f)∧w'.cell? ⟨w.heap.size,1,none⟩=some (.int .i64 n')∧w'.cell? ⟨w.heap.size+1,0,none⟩=some (.int .i64 a)∧w'.cell? ⟨w.heap.size+1,1,none⟩=some (.int .i64 b))
    (first
     |(exact MA BM.out (AF (Below.refl _ _) 1))
     |(exact MA BM.out hacc))
    ((go_split_ands;go_at_call 96;(first|(with_reducible refine(dm.out _).mono ?_)|(with_reducible refine(Mn.out _).mono ?_));rintro e w4 ⟨rfl,A8⟩;have hacc:Below w3.heap.size w3 w4:=Below.trans (by assumption) (Below.mono A8 (Below.size (by assumption)))))
   have Ol:=Lib.hid hacc
   clear hacc
   have oX:Hid (w4.ownsRow 0 80 2 (.slice none 0 0) 0 (AE ([]++[]))):=by unfold Hid;rw[List.append_nil];exact ED (Gk lD.out Ol.out) (Nat.zero_le _)
   have IP:Hid (∀k,(Value.slice none 0 0).ownBlock=some k→w.heap.size≤k):=fun k hk=>by have:=(lD.out.lt k hk).1;omega
   have BQ:Hid (Below w.heap.size w w4):=MQ.out.trans (Ol.out.mono (by omega))
   generalize w4=w5 at*
   have N5:=At H.out.2.2.1 BQ.out
   have Jx:Row w5 p 83 (F8 s (.slice (some ⟨g,0,none⟩) N c)):=H.out.2.1.below BQ.out Bm
   have BF:=BH w5 (i:=i) (j:=i+1) N5 oX.out (fun k hk e=>by have h1:=(H.out.2.2.1.lt k hk).2;have h2:=IP.out k e;omega) (by omega) (by have:=HN.out;omega) (by omega) (by have:=HN.out;omega)
   have hR:s.fr.take i++([]++[])++s.fr.drop (i+1)=R:=HR.out
   rw[hR]at BF
   have Iy:((i+1:Nat):Int)=(i:Int)+1:=by omega
   rw[Iy]at BF
   have CE:=Lib.hid BF
   have c5:w5.cell? ⟨p,2,none⟩=some (.slice (some ⟨g,0,none⟩) N c):=Jx.cell 2
   have HC:Hid (∀v' w6,Et w5 (.slice (some ⟨g,0,none⟩) N c) R (.returned v') w6→∃G',Es (w6.setCell ⟨p,2,none⟩ v') G' p {s with fr:=R}∧AL G w (w6.setCell ⟨p,2,none⟩ v')∧∀k,G' k→G k∨w.heap.size≤k):=fun v' w6 hg=>DG H.out BQ.out hg DY.out
   have GY:Hid (∀v' w6,Et w5 (.slice (some ⟨g,0,none⟩) N c) R (.returned v') w6→w6.cell? ⟨p,2,none⟩=some (.slice (some ⟨g,0,none⟩) N c)∧w6.frozen? ⟨p,2,none⟩=false):=fun v' w6 hg=>by have:=Bg H.out BQ.out hg;exact⟨this.cell 2,this.free 2⟩
   have nD:p<w5.heap.size:=Jx.lt
   clear BF N5 Jx hR Iy
   go_wp2_with fail
   refine CE.out.mono ?_
   rintro e w6 hg
   obtain⟨v',rfl,Em,CP,D7⟩:=id hg
   have HX:=Lib.hid (HC.out v' w6 hg)
   obtain⟨c6,f6⟩:=GY.out v' w6 hg
   obtain⟨A',c',rfl,_,_,_⟩:=AT Em
   clear hg Em CP D7
   go_wp2
   go_end0
   obtain⟨G',h1,h2,h3⟩:=HX.out
   exact⟨G',rfl,h1,h2,h3⟩
def Next(w:World)(G:Nat→Prop)(p:Nat)(s:Sp)(w':World):Prop:=∃G',Es w' G' p s∧AL G w w'∧∀k,G' k→G k∨w.heap.size≤k
theorem Next.AJ{w w':World}{G:Nat→Prop}{p:Nat}{s:Sp}(h:Es w G p s)(hb:Below w.heap.size w w'):Next w G p s w':=⟨G,h.below hb,AL.AJ hb G,fun _ hk=>.inl hk⟩
theorem Next.behind{w w1 w':World}{G:Nat→Prop}{p:Nat}{s:Sp}(hb:Below w.heap.size w w1)(h:Next w1 G p s w'):Next w G p s w':=by
 obtain⟨G',h1,h2,h3⟩:=h
 exact⟨G',h1,(AL.AJ hb G).trans h2 fun b hb'=>.inl hb',fun k hk=>(h3 k hk).imp id fun h=>Nat.le_trans hb.size h⟩
def Cr(s:Sp)(n:Int):Sp×Nat×Nat:=
 if n<1 then (s,0,1)else if Ep s.fr n.toNat<s.fr.length then ({s with fr:=IE s.fr (Ep s.fr n.toNat) (Ae s.fr (Ep s.fr n.toNat)).1 n.toNat},(Ae s.fr (Ep s.fr n.toNat)).1,0)else (s,0,5)
def Iq(s:Sp)(f n:Int):Sp×Nat:=
 if n<1 then (s,1)else if DL s.fr f<s.fr.length∧((Ae s.fr (DL s.fr f)).1:Int)≤f∧n≤(((Ae s.fr (DL s.fr f)).1+(Ae s.fr (DL s.fr f)).2:Nat):Int)-f then ({s with fr:=IE s.fr (DL s.fr f) f.toNat n.toNat},0)else (s,1)
def CY(s:Sp)(f n:Int):Sp×Nat:=
 if n<1∨¬((s.first:Int)≤f∧n≤((s.first+s.blocks:Nat):Int)-f)∨(BB s.fr f.toNat<s.fr.length∧(Ae s.fr (BB s.fr f.toNat)).1<f.toNat+n.toNat)then (s,1)else ({s with fr:=Ck s.fr (BB s.fr f.toNat) f.toNat n.toNat},0)
theorem Zc(p:Nat)(s:Sp)(G:Nat→Prop)(n:Int)(w:World)(h:Es w G p s)(hn:Fv n):
  Calls Tryz.prog 83 #[.pointer (some ⟨p,0,none⟩),.int .i64 n] w fun e w'=>e=.returned (.tuple #[.int .i64 ((Cr s n).2.1:Nat),.int .i64 ((Cr s n).2.2:Nat)])∧Next w G p (Cr s n).1 w':=by
 have hB:=(Below.refl w.heap.size w).alloc (Nat.le_refl _) (.cells #[.int .i64 n] 3)
 by_cases h1:n<1
 ·have g1:decide (n<1)=true:=by simpa using h1
  have HN:Hid (Next w G p (Cr s n).1 (w.alloc (.cells #[.int .i64 n] 3))):=by unfold Hid Cr;rw[if_pos h1];exact Next.AJ h hB
  have e:(Cr s n).2=(0,1):=by unfold Cr;rw[if_pos h1]
  rw[e]
  clear h hB h1 e
  go_enter Tryz.func83,Tryz.ntmps83
  go_wp2
  go_ret2
  exact⟨rfl,HN.out⟩
 ·have g1:decide (n<1)=false:=by simpa using h1
  obtain⟨m,rfl⟩:∃m:Nat,n=(m:Int):=⟨n.toNat,by omega⟩
  have hm:1≤m:=by omega
  have hsp:=h.below hB
  obtain⟨hok,v,hr,ho,hG⟩:=id hsp
  obtain⟨A,c,rfl,hnc,Dn,_⟩:=AT ho
  have hlen:=hok.len
  have c2:(w.alloc (.cells #[.int .i64 (m:Int)] 3)).cell? ⟨p,2,none⟩=some (.slice A s.fr.length c):=hr.cell 2
  have k1:(w.alloc (.cells #[.int .i64 (m:Int)] 3)).cell? ⟨w.heap.size,0,none⟩=some (.int .i64 (m:Int)):=by
   have r1:Row (w.alloc (.cells #[.int .i64 (m:Int)] 3)) w.heap.size 3 [.int .i64 (m:Int)]:=heap_alloc_new _ _
   exact r1.cell 0
  have hidx:=Up w.heap.size (m:Int) A s.fr.length c s.fr _ k1 ho rfl (by omega)
  have iy:=Lib.hid hsp
  have HB:=Lib.hid hB
  have HO:=Lib.hid ho
  have mo:((m:Int)).toNat=m:=Int.toNat_natCast m
  have Bm:p<w.heap.size:=by obtain⟨_,v,hr,_⟩:=h;exact hr.lt
  obtain⟨N,hN⟩:∃N,N=s.fr.length:=⟨_,rfl⟩
  have HN:=Lib.hid hN
  have J9:Cr s (m:Int)=if Ep s.fr m<s.fr.length then ({s with fr:=IE s.fr (Ep s.fr m) (Ae s.fr (Ep s.fr m)).1 m},(Ae s.fr (Ep s.fr m)).1,0)else (s,0,5):=by unfold Cr;rw[if_neg h1,mo]
  by_cases EM:Ep s.fr m<s.fr.length
  ·rw[if_pos EM]at J9
   rw[J9]
   dsimp only
   have hge:=J4 EM
   have hidx2:=hidx.mono (R':=fun e w'=>e=.returned (.int .i64 (Ep s.fr m:Nat))∧Below (w.alloc (.cells #[.int .i64 (m:Int)] 3)).heap.size (w.alloc (.cells #[.int .i64 (m:Int)] 3)) w') (fun e w2 hh=>by
    rcases hh with⟨i,hi,U3,Bp,rfl,AZ⟩|⟨hno,rfl,AZ⟩
    ·have hfit:Ep s.fr m=i:=Dy (by omega) (fun k hk=>by have:=U3 k hk;simp only[decide_eq_false_iff_not]at this⊢;omega) (fun _=>by simp only[decide_eq_true_eq]at Bp⊢;omega)
     rw[hfit];exact⟨rfl,AZ⟩
    ·have h2:=hno _ EM
     simp only[decide_eq_true_eq,decide_eq_false_iff_not]at hge h2
     unfold Ep at h2;omega)
   have yw:m≤(Ae s.fr (Ep s.fr m)).2:=by unfold Ep;simpa using hge
   generalize Ep s.fr m=i at*
   obtain⟨a,ha⟩:∃a,(Ae s.fr i).1=a:=⟨_,rfl⟩
   have MS:Hid (∀W,Below (w.alloc (.cells #[.int .i64 (m:Int)] 3)).heap.size (w.alloc (.cells #[.int .i64 (m:Int)] 3)) W→∃g,A=some ⟨g,0,none⟩∧g<W.heap.size∧W.cell? ⟨g,i*2,none⟩=some (.int .i64 (a:Nat))):=fun W hb=>by
    obtain⟨g,h1,h2,h3,_⟩:=EI (At HO.out hb) EM
    rw[ha]at h3;exact⟨g,h1,h2,h3⟩
   have jO:Hid (∀w2,Below (w.alloc (.cells #[.int .i64 (m:Int)] 3)).heap.size (w.alloc (.cells #[.int .i64 (m:Int)] 3)) w2→Calls Tryz.prog 91 #[.pointer (some ⟨p,0,none⟩),.int .i64 i,.agg #[.int .i64 a,.int .i64 m]] w2 fun e w'=>e=.returned (.tuple #[])∧Next w G p {s with fr:=IE s.fr i a m} w'):=fun w2 AZ=>
    (Wb p s G i a m w2 (iy.out.below AZ) EM (by rw[ha];exact Nat.le_refl _) (by rw[ha];omega) hm).mono fun e w' ⟨G',h1,h2⟩=>⟨h1,Next.behind (HB.out.trans (AZ.mono HB.out.size)) ⟨G',h2⟩⟩
   rw[ha]
   generalize IE s.fr i a m=R at*
   rw[←hN]at c2 hlen hidx2 EM
   have di:=Lib.hid hidx2
   have gi:decide ((i:Int)<0)=false:=by simp
   have xX:(0:Int)≤(i:Int):=by omega
   have xW:(i:Int)<(N:Int):=by omega
   clear hidx hidx2 hsp hok hr ho hG h h1 hB mo hN hge yw ha J9 EM
   go_enter Tryz.func83,Tryz.ntmps83
   go_wp2_with fail
   refine di.out.mono ?_
   rintro e w2 ⟨rfl,AZ⟩
   obtain⟨g,rfl,hg,IM⟩:=MS.out w2 AZ
   have hcut:=jO.out w2 AZ
   have GY:=Lib.hid hcut
   have Wj:=(AZ.cell (p:=⟨p,2,none⟩) (by simp;omega)).trans c2
   have PB:=(AZ.cell (p:=⟨w.heap.size,0,none⟩) (by simp)).trans k1
   clear hcut AZ di MS jO c2 k1 HO iy
   go_wp2_with fail
   refine GY.out.mono ?_
   rintro e w3 ⟨rfl,hx⟩
   have HX:=Lib.hid hx
   clear hx
   go_wp2
   go_ret2
   exact⟨rfl,HX.out⟩
  ·rw[if_neg EM]at J9
   rw[J9]
   dsimp only
   have hidx2:=hidx.mono (R':=fun e w'=>e=.returned (.int .i64 (-1))∧Next w G p s w') (fun e w2 hh=>by
    rcases hh with⟨i,hi,U3,Bp,rfl,AZ⟩|⟨hno,rfl,AZ⟩
    ·have hfit:Ep s.fr m=i:=Dy (by omega) (fun k hk=>by have:=U3 k hk;simp only[decide_eq_false_iff_not]at this⊢;omega) (fun _=>by simp only[decide_eq_true_eq]at Bp⊢;omega)
     omega
    ·exact⟨rfl,Next.behind HB.out (Next.AJ iy.out AZ)⟩)
   rw[←hN]at c2 hlen hidx2
   have di:=Lib.hid hidx2
   clear hidx hidx2 hsp hok hr ho hG h h1 hB mo hN J9 EM
   go_enter Tryz.func83,Tryz.ntmps83
   go_wp2_with fail
   refine di.out.mono ?_
   rintro e w2 ⟨rfl,hx⟩
   have HX:=Lib.hid hx
   clear hx di
   go_wp2
   go_ret2
   exact⟨rfl,HX.out⟩
theorem bU(p:Nat)(s:Sp)(G:Nat→Prop)(f n:Int)(w:World)(h:Es w G p s)(hf:Fv f)(hn:Fv n):
  Calls Tryz.prog 70 #[.pointer (some ⟨p,0,none⟩),.int .i64 f,.int .i64 n] w fun e w'=>e=.returned (.int .i64 ((Iq s f n).2:Nat))∧Next w G p (Iq s f n).1 w':=by
 by_cases h1:n<1
 ·have g1:decide (n<1)=true:=by simpa using h1
  have HN:Hid (Next w G p (Iq s f n).1 w):=by unfold Hid Iq;rw[if_pos h1];exact Next.AJ h (Below.refl _ _)
  have e:(Iq s f n).2=1:=by unfold Iq;rw[if_pos h1]
  rw[e]
  clear h h1 e
  go_enter Tryz.func70,Tryz.ntmps70
  go_wp2
  go_ret
  exact⟨rfl,HN.out⟩
 have g1:decide (n<1)=false:=by simpa using h1
 obtain⟨hok,v,hr,ho,hG⟩:=id h
 obtain⟨A,c,rfl,hnc,Dn,_⟩:=AT ho
 have hlen:=hok.len
 have c2:w.cell? ⟨p,2,none⟩=some (.slice A s.fr.length c):=hr.cell 2
 have Bm:=hr.lt
 have Lk:=NW p s G f w h
 have vu:DL s.fr f≤s.fr.length:=List.findIdx_le_length
 have J9:Hid (Iq s f n=if DL s.fr f<s.fr.length∧((Ae s.fr (DL s.fr f)).1:Int)≤f∧n≤(((Ae s.fr (DL s.fr f)).1+(Ae s.fr (DL s.fr f)).2:Nat):Int)-f then ({s with fr:=IE s.fr (DL s.fr f) f.toNat n.toNat},0)else (s,1)):=by unfold Hid Iq;rw[if_neg h1]
 obtain⟨i,hi⟩:∃i,DL s.fr f=i:=⟨_,rfl⟩
 rw[hi]at Lk vu J9
 have R2:=Lib.hid Lk
 have H:=Lib.hid h
 have HO:=Lib.hid ho
 have DY:=Lib.hid hok
 obtain⟨N,hN⟩:∃N,N=s.fr.length:=⟨_,rfl⟩
 rw[←hN]at c2 hlen vu
 have HN:=Lib.hid hN
 clear Lk h hok hr ho hG hi hN
 by_cases hlt:i<N
 ·have g2:((i:Int)==(N:Int))=false:=by simp;omega
  have g3:decide ((i:Int)=(N:Int))=false:=by simp;omega
  have xX:(0:Int)≤(i:Int):=by omega
  have xW:(i:Int)<(N:Int):=by omega
  have PJ:=DY.out.2.2.getD (i:=i) (by rw[←HN.out];exact hlt)
  have tD:(Ae s.fr i).1+(Ae s.fr i).2≤2000000:=by have:=DY.out.1;have:=DY.out.2.1;omega
  obtain⟨a,ha⟩:∃a,(Ae s.fr i).1=a:=⟨_,rfl⟩
  obtain⟨b,hb⟩:∃b,(Ae s.fr i).2=b:=⟨_,rfl⟩
  obtain⟨g,rfl,hg,IM,Hh⟩:=EI HO.out (i:=i) (by rw[←HN.out];exact hlt)
  have bZ:=fun W=>Px a b f n W (by omega) hf
  have HH:=Lib.hid bZ
  have cH:=J9.out
  rw[ha,hb]at cH
  rw[ha]at IM
  rw[hb]at Hh
  have HA:=Lib.hid ha
  have HB:=Lib.hid hb
  by_cases hx:(a:Int)≤f∧n≤((a+b:Nat):Int)-f
  ·rw[if_pos ⟨by rw[←HN.out];exact hlt,hx⟩]at cH
   rw[cH]
   dsimp only
   obtain⟨f',rfl⟩:∃f':Nat,f=(f':Int):=⟨f.toNat,by omega⟩
   obtain⟨n',rfl⟩:∃n':Nat,n=(n':Int):=⟨n.toNat,by omega⟩
   simp only[Int.toNat_natCast]
   have bY:(decide ((a:Int)≤(f':Int))&&decide ((n':Int)≤((a+b:Nat):Int)-(f':Int)))=true:=by simp only[Bool.and_eq_true,decide_eq_true_eq];exact hx
   have ZH:=Lib.hid bY
   have jO:Hid (∀w2,Below w.heap.size w w2→Calls Tryz.prog 91 #[.pointer (some ⟨p,0,none⟩),.int .i64 i,.agg #[.int .i64 (f':Int),.int .i64 (n':Int)]] w2 fun e w'=>e=.returned (.tuple #[])∧Next w G p {s with fr:=IE s.fr i f' n'} w'):=fun w2 AZ=>
    (Wb p s G i f' n' w2 (H.out.below AZ) (by rw[←HN.out];exact hlt) (by rw[HA.out];omega) (by rw[HA.out,HB.out];omega) (by omega)).mono fun e w' ⟨G',h1,h2⟩=>⟨h1,Next.behind AZ ⟨G',h2⟩⟩
   generalize IE s.fr i f' n'=R at*
   clear cH hx bY bZ ha hb PJ tD J9 HO DY
   go_enter Tryz.func70,Tryz.ntmps70
   go_wp2_with fail
   refine R2.out.mono ?_
   rintro e w2 ⟨rfl,AZ⟩
   have Wj:=(AZ.cell (p:=⟨p,2,none⟩) Bm).trans c2
   have d0:=(AZ.cell (p:=⟨g,i*2,none⟩) hg).trans IM
   have d1:=(AZ.cell (p:=⟨g,i*2+1,none⟩) hg).trans Hh
   have Bt:=Lib.hid AZ
   clear AZ
   go_wp2_with fail
   refine(HH.out _).mono ?_
   rintro e w3 ⟨rfl,A8⟩
   rw[ZH.out]
   have BM:=Lib.hid (Bt.out.trans (A8.mono Bt.out.size))
   clear A8 Wj d0 d1
   go_wp2_with fail
   refine(jO.out _ BM.out).mono ?_
   rintro e w4 ⟨rfl,hx⟩
   have HX:=Lib.hid hx
   clear hx
   go_wp2
   go_ret
   exact⟨rfl,HX.out⟩
  ·rw[if_neg (fun hh=>hx hh.2)]at cH
   rw[cH]
   dsimp only
   have bY:(decide ((a:Int)≤f)&&decide (n≤((a+b:Nat):Int)-f))=false:=by
    cases hq:(decide ((a:Int)≤f)&&decide (n≤((a+b:Nat):Int)-f))with
    |false=>rfl
    |true=>simp only[Bool.and_eq_true,decide_eq_true_eq]at hq;exact absurd hq hx
   have ZH:=Lib.hid bY
   clear cH hx bY bZ ha hb PJ tD J9 HO DY
   go_enter Tryz.func70,Tryz.ntmps70
   go_wp2_with fail
   refine R2.out.mono ?_
   rintro e w2 ⟨rfl,AZ⟩
   have Wj:=(AZ.cell (p:=⟨p,2,none⟩) Bm).trans c2
   have d0:=(AZ.cell (p:=⟨g,i*2,none⟩) hg).trans IM
   have d1:=(AZ.cell (p:=⟨g,i*2+1,none⟩) hg).trans Hh
   have Bt:=Lib.hid AZ
   clear AZ
   go_wp2_with fail
   refine(HH.out _).mono ?_
   rintro e w3 ⟨rfl,A8⟩
   rw[ZH.out]
   have HX:Hid (Next w G p s w3):=Next.AJ H.out (Bt.out.trans (A8.mono Bt.out.size))
   clear A8 Wj d0 d1
   go_wp2
   go_ret
   exact⟨rfl,HX.out⟩
 ·obtain rfl:i=N:=by omega
  have cH:=J9.out
  rw[if_neg (fun hh=>by have:=hh.1;rw[←HN.out]at this;omega)]at cH
  rw[cH]
  dsimp only
  clear cH J9 HO DY hlt
  go_enter Tryz.func70,Tryz.ntmps70
  go_wp2_with fail
  refine R2.out.mono ?_
  rintro e w2 ⟨rfl,AZ⟩
  have Wj:=(AZ.cell (p:=⟨p,2,none⟩) Bm).trans c2
  have HX:Hid (Next w G p s w2):=Next.AJ H.out AZ
  clear AZ
  go_wp2
  go_ret
  exact⟨rfl,HX.out⟩
section
variable {l : List Ex} {i f n : Nat}
theorem NQ(h0:0<i)(h:(Ae l (i-1)).1+(Ae l (i-1)).2=f):GM l i f=true:=by simp[GM,h0,h]
theorem Gc(h:0<i→(Ae l (i-1)).1+(Ae l (i-1)).2≠f):GM l i f=false:=by
 unfold GM
 by_cases h0:0<i
 ·simp[h0,h h0]
 ·simp[h0]
theorem NP(h0:i<l.length)(h:(Ae l i).1=f):CU l i f=true:=by simp[CU,h0,h]
theorem Gb(h:i<l.length→(Ae l i).1≠f):CU l i f=false:=by
 unfold CU
 by_cases h0:i<l.length
 ·simp[h0,h h0]
 ·simp[h0]
end
theorem gQ(p:Nat)(s:Sp)(G:Nat→Prop)(i f n':Nat)(w:World)(h:Es w G p s)(hi:i=BB s.fr f)(h1:s.first≤f)(h2:f+n'≤s.first+s.blocks)(hn:1≤n')(hno:∀b,f≤b→b<f+n'→¬hasB s.fr b)(Jy:¬0<i):
  Calls Tryz.prog 97 #[.pointer (some ⟨p,0,none⟩),.int .i64 i,.agg #[.int .i64 f,.int .i64 n']] w fun e w'=>∃G',e=.returned (.tuple #[])∧Es w' G' p {s with fr:=Ck s.fr i f n'}∧AL G w w'∧∀k,G' k→G k∨w.heap.size≤k:=by
 obtain⟨hok,v,hr,ho,hG⟩:=h
 have GF:=JI hok.2.2 hn h1 h2 hno
 rw[←hi]at GF
 have sX:i≤s.fr.length:=by rw[hi];exact List.findIdx_le_length
 clear hi hno
 have Mf:s.first+s.blocks≤2000000:=by have:=hok.1;have:=hok.2.1;omega
 have N8:∀k,k<s.fr.length→(Ae s.fr k).1+(Ae s.fr k).2≤2000000:=fun k hk=>by have:=hok.2.2.getD hk;omega
 obtain⟨A,c,rfl,hnc,Dn,_⟩:=AT ho
 have hlen:=hok.len
 have c2:w.cell? ⟨p,2,none⟩=some (.slice A s.fr.length c):=hr.cell 2
 have Bm:=hr.lt
 have U1:=hok
 have Bp:∀k,k<s.fr.length→∃g,A=some ⟨g,0,none⟩∧g<w.heap.size∧w.cell? ⟨g,k*2,none⟩=some (.int .i64 (Ae s.fr k).1)∧w.cell? ⟨g,k*2+1,none⟩=some (.int .i64 (Ae s.fr k).2):=fun k hk=>EI ho hk
 have MS:=Lib.hid Bp
 obtain⟨N,hN⟩:∃N,N=s.fr.length:=⟨_,rfl⟩
 have H0:kz w G p s (.slice A N c):=by subst hN;exact⟨hok,hr,ho,hG⟩
 obtain⟨R,hR⟩:∃R,R=Ck s.fr i f n':=⟨_,rfl⟩
 have DY:Hid (({s with fr:=R}:Sp).ok):=by rw[hR];exact⟨hok.1,hok.2.1,GF.1⟩
 rw[←hR]
 have HR:=Lib.hid hR
 have H:=Lib.hid H0
 have HN:Hid (s.fr.length=N):=hN.symm
 have Vm:=Lib.hid N8
 rw[←hN]at c2 hlen sX
 have Mi:f+n'≤2000000:=by omega
 have GW:Hid (Below w.heap.size w (w.alloc (.cells #[.int .i64 f,.int .i64 n'] 80))):=(Below.refl _ _).alloc (Nat.le_refl _) _
 clear GF hok hr ho hG Bp H0 hN hR Mf N8 U1 h1 h2
 have lg:decide ((0:Int)<(i:Int))=false:=by simp;omega
 have lg1:decide ((i:Int)>0)=false:=by simp;omega
 have lg2:decide (0<i)=false:=by simp;omega
 have Rp:Hid (0<i→(Ae s.fr (i-1)).1+(Ae s.fr (i-1)).2≠f):=fun hh=>absurd hh Jy
 have jI:Hid (f+n'=f+n'):=rfl
 go_enter Tryz.func97,Tryz.ntmps97
 go_wp2
 go_quiet (fail)
 have Cw:Row ((w.alloc (.cells #[.int .i64 f,.int .i64 n'] 80)).drewN nq) w.heap.size 80 [.int .i64 f,.int .i64 n']:=heap_alloc_new _ _
 have LC:Hid (Below w.heap.size w ((w.alloc (.cells #[.int .i64 f,.int .i64 n'] 80)).drewN nq)):=AF GW.out nq
 generalize(w.alloc (.cells #[.int .i64 f,.int .i64 n'] 80)).drewN nq=wp at*
 go_wp2
 by_cases bM:i<N
 ·obtain⟨g2,Oz,CP,WV,KJ⟩:=MS.out (i) (by rw[HN.out];exact bM)
  have OA:=Vm.out (i) (by rw[HN.out];exact bM)
  subst Oz
  obtain⟨a2,Kx⟩:∃a2,(Ae s.fr (i)).1=a2:=⟨_,rfl⟩
  obtain⟨b2,AZ⟩:∃b2,(Ae s.fr (i)).2=b2:=⟨_,rfl⟩
  rw[Kx]at WV
  rw[AZ]at KJ
  rw[Kx,AZ]at OA
  have Tv:=Lib.hid Kx
  have Om:=Lib.hid AZ
  obtain⟨u2,Ew⟩:∃u2,f+n'=u2:=⟨_,rfl⟩
  have Mn:Hid (∀W,Calls Tryz.prog 96 #[.agg #[.int .i64 f,.int .i64 n']] W fun e w'=>e=.returned (.int .i64 (u2:Nat))∧Below W.heap.size W w'):=fun W=>by have:=EO (f) (n') W (by omega);rwa [Ew]at this
  have PR:=Lib.hid Ew
  have MK:wp.cell? ⟨p,2,none⟩=some (.slice (some ⟨g2,0,none⟩) N c):=(H.out.2.1.below LC.out Bm).cell 2
  have Qa:wp.cell? ⟨w.heap.size,0,none⟩=some (.int .i64 f):=Cw.cell 0
  have OW:wp.cell? ⟨w.heap.size,1,none⟩=some (.int .i64 n'):=Cw.cell 1
  have OO:=(LC.out.cell (p:=⟨g2,(i)*2,none⟩) CP).trans WV
  have ON:=(LC.out.cell (p:=⟨g2,(i)*2+1,none⟩) CP).trans KJ
  have Dx:w.heap.size<wp.heap.size:=Cw.lt
  have Gm:p<wp.heap.size:=by omega
  have EZ:g2<wp.heap.size:=by omega
  have jn:((i:Int):Int)<(N:Int):=by omega
  have jo:(0:Int)≤((i:Int):Int):=by omega
  have rg:decide (((i:Int):Int)<(N:Int))=true:=by simp;omega
  have aA:decide (i<N)=true:=by simp;omega
  clear Ew Kx AZ
  by_cases EL:a2=u2
  ·have rt:decide (a2=u2)=true:=by simp;omega
   have Z2:(a2==u2)=true:=by simp;omega
   have Z1:((a2:Int)==(u2:Int))=true:=by simp;omega
   obtain⟨n2,TM⟩:∃n2,n2=n'+b2:=⟨_,rfl⟩
   have OC:(n':Int)+(b2:Int)=(n2:Int):=by omega
   have Ek:IntKind.i64.wrap (n2:Int)=(n2:Int):=IntWalk.i64_in _ (by omega)
   have hwi:IntKind.i64.wrap (((i:Int):Int)+1)=((i:Int):Int)+1:=IntWalk.i64_in _ (by omega)
   have Od:Hid (CU s.fr (i) (f+n')=true):=NP (by rw[HN.out];exact bM) (by rw[Tv.out];have:=PR.out;have:=jI.out;omega)
   have jE:=Lib.hid TM
   clear TM
   go_region_held3 (fun w'=>Below wp.heap.size wp w'∧w'.cell? ⟨p,2,none⟩=some (.slice (some ⟨g2,0,none⟩) N c)∧w'.cell? ⟨w.heap.size,0,none⟩=some (.int .i64 f)∧w'.cell? ⟨w.heap.size,1,none⟩=some (.int .i64 n')∧w'.cell? ⟨g2,(i)*2,none⟩=some (.int .i64 a2)∧w'.cell? ⟨g2,(i)*2+1,none⟩=some (.int .i64 b2))
    (first
     |(exact⟨AF (Below.refl _ _) 1,MK,Qa,OW,OO,ON⟩)
     |(exact⟨hacc,(hacc.cell Gm).trans MK,(hacc.cell Dx).trans Qa,(hacc.cell Dx).trans OW,(hacc.cell EZ).trans OO,(hacc.cell EZ).trans ON⟩))
    ((go_split_ands;go_at_call 96;(with_reducible refine(Mn.out _).mono ?_);rintro e R9 ⟨rfl,A8⟩;have hacc:Below wp.heap.size wp R9:=Below.trans (by assumption) (Below.mono A8 (Below.size (by assumption)))))
   have Ea:=Cw.below hacc Dx
   have LD:=Lib.hid (LC.out.trans (hacc.mono LC.out.size))
   have He:=Lib.hid hacc
   clear hacc
   have oN:=(He.out.cell (p:=⟨p,2,none⟩) Gm).trans MK
   have oK:=(He.out.cell (p:=⟨g2,(i)*2,none⟩) EZ).trans OO
   have oJ:=(He.out.cell (p:=⟨g2,(i)*2+1,none⟩) EZ).trans ON
   have oO:=(He.out.cell (p:=⟨w.heap.size,1,none⟩) Dx).trans OW
   have oH:=Ea.free 1
   generalize R9=UD at*
   go_wp2
   go_region
   have Cy:Row (UD.setCell ⟨w.heap.size,1,none⟩ (.int .i64 n2)).drew w.heap.size 80 [.int .i64 f,.int .i64 n2]:=(Ea.set 1 (.int .i64 n2)).drewN 1
   have I8:Hid (Below w.heap.size w (UD.setCell ⟨w.heap.size,1,none⟩ (.int .i64 n2)).drew):=AF (LD.out.setCell (p:=⟨w.heap.size,1,none⟩) (Nat.le_refl _) _) 1
   clear oN oK oJ oO oH He LD Ea
   generalize(UD.setCell ⟨w.heap.size,1,none⟩ (.int .i64 n2)).drew=wq at*
   go_wp2
   have KD:Hid (s.fr.take (i)++[(f,n2)]++s.fr.drop (i+1)=R):=by
    unfold Hid;rw[HR.out];unfold Ck;rw[Gc Rp.out,Od.out]
    dsimp only;rw[jE.out,Om.out]
   have hsz:w.heap.size<wq.heap.size:=Cy.lt
   have c5:wq.cell? ⟨p,2,none⟩=some (.slice (some ⟨g2,0,none⟩) N c):=(H.out.2.1.below I8.out Bm).cell 2
   have b0:wq.cell? ⟨w.heap.size,0,none⟩=some (.int .i64 f):=Cy.cell 0
   have b1:wq.cell? ⟨w.heap.size,1,none⟩=some (.int .i64 n2):=Cy.cell 1
   have TJ:p<wq.heap.size:=by omega
   have BQ:∀W,W=wq.drew.alloc (.cells #[.int .i64 f,.int .i64 n2] 80)→Hid (Below w.heap.size w W):=fun W e=>by subst e;exact(AF I8.out 1).alloc (by have:=I8.out.size;exact this) _
   have CE:∀W,W=wq.drew.alloc (.cells #[.int .i64 f,.int .i64 n2] 80)→Hid (Calls Tryz.prog 110 #[.slice (some ⟨g2,0,none⟩) N c,.int .i64 ((i:Int)),.int .i64 ((i:Int)+1),.slice (some ⟨wq.heap.size,0,none⟩) 1 1] W (Et W (.slice (some ⟨g2,0,none⟩) N c) R)):=fun W e=>by
    have Ja:=At H.out.2.2.1 (BQ W e).out
    rw[HN.out]at Ja
    have FI:CN W wq.heap.size 1 1 [(f,n2)] [.int .i64 f,.int .i64 n2]:=⟨by subst e;exact heap_alloc_new wq.drew _,rfl,Nat.le_refl _,by omega,rfl,rfl⟩
    have BF:=BH W (i:=i) (j:=i+1) Ja FI.own (fun k hk e2=>by have h1:=(H.out.2.2.1.lt k hk).2;(have e3:wq.heap.size=k:=by simpa [Value.ownBlock]using e2);omega) (by omega) (by omega) (by omega) (by omega)
    rw[KD.out]at BF
    have CQ:((i:Nat):Int)=(i:Int):=by omega
    have DB:((i+1:Nat):Int)=(i:Int)+1:=by omega
    first|rw[CQ,DB]at BF|rw[CQ]at BF
    exact BF
   have CE:=CE _ rfl
   have BQ:=BQ _ rfl
   have HC:Hid (∀v' w6,Et (wq.drew.alloc (.cells #[.int .i64 f,.int .i64 n2] 80)) (.slice (some ⟨g2,0,none⟩) N c) R (.returned v') w6→∃G',Es (w6.setCell ⟨p,2,none⟩ v') G' p {s with fr:=R}∧AL G w (w6.setCell ⟨p,2,none⟩ v')∧∀k,G' k→G k∨w.heap.size≤k):=fun v' w6 hg=>DG H.out BQ.out hg DY.out
   clear Od rt Z2 Z1 jo jn rg aA MK Qa OW Gm EZ Dx OO ON WV KJ Mn PR Tv Om OA CP
   have GY:Hid (∀v' w6,Et (wq.drew.alloc (.cells #[.int .i64 f,.int .i64 n2] 80)) (.slice (some ⟨g2,0,none⟩) N c) R (.returned v') w6→w6.cell? ⟨p,2,none⟩=some (.slice (some ⟨g2,0,none⟩) N c)∧w6.frozen? ⟨p,2,none⟩=false):=fun v' w6 hg=>by have:=Bg H.out BQ.out hg;exact⟨this.cell 2,this.free 2⟩
   go_wp2
   go_region_with (go_at_call 110;refine CE.out.mono ?_;rintro e w6 hg;obtain⟨v',rfl,Em,CP,D7⟩:=id hg;have HX:=Lib.hid (HC.out v' w6 hg);obtain⟨c6,f6⟩:=GY.out v' w6 hg;obtain⟨A',c',rfl,_,_,_⟩:=AT Em;clear hg Em CP D7)
   all_goals(go_wp2;go_end0;obtain⟨G',h1,h2,h3⟩:=HX.out;exact⟨G',rfl,h1,h2,h3⟩)
  ·have rt:decide (a2=u2)=false:=by simp;omega
   have Z2:(a2==u2)=false:=by simp;omega
   have Z1:((a2:Int)==(u2:Int))=false:=by simp;omega
   have Od:Hid (CU s.fr (i) (f+n')=false):=Gb fun _=>by rw[Tv.out];have:=PR.out;have:=jI.out;omega
   go_wp2
   go_region_held3 (fun w'=>Below wp.heap.size wp w'∧w'.cell? ⟨p,2,none⟩=some (.slice (some ⟨g2,0,none⟩) N c)∧w'.cell? ⟨w.heap.size,0,none⟩=some (.int .i64 f)∧w'.cell? ⟨w.heap.size,1,none⟩=some (.int .i64 n')∧w'.cell? ⟨g2,(i)*2,none⟩=some (.int .i64 a2)∧w'.cell? ⟨g2,(i)*2+1,none⟩=some (.int .i64 b2))
    (first
     |(exact⟨AF (Below.refl _ _) 1,MK,Qa,OW,OO,ON⟩)
     |(exact⟨hacc,(hacc.cell Gm).trans MK,(hacc.cell Dx).trans Qa,(hacc.cell Dx).trans OW,(hacc.cell EZ).trans OO,(hacc.cell EZ).trans ON⟩))
    ((go_split_ands;go_at_call 96;(with_reducible refine(Mn.out _).mono ?_);rintro e R9 ⟨rfl,A8⟩;have hacc:Below wp.heap.size wp R9:=Below.trans (by assumption) (Below.mono A8 (Below.size (by assumption)))))
   have Ea:=Cw.below hacc Dx
   have LD:=Lib.hid (LC.out.trans (hacc.mono LC.out.size))
   have He:=Lib.hid hacc
   clear hacc
   generalize R9=wq at*
   have I8:=LD
   have Cy:=Ea
   go_wp2
   have KD:Hid (s.fr.take (i)++[(f,n')]++s.fr.drop (i)=R):=by
    unfold Hid;rw[HR.out];unfold Ck;rw[Gc Rp.out,Od.out]
   have hsz:w.heap.size<wq.heap.size:=Cy.lt
   have c5:wq.cell? ⟨p,2,none⟩=some (.slice (some ⟨g2,0,none⟩) N c):=(H.out.2.1.below I8.out Bm).cell 2
   have b0:wq.cell? ⟨w.heap.size,0,none⟩=some (.int .i64 f):=Cy.cell 0
   have b1:wq.cell? ⟨w.heap.size,1,none⟩=some (.int .i64 n'):=Cy.cell 1
   have TJ:p<wq.heap.size:=by omega
   have BQ:∀W,W=wq.drew.alloc (.cells #[.int .i64 f,.int .i64 n'] 80)→Hid (Below w.heap.size w W):=fun W e=>by subst e;exact(AF I8.out 1).alloc (by have:=I8.out.size;exact this) _
   have CE:∀W,W=wq.drew.alloc (.cells #[.int .i64 f,.int .i64 n'] 80)→Hid (Calls Tryz.prog 110 #[.slice (some ⟨g2,0,none⟩) N c,.int .i64 ((i:Int)),.int .i64 ((i:Int)),.slice (some ⟨wq.heap.size,0,none⟩) 1 1] W (Et W (.slice (some ⟨g2,0,none⟩) N c) R)):=fun W e=>by
    have Ja:=At H.out.2.2.1 (BQ W e).out
    rw[HN.out]at Ja
    have FI:CN W wq.heap.size 1 1 [(f,n')] [.int .i64 f,.int .i64 n']:=⟨by subst e;exact heap_alloc_new wq.drew _,rfl,Nat.le_refl _,by omega,rfl,rfl⟩
    have BF:=BH W (i:=i) (j:=i) Ja FI.own (fun k hk e2=>by have h1:=(H.out.2.2.1.lt k hk).2;(have e3:wq.heap.size=k:=by simpa [Value.ownBlock]using e2);omega) (by omega) (by omega) (by omega) (by omega)
    rw[KD.out]at BF
    have CQ:((i:Nat):Int)=(i:Int):=by omega
    have DB:((i:Nat):Int)=(i:Int):=by omega
    first|rw[CQ,DB]at BF|rw[CQ]at BF
    exact BF
   have CE:=CE _ rfl
   have BQ:=BQ _ rfl
   have HC:Hid (∀v' w6,Et (wq.drew.alloc (.cells #[.int .i64 f,.int .i64 n'] 80)) (.slice (some ⟨g2,0,none⟩) N c) R (.returned v') w6→∃G',Es (w6.setCell ⟨p,2,none⟩ v') G' p {s with fr:=R}∧AL G w (w6.setCell ⟨p,2,none⟩ v')∧∀k,G' k→G k∨w.heap.size≤k):=fun v' w6 hg=>DG H.out BQ.out hg DY.out
   clear Od rt Z2 Z1 jo jn rg aA MK Qa OW Gm EZ Dx OO ON WV KJ Mn PR Tv Om OA CP
   have GY:Hid (∀v' w6,Et (wq.drew.alloc (.cells #[.int .i64 f,.int .i64 n'] 80)) (.slice (some ⟨g2,0,none⟩) N c) R (.returned v') w6→w6.cell? ⟨p,2,none⟩=some (.slice (some ⟨g2,0,none⟩) N c)∧w6.frozen? ⟨p,2,none⟩=false):=fun v' w6 hg=>by have:=Bg H.out BQ.out hg;exact⟨this.cell 2,this.free 2⟩
   go_wp2
   go_region_with (go_at_call 110;refine CE.out.mono ?_;rintro e w6 hg;obtain⟨v',rfl,Em,CP,D7⟩:=id hg;have HX:=Lib.hid (HC.out v' w6 hg);obtain⟨c6,f6⟩:=GY.out v' w6 hg;obtain⟨A',c',rfl,_,_,_⟩:=AT Em;clear hg Em CP D7)
   all_goals(go_wp2;go_end0;obtain⟨G',h1,h2,h3⟩:=HX.out;exact⟨G',rfl,h1,h2,h3⟩)
 ·have rg:decide (((i:Int):Int)<(N:Int))=false:=by simp;omega
  have aA:decide (i<N)=false:=by simp;omega
  have Od:Hid (CU s.fr (i) (f+n')=false):=Gb fun hh=>by rw[HN.out]at hh;omega
  have MK:wp.cell? ⟨p,2,none⟩=some (.slice A N c):=(H.out.2.1.below LC.out Bm).cell 2
  have Gm:p<wp.heap.size:=by have:=Cw.lt;omega
  go_quiet (fail)
  have Cy:=Cw.drewN nq
  have I8:Hid (Below w.heap.size w (wp.drewN nq)):=AF LC.out nq
  generalize wp.drewN nq=wq at*
  go_wp2
  have KD:Hid (s.fr.take (i)++[(f,n')]++s.fr.drop (i)=R):=by
   unfold Hid;rw[HR.out];unfold Ck;rw[Gc Rp.out,Od.out]
  have hsz:w.heap.size<wq.heap.size:=Cy.lt
  have c5:wq.cell? ⟨p,2,none⟩=some (.slice A N c):=(H.out.2.1.below I8.out Bm).cell 2
  have b0:wq.cell? ⟨w.heap.size,0,none⟩=some (.int .i64 f):=Cy.cell 0
  have b1:wq.cell? ⟨w.heap.size,1,none⟩=some (.int .i64 n'):=Cy.cell 1
  have TJ:p<wq.heap.size:=by omega
  have BQ:∀W,W=wq.drew.alloc (.cells #[.int .i64 f,.int .i64 n'] 80)→Hid (Below w.heap.size w W):=fun W e=>by subst e;exact(AF I8.out 1).alloc (by have:=I8.out.size;exact this) _
  have CE:∀W,W=wq.drew.alloc (.cells #[.int .i64 f,.int .i64 n'] 80)→Hid (Calls Tryz.prog 110 #[.slice A N c,.int .i64 ((i:Int)),.int .i64 ((i:Int)),.slice (some ⟨wq.heap.size,0,none⟩) 1 1] W (Et W (.slice A N c) R)):=fun W e=>by
   have Ja:=At H.out.2.2.1 (BQ W e).out
   rw[HN.out]at Ja
   have FI:CN W wq.heap.size 1 1 [(f,n')] [.int .i64 f,.int .i64 n']:=⟨by subst e;exact heap_alloc_new wq.drew _,rfl,Nat.le_refl _,by omega,rfl,rfl⟩
   have BF:=BH W (i:=i) (j:=i) Ja FI.own (fun k hk e2=>by have h1:=(H.out.2.2.1.lt k hk).2;(have e3:wq.heap.size=k:=by simpa [Value.ownBlock]using e2);omega) (by omega) (by omega) (by omega) (by omega)
   rw[KD.out]at BF
   have CQ:((i:Nat):Int)=(i:Int):=by omega
   have DB:((i:Nat):Int)=(i:Int):=by omega
   first|rw[CQ,DB]at BF|rw[CQ]at BF
   exact BF
  have CE:=CE _ rfl
  have BQ:=BQ _ rfl
  have HC:Hid (∀v' w6,Et (wq.drew.alloc (.cells #[.int .i64 f,.int .i64 n'] 80)) (.slice A N c) R (.returned v') w6→∃G',Es (w6.setCell ⟨p,2,none⟩ v') G' p {s with fr:=R}∧AL G w (w6.setCell ⟨p,2,none⟩ v')∧∀k,G' k→G k∨w.heap.size≤k):=fun v' w6 hg=>DG H.out BQ.out hg DY.out
  have GY:Hid (∀v' w6,Et (wq.drew.alloc (.cells #[.int .i64 f,.int .i64 n'] 80)) (.slice A N c) R (.returned v') w6→w6.cell? ⟨p,2,none⟩=some (.slice A N c)∧w6.frozen? ⟨p,2,none⟩=false):=fun v' w6 hg=>by have:=Bg H.out BQ.out hg;exact⟨this.cell 2,this.free 2⟩
  go_wp2
  go_region_with (go_at_call 110;refine CE.out.mono ?_;rintro e w6 hg;obtain⟨v',rfl,Em,CP,D7⟩:=id hg;have HX:=Lib.hid (HC.out v' w6 hg);obtain⟨c6,f6⟩:=GY.out v' w6 hg;obtain⟨A',c',rfl,_,_,_⟩:=AT Em;clear hg Em CP D7)
  all_goals(go_wp2;go_end0;obtain⟨G',h1,h2,h3⟩:=HX.out;exact⟨G',rfl,h1,h2,h3⟩)
theorem gP(p:Nat)(s:Sp)(G:Nat→Prop)(i f n':Nat)(w:World)(h:Es w G p s)(hi:i=BB s.fr f)(h1:s.first≤f)(h2:f+n'≤s.first+s.blocks)(hn:1≤n')(hno:∀b,f≤b→b<f+n'→¬hasB s.fr b)(Jy:0<i)(U2:(Ae s.fr (i-1)).1+(Ae s.fr (i-1)).2≠f):
  Calls Tryz.prog 97 #[.pointer (some ⟨p,0,none⟩),.int .i64 i,.agg #[.int .i64 f,.int .i64 n']] w fun e w'=>∃G',e=.returned (.tuple #[])∧Es w' G' p {s with fr:=Ck s.fr i f n'}∧AL G w w'∧∀k,G' k→G k∨w.heap.size≤k:=by
 obtain⟨hok,v,hr,ho,hG⟩:=h
 have GF:=JI hok.2.2 hn h1 h2 hno
 rw[←hi]at GF
 have sX:i≤s.fr.length:=by rw[hi];exact List.findIdx_le_length
 clear hi hno
 have Mf:s.first+s.blocks≤2000000:=by have:=hok.1;have:=hok.2.1;omega
 have N8:∀k,k<s.fr.length→(Ae s.fr k).1+(Ae s.fr k).2≤2000000:=fun k hk=>by have:=hok.2.2.getD hk;omega
 obtain⟨A,c,rfl,hnc,Dn,_⟩:=AT ho
 have hlen:=hok.len
 have c2:w.cell? ⟨p,2,none⟩=some (.slice A s.fr.length c):=hr.cell 2
 have Bm:=hr.lt
 have U1:=hok
 have Bp:∀k,k<s.fr.length→∃g,A=some ⟨g,0,none⟩∧g<w.heap.size∧w.cell? ⟨g,k*2,none⟩=some (.int .i64 (Ae s.fr k).1)∧w.cell? ⟨g,k*2+1,none⟩=some (.int .i64 (Ae s.fr k).2):=fun k hk=>EI ho hk
 have MS:=Lib.hid Bp
 obtain⟨N,hN⟩:∃N,N=s.fr.length:=⟨_,rfl⟩
 have H0:kz w G p s (.slice A N c):=by subst hN;exact⟨hok,hr,ho,hG⟩
 obtain⟨R,hR⟩:∃R,R=Ck s.fr i f n':=⟨_,rfl⟩
 have DY:Hid (({s with fr:=R}:Sp).ok):=by rw[hR];exact⟨hok.1,hok.2.1,GF.1⟩
 rw[←hR]
 have HR:=Lib.hid hR
 have H:=Lib.hid H0
 have HN:Hid (s.fr.length=N):=hN.symm
 have Vm:=Lib.hid N8
 rw[←hN]at c2 hlen sX
 have Mi:f+n'≤2000000:=by omega
 have GW:Hid (Below w.heap.size w (w.alloc (.cells #[.int .i64 f,.int .i64 n'] 80))):=(Below.refl _ _).alloc (Nat.le_refl _) _
 clear GF hok hr ho hG Bp H0 hN hR Mf N8 U1 h1 h2
 obtain⟨j,rfl⟩:∃j,i=j+1:=⟨i-1,by omega⟩
 obtain⟨g0,rfl,sg,mW,mV⟩:=MS.out j (by rw[HN.out];omega)
 have nX:=Vm.out j (by rw[HN.out];omega)
 obtain⟨a0,M3⟩:∃a0,(Ae s.fr j).1=a0:=⟨_,rfl⟩
 obtain⟨b0,hb0⟩:∃b0,(Ae s.fr j).2=b0:=⟨_,rfl⟩
 rw[M3]at mW
 rw[hb0]at mV
 rw[M3,hb0]at nX
 have dx:=Lib.hid M3
 have Tu:=Lib.hid hb0
 obtain⟨u0,mj⟩:∃u0,a0+b0=u0:=⟨_,rfl⟩
 have eZ:Hid (∀W,Calls Tryz.prog 96 #[.agg #[.int .i64 a0,.int .i64 b0]] W fun e w'=>e=.returned (.int .i64 (u0:Nat))∧Below W.heap.size W w'):=fun W=>by have:=EO a0 b0 W (by omega);rwa [mj]at this
 have iZ:=Lib.hid mj
 have Ku:Row (w.alloc (.cells #[.int .i64 f,.int .i64 n'] 80)) w.heap.size 80 [.int .i64 f,.int .i64 n']:=heap_alloc_new _ _
 have lj0:(0:Int)≤(j:Int):=by omega
 have lj1:(j:Int)<(N:Int):=by omega
 have lw1:IntKind.i64.wrap ((j:Int)+1-1)=(j:Int):=by rw[show (j:Int)+1-1=j by omega];exact IntWalk.i64_in _ (by omega)
 have lw2:IntKind.i64.wrap (j:Int)=(j:Int):=IntWalk.i64_in _ (by omega)
 clear mj M3 hb0
 have hlt:¬u0=f:=by rw[Nat.add_sub_cancel,dx.out,Tu.out,iZ.out]at U2;exact U2
 clear U2
 have xO:decide (u0=f)=false:=by simp;omega
 have xN:(u0==f)=false:=by simp;omega
 have xM:((u0:Int)==(f:Int))=false:=by simp;omega
 have Rp:Hid (0<j+1→(Ae s.fr (j+1-1)).1+(Ae s.fr (j+1-1)).2≠f):=fun _=>by rw[Nat.add_sub_cancel,dx.out,Tu.out,iZ.out];exact hlt
 have jI:Hid (f+n'=f+n'):=rfl
 go_enter Tryz.func97,Tryz.ntmps97
 go_wp2
 generalize w.alloc (.cells #[.int .i64 f,.int .i64 n'] 80)=wb at*
 have Y1:=GW
 have kr:wb.cell? ⟨p,2,none⟩=some (.slice (some ⟨g0,0,none⟩) N c):=(H.out.2.1.below Y1.out Bm).cell 2
 have oP:wb.cell? ⟨w.heap.size,0,none⟩=some (.int .i64 f):=Ku.cell 0
 have Sw:=(Y1.out.cell (p:=⟨g0,j*2,none⟩) sg).trans mW
 have Sv:=(Y1.out.cell (p:=⟨g0,j*2+1,none⟩) sg).trans mV
 have RO:w.heap.size<wb.heap.size:=Ku.lt
 have YK:p<wb.heap.size:=by omega
 have RR:g0<wb.heap.size:=by omega
 go_region_held3 (fun w'=>Below wb.heap.size wb w'∧w'.cell? ⟨p,2,none⟩=some (.slice (some ⟨g0,0,none⟩) N c)∧w'.cell? ⟨w.heap.size,0,none⟩=some (.int .i64 f)∧w'.cell? ⟨g0,j*2,none⟩=some (.int .i64 a0)∧w'.cell? ⟨g0,j*2+1,none⟩=some (.int .i64 b0))
  (first
   |(exact⟨AF (Below.refl _ _) 1,kr,oP,Sw,Sv⟩)
   |(exact⟨hacc,(hacc.cell YK).trans kr,(hacc.cell RO).trans oP,(hacc.cell RR).trans Sw,(hacc.cell RR).trans Sv⟩))
  ((go_split_ands;go_at_call 96;(with_reducible refine(eZ.out _).mono ?_);rintro e ef ⟨rfl,A8⟩;have hacc:Below wb.heap.size wb ef:=Below.trans (by assumption) (Below.mono A8 (Below.size (by assumption)))))
 have Kv:=Ku.below hacc RO
 have dr:=Lib.hid (Y1.out.trans (hacc.mono Y1.out.size))
 have Qk:=Lib.hid hacc
 clear hacc
 generalize ef=wp at*
 have Cw:=Kv
 have LC:=dr
 clear Qk Kv dr kr oP Sw Sv RO YK RR Ku Y1 GW xO xN xM eZ iZ dx Tu mW mV
 go_wp2
 by_cases bM:(j+1)<N
 ·obtain⟨g2,Oz,CP,WV,KJ⟩:=MS.out ((j+1)) (by rw[HN.out];exact bM)
  have OA:=Vm.out ((j+1)) (by rw[HN.out];exact bM)
  obtain rfl:g2=g0:=by injection Oz with Oz;injection Oz with Oz;exact Oz.symm
  obtain⟨a2,Kx⟩:∃a2,(Ae s.fr ((j+1))).1=a2:=⟨_,rfl⟩
  obtain⟨b2,AZ⟩:∃b2,(Ae s.fr ((j+1))).2=b2:=⟨_,rfl⟩
  rw[Kx]at WV
  rw[AZ]at KJ
  rw[Kx,AZ]at OA
  have Tv:=Lib.hid Kx
  have Om:=Lib.hid AZ
  obtain⟨u2,Ew⟩:∃u2,f+n'=u2:=⟨_,rfl⟩
  have Mn:Hid (∀W,Calls Tryz.prog 96 #[.agg #[.int .i64 f,.int .i64 n']] W fun e w'=>e=.returned (.int .i64 (u2:Nat))∧Below W.heap.size W w'):=fun W=>by have:=EO (f) (n') W (by omega);rwa [Ew]at this
  have PR:=Lib.hid Ew
  have MK:wp.cell? ⟨p,2,none⟩=some (.slice (some ⟨g2,0,none⟩) N c):=(H.out.2.1.below LC.out Bm).cell 2
  have Qa:wp.cell? ⟨w.heap.size,0,none⟩=some (.int .i64 f):=Cw.cell 0
  have OW:wp.cell? ⟨w.heap.size,1,none⟩=some (.int .i64 n'):=Cw.cell 1
  have OO:=(LC.out.cell (p:=⟨g2,((j+1))*2,none⟩) CP).trans WV
  have ON:=(LC.out.cell (p:=⟨g2,((j+1))*2+1,none⟩) CP).trans KJ
  have Dx:w.heap.size<wp.heap.size:=Cw.lt
  have Gm:p<wp.heap.size:=by omega
  have EZ:g2<wp.heap.size:=by omega
  have jn:((j:Int)+1:Int)<(N:Int):=by omega
  have jo:(0:Int)≤((j:Int)+1:Int):=by omega
  have rg:decide (((j:Int)+1:Int)<(N:Int))=true:=by simp;omega
  have aA:decide ((j+1)<N)=true:=by simp;omega
  clear Ew Kx AZ
  by_cases EL:a2=u2
  ·have rt:decide (a2=u2)=true:=by simp;omega
   have Z2:(a2==u2)=true:=by simp;omega
   have Z1:((a2:Int)==(u2:Int))=true:=by simp;omega
   obtain⟨n2,TM⟩:∃n2,n2=n'+b2:=⟨_,rfl⟩
   have OC:(n':Int)+(b2:Int)=(n2:Int):=by omega
   have Ek:IntKind.i64.wrap (n2:Int)=(n2:Int):=IntWalk.i64_in _ (by omega)
   have hwi:IntKind.i64.wrap (((j:Int)+1:Int)+1)=((j:Int)+1:Int)+1:=IntWalk.i64_in _ (by omega)
   have Od:Hid (CU s.fr ((j+1)) (f+n')=true):=NP (by rw[HN.out];exact bM) (by rw[Tv.out];have:=PR.out;have:=jI.out;omega)
   have jE:=Lib.hid TM
   clear TM
   go_region_held3 (fun w'=>Below wp.heap.size wp w'∧w'.cell? ⟨p,2,none⟩=some (.slice (some ⟨g2,0,none⟩) N c)∧w'.cell? ⟨w.heap.size,0,none⟩=some (.int .i64 f)∧w'.cell? ⟨w.heap.size,1,none⟩=some (.int .i64 n')∧w'.cell? ⟨g2,((j+1))*2,none⟩=some (.int .i64 a2)∧w'.cell? ⟨g2,((j+1))*2+1,none⟩=some (.int .i64 b2))
    (first
     |(exact⟨AF (Below.refl _ _) 1,MK,Qa,OW,OO,ON⟩)
     |(exact⟨hacc,(hacc.cell Gm).trans MK,(hacc.cell Dx).trans Qa,(hacc.cell Dx).trans OW,(hacc.cell EZ).trans OO,(hacc.cell EZ).trans ON⟩))
    ((go_split_ands;go_at_call 96;(with_reducible refine(Mn.out _).mono ?_);rintro e R9 ⟨rfl,A8⟩;have hacc:Below wp.heap.size wp R9:=Below.trans (by assumption) (Below.mono A8 (Below.size (by assumption)))))
   have Ea:=Cw.below hacc Dx
   have LD:=Lib.hid (LC.out.trans (hacc.mono LC.out.size))
   have He:=Lib.hid hacc
   clear hacc
   have oN:=(He.out.cell (p:=⟨p,2,none⟩) Gm).trans MK
   have oK:=(He.out.cell (p:=⟨g2,((j+1))*2,none⟩) EZ).trans OO
   have oJ:=(He.out.cell (p:=⟨g2,((j+1))*2+1,none⟩) EZ).trans ON
   have oO:=(He.out.cell (p:=⟨w.heap.size,1,none⟩) Dx).trans OW
   have oH:=Ea.free 1
   generalize R9=UD at*
   go_wp2
   go_region
   have Cy:Row (UD.setCell ⟨w.heap.size,1,none⟩ (.int .i64 n2)).drew w.heap.size 80 [.int .i64 f,.int .i64 n2]:=(Ea.set 1 (.int .i64 n2)).drewN 1
   have I8:Hid (Below w.heap.size w (UD.setCell ⟨w.heap.size,1,none⟩ (.int .i64 n2)).drew):=AF (LD.out.setCell (p:=⟨w.heap.size,1,none⟩) (Nat.le_refl _) _) 1
   clear oN oK oJ oO oH He LD Ea
   generalize(UD.setCell ⟨w.heap.size,1,none⟩ (.int .i64 n2)).drew=wq at*
   go_wp2
   have KD:Hid (s.fr.take ((j+1))++[(f,n2)]++s.fr.drop ((j+1)+1)=R):=by
    unfold Hid;rw[HR.out];unfold Ck;rw[Gc Rp.out,Od.out]
    dsimp only;rw[jE.out,Om.out]
   have hsz:w.heap.size<wq.heap.size:=Cy.lt
   have c5:wq.cell? ⟨p,2,none⟩=some (.slice (some ⟨g2,0,none⟩) N c):=(H.out.2.1.below I8.out Bm).cell 2
   have b0:wq.cell? ⟨w.heap.size,0,none⟩=some (.int .i64 f):=Cy.cell 0
   have b1:wq.cell? ⟨w.heap.size,1,none⟩=some (.int .i64 n2):=Cy.cell 1
   have TJ:p<wq.heap.size:=by omega
   have BQ:∀W,W=wq.drew.alloc (.cells #[.int .i64 f,.int .i64 n2] 80)→Hid (Below w.heap.size w W):=fun W e=>by subst e;exact(AF I8.out 1).alloc (by have:=I8.out.size;exact this) _
   have CE:∀W,W=wq.drew.alloc (.cells #[.int .i64 f,.int .i64 n2] 80)→Hid (Calls Tryz.prog 110 #[.slice (some ⟨g2,0,none⟩) N c,.int .i64 ((j:Int)+1),.int .i64 ((j:Int)+1+1),.slice (some ⟨wq.heap.size,0,none⟩) 1 1] W (Et W (.slice (some ⟨g2,0,none⟩) N c) R)):=fun W e=>by
    have Ja:=At H.out.2.2.1 (BQ W e).out
    rw[HN.out]at Ja
    have FI:CN W wq.heap.size 1 1 [(f,n2)] [.int .i64 f,.int .i64 n2]:=⟨by subst e;exact heap_alloc_new wq.drew _,rfl,Nat.le_refl _,by omega,rfl,rfl⟩
    have BF:=BH W (i:=(j+1)) (j:=(j+1)+1) Ja FI.own (fun k hk e2=>by have h1:=(H.out.2.2.1.lt k hk).2;(have e3:wq.heap.size=k:=by simpa [Value.ownBlock]using e2);omega) (by omega) (by omega) (by omega) (by omega)
    rw[KD.out]at BF
    have CQ:(((j+1):Nat):Int)=(j:Int)+1:=by omega
    have DB:(((j+1)+1:Nat):Int)=(j:Int)+1+1:=by omega
    first|rw[CQ,DB]at BF|rw[CQ]at BF
    exact BF
   have CE:=CE _ rfl
   have BQ:=BQ _ rfl
   have HC:Hid (∀v' w6,Et (wq.drew.alloc (.cells #[.int .i64 f,.int .i64 n2] 80)) (.slice (some ⟨g2,0,none⟩) N c) R (.returned v') w6→∃G',Es (w6.setCell ⟨p,2,none⟩ v') G' p {s with fr:=R}∧AL G w (w6.setCell ⟨p,2,none⟩ v')∧∀k,G' k→G k∨w.heap.size≤k):=fun v' w6 hg=>DG H.out BQ.out hg DY.out
   clear Od rt Z2 Z1 jo jn rg aA MK Qa OW Gm EZ Dx OO ON WV KJ Mn PR Tv Om OA CP
   have GY:Hid (∀v' w6,Et (wq.drew.alloc (.cells #[.int .i64 f,.int .i64 n2] 80)) (.slice (some ⟨g2,0,none⟩) N c) R (.returned v') w6→w6.cell? ⟨p,2,none⟩=some (.slice (some ⟨g2,0,none⟩) N c)∧w6.frozen? ⟨p,2,none⟩=false):=fun v' w6 hg=>by have:=Bg H.out BQ.out hg;exact⟨this.cell 2,this.free 2⟩
   go_wp2
   go_region_with (go_at_call 110;refine CE.out.mono ?_;rintro e w6 hg;obtain⟨v',rfl,Em,CP,D7⟩:=id hg;have HX:=Lib.hid (HC.out v' w6 hg);obtain⟨c6,f6⟩:=GY.out v' w6 hg;obtain⟨A',c',rfl,_,_,_⟩:=AT Em;clear hg Em CP D7)
   all_goals(go_wp2;go_end0;obtain⟨G',h1,h2,h3⟩:=HX.out;exact⟨G',rfl,h1,h2,h3⟩)
  ·have rt:decide (a2=u2)=false:=by simp;omega
   have Z2:(a2==u2)=false:=by simp;omega
   have Z1:((a2:Int)==(u2:Int))=false:=by simp;omega
   have Od:Hid (CU s.fr ((j+1)) (f+n')=false):=Gb fun _=>by rw[Tv.out];have:=PR.out;have:=jI.out;omega
   go_wp2
   go_region_held3 (fun w'=>Below wp.heap.size wp w'∧w'.cell? ⟨p,2,none⟩=some (.slice (some ⟨g2,0,none⟩) N c)∧w'.cell? ⟨w.heap.size,0,none⟩=some (.int .i64 f)∧w'.cell? ⟨w.heap.size,1,none⟩=some (.int .i64 n')∧w'.cell? ⟨g2,((j+1))*2,none⟩=some (.int .i64 a2)∧w'.cell? ⟨g2,((j+1))*2+1,none⟩=some (.int .i64 b2))
    (first
     |(exact⟨AF (Below.refl _ _) 1,MK,Qa,OW,OO,ON⟩)
     |(exact⟨hacc,(hacc.cell Gm).trans MK,(hacc.cell Dx).trans Qa,(hacc.cell Dx).trans OW,(hacc.cell EZ).trans OO,(hacc.cell EZ).trans ON⟩))
    ((go_split_ands;go_at_call 96;(with_reducible refine(Mn.out _).mono ?_);rintro e R9 ⟨rfl,A8⟩;have hacc:Below wp.heap.size wp R9:=Below.trans (by assumption) (Below.mono A8 (Below.size (by assumption)))))
   have Ea:=Cw.below hacc Dx
   have LD:=Lib.hid (LC.out.trans (hacc.mono LC.out.size))
   have He:=Lib.hid hacc
   clear hacc
   generalize R9=wq at*
   have I8:=LD
   have Cy:=Ea
   go_wp2
   have KD:Hid (s.fr.take ((j+1))++[(f,n')]++s.fr.drop ((j+1))=R):=by
    unfold Hid;rw[HR.out];unfold Ck;rw[Gc Rp.out,Od.out]
   have hsz:w.heap.size<wq.heap.size:=Cy.lt
   have c5:wq.cell? ⟨p,2,none⟩=some (.slice (some ⟨g2,0,none⟩) N c):=(H.out.2.1.below I8.out Bm).cell 2
   have b0:wq.cell? ⟨w.heap.size,0,none⟩=some (.int .i64 f):=Cy.cell 0
   have b1:wq.cell? ⟨w.heap.size,1,none⟩=some (.int .i64 n'):=Cy.cell 1
   have TJ:p<wq.heap.size:=by omega
   have BQ:∀W,W=wq.drew.alloc (.cells #[.int .i64 f,.int .i64 n'] 80)→Hid (Below w.heap.size w W):=fun W e=>by subst e;exact(AF I8.out 1).alloc (by have:=I8.out.size;exact this) _
   have CE:∀W,W=wq.drew.alloc (.cells #[.int .i64 f,.int .i64 n'] 80)→Hid (Calls Tryz.prog 110 #[.slice (some ⟨g2,0,none⟩) N c,.int .i64 ((j:Int)+1),.int .i64 ((j:Int)+1),.slice (some ⟨wq.heap.size,0,none⟩) 1 1] W (Et W (.slice (some ⟨g2,0,none⟩) N c) R)):=fun W e=>by
    have Ja:=At H.out.2.2.1 (BQ W e).out
    rw[HN.out]at Ja
    have FI:CN W wq.heap.size 1 1 [(f,n')] [.int .i64 f,.int .i64 n']:=⟨by subst e;exact heap_alloc_new wq.drew _,rfl,Nat.le_refl _,by omega,rfl,rfl⟩
    have BF:=BH W (i:=(j+1)) (j:=(j+1)) Ja FI.own (fun k hk e2=>by have h1:=(H.out.2.2.1.lt k hk).2;(have e3:wq.heap.size=k:=by simpa [Value.ownBlock]using e2);omega) (by omega) (by omega) (by omega) (by omega)
    rw[KD.out]at BF
    have CQ:(((j+1):Nat):Int)=(j:Int)+1:=by omega
    have DB:(((j+1):Nat):Int)=(j:Int)+1:=by omega
    first|rw[CQ,DB]at BF|rw[CQ]at BF
    exact BF
   have CE:=CE _ rfl
   have BQ:=BQ _ rfl
   have HC:Hid (∀v' w6,Et (wq.drew.alloc (.cells #[.int .i64 f,.int .i64 n'] 80)) (.slice (some ⟨g2,0,none⟩) N c) R (.returned v') w6→∃G',Es (w6.setCell ⟨p,2,none⟩ v') G' p {s with fr:=R}∧AL G w (w6.setCell ⟨p,2,none⟩ v')∧∀k,G' k→G k∨w.heap.size≤k):=fun v' w6 hg=>DG H.out BQ.out hg DY.out
   clear Od rt Z2 Z1 jo jn rg aA MK Qa OW Gm EZ Dx OO ON WV KJ Mn PR Tv Om OA CP
   have GY:Hid (∀v' w6,Et (wq.drew.alloc (.cells #[.int .i64 f,.int .i64 n'] 80)) (.slice (some ⟨g2,0,none⟩) N c) R (.returned v') w6→w6.cell? ⟨p,2,none⟩=some (.slice (some ⟨g2,0,none⟩) N c)∧w6.frozen? ⟨p,2,none⟩=false):=fun v' w6 hg=>by have:=Bg H.out BQ.out hg;exact⟨this.cell 2,this.free 2⟩
   go_wp2
   go_region_with (go_at_call 110;refine CE.out.mono ?_;rintro e w6 hg;obtain⟨v',rfl,Em,CP,D7⟩:=id hg;have HX:=Lib.hid (HC.out v' w6 hg);obtain⟨c6,f6⟩:=GY.out v' w6 hg;obtain⟨A',c',rfl,_,_,_⟩:=AT Em;clear hg Em CP D7)
   all_goals(go_wp2;go_end0;obtain⟨G',h1,h2,h3⟩:=HX.out;exact⟨G',rfl,h1,h2,h3⟩)
 ·have rg:decide (((j:Int)+1:Int)<(N:Int))=false:=by simp;omega
  have aA:decide ((j+1)<N)=false:=by simp;omega
  have Od:Hid (CU s.fr ((j+1)) (f+n')=false):=Gb fun hh=>by rw[HN.out]at hh;omega
  have MK:wp.cell? ⟨p,2,none⟩=some (.slice (some ⟨g0,0,none⟩) N c):=(H.out.2.1.below LC.out Bm).cell 2
  have Gm:p<wp.heap.size:=by have:=Cw.lt;omega
  go_quiet (fail)
  have Cy:=Cw.drewN nq
  have I8:Hid (Below w.heap.size w (wp.drewN nq)):=AF LC.out nq
  generalize wp.drewN nq=wq at*
  go_wp2
  have KD:Hid (s.fr.take ((j+1))++[(f,n')]++s.fr.drop ((j+1))=R):=by
   unfold Hid;rw[HR.out];unfold Ck;rw[Gc Rp.out,Od.out]
  have hsz:w.heap.size<wq.heap.size:=Cy.lt
  have c5:wq.cell? ⟨p,2,none⟩=some (.slice (some ⟨g0,0,none⟩) N c):=(H.out.2.1.below I8.out Bm).cell 2
  have b0:wq.cell? ⟨w.heap.size,0,none⟩=some (.int .i64 f):=Cy.cell 0
  have b1:wq.cell? ⟨w.heap.size,1,none⟩=some (.int .i64 n'):=Cy.cell 1
  have TJ:p<wq.heap.size:=by omega
  have BQ:∀W,W=wq.drew.alloc (.cells #[.int .i64 f,.int .i64 n'] 80)→Hid (Below w.heap.size w W):=fun W e=>by subst e;exact(AF I8.out 1).alloc (by have:=I8.out.size;exact this) _
  have CE:∀W,W=wq.drew.alloc (.cells #[.int .i64 f,.int .i64 n'] 80)→Hid (Calls Tryz.prog 110 #[.slice (some ⟨g0,0,none⟩) N c,.int .i64 ((j:Int)+1),.int .i64 ((j:Int)+1),.slice (some ⟨wq.heap.size,0,none⟩) 1 1] W (Et W (.slice (some ⟨g0,0,none⟩) N c) R)):=fun W e=>by
   have Ja:=At H.out.2.2.1 (BQ W e).out
   rw[HN.out]at Ja
   have FI:CN W wq.heap.size 1 1 [(f,n')] [.int .i64 f,.int .i64 n']:=⟨by subst e;exact heap_alloc_new wq.drew _,rfl,Nat.le_refl _,by omega,rfl,rfl⟩
   have BF:=BH W (i:=(j+1)) (j:=(j+1)) Ja FI.own (fun k hk e2=>by have h1:=(H.out.2.2.1.lt k hk).2;(have e3:wq.heap.size=k:=by simpa [Value.ownBlock]using e2);omega) (by omega) (by omega) (by omega) (by omega)
   rw[KD.out]at BF
   have CQ:(((j+1):Nat):Int)=(j:Int)+1:=by omega
   have DB:(((j+1):Nat):Int)=(j:Int)+1:=by omega
   first|rw[CQ,DB]at BF|rw[CQ]at BF
   exact BF
  have CE:=CE _ rfl
  have BQ:=BQ _ rfl
  have HC:Hid (∀v' w6,Et (wq.drew.alloc (.cells #[.int .i64 f,.int .i64 n'] 80)) (.slice (some ⟨g0,0,none⟩) N c) R (.returned v') w6→∃G',Es (w6.setCell ⟨p,2,none⟩ v') G' p {s with fr:=R}∧AL G w (w6.setCell ⟨p,2,none⟩ v')∧∀k,G' k→G k∨w.heap.size≤k):=fun v' w6 hg=>DG H.out BQ.out hg DY.out
  have GY:Hid (∀v' w6,Et (wq.drew.alloc (.cells #[.int .i64 f,.int .i64 n'] 80)) (.slice (some ⟨g0,0,none⟩) N c) R (.returned v') w6→w6.cell? ⟨p,2,none⟩=some (.slice (some ⟨g0,0,none⟩) N c)∧w6.frozen? ⟨p,2,none⟩=false):=fun v' w6 hg=>by have:=Bg H.out BQ.out hg;exact⟨this.cell 2,this.free 2⟩
  go_wp2
  go_region_with (go_at_call 110;refine CE.out.mono ?_;rintro e w6 hg;obtain⟨v',rfl,Em,CP,D7⟩:=id hg;have HX:=Lib.hid (HC.out v' w6 hg);obtain⟨c6,f6⟩:=GY.out v' w6 hg;obtain⟨A',c',rfl,_,_,_⟩:=AT Em;clear hg Em CP D7)
  all_goals(go_wp2;go_end0;obtain⟨G',h1,h2,h3⟩:=HX.out;exact⟨G',rfl,h1,h2,h3⟩)
theorem gO(p:Nat)(s:Sp)(G:Nat→Prop)(i f n':Nat)(w:World)(h:Es w G p s)(hi:i=BB s.fr f)(h1:s.first≤f)(h2:f+n'≤s.first+s.blocks)(hn:1≤n')(hno:∀b,f≤b→b<f+n'→¬hasB s.fr b)(Jy:0<i)(U2:(Ae s.fr (i-1)).1+(Ae s.fr (i-1)).2=f):
  Calls Tryz.prog 97 #[.pointer (some ⟨p,0,none⟩),.int .i64 i,.agg #[.int .i64 f,.int .i64 n']] w fun e w'=>∃G',e=.returned (.tuple #[])∧Es w' G' p {s with fr:=Ck s.fr i f n'}∧AL G w w'∧∀k,G' k→G k∨w.heap.size≤k:=by
 obtain⟨hok,v,hr,ho,hG⟩:=h
 have GF:=JI hok.2.2 hn h1 h2 hno
 rw[←hi]at GF
 have sX:i≤s.fr.length:=by rw[hi];exact List.findIdx_le_length
 clear hi hno
 have Mf:s.first+s.blocks≤2000000:=by have:=hok.1;have:=hok.2.1;omega
 have N8:∀k,k<s.fr.length→(Ae s.fr k).1+(Ae s.fr k).2≤2000000:=fun k hk=>by have:=hok.2.2.getD hk;omega
 obtain⟨A,c,rfl,hnc,Dn,_⟩:=AT ho
 have hlen:=hok.len
 have c2:w.cell? ⟨p,2,none⟩=some (.slice A s.fr.length c):=hr.cell 2
 have Bm:=hr.lt
 have U1:=hok
 have Bp:∀k,k<s.fr.length→∃g,A=some ⟨g,0,none⟩∧g<w.heap.size∧w.cell? ⟨g,k*2,none⟩=some (.int .i64 (Ae s.fr k).1)∧w.cell? ⟨g,k*2+1,none⟩=some (.int .i64 (Ae s.fr k).2):=fun k hk=>EI ho hk
 have MS:=Lib.hid Bp
 obtain⟨N,hN⟩:∃N,N=s.fr.length:=⟨_,rfl⟩
 have H0:kz w G p s (.slice A N c):=by subst hN;exact⟨hok,hr,ho,hG⟩
 obtain⟨R,hR⟩:∃R,R=Ck s.fr i f n':=⟨_,rfl⟩
 have DY:Hid (({s with fr:=R}:Sp).ok):=by rw[hR];exact⟨hok.1,hok.2.1,GF.1⟩
 rw[←hR]
 have HR:=Lib.hid hR
 have H:=Lib.hid H0
 have HN:Hid (s.fr.length=N):=hN.symm
 have Vm:=Lib.hid N8
 rw[←hN]at c2 hlen sX
 have Mi:f+n'≤2000000:=by omega
 have GW:Hid (Below w.heap.size w (w.alloc (.cells #[.int .i64 f,.int .i64 n'] 80))):=(Below.refl _ _).alloc (Nat.le_refl _) _
 clear GF hok hr ho hG Bp H0 hN hR Mf N8 U1 h1 h2
 obtain⟨j,rfl⟩:∃j,i=j+1:=⟨i-1,by omega⟩
 obtain⟨g0,rfl,sg,mW,mV⟩:=MS.out j (by rw[HN.out];omega)
 have nX:=Vm.out j (by rw[HN.out];omega)
 obtain⟨a0,M3⟩:∃a0,(Ae s.fr j).1=a0:=⟨_,rfl⟩
 obtain⟨b0,hb0⟩:∃b0,(Ae s.fr j).2=b0:=⟨_,rfl⟩
 rw[M3]at mW
 rw[hb0]at mV
 rw[M3,hb0]at nX
 have dx:=Lib.hid M3
 have Tu:=Lib.hid hb0
 obtain⟨u0,mj⟩:∃u0,a0+b0=u0:=⟨_,rfl⟩
 have eZ:Hid (∀W,Calls Tryz.prog 96 #[.agg #[.int .i64 a0,.int .i64 b0]] W fun e w'=>e=.returned (.int .i64 (u0:Nat))∧Below W.heap.size W w'):=fun W=>by have:=EO a0 b0 W (by omega);rwa [mj]at this
 have iZ:=Lib.hid mj
 have Ku:Row (w.alloc (.cells #[.int .i64 f,.int .i64 n'] 80)) w.heap.size 80 [.int .i64 f,.int .i64 n']:=heap_alloc_new _ _
 have lj0:(0:Int)≤(j:Int):=by omega
 have lj1:(j:Int)<(N:Int):=by omega
 have lw1:IntKind.i64.wrap ((j:Int)+1-1)=(j:Int):=by rw[show (j:Int)+1-1=j by omega];exact IntWalk.i64_in _ (by omega)
 have lw2:IntKind.i64.wrap (j:Int)=(j:Int):=IntWalk.i64_in _ (by omega)
 clear mj M3 hb0
 have hlt:u0=f:=by rw[Nat.add_sub_cancel,dx.out,Tu.out,iZ.out]at U2;exact U2
 clear U2
 have xO:decide (u0=f)=true:=by simp;omega
 have xN:(u0==f)=true:=by simp;omega
 have xM:((u0:Int)==(f:Int))=true:=by simp;omega
 obtain⟨n1,kF⟩:∃n1,n1=b0+n':=⟨_,rfl⟩
 have QA:(b0:Int)+(n':Int)=(n1:Int):=by omega
 have Ou:IntKind.i64.wrap (n1:Int)=(n1:Int):=IntWalk.i64_in _ (by have:=iZ.out;omega)
 have Rp:Hid ((Ae s.fr (j+1-1)).1+(Ae s.fr (j+1-1)).2=f):=by unfold Hid;rw[Nat.add_sub_cancel,dx.out,Tu.out,iZ.out];exact hlt
 have lJ:Hid ((Ae s.fr (j+1-1)).1=a0):=by unfold Hid;rw[Nat.add_sub_cancel];exact dx.out
 have qf:Hid ((Ae s.fr (j+1-1)).2+n'=n1):=by unfold Hid;rw[Nat.add_sub_cancel,Tu.out];exact kF.symm
 have jI:Hid (f+n'=a0+n1):=by unfold Hid;have:=iZ.out;omega
 have zB:a0+n1≤2000000:=by have:=jI.out;omega
 clear kF
 go_enter Tryz.func97,Tryz.ntmps97
 go_wp2
 generalize w.alloc (.cells #[.int .i64 f,.int .i64 n'] 80)=wb at*
 have Y1:=GW
 have kr:wb.cell? ⟨p,2,none⟩=some (.slice (some ⟨g0,0,none⟩) N c):=(H.out.2.1.below Y1.out Bm).cell 2
 have oP:wb.cell? ⟨w.heap.size,0,none⟩=some (.int .i64 f):=Ku.cell 0
 have Sw:=(Y1.out.cell (p:=⟨g0,j*2,none⟩) sg).trans mW
 have Sv:=(Y1.out.cell (p:=⟨g0,j*2+1,none⟩) sg).trans mV
 have RO:w.heap.size<wb.heap.size:=Ku.lt
 have YK:p<wb.heap.size:=by omega
 have RR:g0<wb.heap.size:=by omega
 go_region_held3 (fun w'=>Below wb.heap.size wb w'∧w'.cell? ⟨p,2,none⟩=some (.slice (some ⟨g0,0,none⟩) N c)∧w'.cell? ⟨w.heap.size,0,none⟩=some (.int .i64 f)∧w'.cell? ⟨g0,j*2,none⟩=some (.int .i64 a0)∧w'.cell? ⟨g0,j*2+1,none⟩=some (.int .i64 b0))
  (first
   |(exact⟨AF (Below.refl _ _) 1,kr,oP,Sw,Sv⟩)
   |(exact⟨hacc,(hacc.cell YK).trans kr,(hacc.cell RO).trans oP,(hacc.cell RR).trans Sw,(hacc.cell RR).trans Sv⟩))
  ((go_split_ands;go_at_call 96;(with_reducible refine(eZ.out _).mono ?_);rintro e ef ⟨rfl,A8⟩;have hacc:Below wb.heap.size wb ef:=Below.trans (by assumption) (Below.mono A8 (Below.size (by assumption)))))
 have Kv:=Ku.below hacc RO
 have dr:=Lib.hid (Y1.out.trans (hacc.mono Y1.out.size))
 have Qk:=Lib.hid hacc
 clear hacc
 have oN:=(Qk.out.cell (p:=⟨p,2,none⟩) YK).trans kr
 have oK:=(Qk.out.cell (p:=⟨g0,j*2,none⟩) RR).trans Sw
 have oJ:=(Qk.out.cell (p:=⟨g0,j*2+1,none⟩) RR).trans Sv
 have oO:ef.cell? ⟨w.heap.size,1,none⟩=some (.int .i64 n'):=Kv.cell 1
 have b0q:ef.cell? ⟨w.heap.size,0,none⟩=some (.int .i64 f):=Kv.cell 0
 have oH:=Kv.free 1
 have zl:=Kv.free 0
 generalize ef=UD at*
 clear kr oP Sw Sv
 go_wp2
 go_region
 have Cw:Row ((UD.setCell ⟨w.heap.size,0,none⟩ (.int .i64 a0)).setCell ⟨w.heap.size,1,none⟩ (.int .i64 n1)).drew w.heap.size 80 [.int .i64 a0,.int .i64 n1]:=((Kv.set 0 (.int .i64 a0)).set 1 (.int .i64 n1)).drewN 1
 have LC:Hid (Below w.heap.size w ((UD.setCell ⟨w.heap.size,0,none⟩ (.int .i64 a0)).setCell ⟨w.heap.size,1,none⟩ (.int .i64 n1)).drew):=AF ((dr.out.setCell (p:=⟨w.heap.size,0,none⟩) (Nat.le_refl _) _).setCell (p:=⟨w.heap.size,1,none⟩) (Nat.le_refl _) _) 1
 clear oN oK oJ oO b0q oH zl Qk Kv dr RO YK RR Ku Y1 GW xO xN xM eZ iZ dx Tu mW mV
 generalize((UD.setCell ⟨w.heap.size,0,none⟩ (.int .i64 a0)).setCell ⟨w.heap.size,1,none⟩ (.int .i64 n1)).drew=wp at*
 go_wp2
 by_cases bM:(j+1)<N
 ·obtain⟨g2,Oz,CP,WV,KJ⟩:=MS.out ((j+1)) (by rw[HN.out];exact bM)
  have OA:=Vm.out ((j+1)) (by rw[HN.out];exact bM)
  obtain rfl:g2=g0:=by injection Oz with Oz;injection Oz with Oz;exact Oz.symm
  obtain⟨a2,Kx⟩:∃a2,(Ae s.fr ((j+1))).1=a2:=⟨_,rfl⟩
  obtain⟨b2,AZ⟩:∃b2,(Ae s.fr ((j+1))).2=b2:=⟨_,rfl⟩
  rw[Kx]at WV
  rw[AZ]at KJ
  rw[Kx,AZ]at OA
  have Tv:=Lib.hid Kx
  have Om:=Lib.hid AZ
  obtain⟨u2,Ew⟩:∃u2,a0+n1=u2:=⟨_,rfl⟩
  have Mn:Hid (∀W,Calls Tryz.prog 96 #[.agg #[.int .i64 a0,.int .i64 n1]] W fun e w'=>e=.returned (.int .i64 (u2:Nat))∧Below W.heap.size W w'):=fun W=>by have:=EO (a0) (n1) W (by omega);rwa [Ew]at this
  have PR:=Lib.hid Ew
  have MK:wp.cell? ⟨p,2,none⟩=some (.slice (some ⟨g2,0,none⟩) N c):=(H.out.2.1.below LC.out Bm).cell 2
  have Qa:wp.cell? ⟨w.heap.size,0,none⟩=some (.int .i64 a0):=Cw.cell 0
  have OW:wp.cell? ⟨w.heap.size,1,none⟩=some (.int .i64 n1):=Cw.cell 1
  have OO:=(LC.out.cell (p:=⟨g2,((j+1))*2,none⟩) CP).trans WV
  have ON:=(LC.out.cell (p:=⟨g2,((j+1))*2+1,none⟩) CP).trans KJ
  have Dx:w.heap.size<wp.heap.size:=Cw.lt
  have Gm:p<wp.heap.size:=by omega
  have EZ:g2<wp.heap.size:=by omega
  have jn:((j:Int)+1:Int)<(N:Int):=by omega
  have jo:(0:Int)≤((j:Int)+1:Int):=by omega
  have rg:decide (((j:Int)+1:Int)<(N:Int))=true:=by simp;omega
  have aA:decide ((j+1)<N)=true:=by simp;omega
  clear Ew Kx AZ
  by_cases EL:a2=u2
  ·have rt:decide (a2=u2)=true:=by simp;omega
   have Z2:(a2==u2)=true:=by simp;omega
   have Z1:((a2:Int)==(u2:Int))=true:=by simp;omega
   obtain⟨n2,TM⟩:∃n2,n2=n1+b2:=⟨_,rfl⟩
   have OC:(n1:Int)+(b2:Int)=(n2:Int):=by omega
   have Ek:IntKind.i64.wrap (n2:Int)=(n2:Int):=IntWalk.i64_in _ (by omega)
   have hwi:IntKind.i64.wrap (((j:Int)+1:Int)+1)=((j:Int)+1:Int)+1:=IntWalk.i64_in _ (by omega)
   have Od:Hid (CU s.fr ((j+1)) (f+n')=true):=NP (by rw[HN.out];exact bM) (by rw[Tv.out];have:=PR.out;have:=jI.out;omega)
   have jE:=Lib.hid TM
   clear TM
   go_region_held3 (fun w'=>Below wp.heap.size wp w'∧w'.cell? ⟨p,2,none⟩=some (.slice (some ⟨g2,0,none⟩) N c)∧w'.cell? ⟨w.heap.size,0,none⟩=some (.int .i64 a0)∧w'.cell? ⟨w.heap.size,1,none⟩=some (.int .i64 n1)∧w'.cell? ⟨g2,((j+1))*2,none⟩=some (.int .i64 a2)∧w'.cell? ⟨g2,((j+1))*2+1,none⟩=some (.int .i64 b2))
    (first
     |(exact⟨AF (Below.refl _ _) 1,MK,Qa,OW,OO,ON⟩)
     |(exact⟨hacc,(hacc.cell Gm).trans MK,(hacc.cell Dx).trans Qa,(hacc.cell Dx).trans OW,(hacc.cell EZ).trans OO,(hacc.cell EZ).trans ON⟩))
    ((go_split_ands;go_at_call 96;(with_reducible refine(Mn.out _).mono ?_);rintro e R9 ⟨rfl,A8⟩;have hacc:Below wp.heap.size wp R9:=Below.trans (by assumption) (Below.mono A8 (Below.size (by assumption)))))
   have Ea:=Cw.below hacc Dx
   have LD:=Lib.hid (LC.out.trans (hacc.mono LC.out.size))
   have He:=Lib.hid hacc
   clear hacc
   have oN:=(He.out.cell (p:=⟨p,2,none⟩) Gm).trans MK
   have oK:=(He.out.cell (p:=⟨g2,((j+1))*2,none⟩) EZ).trans OO
   have oJ:=(He.out.cell (p:=⟨g2,((j+1))*2+1,none⟩) EZ).trans ON
   have oO:=(He.out.cell (p:=⟨w.heap.size,1,none⟩) Dx).trans OW
   have oH:=Ea.free 1
   generalize R9=UD at*
   go_wp2
   go_region
   have Cy:Row (UD.setCell ⟨w.heap.size,1,none⟩ (.int .i64 n2)).drew w.heap.size 80 [.int .i64 a0,.int .i64 n2]:=(Ea.set 1 (.int .i64 n2)).drewN 1
   have I8:Hid (Below w.heap.size w (UD.setCell ⟨w.heap.size,1,none⟩ (.int .i64 n2)).drew):=AF (LD.out.setCell (p:=⟨w.heap.size,1,none⟩) (Nat.le_refl _) _) 1
   clear oN oK oJ oO oH He LD Ea
   generalize(UD.setCell ⟨w.heap.size,1,none⟩ (.int .i64 n2)).drew=wq at*
   go_wp2
   have KD:Hid (s.fr.take (j)++[(a0,n2)]++s.fr.drop ((j+1)+1)=R):=by
    unfold Hid;rw[HR.out];unfold Ck;rw[NQ (by omega) Rp.out,Od.out]
    dsimp only;rw[lJ.out,qf.out,jE.out,Om.out];simp
   have hsz:w.heap.size<wq.heap.size:=Cy.lt
   have c5:wq.cell? ⟨p,2,none⟩=some (.slice (some ⟨g2,0,none⟩) N c):=(H.out.2.1.below I8.out Bm).cell 2
   have b0:wq.cell? ⟨w.heap.size,0,none⟩=some (.int .i64 a0):=Cy.cell 0
   have b1:wq.cell? ⟨w.heap.size,1,none⟩=some (.int .i64 n2):=Cy.cell 1
   have TJ:p<wq.heap.size:=by omega
   have BQ:∀W,W=wq.drew.alloc (.cells #[.int .i64 a0,.int .i64 n2] 80)→Hid (Below w.heap.size w W):=fun W e=>by subst e;exact(AF I8.out 1).alloc (by have:=I8.out.size;exact this) _
   have CE:∀W,W=wq.drew.alloc (.cells #[.int .i64 a0,.int .i64 n2] 80)→Hid (Calls Tryz.prog 110 #[.slice (some ⟨g2,0,none⟩) N c,.int .i64 ((j:Int)),.int .i64 ((j:Int)+1+1),.slice (some ⟨wq.heap.size,0,none⟩) 1 1] W (Et W (.slice (some ⟨g2,0,none⟩) N c) R)):=fun W e=>by
    have Ja:=At H.out.2.2.1 (BQ W e).out
    rw[HN.out]at Ja
    have FI:CN W wq.heap.size 1 1 [(a0,n2)] [.int .i64 a0,.int .i64 n2]:=⟨by subst e;exact heap_alloc_new wq.drew _,rfl,Nat.le_refl _,by omega,rfl,rfl⟩
    have BF:=BH W (i:=j) (j:=(j+1)+1) Ja FI.own (fun k hk e2=>by have h1:=(H.out.2.2.1.lt k hk).2;(have e3:wq.heap.size=k:=by simpa [Value.ownBlock]using e2);omega) (by omega) (by omega) (by omega) (by omega)
    rw[KD.out]at BF
    have CQ:((j:Nat):Int)=(j:Int):=by omega
    have DB:(((j+1)+1:Nat):Int)=(j:Int)+1+1:=by omega
    first|rw[CQ,DB]at BF|rw[CQ]at BF
    exact BF
   have CE:=CE _ rfl
   have BQ:=BQ _ rfl
   have HC:Hid (∀v' w6,Et (wq.drew.alloc (.cells #[.int .i64 a0,.int .i64 n2] 80)) (.slice (some ⟨g2,0,none⟩) N c) R (.returned v') w6→∃G',Es (w6.setCell ⟨p,2,none⟩ v') G' p {s with fr:=R}∧AL G w (w6.setCell ⟨p,2,none⟩ v')∧∀k,G' k→G k∨w.heap.size≤k):=fun v' w6 hg=>DG H.out BQ.out hg DY.out
   clear Od rt Z2 Z1 jo jn rg aA MK Qa OW Gm EZ Dx OO ON WV KJ Mn PR Tv Om OA CP
   have GY:Hid (∀v' w6,Et (wq.drew.alloc (.cells #[.int .i64 a0,.int .i64 n2] 80)) (.slice (some ⟨g2,0,none⟩) N c) R (.returned v') w6→w6.cell? ⟨p,2,none⟩=some (.slice (some ⟨g2,0,none⟩) N c)∧w6.frozen? ⟨p,2,none⟩=false):=fun v' w6 hg=>by have:=Bg H.out BQ.out hg;exact⟨this.cell 2,this.free 2⟩
   go_wp2
   go_region_with (go_at_call 110;refine CE.out.mono ?_;rintro e w6 hg;obtain⟨v',rfl,Em,CP,D7⟩:=id hg;have HX:=Lib.hid (HC.out v' w6 hg);obtain⟨c6,f6⟩:=GY.out v' w6 hg;obtain⟨A',c',rfl,_,_,_⟩:=AT Em;clear hg Em CP D7)
   all_goals(go_wp2;go_end0;obtain⟨G',h1,h2,h3⟩:=HX.out;exact⟨G',rfl,h1,h2,h3⟩)
  ·have rt:decide (a2=u2)=false:=by simp;omega
   have Z2:(a2==u2)=false:=by simp;omega
   have Z1:((a2:Int)==(u2:Int))=false:=by simp;omega
   have Od:Hid (CU s.fr ((j+1)) (f+n')=false):=Gb fun _=>by rw[Tv.out];have:=PR.out;have:=jI.out;omega
   go_wp2
   go_region_held3 (fun w'=>Below wp.heap.size wp w'∧w'.cell? ⟨p,2,none⟩=some (.slice (some ⟨g2,0,none⟩) N c)∧w'.cell? ⟨w.heap.size,0,none⟩=some (.int .i64 a0)∧w'.cell? ⟨w.heap.size,1,none⟩=some (.int .i64 n1)∧w'.cell? ⟨g2,((j+1))*2,none⟩=some (.int .i64 a2)∧w'.cell? ⟨g2,((j+1))*2+1,none⟩=some (.int .i64 b2))
    (first
     |(exact⟨AF (Below.refl _ _) 1,MK,Qa,OW,OO,ON⟩)
     |(exact⟨hacc,(hacc.cell Gm).trans MK,(hacc.cell Dx).trans Qa,(hacc.cell Dx).trans OW,(hacc.cell EZ).trans OO,(hacc.cell EZ).trans ON⟩))
    ((go_split_ands;go_at_call 96;(with_reducible refine(Mn.out _).mono ?_);rintro e R9 ⟨rfl,A8⟩;have hacc:Below wp.heap.size wp R9:=Below.trans (by assumption) (Below.mono A8 (Below.size (by assumption)))))
   have Ea:=Cw.below hacc Dx
   have LD:=Lib.hid (LC.out.trans (hacc.mono LC.out.size))
   have He:=Lib.hid hacc
   clear hacc
   generalize R9=wq at*
   have I8:=LD
   have Cy:=Ea
   go_wp2
   have KD:Hid (s.fr.take (j)++[(a0,n1)]++s.fr.drop ((j+1))=R):=by
    unfold Hid;rw[HR.out];unfold Ck;rw[NQ (by omega) Rp.out,Od.out]
    dsimp only;rw[lJ.out,qf.out];simp
   have hsz:w.heap.size<wq.heap.size:=Cy.lt
   have c5:wq.cell? ⟨p,2,none⟩=some (.slice (some ⟨g2,0,none⟩) N c):=(H.out.2.1.below I8.out Bm).cell 2
   have b0:wq.cell? ⟨w.heap.size,0,none⟩=some (.int .i64 a0):=Cy.cell 0
   have b1:wq.cell? ⟨w.heap.size,1,none⟩=some (.int .i64 n1):=Cy.cell 1
   have TJ:p<wq.heap.size:=by omega
   have BQ:∀W,W=wq.drew.alloc (.cells #[.int .i64 a0,.int .i64 n1] 80)→Hid (Below w.heap.size w W):=fun W e=>by subst e;exact(AF I8.out 1).alloc (by have:=I8.out.size;exact this) _
   have CE:∀W,W=wq.drew.alloc (.cells #[.int .i64 a0,.int .i64 n1] 80)→Hid (Calls Tryz.prog 110 #[.slice (some ⟨g2,0,none⟩) N c,.int .i64 ((j:Int)),.int .i64 ((j:Int)+1),.slice (some ⟨wq.heap.size,0,none⟩) 1 1] W (Et W (.slice (some ⟨g2,0,none⟩) N c) R)):=fun W e=>by
    have Ja:=At H.out.2.2.1 (BQ W e).out
    rw[HN.out]at Ja
    have FI:CN W wq.heap.size 1 1 [(a0,n1)] [.int .i64 a0,.int .i64 n1]:=⟨by subst e;exact heap_alloc_new wq.drew _,rfl,Nat.le_refl _,by omega,rfl,rfl⟩
    have BF:=BH W (i:=j) (j:=(j+1)) Ja FI.own (fun k hk e2=>by have h1:=(H.out.2.2.1.lt k hk).2;(have e3:wq.heap.size=k:=by simpa [Value.ownBlock]using e2);omega) (by omega) (by omega) (by omega) (by omega)
    rw[KD.out]at BF
    have CQ:((j:Nat):Int)=(j:Int):=by omega
    have DB:(((j+1):Nat):Int)=(j:Int)+1:=by omega
    first|rw[CQ,DB]at BF|rw[CQ]at BF
    exact BF
   have CE:=CE _ rfl
   have BQ:=BQ _ rfl
   have HC:Hid (∀v' w6,Et (wq.drew.alloc (.cells #[.int .i64 a0,.int .i64 n1] 80)) (.slice (some ⟨g2,0,none⟩) N c) R (.returned v') w6→∃G',Es (w6.setCell ⟨p,2,none⟩ v') G' p {s with fr:=R}∧AL G w (w6.setCell ⟨p,2,none⟩ v')∧∀k,G' k→G k∨w.heap.size≤k):=fun v' w6 hg=>DG H.out BQ.out hg DY.out
   clear Od rt Z2 Z1 jo jn rg aA MK Qa OW Gm EZ Dx OO ON WV KJ Mn PR Tv Om OA CP
   have GY:Hid (∀v' w6,Et (wq.drew.alloc (.cells #[.int .i64 a0,.int .i64 n1] 80)) (.slice (some ⟨g2,0,none⟩) N c) R (.returned v') w6→w6.cell? ⟨p,2,none⟩=some (.slice (some ⟨g2,0,none⟩) N c)∧w6.frozen? ⟨p,2,none⟩=false):=fun v' w6 hg=>by have:=Bg H.out BQ.out hg;exact⟨this.cell 2,this.free 2⟩
   go_wp2
   go_region_with (go_at_call 110;refine CE.out.mono ?_;rintro e w6 hg;obtain⟨v',rfl,Em,CP,D7⟩:=id hg;have HX:=Lib.hid (HC.out v' w6 hg);obtain⟨c6,f6⟩:=GY.out v' w6 hg;obtain⟨A',c',rfl,_,_,_⟩:=AT Em;clear hg Em CP D7)
   all_goals(go_wp2;go_end0;obtain⟨G',h1,h2,h3⟩:=HX.out;exact⟨G',rfl,h1,h2,h3⟩)
 ·have rg:decide (((j:Int)+1:Int)<(N:Int))=false:=by simp;omega
  have aA:decide ((j+1)<N)=false:=by simp;omega
  have Od:Hid (CU s.fr ((j+1)) (f+n')=false):=Gb fun hh=>by rw[HN.out]at hh;omega
  have MK:wp.cell? ⟨p,2,none⟩=some (.slice (some ⟨g0,0,none⟩) N c):=(H.out.2.1.below LC.out Bm).cell 2
  have Gm:p<wp.heap.size:=by have:=Cw.lt;omega
  go_quiet (fail)
  have Cy:=Cw.drewN nq
  have I8:Hid (Below w.heap.size w (wp.drewN nq)):=AF LC.out nq
  generalize wp.drewN nq=wq at*
  go_wp2
  have KD:Hid (s.fr.take (j)++[(a0,n1)]++s.fr.drop ((j+1))=R):=by
   unfold Hid;rw[HR.out];unfold Ck;rw[NQ (by omega) Rp.out,Od.out]
   dsimp only;rw[lJ.out,qf.out];simp
  have hsz:w.heap.size<wq.heap.size:=Cy.lt
  have c5:wq.cell? ⟨p,2,none⟩=some (.slice (some ⟨g0,0,none⟩) N c):=(H.out.2.1.below I8.out Bm).cell 2
  have b0:wq.cell? ⟨w.heap.size,0,none⟩=some (.int .i64 a0):=Cy.cell 0
  have b1:wq.cell? ⟨w.heap.size,1,none⟩=some (.int .i64 n1):=Cy.cell 1
  have TJ:p<wq.heap.size:=by omega
  have BQ:∀W,W=wq.drew.alloc (.cells #[.int .i64 a0,.int .i64 n1] 80)→Hid (Below w.heap.size w W):=fun W e=>by subst e;exact(AF I8.out 1).alloc (by have:=I8.out.size;exact this) _
  have CE:∀W,W=wq.drew.alloc (.cells #[.int .i64 a0,.int .i64 n1] 80)→Hid (Calls Tryz.prog 110 #[.slice (some ⟨g0,0,none⟩) N c,.int .i64 ((j:Int)),.int .i64 ((j:Int)+1),.slice (some ⟨wq.heap.size,0,none⟩) 1 1] W (Et W (.slice (some ⟨g0,0,none⟩) N c) R)):=fun W e=>by
   have Ja:=At H.out.2.2.1 (BQ W e).out
   rw[HN.out]at Ja
   have FI:CN W wq.heap.size 1 1 [(a0,n1)] [.int .i64 a0,.int .i64 n1]:=⟨by subst e;exact heap_alloc_new wq.drew _,rfl,Nat.le_refl _,by omega,rfl,rfl⟩
   have BF:=BH W (i:=j) (j:=(j+1)) Ja FI.own (fun k hk e2=>by have h1:=(H.out.2.2.1.lt k hk).2;(have e3:wq.heap.size=k:=by simpa [Value.ownBlock]using e2);omega) (by omega) (by omega) (by omega) (by omega)
   rw[KD.out]at BF
   have CQ:((j:Nat):Int)=(j:Int):=by omega
   have DB:(((j+1):Nat):Int)=(j:Int)+1:=by omega
   first|rw[CQ,DB]at BF|rw[CQ]at BF
   exact BF
  have CE:=CE _ rfl
  have BQ:=BQ _ rfl
  have HC:Hid (∀v' w6,Et (wq.drew.alloc (.cells #[.int .i64 a0,.int .i64 n1] 80)) (.slice (some ⟨g0,0,none⟩) N c) R (.returned v') w6→∃G',Es (w6.setCell ⟨p,2,none⟩ v') G' p {s with fr:=R}∧AL G w (w6.setCell ⟨p,2,none⟩ v')∧∀k,G' k→G k∨w.heap.size≤k):=fun v' w6 hg=>DG H.out BQ.out hg DY.out
  have GY:Hid (∀v' w6,Et (wq.drew.alloc (.cells #[.int .i64 a0,.int .i64 n1] 80)) (.slice (some ⟨g0,0,none⟩) N c) R (.returned v') w6→w6.cell? ⟨p,2,none⟩=some (.slice (some ⟨g0,0,none⟩) N c)∧w6.frozen? ⟨p,2,none⟩=false):=fun v' w6 hg=>by have:=Bg H.out BQ.out hg;exact⟨this.cell 2,this.free 2⟩
  go_wp2
  go_region_with (go_at_call 110;refine CE.out.mono ?_;rintro e w6 hg;obtain⟨v',rfl,Em,CP,D7⟩:=id hg;have HX:=Lib.hid (HC.out v' w6 hg);obtain⟨c6,f6⟩:=GY.out v' w6 hg;obtain⟨A',c',rfl,_,_,_⟩:=AT Em;clear hg Em CP D7)
  all_goals(go_wp2;go_end0;obtain⟨G',h1,h2,h3⟩:=HX.out;exact⟨G',rfl,h1,h2,h3⟩)
theorem ai(p:Nat)(s:Sp)(G:Nat→Prop)(i f n':Nat)(w:World)(h:Es w G p s)(hi:i=BB s.fr f)(h1:s.first≤f)(h2:f+n'≤s.first+s.blocks)(hn:1≤n')(hno:∀b,f≤b→b<f+n'→¬hasB s.fr b):
  Calls Tryz.prog 97 #[.pointer (some ⟨p,0,none⟩),.int .i64 i,.agg #[.int .i64 f,.int .i64 n']] w fun e w'=>∃G',e=.returned (.tuple #[])∧Es w' G' p {s with fr:=Ck s.fr i f n'}∧AL G w w'∧∀k,G' k→G k∨w.heap.size≤k:=by
 by_cases Jy:0<i
 ·by_cases hlt:(Ae s.fr (i-1)).1+(Ae s.fr (i-1)).2=f
  ·exact gO p s G i f n' w h hi h1 h2 hn hno Jy hlt
  ·exact gP p s G i f n' w h hi h1 h2 hn hno Jy hlt
 ·exact gQ p s G i f n' w h hi h1 h2 hn hno Jy
theorem Next.refl{w:World}{G:Nat→Prop}{p:Nat}{s:Sp}(h:Es w G p s):Next w G p s w:=Next.AJ h (Below.refl _ _)
theorem TV(p:Nat)(s:Sp)(G:Nat→Prop)(f n:Int)(w:World)(h:Es w G p s)(hf:Fv f)(hn:Fv n):
  Calls Tryz.prog 78 #[.pointer (some ⟨p,0,none⟩),.int .i64 f,.int .i64 n] w fun e w'=>e=.returned (.int .i64 ((CY s f n).2:Nat))∧Next w G p (CY s f n).1 w':=by
 by_cases h1:n<1
 ·have g1:decide (n<1)=true:=by simpa using h1
  have J9:CY s f n=(s,1):=by unfold CY;rw[if_pos (.inl h1)]
  rw[J9]
  have HN:Hid (Next w G p s w):=Next.refl h
  clear h h1 J9
  go_enter Tryz.func78,Tryz.ntmps78
  go_wp2
  go_ret
  exact⟨rfl,HN.out⟩
 have g1:decide (n<1)=false:=by simpa using h1
 obtain⟨hok,v,hr,ho,hG⟩:=id h
 obtain⟨A,c,rfl,hnc,Dn,_⟩:=AT ho
 have hlen:=hok.len
 have Mf:s.first+s.blocks≤2000000:=by have:=hok.1;have:=hok.2.1;omega
 have c0:w.cell? ⟨p,0,none⟩=some (.int .i64 s.first):=hr.cell 0
 have c1:w.cell? ⟨p,1,none⟩=some (.int .i64 s.blocks):=hr.cell 1
 have c2:w.cell? ⟨p,2,none⟩=some (.slice A s.fr.length c):=hr.cell 2
 have Bm:=hr.lt
 have HH:Hid (∀W,Calls Tryz.prog 90 #[.agg #[.int .i64 s.first,.int .i64 s.blocks],.int .i64 f,.int .i64 n] W fun e w'=>e=.returned (.bool (decide ((s.first:Int)≤f)&&decide (n≤((s.first+s.blocks:Nat):Int)-f)))∧Below W.heap.size W w'):=fun W=>Px s.first s.blocks f n W (by omega) hf
 by_cases h2:¬((s.first:Int)≤f∧n≤((s.first+s.blocks:Nat):Int)-f)
 ·have bY:(decide ((s.first:Int)≤f)&&decide (n≤((s.first+s.blocks:Nat):Int)-f))=false:=by
   cases hq:(decide ((s.first:Int)≤f)&&decide (n≤((s.first+s.blocks:Nat):Int)-f))with
   |false=>rfl
   |true=>simp only[Bool.and_eq_true,decide_eq_true_eq]at hq;exact absurd hq h2
  have J9:CY s f n=(s,1):=by unfold CY;rw[if_pos (.inr (.inl h2))]
  rw[J9]
  have ZH:=Lib.hid bY
  have H:=Lib.hid h
  generalize s.fr.length=N at*
  clear h h1 h2 J9 bY hok hr ho hG
  go_enter Tryz.func78,Tryz.ntmps78
  go_wp2_with fail
  refine(HH.out _).mono ?_
  rintro e w2 ⟨rfl,AZ⟩
  rw[ZH.out]
  have HX:Hid (Next w G p s w2):=Next.AJ H.out AZ
  clear AZ
  go_wp2
  go_ret
  exact⟨rfl,HX.out⟩
 have h2:=Classical.not_not.1 h2
 obtain⟨f,rfl⟩:∃f':Nat,f=(f':Int):=⟨f.toNat,by omega⟩
 obtain⟨n',rfl⟩:∃n':Nat,n=(n':Int):=⟨n.toNat,by omega⟩
 have bY:(decide ((s.first:Int)≤(f:Int))&&decide ((n':Int)≤((s.first+s.blocks:Nat):Int)-(f:Int)))=true:=by simp only[Bool.and_eq_true,decide_eq_true_eq];exact h2
 have ZH:=Lib.hid bY
 have J9:CY s (f:Int) (n':Int)=if BB s.fr f<s.fr.length∧(Ae s.fr (BB s.fr f)).1<f+n' then (s,1)else ({s with fr:=Ck s.fr (BB s.fr f) f n'},0):=by
  unfold CY
  simp only[Int.toNat_natCast]
  by_cases hq:BB s.fr f<s.fr.length∧(Ae s.fr (BB s.fr f)).1<f+n'
  ·rw[if_pos hq,if_pos (.inr (.inr hq))]
  ·rw[if_neg hq,if_neg (by rintro(h3|h3|h3);exact h1 h3;exact h3 h2;exact hq h3)]
 have Iw:s.first≤f:=by omega
 have Di:f+n'≤s.first+s.blocks:=by omega
 have nG:1≤n':=by omega
 have AF6:f+n'≤2000000:=by omega
 have hno:=JG hok.2.2 (f:=f) nG
 have vu:BB s.fr f≤s.fr.length:=List.findIdx_le_length
 have R2:Hid (∀W,Below w.heap.size w W→Calls Tryz.prog 89 #[.pointer (some ⟨p,0,none⟩),.int .i64 (f:Int)] W fun e w'=>e=.returned (.int .i64 (BB s.fr f:Nat))∧Below W.heap.size W w'):=fun W hb=>by
  have:=NW p s G (f:Int) W (h.below hb)
  rw[Pp]at this
  exact this
 have HJ:Hid (¬(BB s.fr f<s.fr.length∧(Ae s.fr (BB s.fr f)).1<f+n')→∀W,Below w.heap.size w W→Calls Tryz.prog 97 #[.pointer (some ⟨p,0,none⟩),.int .i64 (BB s.fr f:Nat),.agg #[.int .i64 (f:Int),.int .i64 (n':Int)]] W fun e w'=>e=.returned (.tuple #[])∧Next w G p {s with fr:=Ck s.fr (BB s.fr f) f n'} w'):=fun hq W hb=>
  (ai p s G (BB s.fr f) f n' W (h.below hb) rfl Iw Di nG (hno.2 fun hlt=>by
   rcases Nat.lt_or_ge (Ae s.fr (BB s.fr f)).1 (f+n')with h3|h3
   ·exact absurd ⟨hlt,h3⟩ hq
   ·exact h3)).mono fun e w' ⟨G',h1,h2⟩=>⟨h1,Next.behind hb ⟨G',h2⟩⟩
 obtain⟨u,hu⟩:∃u,f+n'=u:=⟨_,rfl⟩
 have HE:Hid (∀W,Calls Tryz.prog 96 #[.agg #[.int .i64 (f:Int),.int .i64 (n':Int)]] W fun e w'=>e=.returned (.int .i64 (u:Nat))∧Below W.heap.size W w'):=fun W=>by have:=EO f n' W (by omega);rwa [hu]at this
 rw[hu]at J9 HJ
 have MS:Hid (∀k,k<s.fr.length→∃g,A=some ⟨g,0,none⟩∧g<w.heap.size∧w.cell? ⟨g,k*2,none⟩=some (.int .i64 (Ae s.fr k).1)∧w.cell? ⟨g,k*2+1,none⟩=some (.int .i64 (Ae s.fr k).2)):=fun k hk=>EI ho hk
 have H:=Lib.hid h
 obtain⟨N,hN⟩:∃N,N=s.fr.length:=⟨_,rfl⟩
 rw[←hN]at c2 hlen vu J9 HJ MS
 have HN:=Lib.hid hN
 generalize Ck s.fr (BB s.fr f) f n'=R at*
 generalize BB s.fr f=i at*
 have Mj:=fun(W:World) (hb:Below w.heap.size w W)=>(hb.alloc (o:=.cells #[.int .i64 (f:Int),.int .i64 (n':Int)] 80) hb.size)
 have PU:=Lib.hid Mj
 clear h h1 h2 bY hok hr ho hG hno hu Mf hN Mj Iw Di
 by_cases hlt:i<N
 ·obtain⟨g,rfl,hg,IM,Hh⟩:=MS.out i hlt
  generalize(Ae s.fr i).1=a at*
  have xX:(0:Int)≤(i:Int):=by omega
  have xW:(i:Int)<(N:Int):=by omega
  have gi:decide ((i:Int)<(N:Int))=true:=by simp;omega
  have gi2:decide (i<N)=true:=by simp;omega
  by_cases zM:a<u
  ·have ga:decide ((a:Int)<(u:Int))=true:=by simp;omega
   have ga2:decide (a<u)=true:=by simp;omega
   rw[if_pos ⟨hlt,zM⟩]at J9
   rw[J9]
   dsimp only
   clear J9 HJ
   go_enter Tryz.func78,Tryz.ntmps78
   go_wp2_with fail
   refine(HH.out _).mono ?_
   rintro e w2 ⟨rfl,AZ⟩
   rw[ZH.out]
   have Bt:=Lib.hid AZ
   clear AZ
   go_wp2_with fail
   refine(R2.out _ (PU.out _ Bt.out)).mono ?_
   rintro e w3 ⟨rfl,A8⟩
   have Mj:Row (w2.alloc (.cells #[.int .i64 (f:Int),.int .i64 (n':Int)] 80)) w2.heap.size 80 [.int .i64 (f:Int),.int .i64 (n':Int)]:=heap_alloc_new _ _
   have IT:=Mj.below A8 (by simp)
   have BM:=Lib.hid ((PU.out _ Bt.out).trans (A8.mono (PU.out _ Bt.out).size))
   have b0:w3.cell? ⟨w2.heap.size,0,none⟩=some (.int .i64 (f:Int)):=IT.cell 0
   have b1:w3.cell? ⟨w2.heap.size,1,none⟩=some (.int .i64 (n':Int)):=IT.cell 1
   have Wj:=(BM.out.cell (p:=⟨p,2,none⟩) Bm).trans c2
   have El:w2.heap.size<w3.heap.size:=IT.lt
   have gZ:p<w3.heap.size:=by have:=BM.out.size;omega
   have d0:=(BM.out.cell (p:=⟨g,i*2,none⟩) hg).trans IM
   have D7:g<w3.heap.size:=by have:=BM.out.size;omega
   clear A8 Mj IT Bt R2 HH ZH c0 c1 c2 IM Hh
   go_wp2
   go_region_held3 (fun w'=>Below w3.heap.size w3 w'∧w'.cell? ⟨p,2,none⟩=some (.slice (some ⟨g,0,none⟩) N c)∧w'.cell? ⟨w2.heap.size,0,none⟩=some (.int .i64 (f:Int))∧w'.cell? ⟨w2.heap.size,1,none⟩=some (.int .i64 (n':Int))∧w'.cell? ⟨g,i*2,none⟩=some (.int .i64 (a:Int)))
    (first
     |(exact⟨AF (Below.refl _ _) 1,Wj,b0,b1,d0⟩)
     |(exact⟨hacc,(hacc.cell gZ).trans Wj,(hacc.cell El).trans b0,(hacc.cell El).trans b1,(hacc.cell D7).trans d0⟩))
    ((go_split_ands;go_at_call 96;(with_reducible refine(HE.out _).mono ?_);rintro e w4 ⟨rfl,Dp⟩;have hacc:Below w3.heap.size w3 w4:=Below.trans (by assumption) (Below.mono Dp (Below.size (by assumption)))))
   have HX:Hid (Next w G p s w4):=Next.AJ H.out (BM.out.trans (hacc.mono BM.out.size))
   clear hacc
   go_wp2
   go_ret
   exact⟨rfl,HX.out⟩
  ·have ga:decide ((a:Int)<(u:Int))=false:=by simp;omega
   have ga2:decide (a<u)=false:=by simp;omega
   rw[if_neg (fun hh=>zM hh.2)]at J9
   rw[J9]
   dsimp only
   have HQ:Hid (¬(i<N∧a<u)):=fun hh=>zM hh.2
   clear J9
   go_enter Tryz.func78,Tryz.ntmps78
   go_wp2_with fail
   refine(HH.out _).mono ?_
   rintro e w2 ⟨rfl,AZ⟩
   rw[ZH.out]
   have Bt:=Lib.hid AZ
   clear AZ
   go_wp2_with fail
   refine(R2.out _ (PU.out _ Bt.out)).mono ?_
   rintro e w3 ⟨rfl,A8⟩
   have Mj:Row (w2.alloc (.cells #[.int .i64 (f:Int),.int .i64 (n':Int)] 80)) w2.heap.size 80 [.int .i64 (f:Int),.int .i64 (n':Int)]:=heap_alloc_new _ _
   have IT:=Mj.below A8 (by simp)
   have BM:=Lib.hid ((PU.out _ Bt.out).trans (A8.mono (PU.out _ Bt.out).size))
   have b0:w3.cell? ⟨w2.heap.size,0,none⟩=some (.int .i64 (f:Int)):=IT.cell 0
   have b1:w3.cell? ⟨w2.heap.size,1,none⟩=some (.int .i64 (n':Int)):=IT.cell 1
   have Wj:=(BM.out.cell (p:=⟨p,2,none⟩) Bm).trans c2
   have El:w2.heap.size<w3.heap.size:=IT.lt
   have gZ:p<w3.heap.size:=by have:=BM.out.size;omega
   have d0:=(BM.out.cell (p:=⟨g,i*2,none⟩) hg).trans IM
   have D7:g<w3.heap.size:=by have:=BM.out.size;omega
   clear A8 Mj IT Bt R2 HH ZH c0 c1 c2 IM Hh
   go_wp2
   go_region_held3 (fun w'=>Below w3.heap.size w3 w'∧w'.cell? ⟨p,2,none⟩=some (.slice (some ⟨g,0,none⟩) N c)∧w'.cell? ⟨w2.heap.size,0,none⟩=some (.int .i64 (f:Int))∧w'.cell? ⟨w2.heap.size,1,none⟩=some (.int .i64 (n':Int))∧w'.cell? ⟨g,i*2,none⟩=some (.int .i64 (a:Int)))
    (first
     |(exact⟨AF (Below.refl _ _) 1,Wj,b0,b1,d0⟩)
     |(exact⟨hacc,(hacc.cell gZ).trans Wj,(hacc.cell El).trans b0,(hacc.cell El).trans b1,(hacc.cell D7).trans d0⟩))
    ((go_split_ands;go_at_call 96;(with_reducible refine(HE.out _).mono ?_);rintro e w4 ⟨rfl,Dp⟩;have hacc:Below w3.heap.size w3 w4:=Below.trans (by assumption) (Below.mono Dp (Below.size (by assumption)))))
   have HJ4:=Lib.hid (HJ.out HQ.out w4 (BM.out.trans (hacc.mono BM.out.size)))
   have b04:=(hacc.cell (p:=⟨w2.heap.size,0,none⟩) El).trans b0
   have b14:=(hacc.cell (p:=⟨w2.heap.size,1,none⟩) El).trans b1
   clear hacc b0 b1 Wj d0
   go_wp2_with fail
   refine HJ4.out.mono ?_
   rintro e w5 ⟨rfl,hx⟩
   have HX:=Lib.hid hx
   clear hx
   go_wp2
   go_ret
   exact⟨rfl,HX.out⟩
 ·have gi:decide ((i:Int)<(N:Int))=false:=by simp;omega
  have gi2:decide (i<N)=false:=by simp;omega
  rw[if_neg (fun hh=>hlt hh.1)]at J9
  rw[J9]
  dsimp only
  have HQ:Hid (¬(i<N∧(Ae s.fr i).1<u)):=fun hh=>hlt hh.1
  clear J9
  go_enter Tryz.func78,Tryz.ntmps78
  go_wp2_with fail
  refine(HH.out _).mono ?_
  rintro e w2 ⟨rfl,AZ⟩
  rw[ZH.out]
  have Bt:=Lib.hid AZ
  clear AZ
  go_wp2_with fail
  refine(R2.out _ (PU.out _ Bt.out)).mono ?_
  rintro e w3 ⟨rfl,A8⟩
  have Mj:Row (w2.alloc (.cells #[.int .i64 (f:Int),.int .i64 (n':Int)] 80)) w2.heap.size 80 [.int .i64 (f:Int),.int .i64 (n':Int)]:=heap_alloc_new _ _
  have IT:=Mj.below A8 (by simp)
  have BM:=Lib.hid ((PU.out _ Bt.out).trans (A8.mono (PU.out _ Bt.out).size))
  have b0:w3.cell? ⟨w2.heap.size,0,none⟩=some (.int .i64 (f:Int)):=IT.cell 0
  have b1:w3.cell? ⟨w2.heap.size,1,none⟩=some (.int .i64 (n':Int)):=IT.cell 1
  have Wj:=(BM.out.cell (p:=⟨p,2,none⟩) Bm).trans c2
  have El:w2.heap.size<w3.heap.size:=IT.lt
  have gZ:p<w3.heap.size:=by have:=BM.out.size;omega
  clear A8 Mj IT Bt R2 HH ZH c0 c1 c2
  go_wp2
  go_quiet (fail)
  have HJ4:=Lib.hid (HJ.out HQ.out (w3.drewN nq) (AF BM.out nq))
  go_wp2_with fail
  refine HJ4.out.mono ?_
  rintro e w5 ⟨rfl,hx⟩
  have HX:=Lib.hid hx
  clear hx
  go_wp2
  go_ret
  exact⟨rfl,HX.out⟩
def JY(s:Sp)(k n:Nat):Prop:=∀b,k≤b→b<k+n→hasB s.fr b
structure Yv (s s':Sp) (a n:Nat):Prop where
 room:JY s a n
 first:s'.first=s.first
 blocks:s'.blocks=s.blocks
 has:∀b,hasB s'.fr b↔hasB s.fr b∧¬(a≤b∧b<a+n)
 sum:Az s'.fr+n=Az s.fr
 ok:s'.ok
theorem SC{s:Sp}{i a n:Nat}(h:s.ok)(hi:i<s.fr.length)(h1:(Ae s.fr i).1≤a)(h2:a+n≤(Ae s.fr i).1+(Ae s.fr i).2)(hn:1≤n):Yv s {s with fr:=IE s.fr i a n} a n:=by
 obtain⟨c1,c2,c3⟩:=Tg h.2.2 hi h1 h2 hn
 exact⟨fun b hb AZ=>⟨_,RW hi,by omega,by omega⟩,rfl,rfl,c2,c3,h.1,h.2.1,c1⟩
theorem UL{s:Sp}(h:s.ok){n:Nat}(hn:1≤n):(∃s' a,Cr s n=(s',a,0)∧Yv s s' a n∧∀k,JY s k n→a≤k)∨(Cr s n=(s,0,5)∧∀k,¬JY s k n):=by
 unfold Cr
 rw[if_neg (by omega),Int.toNat_natCast]
 by_cases hl:Ep s.fr n<s.fr.length
 ·rw[if_pos hl]
  obtain⟨h1,h2⟩:=Yi h.2.2 hn hl
  exact .inl ⟨_,_,rfl,SC h hl (Nat.le_refl _) (by omega) hn,h2⟩
 ·rw[if_neg hl]
  exact .inr ⟨rfl,fun k=>cP h.2.2 hn (by omega) k⟩
theorem Uz{s:Sp}(h:s.ok)(f n:Int):(∃s' a m,f=(a:Nat)∧n=(m:Nat)∧1≤m∧Iq s f n=(s',0)∧Yv s s' a m)∨(Iq s f n=(s,1)∧∀a m:Nat,f=a→n=m→1≤m→¬JY s a m):=by
 unfold Iq
 by_cases hn:n<1
 ·rw[if_pos hn]
  exact .inr ⟨rfl,fun a m _ e hm=>by omega⟩
 ·rw[if_neg hn]
  by_cases hx:DL s.fr f<s.fr.length∧((Ae s.fr (DL s.fr f)).1:Int)≤f∧n≤(((Ae s.fr (DL s.fr f)).1+(Ae s.fr (DL s.fr f)).2:Nat):Int)-f
  ·rw[if_pos hx]
   obtain⟨a,rfl⟩:∃a:Nat,f=(a:Int):=⟨f.toNat,by omega⟩
   obtain⟨m,rfl⟩:∃m:Nat,n=(m:Int):=⟨n.toNat,by omega⟩
   simp only[Int.toNat_natCast]
   exact .inl ⟨_,a,m,rfl,rfl,by omega,rfl,SC h hx.1 (by omega) (by omega) (by omega)⟩
  ·rw[if_neg hx]
   refine .inr ⟨rfl,fun a m ha hm h1 hr=>hx ?_⟩
   subst ha;subst hm
   rw[Pp]
   obtain⟨h2,h3,h4⟩:=Uh h.2.2 h1 hr
   exact⟨h2,by omega,by omega⟩
structure AC2 (s s':Sp) (a n:Nat):Prop where
 lo:s.first≤a
 hi:a+n≤s.first+s.blocks
 none:∀b,a≤b→b<a+n→¬hasB s.fr b
 first:s'.first=s.first
 blocks:s'.blocks=s.blocks
 has:∀b,hasB s'.fr b↔hasB s.fr b∨(a≤b∧b<a+n)
 sum:Az s'.fr=Az s.fr+n
 ok:s'.ok
theorem Hz{s:Sp}(h:s.ok)(f n:Int):(∃s' a m,f=(a:Nat)∧n=(m:Nat)∧1≤m∧CY s f n=(s',0)∧AC2 s s' a m)∨
  (CY s f n=(s,1)∧∀a m:Nat,f=a→n=m→1≤m→¬(s.first≤a∧a+m≤s.first+s.blocks∧∀b,a≤b→b<a+m→¬hasB s.fr b)):=by
 unfold CY
 by_cases hx:n<1∨¬((s.first:Int)≤f∧n≤((s.first+s.blocks:Nat):Int)-f)∨(BB s.fr f.toNat<s.fr.length∧(Ae s.fr (BB s.fr f.toNat)).1<f.toNat+n.toNat)
 ·rw[if_pos hx]
  refine .inr ⟨rfl,fun a m ha hm h1 hh=>?_⟩
  subst ha;subst hm
  simp only[Int.toNat_natCast]at hx
  rcases hx with hx|hx|hx
  ·omega
  ·exact hx ⟨by omega,by omega⟩
  ·have:=(JG h.2.2 h1).1 hh.2.2 hx.1;omega
 ·rw[if_neg hx]
  have h1:¬n<1:=fun h=>hx (.inl h)
  have h2:(s.first:Int)≤f∧n≤((s.first+s.blocks:Nat):Int)-f:=Classical.not_not.1 fun h=>hx (.inr (.inl h))
  obtain⟨a,rfl⟩:∃a:Nat,f=(a:Int):=⟨f.toNat,by omega⟩
  obtain⟨m,rfl⟩:∃m:Nat,n=(m:Int):=⟨n.toNat,by omega⟩
  simp only[Int.toNat_natCast]at hx⊢
  have hno:∀b,a≤b→b<a+m→¬hasB s.fr b:=(JG h.2.2 (by omega)).2 fun hlt=>by
   rcases Nat.lt_or_ge (Ae s.fr (BB s.fr a)).1 (a+m)with h3|h3
   ·exact absurd (.inr (.inr ⟨hlt,h3⟩)) hx
   ·exact h3
  obtain⟨c1,c2,c3⟩:=JI h.2.2 (show 1≤m by omega) (show s.first≤a by omega) (by omega) hno
  exact .inl ⟨_,a,m,rfl,rfl,by omega,rfl,⟨by omega,by omega,hno,rfl,rfl,c2,c3,h.1,h.2.1,c1⟩⟩
theorem Zj(k r:Nat):eB (k+1) r=st (eB k r):=by
 rw[show k+1=1+k by omega,Zk];rfl
theorem gH(r c:Nat)(w:World)(hr:r<4294967296)(hc:c<256):
  Calls Tryz.prog 134 #[.int .u32 r,.int .u32 c] w fun e w'=>e=.returned (.int .u32 (gI r c))∧w=w':=by
 have hx:=u32_xor_nat r c hr (by omega)
 have HX:=Lib.hid hx
 have h0:r^^^c<4294967296:=Nat.xor_lt_two_pow (n:=32) hr (by omega)
 clear hx
 go_enter Tryz.func134,Tryz.ntmps134
 go_wp2
 rw[HX.out]
 go_loop [0,9] (fun nv kv=>∃k n:Nat,k≤8∧n<4294967296∧kv=.int .i64 k∧nv=.int .u32 n∧Hid (n=eB k (r^^^c))) (fun _ kv=>8-(intOf kv).toNat)
 case atStart=>exact⟨0,_,by omega,h0,rfl,rfl,rfl⟩
 case round=>
  obtain⟨k,n,hk,hn,rfl,rfl,HN⟩:=hrel
  by_cases hlt:k<8
  ·have hand:bits .and .u32 (n:Int) 1=((n%2:Nat):Int):=by
    have h:=u32_and_nat n 1 hn (by decide)
    rwa [Nat.and_one_is_mod]at h
   have hdiv:IntKind.u32.wrap ((n:Int)/2)=((n/2:Nat):Int):=by rw[IntKind.wrap_u32'];omega
   have HX2:=Lib.hid (u32_xor_nat (n/2) 3988292384 (by omega) (by decide))
   have HS:Hid (∀m,m=st n→m=eB (k+1) (r^^^c)):=fun m hm=>by rw[hm,Zj,HN.out]
   have HL:Hid (st n<4294967296):=jj hn
   by_cases gn:n%2=1
   ·have g:(bits .and .u32 (n:Int) 1==1)=true:=by rw[hand,gn];rfl
    clear hand hdiv
    go_wp2
    go_round
    case rel=>exact⟨k+1,n/2^^^3988292384,by omega,by have:=HL.out;unfold st at this;rwa [if_pos gn]at this,by go_num,congrArg (Value.int .u32) HX2.out,HS.out _ (by unfold st;rw[if_pos gn])⟩
    case measure=>simp[intOf];omega
   ·have g:(bits .and .u32 (n:Int) 1==1)=false:=by rw[hand,show n%2=0 by omega];rfl
    clear hand hdiv
    go_wp2
    go_round
    case rel=>exact⟨k+1,n/2,by omega,by omega,by go_num,rfl,HS.out _ (by unfold st;rw[if_neg gn])⟩
    case measure=>simp[intOf];omega
  ·obtain rfl:k=8:=by omega
   go_wp2
   go_ret
   exact⟨Mu (by rw[HN.out];rfl),rfl⟩
theorem Wl(s:Nat)(hs:s<4294967296):bits .xor .u32 IntKind.u32.max (s:Int)=(cm s:Int):=by
 rw[show IntKind.u32.max=4294967295 by decide]
 have h:=u32_xor_nat 4294967295 s (by decide) hs
 have e:cm s=4294967295^^^s:=by unfold cm qQ top;exact Eq.refl _
 rw[e];exact h
theorem Ki(s x:Nat)(w:World)(hs:s<4294967296)(hx:x<18446744073709551616):
  Calls Tryz.prog 118 #[.int .u32 s,.int .u64 x] w fun e w'=>e=.returned (.int .u32 (nx s x))∧w=w':=by
 have HX:=Lib.hid (Wl s hs)
 have h0:cm s<4294967296:=We hs
 go_enter Tryz.func118,Tryz.ntmps118
 go_wp2
 rw[HX.out]
 go_loop [1,5,8] (fun xv rv kv=>∃k y r:Nat,k≤8∧r<4294967296∧y<18446744073709551616∧kv=.int .i64 k∧xv=.int .u64 y∧rv=.int .u32 r∧Hid (wd (8-k) r y=wd 8 (cm s) x)) (fun _ _ kv=>8-(intOf kv).toNat)
 case atStart=>exact⟨0,x,_,by omega,h0,hx,rfl,rfl,rfl,rfl⟩
 case round=>
  obtain⟨k,y,r,hk,hr,hy,rfl,rfl,rfl,HN⟩:=hrel
  by_cases hlt:k<8
  ·have hb:bits .and .u64 (y:Int) 255%4294967296=((y%256:Nat):Int):=by
    have h:=u64_and_nat y 255 hy (by decide)
    rw[show (255:Nat)=2^8-1 from rfl,Nat.and_two_pow_sub_one_eq_mod]at h
    have h2:bits .and .u64 (y:Int) 255=((y%256:Nat):Int):=h
    rw[h2];omega
   have HB:=Lib.hid hb
   clear hb
   have HS:Hid (wd (8-(k+1)) (gI r (y%256)) (y/256)=wd 8 (cm s) x):=by
    have h:=HN.out
    rw[show 8-k=(8-(k+1))+1 by omega]at h
    exact h
   have HL:=WD hr (show y%256<256 by omega)
   go_wp2_with fail
   rw[HB.out]
   refine(gH r (y%256) _ hr (by omega)).mono ?_;rintro e w' ⟨rfl,rfl⟩
   go_wp2
   go_round
   case rel=>exact⟨k+1,y/256,_,by omega,HL,by omega,by go_num,by go_num,rfl,HS.out⟩
   case measure=>simp[intOf];omega
  ·obtain rfl:k=8:=by omega
   have HC:Hid (bits .xor .u32 IntKind.u32.max (r:Int)=(nx s x:Int)):=by
    have h:=HN.out
    unfold Hid
    rw[Wl r hr]
    have h2:r=wd 8 (cm s) x:=h
    rw[h2];exact Eq.refl _
   go_wp2
   go_ret
   exact⟨Mu HC.out,rfl⟩
theorem V3{l:List Nat}{n k c:Nat}(hl:l.length=n)(hk:k<n)(hc:c=l.getD k 0):nx (sm (l.take k)) c=sm (l.take (k+1)):=by
 rw[List.take_succ_eq_append_getElem (by omega),Qy,hc,List.getD_eq_getElem?_getD,List.getElem?_eq_getElem (by omega)]
 exact Eq.refl _
theorem fL(a:Option Addr)(n cap:Nat)(l:List Nat)(w:World){B:Nat}(hl:Reads .u64 w B a n l)(hn:n≤1000000):
  Calls Tryz.prog 117 #[.slice a n cap] w fun e w'=>e=.returned (.int .u32 (sm l))∧w=w':=by
 have Cg:=Lib.hid hl.1
 go_enter Tryz.func117,Tryz.ntmps117
 go_wp2
 go_loop [3,8] (fun sv kv=>∃k s:Nat,k≤n∧s<4294967296∧kv=.int .i64 k∧sv=.int .u32 s∧Hid (s=sm (l.take k))) (fun _ kv=>n-(intOf kv).toNat)
 case atStart=>exact⟨0,0,by omega,by omega,rfl,rfl,rfl⟩
 case round=>
  obtain⟨k,s,hk,hs,rfl,rfl,HN⟩:=hrel
  by_cases hlt:k<n
  ·obtain⟨b,o,c,rfl,hb,hc,hw,HC⟩:=hl.at_ hlt
   have nW:=NN hw
   have HS:Hid (nx s c=sm (l.take (k+1))):=by
    unfold Hid;rw[HN.out];exact V3 Cg.out hlt HC.out
   have HL:=Sl c hs
   go_wp2_with fail
   refine(Ki s c _ hs nW).mono ?_;rintro e w' ⟨rfl,rfl⟩
   go_wp2
   go_round
   case rel=>exact⟨k+1,_,by omega,HL,by go_num,rfl,HS.out⟩
   case measure=>simp[intOf];omega
  ·obtain rfl:k=n:=by omega
   go_wp2
   go_ret
   exact⟨Mu (by rw[HN.out,List.take_of_length_le (by have:=Cg.out;omega)]),rfl⟩
def Nr(s a:Int):Bool:=decide (8≤s)&&decide (s≤256)&&decide (0≤a)
theorem WB(s a:Int)(w:World):Calls Tryz.prog 103 #[.int .i64 s,.int .i64 a] w fun e w'=>e=.returned (.bool (Nr s a))∧w=w':=by
 by_cases h1:8≤s
 ·have g1:decide (s≥8)=true:=by simpa using h1
  by_cases h2:s≤256
  ·have g2:decide (s≤256)=true:=by simpa using h2
   have HR:Hid (Nr s a=decide (a≥0)):=by unfold Hid Nr;simp[h1,h2]
   rw[HR.out]
   go_enter Tryz.func103,Tryz.ntmps103
   go_wp2
   go_ret
   exact⟨rfl,rfl⟩
  ·have g2:decide (s≤256)=false:=by simp;omega
   have HR:Hid (Nr s a=false):=by unfold Hid Nr;simp[h2]
   rw[HR.out]
   go_enter Tryz.func103,Tryz.ntmps103
   go_wp2
   go_ret
   exact⟨rfl,rfl⟩
 ·have g1:decide (s≥8)=false:=by simp;omega
  have HR:Hid (Nr s a=false):=by unfold Hid Nr;simp[h1]
  rw[HR.out]
  go_enter Tryz.func103,Tryz.ntmps103
  go_wp2
  go_ret
  exact⟨rfl,rfl⟩
theorem l8(l:List Nat)(a b:Nat):nx (nx (sm l) a) b=sm (l++[a,b]):=by
 rw[←Qy,←Qy];simp
theorem Pr(a:Option Addr)(n cap:Nat)(l:List Nat)(num ad:Nat)(w:World){B:Nat}(hl:Reads .u64 w B a n l)(hn:n≤1000000)(TL:num<4294967296)(had:ad≤9223372036854775807):
  Calls Tryz.prog 104 #[.slice a n cap,.int .u64 num,.int .i64 ad] w fun e w'=>e=.returned (.int .u64 (Dh l num ad))∧w=w':=by
 have Cg:=Lib.hid hl.1
 have hs0:=Pj l
 have EK:=Sl num hs0
 have El:=Sl ad EK
 have KK:Hid (nx (nx (sm l) num) ad=sm (l++[num,ad])):=l8 l num ad
 have HOR:Hid (bits .or .u64 ((num:Int)*4294967296) (IntKind.u64.wrap ((sm (l++[num,ad]):Nat):Int))=(Dh l num ad:Int)):=by
  unfold Hid
  have e:IntKind.u64.wrap ((sm (l++[num,ad]):Nat):Int)=((sm (l++[num,ad]):Nat):Int):=by
   have:=Pj (l++[num,ad]);exact IntWalk.u64_in _ (by omega)
  rw[e]
  have h:=u64_or_nat (num*4294967296) (sm (l++[num,ad])) (by omega) (by have:=Pj (l++[num,ad]);omega)
  rw[gJ]at h
  rw[←h];simp
 go_enter Tryz.func104,Tryz.ntmps104
 go_wp2_with fail
 refine(fL none 0 0 [] w (B:=0) ⟨rfl,by simp,fun h=>absurd h (by omega)⟩ (by omega)).mono ?_;rintro e w' ⟨rfl,rfl⟩
 go_wp2
 go_loop [7,13] (fun sv kv=>∃k s:Nat,k≤n∧s<4294967296∧kv=.int .i64 k∧sv=.int .u32 s∧Hid (s=sm (l.take k))) (fun _ kv=>n-(intOf kv).toNat)
 case atStart=>exact⟨0,0,by omega,by omega,rfl,rfl,rfl⟩
 case round=>
  obtain⟨k,s,hk,hs,rfl,rfl,HN⟩:=hrel
  by_cases hlt:k<n
  ·obtain⟨b,o,c,rfl,hb,hc,hw,HC⟩:=hl.at_ hlt
   have nW:=NN hw
   have HS:Hid (nx s c=sm (l.take (k+1))):=by
    unfold Hid;rw[HN.out];exact V3 Cg.out hlt HC.out
   have HL:=Sl c hs
   go_wp2_with fail
   refine(Ki s c _ hs nW).mono ?_;rintro e w' ⟨rfl,rfl⟩
   go_wp2
   go_round
   case rel=>exact⟨k+1,_,by omega,HL,by go_num,rfl,HS.out⟩
   case measure=>simp[intOf];omega
  ·obtain rfl:k=n:=by omega
   have qU:Hid (s=sm l):=by
    unfold Hid;rw[HN.out,List.take_of_length_le (by have:=Cg.out;omega)]
   go_wp2_with fail
   refine(Ki s num _ hs (by omega)).mono ?_;rintro e w' ⟨rfl,rfl⟩
   go_wp2_with fail
   refine(Ki (nx s num) ad _ (Sl num hs) (by omega)).mono ?_;rintro e w' ⟨rfl,rfl⟩
   have HF:Hid (nx (nx s num) ad=sm (l++[num,ad])):=by unfold Hid;rw[qU.out];exact KK.out
   rw[HF.out]
   go_wp2
   go_ret
   exact⟨Mu HOR.out,rfl⟩
theorem XB(x:Nat)(w:World):Calls Tryz.prog 133 #[.int .u64 x] w fun e w'=>e=.returned (.bool (decide (x≠0)))∧w=w':=by
 by_cases h:x=0
 ·subst h
  go_enter Tryz.func133,Tryz.ntmps133
  go_wp2
  go_ret
  exact⟨rfl,rfl⟩
 ·have HR:Hid (decide (x≠0)=true):=by unfold Hid;simpa using h
  rw[HR.out]
  have g:((x:Int) !=0)=true:=by simp;omega
  go_enter Tryz.func133,Tryz.ntmps133
  go_wp2
  go_ret
  exact⟨rfl,rfl⟩
def Fx(l:List Nat):Bool:=decide (∀x∈l,x=0)
theorem au(a:Option Addr)(n cap:Nat)(l:List Nat)(w:World){B:Nat}(hl:Reads .u64 w B a n l)(hn:n≤1000000):
  Calls Tryz.prog 138 #[.slice a n cap,.func (.func 133) #[] #[]] w fun e w'=>(Fx l=true∧e=.returned (.int .i64 (-1))∧w=w')∨(Fx l=false∧∃i:Nat,e=.returned (.int .i64 i)∧w=w'):=by
 have Cg:=Lib.hid hl.1
 go_enter Tryz.func138,Tryz.ntmps138
 go_wp2
 go_loop [5,8] (fun _ kv=>∃k:Nat,k≤n∧kv=.int .i64 k∧Hid (∀x∈l.take k,x=0)) (fun _ kv=>n-(intOf kv).toNat)
 case atStart=>exact⟨0,by omega,rfl,by unfold Hid;simp⟩
 case round=>
  obtain⟨k,hk,rfl,HN⟩:=hrel
  by_cases hlt:k<n
  ·obtain⟨b,o,c,rfl,hb,hc,hw,HC⟩:=hl.at_ hlt
   have Lo:=XB c w
   by_cases h0:c=0
   ·have HS:Hid (∀x∈l.take (k+1),x=0):=by
     intro x hx
     have WS:k<l.length:=by have:=Cg.out;omega
     rw[List.take_succ_eq_append_getElem WS]at hx
     rcases List.mem_append.1 hx with hx|hx
     ·exact HN.out x hx
     ·simp at hx
      have:=HC.out
      rw[List.getD_eq_getElem?_getD,List.getElem?_eq_getElem WS]at this
      rw[hx,←h0,this];rfl
    have hd:decide (c≠0)=false:=by simpa using h0
    rw[hd]at Lo
    have DJ:=Lib.hid Lo
    clear Lo hd h0
    go_wp2_with fail
    refine DJ.out.mono ?_;rintro e w' ⟨rfl,rfl⟩
    go_wp2
    go_round
    case rel=>exact⟨k+1,by omega,by go_num,HS.out⟩
    case measure=>simp[intOf];omega
   ·have HZ:Hid (Fx l=false):=by
     unfold Hid Fx
     rw[decide_eq_false_iff_not]
     intro h
     have WS:k<l.length:=by have:=Cg.out;omega
     have h1:=h l[k] (List.getElem_mem WS)
     have:=HC.out
     rw[List.getD_eq_getElem?_getD,List.getElem?_eq_getElem WS]at this
     exact h0 (by rw[this];exact h1)
    have hd:decide (c≠0)=true:=by simpa using h0
    rw[hd]at Lo
    have DJ:=Lib.hid Lo
    clear Lo hd h0
    go_wp2_with fail
    refine DJ.out.mono ?_;rintro e w' ⟨rfl,rfl⟩
    go_wp2
    go_ret
    exact .inr ⟨HZ.out,k,rfl,rfl⟩
  ·have HZ:Hid (Fx l=true):=by
    unfold Hid Fx
    rw[decide_eq_true_eq]
    have h:=HN.out
    rwa [List.take_of_length_le (by have:=Cg.out;omega)]at h
   go_wp2
   go_ret
   exact .inl ⟨HZ.out,rfl,rfl⟩
theorem cZ(a:Option Addr)(n cap:Nat)(l:List Nat)(w:World){B:Nat}(hl:Reads .u64 w B a n l)(hn:n≤1000000):
  Calls Tryz.prog 132 #[.slice a n cap,.func (.func 133) #[] #[]] w fun e w'=>e=.returned (.bool (!Fx l))∧w=w':=by
 have hx:=au a n cap l w hl hn
 cases hz:Fx l with
 |true=>
  rw[hz]at hx
  have HX:=Lib.hid hx
  clear hx hz
  go_enter Tryz.func132,Tryz.ntmps132
  go_wp2_with fail
  refine HX.out.mono ?_
  rintro e w' (⟨_,rfl,rfl⟩|⟨hz,_⟩)
  ·go_wp2
   go_ret
   exact⟨rfl,rfl⟩
  ·cases hz
 |false=>
  rw[hz]at hx
  have HX:=Lib.hid hx
  clear hx hz
  go_enter Tryz.func132,Tryz.ntmps132
  go_wp2_with fail
  refine HX.out.mono ?_
  rintro e w' (⟨hz,_⟩|⟨_,i,rfl,rfl⟩)
  ·cases hz
  ·have hi:decide ((i:Int)≥0)=true:=by simp
   go_wp2
   go_ret
   exact⟨rfl,rfl⟩
theorem dG(a:Option Addr)(n cap:Nat)(l:List Nat)(w:World){B:Nat}(hl:Reads .u64 w B a n l)(hn:n≤1000000):
  Calls Tryz.prog 116 #[.slice a n cap] w fun e w'=>e=.returned (.bool (Fx l))∧w=w':=by
 have hx:=cZ a n cap l w hl hn
 cases hz:Fx l with
 |true=>
  rw[hz]at hx
  have HX:=Lib.hid hx
  clear hx hz
  go_enter Tryz.func116,Tryz.ntmps116
  go_wp2_with fail
  refine HX.out.mono ?_
  rintro e w' ⟨rfl,rfl⟩
  go_wp2
  go_ret
  exact⟨rfl,rfl⟩
 |false=>
  rw[hz]at hx
  have HX:=Lib.hid hx
  clear hx hz
  go_enter Tryz.func116,Tryz.ntmps116
  go_wp2_with fail
  refine HX.out.mono ?_
  rintro e w' ⟨rfl,rfl⟩
  go_wp2
  go_ret
  exact⟨rfl,rfl⟩
theorem MD:(Tryz.prog.info? 127).map (fun i=>(i.zero,i.size,i.bytes))=some (some (.int .u64 0),1,8):=by kernel_rfl
theorem jk:(Tryz.prog.info? 127).map (·.size)=some 1:=by kernel_rfl
theorem Xt(w:World)(e:TypeId):(w.alloc (.cells #[] e)).ownsRow w.heap.size e 1 (.slice (some ⟨w.heap.size,0,none⟩) 0 0) 0 []:=
 ⟨rfl,.inr ⟨w.heap.size,0,#[],rfl,Nat.le_refl _,heap_alloc_new _ _,Nat.le_refl _,Nat.zero_le _,rfl,rfl⟩⟩
theorem UH(A:Option Addr)(n c:Nat)(l:List Nat)(w:World){B:Nat}(hl:Reads .u64 w B A n l)(hA:A≠none)(TM:n≤1000000)(hB:B≤w.heap.size):
  Calls Tryz.prog 107 #[.slice A n c] w fun e w'=>∃v,e=.returned v∧w'.ownsRow w.heap.size 127 1 v n (l.map fun x:Nat=>Value.int .u64 x)∧Below w.heap.size w w':=by
 obtain⟨i0,hi,By,B3,EX⟩:=info_parts MD
 rcases A with _|⟨b,off,z⟩
 ·exact absurd rfl hA
 have HL:=Lib.hid hl
 have wZ:=Lib.hid hl.1
 clear hl hA
 have hq:=fun w=>Go.Lib.run_eql_slice_nil (P:=Tryz.prog) w 123 127 (some ⟨b,off,z⟩) n c 0 0 Tryz.underlying123
 go_enter Tryz.func107,Tryz.ntmps107
 go_wp2_with (with_reducible refine BN 7 ?_)
 unfold Hid
 refine FU _ rfl _ _ 123 rfl w.heap.size 127 i0 (.int .u64 0) 8 Tryz.underlying123 hi By B3 EX rfl _ 0 [] rfl (Xt w 127) (some ⟨b,off,z⟩) n c (l.map fun x:Nat=>Value.int .u64 x) rfl (by rw[List.length_map];exact wZ.out) (HL.out.CL ((Below.refl _ w).alloc (by omega) _:Below B w _)).source QY (by omega) (by omega) (by simp) ?_
 intro v' w' Ap hb
 rw[Nat.zero_add,List.nil_append]at Ap
 have HO:=Lib.hid Ap
 have HB:=Lib.hid (((Below.refl w.heap.size w).alloc (Nat.le_refl _) _).trans hb)
 clear Ap hb
 go_wp2
 go_ret
 exact⟨v',rfl,HO.out,HB.out⟩
def vw(x:Nat):Value:=.int .u64 x
theorem map_set(l:List Nat)(k x:Nat):(l.map vw).set k (vw x)=(l.set k x).map vw:=by rw[List.map_set]
theorem X7(size:Nat)(l:List Nat):splice (List.replicate size (Value.int .u64 0)) 0 (l.map vw)=(l++List.replicate (size-l.length) 0).map vw:=by
 unfold splice
 rw[List.take_zero,List.nil_append,Nat.zero_add,List.length_map,List.drop_replicate,List.map_append,List.map_replicate];rfl
theorem gF{size tag:Nat}{l:List Nat}(h:l.length≤size-2)(h2:2≤size):(l++List.replicate (size-l.length) 0).set (size-2) tag=Bq size tag l++[0]:=by
 have e:List.replicate (size-l.length) 0=List.replicate (size-2-l.length) 0++[0,0]:=by
  rw[show size-l.length=size-2-l.length+2 by omega,←List.replicate_append_replicate];rfl
 rw[e,←List.append_assoc,List.set_append_right _ _ (by simp;omega)]
 have e2:size-2-(l++List.replicate (size-2-l.length) 0).length=0:=by rw[List.length_append,List.length_replicate];omega
 rw[e2]
 unfold Bq
 rw[List.append_assoc (l++ _)];rfl
theorem aY{size z:Nat}{F:List Nat}(h:F.length=size-1):(F++[0]).set (size-1) z=F++[z]:=by
 rw[List.set_append_right _ _ (by omega),h,Nat.sub_self];rfl
theorem Ij{l:List Nat}{k:Nat}(h:k<l.length):(l.map vw)[k]?=some (.int .u64 (l.getD k 0:Nat)):=by
 rw[List.getElem?_map,List.getElem?_eq_getElem h,List.getD_eq_getElem?_getD,List.getElem?_eq_getElem h];rfl
theorem Row.words{w:World}{g n:Nat}{t:TypeId}{l:List Nat}(h:Row w g t (l.map vw))(hn:n≤l.length)(hu:∀x∈l,(Lit.int .u64 (x:Nat)).wf=true):Reads .u64 w w.heap.size (some ⟨g,0,none⟩) n (l.take n):=
 h.reads (by rw[List.length_take];omega) (fun x hx=>hu x (List.mem_of_mem_take hx)) (fun i hi=>by
  rw[Ij (by omega)]
  congr 2
  rw[List.getD_eq_getElem?_getD,List.getD_eq_getElem?_getD,List.getElem?_take,if_pos hi]) h.lt
theorem mM(size ad tag:Nat)(a:Option Addr)(n c:Nat)(l:List Nat)(w:World){B:Nat}(hl:Reads .u64 w B a n l)(hB:B≤w.heap.size)(h8:8≤size)(zh:size≤256)(had:ad≤9223372036854775807)(ht:tag<18446744073709551616)(hn:n≤size-2):
  Calls Tryz.prog 86 #[.int .i64 size,.int .i64 ad,.int .u64 tag,.slice a n c] w fun e w'=>e=.returned (.tuple #[.slice (some ⟨w.heap.size,0,none⟩) size size,.int .i64 0])∧Row w' w.heap.size 127 ((DK size ad tag l).map vw)∧Below w.heap.size w w':=by
 obtain⟨i0,hi,By,B3,EX⟩:=info_parts MD
 have hlen:=hl.1
 have hu:JR l:=fun x hx=>NN (hl.2.1 x hx)
 have HM:Hid (∀w,Calls Tryz.prog 103 #[.int .i64 size,.int .i64 ad] w fun e w'=>e=.returned (.bool true)∧w=w'):=fun w=>by
  have h:=WB size ad w
  have e:Nr size ad=true:=by unfold Nr;simp;omega
  rwa [e]at h
 obtain⟨s1,EK⟩:∃s1,s1=size-1:=⟨_,rfl⟩
 obtain⟨s2,El⟩:∃s2,s2=size-2:=⟨_,rfl⟩
 obtain⟨num,TL⟩:∃num,num=n+1:=⟨_,rfl⟩
 have b1:s1+1≤size∧size≤s1+1:=by omega
 have b2:s2+2≤size∧size≤s2+2:=by omega
 have b3:num≤n+1∧n+1≤num:=by omega
 have Kl:(size:Int)-1=(s1:Int):=by omega
 have rV:(size:Int)-2=(s2:Int):=by omega
 have Ls:(n:Int)+1=(num:Int):=by omega
 have hg:decide ((n:Int)>(s2:Int))=false:=by simp;omega
 have uW:Hid (∀cs:List Value,cs=l.map vw→splice (List.replicate size (Value.int .u64 0)) 0 cs=(l++List.replicate (size-l.length) 0).map vw):=by
  rintro cs rfl;exact X7 size l
 have AA1:Hid (((l++List.replicate (size-l.length) 0).map vw).set s2 (vw tag)=(Bq size tag l++[0]).map vw):=by
  unfold Hid;rw[map_set,El,gF (by omega) (by omega)]
 have hF:=Lv (tag:=tag) (pl:=l) (size:=size) (by omega) (by omega)
 have MR:Hid (∀z,((Bq size tag l++[0]).map vw).set s1 (vw z)=(Bq size tag l++[z]).map vw):=by
  intro z;rw[map_set,EK,aY hF]
 have lF:Hid (DK size ad tag l=Bq size tag l++[Dh (Bq size tag l) num ad]):=by
  unfold Hid DK;rw[hlen,TL]
 have HFU:=Lib.hid (QG (size:=size) hu ht)
 have u7:Hid ((l++List.replicate (size-l.length) 0).length=size):=by unfold Hid;simp;omega
 have dh:Hid ((Bq size tag l).length=s1):=by unfold Hid;rw[hF,EK]
 have HL:=Lib.hid hl
 have qc:=Lib.hid hlen
 rw[lF.out]
 generalize hZE:Dh (Bq size tag l) num ad=z
 have HZE:=Lib.hid hZE
 clear hZE
 generalize l++List.replicate (size-l.length) 0=L1 at*
 generalize Bq size tag l=F at*
 clear hF EK El TL hlen hl hu lF
 have hcut:=fun W=>CK (P:=Tryz.prog) W 123 127 i0 Tryz.underlying123 hi (some ⟨w.heap.size,0,none⟩) size size s1 (by omega) .i64 (s1:Int) rfl
 go_enter Tryz.func86,Tryz.ntmps86
 go_wp2_with fail
 refine(HM.out _).mono ?_;rintro e w1 ⟨rfl,rfl⟩
 go_wp2_with (with_reducible refine BN 23 ?_)
 unfold Hid
 refine Ei _ rfl _ _ 123 rfl 127 i0 (.int .u64 0) Tryz.underlying123 hi By B3 rfl .i64 .i64 _ _ size rfl rfl rfl rfl (by rw[EX];omega) (by omega) ?_
 intro w2 Av AZ El
 have LB:=Lib.hid Av
 have Bt:=Lib.hid AZ
 clear Av AZ El
 go_wp2_with (with_reducible refine BN 26 ?_)
 unfold Hid
 have L3:=Lib.hid ((HL.out.CL (B:=B) (w':=w2) ⟨Bt.out.os,Bt.out.tape,Bt.out.output,by have:=Bt.out.size;omega,fun k hk=>Bt.out.block k (by omega)⟩).source)
 refine BY rfl _ _ 123 123 rfl 127 Tryz.underlying123 jk (by decide) (some ⟨w.heap.size,0,none⟩) a size size n c rfl rfl w.heap.size 0 _ 127 LB.out (l.map vw) (by rw[List.length_map,qc.out,Nat.mul_one];exact(Nat.min_eq_left (by omega)).symm) (fun h0=>⟨rfl,L3.out (by have:=qc.out;rw[List.length_map]at h0;omega)⟩) (by rw[List.length_map,List.length_replicate,qc.out];omega) (fun v hv=>by obtain⟨x,_,rfl⟩:=List.mem_map.1 hv;rfl) ?_
 intro w3 Cn Kr
 have IK:Hid (Row w3 w.heap.size 127 (L1.map vw)):=by
  have h:=Cn.out
  rwa [uW.out _ rfl]at h
 have BM:=Lib.hid (Bt.out.trans (Kr.out.below (by have:=Bt.out.size;exact this) (fun b hb=>by rw[hb];exact Nat.le_refl _)))
 clear Cn Kr
 have zG:w3.cell? ⟨w.heap.size,s2,none⟩=some (.int .u64 (L1.getD s2 0:Nat)):=by
  rw[IK.out.cell];exact Ij (by have:=u7.out;omega)
 have YD:=IK.out.free s2
 have i20:(0:Int)≤(s2:Int):=by omega
 have i21:(s2:Int)<(size:Int):=by omega
 have i10:(0:Int)≤(s1:Int):=by omega
 have i11:(s1:Int)<(size:Int):=by omega
 have dW:Hid (Row (w3.setCell ⟨w.heap.size,s2,none⟩ (.int .u64 tag)) w.heap.size 127 ((F++[0]).map vw)):=by
  have h:=IK.out.set s2 (vw tag)
  rw[AA1.out]at h;exact h
 have I9:Hid (Below w.heap.size w (w3.setCell ⟨w.heap.size,s2,none⟩ (.int .u64 tag))):=BM.out.setCell (Nat.le_refl _) _
 go_wp2_with fail
 have PS:=Lib.hid (dW.out.words (n:=s1) (by have:=dh.out;simp;omega) (fun x hx=>by
  rcases List.mem_append.1 hx with hx|hx
  ·exact LS (HFU.out x hx)
  ·simp at hx;subst hx;exact LS (by decide)))
 have LL:Hid ((F++[0]).take s1=F):=by unfold Hid;rw[←dh.out];exact List.take_left' rfl
 generalize w3.setCell ⟨w.heap.size,s2,none⟩ (.int .u64 tag)=w4 at*
 rw[LL.out]at PS
 refine(Pr (some ⟨w.heap.size,0,none⟩) s1 size F num ad w4 PS.out (by omega) (by omega) had).mono ?_;rintro e w5 ⟨rfl,rfl⟩
 rw[HZE.out]
 have HZ:=Lib.hid (MR.out z)
 have U9:w4.cell? ⟨w.heap.size,s1,none⟩=some (.int .u64 ((F++[0]).getD s1 0:Nat)):=by
  rw[dW.out.cell];exact Ij (by have:=dh.out;simp;omega)
 have pg:=dW.out.free s1
 have DV:Hid (Row (w4.setCell ⟨w.heap.size,s1,none⟩ (.int .u64 z)) w.heap.size 127 ((F++[z]).map vw)):=by
  have h:=dW.out.set s1 (vw z)
  rw[HZ.out]at h;exact h
 have BQ:Hid (Below w.heap.size w (w4.setCell ⟨w.heap.size,s1,none⟩ (.int .u64 z))):=I9.out.setCell (Nat.le_refl _) _
 go_wp2
 go_ret2
 exact⟨rfl,DV.out,BQ.out⟩
theorem Reads.mid{k:IntKind}{w:World}{B b off n i m:Nat}{l:List Nat}(h:Reads k w B (some ⟨b,off,none⟩) n l)(U5:i+m≤n):Reads k w B (some ⟨b,off+i,none⟩) m ((l.drop i).take m):=by
 obtain⟨h1,h2,h3⟩:=h
 refine⟨by rw[List.length_take,List.length_drop];omega,fun x hx=>h2 x (List.mem_of_mem_drop (List.mem_of_mem_take hx)),fun hp=>?_⟩
 obtain⟨b',Sk,e,hb,hc⟩:=h3 (by omega)
 injection e with e;injection e with e1 e2;subst e1;subst e2
 refine⟨b,off+i,rfl,hb,fun j hj=>?_⟩
 rw[Nat.add_assoc,hc (i+j) (by omega)]
 congr 3
 rw[List.getD_eq_getElem?_getD,List.getD_eq_getElem?_getD,List.getElem?_take,if_pos hj,List.getElem?_drop]
theorem iF(a:Option Addr)(n c ad:Nat)(l:List Nat)(w:World){B:Nat}(hl:Reads .u64 w B a n l)(hB:B≤w.heap.size)(hc:n≤c)(h8:8≤n)(zh:n≤256)(had:ad≤9223372036854775807):
  Calls Tryz.prog 99 #[.slice a n c,.int .i64 ad] w fun e w'=>(okW l ad=false∧e=.returned (.tuple #[.slice none 0 0,.int .u64 0,.int .i64 6])∧Below w.heap.size w w')∨
   (okW l ad=true∧∃v,e=.returned (.tuple #[v,.int .u64 (LU l),.int .i64 0])∧w'.ownsRow w.heap.size 127 1 v (Ce l-1) ((l.take (Ce l-1)).map vw)∧Below w.heap.size w w'):=by
 obtain⟨i0,hi,By,B3,EX⟩:=info_parts MD
 have hlen:=hl.1
 have HM:Hid (∀w,Calls Tryz.prog 103 #[.int .i64 n,.int .i64 ad] w fun e w'=>e=.returned (.bool true)∧w=w'):=fun w=>by
  have h:=WB n ad w
  have e:Nr n ad=true:=by unfold Nr;simp;omega
  rwa [e]at h
 obtain⟨b,o,rfl,Mz,Bk⟩:=hl.2.2 (by omega)
 obtain⟨s1,EK⟩:∃s1,s1=n-1:=⟨_,rfl⟩
 obtain⟨s2,El⟩:∃s2,s2=n-2:=⟨_,rfl⟩
 obtain⟨num,TL⟩:∃num,num=Ce l:=⟨_,rfl⟩
 obtain⟨tag,mw⟩:∃tag,tag=LU l:=⟨_,rfl⟩
 obtain⟨z,hz⟩:∃z,z=l.getD s1 0:=⟨_,rfl⟩
 have c1:w.cell? ⟨b,o+s1,none⟩=some (.int .u64 (z:Nat)):=by rw[hz];exact Bk s1 (by omega)
 have c2:w.cell? ⟨b,o+s2,none⟩=some (.int .u64 (tag:Nat)):=by
  rw[mw];unfold LU;rw[hlen,←El];exact Bk s2 (by omega)
 have hnz:num=z/4294967296:=by rw[TL,hz];unfold Ce;rw[hlen,EK]
 have AC8:z<18446744073709551616:=by
  rw[hz];exact NN (hl.2.1 _ (by rw[List.getD_eq_getElem?_getD,List.getElem?_eq_getElem (by omega)];exact List.getElem_mem _))
 have hdiv:(z:Int)/4294967296=(num:Int):=by omega
 have sR:num<4294967296:=by omega
 have b1:s1+1≤n∧n≤s1+1:=by omega
 have b2:s2+2≤n∧n≤s2+2:=by omega
 have Kl:(n:Int)-1=(s1:Int):=by omega
 have rV:(n:Int)-2=(s2:Int):=by omega
 have i10:(0:Int)≤(s1:Int):=by omega
 have i11:(s1:Int)<(n:Int):=by omega
 have i20:(0:Int)≤(s2:Int):=by omega
 have i21:(s2:Int)<(n:Int):=by omega
 have HL:=Lib.hid hl
 have qc:=Lib.hid hlen
 have HB:=Lib.hid hB
 rw[←mw]
 rw[←TL]
 have dY:=Lib.hid TL
 have HZ:=Lib.hid hz
 have dQ:=Lib.hid EK
 have KK:=Lib.hid El
 clear Bk hlen hl EK El TL mw hz hnz
 by_cases h1:num<1
 ·have LO:Hid (okW l ad=false):=by
   unfold Hid okW;rw[←dY.out];simp;omega
  have g1:decide ((num:Int)<1)=true:=by simp;omega
  go_enter Tryz.func99,Tryz.ntmps99
  go_wp2_with fail
  refine(HM.out _).mono ?_;rintro e w1 ⟨rfl,rfl⟩
  go_wp2
  go_ret3
  exact .inl ⟨LO.out,rfl,Below.refl _ _⟩
 have g1:decide ((num:Int)<1)=false:=by simp;omega
 by_cases h2:s1<num
 ·have LO:Hid (okW l ad=false):=by
   unfold Hid okW;rw[←dY.out,qc.out,←dQ.out];simp;omega
  have g2:decide ((num:Int)>(s1:Int))=true:=by simp;omega
  go_enter Tryz.func99,Tryz.ntmps99
  go_wp2_with fail
  refine(HM.out _).mono ?_;rintro e w1 ⟨rfl,rfl⟩
  go_wp2
  go_ret3
  exact .inl ⟨LO.out,rfl,Below.refl _ _⟩
 have g2:decide ((num:Int)>(s1:Int))=false:=by simp;omega
 obtain⟨p,hp⟩:∃p,p=num-1:=⟨_,rfl⟩
 obtain⟨m,hm⟩:∃m,m=s2-p:=⟨_,rfl⟩
 obtain⟨cp,hcp⟩:∃cp,cp=c-p:=⟨_,rfl⟩
 have bp:p+1≤num∧num≤p+1:=by omega
 have bm:p+m≤s2∧s2≤p+m:=by omega
 have AC3:(num:Int)-1=(p:Int):=by omega
 have Yz:Hid (okW l ad=true↔Fx ((l.drop p).take m)=true∧z=Dh (l.take s1) num ad):=by
  have h:=mU (ad:=ad) qc.out (by omega) (show 1≤Ce l by rw[←dY.out];omega) (by rw[←dY.out];omega)
  rw[←dY.out,←hp,←KK.out,←dQ.out,←hm,←HZ.out]at h
  unfold Hid Fx
  rw[decide_eq_true_eq];exact h
 have k1:=fun W=>CK (P:=Tryz.prog) W 123 127 i0 Tryz.underlying123 hi (some ⟨b,o,none⟩) n c p (by omega) .u64 (p:Int) rfl
 have k2:=fun W=>fe (P:=Tryz.prog) W 123 127 i0 Tryz.underlying123 hi B3 b o n c p s2 (by omega) (by omega) (by omega) .u64 .i64 (p:Int) (s2:Int) rfl rfl
 have k3:=fun W=>CK (P:=Tryz.prog) W 123 127 i0 Tryz.underlying123 hi (some ⟨b,o,none⟩) n c s1 (by omega) .i64 (s1:Int) rfl
 rw[←hm,←hcp]at k2
 have HZR:=Lib.hid (HL.out.mid (i:=p) (m:=m) (by omega))
 have eY:=Lib.hid (HL.out.take (m:=s1) (by omega))
 have uZ:=Lib.hid (HL.out.take (m:=p) (by omega))
 rw[←hp]
 have H1:Hid (∀r q,Calls Tryz.prog 116 #[.slice (some ⟨b,o+p,none⟩) m cp] (w.drewN (r+q)) fun e w'=>e=.returned (.bool (Fx ((l.drop p).take m)))∧∃j,w'=w.drewN (r+j)):=fun r q=>
  ((dG _ m cp _ _ (HZR.out.drewN (r+q)) (by omega)).mono fun _ _ h=>⟨h.1,q,h.2.symm⟩)
 have H2:Hid (∀r q,Calls Tryz.prog 104 #[.slice (some ⟨b,o,none⟩) s1 c,.int .u64 num,.int .i64 ad] (w.drewN (r+q)) fun e w'=>e=.returned (.int .u64 (Dh (l.take s1) num ad))∧∃j,w'=w.drewN (r+j)):=fun r q=>
  ((Pr _ s1 c _ num ad _ (eY.out.drewN (r+q)) (by omega) sR had).mono fun _ _ h=>⟨h.1,q,h.2.symm⟩)
 generalize Dh (l.take s1) num ad=zz at*
 have c1':∀q,(w.drewN q).cell? ⟨b,o+s1,none⟩=some (.int .u64 (z:Nat)):=fun _=>c1
 clear hp hm hcp
 cases hzz:Fx ((l.drop p).take m)with
 |false=>
  rw[hzz]at H1
  have LO:Hid (okW l ad=false):=by
   unfold Hid
   rw[Bool.eq_false_iff];intro h
   have:=(Yz.out.1 h).1
   rw[hzz]at this;cases this
  clear hzz Yz
  go_enter Tryz.func99,Tryz.ntmps99
  go_wp2_with fail
  refine(HM.out _).mono ?_;rintro e w1 ⟨rfl,rfl⟩
  go_wp2
  go_quiet (fail)
  go_wp2
  go_quiet (with_reducible first|exact H1.out _ _|exact H2.out _ _)
  go_wp2
  go_ret3
  exact .inl ⟨LO.out,rfl,AF (AF (Below.refl _ _) _) _⟩
 |true=>
  rw[hzz]at H1
  by_cases he:z=zz
  ·subst he
   have dN:Hid (okW l ad=true):=Yz.out.2 ⟨hzz,rfl⟩
   clear hzz Yz
   have DJ:Hid (∀q,Calls Tryz.prog 107 #[.slice (some ⟨b,o,none⟩) p c] (w.drewN q) fun e w'=>∃v,e=.returned v∧w'.ownsRow w.heap.size 127 1 v p ((l.take p).map vw)∧Below w.heap.size w w'):=fun q=>
    (UH (some ⟨b,o,none⟩) p c (l.take p) (w.drewN q) (uZ.out.drewN q) (by simp) (by omega) HB.out).mono fun e w' ⟨v,h1,h2,h3⟩=>⟨v,h1,h2,(AF (Below.refl w.heap.size w) q).trans h3⟩
   have Wj:∀q,(w.drewN q).cell? ⟨b,o+s2,none⟩=some (.int .u64 (tag:Nat)):=fun _=>c2
   go_enter Tryz.func99,Tryz.ntmps99
   go_wp2_with fail
   refine(HM.out _).mono ?_;rintro e w1 ⟨rfl,rfl⟩
   go_wp2
   go_quiet (fail)
   go_wp2
   go_quiet (with_reducible first|exact H1.out _ _|exact H2.out _ _)
   go_wp2
   have Io:IntKind.i64.wrap (s2:Int)=(s2:Int):=IntWalk.i64_in _ (by omega)
   go_region_held3 (fun w'=>w'.cell? ⟨b,o+s2,none⟩=some (.int .u64 (tag:Nat)))
    (first|exact c2|exact e2) ((go_at_call 107;refine(DJ.out _).mono ?_;rintro e w2 ⟨v,rfl,ho3,A8⟩;have e2:w2.cell? ⟨b,o+s2,none⟩=some (.int .u64 (tag:Nat)):=(A8.cell (p:=⟨b,o+s2,none⟩) (Nat.lt_of_lt_of_le Mz HB.out)).trans c2))
   have HO:=Lib.hid ho3
   have BM:=Lib.hid A8
   clear ho3 A8
   go_wp2
   go_ret3
   exact .inr ⟨dN.out,v,rfl,HO.out,BM.out⟩
  ·have LO:Hid (okW l ad=false):=by
    unfold Hid
    rw[Bool.eq_false_iff];intro h
    exact he (Yz.out.1 h).2
   have g3:((z:Int) !=(zz:Int))=true:=by simp;omega
   clear hzz Yz
   go_enter Tryz.func99,Tryz.ntmps99
   go_wp2_with fail
   refine(HM.out _).mono ?_;rintro e w1 ⟨rfl,rfl⟩
   go_wp2
   go_quiet (fail)
   go_wp2
   go_quiet (with_reducible first|exact H1.out _ _|exact H2.out _ _)
   go_wp2
   go_ret3
   exact .inl ⟨LO.out,rfl,AF (AF (Below.refl _ _) _) _⟩
def S4(v:Value):Option (DataW Value×List MemPlace):=some (.held v,[])
theorem law:Maps.Keyed Tryz.prog 3:=Maps.int_keyed Tryz.underlying3
theorem mY{x:Int}(h:Fv x):keyOf Tryz.prog 3 (.int .i64 x)=some (.int .i64 x):=Maps.keyOf_int_mk Tryz.underlying3 h
theorem rI{x:Int}(h:Fv x):WideAt.IsKeyLit (.int .i64 x):=law.key (mY h)
def Fn(D:DataW Value)(f:Int→Option Value):Prop:=
 Maps.IsMap D∧(∀x,Fv x→f x=none→Maps.has D (.int .i64 x)=false)∧∀x v,Fv x→f x=some v→Maps.has D (.int .i64 x)=true∧∀zd,D.atKey (.int .i64 x) zd=.held v
theorem Fn.empty:Fn (.map []) nothing:=⟨Maps.isMap_empty,fun _ _ _=>rfl,fun _ _ _ h=>by cases h⟩
theorem Fn.put{D:DataW Value}{f:Int→Option Value}(h:Fn D f){i:Int}(hi:Fv i)(v:Value):Fn (D.put (.int .i64 i) (.held v)) (Rv f i v):=by
 obtain⟨h0,h1,h2⟩:=h
 have hne:∀{x:Int},x≠i→(Lit.int .i64 x)≠.int .i64 i:=fun hx e=>hx (by injection e)
 refine⟨h0.put _ _,fun x hx hn=>?_,fun x u hx hu=>?_⟩
 ·by_cases e:x=i
  ·subst e;rw[GZ]at hn;cases hn
  ·rw[FQ _ _ e]at hn
   rw[Maps.has_put_other (hne e)];exact h1 x hx hn
 ·by_cases e:x=i
  ·subst e;rw[GZ]at hu;injection hu with hu;subst hu
   exact⟨Maps.has_put_same h0 (rI hx) _,fun zd=>Maps.atKey_put_same h0 (rI hx) _ _⟩
  ·rw[FQ _ _ e]at hu
   rw[Maps.has_put_other (hne e)]
   exact⟨(h2 x u hx hu).1,fun zd=>by rw[Maps.atKey_put_other (hne e)];exact(h2 x u hx hu).2 zd⟩
def GV(w:World)(b n:Nat)(f:Int→Option Value):Prop:=∃D:DataW Value,w.ownsMap Tryz.prog 3 S4 b n D∧Fn D f
theorem GV.lt{w:World}{b n:Nat}{f:Int→Option Value}(h:GV w b n f):b<w.heap.size:=by obtain⟨D,h,_⟩:=h;exact h.lt
theorem GV.mono{w:World}{b n n':Nat}{f:Int→Option Value}(h:GV w b n f)(hn:n≤n'):GV w b n' f:=by obtain⟨D,h,k⟩:=h;exact⟨D,h.mono hn,k⟩
theorem GV.same{w w':World}{b n:Nat}{f:Int→Option Value}(h:GV w b n f)(hb:w'.heap[b]?=w.heap[b]?):GV w' b n f:=by
 obtain⟨D,⟨es,clock,h1,h2⟩,k⟩:=h
 exact⟨D,⟨es,clock,hb.trans h1,h2⟩,k⟩
theorem GV.made(w:World):GV (w.alloc (.map #[] 0)) w.heap.size 0 nothing:=⟨_,World.ownsMap_made w Tryz.prog 3 S4,Fn.empty⟩
theorem GV.A9{w:World}{b n g:Nat}{f:Int→Option Value}{t:TypeId}{cs:List Value}(h:GV w b n f)(hr:Row w g t cs):g≠b:=by
 obtain⟨D,⟨es,clock,h1,_⟩,_⟩:=h
 intro e;subst e;unfold Row at hr;rw[h1]at hr;cases hr
def Words(w:World)(G:Nat→Prop)(v:Value)(l:List Nat):Prop:=
 ∃g c cs,v=.slice (some ⟨g,0,none⟩) l.length c∧Row w g 127 cs∧G g∧l.length≤c∧c≤maxLen∧0<l.length∧(∀x∈l,(Lit.int .u64 (x:Nat)).wf=true)∧cs.take l.length=l.map fun x:Nat=>Value.int .u64 x
theorem Words.CL{w w':World}{G G':Nat→Prop}{v:Value}{l:List Nat}(h:Words w G v l)(hG:∀k cs,Row w k 127 cs→G k→w'.heap[k]?=w.heap[k]?)(nw:∀k cs,Row w k 127 cs→G k→G' k):Words w' G' v l:=by
 obtain⟨g,c,cs,rfl,hr,hg,h1⟩:=h
 exact⟨g,c,cs,rfl,(hG g cs hr hg).trans hr,nw g cs hr hg,h1⟩
theorem Words.reads{w:World}{G:Nat→Prop}{v:Value}{l:List Nat}(h:Words w G v l):∃A c,v=.slice A l.length c∧A≠none∧Reads .u64 w w.heap.size A l.length l:=by
 obtain⟨g,c,cs,rfl,hr,hg,_,_,hp,hw,ht⟩:=h
 refine⟨_,c,rfl,by simp,hr.reads rfl hw (fun i hi=>?_) hr.lt⟩
 have h1:(cs.take l.length)[i]?=cs[i]?:=by rw[List.getElem?_take,if_pos hi]
 rw[←h1,ht,List.getElem?_map,List.getElem?_eq_getElem hi,List.getD_eq_getElem?_getD,List.getElem?_eq_getElem hi];rfl
def Rel(w:World)(G:Nat→Prop):Option Value→Option (List Nat)→Prop
 |none,none=>True
 |some v,some l=>Words w G v l
 | _,_=>False
theorem Rel.CL{w w':World}{G G':Nat→Prop}{v:Option Value}{l:Option (List Nat)}(h:Rel w G v l)(hG:∀k cs,Row w k 127 cs→G k→w'.heap[k]?=w.heap[k]?)(nw:∀k cs,Row w k 127 cs→G k→G' k):Rel w' G' v l:=by
 match v,l,h with
 |none,none,_=>trivial
 |some v,some l,h=>exact Words.CL h hG nw
def E6(w:World)(G:Nat→Prop)(b n:Nat)(fl:Int→Option (List Nat)):Prop:=∃f,GV w b n f∧∀x,Rel w G (f x) (fl x)
def Jc:List (Int×Value)→List Value
 |[]=>[]
 |e::l=>.int .i64 e.1::e.2::Jc l
theorem Kz:∀l m,Jc (l++m)=Jc l++Jc m
 |[],_=>rfl
 |e::l,m=>by show _:: _::Jc (l++m)= _;rw[Kz l m];rfl
def GL(w:World)(G:Nat→Prop)(v:Value)(l:List (Int×List Nat)):Prop:=
 ∃rs:List (Int×Value),w.ownsRow 0 177 2 v l.length (Jc rs)∧rs.length=l.length∧(∀(i:Nat) (r:Int×Value) (e:Int×List Nat),rs[i]?=some r→l[i]?=some e→r.1=e.1∧Words w G r.2 e.2)∧∀k,v.ownBlock=some k→G k
def cellsOf(s:St)(bl bf:Nat)(v:Value):List Value:=
 [.int .i64 (s.size:Int),.int .i64 s.blocks,.map (some bl),.map (some bf),v,.bool s.fb,.int .i64 s.fn,.bool s.tb,.int .i64 s.tn,.bool s.down,.int .i64 s.Al]
structure Fits (s:St) (n:Nat):Prop where
 size:8≤s.size∧s.size≤256
 blocks:0≤s.blocks∧s.blocks≤1000000
 fn:0≤s.fn∧s.fn≤1000000
 tn:0≤s.tn∧s.tn≤1000000
 Al:0≤s.Al∧s.Al≤n
 small:n≤1000000
 Ak:∀e∈s.Ak,Fv e.1∧e.2.length=s.size
 fl:∀x l,s.fl x=some l→l.length=s.size
def eA(w:World)(G:Nat→Prop)(p:Nat)(s:St)(n m:Nat):Prop:=
 Fits s n∧∃bl bf v nl,Row w p 90 (cellsOf s bl bf v)∧E6 w G bl nl s.fl∧E6 w G bf s.Ak.length (lay nothing s.Ak)∧GL w G v s.Ak∧bl≠bf∧G p∧G bl∧G bf∧(∀k,G k→k<w.heap.size)∧nl+s.Ak.length≤m
def IY(w:World)(G:Nat→Prop)(p:Nat)(s:St)(n:Nat):Prop:=eA w G p s n n
section
variable {w w' : World} {G G' : Nat → Prop}
theorem E6.CL{b n:Nat}{fl:Int→Option (List Nat)}(h:E6 w G b n fl)(hb:w'.heap[b]?=w.heap[b]?)(hG:∀k cs,Row w k 127 cs→G k→w'.heap[k]?=w.heap[k]?)(nw:∀k cs,Row w k 127 cs→G k→G' k):E6 w' G' b n fl:=by
 obtain⟨f,h1,h2⟩:=h
 exact⟨f,h1.same hb,fun x=>(h2 x).CL hG nw⟩
theorem E6.lt{b n:Nat}{fl:Int→Option (List Nat)}(h:E6 w G b n fl):b<w.heap.size:=by obtain⟨f,h1,_⟩:=h;exact h1.lt
theorem E6.A9{b n g:Nat}{fl:Int→Option (List Nat)}{t:TypeId}{cs:List Value}(h:E6 w G b n fl)(hr:Row w g t cs):g≠b:=by obtain⟨f,h1,_⟩:=h;exact h1.A9 hr
theorem E6.mono{b n n':Nat}{fl:Int→Option (List Nat)}(h:E6 w G b n fl)(hn:n≤n'):E6 w G b n' fl:=by obtain⟨f,h1,h2⟩:=h;exact⟨f,h1.mono hn,h2⟩
theorem GL.CL{v:Value}{l:List (Int×List Nat)}(h:GL w G v l)(hv:∀k,v.ownBlock=some k→G k→w'.heap[k]?=w.heap[k]?∧G' k)(hG:∀k cs,Row w k 127 cs→G k→w'.heap[k]?=w.heap[k]?)(nw:∀k cs,Row w k 127 cs→G k→G' k):GL w' G' v l:=by
 obtain⟨rs,h1,h2,h3,h4⟩:=h
 exact⟨rs,CV h1 fun k hk=>(hv k hk (h4 k hk)).1,h2,fun i r e hr he=>⟨(h3 i r e hr he).1,(h3 i r e hr he).2.CL hG nw⟩,fun k hk=>(hv k hk (h4 k hk)).2⟩
theorem GL.nil(w:World)(G:Nat→Prop):GL w G (.slice none 0 0) []:=⟨[],World.ownsRow_nil _ _ _ _,rfl,fun i r e h=>by simp at h,fun k h=>by simp[Value.ownBlock]at h⟩
theorem GL.A9{v:Value}{l:List (Int×List Nat)}(h:GL w G v l){g:Nat}{t:TypeId}{cs:List Value}(hr:Row w g t cs)(ht:t≠177):v.ownBlock≠some g:=by
 obtain⟨rs,⟨_,h1⟩,_⟩:=h
 rcases h1 with⟨rfl,_⟩|⟨g',cap,cur,rfl,_,hh,_⟩
 ·simp[Value.ownBlock]
 ·simp only[Value.ownBlock]
  intro e;injection e with e;subst e
  unfold Row at hr;rw[hh]at hr;injection hr with hr;injection hr with _ hr;exact ht hr.symm
theorem GL.RF{v:Value}{l:List (Int×List Nat)}(h:GL w G v l){b n:Nat}{fl:Int→Option (List Nat)}(hs:E6 w G b n fl):v.ownBlock≠some b:=by
 obtain⟨rs,⟨_,h1⟩,_⟩:=h
 rcases h1 with⟨rfl,_⟩|⟨g',cap,cur,rfl,_,hh,_⟩
 ·simp[Value.ownBlock]
 ·simp only[Value.ownBlock]
  intro e;injection e with e;subst e
  obtain⟨f,⟨D,⟨es,clock,h1,_⟩,_⟩,_⟩:=hs
  rw[h1]at hh;cases hh
theorem GL.form{v:Value}{l:List (Int×List Nat)}(h:GL w G v l):∃A c,v=.slice A l.length c:=by
 obtain⟨rs,⟨_,h1⟩,_⟩:=h
 rcases h1 with⟨rfl,h0⟩|⟨g,cap,cur,rfl,_⟩
 ·exact⟨none,0,by rw[h0]⟩
 ·exact⟨_,_,rfl⟩
theorem IY.CL{p:Nat}{s:St}{n:Nat}(h:IY w G p s n)(hG:∀k,G k→w'.heap[k]?=w.heap[k]?)(hs:w.heap.size≤w'.heap.size):IY w' G p s n:=by
 obtain⟨h0,bl,bf,v,nl,h1,h2,h3,h4,h5,h6,h7,h8,h9,FJ⟩:=h
 exact⟨h0,bl,bf,v,nl,(hG p h6).trans h1,h2.CL (hG bl h7) (fun k _ _ hk=>hG k hk) (fun k _ _ hk=>hk),h3.CL (hG bf h8) (fun k _ _ hk=>hG k hk) (fun k _ _ hk=>hk),h4.CL (fun k _ hk=>⟨hG k hk,hk⟩) (fun k _ _ hk=>hG k hk) (fun k _ _ hk=>hk),h5,h6,h7,h8,fun k hk=>Nat.lt_of_lt_of_le (h9 k hk) hs,FJ⟩
theorem IY.below{p:Nat}{s:St}{n:Nat}(h:IY w G p s n)(hb:Below w.heap.size w w'):IY w' G p s n:=
 h.CL (fun k hk=>hb.block k (by obtain⟨_,_,_,_,_,_,_,_,_,_,_,_,_,h9,_⟩:=h;exact h9 k hk)) hb.size
theorem IY.lt{p:Nat}{s:St}{n:Nat}(h:IY w G p s n){k:Nat}(hk:G k):k<w.heap.size:=by obtain⟨_,_,_,_,_,_,_,_,_,_,_,_,_,h9,_⟩:=h;exact h9 k hk
theorem IY.Cc{F:Nat→Prop}{p:Nat}{s:St}{n:Nat}(h:IY w G p s n)(hb:AL F w w')(hF:∀k,G k→¬F k):IY w' G p s n:=
 h.CL (fun k hk=>hb.block k (h.lt hk) (hF k hk)) hb.size
theorem IY.fits{p:Nat}{s:St}{n:Nat}(h:IY w G p s n):Fits s n:=h.1
theorem IY.Ju{p:Nat}{s:St}{n:Nat}(h:IY w G p s n):G p:=by obtain⟨_,_,_,_,_,_,_,_,_,_,h6,_⟩:=h;exact h6
theorem Fits.mono{s:St}{n n':Nat}(h:Fits s n)(hn:n≤n')(h6:n'≤1000000):Fits s n':=⟨h.size,h.blocks,h.fn,h.tn,⟨h.Al.1,by have:=h.Al.2;omega⟩,h6,h.Ak,h.fl⟩
theorem IY.mono{p:Nat}{s:St}{n n':Nat}(h:IY w G p s n)(hn:n≤n')(h6:n'≤1000000):IY w G p s n':=by
 obtain⟨h0,bl,bf,v,nl,h1,h2,h3,h4,h5,tQ,h7,h8,h9,FJ⟩:=h
 exact⟨h0.mono hn h6,bl,bf,v,nl,h1,h2,h3,h4,h5,tQ,h7,h8,h9,by omega⟩
theorem eA.up{p:Nat}{s:St}{n m:Nat}(h:eA w G p s n m)(hm:m≤n):IY w G p s n:=by
 obtain⟨h0,bl,bf,v,nl,h1,h2,h3,h4,h5,tQ,h7,h8,h9,FJ⟩:=h
 exact⟨h0,bl,bf,v,nl,h1,h2,h3,h4,h5,tQ,h7,h8,h9,by omega⟩
theorem IY.begin{p:Nat}{s:St}{n:Nat}(h:IY w G p s n){b:Bool}{bl bf:Nat}{v:Value}(h1:Row w p 90 (cellsOf s bl bf v))(h2:Row w' p 90 (cellsOf (begin s b).2 bl bf v))(hf:AL (fun k=>k=p) w w')(si:Fits (begin s b).2 (n+1)):eA w' G p (begin s b).2 (n+1) n:=by
 obtain⟨h0,tv,tw,v',nl,k1,k2,k3,k4,k5,k6,k7,k8,k9,gN⟩:=h
 obtain⟨e1,e2,e3,e4⟩:=DC s b
 have e0:cellsOf s bl bf v=cellsOf s tv tw v':=by
  unfold Row at h1 k1;rw[h1]at k1;injection k1 with k1;injection k1 with k1;simpa using k1
 obtain⟨rfl,rfl,rfl⟩:bl=tv∧bf=tw∧v=v':=by simpa [cellsOf]using e0
 have hne:∀k cs,Row w k 127 cs→k≠p:=by
  intro k cs hk e;subst e
  unfold Row at h1 hk;rw[h1]at hk;injection hk with hk;injection hk with _ hk;exact absurd hk (by decide)
 have Am:bl≠p:=fun e=>k2.A9 h1 e.symm
 have AZ:bf≠p:=fun e=>k3.A9 h1 e.symm
 have Is:∀k cs,Row w k 127 cs→G k→w'.heap[k]?=w.heap[k]?:=fun k cs hk hg=>hf.block k hk.lt (hne k cs hk)
 refine⟨si,bl,bf,v,nl,h2,?_,?_,?_,k5,k6,k7,k8,fun k hk=>Nat.lt_of_lt_of_le (k9 k hk) hf.size,by rw[e4];omega⟩
 ·rw[e3];exact k2.CL (hf.block bl k2.lt Am) Is (fun k _ _ hk=>hk)
 ·rw[e4];exact k3.CL (hf.block bf k3.lt AZ) Is (fun k _ _ hk=>hk)
 ·rw[e4];exact k4.CL (fun k hk hg=>⟨hf.block k (k9 k hg) fun e=>k4.A9 h1 (by decide) (by rw[←e];exact hk),hg⟩) Is (fun k _ _ hk=>hk)
end
theorem VU{s:St}{n:Nat}(h:Fits s n)(hn:n<1000000)(b:Bool):Fits (begin s b).2 (n+1):=by
 obtain⟨e1,e2,e3,e4⟩:=DC s b
 have ha:=VW s b
 have hf:(0≤(begin s b).2.fn∧(begin s b).2.fn≤1000000)∧(0≤(begin s b).2.tn∧(begin s b).2.tn≤1000000):=by
  have h1:=h.fn
  have h2:=h.tn
  unfold begin
  by_cases hd:s.down=true
  ·rw[if_pos hd];exact⟨h1,h2⟩
  rw[if_neg hd]
  by_cases hb:b=false
  ·rw[if_pos hb];exact⟨h1,h2⟩
  rw[if_neg hb]
  by_cases hA:s.fb=true∧s.fn=0
  ·rw[if_pos hA];exact⟨h1,h2⟩
  rw[if_neg hA]
  have zB:0≤(if s.fb=true then s.fn-1 else s.fn)∧(if s.fb=true then s.fn-1 else s.fn)≤1000000:=by
   split
   ·rename_i hB;have:s.fn≠0:=fun e=>hA ⟨hB,e⟩;omega
   ·exact h1
  by_cases hC:s.tb=true∧s.tn=0
  ·dsimp only;rw[if_pos hC];exact⟨zB,by dsimp only;omega⟩
  ·dsimp only;rw[if_neg hC]
   refine⟨zB,?_⟩
   show 0≤(if s.tb=true then s.tn-1 else s.tn)∧(if s.tb=true then s.tn-1 else s.tn)≤1000000
   split
   ·rename_i hB;have:s.tn≠0:=fun e=>hC ⟨hB,e⟩;omega
   ·exact h2
 refine⟨by rw[e1];exact h.size,by rw[e2];exact h.blocks,hf.1,hf.2,?_,by omega,by rw[e4,e1];exact h.Ak,by rw[e3,e1];exact h.fl⟩
 have:=h.Al
 rcases ha with ha|ha<;>rw[ha]<;>omega
section
variable (p : Nat) (s : St) (bl bf : Nat) (v : Value) (w : World)
theorem cY(hr:Row w p 90 (cellsOf s bl bf v)):Calls Tryz.prog 119 #[.pointer (some ⟨p,0,none⟩)] w fun e w'=>e=.returned (.bool s.down)∧w'=w:=by
 have c9:w.cell? ⟨p,9,none⟩=some (.bool s.down):=hr.cell 9
 go_enter Tryz.func119,Tryz.ntmps119
 go_wp2
 go_ret
 exact⟨rfl,rfl⟩
theorem Zt(hr:Row w p 90 (cellsOf s bl bf v)):Calls Tryz.prog 44 #[.pointer (some ⟨p,0,none⟩)] w fun e w'=>e=.returned (.int .i64 (s.size:Int))∧w'=w:=by
 have c0:w.cell? ⟨p,0,none⟩=some (.int .i64 (s.size:Int)):=hr.cell 0
 go_enter Tryz.func44,Tryz.ntmps44
 go_wp2
 go_ret
 exact⟨rfl,rfl⟩
theorem VT(hr:Row w p 90 (cellsOf s bl bf v)):Calls Tryz.prog 122 #[.pointer (some ⟨p,0,none⟩)] w fun e w'=>e=.returned (.int .i64 s.blocks)∧w'=w:=by
 have c1:w.cell? ⟨p,1,none⟩=some (.int .i64 s.blocks):=hr.cell 1
 go_enter Tryz.func122,Tryz.ntmps122
 go_wp2
 go_ret
 exact⟨rfl,rfl⟩
theorem WX(i:Int)(hr:Row w p 90 (cellsOf s bl bf v)):Calls Tryz.prog 106 #[.pointer (some ⟨p,0,none⟩),.int .i64 i] w fun e w'=>e=.returned (.bool (right s i))∧w'=w:=by
 have hb:=VT p s bl bf v w hr
 have HX:Hid (right s i=(decide (0≤i)&&decide (i<s.blocks))):=rfl
 by_cases h0:0≤i
 ·have zi:decide (i≥0)=true:=by simpa using h0
  have oB:decide (0≤i)=true:=by simpa using h0
  go_enter Tryz.func106,Tryz.ntmps106
  go_wp2_with fail
  refine hb.mono ?_
  rintro e w1 ⟨rfl,rfl⟩
  go_wp2
  go_ret
  exact⟨Du (by rw[HX.out,oB];simp),rfl⟩
 ·have zi:decide (i≥0)=false:=by simpa using h0
  have oB:decide (0≤i)=false:=by simpa using h0
  go_enter Tryz.func106,Tryz.ntmps106
  go_wp2
  go_ret
  exact⟨Du (by rw[HX.out,oB];simp),rfl⟩
theorem Lh(b o:Nat)(isSet:Bool)(left:Int)(c0:w.cell? ⟨b,o,none⟩=some (.bool isSet))(c1:w.cell? ⟨b,o+1,none⟩=some (.int .i64 left)):
  Calls Tryz.prog 120 #[.pointer (some ⟨b,o,none⟩)] w fun e w'=>e=.returned (.bool (isSet&&left==0))∧w'=w:=by
 cases isSet
 ·go_enter Tryz.func120,Tryz.ntmps120
  go_wp2
  go_ret
  exact⟨rfl,rfl⟩
 ·go_enter Tryz.func120,Tryz.ntmps120
  go_wp2
  go_ret
  exact⟨rfl,rfl⟩
theorem Ns(b o:Nat)(isSet:Bool)(left:Int)(c0:w.cell? ⟨b,o,none⟩=some (.bool isSet))(c1:w.cell? ⟨b,o+1,none⟩=some (.int .i64 left))(f1:w.frozen? ⟨b,o+1,none⟩=false)(hl:0≤left∧left≤1000000):
  Calls Tryz.prog 121 #[.pointer (some ⟨b,o,none⟩)] w fun e w'=>e=.returned (.tuple #[])∧w'=if isSet then w.setCell ⟨b,o+1,none⟩ (.int .i64 (left-1))else w:=by
 cases isSet
 ·go_enter Tryz.func121,Tryz.ntmps121
  go_wp2
  go_end0
  exact⟨rfl,rfl⟩
 ·go_enter Tryz.func121,Tryz.ntmps121
  go_wp2
  go_end0
  exact⟨rfl,rfl⟩
end
theorem Row.Gx{w:World}{p:Nat}{s s':St}{bl bf:Nat}{v:Value}(hr:Row w p 90 (cellsOf s bl bf v))(i:Nat)(u:Value)(he:(cellsOf s bl bf v).set i u=cellsOf s' bl bf v):Row (w.setCell ⟨p,i,none⟩ u) p 90 (cellsOf s' bl bf v):=by
 have:=hr.set i u
 rw[he]at this;exact this
theorem QN{w w1:World}{p:Nat}(h:AL (fun k=>k=p) w w1)(i:Nat)(u:Value):AL (fun k=>k=p) w (w1.setCell ⟨p,i,none⟩ u):=h.set (.inl rfl) u
theorem St.iL(s:St)(h:s.fb=false):({s with fn:=if s.fb then s.fn-1 else s.fn}:St)=s:=by cases s;simp_all
theorem St.fD(s:St)(h:s.tb=false):({s with tn:=if s.tb then s.tn-1 else s.tn}:St)=s:=by cases s;simp_all
theorem St.iM(s:St)(h:s.fb=true):({s with fn:=if s.fb then s.fn-1 else s.fn}:St)={s with fn:=s.fn-1}:=by cases s;simp_all
theorem St.fE(s:St)(h:s.tb=true):({s with tn:=if s.tb then s.tn-1 else s.tn}:St)={s with tn:=s.tn-1}:=by cases s;simp_all
theorem Yr(p:Nat)(s:St)(n:Nat)(bl bf:Nat)(v:Value)(b:Bool)(w:World)(hf:Fits s n)(hr:Row w p 90 (cellsOf s bl bf v)):
  Calls Tryz.prog 105 #[.pointer (some ⟨p,0,none⟩),.bool b] w fun e w'=>e=.returned (.int .i64 (begin s b).1)∧Row w' p 90 (cellsOf (begin s b).2 bl bf v)∧AL (fun k=>k=p) w w':=by
 have hd:=cY p s bl bf v w hr
 by_cases TR:s.down=true
 ·have HX:=Lib.hid (VV s b TR)
  rw[TR]at hd
  go_enter Tryz.func105,Tryz.ntmps105
  go_wp2_with fail
  refine hd.mono ?_
  rintro e w1 ⟨rfl,rfl⟩
  go_wp2
  go_ret
  rw[HX.out]
  exact⟨rfl,hr,AL.refl _ _⟩
 have U8:s.down=false:=by simpa using TR
 rw[U8]at hd
 cases b
 ·have HX:Hid (begin s false=(1,s)):=by unfold Hid begin;simp[U8]
  go_enter Tryz.func105,Tryz.ntmps105
  go_wp2_with fail
  refine hd.mono ?_
  rintro e w1 ⟨rfl,rfl⟩
  go_wp2
  go_ret
  rw[HX.out]
  exact⟨rfl,hr,AL.refl _ _⟩
 have hi:=Lh w p 5 s.fb s.fn (hr.cell 5) (hr.cell 6)
 by_cases hA:s.fb=true∧s.fn=0
 ·have HX:Hid (begin s true=(8,{s with down:=true})):=by unfold Hid begin;simp[U8,hA]
  rw[show (s.fb&&s.fn==0)=true by simp[hA]]at hi
  have f9:=hr.free 9
  have c9:w.cell? ⟨p,9,none⟩=some (.bool s.down):=hr.cell 9
  go_enter Tryz.func105,Tryz.ntmps105
  go_wp2_with fail
  refine hd.mono ?_
  rintro e w1 ⟨rfl,rfl⟩
  go_wp2_with fail
  refine hi.mono ?_
  rintro e w1 ⟨rfl,rfl⟩
  go_wp2
  go_ret
  rw[HX.out]
  exact⟨rfl,hr.Gx 9 _ rfl,QN (AL.refl _ _) _ _⟩
 rw[show (s.fb&&s.fn==0)=false by rw[Bool.eq_false_iff];simpa using hA]at hi
 have hl:=Ns w p 5 s.fb s.fn (hr.cell 5) (hr.cell 6) (hr.free 6) hf.fn
 obtain⟨s1,EK⟩:∃s1:St,s1={s with fn:=if s.fb then s.fn-1 else s.fn}:=⟨_,rfl⟩
 have Bl:∀w',w'=(if s.fb=true then w.setCell ⟨p,5+1,none⟩ (.int .i64 (s.fn-1))else w)→Row w' p 90 (cellsOf s1 bl bf v)∧AL (fun k=>k=p) w w':=by
  intro w' Ut
  subst EK
  by_cases Pz:s.fb=false
  ·rw[St.iL s Pz]
   rw[Pz]at Ut
   simp at Ut;subst Ut
   exact⟨hr,AL.refl _ _⟩
  ·have Pz:s.fb=true:=by simpa using Pz
   rw[St.iM s Pz]
   rw[Pz]at Ut
   simp at Ut;subst Ut
   exact⟨hr.Gx 6 _ rfl,QN (AL.refl _ _) _ _⟩
 have sF:=Lib.hid Bl
 have gV:s1.tb=s.tb:=by rw[EK]
 have mq:s1.tn=s.tn:=by rw[EK]
 by_cases hC:s.tb=true∧s.tn=0
 ·have HX:Hid (begin s true=(6,{s1 with tb:=false,tn:=0})):=by
   subst EK;unfold Hid begin;rw[if_neg TR,if_neg (by decide),if_neg hA];dsimp only;rw[if_pos hC]
  clear Bl EK
  go_enter Tryz.func105,Tryz.ntmps105
  go_wp2_with fail
  refine hd.mono ?_
  rintro e w1 ⟨rfl,rfl⟩
  go_wp2_with fail
  refine hi.mono ?_
  rintro e w1 ⟨rfl,rfl⟩
  go_wp2_with fail
  refine hl.mono ?_
  rintro e w2 ⟨rfl,Ek⟩
  obtain⟨Av,Di⟩:=sF.out w2 Ek
  have LB:=Lib.hid Av
  have Oh:=Lib.hid Di
  clear Ek Di hl hi hd
  have hi2:=Lh w2 p 7 s1.tb s1.tn (Av.cell 7) (Av.cell 8)
  rw[show (s1.tb&&s1.tn==0)=true by simp[gV,mq,hC]]at hi2
  have f7:=Av.free 7
  have f8:=Av.free 8
  have c7:w2.cell? ⟨p,7,none⟩=some (.bool s1.tb):=Av.cell 7
  have c8:w2.cell? ⟨p,8,none⟩=some (.int .i64 s1.tn):=Av.cell 8
  clear Av hC gV mq
  go_wp2_with fail
  refine hi2.mono ?_
  rintro e w3 ⟨rfl,rfl⟩
  go_wp2
  go_ret
  rw[HX.out]
  exact⟨rfl,(LB.out.Gx (s':={s1 with tb:=false}) 7 _ rfl).Gx 8 _ rfl,QN (QN Oh.out _ _) _ _⟩
 ·have HX:Hid (begin s true=(0,{s1 with tn:=if s1.tb then s1.tn-1 else s1.tn,Al:=s1.Al+1})):=by
   subst EK;unfold Hid begin;rw[if_neg TR,if_neg (by decide),if_neg hA];dsimp only;rw[if_neg hC]
  have hts:0≤s1.tn∧s1.tn≤1000000:=by rw[mq];exact hf.tn
  have has:0≤s1.Al∧s1.Al≤n:=by rw[EK];exact hf.Al
  have h6:=hf.small
  clear Bl EK
  go_enter Tryz.func105,Tryz.ntmps105
  go_wp2_with fail
  refine hd.mono ?_
  rintro e w1 ⟨rfl,rfl⟩
  go_wp2_with fail
  refine hi.mono ?_
  rintro e w1 ⟨rfl,rfl⟩
  go_wp2_with fail
  refine hl.mono ?_
  rintro e w2 ⟨rfl,Ek⟩
  obtain⟨Av,Di⟩:=sF.out w2 Ek
  have LB:=Lib.hid Av
  have Oh:=Lib.hid Di
  clear Ek Di hl hi hd
  have hi2:=Lh w2 p 7 s1.tb s1.tn (Av.cell 7) (Av.cell 8)
  rw[show (s1.tb&&s1.tn==0)=false by rw[Bool.eq_false_iff,gV,mq];simpa using hC]at hi2
  have nL:=Ns w2 p 7 s1.tb s1.tn (Av.cell 7) (Av.cell 8) (Av.free 8) hts
  have Cn:∀w',w'=(if s1.tb=true then w2.setCell ⟨p,7+1,none⟩ (.int .i64 (s1.tn-1))else w2)→Row w' p 90 (cellsOf {s1 with tn:=if s1.tb then s1.tn-1 else s1.tn} bl bf v)∧AL (fun k=>k=p) w1 w':=by
   intro w' Ut
   by_cases Pz:s1.tb=false
   ·rw[St.fD s1 Pz]
    rw[Pz]at Ut
    simp at Ut;subst Ut
    exact⟨Av,Oh.out⟩
   ·have Pz:s1.tb=true:=by simpa using Pz
    rw[St.fE s1 Pz]
    rw[Pz]at Ut
    simp at Ut;subst Ut
    exact⟨Av.Gx 8 _ rfl,QN Oh.out _ _⟩
  have IK:=Lib.hid Cn
  clear Av Cn hC gV mq hts
  go_wp2_with fail
  refine hi2.mono ?_
  rintro e w3 ⟨rfl,rfl⟩
  go_wp2_with fail
  refine nL.mono ?_
  rintro e w4 ⟨rfl,Us⟩
  obtain⟨FH,Mi⟩:=IK.out w4 Us
  have dW:=Lib.hid FH
  have HF4:=Lib.hid Mi
  have f10:=FH.free 10
  have c10:w4.cell? ⟨p,10,none⟩=some (.int .i64 s1.Al):=FH.cell 10
  clear Us FH Mi hi2 nL
  go_wp2
  go_ret
  rw[HX.out]
  exact⟨rfl,dW.out.Gx 10 _ rfl,QN HF4.out _ _⟩
theorem Wo(p:Nat)(s:St)(n:Nat)(G:Nat→Prop)(b:Bool)(w:World)(h:IY w G p s n)(hn:n<1000000):
  Calls Tryz.prog 105 #[.pointer (some ⟨p,0,none⟩),.bool b] w fun e w'=>e=.returned (.int .i64 (begin s b).1)∧eA w' G p (begin s b).2 (n+1) n∧AL (fun k=>k=p) w w':=by
 obtain⟨bl,bf,v,nl,hr,_⟩:=id h.2
 refine(Yr p s n bl bf v b w h.1 hr).mono ?_
 rintro e w' ⟨he,h2,h3⟩
 exact⟨he,h.begin hr h2 h3 (VU h.1 hn b),h3⟩
theorem IY.MU{w w':World}{G:Nat→Prop}{p:Nat}{s s':St}{n n':Nat}{bl bf:Nat}{v:Value}(h:IY w G p s n)(h1:Row w p 90 (cellsOf s bl bf v))(h2:Row w' p 90 (cellsOf s' bl bf v))(hf:AL (fun k=>k=p) w w')(si:Fits s' n')(hn:n≤n')(e3:s'.fl=s.fl)(e4:s'.Ak=s.Ak):IY w' G p s' n':=by
 obtain⟨h0,tv,tw,v',nl,k1,k2,k3,k4,k5,k6,k7,k8,k9,gN⟩:=h
 have e0:cellsOf s bl bf v=cellsOf s tv tw v':=by
  unfold Row at h1 k1;rw[h1]at k1;injection k1 with k1;injection k1 with k1;simpa using k1
 obtain⟨rfl,rfl,rfl⟩:bl=tv∧bf=tw∧v=v':=by simpa [cellsOf]using e0
 have hne:∀k cs,Row w k 127 cs→k≠p:=by
  intro k cs hk e;subst e
  unfold Row at h1 hk;rw[h1]at hk;injection hk with hk;injection hk with _ hk;exact absurd hk (by decide)
 have Am:bl≠p:=fun e=>k2.A9 h1 e.symm
 have AZ:bf≠p:=fun e=>k3.A9 h1 e.symm
 have Is:∀k cs,Row w k 127 cs→G k→w'.heap[k]?=w.heap[k]?:=fun k cs hk _=>hf.block k hk.lt (hne k cs hk)
 refine⟨si,bl,bf,v,nl,h2,?_,?_,?_,k5,k6,k7,k8,fun k hk=>Nat.lt_of_lt_of_le (k9 k hk) hf.size,by rw[e4];omega⟩
 ·rw[e3];exact k2.CL (hf.block bl k2.lt Am) Is (fun k _ _ hk=>hk)
 ·rw[e4];exact k3.CL (hf.block bf k3.lt AZ) Is (fun k _ _ hk=>hk)
 ·rw[e4];exact k4.CL (fun k hk hg=>⟨hf.block k (k9 k hg) fun e=>k4.A9 h1 (by decide) (by rw[←e];exact hk),hg⟩) Is (fun k _ _ hk=>hk)
theorem jw:(Tryz.prog.info? 127).map (fun i=>(i.zero,i.size,i.bytes))=some (some (.int .u64 0),1,8):=by kernel_rfl
theorem ownsRow_made(w:World)(e:TypeId):(w.alloc (.cells #[] e)).ownsRow w.heap.size e 1 (.slice (some ⟨w.heap.size,0,none⟩) 0 0) 0 []:=
 ⟨rfl,.inr ⟨w.heap.size,0,#[],rfl,Nat.le_refl _,heap_alloc_new _ _,Nat.le_refl _,Nat.zero_le _,rfl,rfl⟩⟩
theorem Xu{w:World}{base:Nat}{v:Value}{n:Nat}{l:List Nat}(h:w.ownsRow base 127 1 v n (l.map fun x:Nat=>Value.int .u64 x))(hl:l.length=n)(hp:0<n)(hw:∀x∈l,(Lit.int .u64 (x:Nat)).wf=true):Words w (fun k=>base≤k) v l:=by
 subst hl
 obtain⟨g,cap,cs,rfl,hg,hr,hc,hm,_,ht⟩:=fu h hp
 exact⟨g,cap,cs,rfl,hr,hg,hc,hm,hp,hw,ht⟩
theorem Jo(A:Option Addr)(n c:Nat)(l:List Nat)(w:World){B:Nat}(hl:Reads .u64 w B A n l)(hn:0<n)(TM:n≤1000000)(hB:B≤w.heap.size):
  Calls Tryz.prog 107 #[.slice A n c] w fun e w'=>∃v,e=.returned v∧Words w' (fun k=>w.heap.size≤k) v l∧Below w.heap.size w w':=by
 obtain⟨i0,hi,By,B3,EX⟩:=info_parts jw
 obtain⟨Jy,RQ,nL⟩:=id hl
 obtain⟨b,off,rfl,Mz,_⟩:=nL hn
 have HL:=Lib.hid hl
 have wZ:=Lib.hid Jy
 have O6:=Lib.hid RQ
 clear hl Jy RQ nL
 have hq:=fun w=>Go.Lib.run_eql_slice_nil (P:=Tryz.prog) w 123 127 (some ⟨b,off,none⟩) n c 0 0 Tryz.underlying123
 go_enter Tryz.func107,Tryz.ntmps107
 go_wp2_with (with_reducible refine BN 7 ?_)
 unfold Hid
 refine FU _ rfl _ _ 123 rfl w.heap.size 127 i0 (.int .u64 0) 8 Tryz.underlying123 hi By B3 EX rfl _ 0 [] rfl (ownsRow_made w 127) (some ⟨b,off,none⟩) n c (l.map fun x:Nat=>Value.int .u64 x) rfl (by rw[List.length_map];exact wZ.out) (HL.out.CL ((Below.refl _ w).alloc (by omega) _:Below B w _)).source QY (by omega) (by omega) (by simp) ?_
 intro v' w' Ap hb
 rw[Nat.zero_add,List.nil_append]at Ap
 have HO:=Lib.hid Ap
 have HB:=Lib.hid (((Below.refl w.heap.size w).alloc (Nat.le_refl _) _).trans hb)
 clear Ap hb
 go_wp2
 go_ret
 exact⟨v',rfl,Xu HO.out wZ.out hn O6.out,HB.out⟩
theorem lV(w:World):(zeroValue 123).run Tryz.prog w=.ok (.slice none 0 0) w:=by kernel_rfl
theorem Cp(w:World){ops:Array Oper}{rest:List Oper}{o:Oper}{a:Act}{Q:Exit→Act→World→Prop}
  (hg:o.guard=none) (m x:Operand) (gh:o.op=Op.lookup 87 m x true) (b n:Nat) (f:Int→Option Value) (hm:a.eval m=.map (some b)) (h:GV w b n f) (i:Int) (hi:Fv i) (hx:a.eval x=.int .i64 i)
  (u:Value) (k:Bool) (hu:(u=.slice none 0 0∧k=false∧f i=none)∨(f i=some u∧k=true)) (hK:wpList Tryz.prog ops Q rest (a.put o.dst (.tuple #[u,.bool k])) w):
  wpList Tryz.prog ops Q (o::rest) a w:=by
 obtain⟨D,Ap,h0,h1,h2⟩:=h
 refine wpList_lookup_own_ok w hg m x 87 gh 3 123 law Tryz.underlying87 S4 (lV w) (.held (.slice none 0 0)) [] rfl b n D hm Ap _ (.int .i64 i) hx (mY hi) ?_
 intro v ps hv
 have az:DataW.held v=D.atKey (.int .i64 i) (.held (.slice none 0 0)):=by unfold S4 at hv;injection hv with hv;injection hv
 rcases hu with⟨rfl,rfl,hn⟩|⟨hs,rfl⟩
 ·have hh:=h1 i hi hn
  rw[Maps.atKey_of_not_has hh]at az
  injection az with az
  rw[hh,az];exact hK
 ·obtain⟨hh,ha⟩:=h2 i u hi hs
  rw[ha]at az
  injection az with az
  rw[hh,az];exact hK
theorem TK(size:Nat)(blocks:Int)(b:Nat)(w:World):
  Calls Tryz.prog 57 #[.int .i64 (size:Int),.int .i64 blocks,.map (some b)] w fun e w'=>e=.returned (.pointer (some ⟨w.heap.size+1,0,none⟩))∧GV w' w.heap.size 0 nothing∧
   Row w' (w.heap.size+1) 90 (cellsOf (fresh size blocks) b w.heap.size (.slice none 0 0))∧Below w.heap.size w w'∧w'.heap.size=w.heap.size+2:=by
 have hmm:=@run_makeMap Tryz.prog
 have H1:=Lib.hid ((GV.made w).same (w':=(w.alloc (.map #[] 0)).alloc (.cells (cellsOf (fresh size blocks) b w.heap.size (.slice none 0 0)).toArray 90)) (Below.heap_alloc _ _ _ (by simp)))
 have H2:Hid (Row ((w.alloc (.map #[] 0)).alloc (.cells (cellsOf (fresh size blocks) b w.heap.size (.slice none 0 0)).toArray 90)) (w.heap.size+1) 90 (cellsOf (fresh size blocks) b w.heap.size (.slice none 0 0))):=by
  unfold Hid
  have:=heap_alloc_new (w.alloc (.map #[] 0)) (.cells (cellsOf (fresh size blocks) b w.heap.size (.slice none 0 0)).toArray 90)
  simp only[World.alloc,Array.size_push]at this⊢
  exact this
 go_enter Tryz.func57,Tryz.ntmps57
 go_wp2
 go_ret
 exact⟨rfl,H1.out,H2.out,((Below.refl _ w).alloc (Nat.le_refl _) _).alloc (by simp) _,by simp⟩
theorem VF{size:Nat}{blocks:Int}(h1:8≤size∧size≤256)(h2:0≤blocks∧blocks≤1000000):Fits (fresh size blocks) 0:=
 ⟨h1,h2,⟨Int.le_refl 0,(by decide:(0:Int)≤1000000)⟩,⟨Int.le_refl 0,(by decide:(0:Int)≤1000000)⟩,⟨Int.le_refl 0,Int.le_refl 0⟩,by decide,fun e he=>(by cases he),fun x l h=>(by cases h)⟩
theorem gA(size:Nat)(blocks:Int)(w:World)(h1:8≤size∧size≤256)(h2:0≤blocks∧blocks≤1000000):
  Calls Tryz.prog 29 #[.int .i64 (size:Int),.int .i64 blocks] w fun e w'=>∃p G,e=.returned (.tuple #[.pointer (some ⟨p,0,none⟩),.int .i64 0])∧IY w' G p (fresh size blocks) 0∧(∀k,G k→w.heap.size≤k)∧Below w.heap.size w w':=by
 have hmm:=@run_makeMap Tryz.prog
 have g1:decide ((size:Int)<8)=false:=by simp;omega
 have g2:decide ((size:Int)>256)=false:=by simp;omega
 have g3:decide (blocks<0)=false:=by simp;omega
 have g4:decide (blocks>1000000)=false:=by simp;omega
 have hh:=TK size blocks w.heap.size (w.alloc (.map #[] 0))
 have HM:=Lib.hid (GV.made w)
 have HF:=Lib.hid (VF h1 h2)
 clear h1 h2
 go_enter Tryz.func29,Tryz.ntmps29
 go_wp2_with fail
 refine hh.mono ?_
 rintro e w1 ⟨rfl,KH,Bl,Am,B3⟩
 have hz:(w.alloc (.map #[] 0)).heap.size=w.heap.size+1:=by simp
 rw[hz]at KH Bl Am B3
 have hm0:=HM.out.same (Am.block w.heap.size (by omega))
 have HD:Hid (IY w1 (fun k=>w.heap.size≤k∧k<w1.heap.size) (w.heap.size+1+1) (fresh size blocks) 0):=
  ⟨HF.out,w.heap.size,w.heap.size+1,.slice none 0 0,0,Bl,⟨nothing,hm0,fun x=>trivial⟩,⟨nothing,KH,fun x=>trivial⟩,GL.nil _ _,by omega,⟨by omega,by omega⟩,⟨by omega,by omega⟩,⟨by omega,by omega⟩,fun k hk=>hk.2,Nat.le_refl _⟩
 have HB:=Lib.hid (((Below.refl w.heap.size w).alloc (Nat.le_refl _) (.map #[] 0)).trans (Am.mono (by omega)))
 clear KH Bl Am hm0 hz hh
 go_wp2
 go_ret2
 exact⟨w.heap.size+1+1,_,rfl,HD.out,fun k hk=>hk.1,HB.out⟩
theorem MZ{w:World}{g:Nat}{n:Nat}(h:Row w g 127 (List.replicate n (.int .u64 0)))(hn:0<n)(hm:n≤maxLen){G:Nat→Prop}(hg:G g):Words w G (.slice (some ⟨g,0,none⟩) n n) (List.replicate n 0):=by
 refine⟨g,n,_,by rw[List.length_replicate],h,hg,by simp,hm,by simpa using hn,fun x hx=>by rw[List.eq_of_mem_replicate hx];decide,?_⟩
 simp
theorem aC(p:Nat)(s:St)(n:Nat)(G:Nat→Prop)(i:Int)(w:World)(h:IY w G p s n)(hn:n<1000000)(hi:Fv i):
  Calls Tryz.prog 98 #[.pointer (some ⟨p,0,none⟩),.int .i64 i] w fun e w'=>∃v,e=.returned (.tuple #[v,.int .i64 (read s i).1])∧((read s i).1≠0→v=.slice none 0 0)∧((read s i).1=0→Words w' (fun k=>w.heap.size≤k) v (s.now i))∧
   IY w' G p (read s i).2 (n+1)∧AL (fun k=>k=p) w w':=by
 obtain⟨_,zy,z7,v0,nl0,hr,_⟩:=id h
 have hh:=WX p s zy z7 v0 w i hr
 have ha:=Wo p s n G (right s i) w h hn
 have HR:Hid (read s i=begin s (right s i)):=rfl
 rw[HR.out]
 obtain⟨e1,e2,e3,e4⟩:=DC s (right s i)
 have HE:=Lib.hid e1
 have jM:=Lib.hid e3
 have qj:=Lib.hid e4
 clear e1 e2 e3 e4 hr h HR
 generalize begin s (right s i)=r at*
 obtain⟨er,s'⟩:=r
 simp only at ha HE jM qj⊢
 by_cases he:er=0
 ·subst he
  go_enter Tryz.func98,Tryz.ntmps98
  go_wp2_with fail
  refine hh.mono ?_
  rintro e w1 ⟨rfl,rfl⟩
  go_wp2_with fail
  refine ha.mono ?_
  rintro e Qs ⟨rfl,KJ,Iw⟩
  obtain⟨hfit,bl,bf,v,nl,k1,k2,k3,k4,k5,k6,k7,k8,k9,gN⟩:=id KJ
  have c0:Qs.cell? ⟨p,0,none⟩=some (.int .i64 (s'.size:Int)):=k1.cell 0
  have c2:Qs.cell? ⟨p,2,none⟩=some (.map (some bl)):=k1.cell 2
  have c3:Qs.cell? ⟨p,3,none⟩=some (.map (some bf)):=k1.cell 3
  obtain⟨ff,hmf,Nz⟩:=k3
  obtain⟨fl,Ll,hrl⟩:=k2
  have ux:=Lib.hid hmf
  have HML:=Lib.hid Ll
  have Nz:=Nz i
  have hrl:=hrl i
  have pR:=Lib.hid (KJ.up (Nat.le_succ n))
  have R5:=Lib.hid Iw
  have hsz:=hfit.size
  have gq:s.now i=blk s'.size (over (lay nothing s'.Ak) s'.fl i):=by unfold St.now;rw[HE.out,jM.out,qj.out,mX]
  have pH:=Lib.hid gq
  have WR:∀l,lay nothing s'.Ak i=some l→l.length=s'.size:=fun l hl=>RI (fun l=>l.length=s'.size) s'.Ak nothing (fun _ _ h=>by cases h) (fun e he=>(hfit.Ak e he).2) i l hl
  have Ko:∀l,s'.fl i=some l→l.length=s'.size:=fun l hl=>hfit.fl i l hl
  clear k1 k4 k5 k6 k7 k8 k9 gN hmf Ll KJ Iw hh ha gq hfit HE jM qj
  have Ix:∀(v':Value) (w2:World) (l:List Nat),Below Qs.heap.size Qs w2→Words w2 (fun k=>Qs.heap.size≤k) v' l→s.now i=l→
    ((0:Int)=0→Words w2 (fun k=>w1.heap.size≤k) v' (s.now i))∧IY w2 G p s' (n+1)∧AL (fun k=>k=p) w1 w2:=by
   intro v' w2 l hb hw hl
   refine⟨fun _=>?_,pR.out.below hb,R5.out.trans (AL.AJ hb fun _=>False) fun _ hf=>hf.elim⟩
   rw[hl]
   exact hw.CL (fun _ _ _ _=>rfl) fun k _ _ hk=>Nat.le_trans R5.out.size hk
  have Aw:=Lib.hid Ix
  clear Ix
  rcases br:ff i with _|vf
  ·
   rcases WQ:lay nothing s'.Ak i with _|l
   ·rcases EM:fl i with _|vl
    ·
     rcases My:s'.fl i with _|l
     ·have HL:Hid (s.now i=List.replicate s'.size 0):=by unfold Hid;rw[pH.out];simp[over,WQ,My,blk]
      have KM:=Lib.hid br
      have lQ:=Lib.hid EM
      obtain⟨i0,B7,By,B3,EX⟩:=info_parts jw
      clear br EM Nz hrl WQ My WR Ko
      go_wp2_with (with_reducible refine BN 25 ?_)
      unfold Hid
      refine Cp _ rfl _ _ rfl bf _ ff rfl ux.out i hi rfl (.slice none 0 0) false (.inl ⟨rfl,rfl,KM.out⟩) ?_
      go_wp2_with (with_reducible refine BN 37 ?_)
      unfold Hid
      refine Cp _ rfl _ _ rfl bl _ fl rfl HML.out i hi rfl (.slice none 0 0) false (.inl ⟨rfl,rfl,lQ.out⟩) ?_
      go_wp2_with (with_reducible refine BN 47 ?_)
      unfold Hid
      refine Ei _ rfl _ _ 123 rfl 127 i0 (.int .u64 0) Tryz.underlying123 B7 By B3 rfl .i64 .i64 _ _ s'.size rfl rfl rfl rfl (by rw[EX];omega) (by omega) ?_
      intro w2 Av AZ El
      obtain⟨x1,x2,x3⟩:=Aw.out _ w2 _ AZ (MZ Av (by omega) (by unfold maxLen;omega) (Nat.le_refl _)) HL.out
      have X1:=Lib.hid x1
      have X2:=Lib.hid x2
      have X3:=Lib.hid x3
      clear x1 x2 x3 Av AZ El
      go_wp2
      go_ret2
      exact⟨_,rfl,fun h=>absurd rfl h,X1.out,X2.out,X3.out⟩
     ·rw[EM,My]at hrl;exact hrl.elim
    ·
     rcases My:s'.fl i with _|l
     ·rw[EM,My]at hrl;exact hrl.elim
     ·rw[EM,My]at hrl
      have HL:Hid (s.now i=l):=by unfold Hid;rw[pH.out];simp[over,WQ,My,blk]
      have nK:=Ko l My
      obtain⟨A,c,rfl,hA,N3⟩:=Words.reads hrl
      have KM:=Lib.hid br
      have lQ:=Lib.hid EM
      have hsc:=Jo A l.length c l Qs N3 (by omega) (by omega) (Nat.le_refl _)
      clear br EM Nz hrl WQ My WR Ko N3 nK
      go_wp2_with (with_reducible refine BN 25 ?_)
      unfold Hid
      refine Cp _ rfl _ _ rfl bf _ ff rfl ux.out i hi rfl (.slice none 0 0) false (.inl ⟨rfl,rfl,KM.out⟩) ?_
      go_wp2_with (with_reducible refine BN 37 ?_)
      unfold Hid
      refine Cp _ rfl _ _ rfl bl _ fl rfl HML.out i hi rfl _ true (.inr ⟨lQ.out,rfl⟩) ?_
      go_wp2_with fail
      refine hsc.mono ?_
      rintro e w2 ⟨v',rfl,Ek,AZ⟩
      obtain⟨x1,x2,x3⟩:=Aw.out _ w2 _ AZ Ek HL.out
      have X1:=Lib.hid x1
      have X2:=Lib.hid x2
      have X3:=Lib.hid x3
      clear x1 x2 x3 Ek AZ
      go_wp2
      go_ret2
      exact⟨_,rfl,fun h=>absurd rfl h,X1.out,X2.out,X3.out⟩
   ·rw[br,WQ]at Nz;exact Nz.elim
  ·
   rcases WQ:lay nothing s'.Ak i with _|l
   ·rw[br,WQ]at Nz;exact Nz.elim
   ·rw[br,WQ]at Nz
    have HL:Hid (s.now i=l):=by unfold Hid;rw[pH.out];simp[over,WQ,blk]
    have nK:=WR l WQ
    obtain⟨A,c,rfl,hA,N3⟩:=Words.reads Nz
    have KM:=Lib.hid br
    have hsc:=Jo A l.length c l Qs N3 (by omega) (by omega) (Nat.le_refl _)
    clear br Nz hrl WQ WR Ko N3 nK
    go_wp2_with (with_reducible refine BN 25 ?_)
    unfold Hid
    refine Cp _ rfl _ _ rfl bf _ ff rfl ux.out i hi rfl _ true (.inr ⟨KM.out,rfl⟩) ?_
    go_wp2_with fail
    refine hsc.mono ?_
    rintro e w2 ⟨v',rfl,Ek,AZ⟩
    obtain⟨x1,x2,x3⟩:=Aw.out _ w2 _ AZ Ek HL.out
    have X1:=Lib.hid x1
    have X2:=Lib.hid x2
    have X3:=Lib.hid x3
    clear x1 x2 x3 Ek AZ
    go_wp2
    go_ret2
    exact⟨_,rfl,fun h=>absurd rfl h,X1.out,X2.out,X3.out⟩
 ·have g:(er !=0)=true:=by simpa using he
  have HE:=Lib.hid he
  clear he
  go_enter Tryz.func98,Tryz.ntmps98
  go_wp2_with fail
  refine hh.mono ?_
  rintro e w1 ⟨rfl,rfl⟩
  go_wp2_with fail
  refine ha.mono ?_
  rintro e Qs ⟨rfl,KJ,Iw⟩
  have pR:=Lib.hid (KJ.up (Nat.le_succ n))
  have R5:=Lib.hid Iw
  clear KJ Iw hh ha
  go_wp2
  go_ret2
  exact⟨_,rfl,fun _=>rfl,fun h=>absurd h HE.out,pR.out,R5.out⟩
theorem mZ:(Tryz.prog.info? 177).map (fun i=>(i.zero,i.size,i.bytes))=some (some (.agg #[.int .i64 0,.slice none 0 0]),2,32):=by kernel_rfl
theorem XD{G:Nat→Prop}{p n bl bf nl:Nat}{s:St}{v v' u:Value}{i:Int}{l:List Nat}{w1 w2 w3 w5:World}{o:Obj}{ff:Int→Option Value}{rs:List (Int×Value)}
  (hfit:Fits s n) (hi:Fv i) (hl:l.length=s.size)
  (k1:Row w1 p 90 (cellsOf s bl bf v)) (k2:E6 w1 G bl nl s.fl) (k4:GL w1 G v s.Ak) (Nw:GV w1 bf s.Ak.length ff) (k5:bl≠bf) (k6:G p) (k7:G bl) (k8:G bf) (k9:∀k,G k→k<w1.heap.size) (gN:nl+s.Ak.length+1≤n)
  (hrel:∀x,Rel w1 G (ff x) (lay nothing s.Ak x)) (AZ:Below w1.heap.size w1 w2) (hu:Words w2 (fun k=>w1.heap.size≤k) u l)
  (vq:GV w3 bf (s.Ak.length+1) (Rv ff i u)) (D7:w2.grownBy w3 (some bf))
  (ru:rs.length=s.Ak.length) (yF:∀(j:Nat) (r:Int×Value) (e:Int×List Nat),rs[j]?=some r→s.Ak[j]?=some e→r.1=e.1∧Words w1 G r.2 e.2) (Ap:∀k,v.ownBlock=some k→G k)
  (MG:w5.ownsRow 0 177 2 v' (s.Ak.length+1) (Jc (rs++[(i,u)]))) (Lm:(w3.alloc o).grownBy w5 v.ownBlock) (Bp:v'.ownBlock=v.ownBlock∨v'.ownBlock=some (w3.alloc o).heap.size):
  ∃G',IY (w5.setCell ⟨p,4,none⟩ v') G' p {s with Ak:=s.Ak++[(i,l)]} n∧AL G w1 (w5.setCell ⟨p,4,none⟩ v')∧∀k,G' k→G k∨w1.heap.size≤k:=by
 have hpv:v.ownBlock≠some p:=k4.A9 k1 (by decide)
 have hbv:v.ownBlock≠some bl:=k4.RF k2
 have hst:E6 w1 G bf s.Ak.length (lay nothing s.Ak):=⟨ff,Nw,hrel⟩
 have hfv:v.ownBlock≠some bf:=k4.RF hst
 have nE:p≠bl:=k2.A9 k1
 have hpf:p≠bf:=hst.A9 k1
 have ry:∀k cs,Row w1 k 127 cs→k≠p∧k≠bf∧v.ownBlock≠some k:=fun k cs hk=>by
  refine⟨fun e=>?_,hst.A9 hk,k4.A9 hk (by decide)⟩
  subst e;unfold Row at k1 hk;rw[k1]at hk;injection hk with hk;injection hk with _ hk;exact absurd hk (by decide)
 have F2:AL (fun k=>k=p∨k=bf∨v.ownBlock=some k) w1 w2:=AL.AJ AZ _
 have F3:AL (fun k=>k=p∨k=bf∨v.ownBlock=some k) w1 w3:=F2.grown D7 fun k hk=>by injection hk with hk;exact .inl (.inr (.inl hk.symm))
 have F5:AL (fun k=>k=p∨k=bf∨v.ownBlock=some k) w1 w5:=(F3.alloc o).grown Lm fun k hk=>.inl (.inr (.inr hk))
 have F6:AL (fun k=>k=p∨k=bf∨v.ownBlock=some k) w1 (w5.setCell ⟨p,4,none⟩ v'):=F5.set (.inl (.inl rfl)) _
 have E3:AL (fun k=>v.ownBlock=some k) w3 w5:=((AL.refl _ w3).alloc o).grown Lm fun k hk=>.inl hk
 have E2:AL (fun k=>k=bf∨v.ownBlock=some k) w2 w5:=(((AL.refl _ w2).grown D7 fun k hk=>by injection hk with hk;exact .inl (.inl hk.symm)).alloc o).grown Lm fun k hk=>.inl (.inr hk)
 have xY:=AZ.size
 have AD2:=F3.size
 have AD1:=F5.size
 have h5p:Row w5 p 90 (cellsOf s bl bf v):=F2.row k1|>fun _=>by
  have h1:Row w3 p 90 (cellsOf s bl bf v):=(D7.block p (Nat.lt_of_lt_of_le k1.lt xY) (by intro e;injection e with e;exact hpf e)).trans (k1.below AZ k1.lt)
  exact E3.row h1 (fun e=>hpv e)
 have h6p:Row (w5.setCell ⟨p,4,none⟩ v') p 90 (cellsOf {s with Ak:=s.Ak++[(i,l)]} bl bf v'):=by
  have:=h5p.set 4 v'
  exact this
 have z6:(w5.setCell ⟨p,4,none⟩ v').heap.size=w5.heap.size:=by simp
 have Is:∀k cs,Row w1 k 127 cs→G k→(w5.setCell ⟨p,4,none⟩ v').heap[k]?=w1.heap[k]?:=fun k cs hk _=>F6.block k hk.lt fun hf=>by
  obtain⟨a1,a2,a3⟩:=ry k cs hk
  rcases hf with hf|hf|hf
  ·exact a1 hf
  ·exact a2 hf
  ·exact a3 hf
 have hu6:Words (w5.setCell ⟨p,4,none⟩ v') (fun k=>G k∨(w1.heap.size≤k∧k<w5.heap.size)) u l:=by
  refine hu.CL (fun k cs hk hg=>?_) (fun k cs hk hg=>.inr ⟨hg,Nat.lt_of_lt_of_le hk.lt (by have:=E2.size;omega)⟩)
  have yY:k≠p:=by have:=k9 p k6;omega
  have h1:w5.heap[k]?=w2.heap[k]?:=E2.block k hk.lt fun hf=>by
   rcases hf with hf|hf
   ·have:=k9 bf k8;omega
   ·have:=k9 k (Ap k hf);omega
  rw[heap_setCell_other w5 ⟨p,4,none⟩ k v' (by simpa using yY)];exact h1
 have Kq:AL G w1 (w5.setCell ⟨p,4,none⟩ v'):=F6.mono fun b hb=>by
  rcases hb with hb|hb|hb
  ·subst hb;exact k6
  ·subst hb;exact k8
  ·exact Ap b hb
 refine⟨fun k=>G k∨(w1.heap.size≤k∧k<w5.heap.size),⟨?_,bl,bf,v',nl,h6p,?_,?_,?_,k5,.inl k6,.inl k7,.inl k8,fun k hk=>?_,by simp only[List.length_append,List.length_singleton];omega⟩,Kq,fun k hk=>hk.imp_right (·.1)⟩
 ·refine⟨hfit.size,hfit.blocks,hfit.fn,hfit.tn,hfit.Al,hfit.small,fun e he=>?_,hfit.fl⟩
  rcases List.mem_append.1 he with he|he
  ·exact hfit.Ak e he
  ·rw[List.mem_singleton.1 he];exact⟨hi,hl⟩
 ·refine k2.CL (F6.block bl (k9 bl k7) fun hf=>?_) Is (fun k _ _ hk=>.inl hk)
  rcases hf with hf|hf|hf
  ·exact nE hf.symm
  ·exact k5 hf
  ·exact hbv hf
 ·refine⟨Rv ff i u,?_,fun x=>?_⟩
  ·rw[List.length_append,List.length_singleton]
   refine vq.same ?_
   rw[heap_setCell_other w5 ⟨p,4,none⟩ bf v' (by simpa using hpf.symm)]
   exact E3.block bf vq.lt fun e=>hfv e
  ·show Rel _ _ _ (lay nothing (s.Ak++[(i,l)]) x)
   rw[Nt]
   by_cases e:x=i
   ·subst e;rw[GZ,GZ];exact hu6
   ·rw[FQ _ _ e,FQ _ _ e]
    exact(hrel x).CL Is (fun k _ _ hk=>.inl hk)
 ·have xu:v'.ownBlock≠some p:=by
   rcases Bp with h|h
   ·rw[h];exact hpv
   ·rw[h];intro e;injection e with e
    have:=k9 p k6
    simp only[World.alloc,Array.size_push]at e;omega
  refine⟨rs++[(i,u)],?_,by simp[ru],fun j r e hr he=>?_,fun k hk=>?_⟩
  ·rw[List.length_append,List.length_singleton]
   exact CV MG fun k hk=>heap_setCell_other w5 ⟨p,4,none⟩ k v' (by intro e;simp only at e;subst e;exact xu hk)
  ·by_cases hj:j<rs.length
   ·rw[List.getElem?_append_left hj]at hr
    rw[List.getElem?_append_left (by omega)]at he
    obtain⟨a1,a2⟩:=yF j r e hr he
    exact⟨a1,a2.CL Is (fun k _ _ hk=>.inl hk)⟩
   ·rw[List.getElem?_append_right (by omega)]at hr
    rw[List.getElem?_append_right (by omega)]at he
    have PG:j=rs.length:=by
     rcases Nat.lt_or_ge (j-rs.length) 1 with h1|h1
     ·omega
     ·rw[List.getElem?_eq_none (by simpa using h1)]at hr;cases hr
    subst PG
    rw[Nat.sub_self]at hr
    rw[ru,Nat.sub_self]at he
    simp at hr he
    subst hr;subst he
    exact⟨rfl,hu6⟩
  ·rcases Bp with h|h
   ·exact .inl (Ap k (by rw[←h];exact hk))
   ·refine .inr ⟨?_,?_⟩
    ·rw[h]at hk;injection hk with hk;subst hk
     simp only[World.alloc,Array.size_push];omega
    ·exact(MG.lt k hk).2
 ·rcases hk with hk|hk
  ·have:=k9 k hk;rw[z6];omega
  ·rw[z6];exact hk.2
theorem Row.aS{w:World}{p:Nat}{s:St}{bl bf:Nat}{A:Option Addr}{n c:Nat}(hr:Row w p 90 (cellsOf s bl bf (.slice A n c)))(i:Nat)(x:Int):w.cell? ⟨p,i,none⟩≠some (.int .u64 x):=by
 intro h
 rw[hr.cell i]at h
 have:=List.mem_of_getElem? h
 simp[cellsOf]at this
theorem Reads.Cc{k:IntKind}{w w1:World}{B:Nat}{A:Option Addr}{n:Nat}{l:List Nat}{F:Nat→Prop}(h:Reads k w B A n l)(hB:B≤w.heap.size)(hf:AL F w w1)(hF:0<n→∀b off,A=some ⟨b,off,none⟩→¬F b):Reads k w1 B A n l:=by
 obtain⟨h1,h2,h3⟩:=h
 refine⟨h1,h2,fun hn=>?_⟩
 obtain⟨b,off,hA,hb,hc⟩:=h3 hn
 refine⟨b,off,hA,hb,fun i hi=>?_⟩
 rw[World.cell?_of_block (w:=w) (w':=w1) (hf.block b (by omega) (hF hn b off hA))]
 exact hc i hi
theorem Tk(s:St):(begin s false).1≠0:=by
 unfold begin
 by_cases h:s.down=true
 ·rw[if_pos h];exact fun h=>absurd h (by decide:¬((8:Int)=0))
 ·rw[if_neg h,if_pos rfl];exact fun h=>absurd h (by decide:¬((1:Int)=0))
theorem XE(p:Nat)(s:St)(n:Nat)(G:Nat→Prop)(i:Int)(A:Option Addr)(m c:Nat)(l:List Nat)(w:World){B:Nat}(h:IY w G p s n)(hn:n<1000000)(hi:Fv i)(hl:Reads .u64 w B A m l)(hB:B≤w.heap.size):
  Calls Tryz.prog 88 #[.pointer (some ⟨p,0,none⟩),.int .i64 i,.slice A m c] w fun e w'=>e=.returned (.int .i64 (write s i l).1)∧∃G',IY w' G' p (write s i l).2 (n+1)∧AL G w w'∧∀k,G' k→G k∨w.heap.size≤k:=by
 obtain⟨_,zy,z7,v0,nl0,hr,_,_,hla,_⟩:=id h
 obtain⟨A0,q0,rfl⟩:=hla.form
 have hh:=WX p s zy z7 _ w i hr
 have c0:w.cell? ⟨p,0,none⟩=some (.int .i64 (s.size:Int)):=hr.cell 0
 have hlen:=hl.1
 have ha:=Wo p s n G (right s i&&decide (l.length=s.size)) w h hn
 have de:=Lib.hid h.Ju
 have JS:=Lib.hid h.fits.size
 have HR:Hid (write s i l=if (begin s (right s i&&decide (l.length=s.size))).1=0 then (0,{(begin s (right s i&&decide (l.length=s.size))).2 with Ak:=s.Ak++[(i,l)]})else begin s (right s i&&decide (l.length=s.size))):=rfl
 rw[HR.out]
 obtain⟨e1,e2,e3,e4⟩:=DC s (right s i&&decide (l.length=s.size))
 have HE:=Lib.hid e1
 have jM:=Lib.hid e3
 have qj:=Lib.hid e4
 have H0:Hid ((begin s (right s i&&decide (l.length=s.size))).1=0→right s i=true∧l.length=s.size):=by
  intro h0
  rcases hb:(right s i&&decide (l.length=s.size))with _| _
  ·rw[hb]at h0;exact absurd h0 (Tk s)
  ·simpa using hb
 have PS:Hid (∀w1,AL (fun k=>k=p) w w1→Reads .u64 w1 B A m l):=fun w1 hf=>hl.Cc hB hf fun hm b off hA hb=>by
  obtain⟨_,_,h3⟩:=hl
  obtain⟨b',Sk,qM,_,hc⟩:=h3 hm
  rw[hA]at qM;injection qM with qM;injection qM with kZ Oz;subst kZ;subst Oz
  subst hb
  exact hr.aS _ _ (hc 0 hm)
 clear e1 e2 e3 e4 hr h HR hla
 generalize Kw:(right s i&&decide (l.length=s.size))=b at*
 generalize begin s b=r at*
 obtain⟨er,s'⟩:=r
 simp only at ha HE jM qj H0⊢
 have Cg:=Lib.hid hlen
 have qs:=Lib.hid Kw
 clear hl hlen Kw
 by_cases rz:right s i=true
 ·rw[rz]at hh
  have gb:((m:Int)==(s.size:Int))=b:=by
   rw[←qs.out,rz,Cg.out]
   by_cases e:m=s.size
   ·subst e;simp
   ·have:¬((m:Int)=(s.size:Int)):=by omega
    simp[e,this]
  clear rz qs
  by_cases he:er=0
  ·subst he
   rw[if_pos rfl]
   go_enter Tryz.func88,Tryz.ntmps88
   go_wp2_with fail
   refine hh.mono ?_
   rintro e w1 ⟨rfl,rfl⟩
   go_wp2_with fail
   refine ha.mono ?_
   rintro e Qs ⟨rfl,KJ,Iw⟩
   obtain⟨hfit,bl,bf,v,nl,k1,k2,k3,k4,k5,k6,k7,k8,k9,gN⟩:=id KJ
   have hsz:=JS.out
   have Ko:=(H0.out (by trivial)).2
   have hm:=Cg.out
   have hsc:=Jo A m c l Qs (PS.out _ Iw) (by omega) (by omega) (Nat.le_trans hB Iw.size)
   obtain⟨ff,Nw,hrel⟩:=k3
   obtain⟨A1,q1,rfl⟩:=k4.form
   obtain⟨rs,o1,o2,o3,o4⟩:=id k4
   have c3:Qs.cell? ⟨p,3,none⟩=some (.map (some bf)):=k1.cell 3
   have Aw:=Lib.hid (fun(w2 w3 w5:World) (o:Obj) (v' u:Value) (AZ:Below Qs.heap.size Qs w2) (hu:Words w2 (fun k=>Qs.heap.size≤k) u l) (vq:GV w3 bf (s'.Ak.length+1) (Rv ff i u)) (D7:w2.grownBy w3 (some bf)) (MG:w5.ownsRow 0 177 2 v' (s'.Ak.length+1) (Jc (rs++[(i,u)]))) (Lm:(w3.alloc o).grownBy w5 (Value.slice A1 s'.Ak.length q1).ownBlock) Bp=>XD hfit hi (by rw[HE.out];exact Ko) k1 k2 k4 Nw k5 k6 k7 k8 k9 (by omega) hrel AZ hu vq D7 o2 o3 o4 MG Lm Bp)
   have lK:=Lib.hid k1
   have HOW:=Lib.hid o1
   have HBV:Hid ((Value.slice A1 s'.Ak.length q1).ownBlock≠some bf∧bf≠p∧bf<Qs.heap.size):=⟨k4.RF (⟨ff,Nw,hrel⟩:E6 Qs G bf _ _),fun e=>Nw.A9 k1 e.symm,k9 bf k8⟩
   have ux:=Lib.hid Nw
   have R5:=Lib.hid Iw
   have AF4:s'.Ak.length≤1000000:=by omega
   have HVP:Hid ((Value.slice A1 s'.Ak.length q1).ownBlock≠some p):=k4.A9 k1 (by decide)
   have um:=Lib.hid o1.lt
   clear k1 k2 Nw k4 k5 k6 k7 k8 k9 gN hrel o1 o2 o3 o4 KJ Iw hfit
   go_wp2_with fail
   refine hsc.mono ?_
   rintro e w2 ⟨u,rfl,Ek,AZ⟩
   have Vi:=Lib.hid (lK.out.below AZ lK.out.lt)
   have c3:w2.cell? ⟨p,3,none⟩=some (.map (some bf)):=Vi.out.cell 3
   have hm2:=ux.out.same (AZ.block bf HBV.out.2.2)
   have T8:=Lib.hid (CV HOW.out fun k hk=>AZ.block k (um.out k hk).2)
   have Bt:=Lib.hid AZ
   have Vb:=Lib.hid Ek
   obtain⟨D,hD,hFn⟩:=hm2
   have HD:=Lib.hid hD
   have dj:=Lib.hid hFn
   obtain⟨Au,mu,cu,hu⟩:∃Au mu cu,u=.slice Au mu cu:=by obtain⟨g,cc,cs,hv,_⟩:=Ek;exact⟨_,_,_,hv⟩
   subst hu
   clear hsc AZ Ek hD hFn
   go_wp2_with (with_reducible refine Qw ?_)
   unfold Hid
   refine wpList_mapUpdate_own _ rfl _ _ _ 87 rfl 3 123 law Tryz.underlying87 S4 bf _ D rfl HD.out (by unfold maxLen;omega) _ _ _ rfl rfl (mY hi) (.held _) [] rfl ?_
   intro w3 hD3 D7
   have HM3:Hid (GV w3 bf (s'.Ak.length+1) (Rv ff i (.slice Au mu cu))):=⟨_,hD3,dj.out.put hi _⟩
   have vC:=Lib.hid D7
   have Cn:Row w3 p 90 (cellsOf s' bl bf (.slice A1 s'.Ak.length q1)):=(D7.block p Vi.out.lt (by intro e;injection e with e;exact HBV.out.2.1 e.symm)).trans Vi.out
   have c4:w3.cell? ⟨p,4,none⟩=some (.slice A1 s'.Ak.length q1):=Cn.cell 4
   have f4:=Cn.free 4
   have IK:=Lib.hid Cn
   have R1:=Lib.hid (CV T8.out fun k hk=>D7.block k (Nat.lt_of_lt_of_le (um.out k hk).2 Bt.out.size) (by intro e;injection e with e;subst e;exact HBV.out.1 hk))
   clear hD3 D7 Cn c3
   obtain⟨i0,B7,By,B3,EX⟩:=info_parts mZ
   go_wp2_with (with_reducible refine BN 43 ?_)
   unfold Hid
   refine wpList_append_own_at _ rfl _ _ 88 rfl 0 177 i0 (.agg #[.int .i64 0,.slice none 0 0]) 2 32 Tryz.underlying88 B7 By B3 EX rfl (by omega) (.slice A1 s'.Ak.length q1) s'.Ak.length (Jc rs) rfl (R1.out.alloc _) ⟨w3.heap.size,0,none⟩ 1 1 [.int .i64 i,.slice Au mu cu] rfl rfl ?_ (by simp[Value.oneCell']) (by unfold maxLen;omega) (by omega) (by omega) ?_
   ·intro j v hj
    match j,hj with
    |0,hj=>simp at hj;subst hj;simp[Addr.add]
    |1,hj=>simp at hj;subst hj;simp[Addr.add]
   intro v' w5 MG Lm _ Bp
   have bR:w5.ownsRow 0 177 2 v' (s'.Ak.length+1) (Jc (rs++[(i,.slice Au mu cu)])):=by rw[Kz];exact MG
   obtain⟨G',sn,KI,se⟩:=Aw.out w2 w3 w5 _ v' _ Bt.out Vb.out HM3.out vC.out bR Lm Bp
   have GS:Row w5 p 90 (cellsOf s' bl bf (.slice A1 s'.Ak.length q1)):=(Lm.block p (by have:=IK.out.lt;simp only[World.alloc,Array.size_push];omega) (fun e=>HVP.out e.symm)).trans (IK.out.alloc _)
   have c4:w5.cell? ⟨p,4,none⟩=some (.slice A1 s'.Ak.length q1):=GS.cell 4
   have f4:=GS.free 4
   obtain⟨A5,c5,rfl⟩:∃A5 c5,v'=.slice A5 (s'.Ak.length+1) c5:=by
    rcases MG.2 with⟨rfl,h0⟩|⟨g,cap,cur,rfl,_⟩
    ·omega
    ·exact⟨_,_,rfl⟩
   have lR:=Lib.hid sn
   have jK:=Lib.hid KI
   have HG6:=Lib.hid se
   clear sn KI se GS MG bR Lm Bp
   go_wp2
   go_ret
   refine⟨rfl,G',?_,?_,fun k hk=>?_⟩
   ·rw[←qj.out];exact lR.out
   ·exact(R5.out.mono fun b hb=>by subst hb;exact de.out).trans jK.out fun b hb=>.inl hb
   ·rcases HG6.out k hk with h|h
    ·exact .inl h
    ·exact .inr (Nat.le_trans R5.out.size h)
  ·have g:(er !=0)=true:=by simpa using he
   rw[if_neg he]
   clear he
   go_enter Tryz.func88,Tryz.ntmps88
   go_wp2_with fail
   refine hh.mono ?_
   rintro e w1 ⟨rfl,rfl⟩
   go_wp2_with fail
   refine ha.mono ?_
   rintro e Qs ⟨rfl,KJ,Iw⟩
   have pR:=Lib.hid (KJ.up (Nat.le_succ n))
   have R5:=Lib.hid Iw
   clear KJ Iw hh ha
   go_wp2
   go_ret
   exact⟨rfl,G,pR.out,R5.out.mono fun b hb=>by subst hb;exact de.out,fun k hk=>.inl hk⟩
 ·have gY:right s i=false:=by simpa using rz
  have hb0:b=false:=by rw[←qs.out,gY];rfl
  have he:er≠0:=fun e=>by have:=(H0.out e).1;rw[gY]at this;cases this
  have g:(er !=0)=true:=by simpa using he
  rw[if_neg he]
  subst hb0
  rw[gY]at hh
  clear he rz gY qs
  go_enter Tryz.func88,Tryz.ntmps88
  go_wp2_with fail
  refine hh.mono ?_
  rintro e w1 ⟨rfl,rfl⟩
  go_wp2_with fail
  refine ha.mono ?_
  rintro e Qs ⟨rfl,KJ,Iw⟩
  have pR:=Lib.hid (KJ.up (Nat.le_succ n))
  have R5:=Lib.hid Iw
  clear KJ Iw hh ha
  go_wp2
  go_ret
  exact⟨rfl,G,pR.out,R5.out.mono fun b hb=>by subst hb;exact de.out,fun k hk=>.inl hk⟩
def findAt:List (Nat×Nat)→Nat→Nat→Option (Nat×Nat)
 |[],_,_=>none
 |q::l,x,i=>if q.1=x then some (i,q.2)else findAt l x (i+1)
def wordsAt:List (Nat×Nat)→Nat→Option Nat
 |[],_=>none
 |q::l,x=>if q.1=x then some q.2 else wordsAt l x
def CS:List (Nat×Nat)→Nat→List (Nat×Nat)
 |[],_=>[]
 |q::l,x=>if q.1=x then l else q::CS l x
def total:List (Nat×Nat)→Nat
 |[]=>0
 |q::l=>q.2+total l
theorem I2:∀(l:List (Nat×Nat)) (x i:Nat),wordsAt l x=none→findAt l x i=none
 |[],_,_,_=>rfl
 |q::l,x,i,h=>by
  unfold wordsAt at h;unfold findAt
  by_cases e:q.1=x
  ·rw[if_pos e]at h;cases h
  ·rw[if_neg e]at h⊢;exact I2 l x _ h
theorem I1:∀(l:List (Nat×Nat)) (x i n:Nat),wordsAt l x=some n→∃j,findAt l x i=some (i+j,n)∧j<l.length∧l.eraseIdx j=CS l x
 |[],_,_,_,h=>by cases h
 |q::l,x,i,n,h=>by
  unfold wordsAt at h;unfold findAt CS
  by_cases e:q.1=x
  ·rw[if_pos e]at h⊢
   injection h with h;subst h
   exact⟨0,rfl,by simp,by simp[e]⟩
  ·rw[if_neg e]at h⊢
   obtain⟨j,h1,h2,h3⟩:=I1 l x (i+1) n h
   refine⟨j+1,by rw[h1];congr 2;omega,by simp;omega,?_⟩
   rw[if_neg e,List.eraseIdx_cons_succ,h3]
theorem Jl:∀(l:List (Nat×Nat)) (x n:Nat),wordsAt l x=some n→total (CS l x)+n=total l
 |[],_,_,h=>by cases h
 |q::l,x,n,h=>by
  unfold wordsAt at h;unfold CS
  by_cases e:q.1=x
  ·rw[if_pos e]at h⊢
   injection h with h;subst h
   show total l+q.2=q.2+total l;omega
  ·rw[if_neg e]at h⊢
   have:=Jl l x n h
   show q.2+total (CS l x)+n=q.2+total l;omega
theorem NR:∀(l:List (Nat×Nat)) (x n:Nat),total (l++[(x,n)])=total l+n
 |[],_,n=>by show n+0=0+n;omega
 |q::l,x,n=>by show q.2+total (l++[(x,n)])=q.2+total l+n;rw[NR l x n];omega
theorem EU:∀(l:List (Nat×Nat)) (x n:Nat),wordsAt l x=some n→(x,n)∈l
 |[],_,_,h=>by cases h
 |q::l,x,n,h=>by
  unfold wordsAt at h
  by_cases e:q.1=x
  ·rw[if_pos e]at h;injection h with h;subst h;subst e;exact List.mem_cons_self
  ·rw[if_neg e]at h;exact List.mem_cons_of_mem _ (EU l x n h)
theorem JT:∀(l:List (Nat×Nat)) (x:Nat),(∀q∈l,q.1≠x)→wordsAt l x=none
 |[],_,_=>rfl
 |q::l,x,h=>by
  unfold wordsAt
  rw[if_neg (h q List.mem_cons_self)]
  exact JT l x fun r hr=>h r (List.mem_cons_of_mem _ hr)
theorem De:∀(l:List (Nat×Nat)) (x:Nat) (q:Nat×Nat),q∈CS l x→q∈l
 |[],_,_,h=>h
 |r::l,x,q,h=>by
  unfold CS at h
  by_cases e:r.1=x
  ·rw[if_pos e]at h;exact List.mem_cons_of_mem _ h
  ·rw[if_neg e]at h
   rcases List.mem_cons.1 h with h|h
   ·rw[h];exact List.mem_cons_self
   ·exact List.mem_cons_of_mem _ (De l x q h)
structure Ar where
 room:Nat
 used:Nat
 CF:Nat
 st:List (Nat×Nat)
def empty(room:Nat):Ar:=⟨room,0,0,[]⟩
def Bv(s:Ar)(b n:Nat):Ar:={s with used:=s.used+n,CF:=if s.CF<s.used+n then s.used+n else s.CF,st:=s.st++[(b,n)]}
def release(s:Ar)(b n:Nat):Ar:={s with used:=s.used-n,st:=CS s.st b}
structure Sound (s:Ar):Prop where
 used:s.used=total s.st
 CF:s.used≤s.CF∧s.CF≤s.room
 room:s.room≤9223372036854775807
theorem Te{room:Nat}(h:room≤9223372036854775807):Sound (empty room):=⟨rfl,⟨Nat.le_refl _,Nat.zero_le _⟩,h⟩
theorem TT{s:Ar}(h:Sound s)(b:Nat){n:Nat}(hn:n≤s.room-s.used):Sound (Bv s b n):=by
 have h1:=h.CF
 refine⟨?_,⟨?_,?_⟩,h.room⟩
 ·show s.used+n=total (s.st++[(b,n)]);rw[NR,h.used]
 ·show s.used+n≤if s.CF<s.used+n then s.used+n else s.CF
  split<;>omega
 ·show (if s.CF<s.used+n then s.used+n else s.CF)≤s.room
  split<;>omega
theorem JZ{s:Ar}(h:Sound s){b n:Nat}(hb:wordsAt s.st b=some n):Sound (release s b n):=by
 have h1:=h.CF
 have h2:=Jl s.st b n hb
 have h3:=h.used
 refine⟨?_,⟨?_,h1.2⟩,h.room⟩
 ·show s.used-n=total (CS s.st b);omega
 ·show s.used-n≤s.CF;omega
theorem Nd{s:Ar}(h:Sound s){b n:Nat}(hb:wordsAt s.st b=some n):n≤s.used:=by
 have h2:=Jl s.st b n hb
 have h3:=h.used
 omega
def ptr(b:Nat):Value:=.pointer (some ⟨b,0,none⟩)
def Hf(w:World)(b:Nat):Prop:=∃v,Row w b 126 [v]
def Fu(w:World)(b:Nat)(l:List (Nat×Nat)):Prop:=
 ∃(es:Array MapEntry) (clock:Nat),w.heap[b]?=some (.map es clock)∧es.toList.map (fun e=>(e.key,e.val))=l.map fun q=>(ptr q.1,Value.int .i64 (q.2:Int))
theorem gR:(Tryz.prog.info? 126).map (fun i=>i.size)=some 1:=by kernel_rfl
theorem iO(w:World){x b:Nat}(hx:Hf w x)(hb:Hf w b):(Op.equal 117 (ptr x) (ptr b)).run Tryz.prog w=.ok (decide (b=x)) w:=by
 obtain⟨j,hj,hs⟩:∃j,Tryz.prog.info? 126=some j∧j.size=1:=by
  have h:=gR
  rcases hi:Tryz.prog.info? 126 with _|i
  ·rw[hi]at h;cases h
  ·rw[hi]at h;simp at h;exact⟨i,rfl,h⟩
 obtain⟨v,hx⟩:=hx
 obtain⟨u,hb⟩:=hb
 by_cases e:b=x
 ·subst e
  have h:∀d:Nat,(Op.equalIn (d+1) 117 (ptr b) (ptr b)).run Tryz.prog w=.ok true w:=fun d=>by
   simp[ptr,Op.equalIn,run_underlying Tryz.underlying117,sizeOf,typeInfo,hj,run_sameAddr_same]
  simp[Op.equal,Op.maxDepth,h 9999]
 ·have hne:(⟨x,0,none⟩:Addr)≠⟨b,0,none⟩:=fun h=>e (by injection h with h;exact h.symm)
  have xj:w.heap[(⟨x,0,none⟩:Addr).block]?=some (.cells #[v] 126 (0,0)):=hx
  have hb':w.heap[(⟨b,0,none⟩:Addr).block]?=some (.cells #[u] 126 (0,0)):=hb
  have h:∀d:Nat,(Op.equalIn (d+1) 117 (ptr x) (ptr b)).run Tryz.prog w=.ok false w:=fun d=>by
   simp[ptr,Op.equalIn,run_underlying Tryz.underlying117,sizeOf,typeInfo,hj,hs,run_sameAddr_other w hne xj hb']
  simp[Op.equal,Op.maxDepth,h 9999,e]
theorem Ig(w:World){x:Nat}(hx:Hf w x):∀(es:List MapEntry) (l:List (Nat×Nat)) (i:Nat),es.map (fun e=>(e.key,e.val))=l.map (fun q=>(ptr q.1,Value.int .i64 (q.2:Int)))→(∀q∈l,Hf w q.1)→
  (Instr.findAsking 117 (ptr x) es i).run Tryz.prog w=.ok ((findAt l x i).map fun r=>(r.1,Value.int .i64 (r.2:Int))) w
 |[],[],i,_,_=>by simp[Instr.findAsking,findAt]
 |[],q::l,i,h,_=>by cases h
 |e::es,[],i,h,_=>by cases h
 |e::es,q::l,i,h,hl=>by
  have h0:(e.key,e.val)=(ptr q.1,Value.int .i64 (q.2:Int)):=by injection h
  have h1:es.map (fun e=>(e.key,e.val))=l.map (fun q=>(ptr q.1,Value.int .i64 (q.2:Int))):=by injection h
  have hk:e.key=ptr q.1:=by injection h0
  have hv:e.val=Value.int .i64 (q.2:Int):=by injection h0
  have hq:=iO w hx (hl q List.mem_cons_self)
  have ih:=Ig w hx es l (i+1) h1 fun r hr=>hl r (List.mem_cons_of_mem _ hr)
  unfold Instr.findAsking findAt
  rw[hk]
  by_cases he:q.1=x
  ·rw[he]at hq⊢
   simp[hq,hv,Result.andThen]
  ·simp[hq,he,ih,Result.andThen]
theorem run_findKey(w:World){x:Nat}(hx:Hf w x)(es:List MapEntry)(l:List (Nat×Nat))(h:es.map (fun e=>(e.key,e.val))=l.map (fun q=>(ptr q.1,Value.int .i64 (q.2:Int))))(hl:∀q∈l,Hf w q.1):
  (Instr.findKey 117 (ptr x) es).run Tryz.prog w=.ok ((findAt l x 0).map fun r=>(r.1,Value.int .i64 (r.2:Int))) w:=by
 have hf:=Ig w hx es l 0 h hl
 unfold Instr.findKey
 rcases es with _|⟨e,es⟩
 ·match l,h with
  |[],_=>simp[run_underlying Tryz.underlying117,Instr.findNow,findAt,Result.andThen]
 ·have hn:∀k i,Instr.findNow (.pointer k) (ptr x) (e::es) i=none:=fun k i=>by simp[Instr.findNow,Instr.sameNow]
  simp[run_underlying Tryz.underlying117,hn,hf,Result.andThen]
theorem E9(w:World)(em:Bool)(b:Nat):(Instr.checkKey em 10000 117 (ptr b)).run Tryz.prog w=.ok () w:=by
 unfold Instr.checkKey
 simp[run_underlying Tryz.underlying117,Result.andThen]
theorem SS(w:World){b x:Nat}{l:List (Nat×Nat)}(h:Fu w b l)(hx:Hf w x)(hl:∀q∈l,Hf w q.1):
  (Instr.lookup 71 (.map (some b)) (ptr x) true).run Tryz.prog w=.ok (.tuple #[.int .i64 ((wordsAt l x).getD 0:Nat),.bool (wordsAt l x).isSome]) w:=by
 obtain⟨es,clock,hb,he⟩:=h
 have hf:=run_findKey w hx es.toList l he hl
 unfold Instr.lookup
 rcases hw:wordsAt l x with _|n
 ·rw[I2 l x 0 hw]at hf
  simp[run_underlying Tryz.underlying71,MapKept.run_getObj_map hb,E9,hf,Result.andThen]
 ·obtain⟨j,h1,_⟩:=I1 l x 0 n hw
  rw[h1]at hf
  simp[run_underlying Tryz.underlying71,MapKept.run_getObj_map hb,E9,hf,Result.andThen]
theorem fX(w:World){b x n:Nat}{l:List (Nat×Nat)}(h:Fu w b l)(hx:Hf w x)(hl:∀q∈l,Hf w q.1)(hn:wordsAt l x=none):
  ∃w',(Instr.mapUpdate 71 (.map (some b)) (ptr x) (.int .i64 (n:Nat))).run Tryz.prog w=.ok () w'∧Fu w' b (l++[(x,n)])∧w.grownBy w' (some b):=by
 obtain⟨es,clock,hb,he⟩:=h
 have hf:=run_findKey w hx es.toList l he hl
 rw[I2 l x 0 hn]at hf
 refine⟨setBlock w b (.map (es.push ⟨ptr x,.int .i64 (n:Nat),clock⟩) (clock+1)),?_,⟨_,_,heap_setBlock_same hb _,?_⟩,⟨rfl,rfl,rfl,by simp[setBlock],fun i _ hi=>heap_setBlock_other hb _ (fun e=>hi (by rw[e]))⟩⟩
 ·unfold Instr.mapUpdate
  simp[run_underlying Tryz.underlying71,MapKept.run_getObj_map hb,E9,hf,MapKept.run_setObj_map _ hb,Result.andThen,setBlock]
 ·simp[he]
theorem fc(w:World){b x n:Nat}{l:List (Nat×Nat)}(h:Fu w b l)(hx:Hf w x)(hl:∀q∈l,Hf w q.1)(hn:wordsAt l x=some n)(ty:TypeId):
  ∃w',(Builtin.delete_ #[71,117] ty #[.map (some b),ptr x]).run Tryz.prog w=.ok (.tuple #[]) w'∧Fu w' b (CS l x)∧w.grownBy w' (some b):=by
 obtain⟨es,clock,hb,he⟩:=h
 have hf:=run_findKey w hx es.toList l he hl
 obtain⟨j,h1,h2,h3⟩:=I1 l x 0 n hn
 rw[h1]at hf
 refine⟨setBlock w b (.map (es.eraseIdxIfInBounds j) clock),?_,⟨_,_,heap_setBlock_same hb _,?_⟩,⟨rfl,rfl,rfl,by simp[setBlock],fun i _ hi=>heap_setBlock_other hb _ (fun e=>hi (by rw[e]))⟩⟩
 ·unfold Builtin.delete_
  simp[run_underlying Tryz.underlying71,MapKept.run_getObj_map hb,E9,hf,MapKept.run_setObj_map _ hb,Result.andThen,setBlock]
 ·have hlen:es.toList.length=l.length:=by have:=congrArg List.length he;simpa using this
  have hj:j<es.size:=by simpa [←hlen]using h2
  have e1:(es.eraseIdxIfInBounds j).toList=es.toList.eraseIdx j:=by simp[Array.eraseIdxIfInBounds,hj]
  rw[e1,←h3,Go.ChangeMaps.map_eraseIdx,Go.ChangeMaps.map_eraseIdx,he]
theorem Fu.same{w w':World}{b:Nat}{l:List (Nat×Nat)}(h:Fu w b l)(hb:w'.heap[b]?=w.heap[b]?):Fu w' b l:=by
 obtain⟨es,clock,h1,h2⟩:=h
 exact⟨es,clock,hb.trans h1,h2⟩
theorem Fu.lt{w:World}{b:Nat}{l:List (Nat×Nat)}(h:Fu w b l):b<w.heap.size:=by
 obtain⟨es,clock,h1,h2⟩:=h
 exact(Array.getElem?_eq_some_iff.1 h1).1
theorem Fu.A9{w:World}{b g:Nat}{l:List (Nat×Nat)}{t:TypeId}{cs:List Value}(h:Fu w b l)(hr:Row w g t cs):g≠b:=by
 obtain⟨es,clock,h1,h2⟩:=h
 intro e;subst e;unfold Row at hr;rw[h1]at hr;cases hr
theorem Fu.made(w:World):Fu (w.alloc (.map #[] 0)) w.heap.size []:=⟨#[],0,(MapKept.heap_alloc w _).1,rfl⟩
def Bc(s:Ar)(m:Option Nat):List Value:=[.int .i64 (s.room:Int),.int .i64 (s.used:Int),.int .i64 (s.CF:Int),.map m]
def Wr(w:World)(G:Nat→Prop)(m:Option Nat)(l:List (Nat×Nat)):Prop:=(m=none∧l=[])∨∃b,m=some b∧Fu w b l∧G b
def FO(w:World)(G:Nat→Prop)(p:Nat)(s:Ar):Prop:=
 Sound s∧(∃m,Row w p 73 (Bc s m)∧Wr w G m s.st∧∀k,G k→k=p∨m=some k)∧G p∧(∀k,G k→k<w.heap.size)∧∀q∈s.st,Hf w q.1
section
variable {w w' : World} {G G' : Nat → Prop} {p : Nat} {s : Ar}
theorem Hf.lt{b:Nat}(h:Hf w b):b<w.heap.size:=by obtain⟨v,h⟩:=h;exact h.lt
theorem Hf.Cc{F:Nat→Prop}{b:Nat}(h:Hf w b)(hf:AL F w w')(hF:¬F b):Hf w' b:=by obtain⟨v,h⟩:=h;exact⟨v,hf.row h hF⟩
theorem Wr.CL{m:Option Nat}{l:List (Nat×Nat)}(h:Wr w G m l)(hG:∀k,G k→w'.heap[k]?=w.heap[k]?):Wr w' G m l:=by
 rcases h with h|⟨b,rfl,hb,hg⟩
 ·exact .inl h
 ·exact .inr ⟨b,rfl,hb.same (hG b hg),hg⟩
theorem FO.lt(h:FO w G p s){k:Nat}(hk:G k):k<w.heap.size:=h.2.2.2.1 k hk
theorem FO.Ju(h:FO w G p s):G p:=h.2.2.1
theorem FO.sound(h:FO w G p s):Sound s:=h.1
theorem FO.buf(h:FO w G p s){q:Nat×Nat}(hq:q∈s.st):Hf w q.1:=h.2.2.2.2 q hq
theorem Row.typed{g:Nat}{t u:TypeId}{cs ds:List Value}(h:Row w g t cs)(k:Row w g u ds):t=u:=by
 unfold Row at h k;rw[h]at k;injection k with k;injection k
theorem FO.types(h:FO w G p s){k:Nat}{t:TypeId}{cs:List Value}(hr:Row w k t cs)(ht:t≠73):¬G k:=by
 obtain⟨h0,⟨m,h1,h2,h3⟩,_⟩:=h
 intro hk
 rcases h3 k hk with rfl|rfl
 ·exact ht (hr.typed h1)
 ·rcases h2 with⟨e,_⟩|⟨b,e,hb,_⟩
  ·cases e
  ·injection e with e;subst e;exact hb.A9 hr rfl
theorem FO.Lf(h:FO w G p s){b:Nat}(hb:Hf w b):¬G b:=by obtain⟨v,hb⟩:=hb;exact h.types hb (by decide)
theorem FO.row{F:Nat→Prop}(h:FO w G p s)(hf:AL F w w')(hF:∀k,F k→G k){k:Nat}{t:TypeId}{cs:List Value}(hr:Row w k t cs)(ht:t≠73):Row w' k t cs:=hf.row hr fun hk=>h.types hr ht (hF k hk)
theorem FO.CL(h:FO w G p s)(hG:∀k,G k→w'.heap[k]?=w.heap[k]?)(hB:∀q∈s.st,Hf w q.1→Hf w' q.1)(hs:w.heap.size≤w'.heap.size):FO w' G p s:=by
 obtain⟨h0,⟨m,h1,h2,h3⟩,h4,h5,h6⟩:=h
 exact⟨h0,⟨m,(hG p h4).trans h1,h2.CL hG,h3⟩,h4,fun k hk=>Nat.lt_of_lt_of_le (h5 k hk) hs,fun q hq=>hB q hq (h6 q hq)⟩
theorem FO.Cc{F:Nat→Prop}(h:FO w G p s)(hf:AL F w w')(hG:∀k,G k→¬F k)(hB:∀q∈s.st,¬F q.1):FO w' G p s:=
 h.CL (fun k hk=>hf.block k (h.lt hk) (hG k hk)) (fun q hq hb=>hb.Cc hf (hB q hq)) hf.size
theorem FO.below(h:FO w G p s)(hb:Below w.heap.size w w'):FO w' G p s:=h.Cc (AL.AJ hb fun _=>False) (fun _ _ hf=>hf) fun _ _ hf=>hf
theorem FO.words{b n:Nat}(h:FO w G p s)(hb:wordsAt s.st b=some n):n≤s.used∧s.used≤s.CF∧s.CF≤s.room∧s.room≤9223372036854775807:=⟨Nd h.1 hb,h.1.CF.1,h.1.CF.2,h.1.room⟩
end
theorem NG(w:World){ops:Array Oper}{rest:List Oper}{o:Oper}{a:Act}{Q:Exit→Act→World→Prop}
  (hg:o.guard=none) (m x v:Operand) (gh:o.op=Op.mapUpdate 71 m x v) (b k n:Nat) (l:List (Nat×Nat)) (hm:a.eval m=.map (some b)) (hx:a.eval x=ptr k) (hv:a.eval v=.int .i64 (n:Nat))
  (h:Fu w b l) (hk:Hf w k) (hl:∀q∈l,Hf w q.1) (hn:wordsAt l k=none)
  (hK:∀w',Fu w' b (l++[(k,n)])→w.grownBy w' (some b)→wpList Tryz.prog ops Q rest (a.put o.dst undef) w'):
  wpList Tryz.prog ops Q (o::rest) a w:=by
 refine wpList_plain hg fun K' tK=>?_
 obtain⟨w',hrun,r1,r2⟩:=fX w (n:=n) h hk hl hn
 unfold Oper.wp
 simp[execOp,gh,hm,hx,hv,hrun,Result.andThen]
 exact tK _ _ (hK w' r1 r2)
theorem NH(w:World){ops:Array Oper}{rest:List Oper}{o:Oper}{a:Act}{Q:Exit→Act→World→Prop}
  (hg:o.guard=none) (m x:Operand) (gh:o.op=Op.call {callee:=Callee.builtin Builtin.delete,args:=#[m,x],argTypes:=#[71,117]}) (b k n:Nat) (l:List (Nat×Nat)) (hm:a.eval m=.map (some b)) (hx:a.eval x=ptr k)
  (h:Fu w b l) (hk:Hf w k) (hl:∀q∈l,Hf w q.1) (hn:wordsAt l k=some n)
  (hK:∀w',Fu w' b (CS l k)→w.grownBy w' (some b)→wpList Tryz.prog ops Q rest (a.put o.dst (.tuple #[])) w'):
  wpList Tryz.prog ops Q (o::rest) a w:=by
 refine wpList_plain hg fun K' tK=>?_
 obtain⟨w',hrun,r1,r2⟩:=fc w h hk hl hn o.type
 unfold Oper.wp
 simp[execOp,gh,resolve,invoke,builtin,hm,hx,hrun,Result.andThen]
 exact tK _ _ (hK w' r1 r2)
theorem Vx{P:Program}{ops:Array Oper}{Q:Exit→Act→World→Prop}{rest:List Oper}{a:Act}{w:World}{m x:Operand}{ts:Array TypeId}{ty:TypeId}{pos:String}{after:Array Edge}{guard:Option (Nat×Bool)}
  (h:Hid (wpList P ops Q (⟨none,.call {callee:=.builtin .delete,args:=#[m,x],argTypes:=ts},ty,pos,after,guard⟩::rest) a w)):wpList P ops Q (⟨none,.call {callee:=.builtin .delete,args:=#[m,x],argTypes:=ts},ty,pos,after,guard⟩::rest) a w:=h
section
variable (p : Nat) (s : Ar) (m : Option Nat) (w : World)
theorem OY(hr:Row w p 73 (Bc s m)):Calls Tryz.prog 14 #[.pointer (some ⟨p,0,none⟩)] w fun e w'=>e=.returned (.int .i64 (s.room:Int))∧w'=w:=by
 have c0:w.cell? ⟨p,0,none⟩=some (.int .i64 (s.room:Int)):=hr.cell 0
 go_enter Tryz.func14,Tryz.ntmps14
 go_wp2
 go_ret
 exact⟨rfl,rfl⟩
theorem OX(hr:Row w p 73 (Bc s m)):Calls Tryz.prog 21 #[.pointer (some ⟨p,0,none⟩)] w fun e w'=>e=.returned (.int .i64 (s.used:Int))∧w'=w:=by
 have c0:w.cell? ⟨p,1,none⟩=some (.int .i64 (s.used:Int)):=hr.cell 1
 go_enter Tryz.func21,Tryz.ntmps21
 go_wp2
 go_ret
 exact⟨rfl,rfl⟩
theorem VY(hr:Row w p 73 (Bc s m)):Calls Tryz.prog 35 #[.pointer (some ⟨p,0,none⟩)] w fun e w'=>e=.returned (.int .i64 (s.CF:Int))∧w'=w:=by
 have c0:w.cell? ⟨p,2,none⟩=some (.int .i64 (s.CF:Int)):=hr.cell 2
 go_enter Tryz.func35,Tryz.ntmps35
 go_wp2
 go_ret
 exact⟨rfl,rfl⟩
theorem J7(hr:Row w p 73 (Bc s m))(hs:Sound s):Calls Tryz.prog 43 #[.pointer (some ⟨p,0,none⟩)] w fun e w'=>e=.returned (.int .i64 ((s.room-s.used:Nat):Int))∧w'=w:=by
 have hro:=OY p s m w hr
 have hus:=OX p s m w hr
 have h1:=hs.CF
 have h2:=hs.room
 have Fc:(s.room:Int)-(s.used:Int)=((s.room-s.used:Nat):Int):=by omega
 have g1:(-9223372036854775808:Int)≤(s.room:Int)-(s.used:Int):=by omega
 have g2:(s.room:Int)-(s.used:Int)≤9223372036854775807:=by omega
 clear h1 h2 hs hr
 go_enter Tryz.func43,Tryz.ntmps43
 go_wp2_with fail
 refine hro.mono ?_
 rintro e w1 ⟨rfl,rfl⟩
 go_wp2_with fail
 refine hus.mono ?_
 rintro e w1 ⟨rfl,rfl⟩
 go_wp2
 go_ret
 exact⟨rfl,rfl⟩
end
theorem fy(w:World)(room:Nat)(h:room≤9223372036854775807):FO (w.alloc (.cells #[.int .i64 (room:Int),.int .i64 0,.int .i64 0,.map none] 73)) (fun k=>k=w.heap.size) w.heap.size (empty room):=by
 have hr:Row (w.alloc (.cells #[.int .i64 (room:Int),.int .i64 0,.int .i64 0,.map none] 73)) w.heap.size 73 (Bc (empty room) none):=heap_alloc_new _ _
 exact⟨Te h,⟨none,hr,.inl ⟨rfl,rfl⟩,fun k hk=>.inl hk⟩,rfl,fun k hk=>by subst hk;simp,fun q hq=>by cases hq⟩
theorem Qc(room:Int)(w:World)(h1:-9223372036854775808≤room)(h2:room≤9223372036854775807):
  Calls Tryz.prog 31 #[.int .i64 room] w fun e w'=>e=.returned (ptr w.heap.size)∧FO w' (fun k=>k=w.heap.size) w.heap.size (empty room.toNat)∧Below w.heap.size w w':=by
 have H:=Lib.hid (fy w)
 have HB:=fun o=>Lib.hid ((Below.refl _ w).alloc (Nat.le_refl _) o)
 go_enter Tryz.func31,Tryz.ntmps31
 go_wp2
 ·go_ret
  have e:room.toNat=0:=by omega
  rw[e]
  exact⟨rfl,H.out 0 (by omega),(HB _).out⟩
 ·go_ret
  have e:room=(room.toNat:Int):=by omega
  have hh:=H.out room.toNat (by omega)
  rw[←e]at hh
  exact⟨rfl,hh,(HB _).out⟩
theorem Wn{w2 w3:World}{G:Nat→Prop}{p b n bm:Nat}{s:Ar}(h0:Sound s)(hn:n≤s.room-s.used)(hb:Hf w2 b)(RT:¬G b)(JO:∀q∈s.st,Hf w2 q.1∧¬G q.1)(hp:G p)(hG:∀k,G k→k<w2.heap.size)(eM:∀k,G k→k=p∨some bm=some k)
  (hm:Fu w2 bm (s.st++[(b,n)])) (P8:G bm) (hne:bm≠p) (hr:Row w3 p 73 (Bc (Bv s b n) (some bm))) (hf:AL (fun k=>k=p) w2 w3):FO w3 G p (Bv s b n):=by
 have hB:∀x,Hf w2 x→¬G x→Hf w3 x:=fun x hx hg=>hx.Cc hf fun e=>hg (e▸hp)
 refine⟨TT h0 b hn,⟨some bm,hr,.inr ⟨bm,rfl,hm.same (hf.block bm hm.lt hne),P8⟩,eM⟩,hp,fun k hk=>Nat.lt_of_lt_of_le (hG k hk) hf.size,fun q hq=>?_⟩
 rcases List.mem_append.1 hq with hq|hq
 ·exact hB _ (JO q hq).1 (JO q hq).2
 ·have:q=(b,n):=by simpa using hq
  subst this;exact hB _ hb RT
theorem count_tail{w2:World}{p:Nat}{s:Ar}{bm:Nat}(b n:Nat){u:Nat}(hu:s.used+n=u)(hr:Row w2 p 73 (Bc s (some bm))):
  Row ((w2.setCell ⟨p,1,none⟩ (.int .i64 (u:Int))).setCell ⟨p,2,none⟩ (.int .i64 (if s.CF<u then (u:Int)else (s.CF:Int)))).drew p 73 (Bc (Bv s b n) (some bm))∧
  AL (fun k=>k=p) w2 ((w2.setCell ⟨p,1,none⟩ (.int .i64 (u:Int))).setCell ⟨p,2,none⟩ (.int .i64 (if s.CF<u then (u:Int)else (s.CF:Int)))).drew:=by
 refine⟨?_,?_⟩
 ·have h:=(hr.set 1 (.int .i64 (u:Int))).set 2 (.int .i64 (if s.CF<u then (u:Int)else (s.CF:Int)))
  have e:Bc (Bv s b n) (some bm)=((Bc s (some bm)).set 1 (.int .i64 (u:Int))).set 2 (.int .i64 (if s.CF<u then (u:Int)else (s.CF:Int))):=by
   subst hu
   by_cases h:s.CF<s.used+n<;>simp[Bc,Bv,h]
  rw[e];exact h
 ·exact(((AL.refl (fun k=>k=p) w2).set (p:=⟨p,1,none⟩) (.inl rfl) (.int .i64 (u:Int))).set (p:=⟨p,2,none⟩) (.inl rfl) (.int .i64 (if s.CF<u then (u:Int)else (s.CF:Int)))).drew
theorem Tm(p:Nat)(s:Ar)(G:Nat→Prop)(b n:Nat)(w:World)(h:FO w G p s)(hb:Hf w b)(TQ:∀q∈s.st,q.1≠b)(hn:n≤s.room-s.used):
  Calls Tryz.prog 84 #[.pointer (some ⟨p,0,none⟩),.pointer (some ⟨b,0,none⟩),.int .i64 (n:Int)] w fun e w'=>∃G',e=.returned (.tuple #[])∧FO w' G' p (Bv s b n)∧AL G w w'∧∀k,G' k→G k∨w.heap.size≤k:=by
 have hno:=JT s.st b TQ
 have RT:=h.Lf hb
 have JO:=fun q hq=>And.intro (h.buf (q:=q) hq) (h.Lf (h.buf hq))
 obtain⟨h0,⟨m,hr,hst,eM⟩,hp,hG,_⟩:=id h
 have hmm:=@run_makeMap Tryz.prog
 have YN:=fun w r=>run_eql_map_nil (P:=Tryz.prog) w 71 117 3 r Tryz.underlying71
 have EK:=h0.CF
 have El:=h0.room
 obtain⟨u,hu⟩:∃u,s.used+n=u:=⟨_,rfl⟩
 have Ls:(s.used:Int)+(n:Int)=(u:Int):=by omega
 have HU:=Lib.hid hu
 have g1:(-9223372036854775808:Int)≤(u:Int):=by omega
 have g2:(u:Int)≤9223372036854775807:=by omega
 clear hu
 have H0:=Lib.hid h0
 have HR:=Lib.hid hr
 have HN:=Lib.hid hn
 have c3:w.cell? ⟨p,3,none⟩=some (.map m):=hr.cell 3
 have f3:=hr.free 3
 clear hr h0 h hn EK El
 rcases hst with⟨rfl,hst⟩|⟨bm,rfl,hm,P8⟩
 ·have eI:p<w.heap.size:=hG p hp
  have Bl:Row ((w.setCell ⟨p,3,none⟩ (.map (some w.heap.size))).alloc (.map #[] 0)) p 73 (Bc s (some w.heap.size)):=(HR.out.set 3 (.map (some w.heap.size))).alloc (.map #[] 0)
  have KH:Fu ((w.setCell ⟨p,3,none⟩ (.map (some w.heap.size))).alloc (.map #[] 0)) w.heap.size s.st:=by
   rw[hst];have:=Fu.made (w.setCell ⟨p,3,none⟩ (.map (some w.heap.size)));rwa [show (w.setCell ⟨p,3,none⟩ (.map (some w.heap.size))).heap.size=w.heap.size by simp]at this
  have Iw:AL G w ((w.setCell ⟨p,3,none⟩ (.map (some w.heap.size))).alloc (.map #[] 0)):=((AL.refl G w).set (p:=⟨p,3,none⟩) (.inl hp) _).alloc _
  have B3:((w.setCell ⟨p,3,none⟩ (.map (some w.heap.size))).alloc (.map #[] 0)).heap.size=w.heap.size+1:=by simp
  have c3':((w.setCell ⟨p,3,none⟩ (.map (some w.heap.size))).alloc (.map #[] 0)).cell? ⟨p,3,none⟩=some (.map (some w.heap.size)):=Bl.cell 3
  have pI:=Lib.hid KH
  have Ee:=Lib.hid Bl
  have R5:=Lib.hid Iw
  have HZ1:=Lib.hid B3
  clear KH Bl Iw B3
  go_enter Tryz.func84,Tryz.ntmps84
  go_wp2_with (with_reducible refine Qw ?_)
  unfold Hid
  generalize(w.setCell ⟨p,3,none⟩ (.map (some w.heap.size))).alloc (.map #[] 0)=w1 at*
  have Am:∀x,Hf w x→¬G x→Hf w1 x:=fun x hx hg=>hx.Cc R5.out hg
  refine NG w1 rfl _ _ _ rfl w.heap.size b n s.st rfl rfl rfl pI.out (Am b hb RT) (fun q hq=>Am _ (JO q hq).1 (JO q hq).2) hno ?_
  intro w2 hm2 CP
  have Di:AL (fun k=>k=w.heap.size) w1 w2:=(AL.refl _ w1).grown CP fun k hk=>.inl (by injection hk with hk;exact hk.symm)
  have Av:=Di.row Ee.out (pI.out.A9 Ee.out)
  have Oh:=Lib.hid (R5.out.trans Di fun k hk=>.inr (by omega))
  have AZ:∀x,Hf w x→¬G x→Hf w2 x:=fun x hx hg=>hx.Cc Oh.out hg
  have HT:=Lib.hid (count_tail b n HU.out Av)
  have k1:w2.cell? ⟨p,1,none⟩=some (.int .i64 (s.used:Int)):=Av.cell 1
  have k2:w2.cell? ⟨p,2,none⟩=some (.int .i64 (s.CF:Int)):=Av.cell 2
  have f1:=Av.free 1
  have f2:=Av.free 2
  have Ix:∀w3,Row w3 p 73 (Bc (Bv s b n) (some w.heap.size))→AL (fun k=>k=p) w2 w3→∃G',Ending.returned (.tuple #[])=Ending.returned (.tuple #[])∧FO w3 G' p (Bv s b n)∧AL G w w3∧∀k,G' k→G k∨w.heap.size≤k:=by
   intro w3 Cn Kr
   refine⟨fun k=>G k∨k=w.heap.size,rfl,?_,Oh.out.trans Kr fun k hk=>.inl (hk▸hp),fun k hk=>hk.imp id fun e=>by omega⟩
   have hlt:∀x,Hf w x→¬G x→¬(G x∨x=w.heap.size):=fun x hx hg hh=>hh.elim hg fun e=>by have:=hx.lt;omega
   refine Wn (G:=fun k=>G k∨k=w.heap.size) H0.out HN.out (AZ b hb RT) (hlt b hb RT) (fun q hq=>⟨AZ _ (JO q hq).1 (JO q hq).2,hlt _ (JO q hq).1 (JO q hq).2⟩) (.inl hp) (fun k hk=>?_) (fun k hk=>?_) hm2 (.inr rfl) (by omega) Cn Kr
   ·have:=Oh.out.size
    have:=hm2.lt
    rcases hk with hk|hk
    ·have:=hG k hk;omega
    ·omega
   ·rcases hk with hk|hk
    ·exact(eM k hk).elim .inl fun e=>by cases e
    ·exact .inr (by rw[hk])
  have Aw:=Lib.hid Ix
  clear Ix hm2 CP Di Av AZ c3 c3' f3 Am hst hno TQ JO
  go_wp2_with fail
  go_region
  go_end0
  have ht:=HT.out
  by_cases hlt:s.CF<u
  ·simp only[if_pos hlt]at ht⊢;exact Aw.out _ ht.1 ht.2
  ·simp only[if_neg hlt]at ht⊢;exact Aw.out _ ht.1 ht.2
 ·have HM:=Lib.hid hm
  go_enter Tryz.func84,Tryz.ntmps84
  go_wp2_with (with_reducible refine Qw ?_)
  unfold Hid
  refine NG _ rfl _ _ _ rfl bm b n s.st rfl rfl rfl HM.out hb (fun q hq=>(JO q hq).1) hno ?_
  intro w2 hm2 CP
  have Di:AL (fun k=>k=bm) w w2:=(AL.refl _ w).grown CP fun k hk=>.inl (by injection hk with hk;exact hk.symm)
  have Av:=Di.row HR.out (HM.out.A9 HR.out)
  have Oh:Hid (AL G w w2):=Di.mono fun k hk=>hk▸P8
  have AZ:∀x,Hf w x→¬G x→Hf w2 x:=fun x hx hg=>hx.Cc Oh.out hg
  have hne:bm≠p:=fun e=>HM.out.A9 HR.out e.symm
  have HT:=Lib.hid (count_tail b n HU.out Av)
  have k1:w2.cell? ⟨p,1,none⟩=some (.int .i64 (s.used:Int)):=Av.cell 1
  have k2:w2.cell? ⟨p,2,none⟩=some (.int .i64 (s.CF:Int)):=Av.cell 2
  have f1:=Av.free 1
  have f2:=Av.free 2
  have Ix:∀w3,Row w3 p 73 (Bc (Bv s b n) (some bm))→AL (fun k=>k=p) w2 w3→∃G',Ending.returned (.tuple #[])=Ending.returned (.tuple #[])∧FO w3 G' p (Bv s b n)∧AL G w w3∧∀k,G' k→G k∨w.heap.size≤k:=by
   intro w3 Cn Kr
   exact⟨G,rfl,Wn H0.out HN.out (AZ b hb RT) RT (fun q hq=>⟨AZ _ (JO q hq).1 (JO q hq).2,(JO q hq).2⟩) hp (fun k hk=>Nat.lt_of_lt_of_le (hG k hk) Oh.out.size) eM hm2 P8 hne Cn Kr,Oh.out.trans Kr fun k hk=>.inl (hk▸hp),fun k hk=>.inl hk⟩
  have Aw:=Lib.hid Ix
  clear Ix hm2 CP Di Av AZ c3 f3 hno TQ JO
  go_wp2_with fail
  go_region
  go_end0
  have ht:=HT.out
  by_cases hlt:s.CF<u
  ·simp only[if_pos hlt]at ht⊢;exact Aw.out _ ht.1 ht.2
  ·simp only[if_neg hlt]at ht⊢;exact Aw.out _ ht.1 ht.2
theorem iT:(Tryz.prog.info? 127).map (fun i=>(i.zero,i.size,i.bytes))=some (some (.int .u64 0),1,8):=by kernel_rfl
theorem cJ(p:Nat)(s:Ar)(G:Nat→Prop)(n:Int)(w:World)(h:FO w G p s)(hn:n<0∨(s.room-s.used:Nat)<n):
  Calls Tryz.prog 63 #[.pointer (some ⟨p,0,none⟩),.int .i64 n] w fun e w'=>e=.returned (.tuple #[.pointer none,.int .i64 (if n<0 then 1 else 7)])∧w'=w:=by
 obtain⟨h0,⟨m,hr,hst,eM⟩,hp,hG,JO⟩:=h
 have hl:=J7 p s m w hr h0
 by_cases h1:n<0
 ·rw[if_pos h1]
  have g1:decide (n<0)=true:=by simpa using h1
  clear hl hn
  go_enter Tryz.func63,Tryz.ntmps63
  go_wp2
  go_ret2
  exact⟨rfl,rfl⟩
 ·rw[if_neg h1]
  have TM:(s.room-s.used:Nat)<n:=by omega
  have g1:decide (n<0)=false:=by simpa using h1
  obtain⟨left,MI⟩:∃l:Nat,s.room-s.used=l:=⟨_,rfl⟩
  rw[MI]at hl TM
  have g2:decide (n>(left:Int))=true:=by simpa using TM
  clear hn MI h1 TM hr
  go_enter Tryz.func63,Tryz.ntmps63
  go_wp2_with fail
  refine hl.mono ?_
  rintro e w1 ⟨rfl,rfl⟩
  go_wp2
  go_ret2
  exact⟨rfl,rfl⟩
theorem QD(p:Nat)(s:Ar)(G:Nat→Prop)(n:Nat)(w:World)(h:FO w G p s)(hn:n≤s.room-s.used)(hm:n≤268435455):
  Calls Tryz.prog 63 #[.pointer (some ⟨p,0,none⟩),.int .i64 (n:Int)] w fun e w'=>∃b g G',e=.returned (.tuple #[ptr b,.int .i64 0])∧FO w' G' p (Bv s b n)∧
   Row w' b 126 [.slice (some ⟨g,0,none⟩) n n]∧Row w' g 127 (List.replicate n (.int .u64 0))∧w.heap.size≤b∧w.heap.size≤g∧b≠g∧¬G' b∧¬G' g∧AL G w w'∧∀k,G' k→G k∨w.heap.size≤k:=by
 obtain⟨h0,⟨m,hr,hst,eM⟩,hp,hG,JO⟩:=id h
 have hl:=J7 p s m w hr h0
 have HA:=Lib.hid h
 have HN:=Lib.hid hn
 have g1:decide ((n:Int)<0)=false:=by simp
 have g2:decide (s.room-s.used<n)=false:=by simp;omega
 have g3:decide ((n:Int)>268435455)=false:=by simp;omega
 obtain⟨i0,B7,By,B3,EX⟩:=info_parts iT
 have hb8:i0.bytes*n≤281474976710656:=by rw[EX];omega
 obtain⟨left,MI⟩:∃l:Nat,s.room-s.used=l:=⟨_,rfl⟩
 rw[MI]at hl g2
 clear h hn hr hst h0 MI
 go_enter Tryz.func63,Tryz.ntmps63
 go_wp2_with fail
 refine hl.mono ?_
 rintro e w1 ⟨rfl,rfl⟩
 go_wp2_with (with_reducible refine BN 23 ?_)
 unfold Hid
 refine Ei _ rfl _ _ 123 rfl 127 i0 (.int .u64 0) Tryz.underlying123 B7 By B3 rfl .i64 .i64 _ _ n rfl rfl rfl rfl hb8 (by omega) ?_
 intro w2 Av AZ El
 have Cn:Row (w2.alloc (.cells #[.slice (some ⟨w1.heap.size,0,none⟩) n n] 126)) w2.heap.size 126 [.slice (some ⟨w1.heap.size,0,none⟩) n n]:=heap_alloc_new _ _
 have A8:=AZ.trans (((Below.refl _ w2).alloc (Nat.le_refl _) (.cells #[.slice (some ⟨w1.heap.size,0,none⟩) n n] 126)).mono (by omega))
 have YD:(w2.alloc (.cells #[.slice (some ⟨w1.heap.size,0,none⟩) n n] 126)).heap.size=w1.heap.size+2:=by simp[El]
 have Gp:Row (w2.alloc (.cells #[.slice (some ⟨w1.heap.size,0,none⟩) n n] 126)) w1.heap.size 127 (List.replicate n (.int .u64 0)):=Av.alloc _
 have wB:=HA.out.below A8
 have hno:∀k,G k→k<w1.heap.size:=hG
 have Ks:=Tm p s G w2.heap.size n _ wB ⟨_,Cn⟩ (fun q hq e=>by have:=(JO q hq).lt;omega) HN.out
 have IK:=Lib.hid Cn
 have BM:=Lib.hid A8
 have Vj:=Lib.hid Gp
 have wL:=Lib.hid YD
 have KK:=Lib.hid El
 clear Cn A8 Gp YD wB Av AZ El JO hl B7 By B3 EX hb8
 go_wp2_with fail
 refine Ks.mono ?_
 rintro e w4 ⟨G',rfl,ha4,Mi,zW⟩
 have El:=KK.out
 have YD:=wL.out
 have Dp:=Mi.row IK.out (fun hg=>by have:=hG _ hg;omega)
 have qE:=Mi.row Vj.out (fun hg=>by have:=hG _ hg;omega)
 have Aw:Hid (FO w4 G' p (Bv s w2.heap.size n)∧Row w4 w2.heap.size 126 [.slice (some ⟨w1.heap.size,0,none⟩) n n]∧Row w4 w1.heap.size 127 (List.replicate n (.int .u64 0))∧w1.heap.size≤w2.heap.size∧w1.heap.size≤w1.heap.size∧w2.heap.size≠w1.heap.size∧¬G' w2.heap.size∧¬G' w1.heap.size∧AL G w1 w4∧∀k,G' k→G k∨w1.heap.size≤k):=by
  have WN:∀x,G' x→¬G x→w1.heap.size+2≤x:=fun x hx hg=>(zW x hx).elim (fun h=>absurd h hg) fun h=>by omega
  refine⟨ha4,Dp,qE,by omega,Nat.le_refl _,by omega,fun h=>?_,fun h=>?_,(AL.AJ BM.out G).trans Mi fun k hk=>.inl hk,fun k hk=>(zW k hk).imp id fun h=>by omega⟩
  ·by_cases hg:G w2.heap.size
   ·have:=hG _ hg;omega
   ·have:=WN _ h hg;omega
  ·by_cases hg:G w1.heap.size
   ·have:=hG _ hg;omega
   ·have:=WN _ h hg;omega
 clear ha4 Mi zW Dp qE Ks El YD IK BM Vj wL KK
 go_wp2
 go_ret2
 exact⟨_,_,_,rfl,Aw.out⟩
theorem SZ(p:Nat)(s:Ar)(G:Nat→Prop)(b n:Nat)(w:World)(h:FO w G p s)(hb:Hf w b)(hn:wordsAt s.st b=some n):
  Calls Tryz.prog 80 #[.pointer (some ⟨p,0,none⟩),.pointer (some ⟨b,0,none⟩)] w fun e w'=>e=.returned (.bool true)∧FO w' G p (release s b n)∧Row w' b 126 [.slice none 0 0]∧AL (fun k=>G k∨k=b) w w':=by
 have hw:=h.words hn
 have RT:=h.Lf hb
 have JO:=fun q hq=>And.intro (h.buf (q:=q) hq) (h.Lf (h.buf hq))
 obtain⟨h0,⟨m,hr,hst,eM⟩,hp,hG,_⟩:=id h
 rcases hst with⟨rfl,hst⟩|⟨bm,rfl,hm,P8⟩
 ·rw[hst]at hn;cases hn
 have c3:w.cell? ⟨p,3,none⟩=some (.map (some bm)):=hr.cell 3
 have bW:(Instr.lookup 71 (.map (some bm)) (.pointer (some ⟨b,0,none⟩)) true).run Tryz.prog w=.ok (.tuple #[.int .i64 (n:Int),.bool true]) w:=by
  have:=SS w hm hb fun q hq=>(JO q hq).1
  rw[hn]at this;exact this
 have hne:bm≠p:=fun e=>hm.A9 hr e.symm
 have HM:=Lib.hid hm
 have HR:=Lib.hid hr
 have H0:=Lib.hid h0
 have lH:=Lib.hid hn
 obtain⟨u,hu⟩:∃u,s.used-n=u:=⟨_,rfl⟩
 have Fc:(s.used:Int)-(n:Int)=(u:Int):=by omega
 have g1:(-9223372036854775808:Int)≤(u:Int):=by omega
 have g2:(u:Int)≤9223372036854775807:=by omega
 have HU:=Lib.hid hu
 clear hu hr hm h h0 hn hw
 go_enter Tryz.func80,Tryz.ntmps80
 go_wp2_with (with_reducible refine Vx ?_)
 unfold Hid
 refine NH _ rfl _ _ rfl bm b n s.st rfl rfl HM.out hb (fun q hq=>(JO q hq).1) lH.out ?_
 intro w2 hm2 CP
 have Di:AL (fun k=>k=bm) w w2:=(AL.refl _ w).grown CP fun k hk=>.inl (by injection hk with hk;exact hk.symm)
 have Av:=Di.row HR.out (HM.out.A9 HR.out)
 obtain⟨v,hv⟩:=hb
 have AZ:=Di.row hv (HM.out.A9 hv)
 have k1:w2.cell? ⟨p,1,none⟩=some (.int .i64 (s.used:Int)):=Av.cell 1
 have f1:=Av.free 1
 have fb:=AZ.free 0
 have kb:w2.cell? ⟨b,0,none⟩=some v:=AZ.cell 0
 have eK:b≠p:=fun e=>RT (e▸hp)
 have nE:p≠b:=fun e=>eK e.symm
 have Ix:FO ((w2.setCell ⟨p,1,none⟩ (.int .i64 (u:Int))).setCell ⟨b,0,none⟩ (.slice none 0 0)) G p (release s b n)∧Row ((w2.setCell ⟨p,1,none⟩ (.int .i64 (u:Int))).setCell ⟨b,0,none⟩ (.slice none 0 0)) b 126 [.slice none 0 0]∧
   AL (fun k=>G k∨k=b) w ((w2.setCell ⟨p,1,none⟩ (.int .i64 (u:Int))).setCell ⟨b,0,none⟩ (.slice none 0 0)):=by
  have Cn:Row ((w2.setCell ⟨p,1,none⟩ (.int .i64 (u:Int))).setCell ⟨b,0,none⟩ (.slice none 0 0)) p 73 (Bc (release s b n) (some bm)):=by
   have e:Bc (release s b n) (some bm)=(Bc s (some bm)).set 1 (.int .i64 (u:Int)):=by rw[←HU.out];rfl
   rw[e];exact(Av.set 1 _).Cc (fun e=>eK e.symm) _
  have FH:Row ((w2.setCell ⟨p,1,none⟩ (.int .i64 (u:Int))).setCell ⟨b,0,none⟩ (.slice none 0 0)) b 126 [.slice none 0 0]:=(AZ.Cc (p:=⟨p,1,none⟩) eK _).set 0 _
  have Mi:AL (fun k=>G k∨k=b) w ((w2.setCell ⟨p,1,none⟩ (.int .i64 (u:Int))).setCell ⟨b,0,none⟩ (.slice none 0 0)):=((Di.mono fun k hk=>.inl (hk▸P8)).set (p:=⟨p,1,none⟩) (.inl (.inl hp)) _).set (p:=⟨b,0,none⟩) (.inl (.inr rfl)) _
  refine⟨⟨JZ H0.out lH.out,⟨some bm,Cn,.inr ⟨bm,rfl,hm2.same ?_,P8⟩,eM⟩,hp,fun k hk=>Nat.lt_of_lt_of_le (hG k hk) Mi.size,fun q hq=>?_⟩,FH,Mi⟩
  ·rw[heap_setCell_other _ ⟨b,0,none⟩ _ _ (show bm≠b from fun e=>RT (e▸P8)),heap_setCell_other _ ⟨p,1,none⟩ _ _ (show bm≠p from hne)]
  ·have eH:=JO q (De _ _ _ hq)
   by_cases e:q.1=b
   ·rw[e];exact⟨_,FH⟩
   ·exact eH.1.Cc Mi fun h=>h.elim eH.2 e
 have Aw:=Lib.hid Ix
 clear Ix hm2 CP Di Av AZ hv c3 bW JO
 go_wp2
 go_ret
 exact⟨rfl,Aw.out⟩
theorem AG{B:Nat}{a w:World}(h:Below B a w):Below B a w.drew:=⟨h.os,h.tape,h.output,h.size,h.block⟩
structure Wp where
 w:Nat
 d:Nat
 a:Nat
 s:Nat
structure Fs where
 D:St
 A:Ar
 S:Sp
def Sys(w:World)(G:Nat→Prop)(p:Wp)(F:Fs)(n:Nat):Prop:=
 ∃Gd Ga Gs,Row w p.w 70 [ptr p.d,ptr p.a,ptr p.s]∧IY w Gd p.d F.D n∧FO w Ga p.a F.A∧Es w Gs p.s F.S∧(∀k,G k↔k=p.w∨Gd k∨Ga k∨Gs k)∧
  (∀k,Gd k→¬Ga k∧¬Gs k∧k≠p.w)∧(∀k,Ga k→¬Gs k∧k≠p.w)∧(∀k,Gs k→k≠p.w)∧∀q∈F.A.st,¬G q.1
def AR(w:World)(G:Nat→Prop)(p:Wp)(F:Fs)(n:Nat)(w':World):Prop:=∃G',Sys w' G' p F n∧AL G w w'∧∀k,G' k→G k∨w.heap.size≤k
section
variable {w w' : World} {G : Nat → Prop} {p : Wp} {F : Fs} {n : Nat}
theorem Sys.lt(h:Sys w G p F n){k:Nat}(hk:G k):k<w.heap.size:=by
 obtain⟨Gd,Ga,Gs,hr,hd,ha,hs,hG,_⟩:=h
 rcases(hG k).1 hk with rfl|h|h|h
 ·exact hr.lt
 ·exact hd.lt h
 ·exact ha.lt h
 ·exact hs.lt h
theorem Sys.row(h:Sys w G p F n):Row w p.w 70 [ptr p.d,ptr p.a,ptr p.s]:=by obtain⟨Gd,Ga,Gs,hr,_⟩:=h;exact hr
theorem Sys.Ju(h:Sys w G p F n):G p.w:=by obtain⟨Gd,Ga,Gs,hr,hd,ha,hs,hG,_⟩:=h;exact(hG _).2 (.inl rfl)
theorem Sys.size(h:Sys w G p F n):8≤F.D.size∧F.D.size≤256:=by obtain⟨Gd,Ga,Gs,hr,hd,_⟩:=h;exact hd.fits.size
theorem Sys.sound(h:Sys w G p F n):Sound F.A:=by obtain⟨Gd,Ga,Gs,hr,hd,ha,_⟩:=h;exact ha.sound
theorem Sys.V0(h:Sys w G p F n):F.S.ok:=by obtain⟨Gd,Ga,Gs,hr,hd,ha,hs,_⟩:=h;exact hs.1
theorem Sys.fits(h:Sys w G p F n):Fits F.D n:=by obtain⟨Gd,Ga,Gs,hr,hd,_⟩:=h;exact hd.fits
theorem Sys.buf(h:Sys w G p F n){q:Nat×Nat}(hq:q∈F.A.st):Hf w q.1∧¬G q.1:=by obtain⟨Gd,Ga,Gs,hr,hd,ha,hs,hG,_,_,_,hb⟩:=h;exact⟨ha.buf hq,hb q hq⟩
theorem Sys.Cc{R:Nat→Prop}(h:Sys w G p F n)(hf:AL R w w')(hG:∀k,G k→¬R k)(hB:∀q∈F.A.st,¬R q.1):Sys w' G p F n:=by
 obtain⟨Gd,Ga,Gs,hr,hd,ha,hs,hg,h1,h2,h3,h4⟩:=h
 exact⟨Gd,Ga,Gs,hf.row hr (hG _ ((hg _).2 (.inl rfl))),hd.Cc hf fun k hk=>hG k ((hg k).2 (.inr (.inl hk))),ha.Cc hf (fun k hk=>hG k ((hg k).2 (.inr (.inr (.inl hk))))) hB,hs.Cc hf fun k hk=>hG k ((hg k).2 (.inr (.inr (.inr hk)))),hg,h1,h2,h3,h4⟩
theorem Sys.below(h:Sys w G p F n)(hb:Below w.heap.size w w'):Sys w' G p F n:=h.Cc (AL.AJ hb fun _=>False) (fun _ _ hf=>hf) fun _ _ hf=>hf
theorem Sys.mono{n':Nat}(h:Sys w G p F n)(hn:n≤n')(h6:n'≤1000000):Sys w G p F n':=by
 obtain⟨Gd,Ga,Gs,hr,hd,r⟩:=h;exact⟨Gd,Ga,Gs,hr,hd.mono hn h6,r⟩
theorem AR.AJ(h:Sys w G p F n)(hb:Below w.heap.size w w'):AR w G p F n w':=⟨G,h.below hb,AL.AJ hb G,fun _ hk=>.inl hk⟩
theorem AR.refl(h:Sys w G p F n):AR w G p F n w:=AR.AJ h (Below.refl _ _)
theorem AR.behind{w1:World}(hb:Below w.heap.size w w1)(h:AR w1 G p F n w'):AR w G p F n w':=by
 obtain⟨G',h1,h2,h3⟩:=h
 exact⟨G',h1,(AL.AJ hb G).trans h2 fun b hb'=>.inl hb',fun k hk=>(h3 k hk).imp id fun h=>Nat.le_trans hb.size h⟩
theorem AR.ahead{w1:World}(h:AR w G p F n w1)(hb:Below w1.heap.size w1 w'):AR w G p F n w':=by
 obtain⟨G',h1,h2,h3⟩:=h
 exact⟨G',h1.below hb,h2.trans (AL.AJ hb fun _=>False) fun _ hf=>hf.elim,h3⟩
theorem AR.mono{n':Nat}(h:AR w G p F n w')(hn:n≤n')(h6:n'≤1000000):AR w G p F n' w':=by
 obtain⟨G',h1,h2⟩:=h;exact⟨G',h1.mono hn h6,h2⟩
theorem AR.apart(h:AR w G p F n w'):∃G',Sys w' G' p F n∧AL G w w'∧(∀k,G' k→G k∨w.heap.size≤k)∧∀k,k<w.heap.size→¬G k→¬G' k:=by
 obtain⟨G',h1,h2,h3⟩:=h
 exact⟨G',h1,h2,h3,fun k hk hn hg=>(h3 k hg).elim hn fun h=>by omega⟩
theorem Sys.dev(h:Sys w G p F n):∃Gd,IY w Gd p.d F.D n∧∀w' D' n',(∃vR,IY w' vR p.d D' n'∧AL Gd w w'∧∀k,vR k→Gd k∨w.heap.size≤k)→AR w G p {F with D:=D'} n' w':=by
 have hlt:=fun k hk=>h.lt (k:=k) hk
 obtain⟨Gd,Ga,Gs,hr,hd,ha,hs,hg,h1,h2,h3,h4⟩:=h
 refine⟨Gd,hd,fun w' D' n' ⟨vR,k1,k2,k3⟩=>⟨fun k=>k=p.w∨vR k∨Ga k∨Gs k,⟨vR,Ga,Gs,?_,k1,?_,?_,fun k=>Iff.rfl,?_,h2,h3,?_⟩,k2.mono fun k hk=>(hg k).2 (.inr (.inl hk)),?_⟩⟩
 ·exact k2.row hr fun hk=>(h1 _ hk).2.2 rfl
 ·exact ha.Cc k2 (fun k hk Fe=>(h1 k Fe).1 hk) fun q hq hk=>h4 q hq ((hg _).2 (.inr (.inl hk)))
 ·exact hs.Cc k2 fun k hk Fe=>(h1 k Fe).2.1 hk
 ·intro k hk
  rcases k3 k hk with h5|h5
  ·exact h1 k h5
  ·refine⟨fun h6=>?_,fun h6=>?_,fun h6=>?_⟩
   ·have:=hlt k ((hg k).2 (.inr (.inr (.inl h6))));omega
   ·have:=hlt k ((hg k).2 (.inr (.inr (.inr h6))));omega
   ·have:=hr.lt;omega
 ·intro q hq hk
  rcases hk with h5|h5|h5|h5
  ·exact h4 q hq ((hg _).2 (.inl h5))
  ·rcases k3 _ h5 with h6|h6
   ·exact h4 q hq ((hg _).2 (.inr (.inl h6)))
   ·have:=(ha.buf hq).lt;omega
  ·exact h4 q hq ((hg _).2 (.inr (.inr (.inl h5))))
  ·exact h4 q hq ((hg _).2 (.inr (.inr (.inr h5))))
 ·rintro k (h5|h5|h5|h5)
  ·exact .inl ((hg k).2 (.inl h5))
  ·exact(k3 k h5).imp_left fun h6=>(hg k).2 (.inr (.inl h6))
  ·exact .inl ((hg k).2 (.inr (.inr (.inl h5))))
  ·exact .inl ((hg k).2 (.inr (.inr (.inr h5))))
theorem Sys.pX(h:Sys w G p F n):∃Gs,Es w Gs p.s F.S∧∀w' S',Next w Gs p.s S' w'→AR w G p {F with S:=S'} n w':=by
 have hlt:=fun k hk=>h.lt (k:=k) hk
 obtain⟨Gd,Ga,Gs,hr,hd,ha,hs,hg,h1,h2,h3,h4⟩:=h
 refine⟨Gs,hs,fun w' S' ⟨Gs',k1,k2,k3⟩=>⟨fun k=>k=p.w∨Gd k∨Ga k∨Gs' k,⟨Gd,Ga,Gs',?_,?_,?_,k1,fun k=>Iff.rfl,?_,?_,?_,?_⟩,k2.mono fun k hk=>(hg k).2 (.inr (.inr (.inr hk))),?_⟩⟩
 ·exact k2.row hr fun hk=>h3 _ hk rfl
 ·exact hd.Cc k2 fun k hk Fe=>(h1 k hk).2.1 Fe
 ·exact ha.Cc k2 (fun k hk Fe=>(h2 k hk).1 Fe) fun q hq hk=>h4 q hq ((hg _).2 (.inr (.inr (.inr hk))))
 ·intro k hk
  refine⟨(h1 k hk).1,fun h6=>?_,(h1 k hk).2.2⟩
  rcases k3 k h6 with h7|h7
  ·exact(h1 k hk).2.1 h7
  ·have:=hd.lt hk;omega
 ·intro k hk
  refine⟨fun h6=>?_,(h2 k hk).2⟩
  rcases k3 k h6 with h7|h7
  ·exact(h2 k hk).1 h7
  ·have:=ha.lt hk;omega
 ·intro k hk e
  rcases k3 k hk with h7|h7
  ·exact h3 k h7 e
  ·have:=hr.lt;omega
 ·intro q hq hk
  rcases hk with h5|h5|h5|h5
  ·exact h4 q hq ((hg _).2 (.inl h5))
  ·exact h4 q hq ((hg _).2 (.inr (.inl h5)))
  ·exact h4 q hq ((hg _).2 (.inr (.inr (.inl h5))))
  ·rcases k3 _ h5 with h6|h6
   ·exact h4 q hq ((hg _).2 (.inr (.inr (.inr h6))))
   ·have:=(ha.buf hq).lt;omega
 ·rintro k (h5|h5|h5|h5)
  ·exact .inl ((hg k).2 (.inl h5))
  ·exact .inl ((hg k).2 (.inr (.inl h5)))
  ·exact .inl ((hg k).2 (.inr (.inr (.inl h5))))
  ·exact(k3 k h5).imp_left fun h6=>(hg k).2 (.inr (.inr (.inr h6)))
theorem Sys.uA(h:Sys w G p F n):∃Ga,FO w Ga p.a F.A∧
  (∀w' b g m,(∃Y3,FO w' Y3 p.a (Bv F.A b m)∧Row w' b 126 [.slice (some ⟨g,0,none⟩) m m]∧Row w' g 127 (List.replicate m (.int .u64 0))∧w.heap.size≤b∧w.heap.size≤g∧b≠g∧¬Y3 b∧¬Y3 g∧AL Ga w w'∧∀k,Y3 k→Ga k∨w.heap.size≤k)→
   ∃G',Sys w' G' p {F with A:=Bv F.A b m} n∧AL G w w'∧(∀k,G' k→G k∨w.heap.size≤k)∧¬G' b∧¬G' g)∧
  (∀w' b m,FO w' Ga p.a (release F.A b m)→AL (fun k=>Ga k∨k=b) w w'→¬G b→Sys w' G p {F with A:=release F.A b m} n∧AL (fun k=>G k∨k=b) w w'):=by
 have hlt:=fun k hk=>h.lt (k:=k) hk
 obtain⟨Gd,Ga,Gs,hr,hd,ha,hs,hg,h1,h2,h3,h4⟩:=h
 refine⟨Ga,ha,fun w' b g m ⟨Y3,k1,kb,kg,lb,lg,Ry,nb,ng,k2,k3⟩=>?_,fun w' b m k1 k2 nb=>?_⟩
 ·have FI:∀x,w.heap.size≤x→¬Y3 x→¬(x=p.w∨Gd x∨Y3 x∨Gs x):=by
   rintro x hx hn (h5|h5|h5|h5)
   ·have:=hr.lt;omega
   ·have:=hd.lt h5;omega
   ·exact hn h5
   ·have:=hs.lt h5;omega
  refine⟨fun k=>k=p.w∨Gd k∨Y3 k∨Gs k,⟨Gd,Y3,Gs,?_,?_,k1,?_,fun k=>Iff.rfl,?_,?_,h3,?_⟩,k2.mono fun k hk=>(hg k).2 (.inr (.inr (.inl hk))),?_,FI b lb nb,FI g lg ng⟩
  ·exact k2.row hr fun hk=>(h2 _ hk).2 rfl
  ·exact hd.Cc k2 fun k hk Fe=>(h1 k hk).1 Fe
  ·exact hs.Cc k2 fun k hk Fe=>(h2 k Fe).1 hk
  ·intro k hk
   refine⟨fun h6=>?_,(h1 k hk).2⟩
   rcases k3 k h6 with h7|h7
   ·exact(h1 k hk).1 h7
   ·have:=hd.lt hk;omega
  ·intro k hk
   rcases k3 k hk with h7|h7
   ·exact h2 k h7
   ·refine⟨fun h6=>?_,fun h6=>?_⟩
    ·have:=hs.lt h6;omega
    ·have:=hr.lt;omega
  ·intro q hq hk
   have bO:q∈F.A.st++[(b,m)]:=hq
   rcases List.mem_append.1 bO with h5|h5
   ·rcases hk with h6|h6|h6|h6
    ·exact h4 q h5 ((hg _).2 (.inl h6))
    ·exact h4 q h5 ((hg _).2 (.inr (.inl h6)))
    ·rcases k3 _ h6 with h7|h7
     ·exact h4 q h5 ((hg _).2 (.inr (.inr (.inl h7))))
     ·have:=(ha.buf h5).lt;omega
    ·exact h4 q h5 ((hg _).2 (.inr (.inr (.inr h6))))
   ·simp only[List.mem_singleton]at h5
    subst h5
    exact FI b lb nb hk
  ·rintro k (h5|h5|h5|h5)
   ·exact .inl ((hg k).2 (.inl h5))
   ·exact .inl ((hg k).2 (.inr (.inl h5)))
   ·exact(k3 k h5).imp_left fun h6=>(hg k).2 (.inr (.inr (.inl h6)))
   ·exact .inl ((hg k).2 (.inr (.inr (.inr h5))))
 ·refine⟨⟨Gd,Ga,Gs,?_,?_,k1,?_,hg,h1,h2,h3,fun q hq=>h4 q (De _ _ _ hq)⟩,k2.mono fun k hk=>hk.imp_left fun h5=>(hg k).2 (.inr (.inr (.inl h5)))⟩
  ·refine k2.row hr ?_
   rintro(hk|hk)
   ·exact(h2 _ hk).2 rfl
   ·exact nb ((hg _).2 (.inl hk.symm))
  ·refine hd.Cc k2 ?_
   rintro k hk (Fe|Fe)
   ·exact(h1 k hk).1 Fe
   ·subst Fe;exact nb ((hg _).2 (.inr (.inl hk)))
  ·refine hs.Cc k2 ?_
   rintro k hk (Fe|Fe)
   ·exact(h2 k Fe).1 hk
   ·subst Fe;exact nb ((hg _).2 (.inr (.inr (.inr hk))))
theorem Sys.Dm(h:Sys w G p F n):Calls Tryz.prog 44 #[ptr p.d] w fun e w'=>e=.returned (.int .i64 (F.D.size:Int))∧w'=w:=by
 obtain⟨Gd,Ga,Gs,hr,hd,_⟩:=h
 obtain⟨bl,bf,v,nl,hr,_⟩:=hd.2
 exact Zt p.d F.D bl bf v w hr
theorem Sys.Sq(h:Sys w G p F n):Calls Tryz.prog 43 #[ptr p.a] w fun e w'=>e=.returned (.int .i64 ((F.A.room-F.A.used:Nat):Int))∧w'=w:=by
 obtain⟨Gd,Ga,Gs,hr,hd,ha,_⟩:=h
 obtain⟨h0,⟨m,hr,_⟩,_⟩:=id ha
 exact J7 p.a F.A m w hr h0
theorem Sys.Za(h:Sys w G p F n):Calls Tryz.prog 21 #[ptr p.a] w fun e w'=>e=.returned (.int .i64 (F.A.used:Int))∧w'=w:=by
 obtain⟨Gd,Ga,Gs,hr,hd,ha,_⟩:=h
 obtain⟨h0,⟨m,hr,_⟩,_⟩:=id ha
 exact OX p.a F.A m w hr
theorem Sys.Sg(h:Sys w G p F n):Calls Tryz.prog 35 #[ptr p.a] w fun e w'=>e=.returned (.int .i64 (F.A.CF:Int))∧w'=w:=by
 obtain⟨Gd,Ga,Gs,hr,hd,ha,_⟩:=h
 obtain⟨h0,⟨m,hr,_⟩,_⟩:=id ha
 exact VY p.a F.A m w hr
end
section
variable {w : World} {p : Wp}
theorem ZP(h:Row w p.w 70 [ptr p.d,ptr p.a,ptr p.s]):Calls Tryz.prog 18 #[.pointer (some ⟨p.w,0,none⟩)] w fun e w'=>e=.returned (.pointer (some ⟨p.d,0,none⟩))∧w'=w:=by
 have c0:w.cell? ⟨p.w,0,none⟩=some (.pointer (some ⟨p.d,0,none⟩)):=h.cell 0
 go_enter Tryz.func18,Tryz.ntmps18
 go_wp2
 go_ret
 exact⟨rfl,rfl⟩
theorem ZZ(h:Row w p.w 70 [ptr p.d,ptr p.a,ptr p.s]):Calls Tryz.prog 13 #[.pointer (some ⟨p.w,0,none⟩)] w fun e w'=>e=.returned (.pointer (some ⟨p.a,0,none⟩))∧w'=w:=by
 have c0:w.cell? ⟨p.w,1,none⟩=some (.pointer (some ⟨p.a,0,none⟩)):=h.cell 1
 go_enter Tryz.func13,Tryz.ntmps13
 go_wp2
 go_ret
 exact⟨rfl,rfl⟩
theorem ZL(h:Row w p.w 70 [ptr p.d,ptr p.a,ptr p.s]):Calls Tryz.prog 16 #[.pointer (some ⟨p.w,0,none⟩)] w fun e w'=>e=.returned (.pointer (some ⟨p.s,0,none⟩))∧w'=w:=by
 have c0:w.cell? ⟨p.w,2,none⟩=some (.pointer (some ⟨p.s,0,none⟩)):=h.cell 2
 go_enter Tryz.func16,Tryz.ntmps16
 go_wp2
 go_ret
 exact⟨rfl,rfl⟩
end
theorem TZ(d a s:Nat)(w:World):Calls Tryz.prog 30 #[.pointer (some ⟨d,0,none⟩),.pointer (some ⟨a,0,none⟩),.pointer (some ⟨s,0,none⟩)] w fun e w'=>e=.returned (.pointer (some ⟨w.heap.size,0,none⟩))∧w'=w.alloc (.cells #[ptr d,ptr a,ptr s] 70):=by
 go_enter Tryz.func30,Tryz.ntmps30
 go_wp2
 go_ret
 exact⟨rfl,rfl⟩
theorem EY(size:Nat)(width:Int):AH size width≤size-2:=by
 unfold AH;split
 ·exact Nat.zero_le _
 ·exact Nat.div_le_self _ _
theorem WK{w:World}{G:Nat→Prop}{p:Wp}{F:Fs}{n:Nat}(h:Sys w G p F n)(width:Int):Calls Tryz.prog 72 #[.pointer (some ⟨p.w,0,none⟩),.int .i64 width] w fun e w'=>e=.returned (.int .i64 (AH F.D.size width:Nat))∧w'=w:=by
 by_cases h1:width<1
 ·have g1:decide (width<1)=true:=by simpa using h1
  have e0:AH F.D.size width=0:=by unfold AH;rw[if_pos (.inl h1)]
  rw[e0]
  go_enter Tryz.func72,Tryz.ntmps72
  go_wp2
  go_ret
  exact⟨rfl,rfl⟩
 have g1:decide (width<1)=false:=by simpa using h1
 by_cases h2:width>5
 ·have g2:decide (width>5)=true:=by simpa using h2
  have e0:AH F.D.size width=0:=by unfold AH;rw[if_pos (.inr h2)]
  rw[e0]
  clear h1
  go_enter Tryz.func72,Tryz.ntmps72
  go_wp2
  go_ret
  exact⟨rfl,rfl⟩
 have g2:decide (width>5)=false:=by simpa using h2
 have e0:AH F.D.size width=(F.D.size-2)/width.toNat:=by unfold AH;rw[if_neg (by omega)]
 obtain⟨k,rfl⟩:∃k:Nat,width=(k:Int):=⟨width.toNat,by omega⟩
 rw[Int.toNat_natCast]at e0
 have hsz:=h.size
 have c0:w.cell? ⟨p.w,0,none⟩=some (.pointer (some ⟨p.d,0,none⟩)):=h.row.cell 0
 have hs:=h.Dm
 rw[e0]
 obtain⟨m,hm⟩:∃m,m=F.D.size-2:=⟨_,rfl⟩
 have Fc:(F.D.size:Int)-2=(m:Int):=by omega
 have TN:6≤m∧m≤254:=by omega
 have hq:Int.tdiv (m:Int) (k:Int)=((m/k:Nat):Int):=rfl
 have PF:¬((k:Int)=0):=by omega
 have Ov:m/k≤m:=Nat.div_le_self _ _
 rw[←hm]
 have HS:=Lib.hid hs
 have AE9:(if m<0 then (0:Int)else (m:Int))=(m:Int):=by simp
 clear hs hm e0 h h1 h2
 generalize m/k=q at*
 go_enter Tryz.func72,Tryz.ntmps72
 go_wp2_with fail
 refine HS.out.mono ?_;rintro e w1 ⟨rfl,rfl⟩
 go_wp2
 go_ret
 exact⟨rfl,rfl⟩
theorem FR{w:World}{G:Nat→Prop}{p:Wp}{F:Fs}{n:Nat}(h:Sys w G p F n)(width:Int):Calls Tryz.prog 60 #[.pointer (some ⟨p.w,0,none⟩),.int .i64 width] w fun e w'=>e=.returned (.agg #[.int .i64 width,.int .i64 (AH F.D.size width:Nat)])∧Below w.heap.size w w':=by
 have HH:Hid (Calls Tryz.prog 72 #[.pointer (some ⟨p.w,0,none⟩),.int .i64 width] (w.alloc (.cells #[.int .i64 0,.int .i64 0] 113)) fun e w'=>e=.returned (.int .i64 (AH F.D.size width:Nat))∧w'=w.alloc (.cells #[.int .i64 0,.int .i64 0] 113)):=WK (h.below ((Below.refl _ w).alloc (Nat.le_refl _) _)) width
 have HB:Hid (Below w.heap.size w (w.alloc (.cells #[.int .i64 0,.int .i64 0] 113))):=(Below.refl _ w).alloc (Nat.le_refl _) _
 generalize AH F.D.size width=q at*
 clear h
 go_enter Tryz.func60,Tryz.ntmps60
 go_wp2_with fail
 refine HH.out.mono ?_;rintro e w1 ⟨rfl,rfl⟩
 go_wp2
 have Bt:Below w.heap.size w (w.alloc (.cells #[.int .i64 width,.int .i64 (q:Int)] 113)):=(Below.refl _ w).alloc (Nat.le_refl _) _
 refine bodyPost_ret (v:=.agg #[.int .i64 width,.int .i64 (q:Int)]) ?_ rfl ⟨rfl,Bt⟩
 have hr:Row (w.alloc (.cells #[.int .i64 width,.int .i64 (q:Int)] 113)) w.heap.size 113 [.int .i64 width,.int .i64 (q:Int)]:=heap_alloc_new _ _
 have r0:=hr.cell 0
 have r1:=hr.cell 1
 simp[results,Tryz.results60,go_sem,r0,r1]
theorem Fk(k h c:Nat)(w:World)(hh:0<h)(E5:h≤254)(hc:c≤100000000):Calls Tryz.prog 62 #[.agg #[.int .i64 k,.int .i64 h],.int .i64 c] w fun e w'=>e=.returned (.int .i64 (AA h c:Nat))∧Below w.heap.size w w':=by
 have HB:=Lib.hid ((Below.refl w.heap.size w).alloc (Nat.le_refl _) (.cells #[.int .i64 k,.int .i64 h] 113))
 have hq:Int.tdiv (c:Int) (h:Int)=((c/h:Nat):Int):=rfl
 have ht:Int.tmod (c:Int) (h:Int)=((c%h:Nat):Int):=rfl
 have DQ:¬((h:Int)=0):=by omega
 have Ov:c/h≤c:=Nat.div_le_self _ _
 have Ll:c%h<h:=Nat.mod_lt _ hh
 by_cases hm:0<c%h
 ·have HE:Hid (AA h c=c/h+1):=by unfold Hid AA;rw[if_pos hm]
  rw[HE.out]
  have g1:decide (((c%h:Nat):Int)>0)=true:=by simp;omega
  clear HE hh
  generalize c/h=q at*
  generalize c%h=m at*
  go_enter Tryz.func62,Tryz.ntmps62
  go_wp2
  go_ret
  exact⟨by rfl,HB.out⟩
 ·have HE:Hid (AA h c=c/h):=by unfold Hid AA;rw[if_neg hm]
  rw[HE.out]
  have g1:decide (((c%h:Nat):Int)>0)=false:=by simp;omega
  clear HE hh
  generalize c/h=q at*
  generalize c%h=m at*
  go_enter Tryz.func62,Tryz.ntmps62
  go_wp2
  go_ret
  exact⟨rfl,HB.out⟩
theorem NF(k h j c:Nat)(w:World)(hk:k≤5)(E5:h≤254)(hc:c≤100000000)(hj:j*h≤c):Calls Tryz.prog 87 #[.agg #[.int .i64 k,.int .i64 h],.int .i64 j,.int .i64 c] w fun e w'=>e=.returned (.int .i64 (min h (c-j*h)*k:Nat))∧Below w.heap.size w w':=by
 have HB:=Lib.hid ((Below.refl w.heap.size w).alloc (Nat.le_refl _) (.cells #[.int .i64 k,.int .i64 h] 113))
 obtain⟨jh,eJ⟩:∃jh,jh=j*h:=⟨_,rfl⟩
 have hmul:(j:Int)*(h:Int)=(jh:Int):=by rw[eJ];exact(Int.natCast_mul j h).symm
 rw[←eJ]at hj⊢
 obtain⟨d,hd⟩:∃d,d=c-jh:=⟨_,rfl⟩
 have Fc:(c:Int)-(jh:Int)=(d:Int):=by omega
 rw[←hd]
 obtain⟨lo,hlo⟩:∃lo,lo=min h d:=⟨_,rfl⟩
 have Ir:(if d<h then (d:Int)else (h:Int))=(lo:Int):=by rw[hlo];split<;>omega
 have AC6:(if h<d then (h:Int)else (d:Int))=(lo:Int):=by rw[hlo];split<;>omega
 have nJ:lo≤254:=by omega
 rw[←hlo]
 obtain⟨m,hm⟩:∃m,m=lo*k:=⟨_,rfl⟩
 have sU:(lo:Int)*(k:Int)=(m:Int):=by rw[hm];exact(Int.natCast_mul lo k).symm
 have hm2:m≤1270:=by rw[hm];exact Nat.mul_le_mul nJ hk
 rw[←hm]
 have nP:jh≤100000000:=by omega
 have hdb:d≤100000000:=by omega
 clear hm hlo hd eJ hj
 go_enter Tryz.func87,Tryz.ntmps87
 go_wp2
 go_ret
 exact⟨rfl,HB.out⟩
theorem RC(k h i g n:Nat)(w:World)(PF:0<k)(hk:k≤5)(hh:0<h)(E5:h≤254)(_hi:i≤100000000)(hn:i%h*k+k≤n)(TM:n≤256):Calls Tryz.prog 68 #[.agg #[.int .i64 k,.int .i64 h],.slice (some ⟨g,0,none⟩) n n,.int .i64 i] w fun e w'=>e=.returned (.slice (some ⟨g,i%h*k,none⟩) k (n-i%h*k))∧Below w.heap.size w w':=by
 have Am:=(Below.refl w.heap.size w).alloc (Nat.le_refl _) (.cells #[.int .i64 k,.int .i64 h] 113)
 have HB:=Lib.hid Am
 have hr:Row (w.alloc (.cells #[.int .i64 k,.int .i64 h] 113)) w.heap.size 113 [.int .i64 k,.int .i64 h]:=heap_alloc_new _ _
 have c0:(w.alloc (.cells #[.int .i64 k,.int .i64 h] 113)).cell? ⟨w.heap.size,0,none⟩=some (.int .i64 k):=hr.cell 0
 have c1:(w.alloc (.cells #[.int .i64 k,.int .i64 h] 113)).cell? ⟨w.heap.size,1,none⟩=some (.int .i64 h):=hr.cell 1
 have ht:Int.tmod (i:Int) (h:Int)=((i%h:Nat):Int):=rfl
 have DQ:¬((h:Int)=0):=by omega
 have Ll:i%h<h:=Nat.mod_lt _ hh
 obtain⟨m,hm⟩:∃m,m=i%h:=⟨_,rfl⟩
 rw[←hm]at ht Ll hn⊢
 obtain⟨a,ha⟩:∃a,a=m*k:=⟨_,rfl⟩
 have hmul:(m:Int)*(k:Int)=(a:Int):=by rw[ha];exact(Int.natCast_mul m k).symm
 rw[←ha]at hn⊢
 obtain⟨u,hu⟩:∃u,u=a+k:=⟨_,rfl⟩
 have Ls:(a:Int)+(k:Int)=(u:Int):=by omega
 have rO:u-a=k:=by omega
 have hcut:=fun W=>GA (P:=Tryz.prog) W 123 127 _ Tryz.underlying123 (info_parts MD).choose_spec.1 (info_parts MD).choose_spec.2.2.1 (some ⟨g,0,none⟩) n n a u (by omega) (by omega) .i64 .i64 (a:Int) (u:Int) rfl rfl
 rw[rO,BU (by omega),Nat.zero_add,Nat.mul_one]at hcut
 have Kx:a≤256:=by omega
 have Ew:u≤256:=by omega
 clear hr hm ha hu rO Am hh hn
 go_enter Tryz.func68,Tryz.ntmps68
 go_wp2
 generalize w.alloc (.cells #[.int .i64 k,.int .i64 h] 113)=w1 at*
 go_region
 go_wp2
 go_ret
 exact⟨rfl,AG HB.out⟩
theorem SG{b:Nat}{A:Option Addr}{n c:Nat}{w:World}(h:Row w b 126 [.slice A n c]):Calls Tryz.prog 85 #[.pointer (some ⟨b,0,none⟩)] w fun e w'=>e=.returned (.bool (decide (0<n)))∧w'=w:=by
 have c0:w.cell? ⟨b,0,none⟩=some (.slice A n c):=h.cell 0
 go_enter Tryz.func85,Tryz.ntmps85
 go_wp2
 go_ret
 exact⟨Du (by simp),rfl⟩
theorem MX{P:Program}{w:World}(t e ty:TypeId)(z:Value)(ht:P.underlying t=some (.slice e))(hv:∀w,(zeroValue e).run P w=.ok z w)(hz:z.cells=#[z])(h1:z.oneCell'=true)
  (n c g:Nat) (cur:List Value) (tt:TypeId) (hg:Row w g tt cur) (hfit:n≤cur.length) (hn:0<n):
  ∃w',(Builtin.clear_ #[t] ty #[.slice (some ⟨g,0,none⟩) n c]).run P w=.ok (.tuple #[]) w'∧Row w' g tt (List.replicate n z++cur.drop n)∧AL (fun k=>k=g) w w':=by
 obtain⟨m,rfl⟩:∃m,n=m+1:=⟨n-1,by omega⟩
 have vg:(Builtin.zeroCells z.cells (m+1)).toList=List.replicate (m+1) z:=by
  rw[hz]
  apply List.ext_getElem?
  intro i
  simp[Builtin.zeroCells,List.getElem?_replicate]
  by_cases hi:i<m+1<;>simp[hi,Nat.mod_one]
 have hst:=run_storeCells_at P g 0 tt (Builtin.zeroCells z.cells (m+1)).toList 0 cur.toArray w hg (by rw[vg];simpa using hfit) (by rw[vg];intro v hv;rw[List.mem_replicate]at hv;rw[hv.2];exact h1)
 simp only[Nat.add_zero]at hst
 rw[vg]at hst
 refine⟨_,?_,setRow_heap w g cur.toArray _ tt (0,0) hg,AL.setRow w g _⟩
 simp[Builtin.clear_,run_underlying ht,hv,vg,hst]
theorem ee(w:World):(zeroValue 2).run Tryz.prog w=.ok (.int .i64 0) w:=by kernel_rfl
theorem cU(w:World)(a b c d e a' b' c' d' e':Int):(binOp .eql 63 (.agg #[.int .i64 a,.int .i64 b,.int .i64 c,.int .i64 d,.int .i64 e]) (.agg #[.int .i64 a',.int .i64 b',.int .i64 c',.int .i64 d',.int .i64 e'])).run Tryz.prog w=.ok (.bool (a==a'&&(b==b'&&(c==c'&&(d==d'&&e==e'))))) w:=by
 obtain⟨i0,hi⟩:∃i,Tryz.prog.info? 2=some i:=by
  rcases h:Tryz.prog.info? 2 with _|i
  ·have:(Tryz.prog.info? 2).isSome=true:=by kernel_rfl
   rw[h]at this;cases this
  ·exact⟨i,rfl⟩
 have Hh:Tryz.prog.cellsOf 2=1:=by kernel_rfl
 have p0:∀(a b c d e:Int) w,(part 2 #[.int .i64 a,.int .i64 b,.int .i64 c,.int .i64 d,.int .i64 e] 0).run Tryz.prog w=.ok (.int .i64 a) w:=fun a b c d e w=>run_part_plain (P:=Tryz.prog) w (by kernel_rfl) rfl
 have p1:∀(a b c d e:Int) w,(part 2 #[.int .i64 a,.int .i64 b,.int .i64 c,.int .i64 d,.int .i64 e] 1).run Tryz.prog w=.ok (.int .i64 b) w:=fun a b c d e w=>run_part_plain (P:=Tryz.prog) w (by kernel_rfl) rfl
 have p2:∀(a b c d e:Int) w,(part 2 #[.int .i64 a,.int .i64 b,.int .i64 c,.int .i64 d,.int .i64 e] 2).run Tryz.prog w=.ok (.int .i64 c) w:=fun a b c d e w=>run_part_plain (P:=Tryz.prog) w (by kernel_rfl) rfl
 have p3:∀(a b c d e:Int) w,(part 2 #[.int .i64 a,.int .i64 b,.int .i64 c,.int .i64 d,.int .i64 e] 3).run Tryz.prog w=.ok (.int .i64 d) w:=fun a b c d e w=>run_part_plain (P:=Tryz.prog) w (by kernel_rfl) rfl
 have p4:∀(a b c d e:Int) w,(part 2 #[.int .i64 a,.int .i64 b,.int .i64 c,.int .i64 d,.int .i64 e] 4).run Tryz.prog w=.ok (.int .i64 e) w:=fun a b c d e w=>run_part_plain (P:=Tryz.prog) w (by kernel_rfl) rfl
 rw[run_eql_struct,show (10000:Nat)=9998+1+1 from rfl,run_equalIn_array w (9998+1) _ _ Tryz.underlying63 hi,Hh]
 have q:=fun(a b:Int) (w:World)=>run_equalIn_int (P:=Tryz.prog) w 9998 2 .i64 .i64 a b Tryz.underlying2
 have q':∀(a b:Int) (w:World),(Op.equalIn 9999 2 (.int .i64 a) (.int .i64 b)).run Tryz.prog w=.ok (a==b) w:=q
 simp only[Op.eqItems,List.range,List.range.loop,Sem.run_bind,Nat.mul_one,p0,Result.andThen_ok,q]
 by_cases h1:a=a'<;>by_cases h2:b=b'<;>by_cases h3:c=c'<;>by_cases h4:d=d'<;>by_cases h5:e=e'<;>simp[h1,h2,h3,h4,h5,p1,p2,p3,p4,q']
theorem QC(w:World)(op:BinOp)(x y:Operand)(xs ys:Array Value):(eqGuard op 63 x y (.agg xs) (.agg ys)).run Tryz.prog w=.ok () w:=
 run_eqGuard_agg w op 63 x y _ _ (by kernel_rfl)
def JM(t:AB):Value:=.agg #[.int .i64 t.a,.int .i64 t.b,.int .i64 t.c,.int .i64 t.d,.int .i64 t.e]
theorem NJ(t:AB)(k:Nat)(w:World)(PF:0<k)(hk:k≤5):Calls Tryz.prog 67 #[.agg #[.int .i64 t.a,.int .i64 t.b,.int .i64 t.c,.int .i64 t.d,.int .i64 t.e],.int .i64 k] w fun e w'=>e=.returned (.bool (Af k t))∧Below w.heap.size w w':=by
 obtain⟨a,b,c,d,e⟩:=t
 have hr:Row (w.alloc (.cells #[.int .i64 a,.int .i64 b,.int .i64 c,.int .i64 d,.int .i64 e] 63)) w.heap.size 63 [.int .i64 a,.int .i64 b,.int .i64 c,.int .i64 d,.int .i64 e]:=heap_alloc_new _ _
 obtain⟨w2,D9,Av,Di⟩:=MX (P:=Tryz.prog) 146 2 0 (.int .i64 0) Tryz.underlying146 ee rfl rfl k 5 w.heap.size _ 63 hr (by simpa using hk) PF
 have LB:=Lib.hid Av
 have Bt:=Lib.hid (((Below.refl w.heap.size w).alloc (Nat.le_refl _) (.cells #[.int .i64 a,.int .i64 b,.int .i64 c,.int .i64 d,.int .i64 e] 63)).trans (Di.below (B:=w.heap.size) (by simp) (fun b hb=>by rw[hb];exact Nat.le_refl _)))
 have Pw:∀W,(Instr.sliceAt 63 (.pointer (some ⟨w.heap.size,0,none⟩)) none (some (.int .i64 (k:Int))) none).run Tryz.prog W=.ok (.slice (some ⟨w.heap.size,0,none⟩) k 5) W:=fun W=>by
  have qJ:Tryz.prog.arrayLen 63=5:=by kernel_rfl
  have hel:Tryz.prog.elem 63=2:=by kernel_rfl
  obtain⟨i0,hi⟩:∃i,Tryz.prog.info? 2=some i:=by
   rcases h:Tryz.prog.info? 2 with _|i
   ·have:(Tryz.prog.info? 2).isSome=true:=by kernel_rfl
    rw[h]at this;cases this
   ·exact⟨i,rfl⟩
  rw[run_sliceAt_array_h W 63 ⟨w.heap.size,0,none⟩ (by rw[qJ,hel];exact Tryz.underlying63) .i64 (k:Int) (by omega) (by rw[qJ];omega),qJ,hel]
  simp[sizeOf,typeInfo,hi,slicedAt,Addr.add]
 have hq:=fun W a b c d e=>cU W a b c d e 0 0 0 0 0
 have hg:=QC
 have Ou:∀(i:Nat) (x:Int),i<5→[a,b,c,d,e][i]?=some x→w2.cell? ⟨w.heap.size,i,none⟩=some (.int .i64 (if i<k then 0 else x)):=fun i x hi hx=>by
  rw[LB.out.cell i]
  by_cases U6:i<k
  ·rw[List.getElem?_append_left (by simpa using U6),if_pos U6];simp[U6]
  ·rw[List.getElem?_append_right (by simpa using U6),if_neg U6,List.length_replicate,List.getElem?_drop,show k+(i-k)=i by omega]
   match i,hi,hx with
   |0,_,hx=>simp at hx;simp[hx]
   |1,_,hx=>simp at hx;simp[hx]
   |2,_,hx=>simp at hx;simp[hx]
   |3,_,hx=>simp at hx;simp[hx]
   |4,_,hx=>simp at hx;simp[hx]
 obtain⟨z0,By⟩:∃z,z=if 0<k then 0 else a:=⟨_,rfl⟩
 obtain⟨z1,B3⟩:∃z,z=if 1<k then 0 else b:=⟨_,rfl⟩
 obtain⟨z2,EX⟩:∃z,z=if 2<k then 0 else c:=⟨_,rfl⟩
 obtain⟨z3,YD⟩:∃z,z=if 3<k then 0 else d:=⟨_,rfl⟩
 obtain⟨z4,pg⟩:∃z,z=if 4<k then 0 else e:=⟨_,rfl⟩
 have c0:=Ou 0 a (by omega) rfl
 have c1:=Ou 1 b (by omega) rfl
 have c2:=Ou 2 c (by omega) rfl
 have c3:=Ou 3 d (by omega) rfl
 have c4:=Ou 4 e (by omega) rfl
 rw[←By]at c0;rw[←B3]at c1;rw[←EX]at c2;rw[←YD]at c3;rw[←pg]at c4
 have HE:Hid ((z0==0&&(z1==0&&(z2==0&&(z3==0&&z4==0))))=Af k ⟨a,b,c,d,e⟩):=by
  unfold Hid
  rw[By,B3,EX,YD,pg]
  match k,PF,hk with
  |1,_,_=>simp[Af,AB.Bb]
  |2,_,_=>simp[Af,AB.Bb]
  |3,_,_=>simp[Af,AB.Bb]
  |4,_,_=>simp[Af,AB.Bb]
  |5,_,_=>simp[Af,AB.Bb]
 rw[←HE.out]
 clear Av Di hr Ou LB By B3 EX YD pg HE
 go_enter Tryz.func67,Tryz.ntmps67
 go_wp2
 go_ret
 exact⟨Du (by simp),Bt.out⟩
instance tupDec : DecidableEq AB := fun a b => decidable_of_iff (a.Bb = b.Bb) ⟨fun h => AB.cT h, fun h => h ▸ rfl⟩
theorem gB(w:World)(a b c d e a' b' c' d' e':Int):(binOp .neq 63 (.agg #[.int .i64 a,.int .i64 b,.int .i64 c,.int .i64 d,.int .i64 e]) (.agg #[.int .i64 a',.int .i64 b',.int .i64 c',.int .i64 d',.int .i64 e'])).run Tryz.prog w=.ok (.bool (!(a==a'&&(b==b'&&(c==c'&&(d==d'&&e==e')))))) w:=by
 have h:=cU w a b c d e a' b' c' d' e'
 rw[run_eql_struct]at h
 rw[run_neq_struct]
 generalize(Op.equalIn 10000 63 (.agg #[.int .i64 a,.int .i64 b,.int .i64 c,.int .i64 d,.int .i64 e]) (.agg #[.int .i64 a',.int .i64 b',.int .i64 c',.int .i64 d',.int .i64 e'])).run Tryz.prog w=R at h⊢
 generalize(a==a'&&(b==b'&&(c==c'&&(d==d'&&e==e'))))=X at h⊢
 cases R with
 |ok b w'=>simp[Result.andThen]at h⊢;obtain⟨rfl,rfl⟩:=h;exact⟨rfl,rfl⟩
 | _=>simp[Result.andThen]at h
theorem lZ(t u:AB):(t.a==u.a&&(t.b==u.b&&(t.c==u.c&&(t.d==u.d&&t.e==u.e))))=decide (t=u):=by
 obtain⟨a,b,c,d,e⟩:=t
 obtain⟨a',b',c',d',e'⟩:=u
 simp only[AB.mk.injEq]
 by_cases h1:a=a'<;>by_cases h2:b=b'<;>by_cases h3:c=c'<;>by_cases h4:d=d'<;>by_cases h5:e=e'<;>simp[h1,h2,h3,h4,h5]
def K3(t:AB)(i:Nat):Int:=if i=0 then t.a else if i=1 then t.b else if i=2 then t.c else if i=3 then t.d else t.e
theorem cO(k:Nat)(t:AB):Af k t=true↔∀i,k≤i→i<5→K3 t i=0:=by
 obtain⟨a,b,c,d,e⟩:=t
 unfold Af AB.Bb
 constructor
 ·intro h i hk hi
  have h1:=List.all_eq_true.1 h
  have hm:([a,b,c,d,e]:List Int)[i]?=some (K3 ⟨a,b,c,d,e⟩ i):=by
   match i,hi with
   |0,_=>rfl
   |1,_=>rfl
   |2,_=>rfl
   |3,_=>rfl
   |4,_=>rfl
   |i+5,hi=>omega
  have h2:([a,b,c,d,e].drop k)[i-k]?=some (K3 ⟨a,b,c,d,e⟩ i):=by rw[List.getElem?_drop,show k+(i-k)=i by omega];exact hm
  simpa using h1 _ (List.mem_of_getElem? h2)
 ·intro h
  rw[List.all_eq_true]
  intro x hx
  obtain⟨j,hj⟩:=List.getElem?_of_mem hx
  rw[List.getElem?_drop]at hj
  have WT:k+j<5:=(List.getElem?_eq_some_iff.1 hj).1
  have h3:=h (k+j) (by omega) WT
  generalize k+j=i at hj WT h3
  match i,WT with
  |0,_=>simp at hj;subst hj;simpa [K3]using h3
  |1,_=>simp at hj;subst hj;simpa [K3]using h3
  |2,_=>simp at hj;subst hj;simpa [K3]using h3
  |3,_=>simp at hj;subst hj;simpa [K3]using h3
  |4,_=>simp at hj;subst hj;simpa [K3]using h3
  |i+5,hi=>omega
theorem aB(t:AB)(k:Nat)(w:World)(_hk:k≤5):Calls Tryz.prog 36 #[.agg #[.int .i64 t.a,.int .i64 t.b,.int .i64 t.c,.int .i64 t.d,.int .i64 t.e],.int .i64 k] w fun e w'=>e=.returned (.bool (Af k t))∧Below w.heap.size w w':=by
 have hr:Row (w.alloc (.cells #[.int .i64 t.a,.int .i64 t.b,.int .i64 t.c,.int .i64 t.d,.int .i64 t.e] 63)) w.heap.size 63 [.int .i64 t.a,.int .i64 t.b,.int .i64 t.c,.int .i64 t.d,.int .i64 t.e]:=heap_alloc_new _ _
 have HR:Hid (∀i,i<5→(w.alloc (.cells #[.int .i64 t.a,.int .i64 t.b,.int .i64 t.c,.int .i64 t.d,.int .i64 t.e] 63)).cell? ⟨w.heap.size,i,none⟩=some (.int .i64 (K3 t i))):=fun i hi=>by
  rw[hr.cell i]
  match i,hi with
  |0,_=>rfl
  |1,_=>rfl
  |2,_=>rfl
  |3,_=>rfl
  |4,_=>rfl
  |i+5,hi=>omega
 have HB:Hid (Below w.heap.size w (w.alloc (.cells #[.int .i64 t.a,.int .i64 t.b,.int .i64 t.c,.int .i64 t.d,.int .i64 t.e] 63))):=(Below.refl w.heap.size w).alloc (Nat.le_refl _) _
 have HF:Hid ((∀i,k≤i→i<5→K3 t i=0)↔Af k t=true):=(cO k t).symm
 generalize Af k t=ft at*
 clear hr
 obtain⟨W,hW⟩:∃W,W=w.alloc (.cells #[.int .i64 t.a,.int .i64 t.b,.int .i64 t.c,.int .i64 t.d,.int .i64 t.e] 63):=⟨_,rfl⟩
 have HW:=Lib.hid hW
 rw[←hW]at HR HB
 clear hW
 go_enter Tryz.func36,Tryz.ntmps36
 go_wp2
 rw[←HW.out]
 go_loopw [5] (fun iv wr=>∃i:Nat,i≤5∧iv=.int .i64 (i:Int)∧wr=W∧Hid (∀j,k≤j→j<i→K3 t j=0)) (fun iv _=>5-(intOf iv).toNat)
 case atStart=>exact⟨0,Nat.zero_le _,rfl,by trivial,fun j _ hj=>absurd hj (Nat.not_lt_zero _)⟩
 case round=>
  obtain⟨i,hi,rfl,rfl,HZ⟩:=hrel
  by_cases hlt:i<5
  ·have hc:=HR.out i hlt
   generalize hz:K3 t i=z at hc
   have HZI:=Lib.hid hz
   clear hz
   have g0:decide ((i:Int)<5)=true:=by simp;omega
   have i0:(0:Int)≤(i:Int):=by omega
   have i5:(i:Int)<5:=by omega
   by_cases hki:k≤i
   ·have g1:decide ((i:Int)≥(k:Int))=true:=by simp;omega
    by_cases By:z=0
    ·have g2:(z !=0)=false:=by simpa using By
     have HZ2:Hid (∀j,k≤j→j<i+1→K3 t j=0):=fun j h1 h2=>by
      by_cases h3:j=i
      ·subst h3;rw[HZI.out];exact By
      ·exact HZ.out j h1 (by omega)
     clear By
     go_wp2
     go_roundw
     case rel=>exact⟨i+1,by omega,by go_num,by trivial,HZ2.out⟩
     case measure=>simp[intOf];omega
    ·have g2:(z !=0)=true:=by simpa using By
     have KM:Hid (ft=false):=by
      unfold Hid
      cases ft
      ·rfl
      ·exact absurd ((HF.out.2 rfl) i hki hlt) (by rw[HZI.out];exact By)
     clear By
     go_wp2
     go_ret
     rw[KM.out]
     exact⟨rfl,HB.out⟩
   ·have g1:decide ((i:Int)≥(k:Int))=false:=by simp;omega
    have HZ2:Hid (∀j,k≤j→j<i+1→K3 t j=0):=fun j h1 h2=>HZ.out j h1 (by omega)
    go_wp2
    go_roundw
    case rel=>exact⟨i+1,by omega,by go_num,by trivial,HZ2.out⟩
    case measure=>simp[intOf];omega
  ·obtain rfl:i=5:=by omega
   have KM:Hid (ft=true):=HF.out.1 HZ.out
   go_wp2
   go_ret
   rw[KM.out]
   exact⟨rfl,HB.out⟩
theorem aH(A:Option Addr)(m c:Nat)(l:List AB)(k:Nat)(w:World)(h:BD w w.heap.size A m l)(hk:k≤5)(hm:m≤maxLen):Calls Tryz.prog 12 #[.slice A m c,.int .i64 k] w fun e w'=>e=.returned (.bool (l.all (Af k)))∧Below w.heap.size w w':=by
 have hlen:=h.1
 have HR:=Lib.hid h
 have HA:Hid ((∀u∈l,Af k u=true)↔l.all (Af k)=true):=List.all_eq_true.symm
 have hmm:m≤9223372036854775807:=by unfold maxLen at hm;omega
 have HL:=Lib.hid hlen
 generalize l.all (Af k)=al at*
 clear h hlen hm
 go_enter Tryz.func12,Tryz.ntmps12
 go_wp2
 go_loopw [5] (fun iv wr=>∃i:Nat,i≤m∧iv=.int .i64 (i:Int)∧Hid (Below w.heap.size w wr)∧Hid (∀u∈l.take i,Af k u=true)) (fun iv _=>m-(intOf iv).toNat)
 case atStart=>exact⟨0,Nat.zero_le _,rfl,Below.refl _ _,fun u hu=>by simp at hu⟩
 case round=>
  obtain⟨i,hi,rfl,HB,HT⟩:=hrel
  by_cases hlt:i<m
  ·obtain⟨b,off,t,rfl,IZ,q0,q1,q2,q3,q4,_,ht⟩:=(HR.out.CL HB.out).at_ hlt
   have HF:=Lib.hid (aB t k wr hk)
   have i0:(0:Int)≤(i:Int):=by omega
   have i1:(i:Int)<(m:Int):=by omega
   have g0:decide ((i:Int)<(m:Int))=true:=by simp;omega
   have LL:Hid (Af k t=true→∀u∈l.take (i+1),Af k u=true):=fun hf u hu=>by
    rw[List.take_add_one,ht.out]at hu
    rcases List.mem_append.1 hu with hu|hu
    ·exact HT.out u hu
    ·simp at hu;subst hu;exact hf
   have LO:Hid (Af k t=false→al=false):=fun hf=>by
    cases al
    ·rfl
    ·have:=HA.out.2 rfl t (List.mem_of_getElem? ht.out)
     rw[hf]at this;cases this
   generalize Af k t=ft at*
   obtain⟨ta,tb,tc,td,te⟩:=t
   simp only at q0 q1 q2 q3 q4 HF
   cases ft
   ·go_wp2_with fail
    refine HF.out.mono ?_;rintro e w5 ⟨rfl,hb⟩
    have BQ:=Lib.hid (HB.out.trans (hb.mono HB.out.size))
    clear hb
    go_wp2
    go_ret
    rw[LO.out (by trivial)]
    exact⟨rfl,BQ.out⟩
   ·go_wp2_with fail
    refine HF.out.mono ?_;rintro e w5 ⟨rfl,hb⟩
    have BQ:=Lib.hid (HB.out.trans (hb.mono HB.out.size))
    clear hb
    go_wp2
    go_roundw
    case rel=>exact⟨i+1,by omega,by go_num,BQ.out,LL.out (by trivial)⟩
    case measure=>simp[intOf];omega
  ·obtain rfl:i=m:=by omega
   have g0:decide ((i:Int)<(i:Int))=false:=by simp
   have HAL:Hid (al=true):=HA.out.1 fun u hu=>HT.out u (by rw[List.take_of_length_le (by rw[HL.out];exact Nat.le_refl _)];exact hu)
   go_wp2
   go_ret
   rw[HAL.out]
   exact⟨rfl,HB.out⟩
theorem fC{l l':List AB}{i:Nat}{t t':AB}(h:l[i]?=some t)(h':l'[i]?=some t')(hne:t≠t'):l≠l':=fun e=>by
 rw[e,h']at h;injection h with h;exact hne h.symm
theorem Xh(A A':Option Addr)(m m' c c':Nat)(l l':List AB)(w:World)(h:BD w w.heap.size A m l)(h':BD w w.heap.size A' m' l')(hm:m≤maxLen)(hm':m'≤maxLen):Calls Tryz.prog 24 #[.slice A m c,.slice A' m' c'] w fun e w'=>e=.returned (.bool (decide (l=l')))∧∃q,w'=w.drewN q:=by
 have hlen:=h.1
 have hlen':=h'.1
 have hmm:m≤9223372036854775807:=by unfold maxLen at hm;omega
 have AE8:m'≤9223372036854775807:=by unfold maxLen at hm';omega
 by_cases hne:m=m'
 ·subst hne
  have HR:=Lib.hid h
  have HR':=Lib.hid h'
  have HL:=Lib.hid hlen
  have HL':=Lib.hid hlen'
  have g9:((m:Int) !=(m:Int))=false:=by simp
  clear h h' hlen hlen' hm hm'
  go_enter Tryz.func24,Tryz.ntmps24
  go_wp2
  go_loopw [5] (fun iv wr=>∃i:Nat,i≤m∧iv=.int .i64 (i:Int)∧(∃q,wr=w.drewN q)∧Hid (l.take i=l'.take i)) (fun iv _=>m-(intOf iv).toNat)
  case atStart=>exact⟨0,Nat.zero_le _,rfl,⟨0,rfl⟩,by simp[Hid]⟩
  case round=>
   obtain⟨i,hi,rfl,⟨q0,rfl⟩,HT⟩:=hrel
   by_cases hlt:i<m
   ·obtain⟨b,off,t,rfl,IZ,d0,d1,d2,d3,d4,_,ht⟩:=HR.out.at_ hlt
    obtain⟨b',Sk,t',rfl,AG0,s0,s1,s2,s3,s4,_,rT⟩:=HR'.out.at_ hlt
    have i0:(0:Int)≤(i:Int):=by omega
    have i1:(i:Int)<(m:Int):=by omega
    have g0:decide ((i:Int)<(m:Int))=true:=by simp;omega
    have heq:=lZ t t'
    have LL:Hid (t=t'→l.take (i+1)=l'.take (i+1)):=fun hf=>by
     rw[List.take_add_one,List.take_add_one,HT.out,ht.out,rT.out,hf]
    have LO:Hid (t≠t'→l≠l'):=fC ht.out rT.out
    generalize hbq:decide (t=t')=bq at heq
    have wo:=Lib.hid hbq
    obtain⟨ta,tb,tc,td,te⟩:=t
    obtain⟨ua,ub,uc,ud,ue⟩:=t'
    simp only at d0 d1 d2 d3 d4 s0 s1 s2 s3 s4 heq
    have d0':∀q,(w.drewN q).cell? ⟨b,off+i*5,none⟩=some (.int .i64 ta):=fun _=>d0
    have d1':∀q,(w.drewN q).cell? ⟨b,off+i*5+1,none⟩=some (.int .i64 tb):=fun _=>d1
    have d2':∀q,(w.drewN q).cell? ⟨b,off+i*5+2,none⟩=some (.int .i64 tc):=fun _=>d2
    have d3':∀q,(w.drewN q).cell? ⟨b,off+i*5+3,none⟩=some (.int .i64 td):=fun _=>d3
    have d4':∀q,(w.drewN q).cell? ⟨b,off+i*5+4,none⟩=some (.int .i64 te):=fun _=>d4
    have f0':∀q,(w.drewN q).cell? ⟨b',Sk+i*5,none⟩=some (.int .i64 ua):=fun _=>s0
    have zm:∀q,(w.drewN q).cell? ⟨b',Sk+i*5+1,none⟩=some (.int .i64 ub):=fun _=>s1
    have f2':∀q,(w.drewN q).cell? ⟨b',Sk+i*5+2,none⟩=some (.int .i64 uc):=fun _=>s2
    have f3':∀q,(w.drewN q).cell? ⟨b',Sk+i*5+3,none⟩=some (.int .i64 ud):=fun _=>s3
    have f4':∀q,(w.drewN q).cell? ⟨b',Sk+i*5+4,none⟩=some (.int .i64 ue):=fun _=>s4
    have hq:=fun W=>gB W ta tb tc td te ua ub uc ud ue
    simp only[heq]at hq
    have hg:=fun W x y=>QC W .neq x y #[.int .i64 ta,.int .i64 tb,.int .i64 tc,.int .i64 td,.int .i64 te] #[.int .i64 ua,.int .i64 ub,.int .i64 uc,.int .i64 ud,.int .i64 ue]
    clear heq hbq ht rT
    cases bq
    ·have Wz:Hid (decide (l=l')=false):=by
      unfold Hid
      rw[decide_eq_false_iff_not]
      exact LO.out (of_decide_eq_false wo.out)
     clear wo LO LL
     go_wp2
     go_quiet (fail)
     go_wp2
     go_ret
     exact⟨Du Wz.out.symm,_,World.drewN_drewN _ _ _⟩
    ·have HT2:=Lib.hid (LL.out (of_decide_eq_true wo.out))
     clear wo LO LL
     go_wp2
     go_quiet (fail)
     go_wp2
     go_roundw
     case rel=>exact⟨i+1,by omega,by go_num,⟨_,rfl⟩,HT2.out⟩
     case measure=>simp[intOf];omega
   ·obtain rfl:i=m:=by omega
    have HE:Hid (decide (l=l')=true):=by
     have h:=HT.out
     rw[List.take_of_length_le (by have:=HL.out;omega),List.take_of_length_le (by have:=HL'.out;omega)]at h
     exact decide_eq_true h
    have g0:decide ((i:Int)<(i:Int))=false:=by simp
    go_wp2
    go_ret
    exact⟨Du HE.out.symm,q0,rfl⟩
 ·have Wz:Hid (decide (l=l')=false):=by
   unfold Hid
   rw[decide_eq_false_iff_not]
   intro e;exact hne (by rw[←hlen,←hlen',e])
  have g9:((m:Int) !=(m':Int))=true:=by simpa using fun h:(m:Int)=(m':Int)=>hne (by omega)
  clear h h' hlen hlen' hm hm' hne
  go_enter Tryz.func24,Tryz.ntmps24
  go_wp2
  go_ret
  exact⟨Du Wz.out.symm,0,rfl⟩
theorem Gu{o a b c:AB}(h:AO o a b<0)(k:AO o b c≤0):AO o a c<0:=by
 rcases Int.lt_or_le (AO o a c) 0 with h1|h1
 ·exact h1
 ·have h2:AO o c a≤0:=by rw[Ah];omega
  have h3:=CB k h2
  rw[Ah]at h3;omega
theorem Gv{o a b c:AB}(h:AO o a b≤0)(k:AO o b c<0):AO o a c<0:=by
 rcases Int.lt_or_le (AO o a c) 0 with h1|h1
 ·exact h1
 ·have h2:AO o c a≤0:=by rw[Ah];omega
  have h3:=CB h2 h
  rw[Ah]at h3;omega
theorem Gt{o a b c:AB}(h:AO o a b=0)(k:AO o a c=0):AO o b c=0:=by
 have h1:AO o b a≤0:=by rw[Ah];omega
 have h2:AO o c a≤0:=by rw[Ah];omega
 have h3:=CB h1 (show AO o a c≤0 by omega)
 have h4:=CB h2 (show AO o a b≤0 by omega)
 have h5:=Ah o b c
 omega
def EB(o t x:AB):Bool:=decide (AO o t x=0)
theorem K2(o t:AB):EB o t t=true:=by simp[EB,Gw]
theorem QS{o t u:AB}(h:AO o t u=0)(x:AB):EB o t x=EB o u x:=by
 unfold EB
 have h':AO o u t=0:=by rw[Ah];omega
 by_cases h1:AO o t x=0
 ·rw[decide_eq_true h1,decide_eq_true (Gt h h1)]
 ·rw[decide_eq_false h1,decide_eq_false fun h2=>h1 (Gt h' h2)]
def Cl(o:AB)(l m:List AB):Prop:=∀t,l.filter (EB o t)=m.filter (EB o t)
section
variable {o : AB} {l m q a b c d : List AB} {t x y : AB}
theorem Cl.refl(o:AB)(l:List AB):Cl o l l:=fun _=>rfl
theorem Cl.symm(h:Cl o l m):Cl o m l:=fun t=>(h t).symm
theorem Cl.trans(h:Cl o l m)(k:Cl o m q):Cl o l q:=fun t=>(h t).trans (k t)
theorem Cl.append(h:Cl o a b)(k:Cl o c d):Cl o (a++c) (b++d):=fun t=>by rw[List.filter_append,List.filter_append,h t,k t]
theorem Cl.left(h:Cl o (a++l) (a++m)):Cl o l m:=fun t=>by
 have:=h t
 rw[List.filter_append,List.filter_append]at this
 exact List.append_cancel_left this
theorem Cl.right(h:Cl o (l++a) (m++a)):Cl o l m:=fun t=>by
 have:=h t
 rw[List.filter_append,List.filter_append]at this
 exact List.append_cancel_right this
theorem Cl.mem(h:Cl o l m)(hx:x∈l):x∈m:=by
 have h1:x∈l.filter (EB o x):=List.mem_filter.2 ⟨hx,K2 o x⟩
 rw[h x]at h1
 exact(List.mem_filter.1 h1).1
theorem Cl.perm(h:Cl o l m):l.Perm m:=List.perm_iff_count.2 fun z=>by
 rw[←List.count_filter (l:=l) (K2 o z),h z,List.count_filter (K2 o z)]
theorem Cl.len(h:Cl o l m):l.length=m.length:=h.perm.length_eq
theorem Cl.swap(h:∀u∈a,∀v∈b,AO o v u≠0):Cl o (a++b) (b++a):=fun t=>by
 rw[List.filter_append,List.filter_append]
 by_cases ha:a.filter (EB o t)=[]
 ·rw[ha,List.nil_append,List.append_nil]
 ·have hb:b.filter (EB o t)=[]:=by
   obtain⟨u,hu⟩:=List.exists_mem_of_ne_nil _ ha
   obtain⟨rQ,Ew⟩:=List.mem_filter.1 hu
   refine List.filter_eq_nil_iff.2 fun v hv ay=>h u rQ v hv (Gt (o:=o) (a:=t) ?_ ?_)
   ·simpa [EB]using ay
   ·simpa [EB]using Ew
  rw[hb,List.nil_append,List.append_nil]
end
def Hl(o:AB)(l:List AB):Prop:=l.Pairwise fun a b=>AO o a b≤0
theorem J6(o:AB):∀(m m':List AB),Hl o m→Hl o m'→Cl o m m'→m=m'
 |[],[],_,_,_=>rfl
 |[],b::m',_,_,h=>by have:=h.symm.mem (List.mem_cons_self (a:=b));cases this
 |a::m,[],_,_,h=>by have:=h.mem (List.mem_cons_self (a:=a));cases this
 |a::m,b::m',ha,hb,h=>by
  obtain⟨WY,Kx⟩:=List.pairwise_cons.1 ha
  obtain⟨Am,AZ⟩:=List.pairwise_cons.1 hb
  have h1:AO o b a≤0:=by
   rcases List.mem_cons.1 (h.mem (List.mem_cons_self (a:=a) (l:=m)))with e|e
   ·rw[e,Gw];exact Int.le_refl _
   ·exact Am a e
  have h2:AO o a b≤0:=by
   rcases List.mem_cons.1 (h.symm.mem (List.mem_cons_self (a:=b) (l:=m')))with e|e
   ·rw[e,Gw];exact Int.le_refl _
   ·exact WY b e
  have h3:AO o a b=0:=by have:=Ah o a b;omega
  have h4:=h a
  rw[List.filter_cons_of_pos (K2 o a),List.filter_cons_of_pos (by simp[EB,h3])]at h4
  injection h4 with h5 h6
  subst h5
  rw[J6 o m m' Kx AZ fun t=>?_]
  have h7:=h t
  by_cases ht:EB o t a=true
  ·rw[List.filter_cons_of_pos ht,List.filter_cons_of_pos ht]at h7
   injection h7
  ·rw[List.filter_cons_of_neg ht,List.filter_cons_of_neg ht]at h7
   exact h7
def Bo(o:AB)(l:List AB)(a b:Nat):Prop:=∀i,a≤i→i+1<b→AO o (l.getD i AD) (l.getD (i+1) AD)≤0
theorem Bo.add{o:AB}{l:List AB}{a b:Nat}(h:Bo o l a b):∀(d i:Nat),a≤i→i+d<b→AO o (l.getD i AD) (l.getD (i+d) AD)≤0
 |0,i,_,_=>by rw[Nat.add_zero,Gw];exact Int.le_refl _
 |d+1,i,h1,h2=>CB (h.add d i h1 (by omega)) (h (i+d) (by omega) h2)
theorem Bo.le{o:AB}{l:List AB}{a b i j:Nat}(h:Bo o l a b)(h1:a≤i)(h2:i≤j)(h3:j<b):AO o (l.getD i AD) (l.getD j AD)≤0:=by
 have:=h.add (j-i) i h1 (by omega)
 rwa [show i+(j-i)=j by omega]at this
theorem CJ{l:List AB}{i:Nat}(h:i<l.length):l.getD i AD=l[i]:=by rw[List.getD_eq_getElem?_getD,List.getElem?_eq_getElem h];rfl
theorem Rf{o:AB}{l:List AB}:Hl o l↔Bo o l 0 l.length:=by
 unfold Hl
 rw[List.pairwise_iff_getElem]
 refine⟨fun h i _ hi=>?_,fun h i j hi hj Fq=>?_⟩
 ·rw[CJ (by omega),CJ hi];exact h i (i+1) (by omega) hi (by omega)
 ·have:=h.le (Nat.zero_le i) (Nat.le_of_lt Fq) hj
  rwa [CJ hi,CJ hj]at this
theorem Mq{o:AB}{l:List AB}:oR o l↔Hl o l:=by
 rw[Rf]
 exact⟨fun h i _ hi=>h i hi,fun h i hi=>h i (Nat.zero_le _) hi⟩
theorem WG(o:AB)(out:List AB)(t:AB):Cl o (out++[t]) (CM o out t):=by
 have hb:=GB (fun y=>decide (AO o t y<0)) out out.length
 unfold CM
 generalize posB (fun y=>decide (AO o t y<0)) out out.length=k at*
 have h1:Cl o (out.drop k++[t]) ([t]++out.drop k):=by
  refine Cl.swap fun u hu v hv=>?_
  simp only[List.mem_singleton]at hv
  subst hv
  obtain⟨i,hi,rfl⟩:=List.getElem_of_mem hu
  rw[List.length_drop]at hi
  have:=hb (k+i) (by omega) (by omega)
  rw[CJ (by omega)]at this
  rw[List.getElem_drop]
  simp at this;omega
 have h2:=(Cl.refl o (out.take k)).append h1
 rw[←List.append_assoc,List.take_append_drop]at h2
 exact h2
theorem NY(o:AB):∀(l out:List AB),Cl o (out++l) (Ev o out l)
 |[],out=>by rw[List.append_nil];exact Cl.refl _ _
 |t::l,out=>by
  have h1:=(WG o out t).append (Cl.refl o l)
  rw[List.append_assoc]at h1
  exact h1.trans (NY o l (CM o out t))
theorem cW{o:AB}{l m:List AB}(h1:Hl o m)(h2:Cl o l m):m=Ev o [] l:=
 J6 o m _ h1 (Mq.1 (LY o l [] (Vy o))) (h2.symm.trans (NY o l []))
def stepO(o:AB)(q:List AB)(t:AB):List AB:=match q.getLast? with
 |some u=>if AO o u t=0 then q else q++[t]
 |none=>q++[t]
def Ax(o:AB)(l:List AB):List AB:=l.foldl (stepO o) []
theorem Js(o:AB)(l:List AB)(t:AB):Ax o (l++[t])=stepO o (Ax o l) t:=by unfold Ax;rw[List.foldl_append];rfl
theorem XT(o:AB)(q:List AB)(t:AB):(stepO o q t).length≤q.length+1:=by
 unfold stepO
 split
 ·split<;>simp
 ·simp
theorem Nm(o:AB):∀l:List AB,(Ax o l).length≤l.length:=by
 intro l
 suffices h:∀(l q:List AB),(l.foldl (stepO o) q).length≤q.length+l.length by have:=h l [];simpa [Ax]using this
 intro l
 induction l with
 |nil=>intro q;simp
 |cons t l ih=>intro q;have h1:=ih (stepO o q t);have h2:=XT o q t;simp only[List.foldl_cons,List.length_cons]at*;omega
theorem XS{o:AB}{q:List AB}{t x:AB}(h:x∈stepO o q t):x∈q∨x=t:=by
 unfold stepO at h
 split at h
 ·split at h
  ·exact .inl h
  ·simpa using h
 ·simpa using h
theorem Ld{o:AB}{l:List AB}{x:AB}(h:x∈Ax o l):x∈l:=by
 suffices hs:∀(l q:List AB),x∈l.foldl (stepO o) q→x∈q∨x∈l by
  rcases hs l [] h with h|h
  ·cases h
  ·exact h
 intro l
 induction l with
 |nil=>intro q h;exact .inl h
 |cons t l ih=>
  intro q h
  rcases ih _ h with h|h
  ·rcases XS h with h|h
   ·exact .inl h
   ·exact .inr (h▸List.mem_cons_self)
  ·exact .inr (List.mem_cons_of_mem _ h)
theorem E8{α:Type}{l m:List α}:(l++m).take 1=if l=[]then m.take 1 else l.take 1:=by
 cases l with
 |nil=>simp
 |cons a l=>simp
theorem Sj{o:AB}:∀(n:Nat) (l:List AB),l.length=n→Hl o l→Hl o (Ax o l)∧(∀t,(Ax o l).filter (EB o t)=(l.filter (EB o t)).take 1)∧(∀u,(Ax o l).getLast?=some u→∀x∈l,AO o x u≤0)∧(l≠[]→(Ax o l).getLast?≠none)
 |0,l,hl,_=>by
  obtain rfl:=List.eq_nil_of_length_eq_zero hl
  exact⟨List.Pairwise.nil,fun _=>rfl,fun u h=>(by cases h),fun h=>absurd rfl h⟩
 |n+1,l,hl,ha=>by
  obtain⟨l',t,rfl⟩:∃l' t,l=l'++[t]:=⟨l.dropLast,l.getLast (by intro e;rw[e]at hl;simp at hl),(List.dropLast_concat_getLast _).symm⟩
  have U4:l'.length=n:=by simpa using hl
  obtain⟨WY,_,wB⟩:=List.pairwise_append.1 ha
  obtain⟨i1,i2,i3,i4⟩:=Sj n l' U4 WY
  rw[Js]
  have hlt:∀x∈l',AO o x t≤0:=fun x hx=>wB x hx t (by simp)
  have hle:∀x∈Ax o l',AO o x t≤0:=fun x hx=>hlt x (Ld hx)
  have FI:(∀x∈l',AO o x t≠0)→Hl o (Ax o l'++[t])∧(∀s,(Ax o l'++[t]).filter (EB o s)=((l'++[t]).filter (EB o s)).take 1)∧(∀u,(Ax o l'++[t]).getLast?=some u→∀x∈l'++[t],AO o x u≤0)∧(l'++[t]≠[]→(Ax o l'++[t]).getLast?≠none):=fun hne=>by
   refine⟨List.pairwise_append.2 ⟨i1,List.pairwise_singleton _ _,fun x hx y hy=>?_⟩,fun s=>?_,fun u hu x hx=>?_,fun _=>by simp⟩
   ·simp at hy;subst hy;exact hle x hx
   ·rw[List.filter_append,List.filter_append,E8,i2 s]
    by_cases hst:EB o s t=true
    ·have h0:l'.filter (EB o s)=[]:=by
      refine List.filter_eq_nil_iff.2 fun x hx jx=>hne x hx (Gt (a:=s) ?_ ?_)
      ·simpa [EB]using jx
      ·simpa [EB]using hst
     rw[h0,if_pos rfl,List.filter_cons_of_pos hst];rfl
    ·rw[List.filter_cons_of_neg hst,List.filter_nil,List.append_nil]
     split
     ·rename_i h0;rw[h0]
     ·rfl
   ·simp at hu;subst hu
    rcases List.mem_append.1 hx with hx|hx
    ·exact hlt x hx
    ·simp at hx;subst hx;rw[Gw];exact Int.le_refl _
  unfold stepO
  split
  ·rename_i u hu
   have hxu:=i3 u hu
   by_cases he:AO o u t=0
   ·rw[if_pos he]
    have hum:u∈Ax o l':=List.mem_of_getLast? hu
    refine⟨i1,fun s=>?_,fun v hv x hx=>?_,fun _=>by rw[hu];simp⟩
    ·rw[List.filter_append,E8,i2 s]
     by_cases hst:EB o s t=true
     ·have hut:AO o t u=0:=by rw[Ah];omega
      have x6:EB o s u=true:=by
       have:AO o s t=0:=by simpa [EB]using hst
       rw[QS this];simp[EB,hut]
      have h0:l'.filter (EB o s)≠[]:=List.ne_nil_of_mem (List.mem_filter.2 ⟨Ld hum,x6⟩)
      rw[if_neg h0]
     ·rw[List.filter_cons_of_neg hst,List.filter_nil]
      split
      ·rename_i h0;rw[h0]
      ·rfl
    ·rw[hu]at hv;injection hv with hv;subst hv
     rcases List.mem_append.1 hx with hx|hx
     ·exact hxu x hx
     ·simp at hx;subst hx;rw[Ah];omega
   ·rw[if_neg he]
    refine FI fun x hx hz=>he ?_
    have h1:=hxu x hx
    have h2:=hle u (List.mem_of_getLast? hu)
    have h3:AO o t x≤0:=by rw[Ah];omega
    have h4:=CB h3 h1
    rw[Ah]at h4;omega
  ·rename_i hn
   have h0:l'=[]:=by
    rcases Classical.em (l'=[])with h|h
    ·exact h
    ·exact absurd hn (i4 h)
   exact FI fun x hx=>by rw[h0]at hx;cases hx
theorem an{o:AB}{out pre:List AB}(h1:Hl o out)(h2:∀t,out.filter (EB o t)=(pre.filter (EB o t)).take 1)(t:AB):Hl o (Md o out t)∧∀s,(Md o out t).filter (EB o s)=((pre++[t]).filter (EB o s)).take 1:=by
 have ha:=Jq (fun y=>decide (AO o t y<0)) out out.length
 have hb:=GB (fun y=>decide (AO o t y<0)) out out.length
 have hle:=Kf (fun y=>decide (AO o t y<0)) out out.length
 have VC:=Rf.1 h1
 unfold Md
 split
 ·rename_i hc
  obtain⟨IM,Hh⟩:=hc
  refine⟨h1,fun s=>?_⟩
  rw[List.filter_append,E8,h2 s]
  generalize posB (fun y=>decide (AO o t y<0)) out out.length=k at*
  by_cases hst:EB o s t=true
  ·have x6:EB o s (out.getD (k-1) AD)=true:=by
    have:AO o s t=0:=by simpa [EB]using hst
    rw[QS this];exact decide_eq_true Hh
   have hm:out.getD (k-1) AD∈out.filter (EB o s):=List.mem_filter.2 ⟨by rw[CJ (by omega)];exact List.getElem_mem _,x6⟩
   have h0:pre.filter (EB o s)≠[]:=fun e=>by rw[h2 s,e]at hm;cases hm
   rw[if_neg h0]
  ·rw[List.filter_cons_of_neg hst,List.filter_nil]
   split
   ·rename_i h0;rw[h0]
   ·rfl
 ·rename_i hc
  refine⟨Mq.1 (S8 (Mq.2 h1) t),fun s=>?_⟩
  rw[←WG o out t s,List.filter_append,List.filter_append,E8,h2 s]
  generalize posB (fun y=>decide (AO o t y<0)) out out.length=k at*
  by_cases hst:EB o s t=true
  ·have h0:out.filter (EB o s)=[]:=by
    refine List.filter_eq_nil_iff.2 fun y hy hy2=>?_
    have Uv:AO o s t=0:=by simpa [EB]using hst
    have hty:AO o t y=0:=Gt (a:=s) Uv (by simpa [EB]using hy2)
    obtain⟨i,hi,rfl⟩:=List.getElem_of_mem hy
    by_cases U6:k≤i
    ·have:=hb i U6 hi
     rw[CJ hi]at this
     simp at this;omega
    ·have h5:=ha (by omega)
     have h6:¬AO o t (out.getD (k-1) AD)<0:=by simpa using h5
     have h7:AO o t (out.getD (k-1) AD)≠0:=fun e=>hc ⟨by omega,e⟩
     have h8:=VC.le (Nat.zero_le i) (show i≤k-1 by omega) (show k-1<out.length by omega)
     rw[CJ hi]at h8
     have h9:AO o (out.getD (k-1) AD) t<0:=by rw[Ah];omega
     have FJ:=Gv h8 h9
     rw[Ah]at FJ;omega
   have zi:pre.filter (EB o s)=[]:=by
    have:=h2 s
    rw[h0]at this
    cases hp:pre.filter (EB o s)with
    |nil=>rfl
    |cons a r=>rw[hp]at this;simp at this
   rw[zi,if_pos rfl]
   simp[List.filter_cons_of_pos hst]
  ·rw[List.filter_cons_of_neg hst,List.filter_nil,List.append_nil]
   split
   ·rename_i h0;rw[h0]
   ·rfl
theorem Ph{o:AB}:∀(l out pre:List AB),Hl o out→(∀t,out.filter (EB o t)=(pre.filter (EB o t)).take 1)→Hl o (Eu o out l)∧∀s,(Eu o out l).filter (EB o s)=((pre++l).filter (EB o s)).take 1
 |[],out,pre,h1,h2=>by rw[List.append_nil];exact⟨h1,h2⟩
 |t::l,out,pre,h1,h2=>by
  obtain⟨k1,k2⟩:=an h1 h2 t
  have:=Ph l (Md o out t) (pre++[t]) k1 k2
  rw[List.append_assoc]at this
  exact this
theorem cV{o:AB}{l m:List AB}(h1:Hl o m)(h2:Cl o l m):Ax o m=Eu o [] l:=by
 obtain⟨a1,a2,_⟩:=Sj m.length m rfl h1
 obtain⟨b1,b2⟩:=Ph (o:=o) l [] [] List.Pairwise.nil fun _=>rfl
 exact J6 o _ _ a1 b1 fun t=>by rw[a2 t,b2 t,←h2 t];rfl
end Go.Proofs.YteldegofbbfaeaaGreat
