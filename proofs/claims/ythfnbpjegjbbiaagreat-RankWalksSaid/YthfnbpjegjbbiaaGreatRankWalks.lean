/-
  RankWalks: whatever sizes, order and weights; no condition.
-/
import Derived.Test.YthfnbpjegjbbiaaGreatPF
import Derived.Test.YthfnbpjegjbbiaaGreatRows
import Derived.WalkKit
import Derived.ProofKit
import Derived.OpenShut
import Derived.ShutString
import Derived.ChangeOld
import Derived.Below
namespace Go.Proofs.YthfnbpjegjbbiaaGreat.rankWalks
open Go.ChangeShapes Go.WideShapes Go.ChangeAt Go.RowKit
open Go.ChangeMaps (open_string shut_string)
set_option linter.unusedVariables false
set_option linter.unusedSimpArgs false

theorem own:ownKnob Tryz.prog.godebug=none:=by kernel_rfl
theorem laidOut:laidOutB Tryz.prog=true:=by kernel_rfl
def zcells(l:List Int):List Value:=l.map (Value.int .i64)
theorem zcells_get{l i}(h:i<l.length):(zcells l)[i]?=some (.int .i64 (l.getD i 0)):=by
 unfold zcells
 rw[List.getElem?_map,List.getElem?_eq_getElem h,List.getD_eq_getElem?_getD,List.getElem?_eq_getElem h];rfl
theorem zcells_set{l i}{b:Int}:zcells (l.set i b)=(zcells l).set i b:=by unfold zcells;rw[List.map_set]
theorem wrk{n:Nat}(h:n≤1000000):wrap64 (n:Int)=(n:Int):=IntWalk.wrap64_in _ ⟨by omega,by omega⟩
theorem wri{n:Nat}(h:n≤1000000):IntKind.i64.wrap (n:Int)=(n:Int):=IntWalk.i64_in _ (by omega)
theorem arr_info:∃i,Tryz.prog.info? 45=some i∧i.zero=some (.agg (zcells (List.replicate 300 0)).toArray)∧i.size=300∧i.bytes=2400:=info_parts (by kernel_rfl)
theorem arr_zero(w:World)(Z:Array Value)(hZ:Z=(zcells (List.replicate 300 0)).toArray):(zeroValue 45).run Tryz.prog w=.ok (.agg Z) w:=by
 obtain⟨i,hi,hz,_⟩:=arr_info
 rw[←hZ]at hz
 simp[zeroValue,typeInfo,hi,hz]
theorem readsZ_mono{w B B' a n l}(h:OC w B a n l)(hB:B≤B'):OC w B' a n l:=⟨h.1,h.2.1,fun hn=>by
 obtain⟨b,off,e,hb,hc⟩:=h.2.2 hn
 exact⟨b,off,e,Nat.lt_of_lt_of_le hb hB,hc⟩⟩
theorem up_at{out:List Cv}(h:out.Pairwise fun u v=>u.a<v.a){i j:Nat}{u v}(hi:out[i]?=some u)(hj:out[j]?=some v)(Il:i<j):u.a<v.a:=by
 have gV:=NY hi
 have hj':=NY hj
 rw[List.getElem?_eq_getElem gV]at hi
 rw[List.getElem?_eq_getElem hj']at hj
 injection hi with hi
 injection hj with hj
 have:=List.pairwise_iff_getElem.1 h i j gV hj' Il
 rwa [hi,hj]at this
def Fil(out:List Cv)(k:Nat)(T:List Int):Prop:=T.length=300∧∀j u,j<k→out[j]?=some u→T.getD u.a.toNat 0=u.b
theorem Fil.zero(out:List Cv):Fil out 0 (List.replicate 300 0):=⟨List.length_replicate,fun j u h=>absurd h (Nat.not_lt_zero j)⟩
theorem Fil.step{out k T}(h:Fil out k T)(qA:out.Pairwise fun u v=>u.a<v.a)(hp:∀u∈out,0≤u.a∧u.a<300){u}(hu:out[k]?=some u):Fil out (k+1) (T.set u.a.toNat u.b):=by
 have hub:=hp u (List.mem_of_getElem? hu)
 have hl:=h.1
 refine⟨by simp[hl],fun j v hj hv=>?_⟩
 have hvb:=hp v (List.mem_of_getElem? hv)
 rcases Nat.lt_or_ge j k with hjk|hjk
 ·have:=up_at qA hv hu hjk
  rw[List.getD_eq_getElem?_getD,List.getElem?_set_ne (by omega),←List.getD_eq_getElem?_getD]
  exact h.2 j v hjk hv
 ·obtain rfl:j=k:=by omega
  rw[hu]at hv
  injection hv with hv
  subst hv
  rw[List.getD_eq_getElem?_getD,List.getElem?_set_self (by omega)]
  rfl
theorem fil_rk{l out}(hL:Dh l)(hro:Nf l out){T}(hT:Fil out out.length T):∀t∈l,∃n,Rk l n t.a (T.getD t.a.toNat 0):=fun t ht=>by
 obtain⟨u,hu,e⟩:=hro.all hL t ht
 obtain⟨j,hj⟩:=List.mem_iff_getElem?.1 hu
 obtain⟨⟨n,hr⟩,_⟩:=hro.rk u hu
 rw[←e,hT.2 j u (NY hj) hj]
 exact⟨n,hr⟩
theorem fil_first{l id}(hc:pq l id){T:List Int}(hT:∀t∈l,∃n,Rk l n t.a (T.getD t.a.toNat 0)){k}{t}(hk:l[k]?=some t)(hf:∀s,0<k→l[k-1]?=some s→s.b≠t.a):T.getD t.a.toNat 0=0:=by
 obtain⟨n,hr⟩:=hT t (List.mem_of_getElem? hk)
 have e:=hc.a k t hk
 exact Rk.zero (hc.first (NY hk) fun s h0 hs=>by rw[←e];exact hf s h0 hs) hr e
theorem fil_step{l}(hL:Dh l){T:List Int}(hT:∀t∈l,∃n,Rk l n t.a (T.getD t.a.toNat 0)){s t}(hs:s∈l)(ht:t∈l)(e:s.b=t.a)(h0:0≤t.a):T.getD t.a.toNat 0=IntKind.i64.wrap (T.getD s.a.toNat 0+s.c):=by
 obtain⟨n,hr⟩:=hT s hs
 obtain⟨m,hq⟩:=hT t ht
 refine Rk.step hL (m:=m) hs (by rw[e];exact h0) hr ?_
 rw[e]
 exact hq
set_option maxHeartbeats 4000000 in
set_option maxRecDepth 100000 in
theorem walk(a0:Option Addr)(len0 cap0:Nat)(z0:List Int)(a1:Int)(a2:Option Addr)(len2 cap2:Nat)(z2:List Int)(w:World)(w0:Up .u8 w a0 len0 cap0 z0)(w1:(Lit.int .u16 a1).wf=true)(w2:Up .i64 w a2 len2 cap2 z2):
  Calls Tryz.prog 4 #[.slice a0 len0 cap0,.int .u16 a1,.slice a2 len2 cap2] w fun e w'=>e=.returned true∧Below w w w':=by
 obtain⟨v1,rfl⟩:=Int.eq_ofNat_of_zero_le (show 0≤a1 by have:=bounds_u16 w1;omega)
 have hv1:v1≤65535:=by have:=bounds_u16 w1;omega
 obtain⟨zs,mT⟩:=w0.reads AD5
 have hm0:=w0.cap
 have hm2:=w2.cap
 obtain⟨ws,hws⟩:∃ws,OC w w.heap.size a2 len2 ws:=⟨_,w2.AP1⟩
 have HAW:Hid (∀W,Calls Tryz.prog 10 #[] W fun e w'=>e=.returned true∧Below W W w'):=fun W=>xe W
 have HWK:Hid (∀W,Calls Tryz.prog 9 #[.int .i64 9] W fun e w'=>∃p G,e=.returned (.pointer p.w)∧Sys w' G p (plF 10 (10*9) 6000) 0∧(∀k,G k→W≤k)∧Below W W w'):=fun W=>Yz 9 (by omega) W
 have HZS:=Lib.hid mT
 have HWS:=Lib.hid hws
 clear w0 w1 w2 mT hws
 go_enter Tryz.func4,Tryz.ntmps4
 go_wp2_with fail
 refine(HAW.out _).mono ?_
 rintro e w3 ⟨rfl,D9⟩
 have Ei:=Lib.hid D9
 clear D9
 by_cases h4:len0>4
 ·have g1:decide ((len0:Int)>4)=true:=by simp;omega
  go_wp2_with fail
  refine(HAW.out _).mono ?_
  rintro e w4 ⟨rfl,IX⟩
  have Qi:=Lib.hid (Ei.out.trans (IX.mono Ei.out.size))
  clear IX
  go_wp2
  go_ret
  exact⟨rfl,Qi.out⟩
 have g1:decide ((len0:Int)>4)=false:=by simp;omega
 by_cases h5:len2>300
 ·have g2:decide ((len2:Int)>300)=true:=by simp;omega
  go_wp2_with fail
  refine(HAW.out _).mono ?_
  rintro e w4 ⟨rfl,IX⟩
  have Qi:=Lib.hid (Ei.out.trans (IX.mono Ei.out.size))
  clear IX
  go_wp2
  go_ret
  exact⟨rfl,Qi.out⟩
 have g2:decide ((len2:Int)>300)=false:=by simp;omega
 have HL4:Hid (len0≤4):=by unfold Hid;omega
 go_wp2_with fail
 refine(HWK.out _).mono ?_
 rintro e w4 ⟨p,G,rfl,hs,hG,IX⟩
 obtain⟨X,hX⟩:∃X,X=cxL w3 p 90 10 6000 True 0:=⟨_,rfl⟩
 have h4x:Wd X [] 0 w4:=by rw[hX];exact oO hs hG IX (by omega) (by omega)
 have HX:Hid (X.p=p∧X.sz=10∧X.rm=90∧X.S0=Hi 0 6000∧X.cm∧X.N=0∧X.w0=w3):=by rw[hX];exact⟨rfl,rfl,rfl,rfl,trivial,rfl,rfl⟩
 have QE:Hid (∀os m u,Wd X os m u→Below w w u):=fun os m u h=>by
  have:=h.Tw
  rw[HX.out.2.2.2.2.2.2]at this
  exact Ei.out.trans (this.mono Ei.out.size)
 have hb:Below w w w4:=QE.out _ _ _ h4x
 have HCH:Hid (Calls Tryz.prog 18 #[.slice a0 len0 cap0,.int .u16 v1,.slice a2 len2 cap2] w4 (AO0 w4 (p7 zs))):=AA8 (c0:=cap0) (c2:=cap2) (by_:=v1) ((HZS.out.GS hb).mono hb.size) (readsZ_mono (HWS.out.GS hb) hb.size) HL4.out hv1
 have H4:=Lib.hid h4x
 clear hs hG IX hX h4x hb HAW HWK HZS HWS g1 g2 h4 h5
 go_wp2_with fail
 refine HCH.out.mono ?_
 rintro e w5 ⟨A,c,pp,s,l,rfl,ho,hci,hp,hs0,hsp,hp241,hlp,FU⟩
 obtain⟨n,hn⟩:∃n,n=l.length:=⟨_,rfl⟩
 rw[←hn]at ho⊢
 have hchn:=hci.chn hp hs0 hsp hlp
 have hn240:n≤240:=by omega
 have HLOK:Hid (∀t∈l,EE t∧Dc 3 t=true):=fun t ht=>⟨(hci.ok (by omega) hp241 t ht).1,(hci.ok (by omega) hp241 t ht).2.1⟩
 have HA3:Hid (∀t∈l,0≤t.a∧t.a<300):=fun t ht=>by
  obtain⟨i,hi⟩:=List.mem_iff_getElem?.1 ht
  have e:=hci.a i t hi
  have:=Zu (s:=s) (n:=i) (show 0<pp by omega)
  omega
 have h6:Wd X [Uz X (.slice A n c) l] 0 w5:=H4.out.AY5 FU ho hn.symm
 have HH:=Lib.hid h6
 have HCN:=Lib.hid hchn
 have JC:Hid (l.length=n):=hn.symm
 have HN:=Lib.hid hn240
 have HTO:Hid (∀u∈l,EE u):=fun u hu=>(HLOK.out u hu).1
 clear ho hci hp hs0 hsp hp241 hlp FU hn hchn hn240 h6 H4 HCH
 have HLY:Hid (Calls Tryz.prog 12 #[.pointer p.w,.int .i64 3,.slice A n c] w5 fun e w'=>∃F N:Nat,e=.returned (.tuple #[.agg #[F,N,.int .i64 3,n],()])∧GY F N 3 (Ct X.sz ((3:Nat):Int)) l X.sz∧Wd X [Uz X (.slice A n c) l,Da F N 3 (Ct X.sz ((3:Nat):Int)) l X.sz] (0+N) w'):=by
  have h9:=yO (k:=3) (n:=n) (c:=c) (A:=A) HH.out HX.out.2.2.2.2.1 (by omega) (fun z m' W' q=>by
   obtain⟨A',c',zl,hr',_⟩:=q.AX4 (i:=0) (by simp;rfl) HTO.out
   injection zl with e1 e2 e3
   rw[JC.out,←e1]at hr'
   exact hr') (by have:=JC.out;have:=HN.out;omega) (fun u hu=>(HLOK.out u hu).2) (by rw[HX.out.2.1,HX.out.2.2.1];show 10+0≤90;omega) (by rw[HX.out.2.2.2.2.2.1];have:=JC.out;have:=HN.out;omega) (AF1 HX.out.2.2.2.1 [] (q:=0) (fun e he=>(by cases he)) (fun a ha=>.inl (by
   simp at ha
   rcases ha with rfl
   rfl)) (by
   have h:=Di (Ct X.sz ((3:Nat):Int)) l.length
   have:=JC.out
   have:=HN.out
   show 0* _+ _≤6000
   rw[Nat.zero_mul,Nat.zero_add]
   exact Nat.le_trans h (by omega)))
  rw[HX.out.1]at h9
  exact h9
 go_wp2_with fail
 refine HLY.out.mono ?_
 rintro e w6 ⟨F,N,rfl,NH,gE⟩
 clear HH
 have hN:N≤240:=by rw[NH.bn];have:=Di (Ct X.sz ((3:Nat):Int)) l.length;have:=JC.out;have:=HN.out;omega
 have HNB:=Lib.hid hN
 have qY:=Lib.hid NH
 clear hN NH HLY
 obtain⟨w7,cI⟩:∃w7,w7=w6.alloc (.cells #[F,N,.int .i64 3,n] 28):=⟨_,rfl⟩
 obtain⟨fb,LI⟩:∃fb,fb=w6.heap.size:=⟨_,rfl⟩
 have hh:Wd X [Uz X (.slice A n c) l,Da F N 3 (Ct X.sz ((3:Nat):Int)) l X.sz,Cs fb 28 [F,N,.int .i64 3,n]] (0+N) w7:=by
  rw[cI,LI]
  have:=gE.new ((Below.refl w6 w6).alloc (Nat.le_refl _) (.cells #[F,N,.int .i64 3,n] 28)) (heap_alloc_new _ _:Row _ _ 28 [F,N,.int .i64 3,n]) (Nat.le_refl _)
  exact this
 have HH:=Lib.hid hh
 have HW:=Lib.hid cI
 have HB:=Lib.hid LI
 clear hh cI LI gE
 have cr:Row w7 fb 28 [F,N,.int .i64 3,n]:=HH.out.row (i:=2) rfl
 have c0:w7.cell? ⟨fb,0,none⟩=some (.int .i64 F):=cr.cell 0
 have c1:w7.cell? ⟨fb,1,none⟩=some (.int .i64 N):=cr.cell 1
 have c2:w7.cell? ⟨fb,2,none⟩=some (.int .i64 3):=cr.cell 2
 have c3:w7.cell? ⟨fb,3,none⟩=some (.int .i64 n):=cr.cell 3
 clear cr
 have HRK:Hid (Calls Tryz.prog 13 #[.pointer p.w,.agg #[F,N,.int .i64 3,n]] w7 (ox X [Uz X (.slice A n c) l,Da F N 3 (Ct X.sz ((3:Nat):Int)) l X.sz,Cs fb 28 [F,N,.int .i64 3,n]] l (0+N))):=by
  have h9:=jw HH.out qY.out (by simp) JC.out (by have:=HN.out;omega) (by rw[HX.out.2.1,HX.out.2.2.1];show 8*10+0≤90;omega) (by rw[HX.out.2.2.1];omega) (by rw[HX.out.2.2.2.2.2.1];have:=HNB.out;unfold KM;omega)
  rw[HX.out.1]at h9
  exact h9
 have HRM:Hid (∃z,Rm X [Uz X (.slice A n c) l,Da F N 3 (Ct X.sz ((3:Nat):Int)) l X.sz,Cs fb 28 [F,N,.int .i64 3,n]] z (MD l.length)):=AF1 HX.out.2.2.2.1 [(F,N)] (q:=240) (fun e he=>by simp at he;subst he;exact HNB.out) (fun a ha=>by
  simp at ha
  rcases ha with rfl|rfl|rfl
  ·exact .inl rfl
  ·exact .inr (by simp[Da])
  ·exact .inl rfl) (by have:=JC.out;have:=HN.out;simp[MD];omega)
 go_upto_region 6 with(fail)
 rw[←HW.out,←HB.out]
 clear HW HB
 clear HH
 go_wp2_with fail
 refine HRK.out.mono ?_
 rintro e w8 hres
 clear c0 c1 c2 c3 HRK
 obtain⟨F2,N2,out,m3,rfl,hgo,Oo,hro,hm3,hw8⟩:=sK hres HCN.out.ZX HX.out.2.2.2.2.1 HRM.out
 have HTOO:Hid (∀u∈out,EE u):=fun u hu=>(hgo.fit u hu).1
 have zS:out.length=n:=by rw[hro.len];exact JC.out
 rw[zS]
 have hN2:N2≤240:=by rw[hgo.bn,zS];have:=Di (Ct X.sz ((2:Nat):Int)) n;have:=HN.out;omega
 have HOA:Hid (∀u∈out,0≤u.a∧u.a<300):=fun u hu=>by
  obtain⟨⟨_,hr⟩,_⟩:=hro.rk u hu
  obtain⟨t,ht,e⟩:=Rk.mem Oo hr
  rw[←e]
  exact HA3.out t ht
 have pM:=Lib.hid hN2
 have HGO:=Lib.hid hgo
 have HON:=Lib.hid zS
 have HL0:=Lib.hid Oo
 have YO:=Lib.hid hro
 have HM1:Hid (m3≤0+N+KM):=hm3
 clear hres hm3 HRM zS Oo hro hgo hN2
 obtain⟨w9,hw9⟩:∃w9,w9=w8.alloc (.cells #[F2,N2,.int .i64 2,n] 28):=⟨_,rfl⟩
 obtain⟨gb,hgb⟩:∃gb,gb=w8.heap.size:=⟨_,rfl⟩
 have hh:Wd X [Uz X (.slice A n c) l,Da F N 3 (Ct X.sz ((3:Nat):Int)) l X.sz,Cs fb 28 [F,N,.int .i64 3,n],Da F2 N2 2 (Ct X.sz ((2:Nat):Int)) out X.sz,Cs gb 28 [F2,N2,.int .i64 2,n]] (m3) w9:=by
  rw[hw9,hgb]
  have:=hw8.new ((Below.refl w8 w8).alloc (Nat.le_refl _) (.cells #[F2,N2,.int .i64 2,n] 28)) (heap_alloc_new _ _:Row _ _ 28 [F2,N2,.int .i64 2,n]) (Nat.le_refl _)
  exact this
 have HH:=Lib.hid hh
 have HW:=Lib.hid hw9
 have HB:=Lib.hid hgb
 clear hh hw9 hgb hw8
 have dr:Row w9 gb 28 [F2,N2,.int .i64 2,n]:=HH.out.row (i:=4) rfl
 have d0:w9.cell? ⟨gb,0,none⟩=some (.int .i64 F2):=dr.cell 0
 have d1:w9.cell? ⟨gb,1,none⟩=some (.int .i64 N2):=dr.cell 1
 have d2:w9.cell? ⟨gb,2,none⟩=some (.int .i64 2):=dr.cell 2
 have d3:w9.cell? ⟨gb,3,none⟩=some (.int .i64 n):=dr.cell 3
 clear dr
 have HLI:Hid (Calls Tryz.prog 16 #[.pointer p.w,.agg #[F2,N2,.int .i64 2,n]] w9 fun e w'=>∃v,e=.returned (.tuple #[v,()])∧Wd X ([Uz X (.slice A n c) l,Da F N 3 (Ct X.sz ((3:Nat):Int)) l X.sz,Cs fb 28 [F,N,.int .i64 3,n],Da F2 N2 2 (Ct X.sz ((2:Nat):Int)) out X.sz,Cs gb 28 [F2,N2,.int .i64 2,n]]++[Uz X v out]) (m3+N2) w'):=by
  have h9:=AO1 (i:=3) HH.out rfl HGO.out HX.out.2.2.2.2.1 (by rw[HX.out.2.1,HX.out.2.2.1];show 10≤90-0;omega) (by rw[HX.out.2.2.2.2.2.1];have:=HM1.out;have:=HNB.out;have:=pM.out;unfold KM at*;omega) HON.out
  rw[HX.out.1]at h9
  exact h9
 go_upto_region 7 with(fail)
 rw[←HW.out,←HB.out]
 clear HW HB
 clear HH
 go_wp2_with fail
 refine HLI.out.mono ?_
 rintro e Lf ⟨v,rfl,hw10⟩
 clear d0 d1 d2 d3 HLI
 obtain⟨B,bc,rfl,_,_⟩:=hw10.AX4 (i:=5) rfl HTOO.out
 rw[HON.out]at hw10⊢
 have hw10:Wd X [Uz X (.slice A n c) l,Da F N 3 (Ct X.sz ((3:Nat):Int)) l X.sz,Cs fb 28 [F,N,.int .i64 3,n],Da F2 N2 2 (Ct X.sz ((2:Nat):Int)) out X.sz,Cs gb 28 [F2,N2,.int .i64 2,n],Uz X (.slice B n bc) out] (m3+N2) Lf:=hw10
 obtain⟨Z,hZ⟩:∃Z,Z=(zcells (List.replicate 300 0)).toArray:=⟨_,rfl⟩
 have hz:=fun w=>arr_zero w Z hZ
 obtain⟨ab,Yf⟩:∃ab,ab=Lf.heap.size:=⟨_,rfl⟩
 have HH:Hid (Wd X [Uz X (.slice A n c) l,Da F N 3 (Ct X.sz ((3:Nat):Int)) l X.sz,Cs fb 28 [F,N,.int .i64 3,n],Da F2 N2 2 (Ct X.sz ((2:Nat):Int)) out X.sz,Cs gb 28 [F2,N2,.int .i64 2,n],Uz X (.slice B n bc) out,Cs ab 45 (zcells (List.replicate 300 0))] (m3+N2) (Lf.alloc (.cells Z 45))):=by
  have:=hw10.new ((Below.refl Lf Lf).alloc (Nat.le_refl _) (.cells Z 45)) (show Row (Lf.alloc (.cells Z 45)) Lf 45 (zcells (List.replicate 300 0))by rw[hZ];exact heap_alloc_new _ _) (Nat.le_refl _)
  rw[←Yf]at this
  exact this
 have dU:=Lib.hid Yf
 clear hw10 hZ Yf
 go_wp2_with fail
 rw[←dU.out]
 clear hz dU
 generalize Lf.alloc (.cells Z 45)=w11 at*
 go_loopw [16] (fun iv wr=>∃(k:Nat) (T:List Int),k≤n∧iv=.int .i64 (k:Int)∧Hid (Fil out k T)∧Hid (Wd X [Uz X (.slice A n c) l,Da F N 3 (Ct X.sz ((3:Nat):Int)) l X.sz,Cs fb 28 [F,N,.int .i64 3,n],Da F2 N2 2 (Ct X.sz ((2:Nat):Int)) out X.sz,Cs gb 28 [F2,N2,.int .i64 2,n],Uz X (.slice B n bc) out,Cs ab 45 (zcells T)] (m3+N2) wr)) (fun iv _=>n-(intOf iv).toNat)
 case atStart=>exact⟨0,_,Nat.zero_le _,rfl,Fil.zero out,HH.out⟩
 case round=>
  obtain⟨k,T,hk,rfl,HT,HK⟩:=hrel
  by_cases hlt:k<n
  ·have gl:decide (k<n)=true:=by simp;exact hlt
   have HM3:Hid (k+1≤n∧n-(k+1)<n-k):=⟨by omega,by omega⟩
   have n240:n≤240:=HN.out
   obtain⟨B',b',he,hr,_⟩:=HK.out.AX4 (i:=5) rfl HTOO.out
   rw[HON.out]at he hr
   injection he with e1 e2 e3
   subst e1
   clear e2 e3
   obtain⟨bb,off,u,rfl,qK,q0,q1,_,_,_,_,hu⟩:=hr.at_ hlt
   have HU:=Lib.hid hu.out
   obtain⟨h0,h300⟩:=HOA.out u (List.mem_of_getElem? hu.out)
   obtain⟨ub,hub⟩:∃ub,ub=u.b:=⟨_,rfl⟩
   obtain⟨ua,hua⟩:=Int.eq_ofNat_of_zero_le h0
   rw[hua]at q0 h300
   rw[←hub]at q1
   have HUA:=Lib.hid hua
   have HUB:=Lib.hid hub
   have hua3:ua<300:=by omega
   have ga:decide ((ua:Int)<0)=false:=by simp
   have gb':decide ((ua:Int)≥300)=false:=by simp;omega
   have gb2:decide (300≤ua)=false:=by simp;omega
   have k0':(0:Int)≤(k:Int):=by omega
   have Tq:(k:Int)<(n:Int):=by omega
   have Tf:Hid (∀q,Wd X [Uz X (.slice A n c) l,Da F N 3 (Ct X.sz ((3:Nat):Int)) l X.sz,Cs fb 28 [F,N,.int .i64 3,n],Da F2 N2 2 (Ct X.sz ((2:Nat):Int)) out X.sz,Cs gb 28 [F2,N2,.int .i64 2,n],Uz X (.slice (bb,off) n bc) out,Cs ab 45 (zcells (T.set ua ub))] (m3+N2) ((wr.drewN q).setCell (ab,ua) ub)):=fun q=>by
    have h9:=(HK.out.drewN q).store (i:=6) rfl (by decide) ua ub
    rw[←zcells_set]at h9
    exact h9
   have pS:Hid (Fil out (k+1) (T.set ua ub)):=by
    have h9:=HT.out.step YO.out.up HOA.out HU.out
    rw[HUA.out,←HUB.out]at h9
    exact h9
   have HDQ:Hid (Row wr ab 45 (zcells T)):=HK.out.row (i:=6) rfl
   have V4:Hid (T.length=300):=HT.out.1
   clear hu h0 hua hub qK
   by_cases WJ:k=0
   ·have gk:decide ((k:Int)>0)=false:=by simp;omega
    have gk2:decide (0<k)=false:=by simp;omega
    clear hr WJ
    go_upto_region 14 with(fail)
    go_quiet (fail)
    go_upto_region 16 with(fail)
    have dr:=HDQ.out
    have dc:wr.cell? (ab,ua)=some (.int .i64 (T.getD ua 0)):=(dr.cell ua).trans (zcells_get (by rw[V4.out];exact hua3))
    have df:wr.frozen? (ab,ua)=false:=dr.free ua
    clear dr HDQ
    go_region
    go_wp2
    go_roundw
    case rel=>exact⟨k+1,_,HM3.out.1,by go_num,pS.out,Tf.out _⟩
    case measure=>simpa [intOf]using HM3.out.2
   ·obtain⟨k1,tw⟩:∃k1,k1=k-1:=⟨_,rfl⟩
    obtain⟨bb',Za,u',e',_,p0,_,_,_,_,_,hu'⟩:=hr.at_ (show k1<n by omega)
    injection e' with e'
    injection e' with e1 e2 e3
    subst e1 e2
    have h9:=up_at YO.out.up hu'.out HU.out (show k1<k by omega)
    obtain⟨h0,_⟩:=HOA.out u' (List.mem_of_getElem? hu'.out)
    obtain⟨va,hva⟩:=Int.eq_ofNat_of_zero_le h0
    rw[hva]at p0 h9
    rw[HUA.out]at h9
    have Gg:(k:Int)-1=(k1:Int):=by omega
    have gk:decide ((k:Int)>0)=true:=by simp;omega
    have gk2:decide (0<k)=true:=by simp;omega
    have gv:decide ((va:Int)≥(ua:Int))=false:=by simp;omega
    have gv2:decide (ua≤va)=false:=by simp;omega
    have j0':(0:Int)≤(k1:Int):=by omega
    have j1':(k1:Int)<(n:Int):=by omega
    have kn:k1≤1000000:=by have:=HN.out;omega
    have Nv:=wrk kn
    have GK:=wri kn
    have UJ:wrap64 ((k:Int)-1)=(k1:Int):=by rw[Gg];exact Nv
    have Zx:IntKind.i64.wrap ((k:Int)-1)=(k1:Int):=by rw[Gg];exact GK
    clear hr hu' h9 h0 hva e3 WJ tw kn
    go_upto_region 14 with(fail)
    go_quiet (fail)
    go_upto_region 16 with(fail)
    clear Gg gk gk2 gv gv2 j0' j1' Nv GK UJ Zx p0
    have dr:=HDQ.out
    have dc:wr.cell? (ab,ua)=some (.int .i64 (T.getD ua 0)):=(dr.cell ua).trans (zcells_get (by rw[V4.out];exact hua3))
    have df:wr.frozen? (ab,ua)=false:=dr.free ua
    clear dr HDQ
    go_region
    go_wp2
    go_roundw
    case rel=>exact⟨k+1,_,HM3.out.1,by go_num,pS.out,Tf.out _⟩
    case measure=>simpa [intOf]using HM3.out.2
  ·obtain rfl:n=k:=by omega
   have gl:decide (n<n)=false:=by simp
   have HRV:=Lib.hid (fil_rk HL0.out YO.out (T:=T) (by rw[HON.out];exact HT.out))
   have V4:Hid (T.length=300):=HT.out.1
   clear HT hk hlt
   go_wp2_with fail
   go_loopw [17,18] (fun kv fv wr=>∃k:Nat,k≤n∧kv=.int .i64 (k:Int)∧Hid (Wd X [Uz X (.slice A n c) l,Da F N 3 (Ct X.sz ((3:Nat):Int)) l X.sz,Cs fb 28 [F,N,.int .i64 3,n],Da F2 N2 2 (Ct X.sz ((2:Nat):Int)) out X.sz,Cs gb 28 [F2,N2,.int .i64 2,n],Uz X (.slice B n bc) out,Cs ab 45 (zcells T)] (m3+N2) wr)) (fun kv _ _=>n-(intOf kv).toNat)
   case atStart=>exact⟨0,Nat.zero_le _,rfl,HK.out⟩
   case round=>
    obtain⟨k,hk,rfl,HQ⟩:=hrel
    by_cases hlt:k<n
    ·have gl:decide (k<n)=true:=by simp;exact hlt
     have HM3:Hid (k+1≤n∧n-(k+1)<n-k):=⟨by omega,by omega⟩
     have n240:n≤240:=HN.out
     obtain⟨A',b',he,hr,_⟩:=HQ.out.AX4 (i:=0) rfl HTO.out
     rw[JC.out]at he hr
     injection he with e1 e2 e3
     subst e1
     clear e2 e3
     obtain⟨bb,off,t,rfl,_,q0,_,_,_,_,_,ht⟩:=hr.at_ hlt
     have htm:=List.mem_of_getElem? ht.out
     obtain⟨h0,h300⟩:=HA3.out t htm
     obtain⟨ta,hta⟩:=Int.eq_ofNat_of_zero_le h0
     rw[hta]at q0 h300
     have hta3:ta<300:=by omega
     have a0':(0:Int)≤(ta:Int):=by omega
     have hrow:Row wr ab 45 (zcells T):=HQ.out.row (i:=6) rfl
     have ca:=(hrow.cell ta).trans (zcells_get (l:=T) (by rw[V4.out];exact hta3))
     have Tf:Hid (∀q,Wd X [Uz X (.slice (bb,off) n c) l,Da F N 3 (Ct X.sz ((3:Nat):Int)) l X.sz,Cs fb 28 [F,N,.int .i64 3,n],Da F2 N2 2 (Ct X.sz ((2:Nat):Int)) out X.sz,Cs gb 28 [F2,N2,.int .i64 2,n],Uz X (.slice B n bc) out,Cs ab 45 (zcells T)] (m3+N2) (wr.drewN q)):=fun q=>HQ.out.drewN q
     have k0':(0:Int)≤(k:Int):=by omega
     have Tq:(k:Int)<(n:Int):=by omega
     by_cases WJ:k=0
     ·have Ft:T.getD ta 0=0:=by
       have h9:=fil_first HCN.out HRV.out ht.out (fun s h=>absurd h (by omega))
       rw[hta]at h9
       exact h9
      rw[Ft]at ca
      have gk:((k:Int)==0)=true:=by simp;omega
      have gk2:decide (k=0)=true:=by simp;omega
      clear hr ht htm h0 hta hrow Ft WJ
      go_upto_region 20 with(fail)
      go_quiet (fail)
      go_upto_region 21 with(fail)
      go_quiet (fail)
      go_wp2
      go_roundw
      case rel=>exact⟨k+1,HM3.out.1,by go_num,Tf.out _⟩
      case measure=>simpa [intOf]using HM3.out.2
     ·obtain⟨k1,tw⟩:∃k1,k1=k-1:=⟨_,rfl⟩
      obtain⟨bb',Za,s,e',_,p0,p1,p2,_,_,_,hs⟩:=hr.at_ (show k1<n by omega)
      injection e' with e'
      injection e' with e1 e2 e3
      subst e1 e2
      have wN:=List.mem_of_getElem? hs.out
      have kn:k1≤1000000:=by have:=HN.out;omega
      have Gg:(k:Int)-1=(k1:Int):=by omega
      have gk:((k:Int)==0)=false:=by simp;omega
      have gk2:decide (k=0)=false:=by simp;omega
      have j0':(0:Int)≤(k1:Int):=by omega
      have j1':(k1:Int)<(n:Int):=by omega
      have Nv:=wrk kn
      have GK:=wri kn
      have UJ:wrap64 ((k:Int)-1)=(k1:Int):=by rw[Gg];exact Nv
      have Zx:IntKind.i64.wrap ((k:Int)-1)=(k1:Int):=by rw[Gg];exact GK
      by_cases Qs:s.b=t.a
      ·have hst:=fil_step HL0.out HRV.out wN htm Qs h0
       obtain⟨g0,g300⟩:=HA3.out s wN
       obtain⟨sa,hsa⟩:=Int.eq_ofNat_of_zero_le g0
       rw[hsa]at p0 g300 hst
       rw[Qs,hta]at p1
       rw[hta]at hst
       have hsa3:sa<300:=by omega
       have b0':(0:Int)≤(sa:Int):=by omega
       have cs:=(hrow.cell sa).trans (zcells_get (l:=T) (by rw[V4.out];exact hsa3))
       have hst:T.getD ta 0=IntKind.i64.wrap (T.getD sa 0+s.c):=hst
       obtain⟨x,hx⟩:∃x,x=T.getD ta 0:=⟨_,rfl⟩
       obtain⟨y,hy⟩:∃y,y=T.getD sa 0:=⟨_,rfl⟩
       obtain⟨sc,hsc⟩:∃sc,sc=s.c:=⟨_,rfl⟩
       rw[←hx]at ca hst
       rw[←hy]at cs hst
       rw[←hsc]at p2 hst
       have Hy:IntKind.i64.wrap (y+sc)=x:=hst.symm
       have gE:wrap64 (y+sc)=x:=(IntWalk.i64_left _).symm.trans hst.symm
       have gne:((ta:Int) !=(ta:Int))=false:=by simp
       have gxx:(x !=x)=false:=by simp
       clear hr ht htm h0 hta hrow hs wN kn Gg tw e3 Qs hst g0 hsa hx hy hsc
       go_upto_region 20 with(fail)
       go_quiet (fail)
       go_upto_region 21 with(fail)
       go_quiet (fail)
       go_wp2
       go_roundw
       case rel=>exact⟨k+1,HM3.out.1,by go_num,Tf.out _⟩
       case measure=>simpa [intOf]using HM3.out.2
      ·have Ft:T.getD ta 0=0:=by
        have h9:=fil_first HCN.out HRV.out ht.out (fun s' h hs'=>by
         rw[←tw,hs.out]at hs'
         injection hs' with hs'
         rw[←hs']
         exact Qs)
        rw[hta]at h9
        exact h9
       rw[Ft]at ca
       rw[hta]at Qs
       obtain⟨sb,hsb2⟩:∃sb,sb=s.b:=⟨_,rfl⟩
       rw[←hsb2]at p1 Qs
       have gne:(sb !=(ta:Int))=true:=by simp;exact Qs
       have gne2:(sb==(ta:Int))=false:=by simp;exact Qs
       clear hr ht htm h0 hta hrow hs wN kn Gg tw e3 Qs hsb2 Ft p0 p2
       go_upto_region 20 with(fail)
       go_quiet (fail)
       go_upto_region 21 with(fail)
       go_quiet (fail)
       go_wp2
       go_roundw
       case rel=>exact⟨k+1,HM3.out.1,by go_num,Tf.out _⟩
       case measure=>simpa [intOf]using HM3.out.2
    ·obtain rfl:n=k:=by omega
     have gl:decide (n<n)=false:=by simp
     have wz:Row wr fb 28 [F,N,.int .i64 3,n]:=HQ.out.row (i:=2) rfl
     have c0:wr.cell? ⟨fb,0,none⟩=some (.int .i64 F):=wz.cell 0
     have c1:wr.cell? ⟨fb,1,none⟩=some (.int .i64 N):=wz.cell 1
     have c2:wr.cell? ⟨fb,2,none⟩=some (.int .i64 3):=wz.cell 2
     have c3:wr.cell? ⟨fb,3,none⟩=some (.int .i64 n):=wz.cell 3
     have PS:Row wr gb 28 [F2,N2,.int .i64 2,n]:=HQ.out.row (i:=4) rfl
     have d0:wr.cell? ⟨gb,0,none⟩=some (.int .i64 F2):=PS.cell 0
     have d1:wr.cell? ⟨gb,1,none⟩=some (.int .i64 N2):=PS.cell 1
     have d2:wr.cell? ⟨gb,2,none⟩=some (.int .i64 2):=PS.cell 2
     have d3:wr.cell? ⟨gb,3,none⟩=some (.int .i64 n):=PS.cell 3
     have hx:=(Below.refl wr wr).alloc (Nat.le_refl _) (.cells #[F,N,.int .i64 3,n,F2,N2,.int .i64 2,n] 28)
     have hrow:Row (wr.alloc (.cells #[F,N,.int .i64 3,n,F2,N2,.int .i64 2,n] 28)) wr 28 [F,N,.int .i64 3,n,F2,N2,.int .i64 2,n]:=heap_alloc_new _ _
     have GJ:Hid (Calls Tryz.prog 15 #[.pointer p.w,.slice wr 2 2] (wr.alloc (.cells #[F,N,.int .i64 3,n,F2,N2,.int .i64 2,n] 28)) fun e w'=>e=.returned true∧Below w w w'):=by
      have h8:=xZ (n:=2) (c:=2) (rb:=wr) (bs:=fun i=>if i=0 then N else N2) (HQ.out.below hx) HX.out.2.2.2.1 rfl (by show 0+(N+(0+(N2+(0+(0+(0+0))))))=0+N+N2;omega) (by omega) (fun i hi=>by
       rcases(show i=0∨i=1 by omega)with rfl|rfl
       ·exact⟨by have:=HNB.out;simp;omega,hrow.cell 1⟩
       ·exact⟨by have:=pM.out;simp;omega,hrow.cell 5⟩) (fun _=>hrow.lt)
      rw[HX.out.1]at h8
      exact h8.mono fun e w' ⟨he,hw⟩=>⟨he,QE.out _ _ _ hw⟩
     clear hx hrow wz PS
     go_wp2_with fail
     refine GJ.out.mono ?_
     rintro e w14 ⟨rfl,hb14⟩
     have HBE:=Lib.hid hb14
     clear hb14
     go_wp2
     go_ret
     exact⟨rfl,HBE.out⟩
set_option maxRecDepth 100000 in
theorem lifted(os:Os)(started:os.Started)(H:Type)(enc:TypeId×Value→H):
  ReturnsInHanded {} Tryz.checked os 4 .any (Rows.rankWalksSpec.pre6 enc Tryz.prog Tryz.f4 Rows.rankWalksRow.domain false) (Rows.rankWalksSpec.post enc Tryz.prog Tryz.f4 false true false false):=by
 refine returnsInHanded_of_change (C:=Tryz.checked) own started (by kernel_rfl) Tryz.func4
  (ChangeSpec.witness6 (enc:=enc) (C:=Tryz.checked) false ⟨#[],#[.slice none 0 0,.int .u16 0,.slice none 0 0],[]⟩ 8 (by kernel_rfl) (by kernel_rfl) (by kernel_rfl) (by kernel_rfl)) ?_
 intro W base args ds gs before hval0 hW hcnd _
 have hval:∀(j:Nat) t v,Tryz.f4.params[j]?=some t→args[j]?=some v→Value.okWide Tryz.prog W .any base t v:=hval0
 have hW':=hW
 obtain⟨p,q,uK,hV,rfl,hfz,wW⟩:=hW
 have hA:DataW.TrodAll enc Tryz.prog W 0 (fun _=>true) true Tryz.f4.params.toList args.toList ds p:=uK
 rw[Tryz.params4]at hA hval
 obtain⟨v0,vs0,d0,ds0,p0,q0,hargs,rfl,rfl,h0,r0⟩:=trodAll_cons hA
 obtain⟨v1,vs1,d1,ds1,p1,q1,rfl,rfl,rfl,h1,r1⟩:=trodAll_cons r0
 obtain⟨v2,vs2,d2,ds2,p2,q2,rfl,rfl,rfl,h2,r2⟩:=trodAll_cons r1
 obtain⟨rfl,rfl,rfl⟩:=trodAll_nil r2
 obtain rfl:args=#[v0,v1,v2]:=by cases args;simp_all
 obtain⟨rfl,rfl⟩:=trodVars_none hV
 have k0:=h0
 have lt0:∀x∈p0,x.block<W:=by obtain⟨m,hm⟩:=k0;exact DataW.trod_lt m _ _ _ hm
 have k1:=h1
 have lt1:∀x∈p1,x.block<W:=by obtain⟨m,hm⟩:=k1;exact DataW.trod_lt m _ _ _ hm
 have k2:=h2
 have lt2:∀x∈p2,x.block<W:=by obtain⟨m,hm⟩:=k2;exact DataW.trod_lt m _ _ _ hm
 obtain⟨a0,len0,cap0,rfl⟩:=okWide_slice Tryz.underlying41 (hval 0 41 v0 rfl rfl)
 obtain⟨z0,w0⟩:∃zs,Up .u8 W a0 len0 cap0 zs:=by
  obtain⟨fuel,hf⟩:=h0
  rcases open_ints Tryz.underlying41 Tryz.underlying5 (by kernel_rfl) hf with⟨hcs,_⟩|⟨x,l,c,zs,hcs,_,hl,hm,hz,_,GU,hwz⟩
  ·simp[Value.cells]at hcs
   obtain⟨rfl,rfl,rfl⟩:=hcs
   exact⟨[],.inl ⟨rfl,rfl,rfl,rfl⟩⟩
  ·simp[Value.cells]at hcs
   obtain⟨rfl,rfl,rfl⟩:=hcs
   exact⟨zs,.inr ⟨_,rfl,hl,hm,by simpa using hz,GU,hwz⟩⟩
 obtain⟨a1,rfl,rfl,rfl,w1⟩:=open_int Tryz.underlying42 (hval 1 42 v1 rfl rfl) h1
 obtain⟨a2,len2,cap2,rfl⟩:=okWide_slice Tryz.underlying43 (hval 2 43 v2 rfl rfl)
 obtain⟨z2,w2⟩:∃zs,Up .i64 W a2 len2 cap2 zs:=by
  obtain⟨fuel,hf⟩:=h2
  rcases open_ints Tryz.underlying43 Tryz.underlying2 (by kernel_rfl) hf with⟨hcs,_⟩|⟨x,l,c,zs,hcs,_,hl,hm,hz,_,GU,hwz⟩
  ·simp[Value.cells]at hcs
   obtain⟨rfl,rfl,rfl⟩:=hcs
   exact⟨[],.inl ⟨rfl,rfl,rfl,rfl⟩⟩
  ·simp[Value.cells]at hcs
   obtain⟨rfl,rfl,rfl⟩:=hcs
   exact⟨zs,.inr ⟨_,rfl,hl,hm,by simpa using hz,GU,hwz⟩⟩
 clear uK hval0
 refine(walk a0 len0 cap0 z0 a1 a2 len2 cap2 z2 W w0 w1 w2).mono fun e W' ⟨he,Tw⟩=>?_
 subst he
 exact⟨_,rfl,_,_,_,[],_,[],hW',trodAll_mk1 (shut_bool Tryz.underlying4 _),(trodAll_cons_mk (Below.trod laidOut (by kernel_rfl) (of_decide_eq_true (by kernel_rfl)) k0 Tw lt0) (trodAll_cons_mk (Below.trod laidOut (by kernel_rfl) (of_decide_eq_true (by kernel_rfl)) k1 Tw lt1) (trodAll_cons_mk (Below.trod laidOut (by kernel_rfl) (of_decide_eq_true (by kernel_rfl)) k2 Tw lt2) trodAll_mk0))),rfl,Tw.frame _,fun h=>by cases h⟩
theorem over:Rows.rankWalksRow.holds Tryz.pinned (OpenSpec.ofChange Rows.rankWalksSpec):=
 OpenClaim.holds_of_wide 4 Tryz.f4 rfl rfl rfl rfl rfl rfl rfl ⟨rfl,rfl,rfl,rfl,rfl⟩ rfl rfl rfl rfl rfl (by kernel_rfl) Tryz.func4 (by kernel_rfl)
  (of_decide_eq_true (by kernel_rfl)) (by unfold Func.isWrapper;first|(rw[if_pos (by decide+kernel)];kernel_rfl)|(rw[if_neg (by decide+kernel)];exact⟨rfl,rfl⟩))
  (fun os started H enc _=>lifted os started H enc)
theorem proved:Rows.RankWalksSaid:=over
end Go.Proofs.YthfnbpjegjbbiaaGreat.rankWalks
