/-
  RankOrder: whatever tuples and shift; no condition.
-/
import Derived.Test.YthfnbpjegjbbiaaGreatQF
import Derived.Test.YthfnbpjegjbbiaaGreatRows
import Derived.WalkKit
import Derived.ProofKit
import Derived.OpenShut
import Derived.ShutString
import Derived.ChangeOld
import Derived.Below
namespace Go.Proofs.YthfnbpjegjbbiaaGreat.rankOrder
open Go.ChangeShapes Go.WideShapes Go.ChangeAt Go.RowKit
open Go.ChangeMaps (open_string shut_string)
set_option linter.unusedVariables false
set_option linter.unusedSimpArgs false

theorem own:ownKnob Tryz.prog.godebug=none:=by kernel_rfl
theorem laidOut:laidOutB Tryz.prog=true:=by kernel_rfl
set_option maxHeartbeats 4000000 in
set_option maxRecDepth 100000 in
theorem walk(a0:Option Addr)(len0 cap0:Nat)(l0:List Cy)(a1:Int)(w:World)(wr0:El w w a0 len0 l0)(wm0:len0≤maxLen)(w1:(Lit.int .u8 a1).wf=true):
  Calls Tryz.prog 8 #[.slice a0 len0 cap0,.int .u8 a1] w fun e w'=>e=.returned true∧Below w w w':=by
 have hm2:len0≤9223372036854775807:=by unfold maxLen at wm0;omega
 obtain⟨v1,rfl⟩:=Int.eq_ofNat_of_zero_le (show 0≤a1 by have:=bounds_u8 w1;omega)
 have hv255:v1≤255:=by have:=bounds_u8 w1;omega
 obtain⟨l,hl⟩:∃l,l=l0:=⟨_,rfl⟩
 obtain⟨n,hn⟩:∃n,n=len0:=⟨_,rfl⟩
 rw[←hl,←hn]at wr0
 rw[←hn]at wm0 hm2⊢
 clear hl hn
 have Gg:Hid (l.length=n):=wr0.1
 have HOKT:Hid (∀u∈l,D7 u):=wr0.2.1
 have HL:Hid (∀W,Below w w W→El W W a0 n l):=fun W hb=>(wr0.GQ hb).mono hb.size
 have HAW:Hid (∀W,Calls Tryz.prog 10 #[] W fun e w'=>e=.returned true∧Below W W w'):=fun W=>xS W
 have hwv:IntKind.i64.wrap (v1:Int)=(v1:Int):=IntWalk.i64_in _ (by omega)
 have HWK:Hid (∀W,Calls Tryz.prog 9 #[.int .i64 9] W fun e w'=>∃p G,e=.returned (.pointer p.w)∧Sys w' G p (plF 10 (10*9) 6000) 0∧(∀k,G k→W≤k)∧Below W W w'):=fun W=>Yy 9 (by omega) W
 have pq:Hid (∀W,Below w w W→Calls Tryz.prog 11 #[.slice a0 n cap0,.int .i64 3] W fun e w'=>e=.returned (.bool (l.all (Db 3)))∧Below W W w'):=fun W hb=>AE9 a0 n cap0 l 3 W (HL.out W hb) (by omega) wm0
 have HWM:=Lib.hid wm0
 clear wr0 wm0 w1
 go_enter Tryz.func8,Tryz.ntmps8
 go_wp2_with fail
 refine(HAW.out _).mono ?_
 rintro e w1 ⟨rfl,Dg⟩
 have NQ:=Lib.hid Dg
 clear Dg
 by_cases h150:n>150
 ·have g1:decide ((n:Int)>150)=true:=by simp;omega
  clear h150
  go_wp2_with fail
  refine(HAW.out _).mono ?_
  rintro e w4 ⟨rfl,IE⟩
  have PL:=Lib.hid (NQ.out.trans (IE.mono NQ.out.size))
  clear IE
  go_wp2
  go_ret
  exact⟨rfl,PL.out⟩
 have g1:decide ((n:Int)>150)=false:=by simp;omega
 have H150:Hid (n≤150):=by unfold Hid;omega
 clear h150
 go_wp2_with fail
 refine(pq.out _ NQ.out).mono ?_
 rintro e w2 ⟨rfl,DT⟩
 have Fg:=Lib.hid (NQ.out.trans (DT.mono NQ.out.size))
 clear DT NQ
 cases zw:l.all (Db 3)
 ·clear zw
  go_wp2_with fail
  refine(HAW.out _).mono ?_
  rintro e w5 ⟨rfl,Fx⟩
  have EV:=Lib.hid (Fg.out.trans (Fx.mono Fg.out.size))
  clear Fx
  go_wp2
  go_ret
  exact⟨rfl,EV.out⟩
 have HFT:Hid (∀u∈l,Db 3 u=true):=List.all_eq_true.1 zw
 clear zw pq HAW
 go_wp2_with fail
 refine(HWK.out _).mono ?_
 rintro e w3 ⟨p,G,rfl,hs,hG,ED⟩
 obtain⟨X,hX⟩:∃X,X=cxL w2 p 90 10 6000 True 0:=⟨_,rfl⟩
 have h3:Wd X [] 0 w3:=by rw[hX];exact oS hs hG ED (by omega) (by omega)
 have HX:Hid (X.p=p∧X.sz=10∧X.rm=90∧X.S0=Hs 0 6000∧X.cm∧X.N=0∧X.w0=w2):=by rw[hX];exact⟨rfl,rfl,rfl,rfl,trivial,rfl,rfl⟩
 have Q8:Hid (∀os m u,Wd X os m u→Below w w u):=fun os m u h=>by
  have:=h.WV
  rw[HX.out.2.2.2.2.2.2]at this
  exact Fg.out.trans (this.mono Fg.out.size)
 have H3:=Lib.hid h3
 have Ei:Hid (Below w w w3):=Q8.out _ _ _ h3
 clear hs hG ED HWK hX h3 g1
 go_wp2_with fail
 go_loopw [6,7] (fun mv iv wr=>∃(i c:Nat) (A:Option Addr),i≤n∧iv=.int .i64 (i:Int)∧mv=.slice A i c∧Hid (Below w3.heap.size w3 wr)∧Hid (wr.ownsRow w3.heap.size 47 5 (.slice A i c) i (EB (JB l v1 i)))) (fun _ iv _=>n-(intOf iv).toNat)
 case atStart=>exact⟨0,0,none,Nat.zero_le _,rfl,rfl,Below.refl _ _,⟨rfl,.inl ⟨rfl,rfl⟩⟩⟩
 case round=>
  obtain⟨i,cm,Am,hi,rfl,rfl,HW,HO⟩:=hrel
  by_cases hlt:i<n
  ·have gl:decide ((i:Int)<(n:Int))=true:=by simp;omega
   obtain⟨n1,RF⟩:∃n1,n1=n-1:=⟨_,rfl⟩
   obtain⟨q1,Xg⟩:∃q1,q1=n1-i:=⟨_,rfl⟩
   obtain⟨q2,qJ⟩:∃q2,q2=q1+v1:=⟨_,rfl⟩
   have Gp:(n:Int)-1=(n1:Int):=by omega
   have G9:(n1:Int)-(i:Int)=(q1:Int):=by omega
   have Tg:(q1:Int)+(v1:Int)=(q2:Int):=by omega
   have l150:=H150.out
   have HI:Hid (i≤150):=by unfold Hid;omega
   have m1:n1≤1000000:=by omega
   have m2:q1≤1000000:=by omega
   have m3:q2≤1000000:=by omega
   have hj:q2%n=dw n v1 i:=by rw[qJ,Xg,RF];rfl
   have hjn:dw n v1 i<n:=Re hlt
   obtain⟨j,hjj⟩:∃j,j=dw n v1 i:=⟨_,rfl⟩
   rw[←hjj]at hj hjn
   have htm:Int.tmod (q2:Int) (n:Int)=(j:Int):=by rw[←hj];rfl
   have j0:(0:Int)≤(j:Int):=by omega
   have j1:(j:Int)<(n:Int):=by omega
   have nz:¬n=0:=by omega
   have Js:Below w w wr:=Ei.out.trans (HW.out.mono Ei.out.size)
   obtain⟨bb,off,t,rfl,QW,qx0,qx1,qx2,qx3,qx4,hto,ht⟩:=(HL.out wr Js).at_ hjn
   have HTU:Hid (JB l v1 (i+1)=JB l v1 i++[t]):=by
    unfold Hid
    rw[vc,Gg.out,←hjj,List.getD_eq_getElem?_getD,ht.out]
    rfl
   have hx6:=HW.out.alloc HW.out.size (.cells #[t.a,t.b,t.c,t.d,t.e] 47)
   have hx7:=(Below.refl wr wr).alloc (Nat.le_refl _) (.cells #[t.a,t.b,t.c,t.d,t.e] 47)
   have MM:Row (wr.alloc (.cells #[t.a,t.b,t.c,t.d,t.e] 47)) wr 47 (DH t):=heap_alloc_new _ _
   have HO6:=Lib.hid (Gm HO.out hx7)
   have PJ:=Lib.hid hx6
   have jD:=Lib.hid MM
   have HM3:Hid (i+1≤n∧n-(i+1)<n-i):=⟨by omega,by omega⟩
   clear RF Xg qJ hj hjj hjn Js QW hto ht hx6 hx7 MM HW HO l150 hi
   have Ns:wrap64 ((n:Int)-1-(i:Int)+(v1:Int))=(q2:Int):=by
    have e:(n:Int)-1-(i:Int)+(v1:Int)=(q2:Int):=by rw[Gp,G9,Tg]
    rw[e]
    exact AD7 m3
   have hnz2:((n:Int)==0)=false:=by simp;exact nz
   have gT:(0:Int)<(n:Int):=by omega
   clear m1 m2 m3 Gp G9 Tg
   go_wp2_with (with_reducible refine EW 56 ?_)
   unfold Hid
   refine Le rfl _ _ rfl HO6.out rfl wr rfl t (fun j y hj=>?_) (by have:=HI.out;omega) PJ.out.size ?_
   ·rw[←hj,AB1]
    exact jD.out.cell j
   intro v' W9 ER Vq gC
   rw[←HTU.out]at ER
   obtain⟨g9,cap9,rfl⟩:=Joins.ownsRow_form ER (Nat.succ_pos i)
   have HB9:Hid (Below w3 w3 W9):=PJ.out.trans (Vq.below PJ.out.size fun q hq=>(HO6.out.lt q hq).1)
   have HO9:=Lib.hid ER
   clear ER Vq gC HO6 PJ jD Ns htm j0 j1 nz hnz2 gT hwv qx0 qx1 qx2 qx3 qx4
   go_wp2
   go_roundw
   case rel=>exact⟨i+1,cap9,_,HM3.out.1,by go_num,rfl,HB9.out,HO9.out⟩
   case measure=>simpa [intOf]using HM3.out.2
  ·obtain rfl:n=i:=by omega
   have gl:decide (n<n)=false:=by simp
   have h4:Wd X [VC X (.slice Am n cm) (JB l v1 n)] 0 wr:=H3.out.AX4 HW.out HO.out (Ie _ _ _)
   obtain⟨m,hm⟩:∃m,m=JB l v1 n:=⟨_,rfl⟩
   have em:m=JB l v1 l.length:=by rw[hm,Gg.out]
   rw[←hm]at h4
   have HML:Hid (m.length=n):=by unfold Hid;rw[hm];exact Ie _ _ _
   have xm:Hid (GJ l↔GJ m):=by unfold Hid;rw[em];exact qB
   have HMO:Hid (∀out,Gx l out→Gx m out):=fun out h=>by rw[em];exact yJ h
   have HFM:Hid (∀u∈m,Db 3 u=true):=fun u hu=>HFT.out u ((Hj u).2 (by rw[←em];exact hu))
   have HTM:Hid (∀u∈m,D7 u):=fun u hu=>HOKT.out u ((Hj u).2 (by rw[←em];exact hu))
   have HH:=Lib.hid h4
   clear h4 hm em HW HO hlt hi H3 hwv
   have HLY:Hid (Calls Tryz.prog 12 #[.pointer p.w,.int .i64 3,.slice a0 n cap0] wr fun e w'=>∃F1 N1:Nat,e=.returned (.tuple #[.agg #[F1,N1,.int .i64 3,n],()])∧Gh F1 N1 3 (Cw X.sz ((3:Nat):Int)) l X.sz∧Wd X [VC X (.slice Am n cm) m,De F1 N1 3 (Cw X.sz ((3:Nat):Int)) l X.sz] (0+N1) w'):=by
    have h9:=yI (k:=3) (n:=n) (c:=cap0) (A:=a0) HH.out HX.out.2.2.2.2.1 (by omega) (fun z m' W' q=>HL.out W' (Q8.out _ _ _ q)) (by have:=Gg.out;have:=HML.out;have:=H150.out;omega) HFT.out (by rw[HX.out.2.1,HX.out.2.2.1];show 10+0≤90;omega) (by rw[HX.out.2.2.2.2.2.1];have:=Gg.out;have:=HML.out;have:=H150.out;omega) (AE8 HX.out.2.2.2.1 [] (q:=150) (fun e he=>(by cases he)) (fun a ha=>by
     simp at ha
     rcases ha with rfl
     exact .inl rfl) (by
     have h:=Dl (Cw X.sz ((3:Nat):Int)) l.length
     have:=Gg.out
     have:=HML.out
     have:=H150.out
     obtain⟨z,hz⟩:∃z,z=Cu (Cw X.sz ((3:Nat):Int)) l.length:=⟨_,rfl⟩
     rw[←hz]at h⊢
     simp only[List.length_nil]
     omega))
    rw[HX.out.1]at h9
    exact h9
   go_wp2_with fail
   refine HLY.out.mono ?_
   rintro e w5 ⟨F1,N1,rfl,hfo1,Jr⟩
   clear HH
   have hN1:N1≤150:=by rw[hfo1.bn];have:=Dl (Cw X.sz ((3:Nat):Int)) l.length;have:=Gg.out;have:=HML.out;have:=H150.out;omega
   have vK:=Lib.hid hN1
   have HFO1:=Lib.hid hfo1
   clear hN1 hfo1 HLY
   obtain⟨w6,qE⟩:∃w6,w6=w5.alloc (.cells #[F1,N1,.int .i64 3,n] 28):=⟨_,rfl⟩
   obtain⟨fb,LL⟩:∃fb,fb=w5.heap.size:=⟨_,rfl⟩
   have hh:Wd X [VC X (.slice Am n cm) m,De F1 N1 3 (Cw X.sz ((3:Nat):Int)) l X.sz,Cv fb 28 [F1,N1,.int .i64 3,n]] (0+N1) w6:=by
    rw[qE,LL]
    have:=Jr.new ((Below.refl w5 w5).alloc (Nat.le_refl _) (.cells #[F1,N1,.int .i64 3,n] 28)) (heap_alloc_new _ _:Row _ _ 28 [F1,N1,.int .i64 3,n]) (Nat.le_refl _)
    exact this
   have HH:=Lib.hid hh
   have HW:=Lib.hid qE
   have HB:=Lib.hid LL
   clear hh qE LL Jr
   have HLY:Hid (Calls Tryz.prog 12 #[.pointer p.w,.int .i64 3,.slice Am n cm] w6 fun e w'=>∃F2 N2:Nat,e=.returned (.tuple #[.agg #[F2,N2,.int .i64 3,n],()])∧Gh F2 N2 3 (Cw X.sz ((3:Nat):Int)) m X.sz∧Wd X [VC X (.slice Am n cm) m,De F1 N1 3 (Cw X.sz ((3:Nat):Int)) l X.sz,Cv fb 28 [F1,N1,.int .i64 3,n],De F2 N2 3 (Cw X.sz ((3:Nat):Int)) m X.sz] (0+N1+N2) w'):=by
    have h9:=yI (k:=3) (n:=n) (c:=cm) (A:=Am) HH.out HX.out.2.2.2.2.1 (by omega) (fun z m' W' q=>by
     obtain⟨A',c',zi,hr',_⟩:=q.AW2 (i:=0) (by simp;rfl) HTM.out
     injection zi with e1 e2 e3
     rw[HML.out,←e1]at hr'
     exact hr') (by have:=Gg.out;have:=HML.out;have:=H150.out;omega) HFM.out (by rw[HX.out.2.1,HX.out.2.2.1];show 10+0≤90;omega) (by rw[HX.out.2.2.2.2.2.1];have:=Gg.out;have:=HML.out;have:=H150.out;have:=vK.out;omega) (AE8 HX.out.2.2.2.1 [(F1,N1)] (q:=150) (fun e he=>by simp at he;subst he;exact vK.out) (fun a ha=>by
     simp at ha
     rcases ha with rfl|rfl|rfl
     ·exact .inl rfl
     ·exact .inr (by simp[De])
     ·exact .inl rfl) (by
     have h:=Dl (Cw X.sz ((3:Nat):Int)) m.length
     have:=Gg.out
     have:=HML.out
     have:=H150.out
     obtain⟨z,hz⟩:∃z,z=Cu (Cw X.sz ((3:Nat):Int)) m.length:=⟨_,rfl⟩
     rw[←hz]at h⊢
     simp only[List.length_cons,List.length_nil]
     omega))
    rw[HX.out.1]at h9
    exact h9
   go_upto_region 10 with(fail)
   rw[←HW.out,←HB.out]
   clear HW HB
   go_wp2_with fail
   refine HLY.out.mono ?_
   rintro e w7 ⟨F2,N2,rfl,hfo2,cD⟩
   clear HH
   have hN2:N2≤150:=by rw[hfo2.bn];have:=Dl (Cw X.sz ((3:Nat):Int)) m.length;have:=Gg.out;have:=HML.out;have:=H150.out;omega
   have pT:=Lib.hid hN2
   have HFO2:=Lib.hid hfo2
   clear hN2 hfo2 HLY
   obtain⟨w8,hw8⟩:∃w8,w8=w7.alloc (.cells #[F2,N2,.int .i64 3,n] 28):=⟨_,rfl⟩
   obtain⟨gb,hgb⟩:∃gb,gb=w7.heap.size:=⟨_,rfl⟩
   have hh:Wd X [VC X (.slice Am n cm) m,De F1 N1 3 (Cw X.sz ((3:Nat):Int)) l X.sz,Cv fb 28 [F1,N1,.int .i64 3,n],De F2 N2 3 (Cw X.sz ((3:Nat):Int)) m X.sz,Cv gb 28 [F2,N2,.int .i64 3,n]] (0+N1+N2) w8:=by
    rw[hw8,hgb]
    have:=cD.new ((Below.refl w7 w7).alloc (Nat.le_refl _) (.cells #[F2,N2,.int .i64 3,n] 28)) (heap_alloc_new _ _:Row _ _ 28 [F2,N2,.int .i64 3,n]) (Nat.le_refl _)
    exact this
   have HH:=Lib.hid hh
   have HW:=Lib.hid hw8
   have HB:=Lib.hid hgb
   clear hh hw8 hgb cD
   have cr:Row w8 fb 28 [F1,N1,.int .i64 3,n]:=HH.out.row (i:=2) rfl
   have c0:w8.cell? ⟨fb,0,none⟩=some (.int .i64 F1):=cr.cell 0
   have c1:w8.cell? ⟨fb,1,none⟩=some (.int .i64 N1):=cr.cell 1
   have c2:w8.cell? ⟨fb,2,none⟩=some (.int .i64 3):=cr.cell 2
   have c3:w8.cell? ⟨fb,3,none⟩=some (.int .i64 n):=cr.cell 3
   clear cr
   have HRK:Hid (Calls Tryz.prog 13 #[.pointer p.w,.agg #[F1,N1,.int .i64 3,n]] w8 (o6 X [VC X (.slice Am n cm) m,De F1 N1 3 (Cw X.sz ((3:Nat):Int)) l X.sz,Cv fb 28 [F1,N1,.int .i64 3,n],De F2 N2 3 (Cw X.sz ((3:Nat):Int)) m X.sz,Cv gb 28 [F2,N2,.int .i64 3,n]] l (0+N1+N2))):=by
    have h9:=jx HH.out HFO1.out (by simp) Gg.out (by have:=H150.out;omega) (by rw[HX.out.2.1,HX.out.2.2.1];show 8*10+0≤90;omega) (by rw[HX.out.2.2.1];omega) (by rw[HX.out.2.2.2.2.2.1];have:=vK.out;have:=pT.out;unfold KR at*;omega)
    rw[HX.out.1]at h9
    exact h9
   have HRM:Hid (∃z,Rm X [VC X (.slice Am n cm) m,De F1 N1 3 (Cw X.sz ((3:Nat):Int)) l X.sz,Cv fb 28 [F1,N1,.int .i64 3,n],De F2 N2 3 (Cw X.sz ((3:Nat):Int)) m X.sz,Cv gb 28 [F2,N2,.int .i64 3,n]] z (MA l.length)):=AE8 HX.out.2.2.2.1 [(F1,N1),(F2,N2)] (q:=150) (fun e he=>by
    simp at he
    rcases he with rfl|rfl
    ·exact vK.out
    ·exact pT.out) (fun a ha=>by
    simp at ha
    rcases ha with rfl|rfl|rfl|rfl|rfl
    ·exact .inl rfl
    ·exact .inr (by simp[De])
    ·exact .inl rfl
    ·exact .inr (by simp[De])
    ·exact .inl rfl) (by have:=Gg.out;have:=HML.out;have:=H150.out;simp[MA];omega)
   go_upto_region 11 with(fail)
   rw[←HW.out,←HB.out]
   clear HW HB
   clear HH
   go_wp2_with fail
   refine HRK.out.mono ?_
   rintro e w9 hres
   clear c0 c1 c2 c3 HRK
   by_cases hrk:GJ l
   case neg=>
    obtain⟨m3,rfl,hm3,hw9⟩:=AN8 hres hrk HX.out.2.2.2.2.1 HRM.out
    have dQ:Hid (m3≤0+N1+N2+KR):=hm3
    have vJ:Hid (¬GJ m):=fun h=>hrk (xm.out.2 h)
    clear hres hrk hm3 HRM
    obtain⟨Lf,hw10⟩:∃Lf,Lf=w9.alloc (.cells #[(),(),(),()] 28):=⟨_,rfl⟩
    obtain⟨xb,Od⟩:∃xb,xb=w9.heap.size:=⟨_,rfl⟩
    have hh:Wd X [VC X (.slice Am n cm) m,De F1 N1 3 (Cw X.sz ((3:Nat):Int)) l X.sz,Cv fb 28 [F1,N1,.int .i64 3,n],De F2 N2 3 (Cw X.sz ((3:Nat):Int)) m X.sz,Cv gb 28 [F2,N2,.int .i64 3,n],Cv xb 28 [(),(),(),()]] (m3) Lf:=by
     rw[hw10,Od]
     have:=hw9.new ((Below.refl w9 w9).alloc (Nat.le_refl _) (.cells #[(),(),(),()] 28)) (heap_alloc_new _ _:Row _ _ 28 [(),(),(),()]) (Nat.le_refl _)
     exact this
    have HH:=Lib.hid hh
    have HW:=Lib.hid hw10
    have HB:=Lib.hid Od
    clear hh hw10 Od hw9
    have dr:Row Lf gb 28 [F2,N2,.int .i64 3,n]:=HH.out.row (i:=4) rfl
    have d0:Lf.cell? ⟨gb,0,none⟩=some (.int .i64 F2):=dr.cell 0
    have d1:Lf.cell? ⟨gb,1,none⟩=some (.int .i64 N2):=dr.cell 1
    have d2:Lf.cell? ⟨gb,2,none⟩=some (.int .i64 3):=dr.cell 2
    have d3:Lf.cell? ⟨gb,3,none⟩=some (.int .i64 n):=dr.cell 3
    clear dr
    have HRK:Hid (Calls Tryz.prog 13 #[.pointer p.w,.agg #[F2,N2,.int .i64 3,n]] Lf (o6 X [VC X (.slice Am n cm) m,De F1 N1 3 (Cw X.sz ((3:Nat):Int)) l X.sz,Cv fb 28 [F1,N1,.int .i64 3,n],De F2 N2 3 (Cw X.sz ((3:Nat):Int)) m X.sz,Cv gb 28 [F2,N2,.int .i64 3,n],Cv xb 28 [(),(),(),()]] m (m3))):=by
     have h9:=jx HH.out HFO2.out (by simp) HML.out (by have:=H150.out;omega) (by rw[HX.out.2.1,HX.out.2.2.1];show 8*10+0≤90;omega) (by rw[HX.out.2.2.1];omega) (by rw[HX.out.2.2.2.2.2.1];have:=vK.out;have:=pT.out;have:=dQ.out;unfold KR at*;omega)
     rw[HX.out.1]at h9
     exact h9
    have HRM:Hid (∃z,Rm X [VC X (.slice Am n cm) m,De F1 N1 3 (Cw X.sz ((3:Nat):Int)) l X.sz,Cv fb 28 [F1,N1,.int .i64 3,n],De F2 N2 3 (Cw X.sz ((3:Nat):Int)) m X.sz,Cv gb 28 [F2,N2,.int .i64 3,n],Cv xb 28 [(),(),(),()]] z (MA m.length)):=AE8 HX.out.2.2.2.1 [(F1,N1),(F2,N2)] (q:=150) (fun e he=>by
     simp at he
     rcases he with rfl|rfl
     ·exact vK.out
     ·exact pT.out) (fun a ha=>by
     simp at ha
     rcases ha with rfl|rfl|rfl|rfl|rfl|rfl
     ·exact .inl rfl
     ·exact .inr (by simp[De])
     ·exact .inl rfl
     ·exact .inr (by simp[De])
     ·exact .inl rfl
     ·exact .inl rfl) (by have:=Gg.out;have:=HML.out;have:=H150.out;simp[MA];omega)
    go_upto_region 12 with(fail)
    rw[←HW.out,←HB.out]
    clear HW HB
    clear HH
    go_wp2_with fail
    refine HRK.out.mono ?_
    rintro e w11 hres
    clear d0 d1 d2 d3 HRK
    obtain⟨m4,rfl,_,hw11⟩:=AN8 hres vJ.out HX.out.2.2.2.2.1 HRM.out
    have HBE:=Lib.hid (Q8.out _ _ _ (hw11.below ((Below.refl _ _).alloc (Nat.le_refl _) (.cells #[(),(),(),()] 28))))
    clear hres hw11 HRM
    go_wp2
    go_ret
    exact⟨rfl,HBE.out⟩
   case pos=>
    obtain⟨F3,N3,out,m3,rfl,hgo3,Ol,hro3,hm3,hw9⟩:=sL hres hrk HX.out.2.2.2.2.1 HRM.out
    have HTOO:Hid (∀u∈out,D7 u):=fun u hu=>(hgo3.fit u hu).1
    have hon3:out.length=n:=by rw[hro3.len];exact Gg.out
    rw[hon3]
    have hN3:N3≤150:=by rw[hgo3.bn,hon3];have:=Dl (Cw X.sz ((2:Nat):Int)) n;have:=H150.out;omega
    have HN3:=Lib.hid hN3
    have HGO3:=Lib.hid hgo3
    clear hN3 hgo3
    have HON:=Lib.hid hon3
    have dQ:Hid (m3≤0+N1+N2+KR):=hm3
    have HRM2:Hid (GJ m):=xm.out.1 hrk
    have YQ:=Lib.hid (HMO.out out hro3)
    clear hres hrk hm3 HRM hon3 Ol hro3
    obtain⟨Lf,hw10⟩:∃Lf,Lf=w9.alloc (.cells #[F3,N3,.int .i64 2,n] 28):=⟨_,rfl⟩
    obtain⟨xb,Od⟩:∃xb,xb=w9.heap.size:=⟨_,rfl⟩
    have hh:Wd X [VC X (.slice Am n cm) m,De F1 N1 3 (Cw X.sz ((3:Nat):Int)) l X.sz,Cv fb 28 [F1,N1,.int .i64 3,n],De F2 N2 3 (Cw X.sz ((3:Nat):Int)) m X.sz,Cv gb 28 [F2,N2,.int .i64 3,n],De F3 N3 2 (Cw X.sz ((2:Nat):Int)) out X.sz,Cv xb 28 [F3,N3,.int .i64 2,n]] (m3) Lf:=by
     rw[hw10,Od]
     have:=hw9.new ((Below.refl w9 w9).alloc (Nat.le_refl _) (.cells #[F3,N3,.int .i64 2,n] 28)) (heap_alloc_new _ _:Row _ _ 28 [F3,N3,.int .i64 2,n]) (Nat.le_refl _)
     exact this
    have HH:=Lib.hid hh
    have HW:=Lib.hid hw10
    have HB:=Lib.hid Od
    clear hh hw10 Od hw9
    have dr:Row Lf gb 28 [F2,N2,.int .i64 3,n]:=HH.out.row (i:=4) rfl
    have d0:Lf.cell? ⟨gb,0,none⟩=some (.int .i64 F2):=dr.cell 0
    have d1:Lf.cell? ⟨gb,1,none⟩=some (.int .i64 N2):=dr.cell 1
    have d2:Lf.cell? ⟨gb,2,none⟩=some (.int .i64 3):=dr.cell 2
    have d3:Lf.cell? ⟨gb,3,none⟩=some (.int .i64 n):=dr.cell 3
    clear dr
    have HRK:Hid (Calls Tryz.prog 13 #[.pointer p.w,.agg #[F2,N2,.int .i64 3,n]] Lf (o6 X [VC X (.slice Am n cm) m,De F1 N1 3 (Cw X.sz ((3:Nat):Int)) l X.sz,Cv fb 28 [F1,N1,.int .i64 3,n],De F2 N2 3 (Cw X.sz ((3:Nat):Int)) m X.sz,Cv gb 28 [F2,N2,.int .i64 3,n],De F3 N3 2 (Cw X.sz ((2:Nat):Int)) out X.sz,Cv xb 28 [F3,N3,.int .i64 2,n]] m (m3))):=by
     have h9:=jx HH.out HFO2.out (by simp) HML.out (by have:=H150.out;omega) (by rw[HX.out.2.1,HX.out.2.2.1];show 8*10+0≤90;omega) (by rw[HX.out.2.2.1];omega) (by rw[HX.out.2.2.2.2.2.1];have:=vK.out;have:=pT.out;have:=dQ.out;unfold KR at*;omega)
     rw[HX.out.1]at h9
     exact h9
    have HRM:Hid (∃z,Rm X [VC X (.slice Am n cm) m,De F1 N1 3 (Cw X.sz ((3:Nat):Int)) l X.sz,Cv fb 28 [F1,N1,.int .i64 3,n],De F2 N2 3 (Cw X.sz ((3:Nat):Int)) m X.sz,Cv gb 28 [F2,N2,.int .i64 3,n],De F3 N3 2 (Cw X.sz ((2:Nat):Int)) out X.sz,Cv xb 28 [F3,N3,.int .i64 2,n]] z (MA m.length)):=AE8 HX.out.2.2.2.1 [(F1,N1),(F2,N2),(F3,N3)] (q:=150) (fun e he=>by
     simp at he
     rcases he with rfl|rfl|rfl
     ·exact vK.out
     ·exact pT.out
     ·exact HN3.out) (fun a ha=>by
     simp at ha
     rcases ha with rfl|rfl|rfl|rfl|rfl|rfl|rfl
     ·exact .inl rfl
     ·exact .inr (by simp[De])
     ·exact .inl rfl
     ·exact .inr (by simp[De])
     ·exact .inl rfl
     ·exact .inr (by simp[De])
     ·exact .inl rfl) (by have:=Gg.out;have:=HML.out;have:=H150.out;simp[MA];omega)
    go_upto_region 12 with(fail)
    rw[←HW.out,←HB.out]
    clear HW HB
    clear HH
    go_wp2_with fail
    refine HRK.out.mono ?_
    rintro e w11 hres
    clear d0 d1 d2 d3 HRK
    obtain⟨F4,N4,out4,m4,rfl,hgo4,hl4,hro4,hm4,hw11⟩:=sL hres HRM2.out HX.out.2.2.2.2.1 HRM.out
    obtain rfl:out=out4:=(Gx.only hl4 hro4 YQ.out).symm
    have hon4:out.length=n:=by rw[hro4.len];exact HML.out
    rw[hon4]
    have hN4:N4≤150:=by rw[hgo4.bn,hon4];have:=Dl (Cw X.sz ((2:Nat):Int)) n;have:=H150.out;omega
    have HN4:=Lib.hid hN4
    have HGO4:=Lib.hid hgo4
    clear hN4 hgo4
    have HM4:Hid (m4≤m3+KR):=hm4
    clear hres hm4 HRM hon4 hl4 hro4
    obtain⟨Iu,hw12⟩:∃Iu,Iu=w11.alloc (.cells #[F4,N4,.int .i64 2,n] 28):=⟨_,rfl⟩
    obtain⟨yb,hyb⟩:∃yb,yb=w11.heap.size:=⟨_,rfl⟩
    have hh:Wd X [VC X (.slice Am n cm) m,De F1 N1 3 (Cw X.sz ((3:Nat):Int)) l X.sz,Cv fb 28 [F1,N1,.int .i64 3,n],De F2 N2 3 (Cw X.sz ((3:Nat):Int)) m X.sz,Cv gb 28 [F2,N2,.int .i64 3,n],De F3 N3 2 (Cw X.sz ((2:Nat):Int)) out X.sz,Cv xb 28 [F3,N3,.int .i64 2,n],De F4 N4 2 (Cw X.sz ((2:Nat):Int)) out X.sz,Cv yb 28 [F4,N4,.int .i64 2,n]] (m4) Iu:=by
     rw[hw12,hyb]
     have:=hw11.new ((Below.refl w11 w11).alloc (Nat.le_refl _) (.cells #[F4,N4,.int .i64 2,n] 28)) (heap_alloc_new _ _:Row _ _ 28 [F4,N4,.int .i64 2,n]) (Nat.le_refl _)
     exact this
    have HH:=Lib.hid hh
    have HW:=Lib.hid hw12
    have HB:=Lib.hid hyb
    clear hh hw12 hyb hw11
    have dr:Row Iu xb 28 [F3,N3,.int .i64 2,n]:=HH.out.row (i:=6) rfl
    have d0:Iu.cell? ⟨xb,0,none⟩=some (.int .i64 F3):=dr.cell 0
    have d1:Iu.cell? ⟨xb,1,none⟩=some (.int .i64 N3):=dr.cell 1
    have d2:Iu.cell? ⟨xb,2,none⟩=some (.int .i64 2):=dr.cell 2
    have d3:Iu.cell? ⟨xb,3,none⟩=some (.int .i64 n):=dr.cell 3
    clear dr
    have HLI:Hid (Calls Tryz.prog 16 #[.pointer p.w,.agg #[F3,N3,.int .i64 2,n]] Iu fun e w'=>∃v,e=.returned (.tuple #[v,()])∧Wd X ([VC X (.slice Am n cm) m,De F1 N1 3 (Cw X.sz ((3:Nat):Int)) l X.sz,Cv fb 28 [F1,N1,.int .i64 3,n],De F2 N2 3 (Cw X.sz ((3:Nat):Int)) m X.sz,Cv gb 28 [F2,N2,.int .i64 3,n],De F3 N3 2 (Cw X.sz ((2:Nat):Int)) out X.sz,Cv xb 28 [F3,N3,.int .i64 2,n],De F4 N4 2 (Cw X.sz ((2:Nat):Int)) out X.sz,Cv yb 28 [F4,N4,.int .i64 2,n]]++[VC X v out]) (m4+N3) w'):=by
     have h9:=AN7 (i:=5) HH.out rfl HGO3.out HX.out.2.2.2.2.1 (by rw[HX.out.2.1,HX.out.2.2.1];show 10≤90-0;omega) (by rw[HX.out.2.2.2.2.2.1];have:=HM4.out;have:=dQ.out;have:=vK.out;have:=pT.out;have:=HN3.out;have:=HN4.out;unfold KR at*;omega) HON.out
     rw[HX.out.1]at h9
     exact h9
    go_upto_region 13 with(fail)
    rw[←HW.out,←HB.out]
    clear HW HB
    clear HH
    go_wp2_with fail
    refine HLI.out.mono ?_
    rintro e jN ⟨v3,rfl,hw13⟩
    clear d0 d1 d2 d3 HLI
    have HH:=Lib.hid hw13
    clear hw13
    have dr:Row jN yb 28 [F4,N4,.int .i64 2,n]:=HH.out.row (i:=8) rfl
    have d0:jN.cell? ⟨yb,0,none⟩=some (.int .i64 F4):=dr.cell 0
    have d1:jN.cell? ⟨yb,1,none⟩=some (.int .i64 N4):=dr.cell 1
    have d2:jN.cell? ⟨yb,2,none⟩=some (.int .i64 2):=dr.cell 2
    have d3:jN.cell? ⟨yb,3,none⟩=some (.int .i64 n):=dr.cell 3
    clear dr
    have HLI:Hid (Calls Tryz.prog 16 #[.pointer p.w,.agg #[F4,N4,.int .i64 2,n]] jN fun e w'=>∃v,e=.returned (.tuple #[v,()])∧Wd X ([VC X (.slice Am n cm) m,De F1 N1 3 (Cw X.sz ((3:Nat):Int)) l X.sz,Cv fb 28 [F1,N1,.int .i64 3,n],De F2 N2 3 (Cw X.sz ((3:Nat):Int)) m X.sz,Cv gb 28 [F2,N2,.int .i64 3,n],De F3 N3 2 (Cw X.sz ((2:Nat):Int)) out X.sz,Cv xb 28 [F3,N3,.int .i64 2,n],De F4 N4 2 (Cw X.sz ((2:Nat):Int)) out X.sz,Cv yb 28 [F4,N4,.int .i64 2,n],VC X v3 out]++[VC X v out]) (m4+N3+N4) w'):=by
     have h9:=AN7 (i:=7) HH.out rfl HGO4.out HX.out.2.2.2.2.1 (by rw[HX.out.2.1,HX.out.2.2.1];show 10≤90-0;omega) (by rw[HX.out.2.2.2.2.2.1];have:=HM4.out;have:=dQ.out;have:=vK.out;have:=pT.out;have:=HN3.out;have:=HN4.out;unfold KR at*;omega) HON.out
     rw[HX.out.1]at h9
     exact h9
    obtain⟨B3,b3,rfl,_,_⟩:=HH.out.AW2 (i:=9) rfl HTOO.out
    clear HH
    go_wp2_with fail
    refine HLI.out.mono ?_
    rintro e w14 ⟨v4,rfl,hw14⟩
    clear d0 d1 d2 d3 HLI
    obtain⟨B4,b4,rfl,Jv,_⟩:=hw14.AW2 (i:=10) rfl HTOO.out
    obtain⟨B3',b3',he3,FT,_⟩:=hw14.AW2 (i:=9) rfl HTOO.out
    injection he3 with e1 e2 e3
    subst e1
    clear e2 e3
    rw[HON.out]at FT Jv⊢
    have hsame:=AD4 B3 B4 n n b3 b4 _ _ w14 FT Jv HWM.out HWM.out
    rw[decide_eq_true rfl]at hsame
    have HSM:Hid (Calls Tryz.prog 17 #[.slice B3 n b3,.slice B4 n b4] w14 fun e w'=>e=.returned true∧∃q,w'=w14.drewN q):=hsame
    have HBE:Hid (∀q,Below w w (w14.drewN q)):=fun q=>Q8.out _ _ _ (hw14.drewN q)
    clear hsame FT Jv hw14
    go_wp2_with fail
    refine HSM.out.mono ?_
    rintro e w15 ⟨rfl,q,hq15⟩
    have HB15:Hid (Below w w w15):=by unfold Hid;rw[hq15];exact HBE.out q
    clear hq15 HBE HSM
    go_wp2
    go_ret
    exact⟨rfl,HB15.out⟩
set_option maxRecDepth 100000 in
theorem lifted(os:Os)(started:os.Started)(H:Type)(enc:TypeId×Value→H):
  ReturnsInHanded {} Tryz.checked os 8 .any (Rows.rankOrderSpec.pre6 enc Tryz.prog Tryz.f8 Rows.rankOrderRow.domain false) (Rows.rankOrderSpec.post enc Tryz.prog Tryz.f8 false true false false):=by
 refine returnsInHanded_of_change (C:=Tryz.checked) own started (by kernel_rfl) Tryz.func8
  (ChangeSpec.witness6 (enc:=enc) (C:=Tryz.checked) false ⟨#[],#[.slice none 0 0,.int .u8 0],[]⟩ 8 (by kernel_rfl) (by kernel_rfl) (by kernel_rfl) (by kernel_rfl)) ?_
 intro W base args ds gs before hval0 hW hcnd _
 have hval:∀(j:Nat) t v,Tryz.f8.params[j]?=some t→args[j]?=some v→Value.okWide Tryz.prog W .any base t v:=hval0
 have hW':=hW
 obtain⟨p,q,uH,hV,rfl,hfz,wO⟩:=hW
 have hA:DataW.TrodAll enc Tryz.prog W 0 (fun _=>true) true Tryz.f8.params.toList args.toList ds p:=uH
 rw[Tryz.params8]at hA hval
 obtain⟨v0,vs0,d0,ds0,p0,q0,hargs,rfl,rfl,h0,r0⟩:=trodAll_cons hA
 obtain⟨v1,vs1,d1,ds1,p1,q1,rfl,rfl,rfl,h1,r1⟩:=trodAll_cons r0
 obtain⟨rfl,rfl,rfl⟩:=trodAll_nil r1
 obtain rfl:args=#[v0,v1]:=by cases args;simp_all
 obtain⟨rfl,rfl⟩:=trodVars_none hV
 have k0:=h0
 have lt0:∀x∈p0,x.block<W:=by obtain⟨m,hm⟩:=k0;exact DataW.trod_lt m _ _ _ hm
 have k1:=h1
 have lt1:∀x∈p1,x.block<W:=by obtain⟨m,hm⟩:=k1;exact DataW.trod_lt m _ _ _ hm
 obtain⟨a0,len0,cap0,rfl⟩:=okWide_slice Tryz.underlying22 (hval 0 22 v0 rfl rfl)
 obtain⟨l0,wr0,wm0⟩:∃l,El W W.heap.size a0 len0 l∧len0≤maxLen:=by
  obtain⟨fuel,hf⟩:=h0
  obtain⟨a',len',Q0,l',zi,hr',hm'⟩:=AD5 Tryz.underlying22 Tryz.underlying47 Tryz.underlying2 (by kernel_rfl) (by kernel_rfl) hf
  injection zi with e1 e2 e3
  subst e1;subst e2
  exact⟨l',hr',hm'⟩
 obtain⟨a1,rfl,rfl,rfl,w1⟩:=open_int Tryz.underlying5 (hval 1 5 v1 rfl rfl) h1
 clear uH hval0
 refine(walk a0 len0 cap0 l0 a1 W wr0 wm0 w1).mono fun e W' ⟨he,WV⟩=>?_
 subst he
 exact⟨_,rfl,_,_,_,[],_,[],hW',trodAll_mk1 (shut_bool Tryz.underlying4 _),(trodAll_cons_mk (Below.trod laidOut (by kernel_rfl) (of_decide_eq_true (by kernel_rfl)) k0 WV lt0) (trodAll_cons_mk (Below.trod laidOut (by kernel_rfl) (of_decide_eq_true (by kernel_rfl)) k1 WV lt1) trodAll_mk0)),rfl,WV.frame _,fun h=>by cases h⟩
theorem over:Rows.rankOrderRow.holds Tryz.pinned (OpenSpec.ofChange Rows.rankOrderSpec):=
 OpenClaim.holds_of_wide 8 Tryz.f8 rfl rfl rfl rfl rfl rfl rfl ⟨rfl,rfl,rfl,rfl,rfl⟩ rfl rfl rfl rfl rfl (by kernel_rfl) Tryz.func8 (by kernel_rfl)
  (of_decide_eq_true (by kernel_rfl)) (by unfold Func.isWrapper;first|(rw[if_pos (by decide+kernel)];kernel_rfl)|(rw[if_neg (by decide+kernel)];exact⟨rfl,rfl⟩))
  (fun os started H enc _=>lifted os started H enc)
theorem proved:Rows.RankOrderSaid:=over
end Go.Proofs.YthfnbpjegjbbiaaGreat.rankOrder
