/-
  RankTells: whatever tuples and room; no condition.
-/
import Derived.Test.YthfnbpjegjbbiaaGreatQF
import Derived.Test.YthfnbpjegjbbiaaGreatRows
import Derived.WalkKit
import Derived.ProofKit
import Derived.OpenShut
import Derived.ShutString
import Derived.ChangeOld
import Derived.Below
namespace Go.Proofs.YthfnbpjegjbbiaaGreat.rankTells
open Go.ChangeShapes Go.WideShapes Go.ChangeAt Go.RowKit
open Go.ChangeMaps (open_string shut_string)
set_option linter.unusedVariables false
set_option linter.unusedSimpArgs false

theorem own:ownKnob Tryz.prog.godebug=none:=by kernel_rfl
theorem laidOut:laidOutB Tryz.prog=true:=by kernel_rfl
theorem eq_file(w:World)(a b c d:Int):(binOp .eql 28 (.agg #[a,b,c,d]) (.agg #[a,b,c,d])).run Tryz.prog w=.ok true w:=by
 have u3:=Tryz.underlying3
 have hS:Tryz.prog.underlying 28=some (.struct (Tryz.prog.fieldsOf 28)):=by kernel_rfl
 have hp:Tryz.prog.stoodInHeld 28=false:=by kernel_rfl
 rw[run_eql_struct,show (10000:Nat)=9999+1 from rfl,run_equalIn_agg w 9999 28 _ _ hS hp]
 simp only[Program.fieldsOf,Tryz.underlying28]
 go_simp
set_option maxHeartbeats 4000000 in
set_option maxRecDepth 100000 in
theorem walk(a0:Option Addr)(len0 cap0:Nat)(l0:List Cy)(a1:Int)(w:World)(wr0:El w w a0 len0 l0)(wm0:len0≤maxLen)(w1:(Lit.int .u8 a1).wf=true):
  Calls Tryz.prog 3 #[.slice a0 len0 cap0,.int .u8 a1] w fun e w'=>e=.returned true∧Below w w w':=by
 have hm2:len0≤9223372036854775807:=by unfold maxLen at wm0;omega
 obtain⟨v1,rfl⟩:=Int.eq_ofNat_of_zero_le (show 0≤a1 by have:=bounds_u8 w1;omega)
 have hv255:v1≤255:=by have:=bounds_u8 w1;omega
 obtain⟨l,hl⟩:∃l,l=l0:=⟨_,rfl⟩
 obtain⟨n,hn⟩:∃n,n=len0:=⟨_,rfl⟩
 rw[←hl,←hn]at wr0
 rw[←hn]at wm0 hm2⊢
 clear hl hn
 have Gg:Hid (l.length=n):=wr0.1
 have HOKT:Hid (∀u∈l,D7 u):=wr0.2.1
 have HL:Hid (∀W,Below w w W→El W W a0 n l):=fun W hb=>(wr0.GQ hb).mono hb.size
 have HAW:Hid (∀W,Calls Tryz.prog 10 #[] W fun e w'=>e=.returned true∧Below W W w'):=fun W=>xS W
 obtain⟨r,hr⟩:∃r,r=v1%33:=⟨_,rfl⟩
 obtain⟨b,hb⟩:∃b,b=8+r:=⟨_,rfl⟩
 have ht:Int.tmod (v1:Int) 33=(r:Int):=by rw[hr];rfl
 have hr33:r<33:=by rw[hr];exact Nat.mod_lt _ (by omega)
 have MX:(8:Int)+(r:Int)=(b:Int):=by omega
 have RC:IntKind.i64.wrap (r:Int)=(r:Int):=IntWalk.i64_in _ (by omega)
 have HWK:=Lib.hid (Yy b (by omega) w)
 have pq:Hid (∀W,Below w w W→Calls Tryz.prog 11 #[.slice a0 n cap0,.int .i64 3] W fun e w'=>e=.returned (.bool (l.all (Db 3)))∧Below W W w'):=fun W hb=>AE9 a0 n cap0 l 3 W (HL.out W hb) (by omega) wm0
 have qg:Hid (8≤b∧b≤40):=⟨by omega,by omega⟩
 have HWM:=Lib.hid wm0
 clear hr hb wr0 wm0 w1
 go_enter Tryz.func3,Tryz.ntmps3
 go_wp2_with fail
 refine HWK.out.mono ?_
 rintro e w2 ⟨p,G,rfl,hs,hG,DT⟩
 obtain⟨X,hX⟩:∃X,X=cxL w p (10*b) 10 6000 True 0:=⟨_,rfl⟩
 have H2:Hid (Wd X [] 0 w2):=by rw[hX];exact oS hs hG DT (by omega) (by omega)
 have HX:Hid (X.p=p∧X.sz=10∧X.rm=10*b∧X.S0=Hs 0 6000∧X.cm∧X.N=0∧X.w0=w):=by rw[hX];exact⟨rfl,rfl,rfl,rfl,trivial,rfl,rfl⟩
 have Q8:Hid (∀os m u,Wd X os m u→Below w w u):=fun os m u h=>by have:=h.WV;rw[HX.out.2.2.2.2.2.2]at this;exact this
 clear hs hG DT HWK hX ht MX RC
 go_wp2_with fail
 refine(HAW.out _).mono ?_
 rintro e w3 ⟨rfl,ED⟩
 have H3:=Lib.hid (H2.out.below ED)
 clear ED H2
 by_cases h150:n>150
 ·have g1:decide ((n:Int)>150)=true:=by simp;omega
  have Ei:=Lib.hid (Q8.out _ _ _ H3.out)
  clear h150
  go_wp2_with fail
  refine(HAW.out _).mono ?_
  rintro e w4 ⟨rfl,IE⟩
  have PL:=Lib.hid (Ei.out.trans (IE.mono Ei.out.size))
  clear IE
  go_wp2
  go_ret
  exact⟨rfl,PL.out⟩
 have g1:decide ((n:Int)>150)=false:=by simp;omega
 have H150:Hid (n≤150):=by unfold Hid;omega
 clear h150
 go_wp2_with fail
 refine(pq.out _ (Q8.out _ _ _ H3.out)).mono ?_
 rintro e w4 ⟨rfl,IE⟩
 have H4:=Lib.hid (H3.out.below IE)
 clear IE H3
 cases zw:l.all (Db 3)
 ·have PL:=Lib.hid (Q8.out _ _ _ H4.out)
  clear zw
  go_wp2_with fail
  refine(HAW.out _).mono ?_
  rintro e w5 ⟨rfl,Fx⟩
  have EV:=Lib.hid (PL.out.trans (Fx.mono PL.out.size))
  clear Fx
  go_wp2
  go_ret
  exact⟨rfl,EV.out⟩
 have hfit:∀u∈l,Db 3 u=true:=List.all_eq_true.1 zw
 have HLY:Hid (Calls Tryz.prog 12 #[.pointer p.w,.int .i64 3,.slice a0 n cap0] w4 fun e w'=>∃F N:Nat,e=.returned (.tuple #[.agg #[F,N,.int .i64 3,n],()])∧Gh F N 3 (Cw X.sz ((3:Nat):Int)) l X.sz∧Wd X [De F N 3 (Cw X.sz ((3:Nat):Int)) l X.sz] (0+N) w'):=by
  have h9:=yI (k:=3) (n:=n) (c:=cap0) (A:=a0) H4.out HX.out.2.2.2.2.1 (by omega) (fun z m' W' q=>HL.out W' (Q8.out _ _ _ q)) (by have:=Gg.out;have:=H150.out;omega) hfit (by rw[HX.out.2.1,HX.out.2.2.1];have:=qg.out;show 10+0≤10*b;omega) (by rw[HX.out.2.2.2.2.2.1];have:=Gg.out;have:=H150.out;omega) (AE8 HX.out.2.2.2.1 [] (q:=0) (fun e he=>(by cases he)) (fun a ha=>(by cases ha)) (by
   have h:=Dl (Cw X.sz ((3:Nat):Int)) l.length
   have:=Gg.out
   have:=H150.out
   show 0* _+ _≤6000
   rw[Nat.zero_mul,Nat.zero_add]
   exact Nat.le_trans h (by omega)))
  rw[HX.out.1]at h9
  exact h9
 clear zw hfit pq
 go_wp2_with fail
 refine HLY.out.mono ?_
 rintro e w5 ⟨F,N,rfl,NI,Jr⟩
 have hN:N≤150:=by rw[NI.bn];have:=Dl (Cw X.sz ((3:Nat):Int)) l.length;have:=Gg.out;have:=H150.out;omega
 obtain⟨w6,qE⟩:∃w6,w6=w5.alloc (.cells #[F,N,.int .i64 3,n] 28):=⟨_,rfl⟩
 obtain⟨fb,LL⟩:∃fb,fb=w5.heap.size:=⟨_,rfl⟩
 have h6:Wd X [De F N 3 (Cw X.sz ((3:Nat):Int)) l X.sz,Cv fb 28 [F,N,.int .i64 3,n]] (0+N) w6:=by
  rw[qE,LL]
  exact Jr.new ((Below.refl _ _).alloc (Nat.le_refl _) _) (heap_alloc_new _ _:Row _ _ 28 [F,N,.int .i64 3,n]) (Nat.le_refl _)
 have H6:=Lib.hid h6
 have qd:=Lib.hid NI
 have HNB:=Lib.hid hN
 have HW6:=Lib.hid qE
 have HFB:=Lib.hid LL
 have HCF:Hid (∀os m u,Wd X ([De F N 3 (Cw X.sz ((3:Nat):Int)) l X.sz,Cv fb 28 [F,N,.int .i64 3,n]]++os) m u→u.cell? fb=some (.int .i64 F)∧u.cell? (fb,1)=some (.int .i64 N)∧u.cell? (fb,2)=some (.int .i64 3)∧u.cell? (fb,3)=some (.int .i64 n)):=fun os m u h=>by
  have q:Row u fb 28 [F,N,.int .i64 3,n]:=h.row (i:=1) rfl
  exact⟨q.cell 0,q.cell 1,q.cell 2,q.cell 3⟩
 have HRK:Hid (Calls Tryz.prog 13 #[.pointer p.w,.agg #[F,N,.int .i64 3,n]] w6 (o6 X [De F N 3 (Cw X.sz ((3:Nat):Int)) l X.sz,Cv fb 28 [F,N,.int .i64 3,n]] l (0+N))):=by
  have h9:=jx h6 NI List.mem_cons_self Gg.out (by have:=H150.out;omega) (by rw[HX.out.2.1,HX.out.2.2.1];have:=qg.out;show 8*10+0≤10*b;omega) (by rw[HX.out.2.2.1];have:=qg.out;omega) (by rw[HX.out.2.2.2.2.2.1];unfold KR;omega)
  rw[HX.out.1]at h9
  exact h9
 have HRM:Hid (∃z,Rm X [De F N 3 (Cw X.sz ((3:Nat):Int)) l X.sz,Cv fb 28 [F,N,.int .i64 3,n]] z (MA l.length)):=AE8 HX.out.2.2.2.1 [(F,N)] (q:=150) (fun e he=>by simp at he;subst he;exact hN) (fun a ha=>by
  simp at ha
  rcases ha with rfl|rfl
  ·exact .inr (by simp[De])
  ·exact .inl rfl) (by have:=Gg.out;have:=H150.out;simp[MA];omega)
 clear Jr h6 NI hN qE LL HLY
 go_upto_region 5 with(fail)
 rw[←HW6.out,←HFB.out]
 clear HW6 HFB
 obtain⟨c0,c1,c2,c3⟩:=HCF.out [] _ _ (by rw[List.append_nil];exact H6.out)
 go_wp2_with fail
 refine HRK.out.mono ?_
 intro e w7 hres
 by_cases hrk:GJ l
 case neg=>
  obtain⟨m7,rfl,hm7,cD⟩:=AN8 hres hrk HX.out.2.2.2.2.1 HRM.out
  obtain⟨w8,hw8⟩:∃w8,w8=w7.alloc (.cells #[(),(),(),()] 28):=⟨_,rfl⟩
  obtain⟨gb,hgb⟩:∃gb,gb=w7.heap.size:=⟨_,rfl⟩
  have h8:Wd X ([De F N 3 (Cw X.sz ((3:Nat):Int)) l X.sz,Cv fb 28 [F,N,.int .i64 3,n]]++[Cv gb 28 [(),(),(),()]]) m7 w8:=by
   rw[hw8,hgb]
   exact cD.new ((Below.refl _ _).alloc (Nat.le_refl _) _) (heap_alloc_new _ _:Row _ _ 28 [(),(),(),()]) (Nat.le_refl _)
  have H8:=Lib.hid h8
  have HW8:=Lib.hid hw8
  have HGB:=Lib.hid hgb
  have HRR:=Lib.hid (yX (c:=cap0) (HL.out w8 (Q8.out _ _ _ h8)) (by have:=H150.out;omega))
  have vJ:=Lib.hid hrk
  clear hres cD h8 hw8 hgb c0 c1 c2 c3 hm7 H6 HRK hrk
  go_upto_region 6 with(fail)
  rw[←HW8.out,←HGB.out]
  clear HW8 HGB
  go_wp2_with fail
  refine HRR.out.mono ?_
  rintro e w9 ⟨A9,m9,c9,out,ok,rfl,_,_,DN,_,hb9⟩
  cases ok
  rotate_left
  ·exact absurd ((DN rfl).2.ZY (DN rfl).1) vJ.out
  have H9:=Lib.hid (H8.out.below hb9)
  obtain⟨c0,c1,c2,c3⟩:=HCF.out _ _ _ H9.out
  have PT:Row w9 gb 28 [(),(),(),()]:=H9.out.row (i:=2) rfl
  have d0:w9.cell? ⟨gb,0,none⟩=some (.int .i64 0):=PT.cell 0
  have d1:w9.cell? ⟨gb,1,none⟩=some (.int .i64 0):=PT.cell 1
  have d2:w9.cell? ⟨gb,2,none⟩=some (.int .i64 0):=PT.cell 2
  have d3:w9.cell? ⟨gb,3,none⟩=some (.int .i64 0):=PT.cell 3
  have hq:=fun W=>eq_file W 0 0 0 0
  have hx:=(Below.refl w9 w9).alloc (Nat.le_refl _) (.cells #[F,N,.int .i64 3,n] 28)
  have hrow:Row (w9.alloc (.cells #[F,N,.int .i64 3,n] 28)) w9 28 [F,N,.int .i64 3,n]:=heap_alloc_new _ _
  have GR:Hid (Calls Tryz.prog 15 #[.pointer p.w,.slice w9 1 1] (w9.alloc (.cells #[F,N,.int .i64 3,n] 28)) fun e w'=>e=.returned true∧Below w w w'):=by
   have h9:=xQ (n:=1) (c:=1) (rb:=w9) (bs:=fun _=>N) (H9.out.below hx) HX.out.2.2.2.1 rfl (by show N+(0+(0+0))=0+N;omega) (by omega) (fun i hi=>by
    obtain rfl:i=0:=by omega
    exact⟨by have:=HNB.out;omega,hrow.cell 1⟩) (fun _=>hrow.lt)
   rw[HX.out.1]at h9
   exact h9.mono fun e w' ⟨he,hw⟩=>⟨he,Q8.out _ _ _ hw⟩
  clear DN hb9 H8 HRR hx hrow PT
  go_wp2_with fail
  refine GR.out.mono ?_
  rintro e Lf ⟨rfl,hb10⟩
  have HBE:=Lib.hid hb10
  clear hb10
  go_wp2
  go_ret
  exact⟨rfl,HBE.out⟩
 case pos=>
  obtain⟨F2,N2,out,m7,rfl,hgo,Ol,hro,hm7,cD⟩:=sL hres hrk HX.out.2.2.2.2.1 HRM.out
  have zQ:out.length=n:=by rw[hro.len];exact Gg.out
  rw[zQ]
  obtain⟨w8,hw8⟩:∃w8,w8=w7.alloc (.cells #[F2,N2,.int .i64 2,n] 28):=⟨_,rfl⟩
  obtain⟨gb,hgb⟩:∃gb,gb=w7.heap.size:=⟨_,rfl⟩
  have h8:Wd X ([De F N 3 (Cw X.sz ((3:Nat):Int)) l X.sz,Cv fb 28 [F,N,.int .i64 3,n]]++[De F2 N2 2 (Cw X.sz ((2:Nat):Int)) out X.sz,Cv gb 28 [F2,N2,.int .i64 2,n]]) m7 w8:=by
   rw[hw8,hgb]
   have:=cD.new ((Below.refl w7 w7).alloc (Nat.le_refl _) (.cells #[F2,N2,.int .i64 2,n] 28)) (heap_alloc_new _ _:Row _ _ 28 [F2,N2,.int .i64 2,n]) (Nat.le_refl _)
   exact this
  have hN2:N2≤150:=by rw[hgo.bn];have:=Dl (Cw X.sz ((2:Nat):Int)) out.length;have:=H150.out;omega
  have H8:=Lib.hid h8
  have HW8:=Lib.hid hw8
  have HGB:=Lib.hid hgb
  have HRR:=Lib.hid (yX (c:=cap0) (HL.out w8 (Q8.out _ _ _ h8)) (by have:=H150.out;omega))
  have HRKD:=Lib.hid hrk
  have YQ:=Lib.hid hro
  have HL0:=Lib.hid Ol
  have HGO:=Lib.hid hgo
  have HM7:Hid (m7≤0+N+KR):=hm7
  have pT:=Lib.hid hN2
  have HON:=Lib.hid zQ
  clear hres cD h8 hw8 hgb c0 c1 c2 c3 hm7 H6 HRK hrk hro Ol hgo hN2 zQ
  go_upto_region 6 with(fail)
  rw[←HW8.out,←HGB.out]
  clear HW8 HGB
  go_wp2_with fail
  refine HRR.out.mono ?_
  rintro e w9 ⟨A9,m9,c9,out2,ok,rfl,ho9,hf9,DN,hno,hb9⟩
  cases ok
  ·exact absurd HRKD.out (hno rfl)
  obtain⟨_,cH⟩:=DN rfl
  have hoo:out2=out:=Gx.only HL0.out cH YQ.out
  subst hoo
  have hm9:n=m9:=by have h:=ho9.1;rw[Kz,HON.out]at h;omega
  subst hm9
  have H9:Hid (Wd X ([De F N 3 (Cw X.sz ((3:Nat):Int)) l X.sz,Cv fb 28 [F,N,.int .i64 3,n]]++[De F2 N2 2 (Cw X.sz ((2:Nat):Int)) out2 X.sz,Cv gb 28 [F2,N2,.int .i64 2,n]]++[VC X (.slice A9 n c9) out2]) m7 w9):=H8.out.AX4 hb9 ho9 HON.out
  have PT:Row w9 gb 28 [F2,N2,.int .i64 2,n]:=H9.out.row (i:=3) rfl
  have d0:w9.cell? ⟨gb,0,none⟩=some (.int .i64 F2):=PT.cell 0
  have d1:w9.cell? ⟨gb,1,none⟩=some (.int .i64 N2):=PT.cell 1
  have d2:w9.cell? ⟨gb,2,none⟩=some (.int .i64 2):=PT.cell 2
  have d3:w9.cell? ⟨gb,3,none⟩=some (.int .i64 n):=PT.cell 3
  have HLI:Hid (Calls Tryz.prog 16 #[.pointer p.w,.agg #[F2,N2,.int .i64 2,n]] w9 fun e w'=>∃v,e=.returned (.tuple #[v,()])∧Wd X ([De F N 3 (Cw X.sz ((3:Nat):Int)) l X.sz,Cv fb 28 [F,N,.int .i64 3,n]]++[De F2 N2 2 (Cw X.sz ((2:Nat):Int)) out2 X.sz,Cv gb 28 [F2,N2,.int .i64 2,n]]++[VC X (.slice A9 n c9) out2]++[VC X v out2]) (m7+N2) w'):=by
   have h9:=AN7 (i:=2) H9.out rfl HGO.out HX.out.2.2.2.2.1 (by rw[HX.out.2.1,HX.out.2.2.1];have:=qg.out;show 10≤10*b-0;omega) (by rw[HX.out.2.2.2.2.2.1];have:=HM7.out;have:=pT.out;have:=HNB.out;unfold KR at*;omega) HON.out
   rw[HX.out.1]at h9
   exact h9
  have HTO:Hid (∀u∈out2,D7 u):=hf9
  clear ho9 hf9 DN hno hb9 cH H8 HRR PT HL0
  go_wp2_with fail
  refine HLI.out.mono ?_
  rintro e Lf ⟨v,rfl,hw10⟩
  obtain⟨B9,e9,rfl,hrb,M5⟩:=hw10.AW2 (i:=5) rfl HTO.out
  obtain⟨A9',c9',he9,nB,Z9⟩:=hw10.AW2 (i:=4) rfl HTO.out
  rw[HON.out]at he9 hrb nB⊢
  injection he9 with e1 e2 e3
  subst e1
  clear e2 e3
  have hsame:=AD4 B9 A9 n n e9 c9 _ _ Lf hrb nB HWM.out HWM.out
  rw[decide_eq_true rfl]at hsame
  have HSM:Hid (Calls Tryz.prog 17 #[.slice B9 n e9,.slice A9 n c9] Lf fun e w'=>e=.returned true∧∃q,w'=Lf.drewN q):=hsame
  have H10:=Lib.hid hw10
  have PT:Row Lf gb 28 [F2,N2,.int .i64 2,n]:=hw10.row (i:=3) rfl
  have d2:Lf.cell? (gb,2)=some (.int .i64 2):=PT.cell 2
  clear hw10 hrb M5 nB Z9 hsame PT H9 HLI d0 d1 d3
  go_wp2_with fail
  refine HSM.out.mono ?_
  rintro e w11 ⟨rfl,q,AH9⟩
  have Xv:=H10.out.drewN q
  rw[←AH9]at Xv
  have jK:=Lib.hid Xv
  have wZ:Row w11 fb 28 [F,N,.int .i64 3,n]:=Xv.row (i:=1) rfl
  have PT:Row w11 gb 28 [F2,N2,.int .i64 2,n]:=Xv.row (i:=3) rfl
  have c0:w11.cell? ⟨fb,0,none⟩=some (.int .i64 F):=wZ.cell 0
  have c1:w11.cell? ⟨fb,1,none⟩=some (.int .i64 N):=wZ.cell 1
  have c2:w11.cell? ⟨fb,2,none⟩=some (.int .i64 3):=wZ.cell 2
  have c3:w11.cell? ⟨fb,3,none⟩=some (.int .i64 n):=wZ.cell 3
  have d0:w11.cell? ⟨gb,0,none⟩=some (.int .i64 F2):=PT.cell 0
  have d1:w11.cell? ⟨gb,1,none⟩=some (.int .i64 N2):=PT.cell 1
  have d2:w11.cell? ⟨gb,2,none⟩=some (.int .i64 2):=PT.cell 2
  have d3:w11.cell? ⟨gb,3,none⟩=some (.int .i64 n):=PT.cell 3
  have hx:=(Below.refl w11 w11).alloc (Nat.le_refl _) (.cells #[F,N,.int .i64 3,n,F2,N2,.int .i64 2,n] 28)
  have hrow:Row (w11.alloc (.cells #[F,N,.int .i64 3,n,F2,N2,.int .i64 2,n] 28)) w11 28 [F,N,.int .i64 3,n,F2,N2,.int .i64 2,n]:=heap_alloc_new _ _
  have GR:Hid (Calls Tryz.prog 15 #[.pointer p.w,.slice w11 2 2] (w11.alloc (.cells #[F,N,.int .i64 3,n,F2,N2,.int .i64 2,n] 28)) fun e w'=>e=.returned true∧Below w w w'):=by
   have h9:=xQ (n:=2) (c:=2) (rb:=w11) (bs:=fun i=>if i=0 then N else N2) (Xv.below hx) HX.out.2.2.2.1 rfl (by show N+(0+(N2+(0+(0+(0+0)))))=0+N+N2;omega) (by omega) (fun i hi=>by
    rcases(show i=0∨i=1 by omega)with rfl|rfl
    ·exact⟨by have:=HNB.out;simp;omega,hrow.cell 1⟩
    ·exact⟨by have:=pT.out;simp;omega,hrow.cell 5⟩) (fun _=>hrow.lt)
   rw[HX.out.1]at h9
   exact h9.mono fun e w' ⟨he,hw⟩=>⟨he,Q8.out _ _ _ hw⟩
  clear Xv AH9 wZ PT hx hrow HSM
  go_wp2_with fail
  refine GR.out.mono ?_
  rintro e Iu ⟨rfl,hb12⟩
  have HBE:=Lib.hid hb12
  clear hb12
  go_wp2
  go_ret
  exact⟨rfl,HBE.out⟩
set_option maxRecDepth 100000 in
theorem lifted(os:Os)(started:os.Started)(H:Type)(enc:TypeId×Value→H):
  ReturnsInHanded {} Tryz.checked os 3 .any (Rows.rankTellsSpec.pre6 enc Tryz.prog Tryz.f3 Rows.rankTellsRow.domain false) (Rows.rankTellsSpec.post enc Tryz.prog Tryz.f3 false true false false):=by
 refine returnsInHanded_of_change (C:=Tryz.checked) own started (by kernel_rfl) Tryz.func3
  (ChangeSpec.witness6 (enc:=enc) (C:=Tryz.checked) false ⟨#[],#[.slice none 0 0,.int .u8 0],[]⟩ 8 (by kernel_rfl) (by kernel_rfl) (by kernel_rfl) (by kernel_rfl)) ?_
 intro W base args ds gs before hval0 hW hcnd _
 have hval:∀(j:Nat) t v,Tryz.f3.params[j]?=some t→args[j]?=some v→Value.okWide Tryz.prog W .any base t v:=hval0
 have hW':=hW
 obtain⟨p,q,uH,hV,rfl,hfz,wO⟩:=hW
 have hA:DataW.TrodAll enc Tryz.prog W 0 (fun _=>true) true Tryz.f3.params.toList args.toList ds p:=uH
 rw[Tryz.params3]at hA hval
 obtain⟨v0,vs0,d0,ds0,p0,q0,hargs,rfl,rfl,h0,r0⟩:=trodAll_cons hA
 obtain⟨v1,vs1,d1,ds1,p1,q1,rfl,rfl,rfl,h1,r1⟩:=trodAll_cons r0
 obtain⟨rfl,rfl,rfl⟩:=trodAll_nil r1
 obtain rfl:args=#[v0,v1]:=by cases args;simp_all
 obtain⟨rfl,rfl⟩:=trodVars_none hV
 have k0:=h0
 have lt0:∀x∈p0,x.block<W:=by obtain⟨m,hm⟩:=k0;exact DataW.trod_lt m _ _ _ hm
 have k1:=h1
 have lt1:∀x∈p1,x.block<W:=by obtain⟨m,hm⟩:=k1;exact DataW.trod_lt m _ _ _ hm
 obtain⟨a0,len0,cap0,rfl⟩:=okWide_slice Tryz.underlying22 (hval 0 22 v0 rfl rfl)
 obtain⟨l0,wr0,wm0⟩:∃l,El W W.heap.size a0 len0 l∧len0≤maxLen:=by
  obtain⟨fuel,hf⟩:=h0
  obtain⟨a',len',Q0,l',zi,hr',hm'⟩:=AD5 Tryz.underlying22 Tryz.underlying47 Tryz.underlying2 (by kernel_rfl) (by kernel_rfl) hf
  injection zi with e1 e2 e3
  subst e1;subst e2
  exact⟨l',hr',hm'⟩
 obtain⟨a1,rfl,rfl,rfl,w1⟩:=open_int Tryz.underlying5 (hval 1 5 v1 rfl rfl) h1
 clear uH hval0
 refine(walk a0 len0 cap0 l0 a1 W wr0 wm0 w1).mono fun e W' ⟨he,WV⟩=>?_
 subst he
 exact⟨_,rfl,_,_,_,[],_,[],hW',trodAll_mk1 (shut_bool Tryz.underlying4 _),(trodAll_cons_mk (Below.trod laidOut (by kernel_rfl) (of_decide_eq_true (by kernel_rfl)) k0 WV lt0) (trodAll_cons_mk (Below.trod laidOut (by kernel_rfl) (of_decide_eq_true (by kernel_rfl)) k1 WV lt1) trodAll_mk0)),rfl,WV.frame _,fun h=>by cases h⟩
theorem over:Rows.rankTellsRow.holds Tryz.pinned (OpenSpec.ofChange Rows.rankTellsSpec):=
 OpenClaim.holds_of_wide 3 Tryz.f3 rfl rfl rfl rfl rfl rfl rfl ⟨rfl,rfl,rfl,rfl,rfl⟩ rfl rfl rfl rfl rfl (by kernel_rfl) Tryz.func3 (by kernel_rfl)
  (of_decide_eq_true (by kernel_rfl)) (by unfold Func.isWrapper;first|(rw[if_pos (by decide+kernel)];kernel_rfl)|(rw[if_neg (by decide+kernel)];exact⟨rfl,rfl⟩))
  (fun os started H enc _=>lifted os started H enc)
theorem proved:Rows.RankTellsSaid:=over
end Go.Proofs.YthfnbpjegjbbiaaGreat.rankTells
