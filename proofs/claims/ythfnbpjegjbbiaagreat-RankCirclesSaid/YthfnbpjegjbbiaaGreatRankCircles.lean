/-
  RankCircles: whatever size, order and element; no condition.
-/
import Derived.Test.YthfnbpjegjbbiaaGreatPF
import Derived.Test.YthfnbpjegjbbiaaGreatRows
import Derived.WalkKit
import Derived.ProofKit
import Derived.OpenShut
import Derived.ShutString
import Derived.ChangeOld
import Derived.Below
namespace Go.Proofs.YthfnbpjegjbbiaaGreat.rankCircles
open Go.ChangeShapes Go.WideShapes Go.ChangeAt Go.RowKit
open Go.ChangeMaps (open_string shut_string)
set_option linter.unusedVariables false
set_option linter.unusedSimpArgs false

theorem own:ownKnob Tryz.prog.godebug=none:=by kernel_rfl
theorem laidOut:laidOutB Tryz.prog=true:=by kernel_rfl
theorem eq_file(w:World)(a b c d:Int):(binOp .eql 28 (.agg #[a,b,c,d]) (.agg #[a,b,c,d])).run Tryz.prog w=.ok true w:=by
 have u3:=Tryz.underlying3
 have hS:Tryz.prog.underlying 28=some (.struct (Tryz.prog.fieldsOf 28)):=by kernel_rfl
 have hp:Tryz.prog.stoodInHeld 28=false:=by kernel_rfl
 rw[run_eql_struct,show (10000:Nat)=9999+1 from rfl,run_equalIn_agg w 9999 28 _ _ hS hp]
 simp only[Program.fieldsOf,Tryz.underlying28]
 go_simp
theorem reads_one(w:World)(z:Nat)(hz:z<256):Reads .u8 (w.alloc (.cells #[.int .u8 z] 5)) (w.alloc (.cells #[.int .u8 z] 5)).heap.size w 1 [z]:=by
 have r:Row (w.alloc (.cells #[.int .u8 z] 5)) w 5 [.int .u8 z]:=heap_alloc_new _ _
 refine⟨rfl,fun x hx=>?_,fun _=>⟨w,0,rfl,r.lt,fun i hi=>?_⟩⟩
 ·simp at hx
  subst hx
  simp[Lit.wf,IntKind.min,IntKind.max,IntKind.signed,IntKind.bits]
  omega
 ·obtain rfl:i=0:=by omega
  exact r.cell 0
set_option maxHeartbeats 4000000 in
set_option maxRecDepth 100000 in
theorem walk(a0:Int)(a1:Int)(a2:Int)(w:World)(w0:(Lit.int .u8 a0).wf=true)(w1:(Lit.int .u16 a1).wf=true)(w2:(Lit.int .u8 a2).wf=true):
  Calls Tryz.prog 5 #[.int .u8 a0,.int .u16 a1,.int .u8 a2] w fun e w'=>e=.returned true∧Below w w w':=by
 obtain⟨v0,rfl⟩:=Int.eq_ofNat_of_zero_le (show 0≤a0 by have:=bounds_u8 w0;omega)
 obtain⟨v1,rfl⟩:=Int.eq_ofNat_of_zero_le (show 0≤a1 by have:=bounds_u16 w1;omega)
 obtain⟨v2,rfl⟩:=Int.eq_ofNat_of_zero_le (show 0≤a2 by have:=bounds_u8 w2;omega)
 have hv1:v1≤65535:=by have:=bounds_u16 w1;omega
 have mX:v2≤255:=by have:=bounds_u8 w2;omega
 obtain⟨r,hr⟩:∃r,r=v0%59:=⟨_,rfl⟩
 have ht:Int.tmod (v0:Int) 59=(r:Int):=by rw[hr];rfl
 have hr59:r<59:=by rw[hr];exact Nat.mod_lt _ (by omega)
 obtain⟨n,hn⟩:∃n,n=1+r:=⟨_,rfl⟩
 have Ku:(1:Int)+(r:Int)=(n:Int):=by omega
 have hn59:0<n∧n≤59:=by omega
 have cG:IntKind.u8.wrap (n:Int)=(n:Int):=IntWalk.u8_in _ (by omega)
 obtain⟨k,hk⟩:∃k,k=v2%n:=⟨_,rfl⟩
 have Pj:Int.tmod (v2:Int) (n:Int)=(k:Int):=by rw[hk];rfl
 have hkn:k<n:=by rw[hk];exact Nat.mod_lt _ (by omega)
 have GK:IntKind.i64.wrap (v2:Int)=(v2:Int):=IntWalk.i64_in _ (by omega)
 have HAW:=Lib.hid (xe w)
 have HWK:Hid (∀W,Calls Tryz.prog 9 #[.int .i64 9] W fun e w'=>∃p G,e=.returned (.pointer p.w)∧Sys w' G p (plF 10 (10*9) 6000) 0∧(∀k,G k→W≤k)∧Below W W w'):=fun W=>Yz 9 (by omega) W
 clear hr hn w0 w1 w2 hk hr59
 go_enter Tryz.func5,Tryz.ntmps5
 go_wp2_with fail
 refine HAW.out.mono ?_
 rintro e w1 ⟨rfl,DV⟩
 have OM:=Lib.hid DV
 clear DV HAW
 go_wp2_with fail
 refine(HWK.out _).mono ?_
 rintro e w2 ⟨p,G,rfl,hs,hG,DN⟩
 obtain⟨X,hX⟩:∃X,X=cxL w1 p 90 10 6000 True 0:=⟨_,rfl⟩
 have h2:Wd X [] 0 w2:=by rw[hX];exact oO hs hG DN (by omega) (by omega)
 have HX:Hid (X.p=p∧X.sz=10∧X.rm=90∧X.S0=Hi 0 6000∧X.cm∧X.N=0∧X.w0=w1):=by rw[hX];exact⟨rfl,rfl,rfl,rfl,trivial,rfl,rfl⟩
 have QE:Hid (∀os m u,Wd X os m u→Below w w u):=fun os m u h=>by
  have:=h.Tw
  rw[HX.out.2.2.2.2.2.2]at this
  exact OM.out.trans (this.mono OM.out.size)
 have HCH:Hid (Calls Tryz.prog 18 #[.slice w2 1 1,.int .u16 v1,.slice none 0 0] (w2.alloc (.cells #[.int .u8 n] 5)) (AO0 (w2.alloc (.cells #[.int .u8 n] 5)) [n])):=by
  have h9:=AA8 (c0:=1) (c2:=0) (by_:=v1) (reads_one w2 n (by omega)) (show OC _ _ none 0 []from ⟨rfl,fun x hx=>(by cases hx),fun h=>by omega⟩) (by omega) hv1
  have e1:p7 [n]=[n]:=by unfold p7;simp;omega
  rw[e1]at h9
  exact h9
 have h3:Wd X [] 0 (w2.alloc (.cells #[.int .u8 n] 5)):=h2.below ((Below.refl _ _).alloc (Nat.le_refl _) _)
 have H3:=Lib.hid h3
 clear hs hG DN HWK hX h2 h3
 go_wp2_with fail
 refine HCH.out.mono ?_
 rintro e w4 ⟨A,c,pp,s,out,rfl,ho,hci,hp,hs0,hsp,hp241,hlp,IX⟩
 have hci:CI pp s [n] 1 0 out:=hci
 obtain⟨Pm,hka,hlok,hnr⟩:=AZ3 hci (by omega) hp241 hn59.1 hkn
 have HO4:=ho
 obtain⟨_,⟨_,h0⟩|⟨g,cap,cur,hv,hg,hrest⟩⟩:=HO4
 ·have:=Kw out;rw[h0]at this;simp at this;omega
 injection hv with e1 e2 e3
 subst e1
 rw[Pm]at ho⊢
 have q1:=AD8 ho (i:=k) (by omega) (j:=0) (u:=.int .i64 (Xa pp s k:Nat)) (by rw[←hka];rfl)
 have q1:w4.cell? (g,k*5)=some (.int .i64 (Xa pp s k:Nat)):=q1
 obtain⟨x,hx⟩:∃x,x=Xa pp s k:=⟨_,rfl⟩
 obtain⟨n1,Pp⟩:∃n1,n1=n-1:=⟨_,rfl⟩
 rw[←hx]at q1 hlok hnr
 rw[←Pp]at hlok hnr
 have hsub:(n:Int)-1=(n1:Int):=by omega
 have hn1n:n1<n:=by omega
 have i0:(0:Int)≤(k:Int):=by omega
 have i1:(k:Int)<(n:Int):=by omega
 have i2:(0:Int)≤(n1:Int):=by omega
 have i3:(n1:Int)<(n:Int):=by omega
 have i4:¬n=0:=by omega
 have Nv:wrap64 (n1:Int)=(n1:Int):=IntWalk.wrap64_in _ ⟨by clear GK cG Pj;omega,by clear GK cG Pj;omega⟩
 have f0:w4.frozen? (g,n1*5+1)=false:=(show Row w4 g 47 cur.toList from hrest.1).free _
 have q2:=AD8 ho (i:=n1) (by omega) (j:=1) (u:=.int .i64 (out.getD n1 Cu).b) rfl
 obtain⟨y,hy⟩:∃y,y=(out.getD n1 Cu).b:=⟨_,rfl⟩
 rw[←hy]at q2
 have ho5:=wC ho (i:=n1) (by omega) (x:Int)
 obtain⟨l,hl⟩:∃l,l=out.set n1 {out.getD n1 Cu with b:=(x:Int)}:=⟨_,rfl⟩
 rw[←hl]at hlok hnr ho5
 have Z9:l.length=n:=by rw[hl,List.length_set,Pm]
 have FU:Below (w2.alloc (.cells #[.int .u8 n] 5)).heap.size (w2.alloc (.cells #[.int .u8 n] 5)) (w4.setCell (g,n1*5+1) x):=IX.setCell hg _
 have h5:Wd X [Uz X (.slice g n c) l] 0 (w4.setCell (g,n1*5+1) x):=H3.out.AY5 FU ho5 Z9
 have f2:w4.cell? (g,n1*5+1)=some (.int .i64 y):=q2
 have h5:Wd X [Uz X (.slice g n c) l] 0 (w4.setCell (g,n1*5+1) x).drew:=h5.drewN 1
 have H5:=Lib.hid h5
 have HLOK:=Lib.hid hlok
 have vO:=Lib.hid hnr
 have JC:=Lib.hid Z9
 have HN:=Lib.hid hn59
 clear ho hci hp hs0 hsp hp241 hlp IX Pm hka hlok hnr e2 e3 hrest hx Pp hn1n hy hl Z9 FU h5 ho5 hg hkn hn59 H3 HCH q2
 go_wp2
 go_region
 generalize(w4.setCell (g,n1*5+1) x).drew=w5 at*
 clear f0 f2 q1 Nv i0 i1 i2 i3 i4 hsub Pj
 have HTO:Hid (∀u∈l,EE u):=fun u hu=>(HLOK.out u hu).1
 have HLY:Hid (Calls Tryz.prog 12 #[.pointer p.w,.int .i64 3,.slice g n c] w5 fun e w'=>∃F N:Nat,e=.returned (.tuple #[.agg #[F,N,.int .i64 3,n],()])∧GY F N 3 (Ct X.sz ((3:Nat):Int)) l X.sz∧Wd X [Uz X (.slice g n c) l,Da F N 3 (Ct X.sz ((3:Nat):Int)) l X.sz] (0+N) w'):=by
  have h9:=yO (k:=3) (n:=n) (c:=c) (A:=some g) H5.out HX.out.2.2.2.2.1 (by omega) (fun z m' W' q=>by
   obtain⟨A',c',zl,hr',_⟩:=q.AX4 (i:=0) (by simp;rfl) HTO.out
   injection zl with e1 e2 e3
   rw[JC.out,←e1]at hr'
   exact hr') (by have:=JC.out;have:=HN.out;omega) (fun u hu=>(HLOK.out u hu).2) (by rw[HX.out.2.1,HX.out.2.2.1];show 10+0≤90;omega) (by rw[HX.out.2.2.2.2.2.1];have:=JC.out;have:=HN.out;omega) (AF1 HX.out.2.2.2.1 [] (q:=0) (fun e he=>(by cases he)) (fun a ha=>.inl (by
   simp at ha
   rcases ha with rfl
   rfl)) (by
   have h:=Di (Ct X.sz ((3:Nat):Int)) l.length
   have:=JC.out
   have:=HN.out
   show 0* _+ _≤6000
   rw[Nat.zero_mul,Nat.zero_add]
   exact Nat.le_trans h (by omega)))
  rw[HX.out.1]at h9
  exact h9
 clear H5
 go_wp2_with fail
 refine HLY.out.mono ?_
 rintro e w6 ⟨F,N,rfl,NH,gE⟩
 have hN:N≤60:=by rw[NH.bn];have:=Di (Ct X.sz ((3:Nat):Int)) l.length;have:=JC.out;have:=HN.out;omega
 obtain⟨w7,cI⟩:∃w7,w7=w6.alloc (.cells #[F,N,.int .i64 3,n] 28):=⟨_,rfl⟩
 obtain⟨fb,LI⟩:∃fb,fb=w6.heap.size:=⟨_,rfl⟩
 have h7:Wd X [Uz X (.slice g n c) l,Da F N 3 (Ct X.sz ((3:Nat):Int)) l X.sz,Cs fb 28 [F,N,.int .i64 3,n]] (0+N) w7:=by
  rw[cI,LI]
  exact gE.new ((Below.refl _ _).alloc (Nat.le_refl _) _) (heap_alloc_new _ _:Row _ _ 28 [F,N,.int .i64 3,n]) (Nat.le_refl _)
 have HRK:Hid (Calls Tryz.prog 13 #[.pointer p.w,.agg #[F,N,.int .i64 3,n]] w7 (ox X [Uz X (.slice g n c) l,Da F N 3 (Ct X.sz ((3:Nat):Int)) l X.sz,Cs fb 28 [F,N,.int .i64 3,n]] l (0+N))):=by
  have h9:=jw h7 NH (by simp) JC.out (by have:=HN.out;omega) (by rw[HX.out.2.1,HX.out.2.2.1];show 8*10+0≤90;omega) (by rw[HX.out.2.2.1];omega) (by rw[HX.out.2.2.2.2.2.1];unfold KM;omega)
  rw[HX.out.1]at h9
  exact h9
 have HRM:Hid (∃z,Rm X [Uz X (.slice g n c) l,Da F N 3 (Ct X.sz ((3:Nat):Int)) l X.sz,Cs fb 28 [F,N,.int .i64 3,n]] z (MD l.length)):=AF1 HX.out.2.2.2.1 [(F,N)] (q:=60) (fun e he=>by simp at he;subst he;exact hN) (fun a ha=>by
  simp at ha
  rcases ha with rfl|rfl|rfl
  ·exact .inl rfl
  ·exact .inr (by simp[Da])
  ·exact .inl rfl) (by have:=JC.out;have:=HN.out;simp[MD];omega)
 have wz:Row w7 fb 28 [F,N,.int .i64 3,n]:=h7.row (i:=2) rfl
 have c0:w7.cell? ⟨fb,0,none⟩=some (.int .i64 F):=wz.cell 0
 have c1:w7.cell? ⟨fb,1,none⟩=some (.int .i64 N):=wz.cell 1
 have c2:w7.cell? ⟨fb,2,none⟩=some (.int .i64 3):=wz.cell 2
 have c3:w7.cell? ⟨fb,3,none⟩=some (.int .i64 n):=wz.cell 3
 have HNB:=Lib.hid hN
 have HW7:=Lib.hid cI
 have HFB:=Lib.hid LI
 clear wz gE h7 NH hN cI LI HLY
 go_upto_region 7 with(fail)
 rw[←HW7.out,←HFB.out]
 clear HW7 HFB
 go_wp2_with fail
 refine HRK.out.mono ?_
 rintro e w8 hres
 obtain⟨m',rfl,_,hw8⟩:=AO3 hres vO.out HX.out.2.2.2.2.1 HRM.out
 obtain⟨w9,hw9⟩:∃w9,w9=w8.alloc (.cells #[(),(),(),()] 28):=⟨_,rfl⟩
 obtain⟨gb,hgb⟩:∃gb,gb=w8.heap.size:=⟨_,rfl⟩
 have h9:Wd X ([Uz X (.slice g n c) l,Da F N 3 (Ct X.sz ((3:Nat):Int)) l X.sz,Cs fb 28 [F,N,.int .i64 3,n]]++[Cs gb 28 [(),(),(),()]]) m' w9:=by
  rw[hw9,hgb]
  have:=hw8.new ((Below.refl w8 w8).alloc (Nat.le_refl _) (.cells #[(),(),(),()] 28)) (heap_alloc_new _ _:Row _ _ 28 [(),(),(),()]) (Nat.le_refl _)
  exact this
 have wz:Row w9 fb 28 [F,N,.int .i64 3,n]:=h9.row (i:=2) rfl
 have PS:Row w9 gb 28 [(),(),(),()]:=h9.row (i:=3) rfl
 have c0:w9.cell? ⟨fb,0,none⟩=some (.int .i64 F):=wz.cell 0
 have c1:w9.cell? ⟨fb,1,none⟩=some (.int .i64 N):=wz.cell 1
 have c2:w9.cell? ⟨fb,2,none⟩=some (.int .i64 3):=wz.cell 2
 have c3:w9.cell? ⟨fb,3,none⟩=some (.int .i64 n):=wz.cell 3
 have d0:w9.cell? ⟨gb,0,none⟩=some (.int .i64 0):=PS.cell 0
 have d1:w9.cell? ⟨gb,1,none⟩=some (.int .i64 0):=PS.cell 1
 have d2:w9.cell? ⟨gb,2,none⟩=some (.int .i64 0):=PS.cell 2
 have d3:w9.cell? ⟨gb,3,none⟩=some (.int .i64 0):=PS.cell 3
 have hq:=fun W=>eq_file W 0 0 0 0
 have hx:=(Below.refl w9 w9).alloc (Nat.le_refl _) (.cells #[F,N,.int .i64 3,n] 28)
 have hrow:Row (w9.alloc (.cells #[F,N,.int .i64 3,n] 28)) w9 28 [F,N,.int .i64 3,n]:=heap_alloc_new _ _
 have GJ:Hid (Calls Tryz.prog 15 #[.pointer p.w,.slice w9 1 1] (w9.alloc (.cells #[F,N,.int .i64 3,n] 28)) fun e w'=>e=.returned true∧Below w w w'):=by
  have h8:=xZ (n:=1) (c:=1) (rb:=w9) (bs:=fun _=>N) (h9.below hx) HX.out.2.2.2.1 rfl (by show 0+(N+(0+(0+0)))=0+N;omega) (by omega) (fun i hi=>by
   obtain rfl:i=0:=by omega
   exact⟨by have:=HNB.out;omega,hrow.cell 1⟩) (fun _=>hrow.lt)
  rw[HX.out.1]at h8
  exact h8.mono fun e w' ⟨he,hw⟩=>⟨he,QE.out _ _ _ hw⟩
 have HW9:=Lib.hid hw9
 have HGB:=Lib.hid hgb
 clear hres hw8 h9 hw9 hgb hx hrow wz PS HRK
 go_upto_region 8 with(fail)
 rw[←HW9.out,←HGB.out]
 clear HW9 HGB
 go_wp2_with fail
 refine GJ.out.mono ?_
 rintro e Lf ⟨rfl,hb10⟩
 have HBE:=Lib.hid hb10
 clear hb10
 go_wp2
 go_ret
 exact⟨rfl,HBE.out⟩
set_option maxRecDepth 100000 in
theorem lifted(os:Os)(started:os.Started)(H:Type)(enc:TypeId×Value→H):
  ReturnsInHanded {} Tryz.checked os 5 .any (Rows.rankCirclesSpec.pre6 enc Tryz.prog Tryz.f5 Rows.rankCirclesRow.domain false) (Rows.rankCirclesSpec.post enc Tryz.prog Tryz.f5 false true false false):=by
 refine returnsInHanded_of_change (C:=Tryz.checked) own started (by kernel_rfl) Tryz.func5
  (ChangeSpec.witness6 (enc:=enc) (C:=Tryz.checked) false ⟨#[],#[.int .u8 0,.int .u16 0,.int .u8 0],[]⟩ 8 (by kernel_rfl) (by kernel_rfl) (by kernel_rfl) (by kernel_rfl)) ?_
 intro W base args ds gs before hval0 hW hcnd _
 have hval:∀(j:Nat) t v,Tryz.f5.params[j]?=some t→args[j]?=some v→Value.okWide Tryz.prog W .any base t v:=hval0
 have hW':=hW
 obtain⟨p,q,uK,hV,rfl,hfz,wW⟩:=hW
 have hA:DataW.TrodAll enc Tryz.prog W 0 (fun _=>true) true Tryz.f5.params.toList args.toList ds p:=uK
 rw[Tryz.params5]at hA hval
 obtain⟨v0,vs0,d0,ds0,p0,q0,hargs,rfl,rfl,h0,r0⟩:=trodAll_cons hA
 obtain⟨v1,vs1,d1,ds1,p1,q1,rfl,rfl,rfl,h1,r1⟩:=trodAll_cons r0
 obtain⟨v2,vs2,d2,ds2,p2,q2,rfl,rfl,rfl,h2,r2⟩:=trodAll_cons r1
 obtain⟨rfl,rfl,rfl⟩:=trodAll_nil r2
 obtain rfl:args=#[v0,v1,v2]:=by cases args;simp_all
 obtain⟨rfl,rfl⟩:=trodVars_none hV
 have k0:=h0
 have lt0:∀x∈p0,x.block<W:=by obtain⟨m,hm⟩:=k0;exact DataW.trod_lt m _ _ _ hm
 have k1:=h1
 have lt1:∀x∈p1,x.block<W:=by obtain⟨m,hm⟩:=k1;exact DataW.trod_lt m _ _ _ hm
 have k2:=h2
 have lt2:∀x∈p2,x.block<W:=by obtain⟨m,hm⟩:=k2;exact DataW.trod_lt m _ _ _ hm
 obtain⟨a0,rfl,rfl,rfl,w0⟩:=open_int Tryz.underlying5 (hval 0 5 v0 rfl rfl) h0
 obtain⟨a1,rfl,rfl,rfl,w1⟩:=open_int Tryz.underlying42 (hval 1 42 v1 rfl rfl) h1
 obtain⟨a2,rfl,rfl,rfl,w2⟩:=open_int Tryz.underlying5 (hval 2 5 v2 rfl rfl) h2
 clear uK hval0
 refine(walk a0 a1 a2 W w0 w1 w2).mono fun e W' ⟨he,Tw⟩=>?_
 subst he
 exact⟨_,rfl,_,_,_,[],_,[],hW',trodAll_mk1 (shut_bool Tryz.underlying4 _),(trodAll_cons_mk (Below.trod laidOut (by kernel_rfl) (of_decide_eq_true (by kernel_rfl)) k0 Tw lt0) (trodAll_cons_mk (Below.trod laidOut (by kernel_rfl) (of_decide_eq_true (by kernel_rfl)) k1 Tw lt1) (trodAll_cons_mk (Below.trod laidOut (by kernel_rfl) (of_decide_eq_true (by kernel_rfl)) k2 Tw lt2) trodAll_mk0))),rfl,Tw.frame _,fun h=>by cases h⟩
theorem over:Rows.rankCirclesRow.holds Tryz.pinned (OpenSpec.ofChange Rows.rankCirclesSpec):=
 OpenClaim.holds_of_wide 5 Tryz.f5 rfl rfl rfl rfl rfl rfl rfl ⟨rfl,rfl,rfl,rfl,rfl⟩ rfl rfl rfl rfl rfl (by kernel_rfl) Tryz.func5 (by kernel_rfl)
  (of_decide_eq_true (by kernel_rfl)) (by unfold Func.isWrapper;first|(rw[if_pos (by decide+kernel)];kernel_rfl)|(rw[if_neg (by decide+kernel)];exact⟨rfl,rfl⟩))
  (fun os started H enc _=>lifted os started H enc)
theorem proved:Rows.RankCirclesSaid:=over
end Go.Proofs.YthfnbpjegjbbiaaGreat.rankCircles
