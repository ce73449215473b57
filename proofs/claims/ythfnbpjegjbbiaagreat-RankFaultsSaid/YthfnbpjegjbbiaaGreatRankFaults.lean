/-
  RankFaults: whatever size, order and fault; no condition.
-/
import Derived.Test.YthfnbpjegjbbiaaGreatPF
import Derived.Test.YthfnbpjegjbbiaaGreatRows
import Derived.WalkKit
import Derived.ProofKit
import Derived.OpenShut
import Derived.ShutString
import Derived.ChangeOld
import Derived.Below
namespace Go.Proofs.YthfnbpjegjbbiaaGreat.rankFaults
open Go.ChangeShapes Go.WideShapes Go.ChangeAt Go.RowKit
open Go.ChangeMaps (open_string shut_string)
set_option linter.unusedVariables false
set_option linter.unusedSimpArgs false

theorem own:ownKnob Tryz.prog.godebug=none:=by kernel_rfl
theorem laidOut:laidOutB Tryz.prog=true:=by kernel_rfl
theorem neq_file(w:World)(a b c d:Int):(binOp .neq 28 (.agg #[a,b,c,d]) (.agg #[a,b,c,d])).run Tryz.prog w=.ok false w:=by
 have u3:=Tryz.underlying3
 have hS:Tryz.prog.underlying 28=some (.struct (Tryz.prog.fieldsOf 28)):=by kernel_rfl
 have hp:Tryz.prog.stoodInHeld 28=false:=by kernel_rfl
 rw[run_neq_struct,show (10000:Nat)=9999+1 from rfl,run_equalIn_agg w 9999 28 _ _ hS hp]
 simp only[Program.fieldsOf,Tryz.underlying28]
 go_simp
theorem guard_file(w:World)(op:BinOp)(x y:Operand)(xs ys:Array Value):(eqGuard op 28 x y (.agg xs) (.agg ys)).run Tryz.prog w=.ok () w:=
 run_eqGuard_agg w op 28 x y _ _ (by kernel_rfl)
theorem reads_one(w:World)(z:Nat)(hz:z<256):Reads .u8 (w.alloc (.cells #[.int .u8 z] 5)) (w.alloc (.cells #[.int .u8 z] 5)).heap.size w 1 [z]:=by
 have r:Row (w.alloc (.cells #[.int .u8 z] 5)) w 5 [.int .u8 z]:=heap_alloc_new _ _
 refine⟨rfl,fun x hx=>?_,fun _=>⟨w,0,rfl,r.lt,fun i hi=>?_⟩⟩
 ·simp at hx
  subst hx
  simp[Lit.wf,IntKind.min,IntKind.max,IntKind.signed,IntKind.bits]
  omega
 ·obtain rfl:i=0:=by omega
  exact r.cell 0
set_option maxHeartbeats 4000000 in
set_option maxRecDepth 100000 in
theorem walk(a0:Int)(a1:Int)(a2:Int)(w:World)(w0:(Lit.int .u8 a0).wf=true)(w1:(Lit.int .u16 a1).wf=true)(w2:(Lit.int .u16 a2).wf=true):
  Calls Tryz.prog 6 #[.int .u8 a0,.int .u16 a1,.int .u16 a2] w fun e w'=>e=.returned true∧Below w w w':=by
 obtain⟨v0,rfl⟩:=Int.eq_ofNat_of_zero_le (show 0≤a0 by have:=bounds_u8 w0;omega)
 obtain⟨v1,rfl⟩:=Int.eq_ofNat_of_zero_le (show 0≤a1 by have:=bounds_u16 w1;omega)
 obtain⟨v2,rfl⟩:=Int.eq_ofNat_of_zero_le (show 0≤a2 by have:=bounds_u16 w2;omega)
 have hv0:v0≤255:=by have:=bounds_u8 w0;omega
 have hv1:v1≤65535:=by have:=bounds_u16 w1;omega
 have mX:v2≤65535:=by have:=bounds_u16 w2;omega
 obtain⟨n,hn⟩:∃n,n=v0%60:=⟨_,rfl⟩
 have hn59:n<60:=by rw[hn];exact Nat.mod_lt _ (by omega)
 have PF:Hid (p7 [v0]=[n]):=by unfold Hid;rw[hn];rfl
 obtain⟨f,hf⟩:∃f,f=v2%3000:=⟨_,rfl⟩
 have htf:Int.tmod (v2:Int) 3000=(f:Int):=by rw[hf];rfl
 have MW:f<3000:=by rw[hf];exact Nat.mod_lt _ (by omega)
 have hwf:IntKind.i64.wrap (f:Int)=(f:Int):=IntWalk.i64_in _ (by omega)
 have HF3:Hid (f≤1000000):=by unfold Hid;omega
 have HAW:=Lib.hid (xe w)
 have HWK:Hid (∀W,Calls Tryz.prog 9 #[.int .i64 9] W fun e w'=>∃p G,e=.returned (.pointer p.w)∧Sys w' G p (plF 10 (10*9) 6000) 0∧(∀k,G k→W≤k)∧Below W W w'):=fun W=>Yz 9 (by omega) W
 clear hn w0 w1 w2 hf MW
 go_enter Tryz.func6,Tryz.ntmps6
 go_wp2_with fail
 refine HAW.out.mono ?_
 rintro e w1 ⟨rfl,DV⟩
 have OM:=Lib.hid DV
 clear DV HAW
 go_wp2_with fail
 refine(HWK.out _).mono ?_
 rintro e w2 ⟨p,G,rfl,hs,hG,DN⟩
 obtain⟨X,hX⟩:∃X,X=cxL w1 p 90 10 6000 True 0:=⟨_,rfl⟩
 have h2:Wd X [] 0 w2:=by rw[hX];exact oO hs hG DN (by omega) (by omega)
 have HX:Hid (X.p=p∧X.sz=10∧X.rm=90∧X.S0=Hi 0 6000∧X.cm∧X.N=0∧X.w0=w1):=by rw[hX];exact⟨rfl,rfl,rfl,rfl,trivial,rfl,rfl⟩
 obtain⟨Y,hY⟩:∃Y,Y={X with cm:=False}:=⟨_,rfl⟩
 obtain⟨Z,hZ⟩:∃Z,Z={Y with cm:=True}:=⟨_,rfl⟩
 have HY:Hid (Y.p=p∧Y.sz=10∧Y.rm=90∧Y.S0=Hi 0 6000∧Y.N=0):=by rw[hY,hX];exact⟨rfl,rfl,rfl,rfl,rfl⟩
 have HZ:Hid (Z.p=p∧Z.sz=10∧Z.rm=90∧Z.S0=Hi 0 6000∧Z.cm∧Z.N=0):=by rw[hZ,hY,hX];exact⟨rfl,rfl,rfl,rfl,trivial,rfl⟩
 have HTZ:Hid (Uz X=Uz Z):=by rw[hZ,hY];rfl
 have QE:Hid (∀os m u,Wd Z os m u→Below w w u):=fun os m u h=>by
  have:=h.Tw
  rw[show Z.w0=w1 by rw[hZ,hY,hX];rfl]at this
  exact OM.out.trans (this.mono OM.out.size)
 have HCH:Hid (Calls Tryz.prog 18 #[.slice w2 1 1,.int .u16 v1,.slice none 0 0] (w2.alloc (.cells #[.int .u8 v0] 5)) (AO0 (w2.alloc (.cells #[.int .u8 v0] 5)) [n])):=by
  have h9:=AA8 (c0:=1) (c2:=0) (by_:=v1) (reads_one w2 v0 (by omega)) (show OC _ _ none 0 []from ⟨rfl,fun x hx=>(by cases hx),fun h=>by omega⟩) (by omega) hv1
  rw[PF.out]at h9
  exact h9
 have h3:Wd X [] 0 (w2.alloc (.cells #[.int .u8 v0] 5)):=h2.below ((Below.refl _ _).alloc (Nat.le_refl _) _)
 have H3:=Lib.hid h3
 have HYX:=Lib.hid hY
 clear hs hG DN HWK hX h2 h3 hY PF
 go_wp2_with fail
 refine HCH.out.mono ?_
 rintro e w4 ⟨A,c,pp,s,l,rfl,ho,hci,hp,hs0,hsp,hp241,hlp,IX⟩
 have Z9:l.length=n:=by rw[hci.len];simp[Iw]
 have hrk:Gt l:=(hci.chn hp hs0 hsp hlp).ZX
 have HLOK:Hid (∀t∈l,EE t∧Dc 3 t=true):=fun t ht=>⟨(hci.ok (by omega) hp241 t ht).1,(hci.ok (by omega) hp241 t ht).2.1⟩
 rw[Z9]at ho⊢
 have h5:Wd X [Uz X (.slice A n c) l] 0 w4:=H3.out.AY5 IX ho Z9
 have H5:=Lib.hid h5
 have HRKD:=Lib.hid hrk
 have JC:=Lib.hid Z9
 have HN:=Lib.hid hn59
 have HTO:Hid (∀u∈l,EE u):=fun u hu=>(HLOK.out u hu).1
 have HLY:Hid (Calls Tryz.prog 12 #[.pointer p.w,.int .i64 3,.slice A n c] w4 fun e w'=>∃F N:Nat,e=.returned (.tuple #[.agg #[F,N,.int .i64 3,n],()])∧GY F N 3 (Ct 10 ((3:Nat):Int)) l 10∧Wd X [Uz X (.slice A n c) l,Da F N 3 (Ct 10 ((3:Nat):Int)) l 10] (0+N) w'):=by
  have h9:=yO (k:=3) (n:=n) (c:=c) (A:=A) H5.out HX.out.2.2.2.2.1 (by omega) (fun z m' W' q=>by
   obtain⟨A',c',zl,hr',_⟩:=q.AX4 (i:=0) (by simp;rfl) HTO.out
   injection zl with e1 e2 e3
   rw[JC.out,←e1]at hr'
   exact hr') (by have:=JC.out;have:=HN.out;omega) (fun u hu=>(HLOK.out u hu).2) (by rw[HX.out.2.1,HX.out.2.2.1];show 10+0≤90;omega) (by rw[HX.out.2.2.2.2.2.1];have:=JC.out;have:=HN.out;omega) (AF1 HX.out.2.2.2.1 [] (q:=0) (fun e he=>(by cases he)) (fun a ha=>.inl (by
   simp at ha
   rcases ha with rfl
   rfl)) (by
   have h:=Di (Ct X.sz ((3:Nat):Int)) l.length
   have:=JC.out
   have:=HN.out
   show 0* _+ _≤6000
   rw[Nat.zero_mul,Nat.zero_add]
   exact Nat.le_trans h (by omega)))
  rw[HX.out.1,HX.out.2.1]at h9
  exact h9
 clear H5 h5 hci hp hs0 hsp hp241 hlp Z9 hrk ho IX hn59 H3 HCH
 go_wp2_with fail
 refine HLY.out.mono ?_
 rintro e w6 ⟨F,N,rfl,NH,gE⟩
 have hN:N≤60:=by rw[NH.bn];have:=Di (Ct 10 ((3:Nat):Int)) l.length;have:=JC.out;have:=HN.out;omega
 obtain⟨w7,cI⟩:∃w7,w7=w6.alloc (.cells #[F,N,.int .i64 3,n] 28):=⟨_,rfl⟩
 obtain⟨fb,LI⟩:∃fb,fb=w6.heap.size:=⟨_,rfl⟩
 have h7:Wd X [Uz X (.slice A n c) l,Da F N 3 (Ct 10 ((3:Nat):Int)) l 10,Cs fb 28 [F,N,.int .i64 3,n]] (0+N) w7:=by
  rw[cI,LI]
  exact gE.new ((Below.refl _ _).alloc (Nat.le_refl _) _) (heap_alloc_new _ _:Row _ _ 28 [F,N,.int .i64 3,n]) (Nat.le_refl _)
 have YR:Hid (Calls Tryz.prog 20 #[.pointer p.d,f] w7 fun e w'=>e=.returned (.tuple #[])∧Wd Y [Uz X (.slice A n c) l,Da F N 3 (Ct 10 ((3:Nat):Int)) l 10,Cs fb 28 [F,N,.int .i64 3,n]] (0+N) w'):=by
  rw[←HX.out.1,HYX.out];exact AE0 h7 f HF3.out
 have qa:Hid (Calls Tryz.prog 19 #[.pointer p.w] w7 fun e w'=>e=.returned (.pointer p.d)∧w'=w7):=by
  rw[←HX.out.1];exact Nm h7
 have HRM:Hid (∃z,Rm Y [Uz X (.slice A n c) l,Da F N 3 (Ct 10 ((3:Nat):Int)) l 10,Cs fb 28 [F,N,.int .i64 3,n]] z (MD l.length)):=AF1 HY.out.2.2.2.1 [(F,N)] (q:=60) (fun e he=>by simp at he;subst he;exact hN) (fun a ha=>by
  simp at ha
  rcases ha with rfl|rfl|rfl
  ·exact .inl rfl
  ·exact .inr (by simp[Da])
  ·exact .inl rfl) (by have:=JC.out;have:=HN.out;simp[MD];omega)
 have qY:=Lib.hid NH
 have HNB:=Lib.hid hN
 have HW7:=Lib.hid cI
 have HFB:=Lib.hid LI
 clear gE h7 NH hN cI LI HLY
 go_upto_region 6 with(fail)
 rw[←HW7.out,←HFB.out]
 clear HW7 HFB
 go_wp2_with fail
 refine qa.out.mono ?_
 rintro e w7' ⟨rfl,rfl⟩
 go_wp2_with fail
 refine YR.out.mono ?_
 rintro e w8 ⟨rfl,h8⟩
 have wz:Row w8 fb 28 [F,N,.int .i64 3,n]:=h8.row (i:=2) rfl
 have c0:w8.cell? ⟨fb,0,none⟩=some (.int .i64 F):=wz.cell 0
 have c1:w8.cell? ⟨fb,1,none⟩=some (.int .i64 N):=wz.cell 1
 have c2:w8.cell? ⟨fb,2,none⟩=some (.int .i64 3):=wz.cell 2
 have c3:w8.cell? ⟨fb,3,none⟩=some (.int .i64 n):=wz.cell 3
 have HRK:Hid (Calls Tryz.prog 13 #[.pointer p.w,.agg #[F,N,.int .i64 3,n]] w8 (ox Y [Uz X (.slice A n c) l,Da F N 3 (Ct 10 ((3:Nat):Int)) l 10,Cs fb 28 [F,N,.int .i64 3,n]] l (0+N))):=by
  have h9:=jw (X:=Y) (l:=l) (F:=F) (N:=N) (c:=n) h8 (by rw[HY.out.2.1];exact qY.out) (by rw[HY.out.2.1];simp) JC.out (by have:=HN.out;omega) (by rw[HY.out.2.1,HY.out.2.2.1];show 8*10+0≤90;omega) (by rw[HY.out.2.2.1];omega) (by rw[HY.out.2.2.2.2];have:=HNB.out;unfold KM;omega)
  rw[HY.out.1]at h9
  exact h9
 clear wz h8 YR qa
 go_upto_region 7 with(fail)
 go_wp2_with fail
 refine HRK.out.mono ?_
 rintro e w8 hres
 rcases hres with⟨F2,N2,out,m',rfl,hgo,Oo,hro,hm7,hw8⟩|⟨er,m',rfl,hor,hm7,hw8⟩
 ·have zS:out.length=n:=by rw[hro.len];exact JC.out
  rw[zS]
  rw[HY.out.2.1]at hgo hw8
  have hN2:N2≤60:=by rw[hgo.bn];have:=Di (Ct 10 ((2:Nat):Int)) out.length;have:=HN.out;omega
  have HM7:Hid (m'≤0+N+KM):=hm7
  have pM:=Lib.hid hN2
  have hres:=trivial
  clear hro Oo hgo zS hm7 hN2
  obtain⟨w9,hw9⟩:∃w9,w9=w8.alloc (.cells #[F2,N2,.int .i64 2,n] 28):=⟨_,rfl⟩
  obtain⟨gb,hgb⟩:∃gb,gb=w8.heap.size:=⟨_,rfl⟩
  have h9:Wd Y ([Uz X (.slice A n c) l,Da F N 3 (Ct 10 ((3:Nat):Int)) l 10,Cs fb 28 [F,N,.int .i64 3,n]]++[Da F2 N2 2 (Ct 10 ((2:Nat):Int)) out 10,Cs gb 28 [F2,N2,.int .i64 2,n]]) m' w9:=by
   rw[hw9,hgb]
   have:=hw8.new ((Below.refl w8 w8).alloc (Nat.le_refl _) (.cells #[F2,N2,.int .i64 2,n] 28)) (heap_alloc_new _ _:Row _ _ 28 [F2,N2,.int .i64 2,n]) (Nat.le_refl _)
   exact this
  have HHE:Hid (Calls Tryz.prog 20 #[.pointer p.d,.int .i64 (-1)] w9 fun e w'=>e=.returned (.tuple #[])∧Wd Z ([Uz X (.slice A n c) l,Da F N 3 (Ct 10 ((3:Nat):Int)) l 10,Cs fb 28 [F,N,.int .i64 3,n]]++[Da F2 N2 2 (Ct 10 ((2:Nat):Int)) out 10,Cs gb 28 [F2,N2,.int .i64 2,n]]) m' w'):=by
   rw[←HY.out.1,hZ];exact AO2 h9
  have HDE:Hid (Calls Tryz.prog 19 #[.pointer p.w] w9 fun e w'=>e=.returned (.pointer p.d)∧w'=w9):=by
   rw[←HY.out.1];exact Nm h9
  have HW9:=Lib.hid hw9
  have HGB:=Lib.hid hgb
  clear hres hw8 h9 hw9 hgb HRK hZ
  go_upto_region 8 with(fail)
  rw[←HW9.out,←HGB.out]
  clear HW9 HGB
  go_wp2_with fail
  refine HDE.out.mono ?_
  rintro e Lf ⟨rfl,rfl⟩
  go_wp2_with fail
  refine HHE.out.mono ?_
  rintro e w11 ⟨rfl,Xt⟩
  have wz:Row w11 fb 28 [F,N,.int .i64 3,n]:=Xt.row (i:=2) rfl
  have c0:w11.cell? ⟨fb,0,none⟩=some (.int .i64 F):=wz.cell 0
  have c1:w11.cell? ⟨fb,1,none⟩=some (.int .i64 N):=wz.cell 1
  have c2:w11.cell? ⟨fb,2,none⟩=some (.int .i64 3):=wz.cell 2
  have c3:w11.cell? ⟨fb,3,none⟩=some (.int .i64 n):=wz.cell 3
  have HLI:Hid (Calls Tryz.prog 16 #[.pointer p.w,.agg #[F,N,.int .i64 3,n]] w11 fun e w'=>∃v,e=.returned (.tuple #[v,()])∧Wd Z (([Uz X (.slice A n c) l,Da F N 3 (Ct 10 ((3:Nat):Int)) l 10,Cs fb 28 [F,N,.int .i64 3,n]]++[Da F2 N2 2 (Ct 10 ((2:Nat):Int)) out 10,Cs gb 28 [F2,N2,.int .i64 2,n]])++[Uz Z v l]) (m'+N) w'):=by
   have h9:=AO1 (X:=Z) (first:=F) (nb:=N) (k:=3) (hh:=Ct 10 ((3:Nat):Int)) (l:=l) (i:=1) Xt (by rw[HZ.out.2.1];rfl) (by rw[HZ.out.2.1];exact qY.out) HZ.out.2.2.2.2.1 (by rw[HZ.out.2.1,HZ.out.2.2.1];show 10≤90-0;omega) (by rw[HZ.out.2.2.2.2.2];have:=HM7.out;have:=HNB.out;unfold KM at*;omega) JC.out
   rw[HZ.out.1]at h9
   exact h9
  clear wz Xt HDE HHE
  go_upto_region 9 with(fail)
  go_wp2_with fail
  refine HLI.out.mono ?_
  rintro e It ⟨v,rfl,hw12⟩
  obtain⟨B9,e9,rfl,hrb,Lt⟩:=hw12.AX4 (i:=5) rfl HTO.out
  obtain⟨A9,c9,he9,m6,aG⟩:=(HTZ.out▸hw12:Wd Z ([Uz Z (.slice A n c) l,Da F N 3 (Ct 10 ((3:Nat):Int)) l 10,Cs fb 28 [F,N,.int .i64 3,n]]++[Da F2 N2 2 (Ct 10 ((2:Nat):Int)) out 10,Cs gb 28 [F2,N2,.int .i64 2,n]]++[Uz Z (.slice B9 l.length e9) l]) (m'+N) It).AX4 (i:=0) rfl HTO.out
  rw[JC.out]at he9 hrb m6 hw12⊢
  injection he9 with e1 e2 e3
  subst e1
  clear e2 e3
  have hsame:=AD6 B9 A n n e9 c _ _ It hrb m6 (by have:=HN.out;unfold maxLen;omega) (by have:=HN.out;unfold maxLen;omega)
  rw[decide_eq_true rfl]at hsame
  have HSM:Hid (Calls Tryz.prog 17 #[.slice B9 n e9,.slice A n c] It fun e w'=>e=.returned true∧∃q,w'=It.drewN q):=hsame
  have H12:=Lib.hid hw12
  have PS:Row It gb 28 [F2,N2,.int .i64 2,n]:=hw12.row (i:=4) rfl
  have d0:It.cell? ⟨gb,0,none⟩=some (.int .i64 F2):=PS.cell 0
  have d1:It.cell? ⟨gb,1,none⟩=some (.int .i64 N2):=PS.cell 1
  have d2:It.cell? ⟨gb,2,none⟩=some (.int .i64 2):=PS.cell 2
  have d3:It.cell? ⟨gb,3,none⟩=some (.int .i64 n):=PS.cell 3
  have hq:=fun W=>neq_file W 0 0 0 0
  have hg:=fun W op x y xs ys=>guard_file W op x y xs ys
  have Yn:Hid (∀q,(∃q2,It.drewN q2=q)→(q.cell? gb=some (.int .i64 F2)∧q.cell? (gb,1)=some (.int .i64 N2)∧q.cell? (gb,2)=some (.int .i64 2)∧q.cell? (gb,3)=some (.int .i64 n))):=fun q ⟨q2,h⟩=>by
   have hr:Row q gb 28 [F2,N2,.int .i64 2,n]:=by rw[←h];exact(H12.out.drewN q2).row (i:=4) rfl
   exact⟨hr.cell 0,hr.cell 1,hr.cell 2,hr.cell 3⟩
  clear hw12 hrb Lt m6 aG hsame PS HLI c0 c1 c2 c3
  go_upto_region 10 with(fail)
  go_wp2_with fail
  refine HSM.out.mono ?_
  rintro e jN ⟨rfl,q,hq13⟩
  obtain⟨d0,d1,d2,d3⟩:=Yn.out jN ⟨q,hq13.symm⟩
  have Pt:=H12.out.drewN q
  rw[←hq13]at Pt
  have H13:=Lib.hid Pt
  have wz:Row jN fb 28 [F,N,.int .i64 3,n]:=H13.out.row (i:=2) rfl
  have c0:jN.cell? ⟨fb,0,none⟩=some (.int .i64 F):=wz.cell 0
  have c1:jN.cell? ⟨fb,1,none⟩=some (.int .i64 N):=wz.cell 1
  have c2:jN.cell? ⟨fb,2,none⟩=some (.int .i64 3):=wz.cell 2
  have c3:jN.cell? ⟨fb,3,none⟩=some (.int .i64 n):=wz.cell 3
  have hx:=(Below.refl jN jN).alloc (Nat.le_refl _) (.cells #[F,N,.int .i64 3,n,F2,N2,.int .i64 2,n] 28)
  have hrow:Row (jN.alloc (.cells #[F,N,.int .i64 3,n,F2,N2,.int .i64 2,n] 28)) jN 28 [F,N,.int .i64 3,n,F2,N2,.int .i64 2,n]:=heap_alloc_new _ _
  have GJ:Hid (Calls Tryz.prog 15 #[.pointer p.w,.slice jN 2 2] (jN.alloc (.cells #[F,N,.int .i64 3,n,F2,N2,.int .i64 2,n] 28)) fun e w'=>e=.returned true∧Below w w w'):=by
   have h8:=xZ (n:=2) (c:=2) (rb:=jN) (bs:=fun i=>if i=0 then N else N2) (H13.out.below hx) HZ.out.2.2.2.1 rfl (by show 0+(N+(0+(N2+(0+(0+0)))))=0+N+N2;omega) (by omega) (fun i hi=>by
    rcases(show i=0∨i=1 by omega)with rfl|rfl
    ·exact⟨by have:=HNB.out;simp;omega,hrow.cell 1⟩
    ·exact⟨by have:=pM.out;simp;try omega,hrow.cell 5⟩) (fun _=>hrow.lt)
   rw[HZ.out.1]at h8
   exact h8.mono fun e w' ⟨he,hw⟩=>⟨he,QE.out _ _ _ hw⟩
  clear Pt hq13 Yn HSM H12 H13 hx hrow wz
  go_wp2_with fail
  refine GJ.out.mono ?_
  rintro e w14 ⟨rfl,hb14⟩
  have HBE:=Lib.hid hb14
  clear hb14
  go_wp2
  go_ret
  exact⟨rfl,HBE.out⟩
 ·obtain rfl:er=6:=by
   rcases hor with⟨_,h⟩|⟨h,_⟩|⟨_,h⟩
   ·exact absurd HRKD.out h
   ·exact h
   ·obtain⟨z,hz⟩:=HRM.out
    exact absurd hz (h z)
  have HM7:Hid (m'≤0+N+KM):=hm7
  have hres:=trivial
  clear hor hm7
  obtain⟨w9,hw9⟩:∃w9,w9=w8.alloc (.cells #[(),(),(),()] 28):=⟨_,rfl⟩
  obtain⟨gb,hgb⟩:∃gb,gb=w8.heap.size:=⟨_,rfl⟩
  have h9:Wd Y ([Uz X (.slice A n c) l,Da F N 3 (Ct 10 ((3:Nat):Int)) l 10,Cs fb 28 [F,N,.int .i64 3,n]]++[Cs gb 28 [(),(),(),()]]) m' w9:=by
   rw[hw9,hgb]
   have:=hw8.new ((Below.refl w8 w8).alloc (Nat.le_refl _) (.cells #[(),(),(),()] 28)) (heap_alloc_new _ _:Row _ _ 28 [(),(),(),()]) (Nat.le_refl _)
   exact this
  have HHE:Hid (Calls Tryz.prog 20 #[.pointer p.d,.int .i64 (-1)] w9 fun e w'=>e=.returned (.tuple #[])∧Wd Z ([Uz X (.slice A n c) l,Da F N 3 (Ct 10 ((3:Nat):Int)) l 10,Cs fb 28 [F,N,.int .i64 3,n]]++[Cs gb 28 [(),(),(),()]]) m' w'):=by
   rw[←HY.out.1,hZ];exact AO2 h9
  have HDE:Hid (Calls Tryz.prog 19 #[.pointer p.w] w9 fun e w'=>e=.returned (.pointer p.d)∧w'=w9):=by
   rw[←HY.out.1];exact Nm h9
  have HW9:=Lib.hid hw9
  have HGB:=Lib.hid hgb
  clear hres hw8 h9 hw9 hgb HRK hZ
  go_upto_region 8 with(fail)
  rw[←HW9.out,←HGB.out]
  clear HW9 HGB
  go_wp2_with fail
  refine HDE.out.mono ?_
  rintro e Lf ⟨rfl,rfl⟩
  go_wp2_with fail
  refine HHE.out.mono ?_
  rintro e w11 ⟨rfl,Xt⟩
  have wz:Row w11 fb 28 [F,N,.int .i64 3,n]:=Xt.row (i:=2) rfl
  have c0:w11.cell? ⟨fb,0,none⟩=some (.int .i64 F):=wz.cell 0
  have c1:w11.cell? ⟨fb,1,none⟩=some (.int .i64 N):=wz.cell 1
  have c2:w11.cell? ⟨fb,2,none⟩=some (.int .i64 3):=wz.cell 2
  have c3:w11.cell? ⟨fb,3,none⟩=some (.int .i64 n):=wz.cell 3
  have HLI:Hid (Calls Tryz.prog 16 #[.pointer p.w,.agg #[F,N,.int .i64 3,n]] w11 fun e w'=>∃v,e=.returned (.tuple #[v,()])∧Wd Z (([Uz X (.slice A n c) l,Da F N 3 (Ct 10 ((3:Nat):Int)) l 10,Cs fb 28 [F,N,.int .i64 3,n]]++[Cs gb 28 [(),(),(),()]])++[Uz Z v l]) (m'+N) w'):=by
   have h9:=AO1 (X:=Z) (first:=F) (nb:=N) (k:=3) (hh:=Ct 10 ((3:Nat):Int)) (l:=l) (i:=1) Xt (by rw[HZ.out.2.1];rfl) (by rw[HZ.out.2.1];exact qY.out) HZ.out.2.2.2.2.1 (by rw[HZ.out.2.1,HZ.out.2.2.1];show 10≤90-0;omega) (by rw[HZ.out.2.2.2.2.2];have:=HM7.out;have:=HNB.out;unfold KM at*;omega) JC.out
   rw[HZ.out.1]at h9
   exact h9
  clear wz Xt HDE HHE
  go_upto_region 9 with(fail)
  go_wp2_with fail
  refine HLI.out.mono ?_
  rintro e It ⟨v,rfl,hw12⟩
  obtain⟨B9,e9,rfl,hrb,Lt⟩:=hw12.AX4 (i:=4) rfl HTO.out
  obtain⟨A9,c9,he9,m6,aG⟩:=(HTZ.out▸hw12:Wd Z ([Uz Z (.slice A n c) l,Da F N 3 (Ct 10 ((3:Nat):Int)) l 10,Cs fb 28 [F,N,.int .i64 3,n]]++[Cs gb 28 [(),(),(),()]]++[Uz Z (.slice B9 l.length e9) l]) (m'+N) It).AX4 (i:=0) rfl HTO.out
  rw[JC.out]at he9 hrb m6 hw12⊢
  injection he9 with e1 e2 e3
  subst e1
  clear e2 e3
  have hsame:=AD6 B9 A n n e9 c _ _ It hrb m6 (by have:=HN.out;unfold maxLen;omega) (by have:=HN.out;unfold maxLen;omega)
  rw[decide_eq_true rfl]at hsame
  have HSM:Hid (Calls Tryz.prog 17 #[.slice B9 n e9,.slice A n c] It fun e w'=>e=.returned true∧∃q,w'=It.drewN q):=hsame
  have H12:=Lib.hid hw12
  have PS:Row It gb 28 [(),(),(),()]:=hw12.row (i:=3) rfl
  have d0:It.cell? ⟨gb,0,none⟩=some (.int .i64 0):=PS.cell 0
  have d1:It.cell? ⟨gb,1,none⟩=some (.int .i64 0):=PS.cell 1
  have d2:It.cell? ⟨gb,2,none⟩=some (.int .i64 0):=PS.cell 2
  have d3:It.cell? ⟨gb,3,none⟩=some (.int .i64 0):=PS.cell 3
  have hq:=fun W=>neq_file W 0 0 0 0
  have hg:=fun W op x y xs ys=>guard_file W op x y xs ys
  have Yn:Hid (∀q,(∃q2,It.drewN q2=q)→(q.cell? gb=some (.int .i64 0)∧q.cell? (gb,1)=some (.int .i64 0)∧q.cell? (gb,2)=some (.int .i64 0)∧q.cell? (gb,3)=some (.int .i64 0))):=fun q ⟨q2,h⟩=>by
   have hr:Row q gb 28 [(),(),(),()]:=by rw[←h];exact(H12.out.drewN q2).row (i:=3) rfl
   exact⟨hr.cell 0,hr.cell 1,hr.cell 2,hr.cell 3⟩
  clear hw12 hrb Lt m6 aG hsame PS HLI c0 c1 c2 c3
  go_upto_region 10 with(fail)
  go_wp2_with fail
  refine HSM.out.mono ?_
  rintro e jN ⟨rfl,q,hq13⟩
  obtain⟨d0,d1,d2,d3⟩:=Yn.out jN ⟨q,hq13.symm⟩
  have Pt:=H12.out.drewN q
  rw[←hq13]at Pt
  have H13:=Lib.hid Pt
  have wz:Row jN fb 28 [F,N,.int .i64 3,n]:=H13.out.row (i:=2) rfl
  have c0:jN.cell? ⟨fb,0,none⟩=some (.int .i64 F):=wz.cell 0
  have c1:jN.cell? ⟨fb,1,none⟩=some (.int .i64 N):=wz.cell 1
  have c2:jN.cell? ⟨fb,2,none⟩=some (.int .i64 3):=wz.cell 2
  have c3:jN.cell? ⟨fb,3,none⟩=some (.int .i64 n):=wz.cell 3
  have hx:=(Below.refl jN jN).alloc (Nat.le_refl _) (.cells #[F,N,.int .i64 3,n,(),(),(),()] 28)
  have hrow:Row (jN.alloc (.cells #[F,N,.int .i64 3,n,(),(),(),()] 28)) jN 28 [F,N,.int .i64 3,n,(),(),(),()]:=heap_alloc_new _ _
  have GJ:Hid (Calls Tryz.prog 15 #[.pointer p.w,.slice jN 2 2] (jN.alloc (.cells #[F,N,.int .i64 3,n,(),(),(),()] 28)) fun e w'=>e=.returned true∧Below w w w'):=by
   have h8:=xZ (n:=2) (c:=2) (rb:=jN) (bs:=fun i=>if i=0 then N else 0) (H13.out.below hx) HZ.out.2.2.2.1 rfl (by show 0+(N+(0+(0+(0+0))))=0+N+0;omega) (by omega) (fun i hi=>by
    rcases(show i=0∨i=1 by omega)with rfl|rfl
    ·exact⟨by have:=HNB.out;simp;omega,hrow.cell 1⟩
    ·exact⟨by simp;try omega,hrow.cell 5⟩) (fun _=>hrow.lt)
   rw[HZ.out.1]at h8
   exact h8.mono fun e w' ⟨he,hw⟩=>⟨he,QE.out _ _ _ hw⟩
  clear Pt hq13 Yn HSM H12 H13 hx hrow wz
  go_wp2_with fail
  refine GJ.out.mono ?_
  rintro e w14 ⟨rfl,hb14⟩
  have HBE:=Lib.hid hb14
  clear hb14
  go_wp2
  go_ret
  exact⟨rfl,HBE.out⟩
set_option maxRecDepth 100000 in
theorem lifted(os:Os)(started:os.Started)(H:Type)(enc:TypeId×Value→H):
  ReturnsInHanded {} Tryz.checked os 6 .any (Rows.rankFaultsSpec.pre6 enc Tryz.prog Tryz.f6 Rows.rankFaultsRow.domain false) (Rows.rankFaultsSpec.post enc Tryz.prog Tryz.f6 false true false false):=by
 refine returnsInHanded_of_change (C:=Tryz.checked) own started (by kernel_rfl) Tryz.func6
  (ChangeSpec.witness6 (enc:=enc) (C:=Tryz.checked) false ⟨#[],#[.int .u8 0,.int .u16 0,.int .u16 0],[]⟩ 8 (by kernel_rfl) (by kernel_rfl) (by kernel_rfl) (by kernel_rfl)) ?_
 intro W base args ds gs before hval0 hW hcnd _
 have hval:∀(j:Nat) t v,Tryz.f6.params[j]?=some t→args[j]?=some v→Value.okWide Tryz.prog W .any base t v:=hval0
 have hW':=hW
 obtain⟨p,q,uK,hV,rfl,hfz,wW⟩:=hW
 have hA:DataW.TrodAll enc Tryz.prog W 0 (fun _=>true) true Tryz.f6.params.toList args.toList ds p:=uK
 rw[Tryz.params6]at hA hval
 obtain⟨v0,vs0,d0,ds0,p0,q0,hargs,rfl,rfl,h0,r0⟩:=trodAll_cons hA
 obtain⟨v1,vs1,d1,ds1,p1,q1,rfl,rfl,rfl,h1,r1⟩:=trodAll_cons r0
 obtain⟨v2,vs2,d2,ds2,p2,q2,rfl,rfl,rfl,h2,r2⟩:=trodAll_cons r1
 obtain⟨rfl,rfl,rfl⟩:=trodAll_nil r2
 obtain rfl:args=#[v0,v1,v2]:=by cases args;simp_all
 obtain⟨rfl,rfl⟩:=trodVars_none hV
 have k0:=h0
 have lt0:∀x∈p0,x.block<W:=by obtain⟨m,hm⟩:=k0;exact DataW.trod_lt m _ _ _ hm
 have k1:=h1
 have lt1:∀x∈p1,x.block<W:=by obtain⟨m,hm⟩:=k1;exact DataW.trod_lt m _ _ _ hm
 have k2:=h2
 have lt2:∀x∈p2,x.block<W:=by obtain⟨m,hm⟩:=k2;exact DataW.trod_lt m _ _ _ hm
 obtain⟨a0,rfl,rfl,rfl,w0⟩:=open_int Tryz.underlying5 (hval 0 5 v0 rfl rfl) h0
 obtain⟨a1,rfl,rfl,rfl,w1⟩:=open_int Tryz.underlying42 (hval 1 42 v1 rfl rfl) h1
 obtain⟨a2,rfl,rfl,rfl,w2⟩:=open_int Tryz.underlying42 (hval 2 42 v2 rfl rfl) h2
 clear uK hval0
 refine(walk a0 a1 a2 W w0 w1 w2).mono fun e W' ⟨he,Tw⟩=>?_
 subst he
 exact⟨_,rfl,_,_,_,[],_,[],hW',trodAll_mk1 (shut_bool Tryz.underlying4 _),(trodAll_cons_mk (Below.trod laidOut (by kernel_rfl) (of_decide_eq_true (by kernel_rfl)) k0 Tw lt0) (trodAll_cons_mk (Below.trod laidOut (by kernel_rfl) (of_decide_eq_true (by kernel_rfl)) k1 Tw lt1) (trodAll_cons_mk (Below.trod laidOut (by kernel_rfl) (of_decide_eq_true (by kernel_rfl)) k2 Tw lt2) trodAll_mk0))),rfl,Tw.frame _,fun h=>by cases h⟩
theorem over:Rows.rankFaultsRow.holds Tryz.pinned (OpenSpec.ofChange Rows.rankFaultsSpec):=
 OpenClaim.holds_of_wide 6 Tryz.f6 rfl rfl rfl rfl rfl rfl rfl ⟨rfl,rfl,rfl,rfl,rfl⟩ rfl rfl rfl rfl rfl (by kernel_rfl) Tryz.func6 (by kernel_rfl)
  (of_decide_eq_true (by kernel_rfl)) (by unfold Func.isWrapper;first|(rw[if_pos (by decide+kernel)];kernel_rfl)|(rw[if_neg (by decide+kernel)];exact⟨rfl,rfl⟩))
  (fun os started H enc _=>lifted os started H enc)
theorem proved:Rows.RankFaultsSaid:=over
end Go.Proofs.YthfnbpjegjbbiaaGreat.rankFaults
