/-
  RankRoom: whatever room and width; no condition.
-/
import Derived.Test.YthfnbpjegjbbiaaGreatPF
import Derived.Test.YthfnbpjegjbbiaaGreatRows
import Derived.WalkKit
import Derived.ProofKit
import Derived.OpenShut
import Derived.ShutString
import Derived.ChangeOld
import Derived.Below
namespace Go.Proofs.YthfnbpjegjbbiaaGreat.rankRoom
open Go.ChangeShapes Go.WideShapes Go.ChangeAt Go.RowKit
open Go.ChangeMaps (open_string shut_string)
set_option linter.unusedVariables false
set_option linter.unusedSimpArgs false

theorem own:ownKnob Tryz.prog.godebug=none:=by kernel_rfl
theorem laidOut:laidOutB Tryz.prog=true:=by kernel_rfl
set_option maxHeartbeats 4000000 in
set_option maxRecDepth 100000 in
theorem walk(a0:Int)(a1:Int)(w:World)(w0:(Lit.int .u8 a0).wf=true)(w1:(Lit.int .u8 a1).wf=true):
  Calls Tryz.prog 7 #[.int .u8 a0,.int .u8 a1] w fun e w'=>e=.returned true∧Below w w w':=by
 obtain⟨v0,rfl⟩:=Int.eq_ofNat_of_zero_le (show 0≤a0 by have:=bounds_u8 w0;omega)
 obtain⟨v1,rfl⟩:=Int.eq_ofNat_of_zero_le (show 0≤a1 by have:=bounds_u8 w1;omega)
 obtain⟨r,hr⟩:∃r,r=v0%12:=⟨_,rfl⟩
 obtain⟨q,hq⟩:∃q,q=v1%5:=⟨_,rfl⟩
 obtain⟨k,hk⟩:∃k,k=1+q:=⟨_,rfl⟩
 have ht:Int.tmod (v0:Int) 12=(r:Int):=by rw[hr];rfl
 have Vc:Int.tmod (v1:Int) 5=(q:Int):=by rw[hq];rfl
 have hr12:r<12:=by rw[hr];exact Nat.mod_lt _ (by omega)
 have hq5:q<5:=by rw[hq];exact Nat.mod_lt _ (by omega)
 have Ku:(1:Int)+(q:Int)=(k:Int):=by omega
 have HK:Hid (1≤k∧k≤5):=⟨by omega,by omega⟩
 have QM:IntKind.i64.wrap (r:Int)=(r:Int):=IntWalk.i64_in _ (by omega)
 have hwq:IntKind.i64.wrap (q:Int)=(q:Int):=IntWalk.i64_in _ (by omega)
 have hwk:wrap64 (k:Int)=(k:Int):=IntWalk.wrap64_in _ ⟨by clear QM hwq;omega,by clear QM hwq;omega⟩
 have HAW:=Lib.hid (xe w)
 have HWK:Hid (∀W,Calls Tryz.prog 9 #[r] W fun e w'=>∃p G,e=.returned (.pointer p.w)∧Sys w' G p (plF 10 (10*r) 6000) 0∧(∀k,G k→W≤k)∧Below W W w'):=fun W=>Yz r (by omega) W
 clear hr hq hk w0 w1
 go_enter Tryz.func7,Tryz.ntmps7
 go_wp2_with fail
 refine HAW.out.mono ?_
 rintro e w1 ⟨rfl,DV⟩
 have OM:=Lib.hid DV
 clear DV HAW
 go_wp2_with fail
 refine(HWK.out _).mono ?_
 rintro e w2 ⟨p,G,rfl,hs,hG,DN⟩
 obtain⟨X,hX⟩:∃X,X=cxL w1 p (10*r) 10 6000 True 0:=⟨_,rfl⟩
 have h2:Wd X [] 0 w2:=by rw[hX];exact oO hs hG DN (by omega) (by omega)
 have HX:Hid (X.p=p∧X.sz=10∧X.rm=10*r∧X.S0=Hi 0 6000∧X.cm∧X.N=0∧X.w0=w1):=by rw[hX];exact⟨rfl,rfl,rfl,rfl,trivial,rfl,rfl⟩
 have QE:Hid (∀os m u,Wd X os m u→Below w w u):=fun os m u h=>by
  have:=h.Tw
  rw[HX.out.2.2.2.2.2.2]at this
  exact OM.out.trans (this.mono OM.out.size)
 have h3:Wd X [Da 0 0 3 (Ct X.sz ((3:Nat):Int)) [] X.sz] 0 w2:=h2.grow.jq (i:=0) (a:=Dt) rfl aV (fun _=>trivial) (fun _ h=>h) rfl rfl fun D _ _ j hj=>absurd hj (Nat.not_lt_zero j)
 obtain⟨w3,UJ⟩:∃w3,w3=w2.alloc (.cells #[(),(),k,()] 28):=⟨_,rfl⟩
 obtain⟨fb,LI⟩:∃fb,fb=w2.heap.size:=⟨_,rfl⟩
 have h4:Wd X [Da 0 0 3 (Ct X.sz ((3:Nat):Int)) [] X.sz,Cs fb 28 [(),(),k,()]] 0 w3:=by
  rw[UJ,LI]
  exact h3.new ((Below.refl _ _).alloc (Nat.le_refl _) _) (heap_alloc_new _ _:Row _ _ 28 [(),(),k,()]) (Nat.le_refl _)
 have HCF:Hid (∀os m u,Wd X (Da 0 0 3 (Ct X.sz ((3:Nat):Int)) [] X.sz::Cs fb 28 [(),(),k,()]::os) m u→u.cell? fb=some (.int .i64 0)∧u.cell? (fb,1)=some (.int .i64 0)∧u.cell? (fb,2)=some (.int .i64 k)∧u.cell? (fb,3)=some (.int .i64 0)):=fun os m u h=>by
  have q:Row u fb 28 [(),(),k,()]:=h.row (i:=1) rfl
  exact⟨q.cell 0,q.cell 1,q.cell 2,q.cell 3⟩
 have HRE:Hid (Calls Tryz.prog 13 #[.pointer p.w,.agg #[(),(),k,()]] w3 fun e w'=>∃(er m':Nat) (x0 x1 x2 x3:Int) (os:List DA),e=.returned (.tuple #[.agg #[x0,x1,x2,x3],er])∧er=(if k=3 then (if r<8 then 7 else 0)else 1)∧DC DA.gw os=0∧Wd X (Da 0 0 3 (Ct X.sz ((3:Nat):Int)) [] X.sz::Cs fb 28 [(),(),k,()]::os) m' w'):=by
  by_cases hk3:k=3
  ·rw[hk3]at h4⊢
   by_cases Qt:r<8
   ·have h9:=p6 (F:=0) (N:=0) (c:=0) h4 (Du _).symm (by omega) (by rw[HX.out.2.1,HX.out.2.2.1];show 10*r-0<8*10;omega)
    rw[HX.out.1]at h9
    refine h9.mono ?_
    rintro e w' ⟨he,hb⟩
    exact⟨7,0,0,0,0,0,[],he,by rw[if_pos rfl,if_pos Qt],rfl,h4.below hb⟩
   ·have NH:GY 0 0 3 (Ct X.sz ((3:Nat):Int)) [] X.sz:=⟨by omega,(cK (by omega) (by rw[HX.out.2.1];omega)),rfl,(Du _).symm,by simp,by omega,fun u hu=>(by cases hu)⟩
    have h9:=jw (c:=0) h4 NH List.mem_cons_self rfl (by omega) (by rw[HX.out.2.1,HX.out.2.2.1];show 8*10+0≤10*r;omega) (by rw[HX.out.2.2.1];omega) (by rw[HX.out.2.2.2.2.2.1];unfold KM;omega)
    rw[HX.out.1]at h9
    refine h9.mono ?_
    rintro e w' hr
    obtain⟨F2,N2,out,m',he,_,_,_,_,hw⟩:=sK hr ⟨⟨fun t ht=>(by cases ht),fun t ht=>(by cases ht),fun i j t u h=>by simp at h,fun t ht=>(by cases ht),fun i j t u h=>by simp at h⟩,fun t ht=>(by cases ht)⟩ HX.out.2.2.2.2.1 (AF1 HX.out.2.2.2.1 [] (q:=0) (fun e he=>(by cases he)) (fun a ha=>.inl (by
     simp at ha
     rcases ha with rfl|rfl<;>rfl)) (by simp[MD]))
    exact⟨0,m',F2,N2,2,_,[Da F2 N2 2 (Ct X.sz ((2:Nat):Int)) out X.sz],he,by rw[if_pos rfl,if_neg Qt],rfl,hw⟩
  ·have h9:=qo h4 0 0 k 0 (by omega) (.inl (by omega))
   rw[HX.out.1]at h9
   refine h9.mono ?_
   rintro e w' ⟨he,hb⟩
   exact⟨1,0,0,0,0,0,[],he,by rw[if_neg hk3],rfl,h4.below hb⟩
 have yB:Hid (∀u,Calls Tryz.prog 13 #[.pointer none,.agg #[(),(),k,()]] u fun e w'=>e=.returned (.tuple #[.agg #[(),(),(),()],.int .i64 1])∧Below u u w'):=fun u=>AD7 0 0 k 0 u
 have H4:=Lib.hid h4
 have Jy:=Lib.hid UJ
 have HFB:=Lib.hid LI
 clear hs hG DN HWK hX h2 h3 h4 UJ LI hq5
 go_upto_region 6 with(fail)
 rw[←Jy.out,←HFB.out]
 clear Jy HFB Vc Ku hwq
 obtain⟨c0,c1,c2,c3⟩:=HCF.out [] _ _ H4.out
 go_wp2_with fail
 refine HRE.out.mono ?_
 rintro e w5 ⟨er,m',x0,x1,x2,x3,os,rfl,gX,GZ,Hy⟩
 obtain⟨w6,gE⟩:∃w6,w6=w5.alloc (.cells #[x0,x1,x2,x3] 28):=⟨_,rfl⟩
 have h6:Wd X (Da 0 0 3 (Ct X.sz ((3:Nat):Int)) [] X.sz::Cs fb 28 [(),(),k,()]::os) m' w6:=by rw[gE];exact Hy.below ((Below.refl _ _).alloc (Nat.le_refl _) _)
 have HER:=Lib.hid gX
 have HGW:=Lib.hid GZ
 have H6:=Lib.hid h6
 have HW6:=Lib.hid gE
 clear gX GZ Hy gE h6 c0 c1 c2 c3 HRE H4
 go_upto_region 7 with(fail)
 rw[←HW6.out]
 clear HW6
 obtain⟨c0,c1,c2,c3⟩:=HCF.out _ _ _ H6.out
 go_wp2_with fail
 refine(yB.out _).mono ?_
 rintro e w7 ⟨rfl,aJ⟩
 have h8:Wd X (Da 0 0 3 (Ct X.sz ((3:Nat):Int)) [] X.sz::Cs fb 28 [(),(),k,()]::os) m' (w7.alloc (.cells #[(),(),(),()] 28)):=(H6.out.below aJ).below ((Below.refl _ _).alloc (Nat.le_refl _) _)
 have h9:=h8.store (i:=1) rfl (by decide) 3 (.int .i64 5)
 have OJ:=h9.store (i:=1) rfl (by decide) 1 (.int .i64 1)
 have OJ:Wd X (Da 0 0 3 (Ct X.sz ((3:Nat):Int)) [] X.sz::Cs fb 28 [(),.int .i64 1,k,.int .i64 5]::os) m' (((w7.alloc (.cells #[(),(),(),()] 28)).setCell (fb,3) (.int .i64 5)).setCell (fb,1) (.int .i64 1)):=OJ
 have hrw:Row (w7.alloc (.cells #[(),(),(),()] 28)) fb 28 [(),(),k,()]:=h8.row (i:=1) rfl
 have H10:=Lib.hid OJ
 have JZ:=Lib.hid hrw
 clear aJ h8 h9 OJ hrw H6 yB c0 c1 c2 c3
 have c3:(w7.alloc (.cells #[(),(),(),()] 28)).cell? (fb,3)=some (.int .i64 0):=JZ.out.cell 3
 have c1:(w7.alloc (.cells #[(),(),(),()] 28)).cell? (fb,1)=some (.int .i64 0):=JZ.out.cell 1
 have f3:=JZ.out.free 3
 have f1:=JZ.out.free 1
 go_upto_region 10 with(fail)
 generalize((w7.alloc (.cells #[(),(),(),()] 28)).setCell (fb,3) (.int .i64 5)).setCell (fb,1) (.int .i64 1)=w8 at*
 clear c3 c1 f3 f1 JZ
 have HA3:Hid (Calls Tryz.prog 13 #[.pointer p.w,.agg #[(),.int .i64 1,.int .i64 3,.int .i64 50]] w8 fun e w'=>e=.returned (.tuple #[.agg #[(),(),(),()],.int .i64 1])∧Below w8 w8 w'):=by
  have h9:=qo H10.out 0 1 3 50 (by omega) (.inr (.inr ⟨by rw[HX.out.2.1];decide,by rw[HX.out.2.1];decide⟩))
  rw[HX.out.1]at h9
  exact h9
 go_wp2_with fail
 refine HA3.out.mono ?_
 rintro e w11 ⟨rfl,hb11⟩
 have JW:Wd X (Da 0 0 3 (Ct X.sz ((3:Nat):Int)) [] X.sz::Cs fb 28 [(),.int .i64 1,k,.int .i64 5]::os) m' (w11.alloc (.cells #[(),(),(),()] 28)):=(H10.out.below hb11).below ((Below.refl _ _).alloc (Nat.le_refl _) _)
 have m6:=L6 JW
 have hru:=qj JW
 rw[HX.out.1]at m6 hru
 have hg0:DC DA.gw (Da 0 0 3 (Ct X.sz ((3:Nat):Int)) [] X.sz::Cs fb 28 [(),.int .i64 1,k,.int .i64 5]::os)=0:=by rw[EI,EI,HGW.out];rfl
 rw[hg0]at hru
 have pI:=Lib.hid m6
 have HRU:Hid (Calls Tryz.prog 22 #[.pointer X.p.a] (w11.alloc (.cells #[(),(),(),()] 28)) fun e w'=>e=.returned ()∧w'=w11.alloc (.cells #[(),(),(),()] 28)):=by rw[HX.out.1];exact hru
 have pI:Hid (Calls Tryz.prog 21 #[.pointer p.w] (w11.alloc (.cells #[(),(),(),()] 28)) fun e w'=>e=.returned (.pointer X.p.a)∧w'=w11.alloc (.cells #[(),(),(),()] 28)):=by rw[HX.out.1];exact m6
 have HBE:=Lib.hid (QE.out _ _ _ JW)
 clear hb11 JW m6 hru hg0 HA3 H10
 by_cases hk3:k=3
 ·by_cases Qt:r<8
  ·have he:er=7:=by have:=HER.out;rw[if_pos hk3,if_pos Qt]at this;exact this
   subst he
   have gk:(wrap64 (k:Int) !=3)=false:=by rw[hwk];simp[hk3]
   have gr:decide ((r:Int)<8)=true:=by simp;omega
   clear hk3
   go_wp2_with fail
   refine pI.out.mono ?_
   rintro e w14 ⟨rfl,rfl⟩
   go_wp2_with fail
   refine HRU.out.mono ?_
   rintro e w14 ⟨rfl,rfl⟩
   go_wp2
   go_ret
   exact⟨rfl,HBE.out⟩
  ·have he:er=0:=by have:=HER.out;rw[if_pos hk3,if_neg Qt]at this;exact this
   subst he
   have gk:(wrap64 (k:Int) !=3)=false:=by rw[hwk];simp[hk3]
   have gr:decide ((r:Int)<8)=false:=by simp;omega
   clear hk3
   go_wp2_with fail
   refine pI.out.mono ?_
   rintro e w14 ⟨rfl,rfl⟩
   go_wp2_with fail
   refine HRU.out.mono ?_
   rintro e w14 ⟨rfl,rfl⟩
   go_wp2
   go_ret
   exact⟨rfl,HBE.out⟩
 ·have he:er=1:=by have:=HER.out;rw[if_neg hk3]at this;exact this
  subst he
  have gk:(wrap64 (k:Int) !=3)=true:=by rw[hwk];simp;omega
  clear hk3
  go_wp2_with fail
  refine pI.out.mono ?_
  rintro e w14 ⟨rfl,rfl⟩
  go_wp2_with fail
  refine HRU.out.mono ?_
  rintro e w14 ⟨rfl,rfl⟩
  go_wp2
  go_ret
  exact⟨rfl,HBE.out⟩
set_option maxRecDepth 100000 in
theorem lifted(os:Os)(started:os.Started)(H:Type)(enc:TypeId×Value→H):
  ReturnsInHanded {} Tryz.checked os 7 .any (Rows.rankRoomSpec.pre6 enc Tryz.prog Tryz.f7 Rows.rankRoomRow.domain false) (Rows.rankRoomSpec.post enc Tryz.prog Tryz.f7 false true false false):=by
 refine returnsInHanded_of_change (C:=Tryz.checked) own started (by kernel_rfl) Tryz.func7
  (ChangeSpec.witness6 (enc:=enc) (C:=Tryz.checked) false ⟨#[],#[.int .u8 0,.int .u8 0],[]⟩ 8 (by kernel_rfl) (by kernel_rfl) (by kernel_rfl) (by kernel_rfl)) ?_
 intro W base args ds gs before hval0 hW hcnd _
 have hval:∀(j:Nat) t v,Tryz.f7.params[j]?=some t→args[j]?=some v→Value.okWide Tryz.prog W .any base t v:=hval0
 have hW':=hW
 obtain⟨p,q,uK,hV,rfl,hfz,wW⟩:=hW
 have hA:DataW.TrodAll enc Tryz.prog W 0 (fun _=>true) true Tryz.f7.params.toList args.toList ds p:=uK
 rw[Tryz.params7]at hA hval
 obtain⟨v0,vs0,d0,ds0,p0,q0,hargs,rfl,rfl,h0,r0⟩:=trodAll_cons hA
 obtain⟨v1,vs1,d1,ds1,p1,q1,rfl,rfl,rfl,h1,r1⟩:=trodAll_cons r0
 obtain⟨rfl,rfl,rfl⟩:=trodAll_nil r1
 obtain rfl:args=#[v0,v1]:=by cases args;simp_all
 obtain⟨rfl,rfl⟩:=trodVars_none hV
 have k0:=h0
 have lt0:∀x∈p0,x.block<W:=by obtain⟨m,hm⟩:=k0;exact DataW.trod_lt m _ _ _ hm
 have k1:=h1
 have lt1:∀x∈p1,x.block<W:=by obtain⟨m,hm⟩:=k1;exact DataW.trod_lt m _ _ _ hm
 obtain⟨a0,rfl,rfl,rfl,w0⟩:=open_int Tryz.underlying5 (hval 0 5 v0 rfl rfl) h0
 obtain⟨a1,rfl,rfl,rfl,w1⟩:=open_int Tryz.underlying5 (hval 1 5 v1 rfl rfl) h1
 clear uK hval0
 refine(walk a0 a1 W w0 w1).mono fun e W' ⟨he,Tw⟩=>?_
 subst he
 exact⟨_,rfl,_,_,_,[],_,[],hW',trodAll_mk1 (shut_bool Tryz.underlying4 _),(trodAll_cons_mk (Below.trod laidOut (by kernel_rfl) (of_decide_eq_true (by kernel_rfl)) k0 Tw lt0) (trodAll_cons_mk (Below.trod laidOut (by kernel_rfl) (of_decide_eq_true (by kernel_rfl)) k1 Tw lt1) trodAll_mk0)),rfl,Tw.frame _,fun h=>by cases h⟩
theorem over:Rows.rankRoomRow.holds Tryz.pinned (OpenSpec.ofChange Rows.rankRoomSpec):=
 OpenClaim.holds_of_wide 7 Tryz.f7 rfl rfl rfl rfl rfl rfl rfl ⟨rfl,rfl,rfl,rfl,rfl⟩ rfl rfl rfl rfl rfl (by kernel_rfl) Tryz.func7 (by kernel_rfl)
  (of_decide_eq_true (by kernel_rfl)) (by unfold Func.isWrapper;first|(rw[if_pos (by decide+kernel)];kernel_rfl)|(rw[if_neg (by decide+kernel)];exact⟨rfl,rfl⟩))
  (fun os started H enc _=>lifted os started H enc)
theorem proved:Rows.RankRoomSaid:=over
end Go.Proofs.YthfnbpjegjbbiaaGreat.rankRoom
